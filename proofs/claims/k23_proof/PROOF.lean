import PyProof.Rows.All
import Wide.All
import OpenK.AllK
import Wide.FinOn
import PyProof.EqAt
import PyProof.EqKinds
import PyProof.TupleCall
import Lean
import PySem.Challenge.RW_findhall_k23_pieces
set_option Elab.async false
set_option linter.all false
set_option maxRecDepth 100000
namespace L2
open PySem PySem.Spec PyProof.Rows
noncomputable abbrev Key := Sum Int Str
noncomputable def keyIs : Key → Value → Bool
  | .inl k, v => Value.isInt k v
  | .inr x, v => Value.isStrOf x v
noncomputable def keyH (w : World) : Key → Int
  | .inl k => hashInt k
  | .inr x => hashStr w x
theorem keyIs_shape : ∀ {k : Key} {v : Value}, keyIs k v = true → (∃ i t, k = Sum.inl i ∧ v = Value.int i t) ∨ (∃ x t, k = Sum.inr x ∧ v = Value.str x t)
  | .inl i, v, h => by
    obtain ⟨t, e⟩ := Value.isInt_shape (k := i) (v := v) h
    exact .inl ⟨i, t, rfl, e⟩
  | .inr x, v, h => by
    obtain ⟨t, e⟩ := Value.isStrOf_shape (x := x) (v := v) h
    exact .inr ⟨x, t, rfl, e⟩
theorem key_ll (a b : Int) : decide ((Sum.inl a : Key) = Sum.inl b) = (a == b) := by
  by_cases e : a = b
  · subst e; simp
  · have h : ¬ (Sum.inl a : Key) = Sum.inl b := fun q => e (Sum.inl.inj q)
    rw [decide_eq_false h]
    exact (beq_eq_false_iff_ne.mpr e).symm
theorem key_rr (a b : Str) : decide ((Sum.inr a : Key) = Sum.inr b) = decide (a = b) := by
  by_cases e : a = b
  · subst e; simp
  · have h : ¬ (Sum.inr a : Key) = Sum.inr b := fun q => e (Sum.inr.inj q)
    rw [decide_eq_false h, decide_eq_false e]
theorem key_lr (a : Int) (b : Str) : decide ((Sum.inl a : Key) = Sum.inr b) = false := decide_eq_false (fun q => nomatch q)
theorem key_rl (a : Str) (b : Int) : decide ((Sum.inr a : Key) = Sum.inl b) = false := decide_eq_false (fun q => nomatch q)
noncomputable def mixKind (prog : Program) (w : World) : PySem.KeyKind prog w Key where
  is := keyIs
  hash := keyH w
  inj := fun v a b ha hb => by
    rcases keyIs_shape ha with ⟨i, t, rfl, rfl⟩ | ⟨x, t, rfl, rfl⟩
    · rcases keyIs_shape hb with ⟨j, u, rfl, e⟩ | ⟨y, u, rfl, e⟩
      · injection e with e1 _; rw [e1]
      · exact nomatch e
    · rcases keyIs_shape hb with ⟨j, u, rfl, e⟩ | ⟨y, u, rfl, e⟩
      · exact nomatch e
      · injection e with e1 _; rw [e1]
  byValue := fun k v h => by
    rcases keyIs_shape h with ⟨i, t, rfl, rfl⟩ | ⟨x, t, rfl, rfl⟩ <;> rfl
  pyHash := fun hv h => by
    rcases keyIs_shape hv with ⟨i, t, rfl, rfl⟩ | ⟨x, t, rfl, rfl⟩
    · exact wpAny_pyHash_int h
    · exact wpAny_pyHash_str h
  eqBool := fun hu hv h => by
    rcases keyIs_shape hu with ⟨i, t, rfl, rfl⟩ | ⟨x, t, rfl, rfl⟩
    · rcases keyIs_shape hv with ⟨j, u, rfl, rfl⟩ | ⟨y, u, rfl, rfl⟩
      · rw [key_ll] at h; exact wpAny_eqBool_int h
      · rw [key_lr] at h; exact SeqAt.EqAt.int_str i t y u _ _ _ _ h
    · rcases keyIs_shape hv with ⟨j, u, rfl, rfl⟩ | ⟨y, u, rfl, rfl⟩
      · rw [key_rl] at h; exact SeqAt.EqAt.str_int x t j u _ _ _ _ h
      · rw [key_rr] at h; exact wpAny_eqBool_str h
  «strs» := fun k x t v h => by
    rcases keyIs_shape h with ⟨i, u, rfl, e⟩ | ⟨y, u, rfl, e⟩
    · exact nomatch e
    · injection e with e1 _
      subst e1
      cases v <;> rfl
end L2
namespace L2
open PySem PySem.Spec PyProof.Rows
inductive V where
  | non | bl (b : Bool) | int (i : Int) | str (x : Str) | byt (b : Array UInt8) | flt (b : UInt64) | ref (a : Addr) | ty (n : String)
  deriving DecidableEq
noncomputable def RelV : V → Value → Prop
  | .non, u => u = Value.none
  | .bl b, u => u = Value.bool b
  | .int i, u => ∃ t, u = Value.int i t
  | .str x, u => ∃ t, u = Value.str x t
  | .byt b, u => ∃ t, u = Value.bytes b t
  | .flt b, u => ∃ t, u = Value.float b t
  | .ref a, u => u = Value.ref a
  | .ty n, u => u = Value.type n
noncomputable abbrev Vals : List V → List Value → Prop := Paired RelV
theorem Vals.length {xs : List V} {us : List Value} (r : Vals xs us) : xs.length = us.length := Paired.length r
theorem Vals.get : ∀ {xs : List V} {us : List Value} {i : Nat} {x : V}, Vals xs us → xs[i]? = some x → ∃ u, us[i]? = some u ∧ RelV x u
  | _, _, _, _, .nil, e => by simp at e
  | _, _, 0, _, .cons r _, e => by simp at e; subst e; exact ⟨_, rfl, r⟩
  | _, _, i + 1, x, .cons _ t, e => by
    obtain ⟨u, h1, h2⟩ := Vals.get (i := i) (x := x) t (by simpa using e)
    exact ⟨u, by simpa using h1, h2⟩
theorem Vals.set {x : V} {u : Value} (r : RelV x u) : ∀ {xs : List V} {us : List Value} (i : Nat), Vals xs us → Vals (xs.set i x) (us.set i u)
  | _, _, _, .nil => .nil
  | _, _, 0, .cons _ t => .cons r t
  | _, _, i + 1, .cons q t => .cons q (Vals.set r i t)
theorem Vals.append : ∀ {xs ys : List V} {us ws : List Value}, Vals xs us → Vals ys ws → Vals (xs ++ ys) (us ++ ws)
  | _, _, _, _, .nil, s => s
  | _, _, _, _, .cons r t, s => .cons r (Vals.append t s)
theorem Vals.take : ∀ {xs : List V} {us : List Value} (n : Nat), Vals xs us → Vals (xs.take n) (us.take n)
  | _, _, 0, _ => .nil
  | _, _, _ + 1, .nil => .nil
  | _, _, n + 1, .cons r t => .cons r (Vals.take n t)
theorem Vals.drop : ∀ {xs : List V} {us : List Value} (n : Nat), Vals xs us → Vals (xs.drop n) (us.drop n)
  | _, _, 0, r => r
  | _, _, _ + 1, .nil => .nil
  | _, _, n + 1, .cons _ t => Vals.drop n t
noncomputable def RelO : Option V → Option Value → Prop
  | some v, some u => RelV v u
  | none, none => True
  | _, _ => False
noncomputable def KV {κ : Type} : List (κ × V) → List (κ × Value) → Prop := Paired fun (p : κ × V) (q : κ × Value) => p.1 = q.1 ∧ RelV p.2 q.2
noncomputable def kV : Key → V
  | .inl i => .int i
  | .inr x => .str x
inductive HO where
  | lst (xs : List V)
  | tup (xs : List V)
  | dK (kvs : List (Key × V)) | dT (kvs : List (List Key × V))
  | set (S : Int → Bool) (n : Nat)
  | ins (C dx : Addr) (fs : List (Str × V))
  | own (x : Addr)
  | xd (fs : List (Str × V))
  | met (f x : Addr)
  | rng (lo hi : Int)
  | frz (o : Obj) (u : HO)
  | tbl (ps : Array Value)
  | ext (φ : Heap → Prop)
noncomputable abbrev Hp := Addr → Option HO
noncomputable def upd (H : Hp) (a : Addr) (o : HO) : Hp := fun b => if b = a then some o else H b
theorem upd_same {H : Hp} {a : Addr} {o : HO} : upd H a o a = some o := by unfold upd; rw [if_pos rfl]
theorem upd_ne {H : Hp} {a b : Addr} {o : HO} (h : b ≠ a) : upd H a o b = H b := by unfold upd; rw [if_neg h]
theorem ne_of_none {H : Hp} {a b : Addr} {o : HO} (h : H a = some o) (h' : H b = none) : a ≠ b := by
  intro e; subst e; rw [h] at h'; cases h'
section
variable (P : Program) (w : World)
noncomputable def ObjOk (H : Hp) (h : Heap) (a : Addr) : HO → Prop
  | .lst xs => xs.length ≤ sizeLine ∧ ∃ (its : List Value) (n : Nat), Vals xs its ∧ h.get? a = some { cls := .type "list", data := .seq its.toArray n }
  | .tup xs => xs.length ≤ sizeLine ∧ ∃ its : List Value, Vals xs its ∧ IsTup h a its.toArray
  | .dK kvs => kvs.length ≤ sizeLine ∧ (a == sysModules) = false ∧ ∃ vs, KV kvs vs ∧ h.DictOf (mixKind P w) a vs
  | .dT kvs => kvs.length ≤ sizeLine ∧ (a == sysModules) = false ∧ ∃ xs : List (List Key × Addr × Value),
      Paired (fun (p : List Key × V) (q : List Key × Addr × Value) => p.1 = q.1 ∧ H q.2.1 = some (.tup (p.1.map kV)) ∧ RelV p.2 q.2.2) kvs xs ∧
      ∃ o es ep, h.get? a = some o ∧ o.ExactDict ∧ o.data = .dict es ep ∧ es.toList = xs.map (entryOfKey (tupleKind (mixKind P w))) ∧ (xs.map (·.1)).Nodup
  | .set S n => h.SetOf (intKind P w) a S n
  | .ins C dx fs => H dx = some (.own a) ∧ fs.length ≤ 1000 ∧ dx ≠ a ∧ h.get? a = some (PySem.W.instObj C dx) ∧
      ∃ mA, h.Ns1 dx mA ∧ (∀ f, RelO (fs.lookup f) (mA f)) ∧ PySem.Within mA (fs.map (·.1))
  | .own _ => ∃ o, h.get? a = some o
  | .xd fs => ∃ mA, h.Ns1 a mA ∧ ∀ f, RelO (fs.lookup f) (mA f)
  | .rng lo hi => ∃ t u v, h.get? a = some { cls := .type "range", data := .fields #[.int lo t, .int hi u, .int 1 v] }
  | .frz o u => h.get? a = some o ∧ ObjOk H h a u
  | .tbl ps => h.get? a = some { cls := .none, data := .fields ps }
  | .met f x => h.get? a = some (PySem.W.methodObj (.ref f) (.ref x))
  | .ext φ => φ h ∧ (∃ o, h.get? a = some o) ∧ ∀ h1 h2 : Heap, φ h1 → (∀ o, h1.get? a = some o → h2.get? a = some o) → φ h2
noncomputable def HOk (H : Hp) (h : Heap) : Prop := ∀ a o, H a = some o → ObjOk P w H h a o
end
section
variable {P : Program} {w : World} {H H' : Hp} {h h' : Heap} {a : Addr} {o : HO}
theorem ObjOk.lt (x : ObjOk P w H h a o) : a < h.objs.size := by
  cases o with
  | lst xs => obtain ⟨_, _, _, _, e⟩ := x; exact Heap.lt_size e
  | tup xs => obtain ⟨_, _, _, p⟩ := x; exact p.lt
  | dK kvs => obtain ⟨_, _, _, _, o, _, _, e, _⟩ := x; exact Heap.lt_size e
  | dT kvs => obtain ⟨_, _, _, _, o, _, _, e, _⟩ := x; exact Heap.lt_size e
  | set S n => obtain ⟨o, _, _, _, e, _⟩ := x; exact Heap.lt_size e
  | ins C dx fs => obtain ⟨_, _, _, e, _⟩ := x; exact Heap.lt_size e
  | own y => obtain ⟨_, e⟩ := x; exact Heap.lt_size e
  | xd fs => obtain ⟨_, ⟨_, _, _, e, _⟩, _⟩ := x; exact Heap.lt_size e
  | rng lo hi => obtain ⟨_, _, _, e⟩ := x; exact Heap.lt_size e
  | frz ob u => obtain ⟨e, _⟩ := x; exact Heap.lt_size e
  | tbl ps => exact Heap.lt_size (show h.get? a = some _ from x)
  | met f y => exact Heap.lt_size (show h.get? a = some _ from x)
  | ext φ => obtain ⟨_, ⟨_, e⟩, _⟩ := x; exact Heap.lt_size e
theorem Paired.mapP {α β : Type} {F G : α → β → Prop} : ∀ {l₁ : List α} {l₂ : List β}, Paired F l₁ l₂ → (∀ a b, F a b → G a b) → Paired G l₁ l₂
  | _, _, .nil, _ => .nil
  | _, _, .cons r t, f => .cons (f _ _ r) (Paired.mapP t f)
theorem ObjOk.stay (x : ObjOk P w H h a o) (k : ∀ b u, (b = a ∨ H b = some (.own a)) → h.get? b = some u → h'.get? b = some u)
    (ho : ∀ b, H b = some (.own a) → H' b = some (.own a)) (ht : ∀ b xs, H b = some (.tup xs) → H' b = some (.tup xs)) : ObjOk P w H' h' a o := by
  induction o with
  | lst xs => obtain ⟨z, its, n, r, e⟩ := x; exact ⟨z, its, n, r, k _ _ (.inl rfl) e⟩
  | tup xs => obtain ⟨z, its, r, ob, e, c⟩ := x; exact ⟨z, its, r, ob, k _ _ (.inl rfl) e, c⟩
  | dK kvs => obtain ⟨z, y, vs, r, ob, es, ep, e, c⟩ := x; exact ⟨z, y, vs, r, ob, es, ep, k _ _ (.inl rfl) e, c⟩
  | dT kvs =>
    obtain ⟨z, y, xs, r, ob, es, ep, e, c⟩ := x
    exact ⟨z, y, xs, Paired.mapP r fun p q z => ⟨z.1, ht _ _ z.2.1, z.2.2⟩, ob, es, ep, k _ _ (.inl rfl) e, c⟩
  | set S n => obtain ⟨ob, es, ep, t, e, c⟩ := x; exact ⟨ob, es, ep, t, k _ _ (.inl rfl) e, c⟩
  | ins C dx fs =>
    obtain ⟨d, z, ne, e, mA, ⟨od, es, ep, e2, c⟩, r⟩ := x
    exact ⟨ho _ d, z, ne, k _ _ (.inl rfl) e, mA, ⟨od, es, ep, k _ _ (.inr d) e2, c⟩, r⟩
  | own y => obtain ⟨ob, e⟩ := x; exact ⟨ob, k _ _ (.inl rfl) e⟩
  | xd fs => obtain ⟨mA, ⟨od, es, ep, e, c⟩, r⟩ := x; exact ⟨mA, ⟨od, es, ep, k _ _ (.inl rfl) e, c⟩, r⟩
  | rng lo hi => obtain ⟨t, u, v, e⟩ := x; exact ⟨t, u, v, k _ _ (.inl rfl) e⟩
  | frz ob u ih => obtain ⟨e, q⟩ := x; exact ⟨k _ _ (.inl rfl) e, ih q⟩
  | tbl ps =>
    have e : h.get? a = some { cls := .none, data := .fields ps } := x
    show h'.get? a = some { cls := .none, data := .fields ps }
    exact k a _ (.inl rfl) e
  | met f y =>
    have e : h.get? a = some (PySem.W.methodObj (.ref f) (.ref y)) := x
    show h'.get? a = some (PySem.W.methodObj (.ref f) (.ref y))
    exact k a _ (.inl rfl) e
  | ext φ => obtain ⟨p, ⟨o, e⟩, st⟩ := x; exact ⟨st _ _ p fun o q => k _ _ (.inl rfl) q, ⟨o, k _ _ (.inl rfl) e⟩, st⟩
theorem HOk.lt (x : HOk P w H h) (e : H a = some o) : a < h.objs.size := (x a o e).lt
theorem HOk.fresh (x : HOk P w H h) (e : h.objs.size ≤ a) : H a = none := by
  cases q : H a with
  | none => rfl
  | some u => exact absurd (Nat.lt_of_lt_of_le (x.lt q) e) (Nat.lt_irrefl _)
theorem HOk.kept (x : HOk P w H h) (k : ∀ b u, h.get? b = some u → h'.get? b = some u) : HOk P w H h' := fun a o e =>
  (x a o e).stay (fun b u _ q => k b u q) (fun _ q => q) fun _ _ q => q
theorem HOk.laid (x : HOk P w H h) (k : ∀ b u, h.get? b = some u → h'.get? b = some u) (hp : h.objs.size ≤ a) (new : ObjOk P w (upd H a o) h' a o) : HOk P w (upd H a o) h' := fun b u e => by
  have hn := x.fresh hp
  by_cases hb : b = a
  · subst hb; rw [upd_same] at e; cases e; exact new
  · rw [upd_ne hb] at e
    exact (x b u e).stay (fun c v _ q => k c v q) (fun c q => by rw [upd_ne (ne_of_none q hn)]; exact q) fun c xs q => by rw [upd_ne (ne_of_none q hn)]; exact q
end
noncomputable def Rd (H : Hp) (a : Addr) (u : HO) : Prop := H a = some u ∨ ∃ o, H a = some (.frz o u)
theorem Rd.of {H : Hp} {a : Addr} {u : HO} (h : H a = some u) : Rd H a u := .inl h
theorem Rd.ok {P : Program} {w : World} {H : Hp} {h : Heap} {a : Addr} {u : HO} (r : Rd H a u) (x : HOk P w H h) : ObjOk P w H h a u := by
  rcases r with r | ⟨o, r⟩
  · exact x a u r
  · obtain ⟨_, q⟩ := x a _ r
    exact q
noncomputable def Mut : Option HO → Prop
  | some (.lst _) => True
  | some (.dK _) => True
  | some (.dT _) => True
  | some (.set _ _) => True
  | some (.ins _ _ _) => True
  | some (.ext _) => True
  | _ => False
section
variable {P : Program} {w : World} {H : Hp} {h h' : Heap} {x e : Addr} {o' : HO}
theorem HOk.write (ok : HOk P w H h) (mu : Mut (H x)) (he : e = x ∨ H e = some (.own x)) (k : ∀ b u, b ≠ e → h.get? b = some u → h'.get? b = some u) (heo : ∃ u, h'.get? e = some u)
    (new : ObjOk P w (upd H x o') h' x o') : HOk P w (upd H x o') h' := fun b u q => by
  have nown : ∀ c y, H c = some (.own y) → c ≠ x := fun c y r z => by subst z; rw [r] at mu; exact mu
  have ntup : ∀ c xs, H c = some (.tup xs) → c ≠ x := fun c xs r z => by subst z; rw [r] at mu; exact mu
  by_cases hb : b = x
  · subst hb; rw [upd_same] at q; cases q; exact new
  · rw [upd_ne hb] at q
    by_cases hbe : b = e
    · have q' : H b = some (.own x) := by
        rcases he with z | z
        · exact absurd (hbe.trans z) hb
        · rw [hbe]; exact z
      rw [q] at q'; cases q'
      obtain ⟨v, hv⟩ := heo
      exact ⟨v, by rw [hbe]; exact hv⟩
    · refine (ok b u q).stay (fun c v hc r => k c v ?_ r) (fun c r => by rw [upd_ne (nown c b r)]; exact r) fun c xs r => by rw [upd_ne (ntup c xs r)]; exact r
      rcases hc with rfl | hc
      · exact hbe
      · rintro rfl
        rcases he with z | z
        · exact nown c b hc z
        · rw [hc] at z; cases z; exact hb rfl
end
structure Un (fs ex : List Addr) (H H' : Hp) (h h' : Heap) : Prop where
  keep : ∀ b o, h.get? b = some o → H b = none → b ∉ fs → b ∉ ex → h'.get? b = some o
  slot : ∀ b o, h.get? b = some o → H b = none → b ∈ fs → b ∉ ex → ∃ sl, h'.get? b = some { o with slots := sl }
  free : ∀ b o, h.get? b = some o → H b = none → b ∉ ex → H' b = none
  there : ∀ b o, h.get? b = some o → b ∉ ex → ∃ o', h'.get? b = some o'
  tups : ∀ b xs, H b = some (.tup xs) → H' b = some (.tup xs)
  frzs : ∀ b o u, H b = some (.frz o u) → H' b = some (.frz o u)
  tbls : ∀ b ps, H b = some (.tbl ps) → ∃ more, H' b = some (.tbl (ps ++ more))
section
variable {fs fs' ex ex' : List Addr} {H H1 H2 : Hp} {h h1 h2 h' : Heap} {a x e : Addr} {o : HO}
theorem Un.any (u : Un fs ex H H1 h h1) {b : Addr} {ob : Obj} (q : h.get? b = some ob) (n : H b = none) (hx : b ∉ ex) : ∃ sl, h1.get? b = some { ob with slots := sl } := by
  by_cases hb : b ∈ fs
  · exact u.slot b ob q n hb hx
  · exact ⟨ob.slots, u.keep b ob q n hb hx⟩
theorem Un.trans (a : Un fs ex H H1 h h1) (b : Un fs ex H1 H2 h1 h2) : Un fs ex H H2 h h2 where
  keep := fun c ob q n hc hx => b.keep c ob (a.keep c ob q n hc hx) (a.free c ob q n hx) hc hx
  slot := fun c ob q n hc hx => by
    obtain ⟨sl, e1⟩ := a.slot c ob q n hc hx
    obtain ⟨sl', e2⟩ := b.slot c _ e1 (a.free c ob q n hx) hc hx
    exact ⟨sl', e2⟩
  free := fun c ob q n hx => by
    obtain ⟨o', e1⟩ := a.there c ob q hx
    exact b.free c o' e1 (a.free c ob q n hx) hx
  there := fun c ob q hx => by
    obtain ⟨o', e1⟩ := a.there c ob q hx
    exact b.there c o' e1 hx
  tups := fun c xs q => b.tups c xs (a.tups c xs q)
  frzs := fun c ob xs q => b.frzs c ob xs (a.frzs c ob xs q)
  tbls := fun c ps q => by
    obtain ⟨m1, e1⟩ := a.tbls c ps q
    obtain ⟨m2, e2⟩ := b.tbls c _ e1
    exact ⟨m1 ++ m2, by rw [e2, Array.append_assoc]⟩
theorem Un.kept (k : ∀ b u, h.get? b = some u → h'.get? b = some u) : Un fs ex H H h h' :=
  ⟨fun b ob q _ _ _ => k b ob q, fun b ob q _ _ _ => ⟨ob.slots, k b ob q⟩, fun _ _ _ n _ => n, fun b ob q _ => ⟨ob, k b ob q⟩, fun _ _ q => q, fun _ _ _ q => q, fun _ ps q => ⟨#[], by rw [q]; simp⟩⟩
theorem Un.refl : Un fs ex H H h h := Un.kept fun _ _ q => q
theorem Un.laid (k : ∀ b u, h.get? b = some u → h'.get? b = some u) (hp : h.objs.size ≤ a) (hn : H a = none) : Un fs ex H (upd H a o) h h' where
  keep := fun b u q _ _ _ => k b u q
  slot := fun b u q _ _ _ => ⟨u.slots, k b u q⟩
  free := fun b u q n _ => by rw [upd_ne (Nat.ne_of_lt (Nat.lt_of_lt_of_le (Heap.lt_size q) hp))]; exact n
  there := fun b u q _ => ⟨u, k b u q⟩
  tups := fun b xs q => by rw [upd_ne (ne_of_none q hn)]; exact q
  frzs := fun b u xs q => by rw [upd_ne (ne_of_none q hn)]; exact q
  tbls := fun b ps q => ⟨#[], by rw [upd_ne (ne_of_none q hn), q]; simp⟩
theorem Un.write (mu : Mut (H x)) (he : e = x ∨ H e = some (.own x)) (k : ∀ b u, b ≠ e → h.get? b = some u → h'.get? b = some u) (heo : ∃ u, h'.get? e = some u) : Un fs ex H (upd H x o) h h' := by
  have hx : ∀ b, H b = none → b ≠ x := fun b n z => by subst z; rw [n] at mu; exact mu
  have hb : ∀ b, H b = none → b ≠ e := fun b n z => by
    subst z
    rcases he with r | r
    · exact hx b n r
    · rw [n] at r; cases r
  have hm : ∀ b u, H b = some u → ¬ Mut (some u) → b ≠ x := fun b u q nm z => by subst z; rw [q] at mu; exact nm mu
  refine ⟨fun b u q n _ _ => k b u (hb b n) q, fun b u q n _ _ => ⟨u.slots, k b u (hb b n) q⟩, fun b u q n _ => by rw [upd_ne (hx b n)]; exact n, fun b u q _ => ?_,
    fun b xs q => by rw [upd_ne (hm b _ q fun z => z)]; exact q, fun b u xs q => by rw [upd_ne (hm b _ q fun z => z)]; exact q, fun b ps q => ⟨#[], by rw [upd_ne (hm b _ q fun z => z), q]; simp⟩⟩
  by_cases hbe : b = e
  · subst hbe; exact heo
  · exact ⟨u, k b u hbe q⟩
theorem Un.mono (u : Un fs ex H H1 h h1) (hs : ∀ b ∈ fs, b ∈ fs') (hx : ∀ b ∈ ex, b ∈ ex') : Un fs' ex' H H1 h h1 :=
  ⟨fun b ob q n hb he => u.keep b ob q n (fun z => hb (hs b z)) fun z => he (hx b z), fun _ _ q n _ he => u.any q n fun z => he (hx _ z), fun b ob q n he => u.free b ob q n fun z => he (hx b z), fun b ob q he => u.there b ob q fun z => he (hx b z), u.tups, u.frzs, u.tbls⟩
end
noncomputable def trk (h : Heap) (H : Hp) : List Addr := (List.range h.objs.size).filter fun a => (H a).isSome
noncomputable def hidT (h : Heap) (H : Hp) : Heap := PySem.W.hideAll h (trk h H)
theorem hidT_size (h : Heap) (H : Hp) : (hidT h H).objs.size = h.objs.size := PySem.W.hideAll_size _ _
theorem hidT_get {h : Heap} {H : Hp} {b : Addr} {o : Obj} (e : h.get? b = some o) (n : H b = none) : (hidT h H).get? b = some o :=
  PySem.W.hideAll_get _ e fun hm => by
    have q : (H b).isSome = true := (List.mem_filter.mp hm).2
    rw [n] at q; simp at q
theorem of_hidT {h : Heap} {H : Hp} {b : Addr} {o : Obj} (e : (hidT h H).get? b = some o) : h.get? b = some o ∧ H b = none := by
  have e' : h.get? b = some o := PySem.W.of_hideAll (trk h H) e
  refine ⟨e', ?_⟩
  cases q : H b with
  | none => rfl
  | some x =>
    have hm : b ∈ trk h H := List.mem_filter.mpr ⟨List.mem_range.mpr (Heap.lt_size e'), by simp [q]⟩
    have z : (hidT h H).get? b = none := PySem.W.hideAll_none (trk h H) hm
    rw [z] at e; cases e
noncomputable def allNews (g h : Heap) (L : Addr) : List (Addr × Obj) := (List.range h.objs.size).filterMap fun a => if a = L ∨ (g.get? a).isSome = true then none else (h.get? a).map fun o => (a, o)
noncomputable def rest (g h : Heap) (L d : Addr) : List (Addr × Obj) := (allNews g h L).filter fun p => decide (p.1 ≠ d)
end L2
namespace L2
open PySem PySem.Spec PyProof.Rows
structure Mod (K : PySem.W.Frag) (mg : Str → Option Value) (base : Heap) : Prop where
  kin : K.In base
  glob : base.Ns mainGlobals mg
  blt : ∃ mb, base.Ns builtinsNs mb ∧ ∀ x : Str, x ≠ "__name__" → mb x = bootBuiltins x
  nolimit : base.NoLimit
structure Cx where
  prog : Program
  w : World
  K : PySem.W.Frag
  mg : Str → Option Value
  base : Heap
  A : Around
  N : List Str
  s₀ : Shared
  H₀ : Hp
  env : Env
  outer : List Env
  stack : List Env
  ex : List Addr
  fn : Str → Bool
  calm : Bool
  pn : List (Addr × Obj)
  xe : Value → Shared → Prop
noncomputable def frs (l : List Env) : List Addr := l.filterMap (·.frame)
noncomputable abbrev Cx.fs (X : Cx) : List Addr := frs X.outer
noncomputable def Vis (sc : Scope) (x : Str) : Prop := sc.names.lookup x = some .local ∨ sc.names.lookup x = some .cell ∨ sc.names.lookup x = some .free
noncomputable def Loc (sc : Scope) (x : Str) : Prop := sc.names.lookup x = some .local ∨ sc.names.lookup x = some .cell
noncomputable def Look (env : Env) (h : Heap) (m : Str → Option Value) (x : Str) (u : Value) : Prop :=
  (env.kindOf x = some .local ∧ m x = some u) ∨ ((env.kindOf x = some .cell ∨ env.kindOf x = some .free) ∧ ∃ c, env.cells.lookup x = some c ∧ h.IsCell c (some u))
structure Cx.Ok (X : Cx) : Prop where
  mod : Mod X.K X.mg X.base
  kind : X.env.scope.kind = .function
  glob : X.env.globals = mainGlobals
  blt : X.env.builtins = builtinsNs
  above : X.s₀.heap.objs.size ≤ X.env.locals
  inj : ∀ x y c, X.env.cells.lookup x = some c → X.env.cells.lookup y = some c → x = y
  has : ∀ x, (X.env.kindOf x = some .cell ∨ X.env.kindOf x = some .free) → ∃ c, X.env.cells.lookup x = some c
  cab : ∀ x c, X.fn x = true → X.env.cells.lookup x = some c → X.s₀.heap.objs.size ≤ c
  hd : X.calm = true → X.A.handled = none
  frames : X.A.frames = some X.stack
  stk : X.stack = X.outer ∨ (X.stack = X.env :: X.outer ∧ X.env.frame = some X.env.locals)
  exf : ∀ b ∈ X.ex, b ≠ X.env.locals ∧ ∀ x c, X.env.cells.lookup x = some c → c ≠ b
  bs : ∀ b o, X.base.get? b = some o → X.s₀.heap.get? b = some o ∧ X.H₀ b = none
  bsz : X.base.objs.size ≤ X.s₀.heap.objs.size
  noex : ∀ b o, X.base.get? b = some o → b ∉ X.ex
  exfs : ∀ b ∈ X.ex, b ∉ X.fs
  funs : X.s₀.heap.FunFrames X.base X.outer
  frf : ∀ b ∈ X.fs, X.H₀ b = none
structure Inv (X : Cx) (pins : List (Addr × Obj)) (σ : List (Option V)) (H : Hp) (s : Shared) : Prop where
  ok : X.Ok
  os : s.os = X.s₀.os
  bare : AllBare s.gens
  base : Un X.fs X.ex X.H₀ H X.s₀.heap s.heap
  loc : ∃ m, s.heap.Ns X.env.locals m ∧ ∀ (i : Nat) (x : Str) (v : V), X.N[i]? = some x → σ[i]? = some (some v) → Vis X.env.scope x → ∃ u, RelV v u ∧ Look X.env s.heap m x u
  cell : ∀ x c, X.env.cells.lookup x = some c → ∃ v, s.heap.IsCell c v
  free : H X.env.locals = none
  freeC : ∀ x c, X.env.cells.lookup x = some c → H c = none
  pin : ∀ p ∈ X.pn ++ pins, s.heap.get? p.1 = some p.2 ∧ H p.1 = none ∧ p.1 ≠ X.env.locals ∧ p.1 ∉ X.fs ∧ ∀ v, p.2.data ≠ .cell v
  hok : HOk X.prog X.w H s.heap
  len : σ.length = X.N.length
section
variable {X : Cx} {pins : List (Addr × Obj)} {σ : List (Option V)} {H H' : Hp} {s : Shared} {h' : Heap}
theorem Cx.Ok.nofr (ok : X.Ok) {b : Addr} {o : Obj} (e : X.base.get? b = some o) : b ∉ X.fs := fun hb => by
  have := (ok.funs.mem hb).1
  rw [e] at this; cases this
theorem Inv.bs (I : Inv X pins σ H s) : ∀ b o, X.base.get? b = some o → s.heap.get? b = some o ∧ H b = none := fun b o e =>
  ⟨I.base.keep b o (I.ok.bs b o e).1 (I.ok.bs b o e).2 (I.ok.nofr e) (I.ok.noex b o e), I.base.free b o (I.ok.bs b o e).1 (I.ok.bs b o e).2 (I.ok.noex b o e)⟩
theorem Inv.bk (I : Inv X pins σ H s) : ∀ b o, X.base.get? b = some o → s.heap.get? b = some o := fun b o e => (I.bs b o e).1
theorem Inv.mod (I : Inv X pins σ H s) : Mod X.K X.mg X.base := I.ok.mod
theorem Inv.kIn (I : Inv X pins σ H s) : X.K.In s.heap := I.ok.mod.kin.keeps I.bk
theorem Inv.nolimit (I : Inv X pins σ H s) : s.heap.NoLimit := I.ok.mod.nolimit.keeps I.bk
theorem Inv.fr (I : Inv X pins σ H s) : ∃ m, Fr X.base X.env.locals s.heap m :=
  let ⟨m, hn, _⟩ := I.loc
  ⟨m, hn, I.bk, Nat.le_trans I.ok.bsz I.ok.above⟩
theorem Inv.lt (I : Inv X pins σ H s) : X.env.locals < s.heap.objs.size := let ⟨_, hn, _⟩ := I.loc; hn.lt
theorem Inv.sz (I : Inv X pins σ H s) : X.s₀.heap.objs.size ≤ s.heap.objs.size := Nat.le_trans I.ok.above (Nat.le_of_lt I.lt)
theorem Inv.nofs (I : Inv X pins σ H s) {a : Addr} (h : s.heap.objs.size ≤ a) : a ∉ X.fs := fun hb => by
  obtain ⟨_, o, ho, _⟩ := I.ok.funs.mem hb
  exact absurd (Nat.lt_of_lt_of_le (Heap.lt_size ho) (Nat.le_trans I.sz h)) (Nat.lt_irrefl _)
theorem Inv.cne (I : Inv X pins σ H s) : ∀ x c, X.env.cells.lookup x = some c → c ≠ X.env.locals := fun x c e z => by
  obtain ⟨v, o, ho, hd⟩ := I.cell x c e
  obtain ⟨m, ⟨o', es, ep, ho', hd', _⟩, _⟩ := I.loc
  rw [z, ho'] at ho; cases ho; rw [hd'] at hd; cases hd
theorem Inv.funs (I : Inv X pins σ H s) : s.heap.FunFrames X.base X.outer := by
  have all : ∀ (l : List Env), (∀ b ∈ frs l, b ∈ X.fs) → X.s₀.heap.FunFrames X.base l → s.heap.FunFrames X.base l := by
    intro l
    induction l with
    | nil => intro _ _; trivial
    | cons env r ih =>
      intro hs hl
      obtain ⟨hk, ⟨L, o, hf, hn, ho, hd⟩, hr⟩ := hl
      have hL : L ∈ X.fs := hs L (by unfold frs; rw [List.filterMap_cons, hf]; exact List.mem_cons_self)
      obtain ⟨sl, e⟩ := I.base.slot L o ho (I.ok.frf L hL) hL fun z => I.ok.exfs L z hL
      exact ⟨hk, ⟨L, _, hf, hn, e, hd⟩, ih (fun b hb => hs b (by unfold frs; rw [List.filterMap_cons, hf]; exact List.mem_cons_of_mem _ hb)) hr⟩
  exact all X.outer (fun _ hb => hb) I.ok.funs
theorem Inv.stack (I : Inv X pins σ H s) : s.heap.FunFrames X.base X.stack := by
  rcases I.ok.stk with e | ⟨e, hf⟩
  · rw [e]; exact I.funs
  · rw [e]
    obtain ⟨m, hn, _⟩ := I.loc
    refine .cons (by rw [I.ok.kind]; decide) hf hn ?_ I.funs
    exact Heap.get?_none_of_le (Nat.le_trans I.ok.bsz I.ok.above)
theorem Inv.stkSub (I : Inv X pins σ H s) : ∀ b ∈ frs X.stack, b ∈ X.env.locals :: X.fs := fun b hb => by
  rcases I.ok.stk with e | ⟨e, hf⟩
  · rw [e] at hb; exact List.mem_cons_of_mem _ hb
  · rw [e] at hb
    unfold frs at hb
    rw [List.filterMap_cons, hf] at hb
    exact hb
theorem Inv.stkFree (I : Inv X pins σ H s) : ∀ b ∈ frs X.stack, H b = none := fun b hb => by
  rcases List.mem_cons.mp (I.stkSub b hb) with e | hb
  · rw [e]; exact I.free
  · obtain ⟨_, o, ho, _⟩ := I.ok.funs.mem hb
    exact I.base.free b o ho (I.ok.frf b hb) fun z => I.ok.exfs b z hb
theorem Inv.step {g' : Array GenState} {t' : Nat} {d' : Drawn} {ch : List Addr} (I : Inv X pins σ H s)
    (hch : ∀ b ∈ ch, (b ∈ X.ex ∨ X.s₀.heap.objs.size ≤ b) ∧ b ≠ X.env.locals ∧ (∀ x c, X.env.cells.lookup x = some c → c ≠ b) ∧ ∀ p ∈ X.pn ++ pins, p.1 ≠ b)
    (keep : ∀ b o, b ≠ X.env.locals → b ∉ X.fs → b ∉ ch → s.heap.get? b = some o → H b = none → h'.get? b = some o)
    (slot : ∀ b o, b ≠ X.env.locals → b ∈ X.fs → b ∉ ch → s.heap.get? b = some o → H b = none → ∃ sl, h'.get? b = some { o with slots := sl }) (free : ∀ b o, b ∉ ch → s.heap.get? b = some o → H b = none → H' b = none)
    (there : ∀ b o, b ∉ ch → s.heap.get? b = some o → ∃ o', h'.get? b = some o')
    (tups : ∀ b xs, H b = some (.tup xs) → H' b = some (.tup xs)) (frzs : ∀ b o u, H b = some (.frz o u) → H' b = some (.frz o u)) (tbls : ∀ b ps, H b = some (.tbl ps) → ∃ more, H' b = some (.tbl (ps ++ more)))
    (ns : ∀ m, s.heap.Ns X.env.locals m → h'.Ns X.env.locals m) (hok : HOk X.prog X.w H' h') (hg : AllBare g') :
    Inv X pins σ H' { s with heap := h', gens := g', drawn := d', toks := t' } := by
  have neL : ∀ b o, X.s₀.heap.get? b = some o → b ≠ X.env.locals := fun b o e => Nat.ne_of_lt (Nat.lt_of_lt_of_le (Heap.lt_size e) I.ok.above)
  have neC : ∀ b o, X.s₀.heap.get? b = some o → b ∉ X.ex → b ∉ ch := fun b o e hx hb => by
    rcases (hch b hb).1 with z | z
    · exact hx z
    · exact absurd (Nat.lt_of_lt_of_le (Heap.lt_size e) z) (Nat.lt_irrefl _)
  have cellK : ∀ x c, X.env.cells.lookup x = some c → ∀ v, s.heap.IsCell c v → h'.IsCell c v := fun x c e v ⟨o, ho, hd⟩ => by
    have nch : c ∉ ch := fun z => (hch c z).2.2.1 x c e rfl
    by_cases hc : c ∈ X.fs
    · obtain ⟨sl, q⟩ := slot c o (I.cne x c e) hc nch ho (I.freeC x c e)
      exact ⟨_, q, hd⟩
    · exact ⟨o, keep c o (I.cne x c e) hc nch ho (I.freeC x c e), hd⟩
  refine ⟨I.ok, I.os, hg, ⟨fun b o e n hb hx => ?_, fun b o e n hb hx => ?_, fun b o e n hx => ?_, fun b o e hx => ?_, fun b xs e => tups b xs (I.base.tups b xs e), fun b o xs e => frzs b o xs (I.base.frzs b o xs e), fun b ps e => ?_⟩, ?_, fun x c e => ?_, ?_, fun x c e => ?_, fun p hp => ?_, hok, I.len⟩
  · exact keep b o (neL b o e) hb (neC b o e hx) (I.base.keep b o e n hb hx) (I.base.free b o e n hx)
  · obtain ⟨sl, e1⟩ := I.base.slot b o e n hb hx
    obtain ⟨sl', e2⟩ := slot b _ (neL b o e) hb (neC b o e hx) e1 (I.base.free b o e n hx)
    exact ⟨sl', e2⟩
  · obtain ⟨o', e1⟩ := I.base.there b o e hx
    exact free b o' (neC b o e hx) e1 (I.base.free b o e n hx)
  · obtain ⟨o', e1⟩ := I.base.there b o e hx
    exact there b o' (neC b o e hx) e1
  · obtain ⟨m1, e1⟩ := I.base.tbls b ps e
    obtain ⟨m2, e2⟩ := tbls b _ e1
    exact ⟨m1 ++ m2, by rw [e2, Array.append_assoc]⟩
  · obtain ⟨m, hn, hl⟩ := I.loc
    refine ⟨m, ns m hn, fun i x v e1 e2 e3 => ?_⟩
    obtain ⟨u, r, l⟩ := hl i x v e1 e2 e3
    refine ⟨u, r, ?_⟩
    rcases l with l | ⟨k, c, e, z⟩
    · exact .inl l
    · exact .inr ⟨k, c, e, cellK x c e _ z⟩
  · obtain ⟨v, z⟩ := I.cell x c e
    exact ⟨v, cellK x c e v z⟩
  · obtain ⟨m, ⟨o, _, _, ho, _⟩, _⟩ := I.loc
    exact free _ o (fun z => (hch _ z).2.1 rfl) ho I.free
  · obtain ⟨v, o, ho, hd⟩ := I.cell x c e
    exact free c o (fun z => (hch c z).2.2.1 x c e rfl) ho (I.freeC x c e)
  · obtain ⟨e, n, ne, nf, d⟩ := I.pin p hp
    have nch : p.1 ∉ ch := fun z => (hch p.1 z).2.2.2 p hp rfl
    exact ⟨keep p.1 p.2 ne nf nch e n, free p.1 p.2 nch e n, ne, nf, d⟩
theorem Inv.un {t' : Nat} (I : Inv X pins σ H s) (u : Un X.fs [] H H' s.heap h') (hok : HOk X.prog X.w H' h') : Inv X pins σ H' { s with heap := h', toks := t' } := by
  obtain ⟨m, ⟨o, es, ep, ho, r⟩, _⟩ := id I.loc
  obtain ⟨sl, hL⟩ := u.any ho I.free (by simp)
  exact I.step (g' := s.gens) (d' := s.drawn) (ch := []) (fun _ z => nomatch z) (fun b o _ hb _ e n => u.keep b o e n hb (by simp)) (fun b o _ hb _ e n => u.slot b o e n hb (by simp)) (fun b o _ e n => u.free b o e n (by simp)) (fun b o _ e => u.there b o e (by simp)) u.tups u.frzs u.tbls (fun m' hm => by
    obtain ⟨o', es', ep', ho', r'⟩ := hm
    rw [ho] at ho'; cases ho'
    exact ⟨_, es', ep', hL, r'⟩) hok I.bare
theorem Inv.call {g' : Array GenState} {t' : Nat} {d' : Drawn} {ch : List Addr} (I : Inv X pins σ H s) (u : Un (frs X.stack) ch H H' s.heap h') (hok : HOk X.prog X.w H' h') (hg : AllBare g')
    (hch : ∀ b ∈ ch, (b ∈ X.ex ∨ X.s₀.heap.objs.size ≤ b) ∧ b ≠ X.env.locals ∧ (∀ x c, X.env.cells.lookup x = some c → c ≠ b) ∧ ∀ p ∈ X.pn ++ pins, p.1 ≠ b) :
    Inv X pins σ H' { s with heap := h', gens := g', drawn := d', toks := t' } := by
  obtain ⟨m, ⟨o, es, ep, ho, r⟩, _⟩ := id I.loc
  obtain ⟨sl, hL⟩ := u.any ho I.free fun z => (hch _ z).2.1 rfl
  exact I.step (ch := ch) hch (fun b o hL hb hc e n => u.keep b o e n (fun z => (List.mem_cons.mp (I.stkSub b z)).elim hL hb) hc) (fun b o _ _ hc e n => u.any e n hc) (fun b o hc e n => u.free b o e n hc) (fun b o hc e => u.there b o e hc) u.tups u.frzs u.tbls (fun m' hm => by
    obtain ⟨o', es', ep', ho', r'⟩ := hm
    rw [ho] at ho'; cases ho'
    exact ⟨_, es', ep', hL, r'⟩) hok hg
theorem Inv.turned {t' : Nat} {it : Addr} (I : Inv X pins σ H s) (k : ∀ b o, b ≠ it → s.heap.get? b = some o → h'.get? b = some o) (hn : H it = none) (hL : it ≠ X.env.locals)
    (h1 : it ∈ X.ex ∨ X.s₀.heap.objs.size ≤ it) (h2 : ∀ x c, X.env.cells.lookup x = some c → c ≠ it) (h3 : ∀ p ∈ X.pn ++ pins, p.1 ≠ it) : Inv X pins σ H { s with heap := h', toks := t' } := by
  have nit : ∀ b u, H b = some u → b ≠ it := fun b u e z => by rw [z, hn] at e; cases e
  refine I.step (g' := s.gens) (d' := s.drawn) (ch := [it]) (fun b hb => ?_) (fun b o _ _ hc e _ => k b o (fun z => hc (by simp [z])) e) (fun b o _ _ hc e _ => ⟨o.slots, k b o (fun z => hc (by simp [z])) e⟩) (fun _ _ _ _ n => n)
    (fun b o hc e => ⟨o, k b o (fun z => hc (by simp [z])) e⟩) (fun _ _ e => e) (fun _ _ _ e => e) (fun b ps e => ⟨#[], by rw [e]; simp⟩) (fun m hm => ?_) (fun b u e => ?_) I.bare
  · have e : b = it := by simpa using hb
    subst e
    exact ⟨h1, hL, h2, h3⟩
  · obtain ⟨o, es, ep, ho, r⟩ := hm
    exact ⟨o, es, ep, k _ o (Ne.symm hL) ho, r⟩
  · refine (I.hok b u e).stay (fun c v hc q => k c v ?_ q) (fun _ q => q) fun _ _ q => q
    rcases hc with z | z
    · rw [z]; exact nit b u e
    · exact nit c _ z
theorem Inv.tok (I : Inv X pins σ H s) (t : Nat) : Inv X pins σ H { s with toks := t } := I.un (h' := s.heap) (t' := t) Un.refl I.hok
theorem Inv.kept {t' : Nat} (I : Inv X pins σ H s) (k : ∀ b u, s.heap.get? b = some u → h'.get? b = some u) : Inv X pins σ H { s with heap := h', toks := t' } := I.un (Un.kept k) (I.hok.kept k)
theorem Inv.laid {a : Addr} {o : HO} {t' : Nat} (I : Inv X pins σ H s) (k : ∀ b u, s.heap.get? b = some u → h'.get? b = some u) (hp : s.heap.objs.size ≤ a) (new : ObjOk X.prog X.w (upd H a o) h' a o) :
    Inv X pins σ (upd H a o) { s with heap := h', toks := t' } := I.un (Un.laid k hp (I.hok.fresh hp)) (I.hok.laid k hp new)
theorem Inv.write {x e : Addr} {o : HO} {t' : Nat} (I : Inv X pins σ H s) (mu : Mut (H x)) (he : e = x ∨ H e = some (.own x)) (k : ∀ b u, b ≠ e → s.heap.get? b = some u → h'.get? b = some u) (heo : ∃ u, h'.get? e = some u)
    (new : ObjOk X.prog X.w (upd H x o) h' x o) : Inv X pins σ (upd H x o) { s with heap := h', toks := t' } := I.un (Un.write mu he k heo) (I.hok.write mu he k heo new)
theorem Inv.weak {σ' : List (Option V)} (I : Inv X pins σ H s) (hl : σ'.length = σ.length) (w : ∀ (i : Nat) v, σ'[i]? = some (some v) → σ[i]? = some (some v)) : Inv X pins σ' H s :=
  ⟨I.ok, I.os, I.bare, I.base, let ⟨m, hn, hl'⟩ := I.loc; ⟨m, hn, fun i x v e1 e2 e3 => hl' i x v e1 (w i v e2) e3⟩, I.cell, I.free, I.freeC, I.pin, I.hok, hl.trans I.len⟩
theorem Inv.pins_of {pins' : List (Addr × Obj)} (I : Inv X pins σ H s) (h : ∀ p ∈ pins', s.heap.get? p.1 = some p.2 ∧ H p.1 = none ∧ p.1 ≠ X.env.locals ∧ p.1 ∉ X.fs ∧ ∀ v, p.2.data ≠ .cell v) : Inv X pins' σ H s :=
  ⟨I.ok, I.os, I.bare, I.base, I.loc, I.cell, I.free, I.freeC, fun p hp => (List.mem_append.mp hp).elim (fun z => I.pin p (List.mem_append_left _ z)) (h p), I.hok, I.len⟩
theorem nodup_ix {N : List Str} (hN : N.Nodup) {i j : Nat} {x : Str} (a : N[i]? = some x) (b : N[j]? = some x) : i = j := by
  obtain ⟨h1, e1⟩ := List.getElem?_eq_some_iff.mp a
  obtain ⟨h2, e2⟩ := List.getElem?_eq_some_iff.mp b
  exact (List.getElem_inj hN).mp (e1.trans e2.symm)
theorem store_ok2 {M : Model} {A : Around} {E : Value → Shared → Prop} {i : Nat} {x : Str} {v : V} {u : Value} {Q : Unit → Shared → Prop} (I : Inv X pins σ H s) (hN : X.N.Nodup) (hi : X.N[i]? = some x) (hx : Loc X.env.scope x) (r : RelV v u)
    (h : ∀ s', Inv X pins (σ.set i (some v)) H s' → (∃ a, Heap.SameBut a s.heap s'.heap ∧ (a = X.env.locals ∨ X.env.cells.lookup x = some a)) → Q () s') (hf : X.fn x = true ∨ X.env.scope.names.lookup x = some .local := by first | exact .inl rfl | exact .inr rfl | assumption) : wpAny M A (storeName X.env x u) Q E s := by
  obtain ⟨m, hn, hl⟩ := id I.loc
  have hcls : (X.env.scope.kind == .class || (X.env.scope.kind == .module && X.env.locals != X.env.globals)) = false := by rw [I.ok.kind]; rfl
  have hiσ : i < σ.length := by rw [I.len]; exact (List.getElem?_eq_some_iff.mp hi).1
  have cne := I.cne
  have tracked : ∀ {a : Addr} {h' : Heap}, (∃ o, s.heap.get? a = some o ∧ H a = none) → Heap.SameBut a s.heap h' → HOk X.prog X.w H h' := fun {a h'} ha hs b ob e => by
    obtain ⟨_, _, hfree⟩ := ha
    refine (I.hok b ob e).stay (fun c w' hc q => (hs.2 c ?_).trans q) (fun _ q => q) fun _ _ q => q
    rintro rfl
    rcases hc with rfl | hc
    · rw [hfree] at e; cases e
    · rw [hfree] at hc; cases hc
  rcases hx with hk | hk
  · refine wpAny_storeName_local hk hn (fun h' hn' hs => ?_) hcls
    obtain ⟨oL, _, _, hoL, _⟩ := id hn
    refine h _ ⟨I.ok, I.os, I.bare, ⟨fun b o e n hb hx => ?_, fun b o e n hb hx => ?_, I.base.free, fun b o e hx => ?_, I.base.tups, I.base.frzs, I.base.tbls⟩, ⟨_, hn', fun j y v' e1 e2 e3 => ?_⟩, fun y c e => ?_, I.free, I.freeC, fun p hp => ?_, tracked ⟨oL, hoL, I.free⟩ hs, by simpa using I.len⟩ ⟨_, hs, .inl rfl⟩
    · exact (hs.2 b (Nat.ne_of_lt (Nat.lt_of_lt_of_le (Heap.lt_size e) I.ok.above))).trans (I.base.keep b o e n hb hx)
    · obtain ⟨sl, e1⟩ := I.base.slot b o e n hb hx
      exact ⟨sl, (hs.2 b (Nat.ne_of_lt (Nat.lt_of_lt_of_le (Heap.lt_size e) I.ok.above))).trans e1⟩
    · obtain ⟨o', e1⟩ := I.base.there b o e hx
      exact ⟨o', (hs.2 b (Nat.ne_of_lt (Nat.lt_of_lt_of_le (Heap.lt_size e) I.ok.above))).trans e1⟩
    · by_cases hj : j = i
      · subst hj
        rw [hi] at e1; cases e1
        rw [List.getElem?_set_self hiσ] at e2
        cases e2
        exact ⟨u, r, .inl ⟨hk, by simp⟩⟩
      · rw [List.getElem?_set_ne (Ne.symm hj)] at e2
        obtain ⟨u', r', q⟩ := hl j y v' e1 e2 e3
        refine ⟨u', r', ?_⟩
        rcases q with ⟨k, e⟩ | ⟨k, c, e, z⟩
        · refine .inl ⟨k, ?_⟩
          have : y ≠ x := fun e => hj (nodup_ix hN e1 (e ▸ hi))
          simp [this, e]
        · exact .inr ⟨k, c, e, z.sameBut hs (cne y c e)⟩
    · obtain ⟨w', z⟩ := I.cell y c e
      exact ⟨w', z.sameBut hs (cne y c e)⟩
    · obtain ⟨e, n, ne, nf, d⟩ := I.pin p hp
      exact ⟨(hs.2 p.1 ne).trans e, n, ne, nf, d⟩
  · have hfn : X.fn x = true := by
      rcases hf with z | z
      · exact z
      · rw [z] at hk; cases hk
    obtain ⟨c, hc⟩ := I.ok.has x (.inl hk)
    obtain ⟨w', z⟩ := I.cell x c hc
    refine wpAny_storeName_cell I.ok.kind hk hc z (fun h' hc' hs => ?_)
    obtain ⟨oc, hoc, hocd⟩ := id z
    refine h { s with heap := h' } ⟨I.ok, I.os, I.bare, ⟨fun b o e n hb hx => ?_, fun b o e n hb hx => ?_, I.base.free, fun b o e hx => ?_, I.base.tups, I.base.frzs, I.base.tbls⟩, ⟨m, hn.sameBut hs (Ne.symm (cne x c hc)), fun j y v' e1 e2 e3 => ?_⟩, fun y c' e => ?_, I.free, I.freeC, fun p hp => ?_, tracked ⟨oc, hoc, I.freeC x c hc⟩ hs, by simpa using I.len⟩ ⟨c, hs, .inr hc⟩
    · exact (hs.2 b (Nat.ne_of_lt (Nat.lt_of_lt_of_le (Heap.lt_size e) (I.ok.cab x c hfn hc)))).trans (I.base.keep b o e n hb hx)
    · obtain ⟨sl, e1⟩ := I.base.slot b o e n hb hx
      exact ⟨sl, (hs.2 b (Nat.ne_of_lt (Nat.lt_of_lt_of_le (Heap.lt_size e) (I.ok.cab x c hfn hc)))).trans e1⟩
    · obtain ⟨o', e1⟩ := I.base.there b o e hx
      exact ⟨o', (hs.2 b (Nat.ne_of_lt (Nat.lt_of_lt_of_le (Heap.lt_size e) (I.ok.cab x c hfn hc)))).trans e1⟩
    · by_cases hj : j = i
      · subst hj
        rw [hi] at e1; cases e1
        rw [List.getElem?_set_self hiσ] at e2
        cases e2
        exact ⟨u, r, .inr ⟨.inl hk, c, hc, hc'⟩⟩
      · rw [List.getElem?_set_ne (Ne.symm hj)] at e2
        obtain ⟨u', r', q⟩ := hl j y v' e1 e2 e3
        refine ⟨u', r', ?_⟩
        rcases q with q | ⟨k, c', e, z'⟩
        · exact .inl q
        · refine .inr ⟨k, c', e, z'.sameBut hs ?_⟩
          rintro rfl
          exact hj (nodup_ix hN e1 (I.ok.inj _ _ _ e hc ▸ hi))
    · by_cases hcc : c' = c
      · subst hcc; exact ⟨_, hc'⟩
      · obtain ⟨w2, z2⟩ := I.cell y c' e
        exact ⟨w2, z2.sameBut hs hcc⟩
    · obtain ⟨e, n, ne, nf, d⟩ := I.pin p hp
      refine ⟨(hs.2 p.1 ?_).trans e, n, ne, nf, d⟩
      intro q
      rw [q, hoc] at e
      have q' : oc = p.2 := Option.some.inj e
      exact d w' (by rw [← q']; exact hocd)
theorem store_ok {M : Model} {A : Around} {E : Value → Shared → Prop} {i : Nat} {x : Str} {v : V} {u : Value} {Q : Unit → Shared → Prop} (I : Inv X pins σ H s) (hN : X.N.Nodup) (hi : X.N[i]? = some x) (hx : Loc X.env.scope x) (r : RelV v u)
    (h : ∀ s', Inv X pins (σ.set i (some v)) H s' → Q () s') (hf : X.fn x = true ∨ X.env.scope.names.lookup x = some .local := by first | exact .inl rfl | exact .inr rfl | assumption) : wpAny M A (storeName X.env x u) Q E s :=
  store_ok2 I hN hi hx r (fun s' I' _ => h s' I') hf
theorem Inv.call' {s' : Shared} {ch : List Addr} (I : Inv X pins σ H s) (ho : s'.os = s.os) (u : Un (frs X.stack) ch H H' s.heap s'.heap) (hok : HOk X.prog X.w H' s'.heap) (hg : AllBare s'.gens)
    (hch : ∀ b ∈ ch, (b ∈ X.ex ∨ X.s₀.heap.objs.size ≤ b) ∧ b ≠ X.env.locals ∧ (∀ x c, X.env.cells.lookup x = some c → c ≠ b) ∧ ∀ p ∈ X.pn ++ pins, p.1 ≠ b) : Inv X pins σ H' s' := by
  obtain ⟨h', g', d', t', o'⟩ := s'
  have e : o' = s.os := ho
  subst e
  exact I.call (g' := g') (t' := t') (d' := d') u hok hg hch
end
noncomputable abbrev XK := Value → Option Addr → Hp → Prop
noncomputable abbrev St := List (Option V)
noncomputable abbrev VK := V → Hp → Prop
noncomputable abbrev TE := St → Hp → VK → Prop
noncomputable abbrev TT := St → Hp → (Bool → Hp → Prop) → Prop
noncomputable abbrev TA := St → Hp → (List V → Hp → Prop) → Prop
structure Ends where
  nx : St → Hp → Prop
  rt : VK
  bk : St → Hp → Prop := fun _ _ => False
  ct : St → Hp → Prop := fun _ _ => False
noncomputable abbrev TS := Ends → St → Hp → Prop
noncomputable def EP (X : Cx) (pins : List (Addr × Obj)) (σ : St) (Q : VK) (u : Value) (s' : Shared) : Prop := ∃ v H', Inv X pins σ H' s' ∧ RelV v u ∧ Q v H'
noncomputable def TP (X : Cx) (pins : List (Addr × Obj)) (σ : St) (Q : Bool → Hp → Prop) (b : Bool) (s' : Shared) : Prop := ∃ H', Inv X pins σ H' s' ∧ Q b H'
noncomputable def AP (X : Cx) (pins : List (Addr × Obj)) (σ : St) (Q : List V → Hp → Prop) (us : List Value) (s' : Shared) : Prop := ∃ vs H', Inv X pins σ H' s' ∧ Vals vs us ∧ Q vs H'
noncomputable def SP (X : Cx) (pins : List (Addr × Obj)) (D : Ends) (f : Flow) (s' : Shared) : Prop :=
  match f with
  | .next => ∃ σ' H', Inv X pins σ' H' s' ∧ D.nx σ' H'
  | .brk => ∃ σ' H', Inv X pins σ' H' s' ∧ D.bk σ' H'
  | .cont => ∃ σ' H', Inv X pins σ' H' s' ∧ D.ct σ' H'
  | .ret u => ∃ v σ' H', Inv X pins σ' H' s' ∧ RelV v u ∧ D.rt v H'
noncomputable def PE (X : Cx) (e : Expr) (t : TE) : Prop :=
  ∀ (pins : List (Addr × Obj)) (s : Shared) (σ : St) (H : Hp) (Q : VK), Inv X pins σ H s → t σ H Q → wpAny (model X.prog X.w) X.A (eval e X.env) (EP X pins σ Q) X.xe s
noncomputable def PT (X : Cx) (e : Expr) (t : TT) : Prop :=
  ∀ (pins : List (Addr × Obj)) (s : Shared) (σ : St) (H : Hp) (Q : Bool → Hp → Prop), Inv X pins σ H s → t σ H Q → wpAny (model X.prog X.w) X.A (isTrue e X.env (eval e X.env)) (TP X pins σ Q) X.xe s
noncomputable def PW (X : Cx) (e : Expr) (t : TT) : Prop :=
  ∀ (whole : Sem Value) (pins : List (Addr × Obj)) (s : Shared) (σ : St) (H : Hp) (Q : Bool → Hp → Prop), Inv X pins σ H s → t σ H Q → wpAny (model X.prog X.w) X.A (isTrue e X.env whole) (TP X pins σ Q) X.xe s
theorem PW.pt {X : Cx} {e : Expr} {t : TT} (h : PW X e t) : PT X e t := h _
noncomputable def PA (X : Cx) (es : List Expr) (t : TA) : Prop :=
  ∀ (pos : Pos) (pins : List (Addr × Obj)) (s : Shared) (σ : St) (H : Hp) (Q : List V → Hp → Prop), Inv X pins σ H s → t σ H Q → wpAny (model X.prog X.w) X.A (spliced (backTo pos (starEach es X.env))) (AP X pins σ Q) X.xe s
noncomputable def PS (X : Cx) (st : Stmt) (t : TS) : Prop :=
  ∀ (pins : List (Addr × Obj)) (s : Shared) (σ : St) (H : Hp) (D : Ends), Inv X pins σ H s → t D σ H → wpAny (model X.prog X.w) X.A (exec st X.env) (SP X pins D) X.xe s
noncomputable def PSs (X : Cx) (st : List Stmt) (t : TS) : Prop :=
  ∀ (pins : List (Addr × Obj)) (s : Shared) (σ : St) (H : Hp) (D : Ends), Inv X pins σ H s → t D σ H → wpAny (model X.prog X.w) X.A (execs st X.env) (SP X pins D) X.xe s
theorem thn {α : Type} {t : Sem α} {Q Q' : α → Shared → Prop} {M : Model} {A : Around} {E : Value → Shared → Prop} {s : Shared} (h : wpAny M A t Q E s) (hQ : ∀ a s, Q a s → Q' a s) : wpAny M A t Q' E s := wpAny_mono h hQ fun _ _ x => x
end L2
namespace L2
open PySem PySem.Spec PyProof.Rows
section
variable {X : Cx}
noncomputable def tVar (i : Nat) : TE := fun σ H Q => ∃ v, σ[i]? = some (some v) ∧ Q v H
noncomputable def tC (v : V) : TE := fun _ H Q => Q v H
theorem pe_var {i : Nat} {x : Str} {pos : Pos} (hN : X.N[i]? = some x) (hv : Vis X.env.scope x) (hd : (x == ("__debug__" : Str)) = false := by decide) (hcd : (x == ("__classdict__" : Str)) = false := by decide) : PE X (.Name x pos) (tVar i) := by
  intro pins s σ H Q I h
  obtain ⟨v, e, h⟩ := h
  obtain ⟨m, hn, hl⟩ := I.loc
  obtain ⟨u, r, l⟩ := hl i x v hN e hv
  have fin : EP X pins σ Q u s := ⟨v, H, I, r, h⟩
  rcases l with ⟨hk, hm⟩ | ⟨hk, c, hc, hcell⟩
  · exact wpAny_Name (wpAny_loadName_local I.ok.kind hk hn hm fin) hd
  · rcases hk with hk | hk
    · exact wpAny_Name (wpAny_loadName_cell I.ok.kind hk hc hcell fin) hd
    · exact wpAny_Name (wpAny_loadName_free I.ok.kind hk hc hcell fin hcd) hd
theorem pe_int {i j pos} : PE X (.Constant (.int i) j pos) (tC (.int i)) := fun _ _ _ H _ I h => wpAny_Constant_int ⟨.int i, H, I.tok _, ⟨_, rfl⟩, h⟩
theorem pe_bl {b j pos} : PE X (.Constant (.bool b) j pos) (tC (.bl b)) := fun _ _ _ H _ I h => Constant_bool ⟨.bl b, H, I, rfl, h⟩
theorem pe_non {j pos} : PE X (.Constant .none j pos) (tC .non) := fun _ _ _ H _ I h => Constant_none ⟨.non, H, I, rfl, h⟩
theorem pe_str {x j pos} : PE X (.Constant (.str x) j pos) (tC (.str x)) := fun _ _ _ H _ I h => Calls.Constant_str ⟨.str x, H, I.tok _, ⟨_, rfl⟩, h⟩
noncomputable def Gl (X : Cx) (x : Str) : Prop := X.env.kindOf x = some .globalImplicit
theorem ld_glob {E : Value → Shared → Prop} {pins : List (Addr × Obj)} {s : Shared} {σ : St} {H : Hp} {x : Str} {u : Value} {pos : Pos} {Q : Value → Shared → Prop} (I : Inv X pins σ H s) (hg : Gl X x) (hm : X.mg x = some u) (h : Q u s)
    (hd : (x == ("__debug__" : Str)) = false := by decide) : wpAny (model X.prog X.w) X.A (eval (.Name x pos) X.env) Q E s :=
  Calls.Name_function_global I.ok.kind hg (Calls.loadGlobal_global (by rw [I.ok.glob]; exact I.mod.glob.keeps I.bk) hm h) hd
theorem ld_blt {E : Value → Shared → Prop} {pins : List (Addr × Obj)} {s : Shared} {σ : St} {H : Hp} {x : Str} {u : Value} {pos : Pos} {Q : Value → Shared → Prop} (I : Inv X pins σ H s) (hg : Gl X x) (hm : X.mg x = none) (hv : bootBuiltins x = some u) (h : Q u s)
    (hn : x ≠ "__name__" := by decide) (hd : (x == ("__debug__" : Str)) = false := by decide) : wpAny (model X.prog X.w) X.A (eval (.Name x pos) X.env) Q E s := by
  obtain ⟨mb, h1, h2⟩ := I.mod.blt
  exact Calls.Name_function_global I.ok.kind hg (Calls.loadGlobal_builtin (by rw [I.ok.glob]; exact I.mod.glob.keeps I.bk) hm (by rw [I.ok.blt]; exact h1.keeps I.bk) ((h2 x hn).trans hv) h) hd
theorem pe_glob {x : Str} {v : V} {u : Value} {pos : Pos} (hg : Gl X x) (hm : X.mg x = some u) (r : RelV v u) (hd : (x == ("__debug__" : Str)) = false := by decide) : PE X (.Name x pos) (tC v) :=
  fun _ _ _ H _ I h => ld_glob I hg hm ⟨v, H, I, r, h⟩ hd
theorem pe_bltn {x : Str} {v : V} {u : Value} {pos : Pos} (hg : Gl X x) (hm : X.mg x = none) (hv : bootBuiltins x = some u) (r : RelV v u) (hn : x ≠ "__name__" := by decide) (hd : (x == ("__debug__" : Str)) = false := by decide) : PE X (.Name x pos) (tC v) :=
  fun _ _ _ H _ I h => ld_blt I hg hm hv ⟨v, H, I, r, h⟩ hn hd
variable {a b : Expr} {ta tb : TE} {pos : Pos}
noncomputable def PC (X : Cx) (op : CmpOp) (a b : Expr) (t : TE) : Prop :=
  ∀ (pins : List (Addr × Obj)) (s : Shared) (σ : St) (H : Hp) (Q : VK), Inv X pins σ H s → t σ H Q →
    wpAny (model X.prog X.w) X.A (eval a X.env) (fun v s₁ => wpAny (model X.prog X.w) X.A (eval b X.env) (fun u s₂ => wpAny (model X.prog X.w) X.A (compareOp op v u) (EP X pins σ Q) X.xe s₂) X.xe s₁) X.xe s
theorem nobehind (b : Expr) {op : CmpOp} (h : op ≠ .In) (h2 : op ≠ .NotIn) : behindInMarks op b = false := by
  have e1 : (op == CmpOp.In) = false := by cases op <;> first | rfl | exact absurd rfl h
  have e2 : (op == CmpOp.NotIn) = false := by cases op <;> first | rfl | exact absurd rfl h2
  cases b <;> simp [behindInMarks, e1, e2]
noncomputable def tIsN (ta : TE) : TE := fun σ H Q => ta σ H fun x H1 => Q (.bl (decide (x = .non))) H1
noncomputable def tNotN (ta : TE) : TE := fun σ H Q => ta σ H fun x H1 => Q (.bl (!decide (x = .non))) H1
theorem RelV.none_iff {x : V} {v : Value} (r : RelV x v) : (v == Value.none) = decide (x = .non) := by
  cases x with
  | non => cases r; rfl
  | bl _ => cases r; rfl
  | int _ => obtain ⟨t, rfl⟩ := r; rfl
  | str _ => obtain ⟨t, rfl⟩ := r; rfl
  | byt _ => obtain ⟨t, rfl⟩ := r; rfl
  | flt _ => obtain ⟨t, rfl⟩ := r; rfl
  | ref _ => cases r; rfl
  | ty _ => cases r; rfl
theorem pc_isN {j pos'} (ha : PE X a ta) : PC X .Is a (.Constant .none j pos') (tIsN ta) := by
  intro pins s σ H Q I h
  refine thn (ha pins s σ H _ I h) fun v s1 ⟨x, H1, I1, r1, q1⟩ => ?_
  exact Constant_none (is_none_gen ⟨.bl _, H1, I1, by rw [r1.none_iff]; rfl, q1⟩)
theorem pc_notN {j pos'} (ha : PE X a ta) : PC X .IsNot a (.Constant .none j pos') (tNotN ta) := by
  intro pins s σ H Q I h
  refine thn (ha pins s σ H _ I h) fun v s1 ⟨x, H1, I1, r1, q1⟩ => ?_
  exact Constant_none (isnot_none_gen ⟨.bl _, H1, I1, by rw [r1.none_iff]; rfl, q1⟩)
noncomputable def tB (t : TE) : TT := fun σ H Q => t σ H fun x H1 => ∃ c, x = .bl c ∧ Q c H1
theorem pe_cmp {op : CmpOp} {t : TE} (h : PC X op a b t) (h1 : behindInMarks op b = false := by first | exact nobehind _ (by decide) (by decide) | rfl) : PE X (.Compare a [op] [b] pos) t := fun pins s σ H Q I hw => wpAny_Compare1 (h pins s σ H Q I hw) h1
theorem pt_cmp {op : CmpOp} {t : TE} (h : PC X op a b t) (h1 : behindInMarks op b = false := by first | exact nobehind _ (by decide) (by decide) | rfl) : PT X (.Compare a [op] [b] pos) (tB t) := by
  intro pins s σ H Q I hw
  refine wpAny_isTrue_Compare1 (thn (h pins s σ H _ I hw) fun v s1 h1 => thn h1 fun u s2 h2 => thn h2 fun c s3 ⟨x, H1, I1, r1, q1⟩ => ?_) h1
  obtain ⟨d, rfl, q⟩ := q1
  cases r1
  exact wpAny_truthy_bool ⟨H1, I1, q⟩
theorem pt_val {e : Expr} {t : TE} (h : PE X e t) (he : ∀ whole, isTrue e X.env whole = (do let v ← whole; standAt e.pos; holding [v] (truthy v)) := by intro _; rfl) : PT X e (tB t) := by
  intro pins s σ H Q I hw
  refine isTrue_plain (thn (h pins s σ H _ I hw) fun v s1 ⟨x, H1, I1, r1, q1⟩ => ?_) (he _)
  obtain ⟨d, rfl, q⟩ := q1
  cases r1
  exact wpAny_truthy_bool ⟨H1, I1, q⟩
variable {tA tB' : TT} {rest : List Expr}
noncomputable def tAnd (t u : TT) : TT := fun σ H Q => t σ H fun c H1 => if c = true then u σ H1 Q else Q false H1
noncomputable def tOr (t u : TT) : TT := fun σ H Q => t σ H fun c H1 => if c = true then Q true H1 else u σ H1 Q
noncomputable def tNot (t : TT) : TT := fun σ H Q => t σ H fun c H1 => Q (!c) H1
theorem pw_and1 (ha : PT X a tA) : PW X (.BoolOp .And [a] pos) tA := by
  intro wh pins s σ H Q I h
  refine isTrue_and (thn (ha pins s σ H Q I h) fun c s1 e => ?_)
  cases c with
  | true => exact isTrue_and_nil e
  | false => exact e
theorem pw_or1 (ha : PT X a tA) : PW X (.BoolOp .Or [a] pos) tA := by
  intro wh pins s σ H Q I h
  refine isTrue_or (thn (ha pins s σ H Q I h) fun c s1 e => ?_)
  cases c with
  | false => exact isTrue_or_nil e
  | true => exact e
theorem pw_and (ha : PT X a tA) (hb : PW X (.BoolOp .And (b :: rest) pos) tB') : PW X (.BoolOp .And (a :: b :: rest) pos) (tAnd tA tB') := by
  intro wh pins s σ H Q I h
  refine isTrue_and (thn (ha pins s σ H _ I h) fun c s1 ⟨H1, I1, q1⟩ => ?_)
  cases c with
  | true => exact hb wh pins s1 σ H1 Q I1 q1
  | false => exact ⟨H1, I1, q1⟩
theorem pw_or (ha : PT X a tA) (hb : PW X (.BoolOp .Or (b :: rest) pos) tB') : PW X (.BoolOp .Or (a :: b :: rest) pos) (tOr tA tB') := by
  intro wh pins s σ H Q I h
  refine isTrue_or (thn (ha pins s σ H _ I h) fun c s1 ⟨H1, I1, q1⟩ => ?_)
  cases c with
  | true => exact ⟨H1, I1, q1⟩
  | false => exact hb wh pins s1 σ H1 Q I1 q1
theorem pt_not (ha : PT X a tA) : PT X (.UnaryOp .Not a pos) (tNot tA) := by
  intro pins s σ H Q I h
  exact isTrue_not (ha pins s σ H (fun c H1 => Q (!c) H1) I h)
noncomputable def tAndV (ta tb : TE) : TE := fun σ H Q => ta σ H fun x H1 => ∃ c, x = .bl c ∧ if c = true then tb σ H1 Q else Q (.bl false) H1
noncomputable def tOrV (ta tb : TE) : TE := fun σ H Q => ta σ H fun x H1 => ∃ c, x = .bl c ∧ if c = true then Q (.bl true) H1 else tb σ H1 Q
noncomputable def tNotV (ta : TE) : TE := fun σ H Q => ta σ H fun x H1 => ∃ c, x = .bl c ∧ Q (.bl (!c)) H1
theorem pe_one {op} {t : TE} (h : PE X a t) : PE X (.BoolOp op [a] pos) t := fun pins s σ H Q I hw => BoolOp_one (h pins s σ H Q I hw)
theorem pe_and (ha : PE X a ta) (hb : PE X (.BoolOp .And (b :: rest) pos) tb) : PE X (.BoolOp .And (a :: b :: rest) pos) (tAndV ta tb) := by
  intro pins s σ H Q I h
  refine BoolOp_and (thn (ha pins s σ H _ I h) fun v s1 ⟨x, H1, I1, r1, q1⟩ => ?_)
  obtain ⟨c, rfl, q1⟩ := q1
  cases r1
  refine wpAny_truthy_bool ?_
  cases c with
  | true => exact hb pins s1 σ H1 Q I1 q1
  | false => exact ⟨.bl false, H1, I1, rfl, q1⟩
theorem pe_or (ha : PE X a ta) (hb : PE X (.BoolOp .Or (b :: rest) pos) tb) : PE X (.BoolOp .Or (a :: b :: rest) pos) (tOrV ta tb) := by
  intro pins s σ H Q I h
  refine BoolOp_or (thn (ha pins s σ H _ I h) fun v s1 ⟨x, H1, I1, r1, q1⟩ => ?_)
  obtain ⟨c, rfl, q1⟩ := q1
  cases r1
  refine wpAny_truthy_bool ?_
  cases c with
  | false => exact hb pins s1 σ H1 Q I1 q1
  | true => exact ⟨.bl true, H1, I1, rfl, q1⟩
theorem pe_not (ha : PE X a ta) : PE X (.UnaryOp .Not a pos) (tNotV ta) := by
  intro pins s σ H Q I h
  refine UnaryOp_ (thn (ha pins s σ H _ I h) fun v s1 ⟨x, H1, I1, r1, q1⟩ => ?_)
  obtain ⟨c, rfl, q1⟩ := q1
  cases r1
  exact not_of (wpAny_truthy_bool ⟨.bl (!c), H1, I1, rfl, q1⟩)
end
end L2
namespace L2
open PySem PySem.Spec PyProof.Rows
noncomputable def SqL (K : PySem.W.Frag) (H : Hp) (a : Addr) (xs : List V) : Prop :=
  Rd H a (.lst xs) ∨
    ∃ (o : Obj) (its : Array Value) (n : Nat), K.lookup a = some o ∧ o.cls = .type "list" ∧ o.dict = none ∧ o.data = .seq its n ∧ its.size ≤ sizeLine ∧ Vals xs its.toList
noncomputable def SqT (K : PySem.W.Frag) (H : Hp) (a : Addr) (xs : List V) : Prop :=
  Rd H a (.tup xs) ∨
    ∃ (o : Obj) (its : Array Value) (n : Nat), K.lookup a = some o ∧ o.cls = .type "tuple" ∧ o.data = .seq its n ∧ its.size ≤ sizeLine ∧ Vals xs its.toList
noncomputable def absV : Value → Option V
  | .none => some .non
  | .bool b => some (.bl b)
  | .int i _ => some (.int i)
  | .str x _ => some (.str x)
  | .bytes b _ => some (.byt b)
  | .float b _ => some (.flt b)
  | .ref a => some (.ref a)
  | .type n => some (.ty n)
  | _ => none
theorem RelV.abs {x : V} {u : Value} (r : RelV x u) : absV u = some x := by
  cases x with
  | non => cases r; rfl
  | bl _ => cases r; rfl
  | int _ => obtain ⟨t, rfl⟩ := r; rfl
  | str _ => obtain ⟨t, rfl⟩ := r; rfl
  | byt _ => obtain ⟨t, rfl⟩ := r; rfl
  | flt _ => obtain ⟨t, rfl⟩ := r; rfl
  | ref _ => cases r; rfl
  | ty _ => cases r; rfl
theorem RelV.inj {x y : V} {u : Value} (r : RelV x u) (q : RelV y u) : x = y := Option.some.inj (r.abs.symm.trans q.abs)
theorem Vals.inj : ∀ {xs ys : List V} {us : List Value}, Vals xs us → Vals ys us → xs = ys
  | _, _, _, .nil, .nil => rfl
  | _, _, _, .cons r t, .cons r' t' => by rw [r.inj r', Vals.inj t t']
section
variable {X : Cx} {pins : List (Addr × Obj)} {σ : St} {H : Hp} {s : Shared} {a : Addr} {xs ys : List V}
theorem SqL.of {K : PySem.W.Frag} (h : H a = some (.lst xs)) : SqL K H a xs := .inl (.inl h)
theorem SqT.of {K : PySem.W.Frag} (h : H a = some (.tup xs)) : SqT K H a xs := .inl (.inl h)
theorem Inv.list (I : Inv X pins σ H s) (h : SqL X.K H a xs) : ∃ its : List Value, Vals xs its ∧ PlainL s.heap a its.toArray ∧ xs.length ≤ sizeLine := by
  rcases h with h | ⟨o, its, n, hk, hc, hd, hs, hz, r⟩
  · obtain ⟨z, its, n, r, e⟩ := h.ok I.hok
    exact ⟨its, r, ⟨_, n, e, rfl, rfl, rfl⟩, z⟩
  · refine ⟨its.toList, r, ⟨o, n, I.kIn a o hk, hc, hd, by simpa using hs⟩, ?_⟩
    have e := r.length
    simp only [Array.length_toList] at e
    omega
theorem Inv.tuple (I : Inv X pins σ H s) (h : SqT X.K H a xs) : ∃ its : List Value, Vals xs its ∧ IsTup s.heap a its.toArray ∧ xs.length ≤ sizeLine := by
  rcases h with h | ⟨o, its, n, hk, hc, hs, hz, r⟩
  · obtain ⟨z, its, r, p⟩ := h.ok I.hok
    exact ⟨its, r, p, z⟩
  · refine ⟨its.toList, r, ⟨o, I.kIn a o hk, hc, n, by simpa using hs⟩, ?_⟩
    have e := r.length
    simp only [Array.length_toList] at e
    omega
theorem Inv.list_inj (I : Inv X pins σ H s) (h : SqL X.K H a xs) (h' : SqL X.K H a ys) : xs = ys := by
  obtain ⟨its, r, ⟨o, n, e, _, _, d⟩, _⟩ := I.list h
  obtain ⟨its', r', ⟨o', n', e', _, _, d'⟩, _⟩ := I.list h'
  rw [e] at e'; cases e'
  rw [d] at d'
  injection d' with d1 _
  have : its = its' := by simpa using congrArg Array.toList d1
  subst this
  exact r.inj r'
end
noncomputable abbrev Cx.wish (X : Cx) (E : Value → Shared → Prop) : Cx := { X with xe := E }
noncomputable abbrev Cx.nox (X : Cx) : Cx := X.wish fun _ _ => False
theorem Cx.Ok.wish {X : Cx} (ok : X.Ok) (E : Value → Shared → Prop) : (X.wish E).Ok :=
  ⟨ok.mod, ok.kind, ok.glob, ok.blt, ok.above, ok.inj, ok.has, ok.cab, ok.hd, ok.frames, ok.stk, ok.exf, ok.bs, ok.bsz, ok.noex, ok.exfs, ok.funs, ok.frf⟩
theorem Cx.Ok.unwish {X : Cx} {E : Value → Shared → Prop} (ok : (X.wish E).Ok) : X.Ok :=
  ⟨ok.mod, ok.kind, ok.glob, ok.blt, ok.above, ok.inj, ok.has, ok.cab, ok.hd, ok.frames, ok.stk, ok.exf, ok.bs, ok.bsz, ok.noex, ok.exfs, ok.funs, ok.frf⟩
section
variable {X : Cx} {pins : List (Addr × Obj)} {σ : St} {H : Hp} {s : Shared} {E : Value → Shared → Prop}
theorem Inv.wish (I : Inv X pins σ H s) (E : Value → Shared → Prop) : Inv (X.wish E) pins σ H s := ⟨I.ok.wish E, I.os, I.bare, I.base, I.loc, I.cell, I.free, I.freeC, I.pin, I.hok, I.len⟩
theorem Inv.unwish (I : Inv (X.wish E) pins σ H s) : Inv X pins σ H s := ⟨I.ok.unwish, I.os, I.bare, I.base, I.loc, I.cell, I.free, I.freeC, I.pin, I.hok, I.len⟩
theorem SP.unwish {D : Ends} {f : Flow} {s' : Shared} (h : SP (X.wish E) pins D f s') : SP X pins D f s' := by
  cases f with
  | next => obtain ⟨σ', H', I, q⟩ := h; exact ⟨σ', H', I.unwish, q⟩
  | brk => obtain ⟨σ', H', I, q⟩ := h; exact ⟨σ', H', I.unwish, q⟩
  | cont => obtain ⟨σ', H', I, q⟩ := h; exact ⟨σ', H', I.unwish, q⟩
  | ret u => obtain ⟨v, σ', H', I, r, q⟩ := h; exact ⟨v, σ', H', I.unwish, r, q⟩
theorem PE.nox {e : Expr} {t : TE} (h : PE X.nox e t) : PE X e t := fun pins s σ H Q I hw =>
  wpAny_mono (h pins s σ H Q (I.wish _) hw) (fun _ _ ⟨v, H', I', r, q⟩ => ⟨v, H', I'.unwish, r, q⟩) fun _ _ z => False.elim z
theorem PT.nox {e : Expr} {t : TT} (h : PT X.nox e t) : PT X e t := fun pins s σ H Q I hw =>
  wpAny_mono (h pins s σ H Q (I.wish _) hw) (fun _ _ ⟨H', I', q⟩ => ⟨H', I'.unwish, q⟩) fun _ _ z => False.elim z
theorem PSs.nox {st : List Stmt} {t : TS} (h : PSs X.nox st t) : PSs X st t := fun pins s σ H D I hw =>
  wpAny_mono (h pins s σ H D (I.wish _) hw) (fun _ _ q => q.unwish) fun _ _ z => False.elim z
end
section
variable {X : Cx} {st : Stmt} {rest : List Stmt} {t u : TS} {e : Expr} {te : TE} {pos : Pos}
noncomputable def tNext : TS := fun D σ H => D.nx σ H
noncomputable def tSeq (t u : TS) : TS := fun D σ H => t { D with nx := u D } σ H
theorem pss_nil : PSs X [] tNext := fun _ _ σ H _ I h => wpAny_execs_nil ⟨σ, H, I, h⟩
theorem pss_cons (h1 : PS X st t) (h2 : PSs X rest u) : PSs X (st :: rest) (tSeq t u) := by
  intro pins s σ H D I h
  refine wpAny_execs_cons (thn (h1 pins s σ H { D with nx := u D } I h) fun f s1 q => ?_)
  cases f with
  | next =>
    obtain ⟨σ', H', I', q⟩ := q
    exact h2 pins s1 σ' H' D I' q
  | ret v => exact q
  | brk => exact q
  | cont => exact q
theorem pss_one (h1 : PS X st t) : PSs X [st] t := by
  intro pins s σ H D I h
  refine wpAny_execs_cons (thn (h1 pins s σ H D I h) fun f s1 q => ?_)
  cases f with
  | next => exact wpAny_execs_nil q
  | ret v => exact q
  | brk => exact q
  | cont => exact q
theorem Inv.quiet {pins : List (Addr × Obj)} {σ : St} {H : Hp} {s : Shared} (I : Inv X pins σ H s) : interactive X.env = false := by simp [interactive, I.ok.kind]
noncomputable def tDrop (te : TE) : TS := fun D σ H => te σ H fun _ H1 => D.nx σ H1
theorem ps_expr (he : PE X e te) (hs : swapsWith e none pos.line X.env = pure false := by rfl) : PS X (.Expr e pos) (tDrop te) := by
  intro pins s σ H D I h
  exact wpAny_Expr_any (thn (he pins s σ H _ I h) fun v s1 ⟨x, H1, I1, r1, q1⟩ => ⟨σ, H1, I1, q1⟩) I.quiet hs
noncomputable def tRet (te : TE) : TS := fun D σ H => te σ H D.rt
theorem ps_ret (he : PE X e te) : PS X (.Return (some e) pos) (tRet te) := by
  intro pins s σ H D I h
  exact wpAny_Return_some (thn (he pins s σ H _ I h) fun v s1 ⟨x, H1, I1, r1, q1⟩ => ⟨x, σ, H1, I1, r1, q1⟩)
noncomputable def tIfS (c : TT) (t u : TS) : TS := fun D σ H => c σ H fun b H1 => if b = true then t D σ H1 else u D σ H1
theorem ps_if {c : Expr} {a b : List Stmt} {tc : TT} (hc : PT X c tc) (ha : PSs X a t) (hb : PSs X b u) : PS X (.If c a b pos) (tIfS tc t u) := by
  intro pins s σ H D I h
  refine wpAny_If (thn (hc pins s σ H _ I h) fun d s1 ⟨H1, I1, q1⟩ => ?_)
  cases d with
  | true => exact ha pins s1 σ H1 D I1 q1
  | false => exact hb pins s1 σ H1 D I1 q1
end
noncomputable abbrev TG := V → St → Hp → (St → Hp → Prop) → Prop
noncomputable abbrev TGs := List V → St → Hp → (St → Hp → Prop) → Prop
noncomputable def PG (X : Cx) (target : Expr) (t : TG) : Prop :=
  ∀ (pins : List (Addr × Obj)) (s : Shared) (σ : St) (H : Hp) (v : V) (u : Value) (Q : St → Hp → Prop), Inv X pins σ H s → RelV v u → t v σ H Q →
    wpAny (model X.prog X.w) X.A (assign target X.env u) (fun _ s' => ∃ σ' H', Inv X pins σ' H' s' ∧ Q σ' H') X.xe s
noncomputable def PGs (X : Cx) (ts : List Expr) (t : TGs) : Prop :=
  ∀ (pins : List (Addr × Obj)) (s : Shared) (σ : St) (H : Hp) (vs : List V) (us : List Value) (Q : St → Hp → Prop), Inv X pins σ H s → Vals vs us → t vs σ H Q →
    wpAny (model X.prog X.w) X.A (assignInOrder ((assignEach ts X.env).map (·.2)) us) (fun _ s' => ∃ σ' H', Inv X pins σ' H' s' ∧ Q σ' H') X.xe s
noncomputable abbrev TSet := V → V → V → Hp → (Hp → Prop) → Prop
noncomputable def PSet (X : Cx) (t : TSet) : Prop :=
  ∀ (pins : List (Addr × Obj)) (s : Shared) (σ : St) (H : Hp) (o i v : V) (ov iv u : Value) (Q : Hp → Prop), Inv X pins σ H s → RelV o ov → RelV i iv → RelV v u → t o i v H Q →
    wpAny (model X.prog X.w) X.A (setItem ov iv u) (fun _ s' => ∃ H', Inv X pins σ H' s' ∧ Q H') X.xe s
section
variable {X : Cx} {pos : Pos}
noncomputable def gName (i : Nat) : TG := fun v σ H Q => Q (σ.set i (some v)) H
theorem pg_name {i : Nat} {x : Str} (hN : X.N.Nodup) (hi : X.N[i]? = some x) (hx : Loc X.env.scope x) (hf : X.fn x = true ∨ X.env.scope.names.lookup x = some .local := by first | exact .inl rfl | exact .inr rfl | assumption) : PG X (.Name x pos) (gName i) := by
  intro pins s σ H v u Q I r h
  exact wpAny_assign_Name (store_ok I hN hi hx r (fun s' I' => ⟨_, H, I', h⟩) hf)
noncomputable def gNil : TGs := fun vs σ H Q => vs = [] ∧ Q σ H
noncomputable def gCons (t : TG) (u : TGs) : TGs := fun vs σ H Q => ∃ v r, vs = v :: r ∧ t v σ H fun σ' H' => u r σ' H' Q
theorem pgs_nil : PGs X [] gNil := by
  intro pins s σ H vs us Q I r h
  obtain ⟨e, h⟩ := h
  subst e
  cases r
  exact assignInOrder_nil ⟨σ, H, I, h⟩
theorem pgs_cons {e : Expr} {es : List Expr} {t : TG} {u : TGs} (h1 : PG X e t) (h2 : PGs X es u)
    (hs : (assignEach (e :: es) X.env).map (·.2) = assign e X.env :: (assignEach es X.env).map (·.2) := by rfl) : PGs X (e :: es) (gCons t u) := by
  intro pins s σ H vs us Q I r h
  obtain ⟨v, vr, e1, h⟩ := h
  subst e1
  cases r with
  | cons r rr =>
    rw [hs]
    refine assignInOrder_cons (thn (h1 pins s σ H _ _ _ I r h) fun _ s1 ⟨σ1, H1, I1, q1⟩ => ?_)
    exact h2 pins s1 σ1 H1 _ _ Q I1 rr q1
noncomputable def gTup (K : PySem.W.Frag) (n : Nat) (t : TGs) : TG := fun v σ H Q => ∃ a xs, v = .ref a ∧ SqT K H a xs ∧ xs.length = n ∧ t xs σ H Q
theorem pg_tup {es : List Expr} {k : Nat} {t : TGs} {n : Nat} (hc : X.calm = true) (h : PGs X es t)
    (hn : (assignEach es X.env).length = n := by rfl) (hst : (assignEach es X.env).findIdx? (·.1) = none := by rfl) : PG X (.Tuple es k pos) (gTup X.K n t) := by
  intro pins s σ H v u Q I r hw
  obtain ⟨a, xs, e1, hq, hl, hw⟩ := hw
  subst e1
  cases r
  obtain ⟨its, rv, ht, hz⟩ := I.tuple hq
  refine assign_Tuple_tuple (I.ok.hd hc) ht (by simp [hn, ← hl, rv.length]) hst fun h' hx => ?_
  have I1 : Inv X pins σ H { s with heap := h' } := I.kept (t' := s.toks) fun b o e => hx b o (Nat.ne_of_lt (Heap.lt_size e)) e
  exact h pins _ σ H xs _ Q I1 (by simpa using rv) hw
noncomputable def gSub (to ti : TE) (t : TSet) : TG := fun v σ H Q => to σ H fun o H1 => ti σ H1 fun i H2 => t o i v H2 fun H3 => Q σ H3
theorem pg_sub {o i : Expr} {to ti : TE} {t : TSet} (ho : PE X o to) (hi : PE X i ti) (hs : PSet X t)
    (ha : ∀ v, assign (.Subscript o i pos) X.env v = (do
      let ov ← holding [v] (eval o X.env)
      let iv ← holding [v, ov] (eval i X.env)
      standAt pos
      holding [v, ov, iv] (setItem ov iv v)
      release [v, ov, iv] []) := by intro _; rfl) : PG X (.Subscript o i pos) (gSub to ti t) := by
  intro pins s σ H v u Q I r h
  rw [ha]
  refine wpAny_bind (wpAny_holding (thn (ho pins s σ H _ I h) fun ov s1 ⟨x, H1, I1, r1, q1⟩ => ?_))
  refine wpAny_bind (wpAny_holding (thn (hi pins s1 σ H1 _ I1 q1) fun iv s2 ⟨y, H2, I2, r2, q2⟩ => ?_))
  refine wpAny_bind (wpAny_standAt (wpAny_bind (wpAny_holding (thn (hs pins s2 σ H2 x y v ov iv u _ I2 r1 r2 r q2) fun _ s3 ⟨H3, I3, q3⟩ => ?_))))
  exact wpAny_release ⟨σ, H3, I3, q3⟩
noncomputable def tAsg (te : TE) (g : TG) : TS := fun D σ H => te σ H fun x H1 => g x σ H1 D.nx
theorem ps_asg {tg e : Expr} {te : TE} {g : TG} (he : PE X e te) (hg : PG X tg g) (hs : swapsWithSole [tg] e pos.line X.env = pure false := by rfl) (hw : swappedStores [tg] e X.env = pure none := by rfl)
    (h1 : (assignEach [tg] X.env).map (·.2) = [assign tg X.env] := by rfl) : PS X (.Assign [tg] e pos) (tAsg te g) := by
  intro pins s σ H D I h
  refine wpAny_Assign_stores (thn (he pins s σ H _ I h) fun v s1 ⟨x, H1, I1, r1, q1⟩ => ?_) hs hw
  rw [h1]
  exact thn (hg pins s1 σ H1 x v _ I1 r1 q1) fun _ s2 q => q
theorem ps_set {i : Nat} {x : Str} {e : Expr} {te : TE} {pos' : Pos} (hN : X.N.Nodup) (hi : X.N[i]? = some x) (hx : Loc X.env.scope x) (he : PE X e te) (hs : swapsWith e (some (.Name x pos')) pos.line X.env = pure false := by rfl) (hf : X.fn x = true ∨ X.env.scope.names.lookup x = some .local := by first | exact .inl rfl | exact .inr rfl | assumption) :
    PS X (.Assign [.Name x pos'] e pos) (tAsg te (gName i)) := by
  intro pins s σ H D I h
  refine wpAny_Assign_Name (thn (he pins s σ H _ I h) fun v s1 ⟨y, H1, I1, r1, q1⟩ => ?_) hs
  exact store_ok I1 hN hi hx r1 (fun s2 I2 => ⟨_, H1, I2, q1⟩) hf
end
section
variable {X : Cx} {pos : Pos}
end
structure It where
  go : Nat → Hp → Prop
  yld : Nat → Hp → V → Hp → Prop
  stop : Nat → Hp → Prop
noncomputable def FpOk (X : Cx) (pins : List (Addr × Obj)) (H : Hp) (b : Addr) : Prop :=
  H b = none ∧ b ≠ X.env.locals ∧ b ∉ X.fs ∧ (b ∈ X.ex ∨ X.s₀.heap.objs.size ≤ b) ∧ (∀ x c, X.env.cells.lookup x = some c → c ≠ b) ∧ ∀ p ∈ X.pn ++ pins, p.1 ≠ b
theorem Inv.fpOk {X : Cx} {pins : List (Addr × Obj)} {σ : St} {H H' : Hp} {s : Shared} {b : Addr} (I : Inv X pins σ H s) (hb : s.heap.objs.size ≤ b) (hn : H' b = none) : FpOk X pins H' b := by
  refine ⟨hn, Nat.ne_of_gt (Nat.lt_of_lt_of_le I.lt hb), I.nofs hb, .inr (Nat.le_trans I.sz hb), fun x c e z => ?_, fun p hp z => ?_⟩
  · obtain ⟨v, q⟩ := I.cell x c e
    exact absurd (Nat.lt_of_lt_of_le q.lt (by rw [z]; exact hb)) (Nat.lt_irrefl _)
  · exact absurd (Nat.lt_of_lt_of_le (Heap.lt_size (I.pin p hp).1) (by rw [z]; exact hb)) (Nat.lt_irrefl _)
structure Turn (P : Program) (w : World) (K : PySem.W.Frag) (tg : Expr) (J : It) (fp : List Addr) (it : Addr) (tn : Nat → Heap → Prop) : Prop where
  mem : it ∈ fp
  obj : ∀ i h, tn i h → ∀ b ∈ fp, ∃ o, h.get? b = some o ∧ ∀ v, o.data ≠ .cell v
  keep : ∀ i h h', tn i h → (∀ b ∈ fp, ∀ o, h.get? b = some o → h'.get? b = some o) → tn i h'
  item : ∀ (X : Cx), X.prog = P → X.w = w → X.K = K → X.calm = true → ∀ (i : Nat) (pins : List (Addr × Obj)) (s : Shared) (σ : St) (H : Hp) (E : Value → Shared → Prop), Inv X pins σ H s → (∀ b ∈ fp, FpOk X pins H b) → tn i s.heap → J.go i H →
    wpAny (model P w) X.A (pyNext (.ref it)) (fun r s1 => ∃ u, r = some u ∧
      wpAny (model P w) X.A (letOwnedTupleGo tg (.ref it) u) (fun _ s2 => ∃ x H', Inv X pins σ H' s2 ∧ RelV x u ∧ J.yld i H x H' ∧ tn (i + 1) s2.heap ∧ ∀ b ∈ fp, H' b = none) E s1) E s
  done : ∀ (X : Cx), X.prog = P → X.w = w → X.K = K → X.calm = true → ∀ (i : Nat) (pins : List (Addr × Obj)) (s : Shared) (σ : St) (H : Hp) (E : Value → Shared → Prop), Inv X pins σ H s → (∀ b ∈ fp, FpOk X pins H b) → tn i s.heap → J.stop i H →
    wpAny (model P w) X.A (pyNext (.ref it)) (fun r s1 => r = none ∧ Inv X pins σ H s1) E s
  self : ∀ (A : Around) (i : Nat) (s : Shared) (Q : Value → Shared → Prop) (E : Value → Shared → Prop), tn i s.heap → Q (.ref it) s → wpAny (model P w) A (pyIter (.ref it)) Q E s
noncomputable abbrev TI := St → Hp → (It → Hp → Prop) → Prop
noncomputable def PIE (X : Cx) (pins : List (Addr × Obj)) (σ : St) (tg : Expr) (R : It → Hp → Prop) (itv : Value) (s2 : Shared) : Prop :=
  ∃ (it : Addr) (fp : List Addr) (tn : Nat → Heap → Prop) (J : It) (H' : Hp), itv = .ref it ∧ Inv X pins σ H' s2 ∧ Turn X.prog X.w X.K tg J fp it tn ∧ tn 0 s2.heap ∧ (∀ b ∈ fp, FpOk X pins H' b) ∧ R J H'
noncomputable def PI (X : Cx) (tg iter : Expr) (wi : TI) : Prop :=
  ∀ (pins : List (Addr × Obj)) (s : Shared) (σ : St) (H : Hp) (R : It → Hp → Prop), Inv X pins σ H s → wi σ H R →
    wpAny (model X.prog X.w) X.A (eval iter X.env) (fun v s1 => wpAny (model X.prog X.w) X.A (pyIter v) (PIE X pins σ tg R) X.xe s1) X.xe s
theorem go_of {M : Model} {A : Around} {E : Value → Shared → Prop} {s : Shared} {tg : Expr} {it : Addr} {u : Value} {o : Obj} {n : String} {vs : Array Value} {Q : Unit → Shared → Prop} (ho : s.heap.get? it = some o) (hc : o.cls = .type n) (hd : o.data = .fields vs)
    (hn : ["enumerate", "zip", "dict_itemiterator", "dict_reverseitemiterator", "odict_iterator", "itertools.zip_longest", "itertools.pairwise"].contains n = false) (hQ : Q () s) : wpAny M A (letOwnedTupleGo tg (.ref it) u) Q E s := by
  unfold letOwnedTupleGo
  cases tg <;> first
    | exact wpAny_pure hQ
    | (cases u <;> first
        | exact wpAny_pure hQ
        | (refine wpAny_bind (wpAny_load ho ?_)
           rw [hc, hd]
           show wpAny M A (if (["enumerate", "zip", "dict_itemiterator", "dict_reverseitemiterator", "odict_iterator", "itertools.zip_longest", "itertools.pairwise"].contains n && vs[0]? == some (rawInt _)) = true then _ else _) Q E s
           rw [if_neg (by intro h; rw [hn, Bool.false_and] at h; cases h)]
           exact wpAny_pure hQ))
noncomputable def Itl (K : PySem.W.Frag) (a : Addr) : It :=
  ⟨fun i H => ∃ xs x, SqL K H a xs ∧ xs[i]? = some x, fun i H x H' => H' = H ∧ ∀ xs, SqL K H a xs → xs[i]? = some x, fun i H => ∃ xs, SqL K H a xs ∧ xs.length ≤ i⟩
noncomputable def Itr (lo : Int) (n : Nat) : It := ⟨fun i _ => i < n, fun i H x H' => H' = H ∧ x = .int (lo + i), fun i _ => n ≤ i⟩
theorem turn_list {P : Program} {w : World} {K : PySem.W.Frag} {tg : Expr} (a it : Addr) : Turn P w K tg (Itl K a) [it] it (fun i h => h.IsListIter it a i) where
  mem := by simp
  obj := fun i h st b hb => by
    have e : b = it := by simpa using hb
    subst e
    obtain ⟨o, e, c, d⟩ := st
    exact ⟨o, e, fun v z => by rw [d] at z; cases z⟩
  keep := fun i h h' st k => st.at fun o e => k it (by simp) o e
  item := by
    intro X hP hw hK hc i pins s σ H E I hf st hg
    subst hP hw hK
    obtain ⟨xs, x, hq, hx⟩ := hg
    obtain ⟨its, rv, p, hz⟩ := I.list hq
    obtain ⟨u, hu, ru⟩ := rv.get hx
    obtain ⟨f0, f1, f2, f3, f4, f5⟩ := hf it (by simp)
    refine wpAny_pyNext_list_item st p.isList (x := u) (by simpa using hu) fun h' st' sb => ?_
    have I1 : Inv X pins σ H { s with heap := h' } := I.turned (t' := s.toks) (fun b o hb e => (sb.2 b hb).trans e) f0 f1 f3 f4 f5
    obtain ⟨o, e, c, d⟩ := id st'
    exact ⟨u, rfl, go_of (s := { s with heap := h' }) e c d (by decide) ⟨x, H, I1, ru, ⟨rfl, fun ys hy => by rw [I.list_inj hy hq]; exact hx⟩, st', fun b hb => (hf b hb).1⟩⟩
  done := by
    intro X hP hw hK hc i pins s σ H E I hf st hg
    subst hP hw hK
    obtain ⟨xs, hq, hx⟩ := hg
    obtain ⟨its, rv, p, hz⟩ := I.list hq
    obtain ⟨f0, f1, f2, f3, f4, f5⟩ := hf it (by simp)
    have hl := rv.length
    exact wpAny_pyNext_list_end (I.ok.hd hc) st p.isList (by simp; omega) fun h' eb => ⟨rfl, I.turned (t' := s.toks) (fun b o hb e => eb b o hb e) f0 f1 f3 f4 f5⟩
  self := fun _ _ _ _ _ st h => wpAny_pyIter_listiter st h
theorem turn_range {P : Program} {w : World} {K : PySem.W.Frag} {tg : Expr} (it : Addr) (lo : Int) (n : Nat) : Turn P w K tg (Itr lo n) [it] it (fun i h => IsRangeIter h it (lo + (i : Nat) * 1) ((n : Int) - (i : Nat)) 1) where
  mem := by simp
  obj := fun i h st b hb => by
    have e : b = it := by simpa using hb
    subst e
    exact ⟨_, st, fun v z => by
      have z' : Data.fields _ = Data.cell v := z
      cases z'⟩
  keep := fun i h h' st k => k it (by simp) _ st
  item := by
    intro X hP hw hK hc i pins s σ H E I hf st hg
    subst hP hw hK
    obtain ⟨f0, f1, f2, f3, f4, f5⟩ := hf it (by simp)
    have W := Walks.range (prog := X.prog) (w := X.w) (I.ok.hd hc) it lo 1 n
    refine W.item i s _ _ hg st fun v h' tk hv st' kk => ?_
    obtain ⟨t, rfl⟩ := hv
    have I1 : Inv X pins σ H { s with heap := h', toks := tk } := I.turned (fun b o hb e => kk b o (by simpa using hb) e) f0 f1 f3 f4 f5
    refine ⟨_, rfl, go_of (s := { s with heap := h', toks := tk }) (n := "range_iterator") st' rfl rfl (by decide) ⟨.int (lo + i), H, I1, ⟨t, ?_⟩, ⟨rfl, rfl⟩, st', fun b hb => (hf b hb).1⟩⟩
    rw [Int.mul_one]
  done := by
    intro X hP hw hK hc i pins s σ H E I hf st hg
    subst hP hw hK
    obtain ⟨f0, f1, f2, f3, f4, f5⟩ := hf it (by simp)
    exact wpAny_pyNext_range_end (I.ok.hd hc) st (by have : n ≤ i := hg; omega) fun h' eb => ⟨rfl, I.turned (t' := s.toks) (fun b o hb e => eb b o hb e) f0 f1 f3 f4 f5⟩
  self := fun _ _ _ _ _ st h => wpAny_pyIter_rangeiter st h
end L2
namespace L2
open PySem PySem.Spec PyProof.Rows
section
variable {X : Cx} {tg : Expr}
noncomputable def iList (K : PySem.W.Frag) (tl : TE) : TI := fun σ H R => tl σ H fun x H1 => ∃ a, x = .ref a ∧ (∃ xs, SqL K H1 a xs) ∧ R (Itl K a) H1
theorem pi_list {l : Expr} {tl : TE} (hl : PE X l tl) : PI X tg l (iList X.K tl) := by
  intro pins s σ H R I h
  refine thn (hl pins s σ H _ I h) fun v s1 ⟨x, H1, I1, r1, q1⟩ => ?_
  obtain ⟨a, e, ⟨xs, hq⟩, q⟩ := q1
  subst e
  cases r1
  obtain ⟨its, rv, p, hz⟩ := I1.list hq
  refine wpAny_pyIter_list p.isList ?_
  refine ⟨s1.heap.objs.size, [s1.heap.objs.size], _, _, H1, rfl, I1.kept (t' := s1.toks) fun b o e => Heap.get?_push_of_some _ e, turn_list a _, ⟨_, Heap.get?_push_size _ rfl, rfl, rfl⟩, fun b hb => ?_, q⟩
  have e : b = s1.heap.objs.size := by simpa using hb
  subst e
  exact I1.fpOk (Nat.le_refl _) (I1.hok.fresh (Nat.le_refl _))
theorem range_it {pins : List (Addr × Obj)} {σ : St} {H : Hp} {s : Shared} {R : It → Hp → Prop} {E : Value → Shared → Prop} {lo hi : Int} {t u v : Tok} {tk : Nat} (I : Inv X pins σ H s) (h1 : -(2 ^ 62) ≤ lo) (h2 : lo < 2 ^ 62) (h3 : -(2 ^ 62) ≤ hi) (h4 : hi < 2 ^ 62)
    (q : R (Itr lo (hi - lo).toNat) H) : wpAny (model X.prog X.w) X.A (pyIter (.ref s.heap.objs.size)) (PIE X pins σ tg R) E { s with heap := s.heap.push { cls := .type "range", data := .fields #[.int lo t, .int hi u, .int 1 v] }, toks := tk } := by
  refine wpAny_pyIter_range (IsRange.new ..) (small_one h1 h2 h3 h4) ?_
  have I1 : Inv X pins σ H { s with heap := s.heap.push { cls := .type "range", data := .fields #[.int lo t, .int hi u, .int 1 v] }, toks := tk } := I.kept fun b o e => Heap.get?_push_of_some _ e
  refine ⟨(s.heap.push { cls := .type "range", data := .fields #[.int lo t, .int hi u, .int 1 v] }).objs.size, [(s.heap.push { cls := .type "range", data := .fields #[.int lo t, .int hi u, .int 1 v] }).objs.size], _, _, H, rfl,
    I1.kept (t' := tk) fun b o e => Heap.get?_push_of_some _ e, turn_range _ lo (hi - lo).toNat, ?_, fun b hb => ?_, q⟩
  · have e1 : lo + ((0 : Nat) : Int) * 1 = lo := by simp
    have e2 : (((hi - lo).toNat : Nat) : Int) - ((0 : Nat) : Int) = Builtin.Range.rangeSize lo hi 1 := by rw [rangeSize_one]; split <;> omega
    show IsRangeIter _ _ (lo + ((0 : Nat) : Int) * 1) ((((hi - lo).toNat : Nat) : Int) - ((0 : Nat) : Int)) 1
    rw [e1, e2]
    exact Heap.get?_push_size _ rfl
  · have e : b = (s.heap.push { cls := .type "range", data := .fields #[.int lo t, .int hi u, .int 1 v] }).objs.size := by simpa using hb
    subst e
    exact I1.fpOk (Nat.le_refl _) (I1.hok.fresh (Nat.le_refl _))
noncomputable def iRng1 (ta : TA) : TI := fun σ H R => ta σ H fun vs H1 => ∃ j : Int, vs = [.int j] ∧ -(2 ^ 62) ≤ j ∧ j < 2 ^ 62 ∧ R (Itr 0 j.toNat) H1
noncomputable def iRng2 (ta : TA) : TI := fun σ H R => ta σ H fun vs H1 => ∃ i j : Int, vs = [.int i, .int j] ∧ (-(2 ^ 62) ≤ i ∧ i < 2 ^ 62 ∧ -(2 ^ 62) ≤ j ∧ j < 2 ^ 62) ∧ R (Itr i (j - i).toNat) H1
theorem pi_range1 {a : Expr} {ta : TA} {p pos : Pos} (hg : Gl X "range") (hm : X.mg "range" = none) (ha : PA X [a] ta) (hs : starEach [a] X.env = [(false, eval a X.env)] := by rfl) : PI X tg (.Call (.Name "range" p) [a] [] pos) (iRng1 ta) := by
  intro pins s σ H R I h
  refine Call_ (ld_blt I hg hm boot_range (PyProof.Rows.callWith_type1 (thn (ha pos pins s σ H _ I h) fun us s1 ⟨vs, H1, I1, r1, q1⟩ => ?_) hs rfl))
  obtain ⟨j, e, q1, q2, q⟩ := q1
  subst e
  cases r1 with
  | cons r rr =>
    cases rr
    obtain ⟨t, rfl⟩ := r
    exact call_range_1 (range_it I1 (by omega) (by omega) q1 q2 (by simpa using q))
theorem pi_range2 {a b : Expr} {ta : TA} {p pos : Pos} (hg : Gl X "range") (hm : X.mg "range" = none) (ha : PA X [a, b] ta) (hs : starEach [a, b] X.env = [(false, eval a X.env), (false, eval b X.env)] := by rfl) (hs2 : starEach [b] X.env = [(false, eval b X.env)] := by rfl) :
    PI X tg (.Call (.Name "range" p) [a, b] [] pos) (iRng2 ta) := by
  intro pins s σ H R I h
  refine Call_ (ld_blt I hg hm boot_range (PyProof.Rows.callWith_type1 (thn (ha pos pins s σ H _ I h) fun us s1 ⟨vs, H1, I1, r1, q1⟩ => ?_) (by rw [hs, hs2]) (by rw [hs2]; rfl)))
  obtain ⟨i, j, e, ⟨q1, q2, q3, q4⟩, q⟩ := q1
  subst e
  cases r1 with
  | cons r rr =>
    cases rr with
    | cons r' rr =>
      cases rr
      obtain ⟨t, rfl⟩ := r
      obtain ⟨t', rfl⟩ := r'
      exact call_range_2 (range_it I1 q1 q2 q3 q4 q)
noncomputable def tFor (wi : TI) (g : TG) (tb : TS) : TS := fun D σ H => wi σ H fun J H1 => ∃ W : Nat → Nat → St → Hp → Prop, (∃ m, W 0 m σ H1) ∧ ∀ i m σ H, W i m σ H →
  (J.stop i H ∧ D.nx σ H) ∨ (J.go i H ∧ ∃ N : St → Hp → Prop, (∀ σ' H', N σ' H' → ∃ m', m' < m ∧ W (i + 1) m' σ' H') ∧ ∀ x H', J.yld i H x H' → g x σ H' fun σ2 H2 => tb { D with nx := N, ct := N, bk := D.nx } σ2 H2)
noncomputable def pinsAt (fp : List Addr) (h : Heap) : List (Addr × Obj) := fp.filterMap fun b => (h.get? b).map fun o => (b, o)
theorem mem_pinsAt {fp : List Addr} {h : Heap} {b : Addr} {o : Obj} (hb : b ∈ fp) (e : h.get? b = some o) : (b, o) ∈ pinsAt fp h := List.mem_filterMap.mpr ⟨b, hb, by rw [e]; rfl⟩
theorem of_pinsAt {fp : List Addr} {h : Heap} {p : Addr × Obj} (hp : p ∈ pinsAt fp h) : p.1 ∈ fp ∧ h.get? p.1 = some p.2 := by
  obtain ⟨b, hb, e⟩ := List.mem_filterMap.mp hp
  cases q : h.get? b with
  | none => rw [q] at e; cases e
  | some o =>
    rw [q] at e
    have e' : (b, o) = p := Option.some.inj e
    subst e'
    exact ⟨hb, q⟩
theorem Inv.pinned {pins : List (Addr × Obj)} {σ : St} {H : Hp} {s : Shared} {fp : List Addr} (I : Inv X pins σ H s) (hf : ∀ b ∈ fp, FpOk X pins H b) (ho : ∀ b ∈ fp, ∃ o, s.heap.get? b = some o ∧ ∀ v, o.data ≠ .cell v) : Inv X (pins ++ pinsAt fp s.heap) σ H s :=
  I.pins_of fun p hp => (List.mem_append.mp hp).elim (fun z => I.pin p (List.mem_append_right _ z)) fun z => by
    obtain ⟨hb, e⟩ := of_pinsAt z
    obtain ⟨f0, f1, f2, _⟩ := hf p.1 hb
    obtain ⟨o, e', d⟩ := ho p.1 hb
    rw [e] at e'; cases e'
    exact ⟨e, f0, f1, f2, d⟩
theorem Inv.unpinned {pins pl : List (Addr × Obj)} {σ : St} {H : Hp} {s : Shared} (I : Inv X (pins ++ pl) σ H s) : Inv X pins σ H s := I.pins_of fun p hp => I.pin p (List.mem_append_right _ (List.mem_append_left _ hp))
theorem ps_for {iter : Expr} {body : List Stmt} {wi : TI} {g : TG} {tb : TS} {pos : Pos} (hp : PassesOwn (model X.prog X.w) X.A X.env X.xe) (hc : X.calm = true) (hi : PI X tg iter wi) (hg : PG X tg g) (hb : PSs X body tb)
    (hs : ∀ x, foldedSetIterable iter X.env x = pure x := by intro _; rfl) : PS X (.For tg iter body [] pos) (tFor wi g tb) := by
  intro pins s σ H D I h
  refine wpAny_For (thn (hi pins s σ H _ I h) fun v s1 h1 => thn h1 fun itv s2 h2 => ?_) hs
  obtain ⟨it, fp, tn, J, H2, e, I2, T, st2, f2, W, ⟨m0, w0⟩, turn⟩ := h2
  subst e
  have stat : ∀ {H' : Hp}, (∀ b ∈ fp, H' b = none) → ∀ b ∈ fp, FpOk X pins H' b := fun hn b hb => ⟨hn b hb, (f2 b hb).2⟩
  refine codeAny_forLoop_any (fun n s' => ∃ i σ' H', Inv X pins σ' H' s' ∧ tn i s'.heap ∧ (∀ b ∈ fp, H' b = none) ∧ W i n σ' H') ?_ m0 ⟨0, σ, H2, I2, st2, fun b hb => (f2 b hb).1, w0⟩
  rintro n s3 ⟨i, σ3, H3, I3, st3, fr3, w3⟩
  rcases turn i n σ3 H3 w3 with ⟨stop, qn⟩ | ⟨go, N, hN, step⟩
  · refine wpAny_passesOwn hp (thn (T.done X rfl rfl rfl hc i pins s3 σ3 H3 X.xe I3 (stat fr3) st3 stop) fun r s4 ⟨hr, I4⟩ => ?_)
    subst hr
    exact wpAny_execs_nil ⟨σ3, H3, I4, qn⟩
  · refine wpAny_passesOwn hp (thn (T.item X rfl rfl rfl hc i pins s3 σ3 H3 X.xe I3 (stat fr3) st3 go) fun r s4 ⟨u, hr, h4⟩ => ?_)
    subst hr
    refine wpAny_passesOwn hp (thn h4 fun _ s5 ⟨x, H5, I5, r5, y5, st5, fr5⟩ => ?_)
    have I5' := I5.pinned (stat fr5) (T.obj _ _ st5)
    refine wpAny_passesOwn hp (thn (hg _ s5 σ3 H5 x u _ I5' r5 (step x H5 y5)) fun _ s6 ⟨σ6, H6, I6, q6⟩ => ?_)
    refine wpAny_passesOwn hp (thn (hb _ s6 σ6 H6 _ I6 q6) fun f s7 q7 => ?_)
    have again : ∀ {σ7 : St} {H7 : Hp}, Inv X (pins ++ pinsAt fp s5.heap) σ7 H7 s7 → N σ7 H7 → ∃ m, m < n ∧ ∃ i σ' H', Inv X pins σ' H' s7 ∧ tn i s7.heap ∧ (∀ b ∈ fp, H' b = none) ∧ W i m σ' H' := fun {σ7 H7} I7 n7 => by
      obtain ⟨m', hm, w7⟩ := hN σ7 H7 n7
      refine ⟨m', hm, i + 1, σ7, H7, I7.unpinned, T.keep _ _ _ st5 fun b hb o e => (I7.pin (b, o) (List.mem_append_right _ (List.mem_append_right _ (mem_pinsAt hb e)))).1, fun b hb => ?_, w7⟩
      obtain ⟨o, e, d⟩ := T.obj _ _ st5 b hb
      exact (I7.pin (b, o) (List.mem_append_right _ (List.mem_append_right _ (mem_pinsAt hb e)))).2.1
    cases f with
    | next => obtain ⟨σ7, H7, I7, n7⟩ := q7; exact again I7 n7
    | cont => obtain ⟨σ7, H7, I7, n7⟩ := q7; exact again I7 n7
    | brk => obtain ⟨σ7, H7, I7, q7⟩ := q7; exact ⟨σ7, H7, I7.unpinned, q7⟩
    | ret v => obtain ⟨x7, σ7, H7, I7, r7, q7⟩ := q7; exact ⟨x7, σ7, H7, I7.unpinned, r7, q7⟩
end
theorem for_list {K : PySem.W.Frag} {a : Addr} {xs : List V} {g : TG} {tb : TS} {D : Ends} {σ : St} {H : Hp} (Pv : Nat → St → Hp → Prop) (h0 : Pv 0 σ H) (hl : ∀ i σ H, i ≤ xs.length → Pv i σ H → SqL K H a xs)
    (hs : ∀ i x σ H, xs[i]? = some x → Pv i σ H → g x σ H fun σ2 H2 => tb { D with nx := Pv (i + 1), ct := Pv (i + 1), bk := D.nx } σ2 H2) (hd : ∀ σ H, Pv xs.length σ H → D.nx σ H) :
    ∃ W : Nat → Nat → St → Hp → Prop, (∃ m, W 0 m σ H) ∧ ∀ i m σ H, W i m σ H →
      ((Itl K a).stop i H ∧ D.nx σ H) ∨ ((Itl K a).go i H ∧ ∃ N : St → Hp → Prop, (∀ σ' H', N σ' H' → ∃ m', m' < m ∧ W (i + 1) m' σ' H') ∧ ∀ x H', (Itl K a).yld i H x H' → g x σ H' fun σ2 H2 => tb { D with nx := N, ct := N, bk := D.nx } σ2 H2) := by
  refine ⟨fun i m σ H => m = xs.length - i ∧ i ≤ xs.length ∧ Pv i σ H, ⟨xs.length, by simp, Nat.zero_le _, h0⟩, ?_⟩
  rintro i m σ H ⟨rfl, hi, p⟩
  have q := hl i σ H hi p
  by_cases hlt : i < xs.length
  · refine .inr ⟨⟨xs, xs[i], q, by simp [hlt]⟩, Pv (i + 1), fun σ' H' p' => ⟨xs.length - (i + 1), by omega, rfl, hlt, p'⟩, fun x H' y => ?_⟩
    obtain ⟨e, y⟩ := y
    subst e
    exact hs i x σ _ (y xs q) p
  · have e : i = xs.length := by omega
    subst e
    exact .inl ⟨⟨xs, q, Nat.le_refl _⟩, hd σ H p⟩
theorem for_range {lo : Int} {n : Nat} {g : TG} {tb : TS} {D : Ends} {σ : St} {H : Hp} (Pv : Nat → St → Hp → Prop) (h0 : Pv 0 σ H)
    (hs : ∀ i σ H, i < n → Pv i σ H → g (.int (lo + i)) σ H fun σ2 H2 => tb { D with nx := Pv (i + 1), ct := Pv (i + 1), bk := D.nx } σ2 H2) (hd : ∀ σ H, Pv n σ H → D.nx σ H) :
    ∃ W : Nat → Nat → St → Hp → Prop, (∃ m, W 0 m σ H) ∧ ∀ i m σ H, W i m σ H →
      ((Itr lo n).stop i H ∧ D.nx σ H) ∨ ((Itr lo n).go i H ∧ ∃ N : St → Hp → Prop, (∀ σ' H', N σ' H' → ∃ m', m' < m ∧ W (i + 1) m' σ' H') ∧ ∀ x H', (Itr lo n).yld i H x H' → g x σ H' fun σ2 H2 => tb { D with nx := N, ct := N, bk := D.nx } σ2 H2) := by
  refine ⟨fun i m σ H => m = n - i ∧ i ≤ n ∧ Pv i σ H, ⟨n, by simp, Nat.zero_le _, h0⟩, ?_⟩
  rintro i m σ H ⟨rfl, hi, p⟩
  by_cases hlt : i < n
  · refine .inr ⟨hlt, Pv (i + 1), fun σ' H' p' => ⟨n - (i + 1), by omega, rfl, hlt, p'⟩, fun x H' y => ?_⟩
    obtain ⟨e, y⟩ := y
    subst e y
    exact hs i σ _ hlt p
  · have e : i = n := by omega
    subst e
    exact .inl ⟨Nat.le_refl _, hd σ H p⟩
end L2
namespace L2
open PySem PySem.Spec PyProof.Rows
noncomputable abbrev R2 := V → V → Hp → VK → Prop
noncomputable def OpR (X : Cx) (f : Value → Value → Sem Value) (r : R2) : Prop :=
  ∀ (pins : List (Addr × Obj)) (s : Shared) (σ : St) (H : Hp) (x y : V) (v u : Value) (Q : VK), Inv X pins σ H s → RelV x v → RelV y u → r x y H Q →
    wpAny (model X.prog X.w) X.A (f v u) (EP X pins σ Q) X.xe s
noncomputable def UnR (X : Cx) (f : Value → Sem Value) (r : V → Hp → VK → Prop) : Prop :=
  ∀ (pins : List (Addr × Obj)) (s : Shared) (σ : St) (H : Hp) (x : V) (v : Value) (Q : VK), Inv X pins σ H s → RelV x v → r x H Q →
    wpAny (model X.prog X.w) X.A (f v) (EP X pins σ Q) X.xe s
noncomputable def CallR (X : Cx) (f : Value) (r : List V → Hp → VK → Prop) : Prop :=
  ∀ (pins : List (Addr × Obj)) (s : Shared) (σ : St) (H : Hp) (xs : List V) (us : List Value) (Q : VK), Inv X pins σ H s → Vals xs us → r xs H Q →
    wpAny (model X.prog X.w) X.A (call f us) (EP X pins σ Q) X.xe s
noncomputable def tOp (r : R2) (ta tb : TE) : TE := fun σ H Q => ta σ H fun x H1 => tb σ H1 fun y H2 => r x y H2 Q
noncomputable def tUn (r : V → Hp → VK → Prop) (ta : TE) : TE := fun σ H Q => ta σ H fun x H1 => r x H1 Q
noncomputable def rI (C : Int → Int → Prop) (g : Int → Int → V) : R2 := fun x y H Q => ∃ i j, x = .int i ∧ y = .int j ∧ C i j ∧ Q (g i j) H
noncomputable def rI0 (g : Int → Int → V) : R2 := fun x y H Q => ∃ i j, x = .int i ∧ y = .int j ∧ Q (g i j) H
noncomputable def rU (g : Int → V) : V → Hp → VK → Prop := fun x H Q => ∃ i, x = .int i ∧ Q (g i) H
section
variable {X : Cx} {a b c : Expr} {ta tb tc : TE} {pos : Pos}
theorem binT (ha : PE X a ta) (hb : PE X b tb) {pins : List (Addr × Obj)} {s : Shared} {σ : St} {H : Hp} {R : V → V → Hp → Prop} (I : Inv X pins σ H s)
    (h : ta σ H fun x H1 => tb σ H1 fun y H2 => R x y H2) {Q : Value → Shared → Prop} {f : Value → Value → Sem Value}
    (hf : ∀ v u s2 x y H2, Inv X pins σ H2 s2 → RelV x v → RelV y u → R x y H2 → wpAny (model X.prog X.w) X.A (f v u) Q X.xe s2) :
    wpAny (model X.prog X.w) X.A (eval a X.env) (fun v s₁ => wpAny (model X.prog X.w) X.A (eval b X.env) (fun u s₂ => wpAny (model X.prog X.w) X.A (f v u) Q X.xe s₂) X.xe s₁) X.xe s := by
  refine thn (ha pins s σ H _ I h) fun v s1 ⟨x, H1, I1, r1, q1⟩ => ?_
  refine thn (hb pins s1 σ H1 _ I1 q1) fun u s2 ⟨y, H2, I2, r2, q2⟩ => ?_
  exact hf v u s2 x y H2 I2 r1 r2 q2
theorem pe_op {op : Operator} {r : R2} (ho : OpR X (binaryOp op) r) (ha : PE X a ta) (hb : PE X b tb) : PE X (.BinOp a op b pos) (tOp r ta tb) := by
  intro pins s σ H Q I h
  exact wpAny_BinOp (binT ha hb I h fun v u s2 x y H2 I2 rx ry q => ho pins s2 σ H2 x y v u Q I2 rx ry q)
theorem pe_un {op : UnaryOp} {r : V → Hp → VK → Prop} (ho : UnR X (unaryOp op) r) (ha : PE X a ta) : PE X (.UnaryOp op a pos) (tUn r ta) := by
  intro pins s σ H Q I h
  exact UnaryOp_ (thn (ha pins s σ H _ I h) fun v s1 ⟨x, H1, I1, r1, q1⟩ => ho pins s1 σ H1 x v Q I1 r1 q1)
theorem opI {f : Value → Value → Sem Value} {C : Int → Int → Prop} {g : Int → Int → Int}
    (rule : ∀ (i j : Int) (t u : Tok) (s : Shared) (Q : Value → Shared → Prop) (E : Value → Shared → Prop), C i j → Q (.int (g i j) s.toks) { s with toks := s.toks + 1 } → wpAny (model X.prog X.w) X.A (f (.int i t) (.int j u)) Q E s) :
    OpR X f (rI C fun i j => .int (g i j)) := by
  intro pins s σ H x y v u Q I rx ry h
  obtain ⟨i, j, rfl, rfl, hc, q⟩ := h
  obtain ⟨t, rfl⟩ := rx
  obtain ⟨t', rfl⟩ := ry
  exact rule i j t t' s _ _ hc ⟨.int (g i j), H, I.tok _, ⟨_, rfl⟩, q⟩
theorem opI0 {f : Value → Value → Sem Value} {g : Int → Int → Int}
    (rule : ∀ (i j : Int) (t u : Tok) (s : Shared) (Q : Value → Shared → Prop) (E : Value → Shared → Prop), Q (.int (g i j) s.toks) { s with toks := s.toks + 1 } → wpAny (model X.prog X.w) X.A (f (.int i t) (.int j u)) Q E s) :
    OpR X f (rI0 fun i j => .int (g i j)) := by
  intro pins s σ H x y v u Q I rx ry h
  obtain ⟨i, j, rfl, rfl, q⟩ := h
  obtain ⟨t, rfl⟩ := rx
  obtain ⟨t', rfl⟩ := ry
  exact rule i j t t' s _ _ ⟨.int (g i j), H, I.tok _, ⟨_, rfl⟩, q⟩
theorem opB0 {f : Value → Value → Sem Value} {g : Int → Int → Bool}
    (rule : ∀ (i j : Int) (t u : Tok) (s : Shared) (Q : Value → Shared → Prop) (E : Value → Shared → Prop), Q (.bool (g i j)) s → wpAny (model X.prog X.w) X.A (f (.int i t) (.int j u)) Q E s) :
    OpR X f (rI0 fun i j => .bl (g i j)) := by
  intro pins s σ H x y v u Q I rx ry h
  obtain ⟨i, j, rfl, rfl, q⟩ := h
  obtain ⟨t, rfl⟩ := rx
  obtain ⟨t', rfl⟩ := ry
  exact rule i j t t' s _ _ ⟨.bl (g i j), H, I, rfl, q⟩
noncomputable def CDiv (i j : Int) : Prop := 0 < j ∧ j < 1073741824
noncomputable def CPow (i j : Int) : Prop := 0 ≤ j ∧ j ≤ 1000000 ∧ i.natAbs < 2 ^ 64
noncomputable def CMul (i j : Int) : Prop := (-(2 ^ 64) < i ∧ i < 2 ^ 64) ∨ (-(2 ^ 64) < j ∧ j < 2 ^ 64)
theorem CMul.ok {i j : Int} (h : CMul i j) : IntMulOk i j := by
  rcases h with ⟨h1, h2⟩ | ⟨h1, h2⟩
  · exact .of_left (intBits_le_64 h1 h2)
  · exact .of_right (intBits_le_64 h1 h2)
theorem op_add : OpR X (binaryOp .Add) (rI0 fun i j => .int (i + j)) := opI0 fun _ _ _ _ _ _ _ q => add_int q
theorem op_sub : OpR X (binaryOp .Sub) (rI0 fun i j => .int (i - j)) := opI0 fun _ _ _ _ _ _ _ q => sub_int q
theorem op_mul : OpR X (binaryOp .Mult) (rI CMul fun i j => .int (i * j)) := opI fun _ _ _ _ _ _ _ hc q => mul_int q hc.ok
theorem op_fdiv : OpR X (binaryOp .FloorDiv) (rI CDiv fun i j => .int (i / j)) := opI fun i j _ _ _ _ _ hc q => by
  have h1 : (0 : Int) < j := hc.1
  have h2 : j < 1073741824 := hc.2
  exact floordiv_int (by omega) (by rw [Int.fdiv_eq_ediv_of_nonneg i (by omega)]; exact q) (.inl (PyProof.noPylong_small (by omega)))
theorem op_mod : OpR X (binaryOp .Mod) (rI (fun _ j => 0 < j) fun i j => .int (i % j)) := opI fun i j _ _ _ _ _ hc q => by
  have h1 : (0 : Int) < j := hc
  exact mod_int' (by omega) (by rw [Int.fmod_eq_emod_of_nonneg i (by omega)]; exact q)
theorem op_pow : OpR X (binaryOp .Pow) (rI CPow fun i j => .int (i ^ j.toNat)) := opI fun _ _ _ _ _ _ _ hc q => pow_int_small hc.1 hc.2.1 hc.2.2 q
theorem unI {f : Value → Sem Value} {g : Int → Int}
    (rule : ∀ (i : Int) (t : Tok) (s : Shared) (Q : Value → Shared → Prop) (E : Value → Shared → Prop), Q (.int (g i) s.toks) { s with toks := s.toks + 1 } → wpAny (model X.prog X.w) X.A (f (.int i t)) Q E s) :
    UnR X f (rU fun i => .int (g i)) := by
  intro pins s σ H x v Q I rx h
  obtain ⟨i, rfl, q⟩ := h
  obtain ⟨t, rfl⟩ := rx
  exact rule i t s _ _ ⟨.int (g i), H, I.tok _, ⟨_, rfl⟩, q⟩
theorem un_neg : UnR X (unaryOp .USub) (rU fun i => .int (-i)) := unI fun _ _ _ _ _ q => neg_int q
end
noncomputable def scal : V → V → Bool
  | .non, .non => true | .non, .int _ => true | .int _, .non => true | .non, .bl _ => true | .bl _, .non => true | .non, .str _ => true | .str _, .non => true
  | .int _, .int _ => true | .bl _, .bl _ => true | .str _, .str _ => true | .byt _, .byt _ => true
  | .int _, .str _ => true | .str _, .int _ => true | .bl _, .str _ => true | .str _, .bl _ => true
  | _, _ => false
noncomputable def rEq : R2 := fun x y H Q => scal x y = true ∧ Q (.bl (decide (x = y))) H
noncomputable def rNe : R2 := fun x y H Q => scal x y = true ∧ Q (.bl (!decide (x = y))) H
theorem dec_int {i j : Int} : decide (V.int i = V.int j) = (i == j) := by
  rw [Bool.eq_iff_iff]
  simp
theorem dec_bl {i j : Bool} : decide (V.bl i = V.bl j) = (i == j) := by
  rw [Bool.eq_iff_iff]
  simp
theorem dec_str {i j : Str} : decide (V.str i = V.str j) = (i == j) := by
  rw [Bool.eq_iff_iff]
  simp
theorem dec_byt {i j : Array UInt8} : decide (V.byt i = V.byt j) = (i.toList == j.toList) := by
  rw [Bool.eq_iff_iff]
  cases i
  cases j
  simp
section
variable {X : Cx} {a b c : Expr} {ta tb tc : TE} {pos : Pos}
theorem fin_bl {pins : List (Addr × Obj)} {σ : St} {H : Hp} {s : Shared} {Q : VK} {k k' : Bool} (I : Inv X pins σ H s) (q : Q (.bl k) H) (e : k = k') : EP X pins σ Q (.bool k') s := by
  subst e
  exact ⟨.bl k, H, I, rfl, q⟩
theorem op_eq : OpR X (compareOp .Eq) rEq := by
  intro pins s σ H x y v u Q I rx ry h
  obtain ⟨hs, q⟩ := h
  cases x with
  | non =>
    cases rx
    cases y with
    | non => cases ry; exact PySem.EqNone.eq_none_none (fin_bl I q (by simp))
    | bl j => cases ry; exact PySem.EqNone.eq_none_bool (fin_bl I q (by simp))
    | int j => obtain ⟨t', rfl⟩ := ry; exact PySem.EqNone.eq_none_int (fin_bl I q (by simp))
    | str j => obtain ⟨t', rfl⟩ := ry; exact PySem.EqNone.eq_none_str (fin_bl I q (by simp))
    | _ => exact absurd (show false = true from hs) Bool.false_ne_true
  | bl i =>
    cases rx
    cases y with
    | non => cases ry; exact PySem.EqNone.eq_bool_none (fin_bl I q (by simp))
    | bl j => cases ry; exact eq_bool (fin_bl I q dec_bl)
    | str j => obtain ⟨t', rfl⟩ := ry; exact PySem.EqMixed.eq_bool_str (fin_bl I q (by simp))
    | _ => exact absurd (show false = true from hs) Bool.false_ne_true
  | int i =>
    obtain ⟨t, rfl⟩ := rx
    cases y with
    | non => cases ry; exact PySem.EqNone.eq_int_none (fin_bl I q (by simp))
    | int j => obtain ⟨t', rfl⟩ := ry; exact eq_int (fin_bl I q dec_int)
    | str j => obtain ⟨t', rfl⟩ := ry; exact PySem.EqMixed.eq_int_str (fin_bl I q (by simp))
    | _ => exact absurd (show false = true from hs) Bool.false_ne_true
  | str i =>
    obtain ⟨t, rfl⟩ := rx
    cases y with
    | non => cases ry; exact PySem.EqNone.eq_str_none (fin_bl I q (by simp))
    | bl j => cases ry; exact PySem.EqMixed.eq_str_bool (fin_bl I q (by simp))
    | int j => obtain ⟨t', rfl⟩ := ry; exact PySem.EqMixed.eq_str_int (fin_bl I q (by simp))
    | str j => obtain ⟨t', rfl⟩ := ry; exact eq_str (fin_bl I q dec_str)
    | _ => exact absurd (show false = true from hs) Bool.false_ne_true
  | byt i =>
    obtain ⟨t, rfl⟩ := rx
    cases y with
    | byt j => obtain ⟨t', rfl⟩ := ry; exact PySem.W.eq_bytes (fin_bl I q dec_byt)
    | _ => exact absurd (show false = true from hs) Bool.false_ne_true
  | _ => cases y <;> exact absurd (show false = true from hs) Bool.false_ne_true
theorem op_ne : OpR X (compareOp .NotEq) rNe := by
  intro pins s σ H x y v u Q I rx ry h
  obtain ⟨hs, q⟩ := h
  cases x with
  | non =>
    cases rx
    cases y with
    | non => cases ry; exact PySem.EqNone.ne_none_none (fin_bl I q (by simp))
    | bl j => cases ry; exact PySem.EqNone.ne_none_bool (fin_bl I q (by simp))
    | int j => obtain ⟨t', rfl⟩ := ry; exact PySem.EqNone.ne_none_int (fin_bl I q (by simp))
    | str j => obtain ⟨t', rfl⟩ := ry; exact PySem.EqNone.ne_none_str (fin_bl I q (by simp))
    | _ => exact absurd (show false = true from hs) Bool.false_ne_true
  | bl i =>
    cases rx
    cases y with
    | non => cases ry; exact PySem.EqNone.ne_bool_none (fin_bl I q (by simp))
    | bl j => cases ry; exact ne_bool (fin_bl I q (congrArg not dec_bl))
    | str j => obtain ⟨t', rfl⟩ := ry; exact PySem.EqMixed.ne_bool_str (fin_bl I q (by simp))
    | _ => exact absurd (show false = true from hs) Bool.false_ne_true
  | int i =>
    obtain ⟨t, rfl⟩ := rx
    cases y with
    | non => cases ry; exact PySem.EqNone.ne_int_none (fin_bl I q (by simp))
    | int j => obtain ⟨t', rfl⟩ := ry; exact ne_int (fin_bl I q (congrArg not dec_int))
    | str j => obtain ⟨t', rfl⟩ := ry; exact PySem.EqMixed.ne_int_str (fin_bl I q (by simp))
    | _ => exact absurd (show false = true from hs) Bool.false_ne_true
  | str i =>
    obtain ⟨t, rfl⟩ := rx
    cases y with
    | non => cases ry; exact PySem.EqNone.ne_str_none (fin_bl I q (by simp))
    | bl j => cases ry; exact PySem.EqMixed.ne_str_bool (fin_bl I q (by simp))
    | int j => obtain ⟨t', rfl⟩ := ry; exact PySem.EqMixed.ne_str_int (fin_bl I q (by simp))
    | str j => obtain ⟨t', rfl⟩ := ry; exact ne_str (fin_bl I q (congrArg not dec_str))
    | _ => exact absurd (show false = true from hs) Bool.false_ne_true
  | byt i =>
    obtain ⟨t, rfl⟩ := rx
    cases y with
    | byt j => obtain ⟨t', rfl⟩ := ry; exact PySem.W.ne_bytes (fin_bl I q (congrArg not dec_byt))
    | _ => exact absurd (show false = true from hs) Bool.false_ne_true
  | _ => cases y <;> exact absurd (show false = true from hs) Bool.false_ne_true
theorem op_lt : OpR X (compareOp .Lt) (rI0 fun i j => .bl (decide (i < j))) := opB0 fun _ _ _ _ _ _ _ q => lt_int q
theorem op_le : OpR X (compareOp .LtE) (rI0 fun i j => .bl (decide (i ≤ j))) := opB0 fun _ _ _ _ _ _ _ q => le_int q
theorem op_gt : OpR X (compareOp .Gt) (rI0 fun i j => .bl (decide (j < i))) := opB0 fun _ _ _ _ _ _ _ q => gt_int q
theorem op_in_str : OpR X (compareOp .In) (fun x y H Q => ∃ i j, x = .str i ∧ y = .str j ∧ Q (.bl (!(Builtin.Str.occurrences j i 0 j.length 1).isEmpty)) H) := by
  intro pins s σ H x y v u Q I rx ry h
  obtain ⟨i, j, rfl, rfl, q⟩ := h
  obtain ⟨t, rfl⟩ := rx
  obtain ⟨t', rfl⟩ := ry
  exact in_str (fin_bl I q rfl)
theorem nomark (b : Expr) {op : CmpOp} (h : op ≠ .In := by decide) (h2 : op ≠ .NotIn := by decide) : behindInMarks op b = false := by
  have e1 : (op == CmpOp.In) = false := by cases op <;> first | rfl | exact absurd rfl h
  have e2 : (op == CmpOp.NotIn) = false := by cases op <;> first | rfl | exact absurd rfl h2
  cases b <;> simp [behindInMarks, e1, e2]
theorem pe_cmpR {op : CmpOp} {r : R2} (ho : OpR X (compareOp op) r) (ha : PE X a ta) (hb : PE X b tb) (hm : behindInMarks op b = false) : PE X (.Compare a [op] [b] pos) (tOp r ta tb) := by
  intro pins s σ H Q I h
  exact wpAny_Compare1 (binT ha hb I h fun v u s2 x y H2 I2 rx ry q => ho pins s2 σ H2 x y v u Q I2 rx ry q) hm
noncomputable def tTest (t : TE) : TT := fun σ H Q => t σ H fun x H' => ∃ k, x = .bl k ∧ Q k H'
theorem pt_cmpR {op : CmpOp} {r : R2} (ho : OpR X (compareOp op) r) (ha : PE X a ta) (hb : PE X b tb) (hm : behindInMarks op b = false) : PT X (.Compare a [op] [b] pos) (tTest (tOp r ta tb)) := by
  intro pins s σ H Q I h
  refine wpAny_isTrue_Compare1 (thn (ha pins s σ H _ I h) fun v s1 ⟨x, H1, I1, r1, q1⟩ => thn (hb pins s1 σ H1 _ I1 q1) fun u s2 ⟨y, H2, I2, r2, q2⟩ =>
    thn (ho pins s2 σ H2 x y v u _ I2 r1 r2 q2) fun c s3 ⟨z, H3, I3, r3, k, e, q3⟩ => ?_) hm
  subst e
  cases r3
  exact wpAny_truthy_bool ⟨H3, I3, q3⟩
noncomputable def tChain (r r' : R2) (ta tb tc : TE) : TE := fun σ H Q => ta σ H fun x H1 => tb σ H1 fun y H2 => r x y H2 fun z H3 => ∃ k, z = .bl k ∧
  (if k = true then tc σ H3 fun w' H4 => r' y w' H4 Q else Q (.bl false) H3)
theorem pe_chain {op op' : CmpOp} {r r' : R2} (ho : OpR X (compareOp op) r) (ho' : OpR X (compareOp op') r') (ha : PE X a ta) (hb : PE X b tb) (hc : PE X c tc)
    (hm : lastMarks [op, op'] [b, c] = false := by with_unfolding_all rfl) : PE X (.Compare a [op, op'] [b, c] pos) (tChain r r' ta tb tc) := by
  intro pins s σ H Q I h
  refine Compare_chain (thn (ha pins s σ H _ I h) fun v s1 ⟨x, H1, I1, r1, q1⟩ => chain_link (thn (hb pins s1 σ H1 _ I1 q1) fun u s2 ⟨y, H2, I2, r2, q2⟩ =>
    thn (ho pins s2 σ H2 x y v u _ I2 r1 r2 q2) fun d s3 ⟨z, H3, I3, r3, k, e, q3⟩ => ?_)) hm
  subst e
  cases r3
  refine wpAny_truthy_bool ?_
  cases k with
  | false => exact ite_ff ⟨.bl false, H3, I3, rfl, q3⟩
  | true => exact ite_tt (chain_last (thn (hc pins s3 σ H3 _ I3 q3) fun w' s4 ⟨z', H4, I4, r4, q4⟩ => ho' pins s4 σ H4 y z' u w' Q I4 r2 r4 q4))
theorem pt_chain {op op' : CmpOp} {r r' : R2} (ho : OpR X (compareOp op) r) (ho' : OpR X (compareOp op') r') (ha : PE X a ta) (hb : PE X b tb) (hc : PE X c tc)
    (hm : lastMarks [op, op'] [b, c] = false := by with_unfolding_all rfl) : PT X (.Compare a [op, op'] [b, c] pos) (tTest (tChain r r' ta tb tc)) := by
  intro pins s σ H Q I h
  refine isTrue_chain (thn (ha pins s σ H _ I h) fun v s1 ⟨x, H1, I1, r1, q1⟩ => test_link (thn (hb pins s1 σ H1 _ I1 q1) fun u s2 ⟨y, H2, I2, r2, q2⟩ =>
    thn (ho pins s2 σ H2 x y v u _ I2 r1 r2 q2) fun d s3 ⟨z, H3, I3, r3, k, e, q3⟩ => ?_)) hm
  subst e
  cases r3
  refine wpAny_truthy_bool ?_
  cases k with
  | false =>
    obtain ⟨k', e', q'⟩ := q3
    cases e'
    exact ite_ff ⟨H3, I3, q'⟩
  | true =>
    refine ite_tt (test_last (thn (hc pins s3 σ H3 _ I3 q3) fun w' s4 ⟨z', H4, I4, r4, q4⟩ => thn (ho' pins s4 σ H4 y z' u w' _ I4 r2 r4 q4) fun d' s5 ⟨z2, H5, I5, r5, k2, e2, q5⟩ => ?_))
    subst e2
    cases r5
    exact wpAny_truthy_bool ⟨H5, I5, q5⟩
theorem line63 : (sizeLine : Nat) < 2 ^ 63 := by rw [sizeLine_eq]; decide
theorem op_add_str : OpR X (binaryOp .Add) (fun x y H Q => ∃ i j, x = .str i ∧ y = .str j ∧ i.length + j.length ≤ sizeLine ∧ Q (.str (i ++ j)) H) := by
  intro pins s σ H x y v u Q I rx ry h
  obtain ⟨i, j, rfl, rfl, hz, q⟩ := h
  obtain ⟨t, rfl⟩ := rx
  obtain ⟨t', rfl⟩ := ry
  exact add_str (fun t' tk => ⟨.str (i ++ j), H, I.tok _, ⟨_, rfl⟩, q⟩) hz
theorem vals1 {x : V} {us : List Value} (r : Vals [x] us) : ∃ u, us = [u] ∧ RelV x u := by
  cases r with
  | cons r1 r2 => cases r2; exact ⟨_, rfl, r1⟩
theorem vals2 {x y : V} {us : List Value} (r : Vals [x, y] us) : ∃ u w', us = [u, w'] ∧ RelV x u ∧ RelV y w' := by
  cases r with
  | cons r1 r2 =>
    cases r2 with
    | cons r3 r4 => cases r4; exact ⟨_, _, rfl, r1, r3⟩
theorem call_max2 (hc : X.calm = true) : CallR X (.builtin "max") (fun xs H Q => ∃ i j, xs = [.int i, .int j] ∧ Q (.int (if j > i then j else i)) H) := by
  intro pins s σ H xs us Q I r h
  obtain ⟨i, j, rfl, q⟩ := h
  obtain ⟨u, w', rfl, ⟨t, rfl⟩, ⟨t', rfl⟩⟩ := vals2 r
  refine max_two_ints (I.ok.hd hc) fun h' tk k => ⟨_, H, I.kept k, ?_, q⟩
  by_cases hj : j > i
  · rw [if_pos hj, if_pos hj]; exact ⟨_, rfl⟩
  · rw [if_neg hj, if_neg hj]; exact ⟨_, rfl⟩
theorem call_min2 (hc : X.calm = true) : CallR X (.builtin "min") (fun xs H Q => ∃ i j, xs = [.int i, .int j] ∧ Q (.int (if j < i then j else i)) H) := by
  intro pins s σ H xs us Q I r h
  obtain ⟨i, j, rfl, q⟩ := h
  obtain ⟨u, w', rfl, ⟨t, rfl⟩, ⟨t', rfl⟩⟩ := vals2 r
  refine min_two_ints (I.ok.hd hc) fun h' tk k => ⟨_, H, I.kept k, ?_, q⟩
  by_cases hj : j < i
  · rw [if_pos hj, if_pos hj]; exact ⟨_, rfl⟩
  · rw [if_neg hj, if_neg hj]; exact ⟨_, rfl⟩
theorem call_int1 : CallR X (.type "int") (fun xs H Q => (∃ i, xs = [.int i] ∧ Q (.int i) H) ∨ ∃ k, xs = [.bl k] ∧ Q (.int (if k then 1 else 0)) H) := by
  intro pins s σ H xs us Q I r h
  rcases h with ⟨i, rfl, q⟩ | ⟨k, rfl, q⟩
  · obtain ⟨u, rfl, t, rfl⟩ := vals1 r
    exact call_int_int ⟨.int i, H, I, ⟨_, rfl⟩, q⟩
  · obtain ⟨u, rfl, r1⟩ := vals1 r
    cases r1
    exact call_int_bool ⟨.int (if k then 1 else 0), H, I.tok _, ⟨_, rfl⟩, q⟩
theorem call_ord : CallR X (.builtin "ord") (fun xs H Q => ∃ x, xs = [.str x] ∧ x.length = 1 ∧ Q (.int (x.cps.getD 0 0 : Nat)) H) := by
  intro pins s σ H xs us Q I r h
  obtain ⟨x, rfl, hz, q⟩ := h
  obtain ⟨u, rfl, t, rfl⟩ := vals1 r
  exact ord_of_one hz ⟨.int _, H, I.tok _, ⟨_, rfl⟩, q⟩
end
end L2
namespace L2
open PySem PySem.Spec PyProof.Rows
structure ObjM (h : Heap) (x dx C : Addr) (mA : Str → Option Value) : Prop where
  obj : h.get? x = some (PySem.W.instObj C dx)
  ns : h.Ns1 dx mA
  ne : dx ≠ x
theorem lookIn_ns {h : Heap} {dx : Addr} {mA : Str → Option Value} (n : h.Ns1 dx mA) : ∃ od, h.get? dx = some od ∧ ∀ name, PySem.W.lookIn name od = some (mA name) := by
  obtain ⟨o, es, ep, ho, hd, hk, _, hm⟩ := n
  refine ⟨o, ho, fun name => ?_⟩
  have e := hm name
  unfold nsFind findBy at e
  rw [← Array.find?_toList] at e
  unfold PySem.W.lookIn
  rw [hd]
  dsimp only
  split
  · rename_i y q
    rw [q] at e
    exact congrArg some e
  · rename_i q
    rw [q] at e
    have a : es.toList.any (·.refKey) = false := by
      rw [List.any_eq_false]
      intro y hy
      obtain ⟨z, t, hkey⟩ := hk y (Array.mem_toList_iff.mp hy)
      simp [DictEntry.refKey, hkey]
    have a' : ¬ es.toList.any (·.refKey) = true := by rw [a]; exact Bool.false_ne_true
    rw [if_neg a']
    exact congrArg some e
theorem ObjM.look {h : Heap} {x dx C : Addr} {mA : Str → Option Value} (I : ObjM h x dx C mA) : ∃ od, PySem.W.InstAt h x (PySem.W.instObj C dx) C (some od) ∧ ∀ name, PySem.W.lookIn name od = some (mA name) :=
  let ⟨od, ho, hl⟩ := lookIn_ns I.ns
  ⟨od, ⟨I.obj, rfl, rfl, ho⟩, hl⟩
section
variable {prog : Program} {w : World} {A : Around} {E : Value → Shared → Prop} {s : Shared} {K : PySem.W.Frag} {x dx C f : Addr} {mA : Str → Option Value} {name : Str} {v : Value}
end
section
variable {P : Program} {w : World} {H H' : Hp} {h h' : Heap} {a C dx : Addr} {fs fs' : List (Str × V)}
theorem ins_get (hok : HOk P w H h) (e : H a = some (.ins C dx fs)) : ∃ mA, ObjM h a dx C mA ∧ (∀ f, RelO (fs.lookup f) (mA f)) ∧ PySem.Within mA (fs.map (·.1)) ∧ fs.length ≤ 1000 ∧ H dx = some (.own a) := by
  obtain ⟨d, z, ne, ob, mA, n, r, q⟩ := (show ObjOk P w H h a (.ins C dx fs) from hok a _ e)
  exact ⟨mA, ⟨ob, n, ne⟩, r, q, z, d⟩
end
structure Cls (K : PySem.W.Frag) (C : Addr) : Prop where
  pg : PySem.W.plainGet K C Str.empty = true
  hd : PySem.W.hasDictIn K C = true
  po : PySem.W.plainOver K C = true
  sa : PySem.W.findIn K (.ref C) "__setattr__" = some (some (.builtin "object.__setattr__"))
theorem Cls.get {K : PySem.W.Frag} {C : Addr} (c : Cls K C) (f : Str) : PySem.W.plainGet K C f = true := c.pg
section
variable {X : Cx} {pins : List (Addr × Obj)} {σ : St} {H : Hp} {s : Shared} {a C dx : Addr} {fs : List (Str × V)} {f : Str} {v : V} {A : Around} {E : Value → Shared → Prop}
end
section
variable {X : Cx} {o e value : Expr} {f : Str} {pos pos' tpos : Pos} {ta tv : TE}
end
section
variable {X : Cx} {pins : List (Addr × Obj)} {σ : St} {H : Hp} {s : Shared} {A : Around} {E : Value → Shared → Prop} {Q : Value → Shared → Prop} {c : Value} {b : Bool}
inductive TyOf (K : PySem.W.Frag) (H : Hp) : V → Value → Prop where
  | non : TyOf K H .non (.type "NoneType")
  | bl (x : Bool) : TyOf K H (.bl x) (.type "bool")
  | int (i : Int) : TyOf K H (.int i) (.type "int")
  | str (x : Str) : TyOf K H (.str x) (.type "str")
  | flt (x : UInt64) : TyOf K H (.flt x) (.type "float")
  | lst {a : Addr} {xs : List V} (e : H a = some (.lst xs)) : TyOf K H (.ref a) (.type "list")
  | frz {a : Addr} {o : Obj} {xs : List V} (e : H a = some (.frz o (.lst xs))) : TyOf K H (.ref a) (.type "list")
  | tup {a : Addr} {xs : List V} (e : H a = some (.tup xs)) : TyOf K H (.ref a) (.type "tuple")
  | dK {a : Addr} {kvs : List (Key × V)} (e : H a = some (.dK kvs)) : TyOf K H (.ref a) (.type "dict")
  | dT {a : Addr} {kvs : List (List Key × V)} (e : H a = some (.dT kvs)) : TyOf K H (.ref a) (.type "dict")
  | ins {a C dx : Addr} {fs : List (Str × V)} (e : H a = some (.ins C dx fs)) (cl : Cls K C) (ha : PySem.W.findIn K (.ref C) "__class__" = some (some (.builtin "object.__class__")))
      (hn : PySem.W.specialIn K (.builtin "object.__class__") "__get__" = some (some (.builtin "getset_descriptor.__get__"))) (htk : PySem.W.takesIn K (.builtin "object.__class__") = some true)
      (hm : PySem.W.mroIn K C (.type "object") = some true) : TyOf K H (.ref a) (.ref C)
theorem isinst_ok {x : V} {u t : Value} (I : Inv X pins σ H s) (rx : RelV x u) (ty : TyOf X.K H x t) (e : PySem.W.kitOne X.K t c = some b) (h : ∀ tk, Q (.bool b) { s with toks := tk }) :
    wpAny (model X.prog X.w) A (call (.builtin "isinstance") [u, c]) Q E s := by
  cases ty with
  | non => cases (show u = Value.none from rx); exact PySem.W.kia_one PySem.W.kitx_none I.kIn True.intro e (fun z => nomatch z) h
  | bl y => cases (show u = Value.bool y from rx); exact PySem.W.kia_one PySem.W.kitx_bool I.kIn True.intro e (fun z => nomatch z) h
  | int i => obtain ⟨t, q⟩ := (show ∃ t, u = Value.int i t from rx); cases q; exact PySem.W.kia_one PySem.W.kitx_int I.kIn True.intro e (fun z => nomatch z) h
  | str y => obtain ⟨t, q⟩ := (show ∃ t, u = Value.str y t from rx); cases q; exact PySem.W.kia_one PySem.W.kitx_str I.kIn True.intro e (fun z => nomatch z) h
  | flt y => obtain ⟨t, q⟩ := (show ∃ t, u = Value.float y t from rx); cases q; exact PySem.W.kia_one PySem.W.kitx_float I.kIn True.intro e (fun z => nomatch z) h
  | @lst a xs ea =>
    cases (show u = Value.ref a from rx)
    obtain ⟨_, _, n, _, h1⟩ := (show ObjOk X.prog X.w H s.heap a (.lst xs) from I.hok a _ ea)
    exact PySem.W.kia_one PySem.W.kitx_list I.kIn ⟨_, h1, rfl⟩ e (fun z => nomatch z) h
  | @frz a ob xs ea =>
    cases (show u = Value.ref a from rx)
    obtain ⟨_, _, _, n, _, h1⟩ := (show ObjOk X.prog X.w H s.heap a (.frz ob (.lst xs)) from I.hok a _ ea)
    exact PySem.W.kia_one PySem.W.kitx_list I.kIn ⟨_, h1, rfl⟩ e (fun z => nomatch z) h
  | @tup a xs ea =>
    cases (show u = Value.ref a from rx)
    obtain ⟨_, _, _, p⟩ := (show ObjOk X.prog X.w H s.heap a (.tup xs) from I.hok a _ ea)
    obtain ⟨o, h1, h2, _⟩ := p
    exact PySem.W.kia_one PySem.W.kitx_tuple I.kIn ⟨o, h1, h2⟩ e (fun z => nomatch z) h
  | @dK a kvs ea =>
    cases (show u = Value.ref a from rx)
    obtain ⟨_, _, vs, _, p⟩ := (show ObjOk X.prog X.w H s.heap a (.dK kvs) from I.hok a _ ea)
    obtain ⟨o, es, ep, h1, h2, _⟩ := p
    exact PySem.W.kia_one PySem.W.kitx_dict I.kIn ⟨o, h1, h2.1⟩ e (fun z => nomatch z) h
  | @dT a kvs ea =>
    cases (show u = Value.ref a from rx)
    obtain ⟨_, _, xs, _, o, es, ep, h1, h2, _⟩ := (show ObjOk X.prog X.w H s.heap a (.dT kvs) from I.hok a _ ea)
    exact PySem.W.kia_one PySem.W.kitx_dict I.kIn ⟨o, h1, h2.1⟩ e (fun z => nomatch z) h
  | @ins a C dx fs ea cl ha hn htk hm =>
    cases (show u = Value.ref a from rx)
    obtain ⟨mA, O, _⟩ := ins_get I.hok ea
    obtain ⟨od, J, _⟩ := O.look
    exact PySem.W.kia_one (PySem.W.kitx_own (cl.get _) cl.hd ha hn htk hm) I.kIn J e (fun z => nomatch z) h
end
end L2
namespace L2
open PySem PySem.Spec PyProof.Rows
structure Room (k : Nat) (A : Around) : Prop where
  hd : A.handled = none
  dp : A.depth + 3 * k + 5 < recursionLimit
  un : A.units + 16 * k + 200 < cLine
theorem Room.mono {j k : Nat} {A : Around} (r : Room k A) (h : j ≤ k) : Room j A := ⟨r.hd, by have := r.dp; omega, by have := r.un; omega⟩
theorem Room.deeper {k : Nat} {A : Around} (r : Room (k + 1) A) (env : Env) : Room k (A.deeper env) :=
  ⟨r.hd, by have := r.dp; show A.depth + 1 + 3 * k + 5 < _; omega, by have := r.un; show A.units + 3 + 16 * k + 200 < _; omega⟩
theorem Room.in1 {k : Nat} {A : Around} (r : Room (k + 1) A) : Room k A.in1 :=
  ⟨r.hd, by have := r.dp; show A.depth + 3 * k + 5 < _; omega, by have := r.un; show A.units + 1 + 16 * k + 200 < _; omega⟩
theorem Room.depth {k : Nat} {A : Around} (r : Room k A) : A.depth < recursionLimit := by have := r.dp; omega
theorem Room.units {k : Nat} {A : Around} (r : Room k A) : A.units + 64 < cLine := by have := r.un; omega
noncomputable def tNil : TA := fun _ H Q => Q [] H
noncomputable def tCons (ta : TE) (tr : TA) : TA := fun σ H Q => ta σ H fun x H1 => tr σ H1 fun xs H2 => Q (x :: xs) H2
section
variable {X : Cx} {e : Expr} {es : List Expr} {te : TE} {t : TA} {pos : Pos}
theorem pa_nil : PA X [] tNil := fun _ _ _ _ H Q I h => Calls.spliced_nil ⟨[], H, I, .nil, h⟩
theorem pa_cons (ha : PE X e te) (hr : PA X es t) (hs : starEach (e :: es) X.env = (false, eval e X.env) :: starEach es X.env := by rfl) : PA X (e :: es) (tCons te t) := by
  intro pos pins s σ H Q I h
  rw [hs]
  show wpAny _ _ (spliced ((false, eval e X.env) :: backTo pos (starEach es X.env))) _ _ s
  refine Calls.spliced_cons (thn (ha pins s σ H _ I h) fun u s1 ⟨x, H1, I1, r1, q1⟩ => ?_)
  exact thn (hr pos pins s1 σ H1 _ I1 q1) fun us s2 ⟨xs, H2, I2, r2, q2⟩ => ⟨x :: xs, H2, I2, .cons r1 r2, q2⟩
noncomputable def tTup (t : TA) : TE := fun σ H Q => t σ H fun xs H1 => xs.length ≤ sizeLine ∧ ∀ p, H1 p = none → Q (.ref p) (upd H1 p (.tup xs))
noncomputable def tLst (t : TA) : TE := fun σ H Q => t σ H fun xs H1 => xs.length ≤ sizeLine ∧ ∀ p, H1 p = none → Q (.ref p) (upd H1 p (.lst xs))
theorem pe_tup {x1} (h : PA X es t) : PE X (.Tuple es x1 pos) (tTup t) := by
  intro pins s σ H Q I hq
  refine wpAny_Tuple_spliced (thn (h pos pins s σ H _ I hq) fun us s1 ⟨xs, H1, I1, r, z, q⟩ => ⟨by rw [← r.length]; exact z, ?_⟩)
  have hf : H1 s1.heap.objs.size = none := I1.hok.fresh (Nat.le_refl _)
  refine ⟨.ref s1.heap.objs.size, upd H1 s1.heap.objs.size (.tup xs), I1.laid (t' := s1.toks) (fun b u e => Heap.get?_push_of_some _ e) (Nat.le_refl _) ?_, rfl, q _ hf⟩
  exact ⟨z, us, r, ⟨_, Heap.get?_push_size _ rfl, rfl, _, rfl⟩⟩
theorem pe_lst (h : PA X es t) : PE X (.List es pos) (tLst t) := by
  intro pins s σ H Q I hq
  refine wpAny_List_spliced (thn (h pos pins s σ H _ I hq) fun us s1 ⟨xs, H1, I1, r, z, q⟩ => ⟨by rw [← r.length]; exact z, ?_⟩)
  have hf : H1 s1.heap.objs.size = none := I1.hok.fresh (Nat.le_refl _)
  refine ⟨.ref s1.heap.objs.size, upd H1 s1.heap.objs.size (.lst xs), I1.laid (t' := s1.toks) (fun b u e => Heap.get?_push_of_some _ e) (Nat.le_refl _) ?_, rfl, q _ hf⟩
  exact ⟨z, us, 0, r, Heap.get?_push_size _ rfl⟩
end
noncomputable abbrev Sp := List V → Hp → VK → XK → Prop
noncomputable abbrev CXT := List Env → Hp → Shared → XK → Value → Shared → Prop
structure Env0 (P : Program) (w : World) (K : PySem.W.Frag) (mg : Str → Option Value) (base : Heap) (A : Around) (outer : List Env) (s : Shared) (H : Hp) : Prop where
  frames : A.frames = some outer
  mod : Mod K mg base
  bs : ∀ b o, base.get? b = some o → s.heap.get? b = some o ∧ H b = none
  bsz : base.objs.size ≤ s.heap.objs.size
  funs : s.heap.FunFrames base outer
  frf : ∀ b ∈ frs outer, H b = none
  hok : HOk P w H s.heap
  bare : AllBare s.gens
noncomputable def CE (outer : List Env) (P : Program) (w : World) (H : Hp) (s : Shared) (Q : VK) (u : Value) (s' : Shared) : Prop :=
  ∃ v H', s'.os = s.os ∧ AllBare s'.gens ∧ Un (frs outer) [] H H' s.heap s'.heap ∧ HOk P w H' s'.heap ∧ RelV v u ∧ Q v H'
noncomputable def CR (CX : CXT) (outer : List Env) (P : Program) (w : World) (H : Hp) (s : Shared) (Q : VK) (E : XK) (r : Result) (s' : Shared) : Prop :=
  match r with
  | .ok (.ret u) => CE outer P w H s Q u s'
  | .ok _ => False
  | .error e => CX outer H s E e s'
structure FnOk (P : Program) (w : World) (K : PySem.W.Frag) (mg : Str → Option Value) (base : Heap) (CX : CXT) (k : Nat) (f : Addr) (fd : FuncData) (ps : List Str) (sp : Sp) : Prop where
  len : ∀ vs H Q E, sp vs H Q E → vs.length = ps.length
  run : ∀ (A : Around) (outer : List Env) (s : Shared) (H : Hp) (args : Args) (us : List Value) (vs : List V) (Q : VK) (E : XK), Room k A → Env0 P w K mg base A outer s H → BindsTo s fd args (ps.zip us) → Vals vs us → sp vs H Q E →
    codeAny (model P w) A (.call (.ref f) args) (CR CX outer P w H s Q E) s
theorem FnOk.mono {P : Program} {w : World} {K : PySem.W.Frag} {mg : Str → Option Value} {base : Heap} {CX : CXT} {j k : Nat} {f : Addr} {fd : FuncData} {ps : List Str} {sp : Sp} (F : FnOk P w K mg base CX j f fd ps sp) (h : j ≤ k) :
    FnOk P w K mg base CX k f fd ps sp := ⟨F.len, fun A outer s H args us vs Q E hr => F.run A outer s H args us vs Q E (hr.mono h)⟩
theorem Env0.in1 {P : Program} {w : World} {K : PySem.W.Frag} {mg : Str → Option Value} {base : Heap} {A : Around} {outer : List Env} {s : Shared} {H : Hp} (e : Env0 P w K mg base A outer s H) :
    Env0 P w K mg base A.in1 outer s H := ⟨e.frames, e.mod, e.bs, e.bsz, e.funs, e.frf, e.hok, e.bare⟩
section
variable {X : Cx} {pins : List (Addr × Obj)} {σ : St} {H : Hp} {s s' : Shared}
theorem Inv.env0 (I : Inv X pins σ H s) : Env0 X.prog X.w X.K X.mg X.base X.A X.stack s H :=
  ⟨I.ok.frames, I.ok.mod, I.bs, Nat.le_trans I.ok.bsz I.sz, I.stack, I.stkFree, I.hok, I.bare⟩
theorem Inv.after {Q : VK} {u : Value} (I : Inv X pins σ H s) (h : CE X.stack X.prog X.w H s Q u s') : EP X pins σ Q u s' := by
  obtain ⟨v, H', os, bare, un, hok, r, q⟩ := h
  obtain ⟨hh, g, d, t, os'⟩ := s'
  obtain rfl : os' = s.os := os
  exact ⟨v, H', I.call (h' := hh) (g' := g) (d' := d) (t' := t) (ch := []) un hok bare (fun b z => absurd z (by simp)), r, q⟩
end
noncomputable def tCall (sp : Sp) (dvs : List V) (E : XK) (t : TA) : TE := fun σ H Q => t σ H fun vs H1 => sp (vs ++ dvs) H1 Q E
noncomputable def Binds (K : PySem.W.Frag) (fd : FuncData) (ps : List Str) (ds : List Value) : Prop :=
  ∀ (s : Shared) (us : List Value), K.In s.heap → (us ++ ds).length = ps.length → BindsTo s fd ⟨us, []⟩ (ps.zip (us ++ ds))
theorem Binds.all {K : PySem.W.Frag} {fd : FuncData} {ps : List Str} (h : ∀ us : List Value, us.length = ps.length → bindArgs fd ⟨us, []⟩ = pure (ps.zip us)) : Binds K fd ps [] := fun s us _ hl => by
  rw [List.append_nil] at hl ⊢
  exact .of_eq (h us hl)
noncomputable def Passes (CX : CXT) (X : Cx) (E : XK) : Prop := ∀ (pins : List (Addr × Obj)) (σ : St) (H : Hp) (s : Shared) (e : Value) (s' : Shared), Inv X pins σ H s → CX X.stack H s E e s' → X.xe e s'
section
variable {X : Cx} {CX : CXT} {k : Nat} {f C : Addr} {fd : FuncData} {ps : List Str} {sp : Sp} {dvs : List V} {ds : List Value} {E : XK} {x m : Str} {p pos apos : Pos} {e o : Expr} {es : List Expr} {ta : TE} {t : TA}
theorem run_fn {pins : List (Addr × Obj)} {σ : St} {H : Hp} {s : Shared} {Q : VK} {us : List Value} {vs : List V} (F : FnOk X.prog X.w X.K X.mg X.base CX k f fd ps sp) (hr : Room k X.A) (hb : Binds X.K fd ps ds) (hd : Vals dvs ds) (hx : Passes CX X E)
    (I : Inv X pins σ H s) (r : Vals vs us) (h : sp (vs ++ dvs) H Q E) : wpAny (model X.prog X.w) X.A (call (.ref f) us) (EP X pins σ Q) X.xe s := by
  have r2 : Vals (vs ++ dvs) (us ++ ds) := r.append hd
  have hl : (us ++ ds).length = ps.length := by rw [← r2.length]; exact F.len _ _ _ _ h
  refine wpAny_call (codeAny_mono (F.run X.A X.stack s H ⟨us, []⟩ (us ++ ds) (vs ++ dvs) Q E hr I.env0 (hb s us I.kIn hl) r2 h) fun r s' hq => ?_)
  cases r with
  | error e => exact hx pins σ H s e s' I hq
  | ok fl =>
    cases fl with
    | ret u => exact I.after hq
    | next => exact False.elim hq
    | brk => exact False.elim hq
    | cont => exact False.elim hq
theorem pe_call (F : FnOk X.prog X.w X.K X.mg X.base CX k f fd ps sp) (hr : Room k X.A) (hg : Gl X x) (hm : X.mg x = some (.ref f)) (hk : PySem.W.keepIn X.K (.ref f) = true) (hb : Binds X.K fd ps ds) (hd : Vals dvs ds) (hx : Passes CX X E)
    (ha : PA X (e :: es) t) (hdb : (x == ("__debug__" : Str)) = false := by decide) (he : starEach (e :: es) X.env = (false, eval e X.env) :: starEach es X.env := by rfl) (hpl : (backTo pos (starEach es X.env)).any (·.1) = false := by rfl) :
    PE X (.Call (.Name x p) (e :: es) [] pos) (tCall sp dvs E t) := by
  intro pins s σ H Q I h
  refine wpAny_Call_Name_kw (ld_glob I hg hm ?_ hdb)
  refine PySem.W.callWith_K (h₀ := X.base) I.ok.mod.kin hk (thn (ha pos pins s σ H _ I h) fun us s1 ⟨vs, H1, I1, r, q⟩ => ⟨I1.kIn, ?_⟩) he hpl
  exact run_fn F hr hb hd hx I1 r q
end
section
variable {X : Cx} {CX : CXT} {k : Nat} {f C : Addr} {fd : FuncData} {ps ks : List Str} {sp : Sp} {E : XK} {x m : Str} {p pos apos kpos : Pos} {e o : Expr} {es : List Expr} {kws : List Keyword} {te ta : TE} {t tk : TA} {nm : Option Str}
variable {g : List Value → List Value → List Value} {gV : List V → List V → List V}
end
structure FnScope (N P : List Str) (sc : Scope) : Prop where
  kind : sc.kind = .function
  co : sc.isCoroutine = false
  gen : sc.isGenerator = false
  nd : N.Nodup
  pre : N.take P.length = P
  par : ∀ x ∈ P, sc.names.lookup x = some .local ∨ sc.names.lookup x = some .cell
  nofree : ∀ y ∈ sc.names, y.2 ≠ .free
theorem bindL_out {kindOf : Str → Option NameKind} {x : Str} : ∀ {binds : List (Str × Value)} {m : Str → Option Value}, (∀ v, (x, v) ∉ binds) → bindL kindOf binds m x = m x
  | [], _, _ => rfl
  | (n, v) :: r, m, h => by
    unfold bindL
    rw [bindL_out fun w hw => h w (List.mem_cons_of_mem _ hw)]
    split
    · have : x ≠ n := by rintro rfl; exact h v List.mem_cons_self
      simp [this]
    · rfl
theorem bindC_out {kindOf : Str → Option NameKind} {x : Str} : ∀ {binds : List (Str × Value)} {m : Str → Option Value}, (∀ v, (x, v) ∉ binds) → bindC kindOf binds m x = m x
  | [], _, _ => rfl
  | (n, v) :: r, m, h => by
    unfold bindC
    rw [bindC_out fun w hw => h w (List.mem_cons_of_mem _ hw)]
    split
    · rfl
    · have : x ≠ n := by rintro rfl; exact h v List.mem_cons_self
      simp [this]
theorem bindL_get {kindOf : Str → Option NameKind} {x : Str} {v : Value} : ∀ {P : List Str} {vs : List Value} {i : Nat} {m : Str → Option Value}, P.Nodup → P[i]? = some x → vs[i]? = some v → kindOf x = some .local →
    bindL kindOf (P.zip vs) m x = some v
  | [], _, _, _, _, h, _, _ => by simp at h
  | _ :: _, [], _, _, _, _, h, _ => by simp at h
  | p :: P, w :: vs, 0, m, nd, h1, h2, hk => by
    simp at h1 h2; subst h1; subst h2
    show bindL kindOf ((p, w) :: P.zip vs) m p = _
    unfold bindL
    rw [bindL_out fun v hv => (List.nodup_cons.mp nd).1 (List.of_mem_zip hv).1, if_pos hk]
    simp
  | p :: P, w :: vs, i + 1, m, nd, h1, h2, hk => by
    show bindL kindOf ((p, w) :: P.zip vs) m x = _
    unfold bindL
    exact bindL_get (i := i) (List.nodup_cons.mp nd).2 (by simpa using h1) (by simpa using h2) hk
theorem bindC_get {kindOf : Str → Option NameKind} {x : Str} {v : Value} : ∀ {P : List Str} {vs : List Value} {i : Nat} {m : Str → Option Value}, P.Nodup → P[i]? = some x → vs[i]? = some v → kindOf x ≠ some .local →
    bindC kindOf (P.zip vs) m x = some v
  | [], _, _, _, _, h, _, _ => by simp at h
  | _ :: _, [], _, _, _, _, h, _ => by simp at h
  | p :: P, w :: vs, 0, m, nd, h1, h2, hk => by
    simp at h1 h2; subst h1; subst h2
    show bindC kindOf ((p, w) :: P.zip vs) m p = _
    unfold bindC
    rw [bindC_out fun v hv => (List.nodup_cons.mp nd).1 (List.of_mem_zip hv).1, if_neg hk]
    simp
  | p :: P, w :: vs, i + 1, m, nd, h1, h2, hk => by
    show bindC kindOf ((p, w) :: P.zip vs) m x = _
    unfold bindC
    exact bindC_get (i := i) (List.nodup_cons.mp nd).2 (by simpa using h1) (by simpa using h2) hk
noncomputable def start (N : List Str) (vs : List V) : St := vs.map some ++ List.replicate (N.length - vs.length) none
noncomputable def cxOf (CX : CXT) (P : Program) (w : World) (K : PySem.W.Frag) (mg : Str → Option Value) (base : Heap) (N : List Str) (qual : Str) (scope : Scope) (f : Addr) (cd : Value) (A : Around) (outer : List Env) (s : Shared) (H : Hp) (E : XK) : Cx where
  prog := P
  w := w
  K := K
  mg := mg
  base := base
  A := A.deeper (envOfC qual scope s.heap.objs.size f cd)
  N := N
  s₀ := s
  H₀ := H
  env := envOfC qual scope s.heap.objs.size f cd
  outer := outer
  stack := envOfC qual scope s.heap.objs.size f cd :: outer
  ex := []
  calm := true
  fn := fun _ => true
  pn := []
  xe := fun e s' => wpAny (model P w) (A.deeper (envOfC qual scope s.heap.objs.size f cd)) (leaving (envOfC qual scope s.heap.objs.size f cd) e) (fun _ s'' => CX outer H s E e s'') (fun e' s'' => CX outer H s E e' s'') s'
theorem cell_has {sc : Scope} {n : Nat} {x : Str} (h : sc.names.lookup x = some .cell) : ∃ c, (cellsFrom n sc.names []).lookup x = some c := by
  have q := PySem.W.cellsFrom_some sc.names n [] (.inl h)
  exact Option.isSome_iff_exists.mp q
theorem inv_start {CX : CXT} {P : Program} {w : World} {K : PySem.W.Frag} {mg : Str → Option Value} {base : Heap} {N ps : List Str} {qual : Str} {scope : Scope} {f : Addr} {cd : Value} {A : Around} {outer : List Env} {s s1 : Shared} {H : Hp} {E : XK} {us : List Value} {vs : List V}
    (S : FnScope N ps scope) (hd : A.handled = none) (e0 : Env0 P w K mg base A outer s H) (hl : vs.length = ps.length) (r : Vals vs us)
    (x : InCallC s s.heap.objs.size (bindL (envOfC qual scope s.heap.objs.size f cd).kindOf (ps.zip us) fun _ => none) (cellsFrom (s.heap.objs.size + 1) scope.names []) (bindC (envOfC qual scope s.heap.objs.size f cd).kindOf (ps.zip us) fun _ => none) s1) :
    Inv (cxOf CX P w K mg base N qual scope f cd A outer s H E) [] (start N vs) H s1 := by
  have hpl : ps.length ≤ N.length := by have := congrArg List.length S.pre; rw [List.length_take] at this; omega
  obtain ⟨h1, tk, rfl, hk⟩ := x.done
  have noA : ∀ b : Addr, b ∉ (cxOf CX P w K mg base N qual scope f cd A outer s H E).ex := fun b z => absurd (show b ∈ ([] : List Addr) from z) (by simp)
  refine ⟨⟨e0.mod, S.kind, rfl, rfl, Nat.le_refl _, fun y z c h1 h2 => ?_, fun y hy => ?_, fun y c _ h => ?_, fun _ => hd, Around.frames_deeper e0.frames, .inr ⟨rfl, rfl⟩, fun b z => absurd z (noA b), e0.bs, e0.bsz, fun b _ _ => noA b, fun b z => absurd z (noA b), e0.funs, e0.frf⟩,
    rfl, e0.bare, Un.kept hk, ⟨_, x.toInCall.ns, fun i y v h1 h2 h3 => ?_⟩, fun y c h => ⟨_, x.cell y c h⟩, e0.hok.fresh (Nat.le_refl _), fun y c h => ?_, fun p hp => absurd (show p ∈ ([] : List (Addr × Obj)) from hp) (by simp), e0.hok.kept hk, ?_⟩
  · exact name_of_addr x.apart (PySem.mem_of_lookup h1) (PySem.mem_of_lookup h2)
  · have hy : scope.names.lookup y = some .cell ∨ scope.names.lookup y = some .free := hy
    rcases hy with hy | hy
    · exact cell_has hy
    · exact absurd rfl (S.nofree _ (PySem.mem_of_lookup hy))
  · exact Nat.le_of_lt (x.above y c (PySem.mem_of_lookup h))
  · have hi : i < vs.length := by
      unfold start at h2
      by_cases hi : i < vs.length
      · exact hi
      · rw [List.getElem?_append_right (by simpa using hi)] at h2
        rw [List.getElem?_replicate] at h2
        split at h2 <;> cases h2
    have ha : vs[i]? = some v := by
      unfold start at h2
      rw [List.getElem?_append_left (by simpa using hi), List.getElem?_map] at h2
      cases e : vs[i]? with
      | none => rw [e] at h2; cases h2
      | some a => rw [e] at h2; cases h2; rfl
    obtain ⟨u, hu, rv⟩ := r.get ha
    have hp : ps[i]? = some y := by
      rw [← S.pre, List.getElem?_take_of_lt (by omega)]; exact h1
    have ndP : ps.Nodup := by rw [← S.pre]; exact S.nd.sublist (List.take_sublist _ _)
    refine ⟨u, rv, ?_⟩
    rcases S.par y (List.mem_of_getElem? hp) with k | k
    · exact .inl ⟨k, bindL_get ndP hp hu k⟩
    · obtain ⟨c, e⟩ := cell_has (n := s.heap.objs.size + 1) k
      refine .inr ⟨.inl k, c, e, ?_⟩
      have q := x.cell y c e
      rw [bindC_get ndP hp hu (by show scope.names.lookup y ≠ _; rw [k]; decide)] at q
      exact q
  · exact e0.hok.fresh (Nat.le_of_lt (x.above y c (PySem.mem_of_lookup h)))
  · unfold start
    show _ = N.length
    rw [List.length_append, List.length_map, List.length_replicate]
    omega
theorem fn_of {CX : CXT} {P : Program} {w : World} {K : PySem.W.Frag} {mg : Str → Option Value} {base : Heap} {k : Nat} {f : Addr} {name qual : Str} {params : Arguments} {body : List Stmt} {scope : Scope} {dV kV doc pm cdv ct oc : Value} {an od : Option Addr}
    {osl : Array (Option Value)} {N ps : List Str} {sp : Sp} (lk : K.lookup f = some ⟨oc, od, .func (PySem.W.fnOf name qual params body scope dV kV doc pm an cdv ct), osl⟩) (hcd : PySem.W.codeIn K cdv qual = true) (S : FnScope N ps scope)
    (len : ∀ vs H Q E, sp vs H Q E → vs.length = ps.length)
    (hbody : ∀ (A : Around) (outer : List Env) (s : Shared) (H : Hp) (vs : List V) (Q : VK) (E : XK), Room k (A.deeper (envOfC qual scope s.heap.objs.size f cdv)) → sp vs H Q E →
      ∃ t, PSs (cxOf CX P w K mg base N qual scope f cdv A outer s H E) body t ∧ t { nx := fun _ H' => Q .non H', rt := Q } (start N vs) H) :
    FnOk P w K mg base CX (k + 1) f (PySem.W.fnOf name qual params body scope dV kV doc pm an cdv ct) ps sp := by
  refine ⟨len, fun A outer s H args us vs Q E hr e0 hb r hsp => ?_⟩
  have hl := len _ _ _ _ hsp
  have KX : K.In s.heap := e0.mod.kin.keeps fun b o e => (e0.bs b o e).1
  have lim : s.heap.NoLimit := e0.mod.nolimit.keeps fun b o e => (e0.bs b o e).1
  have hkind : ∀ y ∈ ps.zip us, scope.names.lookup y.1 = some .local ∨ (scope.names.lookup y.1 = some .cell ∧ ((cellsFrom (s.heap.objs.size + 1) scope.names []).lookup y.1).isSome = true) := fun ⟨n, v⟩ hy => by
    rcases S.par n (List.of_mem_zip hy).1 with q | q
    · exact .inl q
    · exact .inr ⟨q, PySem.W.cellsFrom_some _ _ _ (.inl q)⟩
  refine codeAny_call_function hr.depth (KX _ _ lk) rfl S.co S.gen rfl (PySem.W.codeRec_of KX hcd) (hb _ _ _ _ ?_)
  refine wpAny_newFunctionEnv_cells S.kind hkind fun env he s1 x => ?_
  subst he
  refine ⟨lim.keeps x.toInCall.keep, codeAny_func ?_⟩
  obtain ⟨t, ht, hq⟩ := hbody A outer s H vs Q E (hr.deeper _) hsp
  have I : Inv (cxOf CX P w K mg base N qual scope f cdv A outer s H E) [] (start N vs) H s1 := inv_start S hr.hd e0 hl r x
  refine wpAny_mono (ht [] s1 (start N vs) H _ I hq) (fun fl s' hs => ?_) fun e s' hs => hs
  have fin : ∀ {σ' : St} {H' : Hp} {v : V} {u : Value}, Inv (cxOf CX P w K mg base N qual scope f cdv A outer s H E) [] σ' H' s' → RelV v u → Q v H' → CE outer P w H s Q u s' :=
    fun {σ' H' v u} J rv q => ⟨v, H', J.os, J.bare, J.base, J.hok, rv, q⟩
  cases fl with
  | ret u =>
    obtain ⟨v, σ', H', J, rv, q⟩ := hs
    exact fin J rv q
  | next =>
    obtain ⟨σ', H', J, q⟩ := hs
    exact fin (v := V.non) (u := Value.none) J rfl q
  | brk =>
    obtain ⟨_, _, _, q⟩ := hs
    exact False.elim q
  | cont =>
    obtain ⟨_, _, _, q⟩ := hs
    exact False.elim q
end L2
namespace L2
open PySem PySem.Spec PyProof.Rows
section
variable {X : Cx} {x : Str} {p pos : Pos} {e : Expr} {es : List Expr} {t : TA} {id T : String} {r : List V → Hp → VK → Prop}
noncomputable def tCB (r : List V → Hp → VK → Prop) (t : TA) : TE := fun σ H Q => t σ H fun vs H1 => r vs H1 Q
theorem pe_callB (hc : CallR X (.builtin id) r) (hg : Gl X x) (hm : X.mg x = none) (hv : bootBuiltins x = some (.builtin id)) (ha : PA X (e :: es) t) (hn : x ≠ "__name__" := by decide) (hdb : (x == ("__debug__" : Str)) = false := by decide)
    (he : starEach (e :: es) X.env = (false, eval e X.env) :: starEach es X.env := by rfl) (hpl : (backTo pos (starEach es X.env)).any (·.1) = false := by rfl) : PE X (.Call (.Name x p) (e :: es) [] pos) (tCB r t) := by
  intro pins s σ H Q I h
  refine wpAny_Call_Name_kw (ld_blt I hg hm hv ?_ hn hdb)
  exact PyProof.Rows.callWith_builtin1 (thn (ha pos pins s σ H _ I h) fun us s1 ⟨vs, H1, I1, r1, q1⟩ => hc pins s1 σ H1 vs us Q I1 r1 q1) he hpl
theorem pe_callTy (hc : CallR X (.type T) r) (hg : Gl X x) (hm : X.mg x = none) (hv : bootBuiltins x = some (.type T)) (ha : PA X (e :: es) t) (hn : x ≠ "__name__" := by decide) (hdb : (x == ("__debug__" : Str)) = false := by decide)
    (he : starEach (e :: es) X.env = (false, eval e X.env) :: starEach es X.env := by rfl) (hpl : (backTo pos (starEach es X.env)).any (·.1) = false := by rfl) : PE X (.Call (.Name x p) (e :: es) [] pos) (tCB r t) := by
  intro pins s σ H Q I h
  refine wpAny_Call_Name_kw (ld_blt I hg hm hv ?_ hn hdb)
  exact PyProof.Rows.callWith_type1 (thn (ha pos pins s σ H _ I h) fun us s1 ⟨vs, H1, I1, r1, q1⟩ => hc pins s1 σ H1 vs us Q I1 r1 q1) he hpl
end
end L2
namespace HT
open PySem PyProof.Rows
section
open PySem.SeqAt
open PySem.AutoSeq1 (wpAny_loadPart')
open PySem.MeetsSeq PySem.MeetsSeq2 PySem.MeetsSeq3
end
section
variable {prog : Program} {w : World} {A : Around} {E : Value → Shared → Prop} {s : Shared}
noncomputable def sIx (n d : Nat) : Option Int → Nat
  | none => d
  | some v => if v < 0 then (v + (n : Int)).toNat else min v.toNat n
theorem sIx_none (n d : Nat) : sIx n d none = d := rfl
theorem sIx_nat (n d k : Nat) : sIx n d (some (k : Int)) = min k n := by
  show (if (k : Int) < 0 then ((k : Int) + (n : Int)).toNat else min (k : Int).toNat n) = min k n
  rw [if_neg (by omega), Int.toNat_natCast]
theorem sIx_le (n d : Nat) (hd : d ≤ n) (o : Option Int) : sIx n d o ≤ n := by
  cases o with
  | none => exact hd
  | some v =>
    show (if v < 0 then (v + (n : Int)).toNat else min v.toNat n) ≤ n
    by_cases hv : v < 0
    · rw [if_pos hv]; omega
    · rw [if_neg hv]; exact Nat.min_le_right _ _
theorem clip_eq (v : Int) (n d : Nat) : (if v < 0 then max (v + (n : Int)) 0 else min v (n : Int)) = ((sIx n d (some v) : Nat) : Int) := by
  show (if v < 0 then max (v + (n : Int)) 0 else min v (n : Int)) = (((if v < 0 then (v + (n : Int)).toNat else min v.toNat n) : Nat) : Int)
  by_cases hv : v < 0
  · simp only [if_pos hv]; omega
  · simp only [if_neg hv]; omega
theorem adjust_gen (lo hi : Option Int) (n : Nat) : Builtin.Slice.sliceAdjust lo hi 1 (n : Int) = (((sIx n 0 lo : Nat) : Int), ((sIx n n hi : Nat) : Int)) := by
  have h1 : ¬ ((1 : Int) < 0) := by omega
  unfold Builtin.Slice.sliceAdjust
  simp only [h1, if_false]
  refine Prod.ext ?_ ?_
  · cases lo with
    | none => rfl
    | some v => exact clip_eq v n 0
  · cases hi with
    | none => rfl
    | some v => exact clip_eq v n n
theorem places_gen (i j : Nat) : Builtin.Slice.slicePlaces (i : Int) (j : Int) 1 = j - i := by
  unfold Builtin.Slice.slicePlaces
  have h1 : (1 : Int) > 0 := by omega
  simp only [h1, if_true, Int.ediv_one]
  split <;> omega
theorem slicePart_ {v : Value} {o : Option Int} {Q : Option Int → Shared → Prop} (p : IsPart v o) (h : Q o s) : wpAny (model prog w) A (Builtin.Slice.slicePartIndex v) Q E s := by
  cases p with
  | none => exact slicePart_none h
  | int i t => exact slicePart_int h
theorem sliceApplied_gen {sl : Addr} {vl vu : Value} {lo hi : Option Int} {n : Nat} {Q : Int × Int × Nat → Shared → Prop} (hs : s.heap.IsSliceOf sl vl vu .none) (pl : IsPart vl lo) (pu : IsPart vu hi)
    (h : Q (((sIx n 0 lo : Nat) : Int), 1, sIx n n hi - sIx n 0 lo) s) : wpAny (model prog w) A (Builtin.Slice.sliceApplied (.ref sl) (pure (n : Int))) Q E s := by
  obtain ⟨os, hos, hcs, hds⟩ := id hs
  unfold Builtin.Slice.sliceApplied Builtin.Slice.sliceFields
  refine wpAny_bind (wpAny_bind (wpAny_field hos hds (x := vl) rfl (wpAny_bind (wpAny_field hos hds (x := vu) rfl (wpAny_bind (wpAny_field hos hds (x := .none) rfl (wpAny_pure ?_)))))))
  refine wpAny_bind (slicePart_none ?_)
  show wpAny _ _ (if ((1 : Int) == 0) = true then _ else _) _ _ s
  rw [if_neg (by decide)]
  refine wpAny_bind (slicePart_ pl (wpAny_bind (slicePart_ pu (wpAny_bind (wpAny_pure ?_)))))
  show wpAny _ _ (match Builtin.Slice.sliceAdjust lo hi 1 (n : Int) with | (lo, hi) => pure (lo, (1 : Int), Builtin.Slice.slicePlaces lo hi 1)) _ _ s
  rw [adjust_gen lo hi n]
  show wpAny _ _ (pure (((sIx n 0 lo : Nat) : Int), (1 : Int), Builtin.Slice.slicePlaces ((sIx n 0 lo : Nat) : Int) ((sIx n n hi : Nat) : Int) 1)) _ _ s
  rw [places_gen]
  exact wpAny_pure h
theorem pick_gen (xs : Array Value) (i k : Nat) : ((List.range k).filterMap fun (m : Nat) => xs[((i : Int) + (m : Int) * 1).toNat]?).toArray = ((xs.toList.drop i).take k).toArray := by
  have e : (fun (m : Nat) => xs[((i : Int) + (m : Int) * 1).toNat]?) = fun m => xs[i + m]? := by
    funext m
    have : ((i : Int) + (m : Int) * 1).toNat = i + m := by omega
    rw [this]
  rw [e]
  have := pick_run xs i k
  rw [List.filterMap_map] at this
  have e2 : ((fun x => xs[x]?) ∘ fun x => i + x) = fun m => xs[i + m]? := rfl
  rw [e2] at this
  rw [this]
theorem getItem_tuple_cut {t sl : Addr} {items : Array Value} {vl vu : Value} {lo hi : Option Int} {Q : Value → Shared → Prop} (ht : IsTup s.heap t items) (hs : s.heap.IsSliceOf sl vl vu .none) (pl : IsPart vl lo) (pu : IsPart vu hi)
    (hw : ¬ (sIx items.size 0 lo = 0 ∧ sIx items.size items.size hi = items.size))
    (h : Q (.ref s.heap.objs.size) { s with heap := s.heap.push { cls := .type "tuple", data := .seq ((items.toList.drop (sIx items.size 0 lo)).take (sIx items.size items.size hi - sIx items.size 0 lo)).toArray } })
    (hsz : items.size ≤ sizeLine) : wpAny (model prog w) A (getItem (.ref t) (.ref sl)) Q E s := by
  have htake : sizeOk (.seq ((items.toList.drop (sIx items.size 0 lo)).take (sIx items.size items.size hi - sIx items.size 0 lo)).toArray) := by
    show ((items.toList.drop (sIx items.size 0 lo)).take (sIx items.size items.size hi - sIx items.size 0 lo)).toArray.size ≤ sizeLine
    rw [List.size_toArray, List.length_take, List.length_drop, Array.length_toList]
    omega
  have hj : sIx items.size items.size hi ≤ items.size := sIx_le _ _ (Nat.le_refl _) hi
  obtain ⟨os, hos, hcs, hds⟩ := id hs
  have hTs : s.TypeIs (.ref sl) "slice" := ⟨os, hos, hcs⟩
  unfold getItem
  try with_reducible refine wpAny_holding ?_
  first | refine wpAny_bind (wpAny_pure ?_) | skip
  refine wpAny_bind (wpAny_sequenceKey ht.typeIs (by decide) ?_)
  refine wpAny_bind (wpAny_callSpecial?_slot (name := Str.ofString "__getitem__") ht.typeIs PyProof.Rows.slot_tuple_getitem
    (wpAny_call_entry PyProof.Rows.slot_tuple_getitem ht.typeIs entry_tuple_getitem ?_ (args_tuple_getitem _ _)))
  show wpAny _ _ (Builtin.Tuple.tupleItemsOf (.ref t) >>= _) _ _ s
  refine wpAny_bind (tupleItemsOf_ ht ?_)
  refine wpAny_bind (wpAny_typeOf hTs ?_)
  rw [if_pos (by decide)]
  refine wpAny_bind (sliceApplied_gen hs pl pu ?_)
  have hno : ¬ ((((sIx items.size 0 lo : Nat) : Int) == 0 && (1 : Int) == 1 && (sIx items.size items.size hi - sIx items.size 0 lo) == items.size) = true) := by
    intro q
    rw [Bool.and_eq_true, Bool.and_eq_true] at q
    have q1 : ((sIx items.size 0 lo : Nat) : Int) = 0 := eq_of_beq q.1.1
    have q2 : sIx items.size items.size hi - sIx items.size 0 lo = items.size := eq_of_beq q.2
    exact hw ⟨by omega, by omega⟩
  show wpAny _ _ (if (((sIx items.size 0 lo : Nat) : Int) == 0 && (1 : Int) == 1 && (sIx items.size items.size hi - sIx items.size 0 lo) == items.size) = true then _ else _) _ _ s
  rw [if_neg hno, pick_gen]
  first
    | exact wpAny_bind (m := Builtin.Tuple.tupleExact _) (wpAny_newObj_type (wpAny_pure ⟨_, rfl, wpAny_pure h⟩) htake)
    | exact wpAny_bind (m := Builtin.Tuple.tupleExact _) (wpAny_newObj_type (wpAny_bind (wpAny_pure (wpAny_pure ⟨_, rfl, wpAny_pure h⟩))) htake)
    | exact wpAny_bind (wpAny_bind (m := Builtin.Tuple.tupleExact _) (wpAny_newObj_type (wpAny_pure (wpAny_pure ⟨_, rfl, wpAny_pure h⟩)) htake))
    | exact wpAny_bind (wpAny_bind (m := Builtin.Tuple.tupleExact _) (wpAny_newObj_type (wpAny_pure ⟨_, rfl, wpAny_pure h⟩) htake))
end
end HT
namespace L2
open PySem PySem.Spec PyProof.Rows
noncomputable abbrev TO := St → Hp → (Option Int → Hp → Prop) → Prop
noncomputable def PO (X : Cx) (e : Option Expr) (t : TO) : Prop :=
  ∀ (pins : List (Addr × Obj)) (s : Shared) (σ : St) (H : Hp) (Q : Option Int → Hp → Prop), Inv X pins σ H s → t σ H Q →
    wpAny (model X.prog X.w) X.A (evalPart e X.env) (fun u s' => ∃ o H', Inv X pins σ H' s' ∧ IsPart u o ∧ Q o H') X.xe s
noncomputable def tNoPart : TO := fun _ H Q => Q none H
noncomputable def tPart (t : TE) : TO := fun σ H Q => t σ H fun x H1 => ∃ i, x = .int i ∧ Q (some i) H1
section
variable {X : Cx} {e : Expr} {te : TE} {lo hi : Option Expr} {tl th : TO} {pos p2 : Pos}
theorem po_none : PO X none tNoPart := by
  intro pins s σ H Q I h
  rw [evalPart_none]
  exact wpAny_pure ⟨none, H, I, .none, h⟩
theorem po_some (h : PE X e te) : PO X (some e) (tPart te) := by
  intro pins s σ H Q I hw
  rw [evalPart_some]
  refine thn (h pins s σ H _ I hw) fun u s1 ⟨x, H1, I1, r1, q1⟩ => ?_
  obtain ⟨i, rfl, q⟩ := q1
  obtain ⟨t, rfl⟩ := r1
  exact ⟨some i, H1, I1, .int i t, q⟩
noncomputable def SlR (X : Cx) (r : V → Option Int → Option Int → Hp → VK → Prop) : Prop :=
  ∀ (pins : List (Addr × Obj)) (s : Shared) (σ : St) (H : Hp) (x : V) (v vl vu : Value) (lo hi : Option Int) (sl : Addr) (Q : VK), Inv X pins σ H s → RelV x v → s.heap.IsSliceOf sl vl vu .none → IsPart vl lo → IsPart vu hi → r x lo hi H Q →
    ∃ T id, typeLookup (.type T) "__getitem__" = pure (some (.builtin id)) ∧ s.TypeIs v T ∧ wpAny (model X.prog X.w) X.A (getItem v (.ref sl)) (EP X pins σ Q) X.xe s
noncomputable def tSl (r : V → Option Int → Option Int → Hp → VK → Prop) (te : TE) (tl th : TO) : TE := fun σ H Q => te σ H fun x H1 => tl σ H1 fun l H2 => th σ H2 fun u H3 => r x l u H3 Q
theorem pe_slice {r : V → Option Int → Option Int → Hp → VK → Prop} (hr : SlR X r) (he : PE X e te) (hl : PO X lo tl) (hu : PO X hi th) : PE X (.Subscript e (.Slice lo hi none p2) pos) (tSl r te tl th) := by
  intro pins s σ H Q I h
  refine Subscript_ (thn (he pins s σ H _ I h) fun v s1 ⟨x, H1, I1, r1, q1⟩ => ?_)
  refine wpAny_Slice (thn (hl pins s1 σ H1 _ I1 q1) fun vl s2 ⟨l, H2, I2, pl, q2⟩ => thn (hu pins s2 σ H2 _ I2 q2) fun vu s3 ⟨u, H3, I3, pu, q3⟩ => ?_)
  rw [evalPart_none]
  refine wpAny_pure ?_
  have I4 : Inv X pins σ H3 { s3 with heap := s3.heap.push { cls := .type "slice", data := .fields #[vl, vu, .none] } } := I3.kept (t' := s3.toks) fun b ob q => Heap.get?_push_of_some _ q
  obtain ⟨T, id, hT, ht, hg⟩ := hr pins { s3 with heap := s3.heap.push { cls := .type "slice", data := .fields #[vl, vu, .none] } } σ H3 x v vl vu l u s3.heap.objs.size Q I4 r1 (Heap.IsSliceOf.new ..) pl pu q3
  show wpAny (model X.prog X.w) X.A (subscriptTail e (.Slice lo hi none p2) v (.ref s3.heap.objs.size)) (EP X pins σ Q) X.xe { s3 with heap := s3.heap.push { cls := .type "slice", data := .fields #[vl, vu, .none] } }
  exact tail_any (ops := [.ref s3.heap.objs.size, v]) ht hT hg (by with_unfolding_all rfl)
noncomputable def cutV (xs : List V) (lo hi : Option Int) : List V := (xs.drop (HT.sIx xs.length 0 lo)).take (HT.sIx xs.length xs.length hi - HT.sIx xs.length 0 lo)
theorem cutV_length (xs : List V) (lo hi : Option Int) : (cutV xs lo hi).length ≤ xs.length := by
  unfold cutV
  rw [List.length_take, List.length_drop]
  omega
noncomputable def rSlT (K : PySem.W.Frag) : V → Option Int → Option Int → Hp → VK → Prop := fun x lo hi H Q => ∃ a xs, x = .ref a ∧ SqT K H a xs ∧
  ¬ (HT.sIx xs.length 0 lo = 0 ∧ HT.sIx xs.length xs.length hi = xs.length) ∧ ∀ p, H p = none → Q (.ref p) (upd H p (.tup (cutV xs lo hi)))
theorem sl_tup : SlR X (rSlT X.K) := by
  intro pins s σ H x v vl vu lo hi sl Q I rx hs pl pu h
  obtain ⟨a, xs, rfl, hx, hw, q⟩ := h
  cases rx
  obtain ⟨its, r, ht, hz⟩ := I.tuple hx
  have hlen : its.toArray.size = xs.length := by rw [List.size_toArray]; exact r.length.symm
  refine ⟨"tuple", _, PyProof.Rows.slot_tuple_getitem.lookup, ht.typeIs, ?_⟩
  refine HT.getItem_tuple_cut ht hs pl pu (by rw [hlen]; exact hw) ?_ (by rw [hlen]; exact hz)
  rw [hlen]
  refine ⟨.ref s.heap.objs.size, _, I.laid (t' := s.toks) (o := .tup (cutV xs lo hi)) (fun b ob q => Heap.get?_push_of_some _ q) (Nat.le_refl _) ?_, rfl, q _ (I.hok.fresh (Nat.le_refl _))⟩
  exact ⟨Nat.le_trans (cutV_length xs lo hi) hz, _, (r.drop (HT.sIx xs.length 0 lo)).take (HT.sIx xs.length xs.length hi - HT.sIx xs.length 0 lo), IsTup.new _ _⟩
end
end L2
namespace L2
open PySem PySem.Spec PyProof.Rows
noncomputable def ixN (n : Nat) (i : Int) : Option Nat := if 0 ≤ i then (if i < n then some i.toNat else none) else if -(n : Int) ≤ i then some (i + n).toNat else none
noncomputable def atI {α : Type} (xs : List α) (i : Int) : Option α := (ixN xs.length i).bind fun j => xs[j]?
theorem ixN_seq {n : Nat} {i : Int} {j : Nat} (h : ixN n i = some j) : seqIndex? i n = some j ∧ j < n ∧ -(n : Int) ≤ i ∧ i < n := by
  unfold ixN at h
  by_cases h0 : 0 ≤ i
  · rw [if_pos h0] at h
    by_cases h1 : i < n
    · rw [if_pos h1] at h
      have e : i.toNat = j := Option.some.inj h
      exact ⟨by rw [seqIndex_of h0 h1, e], by omega, by omega, h1⟩
    · rw [if_neg h1] at h; cases h
  · rw [if_neg h0] at h
    by_cases h1 : -(n : Int) ≤ i
    · rw [if_pos h1] at h
      have e : (i + n).toNat = j := Option.some.inj h
      exact ⟨by rw [seqIndex_neg (by omega) h1, e], by omega, h1, by omega⟩
    · rw [if_neg h1] at h; cases h
theorem atI_get {α : Type} {xs : List α} {i : Int} {v : α} (h : atI xs i = some v) : ∃ j, seqIndex? i xs.length = some j ∧ xs[j]? = some v ∧ j < xs.length ∧ -(xs.length : Int) ≤ i ∧ i < xs.length := by
  unfold atI at h
  cases e : ixN xs.length i with
  | none => rw [e] at h; cases h
  | some j =>
    rw [e] at h
    obtain ⟨h1, h2, h3, h4⟩ := ixN_seq e
    exact ⟨j, h1, h, h2, h3, h4⟩
theorem atI_nat {α : Type} {xs : List α} {j : Nat} {v : α} (h : xs[j]? = some v) : atI xs (j : Int) = some v := by
  have hj : j < xs.length := (List.getElem?_eq_some_iff.mp h).1
  have e : ixN xs.length (j : Int) = some j := by
    unfold ixN
    rw [if_pos (by omega), if_pos (by omega)]; simp
  unfold atI; rw [e]; exact h
noncomputable def PlainIx (b : Expr) : Prop := ∀ o i, subscripted b false o i = operate [o, i] (getItem o i)
noncomputable def IxR (X : Cx) (r : R2) : Prop :=
  ∀ (value slice : Expr) (pins : List (Addr × Obj)) (s : Shared) (σ : St) (H : Hp) (x y : V) (v u : Value) (Q : VK), Inv X pins σ H s → RelV x v → RelV y u → r x y H Q →
    subscripted slice false v u = operate [v, u] (getItem v u) → wpAny (model X.prog X.w) X.A (subscriptTail value slice v u) (EP X pins σ Q) X.xe s
noncomputable def MtR (X : Cx) (id : String) (r : V → List V → Hp → VK → Prop) : Prop :=
  ∀ (pins : List (Addr × Obj)) (s : Shared) (σ : St) (H : Hp) (x : V) (xs : List V) (v : Value) (us : List Value) (Q : VK), Inv X pins σ H s → RelV x v → Vals xs us → r x xs H Q →
    wpAny (model X.prog X.w) X.A (call (.builtin id) (v :: us)) (EP X pins σ Q) X.xe s
section
variable {X : Cx} {a b : Expr} {ta tb : TE} {pos : Pos}
theorem pe_ix {r : R2} (hr : IxR X r) (ha : PE X a ta) (hb : PE X b tb) (hs : PlainIx b) : PE X (.Subscript a b pos) (tOp r ta tb) := by
  intro pins s σ H Q I h
  exact Subscript_ (binT ha hb I h fun v u s2 x y H2 I2 rx ry q => hr a b pins s2 σ H2 x y v u Q I2 rx ry q (hs _ _))
noncomputable def rIxL (K : PySem.W.Frag) : R2 := fun x y H Q => ∃ p xs i v, x = .ref p ∧ y = .int i ∧ SqL K H p xs ∧ atI xs i = some v ∧ Q v H
noncomputable def rIxT (K : PySem.W.Frag) : R2 := fun x y H Q => ∃ p xs i v, x = .ref p ∧ y = .int i ∧ SqT K H p xs ∧ atI xs i = some v ∧ Q v H
noncomputable def rIxS : R2 := fun x y H Q => ∃ z i c, x = .str z ∧ y = .int i ∧ z.length ≤ sizeLine ∧ atI z.cps.toList i = some c ∧ Q (.str ⟨#[c]⟩) H
theorem ix_list : IxR X (rIxL X.K) := by
  intro value slice pins s σ H x y v u Q I rx ry h hs
  obtain ⟨p, xs, i, z, rfl, rfl, hq, he, q⟩ := h
  cases rx
  obtain ⟨t, rfl⟩ := ry
  obtain ⟨its, r, pl, hz⟩ := I.list hq
  obtain ⟨j, h1, h2, h3, h4, h5⟩ := atI_get he
  obtain ⟨w, ew, rw'⟩ := r.get h2
  have hl := r.length
  have hn := line63
  have fin : EP X pins σ Q w s := ⟨z, H, I, rw', q⟩
  by_cases h0 : 0 ≤ i
  · have hj : i.toNat = j := by
      rw [seqIndex_of h0 h5] at h1
      exact Option.some.inj h1
    exact item_listR pl.isList h0 (by omega) (by rw [hj]; simpa using ew) fin hs
  · have hj : (i + (its.toArray.size : Int)).toNat = j := by
      rw [seqIndex_neg (by omega) h4] at h1
      rw [List.size_toArray, ← hl]
      exact Option.some.inj h1
    exact subscriptTail_builtinR (x := w) pl.isList.typeIs slot_list_getitem.lookup
      (wpAny_getItem_list_neg (Q := fun r s' => r = w ∧ EP X pins σ Q r s') pl.isList (by omega) (by rw [List.size_toArray] <;> omega) (by omega) (by rw [hj]; simpa using ew) ⟨rfl, fin⟩) hs
theorem ix_tup : IxR X (rIxT X.K) := by
  intro value slice pins s σ H x y v u Q I rx ry h hs
  obtain ⟨p, xs, i, z, rfl, rfl, hq, he, q⟩ := h
  cases rx
  obtain ⟨t, rfl⟩ := ry
  obtain ⟨its, r, pl, hz⟩ := I.tuple hq
  obtain ⟨j, h1, h2, h3, h4, h5⟩ := atI_get he
  obtain ⟨w, ew, rw'⟩ := r.get h2
  have hl := r.length
  have hn := line63
  have fin : EP X pins σ Q w s := ⟨z, H, I, rw', q⟩
  exact subscriptTail_builtinR (x := w) pl.typeIs slot_tuple_getitem.lookup
    (getItem_tuple (j := j) (Q := fun r s' => r = w ∧ EP X pins σ Q r s') pl (by omega) (by omega) (by rw [List.size_toArray, ← hl]; exact h1) (by simpa using ew) ⟨rfl, fin⟩) hs
theorem ix_str : IxR X rIxS := by
  intro value slice pins s σ H x y v u Q I rx ry h hs
  obtain ⟨z, i, c, rfl, rfl, hz, he, q⟩ := h
  obtain ⟨t, rfl⟩ := rx
  obtain ⟨t', rfl⟩ := ry
  obtain ⟨j, h1, h2, h3, h4, h5⟩ := atI_get he
  have hl : z.cps.toList.length = z.length := by simp [Str.length]
  rw [hl] at h1 h4 h5
  have hn := line63
  exact tail_any (typeIs_str s z t) slot_str_getitem.lookup (getItem_str (c := c) (by
    have e1 : decide (i < -(2 ^ 63 : Int)) = false := decide_eq_false (by omega)
    have e2 : decide (i ≥ 2 ^ 63) = false := decide_eq_false (by omega)
    rw [e1, e2, Bool.or_false]) (by rw [h1]; simpa using h2) ⟨.str ⟨#[c]⟩, H, I.tok _, ⟨_, rfl⟩, q⟩) hs
theorem mapSeq_set (its : List Value) (n j : Nat) (u : Value) : Obj.mapSeq (·.setIfInBounds j u) { cls := .type "list", data := .seq its.toArray n } = { cls := .type "list", data := .seq (its.set j u).toArray n } := by
  simp [Obj.mapSeq]
theorem Inv.lst {pins : List (Addr × Obj)} {σ : St} {H : Hp} {s : Shared} {p : Addr} {xs : List V} (I : Inv X pins σ H s) (h : H p = some (.lst xs)) :
    ∃ (its : List Value) (n : Nat), Vals xs its ∧ s.heap.get? p = some { cls := .type "list", data := .seq its.toArray n } ∧ xs.length ≤ sizeLine := by
  obtain ⟨z, its, n, r, e⟩ := I.hok p _ h
  exact ⟨its, n, r, e, z⟩
theorem Inv.lstUpd {pins : List (Addr × Obj)} {σ : St} {H : Hp} {s : Shared} {p : Addr} {xs ys : List V} {its its' : List Value} {n n' : Nat} {f : Obj → Obj} (I : Inv X pins σ H s) (h : H p = some (.lst xs))
    (ho : s.heap.get? p = some { cls := .type "list", data := .seq its.toArray n }) (hf : f { cls := .type "list", data := .seq its.toArray n } = { cls := .type "list", data := .seq its'.toArray n' }) (r : Vals ys its') (hz : ys.length ≤ sizeLine) (t : Nat) :
    Inv X pins σ (upd H p (.lst ys)) { s with heap := s.heap.update p f, toks := t } := by
  have e : (s.heap.update p f).get? p = some { cls := .type "list", data := .seq its'.toArray n' } := by
    rw [Heap.get?_update_self f ho (by rw [hf] <;> rfl), hf]
  refine I.write (x := p) (e := p) (by rw [h]; trivial) (.inl rfl) (fun b u hb q => (Heap.get?_update_other _ _ (Ne.symm hb)).trans q) ⟨_, e⟩ ?_
  exact ⟨hz, its', n', r, e⟩
noncomputable def rSetL : V → V → V → Hp → (Hp → Prop) → Prop := fun o i v H Q => ∃ p xs k j, o = .ref p ∧ i = .int k ∧ H p = some (.lst xs) ∧ ixN xs.length k = some j ∧ Q (upd H p (.lst (xs.set j v)))
theorem set_list : PSet X rSetL := by
  intro pins s σ H o i v ov iv u Q I ro ri rv h
  obtain ⟨p, xs, k, j, rfl, rfl, hp, hj, q⟩ := h
  cases ro
  obtain ⟨t, rfl⟩ := ri
  obtain ⟨its, n, r, ho, hz⟩ := I.lst hp
  obtain ⟨h1, h2, h3, h4⟩ := ixN_seq hj
  have hl := r.length
  have hn := line63
  have I' : Inv X pins σ (upd H p (.lst (xs.set j v))) { s with heap := s.heap.update p (Obj.mapSeq (·.setIfInBounds j u)) } :=
    I.lstUpd hp ho (mapSeq_set its n j u) (r.set rv j) (by rw [List.length_set]; exact hz) s.toks
  by_cases h0 : 0 ≤ k
  · have hk : k.toNat = j := by
      rw [seqIndex_of h0 h4] at h1
      exact Option.some.inj h1
    exact PySem.W.ki_setAt ho h0 (by omega) (by rw [List.size_toArray, ← hl]; exact h4) (by rw [hk]; exact ⟨_, I', q⟩)
  · have hk : (k + (its.toArray.size : Int)).toNat = j := by
      rw [seqIndex_neg (by omega) h3] at h1
      rw [List.size_toArray, ← hl]
      exact Option.some.inj h1
    exact PySem.W.ki_setBack ho (by omega) (by rw [List.size_toArray, ← hl]; exact h3) (by omega) (by rw [hk]; exact ⟨_, I', q⟩)
theorem slice_bounds (lo hi : Option Int) (n : Nat) : (sliceBounds lo hi none n).1 = ((HT.sIx n 0 lo : Nat) : Int) ∧ (sliceBounds lo hi none n).2.1 = ((HT.sIx n n hi : Nat) : Int) ∧ (sliceBounds lo hi none n).2.2 = 1 := by
  refine ⟨?_, ?_, rfl⟩
  · cases lo with
    | none => simp [sliceBounds, HT.sIx]
    | some i =>
      simp only [sliceBounds, HT.sIx, Option.getD_none, show (1 : Int) > 0 by decide, if_true]
      by_cases h : i < 0
      · simp only [h, if_true] <;> omega
      · simp only [h, if_false] <;> omega
  · cases hi with
    | none => simp [sliceBounds, HT.sIx]
    | some i =>
      simp only [sliceBounds, HT.sIx, Option.getD_none, show (1 : Int) > 0 by decide, if_true]
      by_cases h : i < 0
      · simp only [h, if_true] <;> omega
      · simp only [h, if_false] <;> omega
theorem slicePick_cut (its : List Value) (lo hi : Option Int) : slicePick its.toArray lo hi none = ((its.drop (HT.sIx its.length 0 lo)).take (HT.sIx its.length its.length hi - HT.sIx its.length 0 lo)).toArray := by
  obtain ⟨h1, h2, h3⟩ := slice_bounds lo hi its.toArray.size
  unfold slicePick
  rw [h1, h2, h3]
  simp only [sliceRange_one, pick_run, List.size_toArray] <;> rfl
noncomputable def rSlL (K : PySem.W.Frag) : V → Option Int → Option Int → Hp → VK → Prop := fun x lo hi H Q => ∃ a xs, x = .ref a ∧ SqL K H a xs ∧ ∀ p, H p = none → Q (.ref p) (upd H p (.lst (cutV xs lo hi)))
theorem sl_list : SlR X (rSlL X.K) := by
  intro pins s σ H x v vl vu lo hi sl Q I rx hs pl pu h
  obtain ⟨a, xs, rfl, hx, q⟩ := h
  cases rx
  obtain ⟨its, r, ht, hz⟩ := I.list hx
  have hlen := r.length
  refine ⟨"list", _, slot_list_getitem.lookup, ht.isList.typeIs, ?_⟩
  refine wpAny_getItem_list_slice ht.isList hs pl pu .none (by simp) ?_ (by rw [List.size_toArray] <;> omega)
  rw [slicePick_cut, ← hlen]
  refine ⟨.ref s.heap.objs.size, _, I.laid (t' := s.toks) (o := .lst (cutV xs lo hi)) (fun b ob q => Heap.get?_push_of_some _ q) (Nat.le_refl _) ?_, rfl, q _ (I.hok.fresh (Nat.le_refl _))⟩
  exact ⟨Nat.le_trans (cutV_length xs lo hi) hz, _, 0, (r.drop (HT.sIx xs.length 0 lo)).take (HT.sIx xs.length xs.length hi - HT.sIx xs.length 0 lo), Heap.get?_push_size _ rfl⟩
noncomputable def flatV : V → Bool
  | .non => true
  | .bl _ => true
  | .int _ => true
  | .str _ => true
  | _ => false
noncomputable def eqV : V → V → Bool
  | .non, .non => true
  | .bl a, .bl b => a == b
  | .bl a, .int b => (if a then 1 else 0) == b
  | .int a, .bl b => a == (if b then 1 else 0)
  | .int a, .int b => a == b
  | .str a, .str b => a == b
  | _, _ => false
theorem eqAt_V {A : Around} {s : Shared} {y x : V} {u v : Value} (ry : RelV y u) (rx : RelV x v) (fy : flatV y = true) (fx : flatV x = true) : SeqAt.EqAt A s u v (eqV y x) := by
  cases y with
  | non =>
    cases ry
    cases x with
    | non => cases rx; exact SeqAt.EqAt.same _
    | bl b => cases rx; exact SeqAt.EqAt.none_bool b
    | int b => obtain ⟨t, rfl⟩ := rx; exact SeqAt.EqAt.none_int b t
    | str b => obtain ⟨t, rfl⟩ := rx; exact SeqAt.EqAt.none_str b t
    | _ => exact absurd (show false = true from fx) Bool.false_ne_true
  | bl a =>
    cases ry
    cases x with
    | non => cases rx; exact SeqAt.EqAt.bool_none a
    | bl b => cases rx; exact SeqAt.EqAt.bool_bool a b
    | int b => obtain ⟨t, rfl⟩ := rx; exact SeqAt.EqAt.bool_int a b t
    | str b => obtain ⟨t, rfl⟩ := rx; exact SeqAt.EqAt.bool_str a b t
    | _ => exact absurd (show false = true from fx) Bool.false_ne_true
  | int a =>
    obtain ⟨t', rfl⟩ := ry
    cases x with
    | non => cases rx; exact SeqAt.EqAt.int_none a t'
    | bl b => cases rx; exact SeqAt.EqAt.int_bool a t' b
    | int b => obtain ⟨t, rfl⟩ := rx; exact SeqAt.EqAt.int_int a t' b t
    | str b => obtain ⟨t, rfl⟩ := rx; exact SeqAt.EqAt.int_str a t' b t
    | _ => exact absurd (show false = true from fx) Bool.false_ne_true
  | str a =>
    obtain ⟨t', rfl⟩ := ry
    cases x with
    | non => cases rx; exact SeqAt.EqAt.str_none a t'
    | bl b => cases rx; exact SeqAt.EqAt.str_bool a t' b
    | int b => obtain ⟨t, rfl⟩ := rx; exact SeqAt.EqAt.str_int a t' b t
    | str b => obtain ⟨t, rfl⟩ := rx; exact SeqAt.EqAt.str_str a t' b t
    | _ => exact absurd (show false = true from fx) Bool.false_ne_true
  | _ => exact absurd (show false = true from fy) Bool.false_ne_true
noncomputable def eqU (x : V) (u : Value) : Bool := match u with
  | .none => eqV .non x
  | .bool b => eqV (.bl b) x
  | .int i _ => eqV (.int i) x
  | .str z _ => eqV (.str z) x
  | _ => false
theorem eqU_of {x y : V} {u : Value} (r : RelV y u) (f : flatV y = true) : eqU x u = eqV y x := by
  cases y with
  | non => cases r; rfl
  | bl b => cases r; rfl
  | int i => obtain ⟨t, rfl⟩ := r; rfl
  | str z => obtain ⟨t, rfl⟩ := r; rfl
  | _ => exact absurd (show false = true from f) Bool.false_ne_true
theorem any_eqU {x : V} : ∀ {xs : List V} {us : List Value}, Vals xs us → xs.all flatV = true → us.any (eqU x) = xs.any fun y => eqV y x
  | _, _, .nil, _ => rfl
  | y :: xs, u :: us, .cons r t, f => by
    rw [List.all_cons, Bool.and_eq_true] at f
    rw [List.any_cons, List.any_cons, eqU_of r f.1, any_eqU t f.2]
theorem mem_eqAt {A : Around} {s : Shared} {x : V} {v : Value} (rx : RelV x v) (fx : flatV x = true) : ∀ {xs : List V} {us : List Value}, Vals xs us → xs.all flatV = true → ∀ u ∈ us, SeqAt.EqAt A s u v (eqU x u)
  | _, _, .nil, _ => fun u hu => by cases hu
  | y :: xs, u :: us, .cons r t, f => fun u' hu => by
    rw [List.all_cons, Bool.and_eq_true] at f
    rcases List.mem_cons.mp hu with rfl | hu
    · rw [eqU_of r f.1]; exact eqAt_V r rx f.1 fx
    · exact mem_eqAt rx fx t f.2 u' hu
noncomputable def inV (x : V) (xs : List V) : Bool := xs.any fun y => eqV y x
noncomputable def rIn (K : PySem.W.Frag) (neg : Bool) : R2 := fun x y H Q => ∃ p xs, y = .ref p ∧ (SqL K H p xs ∨ SqT K H p xs) ∧ flatV x = true ∧ xs.all flatV = true ∧ Q (.bl (if neg then !inV x xs else inV x xs)) H
theorem op_in_seq : OpR X (compareOp .In) (rIn X.K false) := by
  intro pins s σ H x y v u Q I rx ry h
  obtain ⟨p, xs, rfl, hq, fx, fs, q⟩ := h
  cases ry
  rcases hq with hq | hq
  · obtain ⟨its, r, pl, hz⟩ := I.list hq
    refine SeqAt.in_listAt (eqU x) pl.isList (fun w hw => mem_eqAt rx fx r fs w (by simpa using hw)) ⟨.bl _, H, I, rfl, ?_⟩
    rw [show its.toArray.any (eqU x) = its.any (eqU x) by simp, any_eqU r fs]
    exact q
  · obtain ⟨its, r, pl, hz⟩ := I.tuple hq
    refine SeqAt.in_tupleAt (eqU x) pl (fun w hw => mem_eqAt rx fx r fs w (by simpa using hw)) ⟨.bl _, H, I, rfl, ?_⟩
    rw [show its.toArray.any (eqU x) = its.any (eqU x) by simp, any_eqU r fs]
    exact q
theorem op_notIn_str : OpR X (compareOp .NotIn) (fun x y H Q => ∃ i j, x = .str i ∧ y = .str j ∧ Q (.bl (!(!(Builtin.Str.occurrences j i 0 j.length 1).isEmpty))) H) := by
  intro pins s σ H x y v u Q I rx ry h
  obtain ⟨i, j, rfl, rfl, q⟩ := h
  obtain ⟨t, rfl⟩ := rx
  obtain ⟨t', rfl⟩ := ry
  exact notIn_str ⟨.bl _, H, I, rfl, q⟩
theorem call_len_seq : CallR X (.builtin "len") (fun xs H Q => ∃ p ys, xs = [.ref p] ∧ (SqL X.K H p ys ∨ SqT X.K H p ys) ∧ Q (.int ys.length) H) := by
  intro pins s σ H xs us Q I r h
  obtain ⟨p, ys, rfl, hq, q⟩ := h
  obtain ⟨u, rfl, rx⟩ := vals1 r
  cases rx
  have hn := line63
  rcases hq with hq | hq
  · obtain ⟨its, r', pl, hz⟩ := I.list hq
    have hlen := r'.length
    exact Calls.call_len_list pl.isList (by simp only [List.size_toArray] <;> omega) ⟨.int ys.length, H, I.tok _, ⟨s.toks + 1, by rw [List.size_toArray, hlen]⟩, q⟩
  · obtain ⟨its, r', pl, hz⟩ := I.tuple hq
    have hlen := r'.length
    exact len_tuple pl (by simp only [List.size_toArray] <;> omega) ⟨.int ys.length, H, I.tok _, ⟨s.toks + 1, by rw [List.size_toArray, hlen]⟩, q⟩
theorem call_len_str : CallR X (.builtin "len") (fun xs H Q => ∃ z, xs = [.str z] ∧ z.length ≤ sizeLine ∧ Q (.int z.length) H) := by
  intro pins s σ H xs us Q I r h
  obtain ⟨z, rfl, hz, q⟩ := h
  obtain ⟨u, rfl, t, rfl⟩ := vals1 r
  have hn := line63
  exact len_str (by omega) ⟨.int z.length, H, I.tok _, ⟨_, rfl⟩, q⟩
theorem call_list_of : CallR X (.type "list") (fun xs H Q => ∃ p ys, xs = [.ref p] ∧ (SqL X.K H p ys ∨ SqT X.K H p ys) ∧ ∀ l, H l = none → Q (.ref l) (upd H l (.lst ys))) := by
  intro pins s σ H xs us Q I r h
  obtain ⟨p, ys, rfl, hq, q⟩ := h
  obtain ⟨u, rfl, rx⟩ := vals1 r
  cases rx
  have fin : ∀ (its : List Value), Vals ys its → ys.length ≤ sizeLine → ∀ (h' : Heap) (c' : Nat), (∀ b o', s.heap.get? b = some o' → h'.get? b = some o') →
      h'.get? s.heap.objs.size = some { cls := .type "list", dict := none, data := .seq its.toArray c', slots := #[] } → EP X pins σ Q (.ref s.heap.objs.size) { s with heap := h' } := fun its r' hz h' c' kp e =>
    ⟨.ref s.heap.objs.size, _, I.laid (t' := s.toks) kp (Nat.le_refl _) (show ObjOk X.prog X.w _ h' _ (.lst ys) from ⟨hz, its, c', r', e⟩), rfl, q _ (I.hok.fresh (Nat.le_refl _))⟩
  rcases hq with hq | hq
  · obtain ⟨its, r', pl, hz⟩ := I.list hq
    have hlen := r'.length
    obtain ⟨o, ho, hc, n, hd⟩ := pl.isList
    exact call_list_seq p (.inl rfl) ho hc hd (fun h' c' kp e => fin its r' hz h' c' kp e) (by simp only [List.size_toArray] <;> omega)
  · obtain ⟨its, r', pl, hz⟩ := I.tuple hq
    have hlen := r'.length
    obtain ⟨o, ho, hc, n, hd⟩ := pl
    exact call_list_seq p (.inr rfl) ho hc hd (fun h' c' kp e => fin its r' hz h' c' kp e) (by simp only [List.size_toArray] <;> omega)
theorem call_tuple_of : CallR X (.type "tuple") (fun xs H Q => ∃ p ys, xs = [.ref p] ∧ ((SqL X.K H p ys ∧ ∀ l, H l = none → Q (.ref l) (upd H l (.tup ys))) ∨ (SqT X.K H p ys ∧ Q (.ref p) H))) := by
  intro pins s σ H xs us Q I r h
  obtain ⟨p, ys, rfl, h⟩ := h
  obtain ⟨u, rfl, rx⟩ := vals1 r
  cases rx
  rcases h with ⟨hq, q⟩ | ⟨hq, q⟩
  · obtain ⟨its, r', pl, hz⟩ := I.list hq
    have hlen := r'.length
    refine call_tuple_list pl.isList (fun h' kp => ?_) (by simp only [List.size_toArray] <;> omega)
    have I1 : Inv X pins σ H { s with heap := h' } := I.kept (t' := s.toks) kp
    have I2 : Inv X pins σ (upd H h'.objs.size (.tup ys)) { s with heap := h'.push { cls := .type "tuple", data := .seq its.toArray } } :=
      I1.laid (t' := s.toks) (fun b o e => Heap.get?_push_of_some _ e) (Nat.le_refl _) (show ObjOk X.prog X.w _ _ _ (.tup ys) from ⟨hz, its, r', IsTup.new _ _⟩)
    exact ⟨.ref h'.objs.size, _, I2, rfl, q _ (I1.hok.fresh (Nat.le_refl _))⟩
  · obtain ⟨its, r', pl, hz⟩ := I.tuple hq
    exact call_tuple_same pl ⟨.ref p, H, I, rfl, q⟩
noncomputable def tyV (K : PySem.W.Frag) (T : String) (x : V) (H : Hp) : Prop := match x with
  | .str _ => T = "str"
  | .int _ => T = "int"
  | .ref p => (T = "list" ∧ ∃ xs, SqL K H p xs) ∨ (T = "tuple" ∧ ∃ o, K.lookup p = some o ∧ o.cls = .type "tuple" ∧ o.dict = none) ∨
      (T = "dict" ∧ ((∃ kvs, H p = some (.dK kvs)) ∨ ∃ kvs, H p = some (.dT kvs))) ∨ (T = "set" ∧ ∃ S n, H p = some (.set S n))
  | _ => False
theorem tyV_is {pins : List (Addr × Obj)} {σ : St} {H : Hp} {s : Shared} {T : String} {x : V} {v : Value} (I : Inv X pins σ H s) (r : RelV x v) (ty : tyV X.K T x H) :
    s.TypeIs v T ∧ ∀ a, v = .ref a → ∃ ob, s.heap.get? a = some ob ∧ ob.dict = none := by
  cases x with
  | str z =>
    obtain ⟨t, rfl⟩ := r
    cases (show T = "str" from ty)
    exact ⟨typeIs_str s z t, fun _ e => nomatch e⟩
  | int i =>
    obtain ⟨t, rfl⟩ := r
    cases (show T = "int" from ty)
    exact ⟨typeIs_int s i t, fun _ e => nomatch e⟩
  | ref p =>
    cases r
    rcases ty with ⟨rfl, xs, hq⟩ | ⟨rfl, o, hk, hc, hd⟩ | ⟨rfl, hk⟩ | ⟨rfl, S, n, hk⟩
    · obtain ⟨its, _, pl, _⟩ := I.list hq
      refine ⟨pl.isList.typeIs, fun a e => ?_⟩
      cases e
      obtain ⟨o, n, e, c, hd, _⟩ := pl
      exact ⟨o, e, hd⟩
    · refine ⟨⟨o, I.kIn p o hk, hc⟩, fun a e => ?_⟩
      cases e
      exact ⟨o, I.kIn _ o hk, hd⟩
    · have z : ∃ o, s.heap.get? p = some o ∧ o.ExactDict := by
        rcases hk with ⟨kvs, hk⟩ | ⟨kvs, hk⟩
        · obtain ⟨_, _, _, _, o, _, _, e, ex, _⟩ := I.hok p _ hk
          exact ⟨o, e, ex⟩
        · obtain ⟨_, _, _, _, o, _, _, e, ex, _⟩ := I.hok p _ hk
          exact ⟨o, e, ex⟩
      obtain ⟨o, e, ex⟩ := z
      refine ⟨⟨o, e, ex.1⟩, fun a e2 => ?_⟩
      cases e2
      exact ⟨o, e, ex.2.1⟩
    · obtain ⟨o, _, _, _, e, ex, _⟩ := I.hok p _ hk
      refine ⟨⟨o, e, ex.1⟩, fun a e2 => ?_⟩
      cases e2
      exact ⟨o, e, ex.2.1⟩
  | _ => exact False.elim ty
noncomputable def tBM0 (K : PySem.W.Frag) (T : String) (r : V → List V → Hp → VK → Prop) (to : TE) : TE := fun σ H Q => to σ H fun x H1 => tyV K T x H1 ∧ r x [] H1 Q
noncomputable def tBM (K : PySem.W.Frag) (T : String) (r : V → List V → Hp → VK → Prop) (to : TE) (t : TA) : TE := fun σ H Q => to σ H fun x H1 => tyV K T x H1 ∧ t σ H1 fun xs H2 => r x xs H2 Q
variable {o e : Expr} {es : List Expr} {to : TE} {t : TA} {name : Str} {apos cpos : Pos} {T id : String} {r : V → List V → Hp → VK → Prop}
theorem pe_bm0 (pa : PlainAttrs T) (slot : Slot T name id) (hty : typeOf (.builtin id) = pure (.type "method_descriptor")) (hm : MtR X id r) (ho : PE X o to)
    (hbase : attributeBase o name X.env (eval o X.env) = eval o X.env := by rfl) (hline : (apos.endLine == cpos.line) = true := by rfl) : PE X (.Call (.Attribute o name apos) [] [] cpos) (tBM0 X.K T r to) := by
  intro pins s σ H Q I h
  refine wpAny_Call_method0_late hbase hline (thn (ho pins s σ H _ I h) fun v s1 ⟨x, H1, I1, r1, ty, q1⟩ => ?_)
  obtain ⟨h1, h2⟩ := tyV_is I1 r1 ty
  exact ⟨T, id, pa, slot, hty, h1, h2, Calls.callWith_builtin rfl (PySem.evalArgs_none (hm pins s1 σ H1 x [] v [] Q I1 r1 .nil q1))⟩
theorem pe_bm (pa : PlainAttrs T) (slot : Slot T name id) (hty : typeOf (.builtin id) = pure (.type "method_descriptor")) (hm : MtR X id r) (ho : PE X o to) (ha : PA X (e :: es) t)
    (hbase : attributeBase o name X.env (eval o X.env) = eval o X.env := by rfl)
    (hfew : ((backTo cpos (starEach (e :: es) X.env)).all (fun x => !x.1) && (backToKw cpos (keywordEach [] X.env)).all (fun x => x.1.isSome)
      && decide ((e :: es).length + ([] : List Keyword).length + (if ([] : List Keyword).isEmpty then 0 else 1) < 30)) = true := by rfl)
    (hline : (apos.endLine == cpos.line) = true := by rfl) (hs : starEach (e :: es) X.env = (false, eval e X.env) :: starEach es X.env := by rfl) (hplain : (backTo cpos (starEach es X.env)).any (·.1) = false := by rfl) :
    PE X (.Call (.Attribute o name apos) (e :: es) [] cpos) (tBM X.K T r to t) := by
  intro pins s σ H Q I h
  refine wpAny_Call_method_late hbase hfew hline rfl (thn (ho pins s σ H _ I h) fun v s1 ⟨x, H1, I1, r1, ty, q1⟩ => ?_)
  obtain ⟨h1, h2⟩ := tyV_is I1 r1 ty
  refine ⟨T, id, pa, slot, hty, h1, h2, ?_⟩
  have hA := ha cpos pins s1 σ H1 _ I1 q1
  rw [hs] at hA ⊢
  refine Calls.callWith_builtin (by show (false || (backTo cpos (starEach es X.env)).any (·.1)) = false; rw [hplain] <;> rfl) (Calls.evalArgs_plain ?_)
  exact thn hA fun us s2 ⟨vs, H2, I2, r2, q2⟩ => hm pins s2 σ H2 x vs v us Q I2 r1 r2 q2
end
end L2
namespace L2
open PySem PySem.Spec PyProof.Rows
noncomputable def MtM (X : Cx) (id : String) (r : V → List V → Hp → VK → Prop) : Prop :=
  ∀ (pins : List (Addr × Obj)) (s : Shared) (σ : St) (H : Hp) (x : V) (xs : List V) (v : Value) (us : List Value) (Q : VK), Inv X pins σ H s → RelV x v → Vals xs us → r x xs H Q →
    wpAny (model X.prog X.w) X.A (call (.builtin id) (v :: us)) (EP X pins σ Q) X.xe s
theorem Vals.one : ∀ {x : V} {us : List Value}, Vals [x] us → ∃ u, us = [u] ∧ RelV x u
  | _, _, .cons r .nil => ⟨_, rfl, r⟩
theorem Vals.two : ∀ {x y : V} {us : List Value}, Vals [x, y] us → ∃ u v, us = [u, v] ∧ RelV x u ∧ RelV y v
  | _, _, _, .cons r (.cons q .nil) => ⟨_, _, rfl, r, q⟩
theorem Vals.zero : ∀ {us : List Value}, Vals [] us → us = []
  | _, .nil => rfl
theorem Vals.dropLast {xs : List V} {us : List Value} (h : Vals xs us) : Vals xs.dropLast us.dropLast := by
  induction h with
  | nil => exact .nil
  | cons r t ih =>
    cases t with
    | nil => exact .nil
    | cons q t' => exact .cons r ih
theorem Vals.reverse {xs : List V} {us : List Value} (h : Vals xs us) : Vals xs.reverse us.reverse := by
  induction h with
  | nil => exact .nil
  | cons r t ih => rw [List.reverse_cons, List.reverse_cons]; exact Vals.append ih (.cons r .nil)
theorem Vals.rep {xs : List V} {us : List Value} (h : Vals xs us) : ∀ k : Nat, Vals (List.replicate k xs).flatten (List.replicate k us).flatten
  | 0 => .nil
  | k + 1 => by
    rw [List.replicate_succ, List.replicate_succ, List.flatten_cons, List.flatten_cons]
    exact Vals.append h (Vals.rep h k)
theorem foldl_rep (its : List Value) : ∀ (k : Nat) (acc : List Value),
    List.foldl (fun x1 x2 => x1 ++ x2) acc.toArray (List.replicate k its.toArray) = (acc ++ (List.replicate k its).flatten).toArray
  | 0, acc => by simp
  | k + 1, acc => by
    have e : acc.toArray ++ its.toArray = (acc ++ its).toArray := by simp
    have e2 : (acc ++ its) ++ (List.replicate k its).flatten = acc ++ (List.replicate (k + 1) its).flatten := by
      rw [List.replicate_succ, List.flatten_cons, List.append_assoc]
    rw [← e2, ← foldl_rep its k (acc ++ its), ← e, List.replicate_succ, List.foldl_cons]
section
variable {X : Cx} {pins : List (Addr × Obj)} {σ : St} {H : Hp} {s : Shared} {l b : Addr} {xs ys zs : List V}
theorem Inv.lset {its its' : List Value} {n : Nat} {f : Array Value → Array Value} {t' : Nat} (I : Inv X pins σ H s) (hH : H l = some (.lst xs))
    (e : s.heap.get? l = some { cls := .type "list", data := .seq its.toArray n }) (hf : f its.toArray = its'.toArray) (hv : Vals ys its') (hz : ys.length ≤ sizeLine) :
    Inv X pins σ (upd H l (.lst ys)) { s with heap := s.heap.update l (Obj.mapSeq f), toks := t' } := by
  have q := PySem.IsL.update e f
  rw [hf] at q
  refine I.write (x := l) (e := l) (by rw [hH]; exact trivial) (.inl rfl) (fun b' u hb hu => (Heap.get?_update_other s.heap (Obj.mapSeq f) (Ne.symm hb)).trans hu) ⟨_, q⟩ ?_
  exact ⟨hz, its', _, hv, q⟩
theorem Inv.lnew {its : List Value} {t' : Nat} (I : Inv X pins σ H s) (hv : Vals ys its) (hz : ys.length ≤ sizeLine) :
    Inv X pins σ (upd H s.heap.objs.size (.lst ys)) { s with heap := s.heap.push { cls := .type "list", data := .seq its.toArray }, toks := t' } :=
  I.laid (fun _ _ q => Heap.get?_push_of_some _ q) (Nat.le_refl _) ⟨hz, its, 0, hv, Heap.get?_push_size _ rfl⟩
theorem Inv.fresh (I : Inv X pins σ H s) : H s.heap.objs.size = none := I.hok.fresh (Nat.le_refl _)
theorem Inv.lstM (I : Inv X pins σ H s) (hH : H l = some (.lst xs)) : xs.length ≤ sizeLine ∧ ∃ (its : List Value) (n : Nat), Vals xs its ∧ xs.length = its.length ∧ s.heap.get? l = some { cls := .type "list", data := .seq its.toArray n } := by
  obtain ⟨z, its, n, r, e⟩ := I.hok l _ hH
  exact ⟨z, its, n, r, r.length, e⟩
theorem notLongL {n : Nat} (h : n ≤ sizeLine) : Builtin.List.listTooLong n = false := by
  unfold Builtin.List.listTooLong
  exact decide_eq_false (by omega)
end
section
variable {X : Cx}
noncomputable def rAppend : V → List V → Hp → VK → Prop := fun x vs H Q => ∃ l xs y, x = .ref l ∧ vs = [y] ∧ H l = some (.lst xs) ∧ xs.length < sizeLine ∧ Q .non (upd H l (.lst (xs ++ [y])))
theorem mt_append : MtM X "list.append" rAppend := by
  intro pins s σ H x vs v us Q I rx rv h
  obtain ⟨l, xs, y, rfl, rfl, hH, hz, q⟩ := h
  cases rx
  obtain ⟨u, rfl, ru⟩ := rv.one
  obtain ⟨z, its, n, r, hl, e⟩ := I.lstM hH
  refine call_meets F.slot_list_append ⟨_, e, rfl⟩ F.entry_list_append (F.args_list_append_2 _ _) (PySem.list_append l its.toArray n u (by rw [List.size_toArray]; omega)) ⟨e, ?_⟩
  refine ⟨.non, _, I.lset (its' := its ++ [u]) hH e (by simp) (r.append (.cons ru .nil)) ?_, rfl, q⟩
  rw [List.length_append, List.length_singleton]
  omega
noncomputable def rCat : R2 := fun x y H Q => ∃ l b xs zs, x = .ref l ∧ y = .ref b ∧ H l = some (.lst xs) ∧ H b = some (.lst zs) ∧ xs.length + zs.length ≤ sizeLine ∧ ∀ p, H p = none → Q (.ref p) (upd H p (.lst (xs ++ zs)))
theorem op_cat : OpR X (binaryOp .Add) rCat := by
  intro pins s σ H x y v u Q I rx ry h
  obtain ⟨l, b, xs, zs, rfl, rfl, hH, hB, hz, q⟩ := h
  cases rx
  cases ry
  obtain ⟨z, its, n, r, hl, e⟩ := I.lstM hH
  obtain ⟨z2, its2, n2, r2, hl2, e2⟩ := I.lstM hB
  refine PySem.P.add_list e e2 ?_ (by rw [List.size_toArray, List.size_toArray]; omega)
  have ea : its.toArray ++ its2.toArray = (its ++ its2).toArray := by simp
  rw [ea]
  exact ⟨.ref _, _, I.lnew (t' := s.toks) (r.append r2) (by rw [List.length_append]; omega), rfl, q _ I.fresh⟩
noncomputable def rRep : R2 := fun x y H Q => ∃ l k xs, x = .ref l ∧ y = .int k ∧ H l = some (.lst xs) ∧ -(2 ^ 63) ≤ k ∧ k < 2 ^ 63 ∧ xs.length * k.toNat ≤ sizeLine ∧
  ∀ p, H p = none → Q (.ref p) (upd H p (.lst (List.replicate k.toNat xs).flatten))
theorem len_rep {α : Type} (xs : List α) (k : Nat) : (List.replicate k xs).flatten.length = k * xs.length := by
  induction k with
  | zero => simp
  | succ k ih => rw [List.replicate_succ, List.flatten_cons, List.length_append, ih, Nat.succ_mul, Nat.add_comm]
theorem op_rep : OpR X (binaryOp .Mult) rRep := by
  intro pins s σ H x y v u Q I rx ry h
  obtain ⟨l, k, xs, rfl, rfl, hH, h1, h2, hz, q⟩ := h
  cases rx
  obtain ⟨t, rfl⟩ := ry
  obtain ⟨z, its, n, r, hl, e⟩ := I.lstM hH
  have hlen : its.toArray.size * k.toNat ≤ sizeLine := by rw [List.size_toArray, ← hl]; exact hz
  have hcap : ¬ its.toArray.size * k.toNat > (2 ^ 63 - 1) / 8 := by
    have : (sizeLine : Nat) ≤ (2 ^ 63 - 1) / 8 := by decide
    omega
  have hfit : ¬ (!Builtin.List.listFitsIndex k) = true := by
    rw [fitsIndex_both h1 h2]
    exact Bool.false_ne_true
  have hlong : ¬ Builtin.List.listTooLong (its.toArray.size * k.toNat) = true := by
    rw [notLongL hlen]
    exact Bool.false_ne_true
  have hnew : List.foldl (fun x1 x2 => x1 ++ x2) #[] (List.replicate (if its.toArray.isEmpty = true then 0 else k.toNat) its.toArray) = (List.replicate k.toNat its).flatten.toArray := by
    have f0 : ∀ m : Nat, List.foldl (fun x1 x2 => x1 ++ x2) #[] (List.replicate m its.toArray) = (List.replicate m its).flatten.toArray := fun m => by
      have := foldl_rep its m []
      rw [List.nil_append] at this
      exact this
    rw [f0]
    cases its with
    | nil => simp
    | cons a r' => rw [if_neg (by simp)]
  refine wpAny_binaryOp_repeat_ref (T := "list") (U := "int") (by decide) ⟨_, e, rfl⟩ (fun s' => typeIs_int s' k t) noFill_list_mul F.fills_int_mul F.slot_int_rmul repeat_list F.slot_int_index.lookup
    (call_meets F.slot_int_rmul (typeIs_int s k t) F.entry_int_rmul (F.args_int_rmul_2 _ _) (int___rmul___int_list k t l its.toArray n)
      ⟨e, rfl, ⟨_, e, rfl⟩, call_meets F.slot_list_mul ⟨_, e, rfl⟩ F.entry_list_mul (F.args_list_mul_2 _ _) (AutoListH.list___mul___list_int_3 l its.toArray n k t hfit hcap hlong) ⟨e, ?_⟩⟩)
  rw [hnew]
  exact ⟨.ref _, _, I.lnew (t' := s.toks) (r.rep k.toNat) (by rw [len_rep, Nat.mul_comm]; exact hz), rfl, q _ I.fresh⟩
end
section
variable {prog : Program} {w : World} {A : Around} {E : Value → Shared → Prop} {s : Shared}
end
section
variable {X : Cx}
end
end L2
namespace Att
open PySem PySem.W PySem.Calls PyProof.Rows
theorem ints_of_wellAll {P : Params} {h : Heap} : ∀ (ns : List Int) (vs : List Value), WellAll P h vs (ns.map WData.int) → IntsAre vs ns := by
  intro ns
  induction ns with
  | nil =>
    intro vs w
    rw [List.map_nil] at w
    cases w
    exact .nil
  | cons n ns ih =>
    intro vs w
    rw [List.map_cons] at w
    cases w with
    | cons a b =>
      cases a
      exact .cons _ _ (ih _ b)
theorem script_of {l : OpenLaw} {n : Nat} (hn : l.most = some n) {P : Params} {h : Heap} {args : List WData} {vals : List Value}
    (hpre : l.row.toRowW.claim.pre args = true) (hwl : WellAll P h vals args) :
    ∃ a vs ns, vals = [Value.ref a] ∧ args = [WData.list (ns.map WData.int)] ∧ h.get? a = some { cls := .type "list", data := .seq vs.toArray } ∧ IntsAre vs ns ∧ ns.length ≤ n := by
  have hsh : WShape.hasAll [] args [.list .int] = true := (pre_splitW hpre).1
  have hc : l.pre.holds [] { args := args } = true := (pre_splitW hpre).2
  obtain ⟨d, r, rfl, h1, h2⟩ := hasAllW_cons hsh
  obtain rfl := hasAllW_nil h2
  obtain ⟨xs, rfl, h3⟩ := hasW_list h1
  obtain ⟨ns, rfl⟩ := items_int h3
  have hlen : ns.length ≤ n := by
    unfold OpenLaw.pre at hc
    have h4 : (WTm.not (.lt (.lit (.int (n : Int))) (.len (.arg 0)))).holds [] { args := [.list (ns.map .int)] } = true := by
      have h4 := (holds_andW hc).1
      rw [hn] at h4
      exact h4
    have h5 := condW_of h4 (w_not (w_lt w_lit (w_len_list (w_arg rfl))))
    rw [List.length_map] at h5
    refine Nat.le_of_not_lt fun q => ?_
    have q' : (n : Int) < ((ns.length : Nat) : Int) := by omega
    first
      | (rw [decide_eq_true q'] at h5; exact absurd h5 (by decide))
      | (simp at h5; omega)
  cases hwl with
  | cons w1 w2 =>
    cases w2
    cases w1 with
    | list ho hall => exact ⟨_, _, ns, rfl, rfl, ho, ints_of_wellAll ns _ hall, hlen⟩
theorem post_true (l : OpenLaw) (args : List WData) : l.row.toRowW.claim.post args (.bool true) args = true :=
  postW_of (r := l.row.toRowW) (X := (true == true))
    (show WShape.has [] (.bool true) .bool = true by first | rfl | decide | simp [WShape.has, WShape.arms, WShape.armsAll])
    (show (WTm.eq .res (.lit (.bool true))).value [] { args := args, res := some (.bool true), after := args } = some (.bool (true == true)) from w_eq_bool (w_res rfl) w_lit) rfl
theorem attach_call {l : OpenLaw} {n : Nat} {q : Program} {loose : List Str} {XP : (Str → Option Value) → Heap → Prop} {YP : World → Heap → Prop} {d : DefRec}
    (hn : l.most = some n) (hdf : d.params.defaults = [])
    (call : ∀ (w : World) (s₀ s₁ : Shared) (mg mb : Str → Option Value) (fa : Addr) (o : Obj) (pm cd doc : Value) (a : Addr) (vs : List Value) (ns : List Int),
      Ground q loose [] XP w s₀ mg mb s₁.heap → YP w s₁.heap →
      s₁.heap.get? fa = some o → o.data = .func (docDef d.name d.params d.body d.scope pm cd doc) → s₁.heap.CodeRec cd d.name → mg d.name = some (.ref fa) →
      s₁.heap.get? a = some { cls := .type "list", data := .seq vs.toArray } → IntsAre vs ns → ns.length ≤ n → s₁.gens = #[] →
      codeAny (model l.prog w) callerA (.call (.ref fa) ⟨[.ref a], []⟩) (fun r s' => r = .ok (.ret (.bool true)) ∧ OldK s₁.heap s'.heap ∧ s'.os = s₁.os ∧ AllBare s'.gens) s₁) :
    WalkO q loose XP YP l.row.toRowW d [] (fun f vs => PySem.call f vs) := by
  intro w s₀ s₁ mg mb G Y fa o pm cd doc dV kV ho hd hcd hD hmg hg args vals as hpre hlay hrd hwl hlo
  obtain rfl : dV = .none := Dflts.none hD hdf
  obtain rfl : kV = .none := Dflts.noKw hD
  obtain ⟨a, vs, ns, rfl, rfl, hobj, hints, hlen⟩ := script_of hn hpre hwl
  refine enter_call (codeAny_mono (call w s₀ s₁ mg mb fa o pm cd doc a vs ns G Y ho (fd_plain hd) hcd hmg hobj hints hlen hg) fun r s' hq => ?_)
  obtain ⟨rfl, h2, h3, h4⟩ := hq
  exact ⟨.inl ⟨.bool true, .bool true, [], rfl, fun _ => rfl, .bool true, post_true l _, fun _ => ⟨List.Pairwise.nil, fun _ hm => (nomatch hm)⟩⟩, h2, h3, h4⟩
section
variable {prog : Program} {w : World} {A : Around} {E : Value → Shared → Prop} {s : Shared} {K : Frag}
end
end Att
namespace L2
open PySem PySem.Spec PyProof.Rows
theorem vals_ints : ∀ {vs : List Value} {ns : List Int}, IntsAre vs ns → Vals (ns.map V.int) vs
  | _, _, .nil => .nil
  | _, _, .cons n t h => .cons ⟨t, rfl⟩ (vals_ints h)
noncomputable def Only (H : Hp) : Prop := ∀ b, H b = none ∨ ∃ o xs, H b = some (.frz o (.lst xs))
theorem law_call {P : Program} {w : World} {K : PySem.W.Frag} {mg mb : Str → Option Value} {CX : CXT} {k : Nat} {fa a : Addr} {fd : FuncData} {x : Str} {sp : Sp} {s₁ : Shared} {vs : List Value} {ns : List Int}
    (KX : K.In s₁.heap) (hns : s₁.heap.Ns mainGlobals mg) (hb : s₁.heap.Ns builtinsNs mb) (hbb : ∀ x : Str, x ≠ "__name__" → mb x = bootBuiltins x) (hlim : s₁.heap.NoLimit) (hg : s₁.gens = #[])
    (ha : s₁.heap.get? a = some { cls := .type "list", data := .seq vs.toArray }) (hi : IntsAre vs ns) (hl : ns.length ≤ sizeLine) (hr : Room k callerA)
    (F : ∀ base : Heap, K.In base → base.Ns mainGlobals mg → FnOk P w K mg base CX k fa fd [x] sp) (hbind : ∀ (s : Shared) (u : Value), BindsTo s fd ⟨[u], []⟩ [(x, u)])
    (hsp : ∀ H : Hp, Only H → SqL K H a (ns.map V.int) → sp [.ref a] H (fun v _ => v = .bl true) fun _ _ _ => False)
    (hCX : ∀ H e s', CX [] H s₁ (fun _ _ _ => False) e s' → False) :
    codeAny (model P w) callerA (.call (.ref fa) ⟨[.ref a], []⟩) (fun r s' => r = .ok (.ret (.bool true)) ∧ OldK s₁.heap s'.heap ∧ s'.os = s₁.os ∧ AllBare s'.gens) s₁ := by
  have rv := vals_ints hi
  have lenV := hi.length
  have core : ∀ H : Hp, Only H → SqL K H a (ns.map V.int) → HOk P w H s₁.heap → (∀ b, H b ≠ none → b = a) → (H a ≠ none → K.lookup a = none) →
      codeAny (model P w) callerA (.call (.ref fa) ⟨[.ref a], []⟩) (fun r s' => r = .ok (.ret (.bool true)) ∧ OldK s₁.heap s'.heap ∧ s'.os = s₁.os ∧ AllBare s'.gens) s₁ := by
    intro H hO hS hok hA hK
    have base_of : ∀ {b : Addr} {o : Obj}, s₁.heap.get? b = some o → H b = none → (hidT s₁.heap H).get? b = some o := fun e n => hidT_get e n
    have noA : ∀ {b : Addr} {o : Obj} {es : Array DictEntry} {ep : Nat}, s₁.heap.get? b = some o → o.data = .dict es ep → H b = none := fun {b o es ep} e d => by
      cases q : H b with
      | none => rfl
      | some u =>
        have e' : b = a := hA b (by rw [q]; simp)
        subst e'
        rw [ha] at e; cases e
        have d' : Data.seq vs.toArray _ = Data.dict es ep := d
        cases d'
    have nsK : ∀ {b : Addr} {m : Str → Option Value}, s₁.heap.Ns b m → (hidT s₁.heap H).Ns b m := fun {b m} ⟨o, es, ep, e, d, r⟩ => ⟨o, es, ep, base_of e (noA e d), d, r⟩
    have hKb : K.In (hidT s₁.heap H) := fun b o e => base_of (KX b o e) (by
      cases q : H b with
      | none => rfl
      | some u =>
        have e' : b = a := hA b (by rw [q]; simp)
        subst e'
        rw [hK (by rw [q]; simp)] at e; cases e)
    have hM : Mod K mg (hidT s₁.heap H) := ⟨hKb, nsK hns, ⟨mb, nsK hb, hbb⟩, let ⟨mc, h1, h2⟩ := hlim; ⟨mc, nsK h1, h2⟩⟩
    have e0 : Env0 P w K mg (hidT s₁.heap H) callerA [] s₁ H := ⟨rfl, hM, fun b o e => of_hidT e, Nat.le_of_eq (hidT_size _ _), trivial, fun b hb => absurd (show b ∈ ([] : List Addr) from hb) (by simp), hok, .of_eq hg⟩
    refine codeAny_mono ((F _ hKb (nsK hns)).run callerA [] s₁ H ⟨[.ref a], []⟩ [.ref a] [.ref a] _ _ hr e0 (hbind s₁ (.ref a)) (.cons rfl .nil) (hsp H hO hS)) fun r s' h => ?_
    cases r with
    | error e => exact (hCX H e s' h).elim
    | ok fl =>
      cases fl with
      | next => exact False.elim h
      | brk => exact False.elim h
      | cont => exact False.elim h
      | ret u =>
        obtain ⟨v, H', os, bare, un, hok', r', q⟩ := h
        have q' : v = .bl true := q
        subst q'
        obtain rfl : u = Value.bool true := r'
        refine ⟨rfl, OldK.of_keep fun b o e => ?_, os, bare⟩
        cases q : H b with
        | none => exact un.keep b o e q (by intro z; exact absurd (show b ∈ ([] : List Addr) from z) (by simp)) (by simp)
        | some u =>
          rcases hO b with z | ⟨ob, xs, z⟩
          · rw [q] at z; cases z
          · have z2 := un.frzs b ob _ z
            obtain ⟨e1, _⟩ := hok b _ z
            obtain ⟨e2, _⟩ := hok' b _ z2
            rw [e] at e1; cases e1
            exact e2
  cases hk : K.lookup a with
  | some o =>
    have e := KX a o hk
    rw [ha] at e
    cases e
    refine core (fun _ => none) (fun _ => .inl rfl) (.inr ⟨_, vs.toArray, _, hk, rfl, rfl, rfl, by rw [List.size_toArray, lenV]; exact hl, by simpa using rv⟩) (fun b u z => by have z' : (none : Option HO) = some u := z; cases z') (fun b z => absurd rfl z) fun z => absurd rfl z
  | none =>
    refine core (fun b => if b = a then some (.frz { cls := .type "list", data := .seq vs.toArray } (.lst (ns.map V.int))) else none) (fun b => ?_) (.inl (.inr ⟨{ cls := .type "list", data := .seq vs.toArray }, if_pos rfl⟩)) (fun b u z => ?_) (fun b z => ?_) fun _ => hk
    · by_cases hb : b = a
      · exact .inr ⟨_, _, if_pos hb⟩
      · exact .inl (if_neg hb)
    · by_cases hb : b = a
      · have z' := (if_pos hb).symm.trans z
        cases z'
        subst hb
        exact ⟨ha, by rw [List.length_map]; exact hl, vs, _, rv, ha⟩
      · have z' := (if_neg hb).symm.trans z
        cases z'
    · by_cases hb : b = a
      · exact hb
      · exact absurd (if_neg hb) z
end L2
namespace L2
open PySem PySem.Spec PyProof.Rows
noncomputable abbrev KOf {K : PySem.W.Frag} {h : Heap} (_ : K.In h) : PySem.W.Frag := K
theorem walk_of {l : PySem.W.OpenLaw} {n k : Nat} {q : Program} {loose : List Str} {XP : (Str → Option Value) → Heap → Prop} {YP : World → Heap → Prop} {d : DefRec} {K : Params → PySem.W.Frag} {CX : World → CXT} {sp : World → Sp} {x : Str}
    (hn : l.most = some n) (hn2 : n ≤ sizeLine) (hdf : d.params.defaults = []) (hr : Room k callerA)
    (hY : ∀ (w : World) (h : Heap), YP w h → (K w.params).In h)
    (F : ∀ (w : World) (mg : Str → Option Value) (fa : Addr) (h : Heap), (K w.params).In h → h.Ns mainGlobals mg → mg d.name = some (.ref fa) →
      ∃ fd : FuncData, (∀ (s : Shared) (u : Value), BindsTo s fd ⟨[u], []⟩ [(x, u)]) ∧
        ∀ base : Heap, (K w.params).In base → base.Ns mainGlobals mg → FnOk l.prog w (K w.params) mg base (CX w) k fa fd [x] (sp w))
    (hsp : ∀ (w : World) (H : Hp) (a : Addr) (ns : List Int), ns.length ≤ n → Only H → SqL (K w.params) H a (ns.map V.int) → sp w [.ref a] H (fun v _ => v = .bl true) fun _ _ _ => False)
    (hCX : ∀ (w : World) (H : Hp) (s : Shared) (e : Value) (s' : Shared), CX w [] H s (fun _ _ _ => False) e s' → False) :
    PySem.W.WalkO q loose XP YP l.row.toRowW d [] (fun f vs => PySem.call f vs) := by
  refine Att.attach_call hn hdf fun w s₀ s₁ mg mb fa o pm cd doc a vs ns G Y ho hd hcd hmg hobj hints hlen hg => ?_
  have KX := hY w _ Y
  obtain ⟨fd, hb, hF⟩ := F w mg fa _ KX G.T.g hmg
  exact law_call KX G.T.g G.T.b G.T.builtins G.T.nolimit hg hobj hints (Nat.le_trans hlen hn2) hr hF hb (fun H hO hS => hsp w H a ns hlen hO hS) fun H e s' => hCX w H s₁ e s'
end L2
namespace L2
open PySem PySem.Spec PyProof.Rows
noncomputable def defArgs (s : Stmt) : Arguments := match s with
  | .FunctionDef _ a _ _ _ _ _ _ _ _ => a
  | _ => { posonlyargs := [], args := [], vararg := none, kwonlyargs := [], kw_defaults := [], kwarg := none, defaults := [] }
noncomputable def defBody (s : Stmt) : List Stmt := match s with
  | .FunctionDef _ _ b _ _ _ _ _ _ _ => b
  | _ => []
noncomputable def defScope (s : Stmt) : Scope := match s with
  | .FunctionDef _ _ _ _ _ _ sc _ _ _ => sc
  | _ => { kind := .function, names := [], isGenerator := false, isCoroutine := false }
noncomputable abbrev CX0 : CXT := fun _ _ _ _ _ _ => False
noncomputable abbrev E0 : XK := fun _ _ _ => False
theorem pass0 {X : Cx} : Passes CX0 X E0 := fun _ _ _ _ _ _ _ h => h.elim
structure Fun (K : PySem.W.Frag) (x qual : Str) (st : Stmt) (f : Addr) (fd : FuncData) : Prop where
  ex : ∃ (oc : Value) (od : Option Addr) (kV doc pm : Value) (an : Option Addr) (cdv ct : Value) (osl : Array (Option Value)),
    fd = PySem.W.fnOf x qual (defArgs st) (defBody st) (defScope st) .none kV doc pm an cdv ct ∧ K.lookup f = some ⟨oc, od, .func fd, osl⟩ ∧ PySem.W.codeIn K cdv qual = true
  kp : PySem.W.keepIn K (.ref f) = true
section
variable {P : Program} {w : World} {K : PySem.W.Frag} {mg : Str → Option Value} {base : Heap}
theorem Fun.ok {x qual : Str} {st : Stmt} {f : Addr} {fd : FuncData} {N ps : List Str} {k : Nat} {sp : Sp} (F : Fun K x qual st f fd) (S : FnScope N ps (defScope st)) (len : ∀ vs H Q E, sp vs H Q E → vs.length = ps.length)
    (hbody : ∀ (cdv : Value) (A : Around) (outer : List Env) (s : Shared) (H : Hp) (vs : List V) (Q : VK) (E : XK), Room k (A.deeper (envOfC qual (defScope st) s.heap.objs.size f cdv)) → sp vs H Q E →
      ∃ t, PSs (cxOf CX0 P w K mg base N qual (defScope st) f cdv A outer s H E).nox (defBody st) t ∧ t { nx := fun _ H' => Q .non H', rt := Q } (start N vs) H) : FnOk P w K mg base CX0 (k + 1) f fd ps sp := by
  obtain ⟨oc, od, kV, doc, pm, an, cdv, ct, osl, rfl, lk, hcd⟩ := F.ex
  refine fn_of lk hcd S len fun A outer s H vs Q E hr hsp => ?_
  obtain ⟨t, h, q⟩ := hbody cdv A outer s H vs Q E hr hsp
  exact ⟨t, h.nox, q⟩
theorem Fun.binds {x qual : Str} {st : Stmt} {f : Addr} {fd : FuncData} {ps : List Str} (F : Fun K x qual st f fd)
    (h : ∀ (kV doc pm : Value) (an : Option Addr) (cdv ct : Value) (us : List Value), us.length = ps.length → bindArgs (PySem.W.fnOf x qual (defArgs st) (defBody st) (defScope st) .none kV doc pm an cdv ct) ⟨us, []⟩ = pure (ps.zip us)) : Binds K fd ps [] := by
  obtain ⟨oc, od, kV, doc, pm, an, cdv, ct, osl, rfl, lk, hcd⟩ := F.ex
  exact .all (h kV doc pm an cdv ct)
theorem fun_mk {x qual : Str} {st : Stmt} {f : Addr} {oc : Value} {od an : Option Addr} {osl : Array (Option Value)} {kV doc pm cdv ct : Value} (l : K.lookup f = some ⟨oc, od, .func (PySem.W.fnOf x qual (defArgs st) (defBody st) (defScope st) .none kV doc pm an cdv ct), osl⟩)
    (c : PySem.W.codeIn K cdv qual = true) (k : PySem.W.keepIn K (.ref f) = true) : Fun K x qual st f (PySem.W.fnOf x qual (defArgs st) (defBody st) (defScope st) .none kV doc pm an cdv ct) := ⟨⟨oc, od, kV, doc, pm, an, cdv, ct, osl, rfl, l, c⟩, k⟩
end
section
variable {X : Cx}
theorem pv (i : Nat) {x : Str} {pos : Pos} (hN : X.N[i]? = some x := by rfl) (hv : Vis X.env.scope x := by first | exact Or.inl rfl | exact Or.inr (Or.inl rfl) | exact Or.inr (Or.inr rfl)) (hd : (x == ("__debug__" : Str)) = false := by decide)
    (hcd : (x == ("__classdict__" : Str)) = false := by decide) : PE X (.Name x pos) (tVar i) := pe_var hN hv hd hcd
end
theorem iteF {A B : Prop} (h : B) : if false = true then A else B := by
  rw [if_neg Bool.false_ne_true]
  exact h
theorem iteT {A B : Prop} (h : A) : if true = true then A else B := by
  rw [if_pos rfl]
  exact h
theorem ite2 {c A B : Prop} [Decidable c] (h1 : c → A) (h2 : ¬ c → B) : if c then A else B := by
  by_cases h : c
  · rw [if_pos h]
    exact h1 h
  · rw [if_neg h]
    exact h2 h
noncomputable def Same (H H' : Hp) : Prop := ∀ b o, H b = some o → H' b = some o
theorem Same.refl (H : Hp) : Same H H := fun _ _ h => h
theorem Same.trans {H H1 H2 : Hp} (a : Same H H1) (b : Same H1 H2) : Same H H2 := fun c o h => b c o (a c o h)
theorem Same.free {H H' : Hp} (e : Same H H') {l : Addr} (h : H' l = Option.none) : H l = Option.none := by
  cases q : H l with
  | none => rfl
  | some o =>
    rw [e l o q] at h
    cases h
theorem Same.seq {K : PySem.W.Frag} {H H' : Hp} {a : Addr} {xs : List V} (e : Same H H') (h : SqL K H a xs) : SqL K H' a xs := by
  rcases h with (h | ⟨o, h⟩) | h
  · exact .inl (.inl (e _ _ h))
  · exact .inl (.inr ⟨o, e _ _ h⟩)
  · exact .inr h
end L2
set_option Elab.async false
set_option linter.all false
set_option maxRecDepth 100000
set_option maxHeartbeats 4000000
namespace L2
open PySem PySem.Spec PyProof.Rows
section
variable {X : Cx}
theorem mt_lower : MtR X "str.lower" (fun x xs H Q => ∃ z, x = .str z ∧ xs = [] ∧ z.length ≤ 5592405 ∧ Q (.str (Txt.lower z)) H) := by
  intro pins s σ H x xs v us Q I rx rs h
  obtain ⟨z, rfl, rfl, hz, q⟩ := h
  obtain ⟨t, rfl⟩ := rx
  cases rs
  exact SCL.lower hz fun _ => ⟨.str _, H, I.tok _, ⟨_, rfl⟩, q⟩
theorem mt_upper : MtR X "str.upper" (fun x xs H Q => ∃ z, x = .str z ∧ xs = [] ∧ z.length ≤ 5592405 ∧ Q (.str (Txt.upper z)) H) := by
  intro pins s σ H x xs v us Q I rx rs h
  obtain ⟨z, rfl, rfl, hz, q⟩ := h
  obtain ⟨t, rfl⟩ := rx
  cases rs
  exact SCL.upper hz fun _ => ⟨.str _, H, I.tok _, ⟨_, rfl⟩, q⟩
theorem mt_strip : MtR X "str.strip" (fun x xs H Q => ∃ z, x = .str z ∧ xs = [] ∧ z.length ≤ sizeLine ∧ Q (.str (Txt.strip z)) H) := by
  intro pins s σ H x xs v us Q I rx rs h
  obtain ⟨z, rfl, rfl, hz, q⟩ := h
  obtain ⟨t, rfl⟩ := rx
  cases rs
  exact SCL.strip (fun t' k _ => ⟨.str _, H, I.tok _, ⟨_, rfl⟩, q⟩) hz
theorem mt_sindex (hc : X.calm = true) : MtR X "str.index" (fun x xs H Q => ∃ z y, x = .str z ∧ xs = [.str y] ∧ (Builtin.Str.occurrences z y 0 z.length 1).isEmpty = false ∧ Q (.int (Txt.find z y)) H) := by
  intro pins s σ H x xs v us Q I rx rs h
  obtain ⟨z, y, rfl, rfl, hz, q⟩ := h
  obtain ⟨t, rfl⟩ := rx
  obtain ⟨u, rfl, t', rfl⟩ := vals1 rs
  refine index_or (I.ok.hd hc) (fun _ e => ?_) fun _ _ => ⟨.int _, H, I.tok _, ⟨_, rfl⟩, q⟩
  rw [hz] at e
  cases e
theorem strsAre_of : ∀ {ys : List Str} {us : List Value}, Vals (ys.map V.str) us → StrsAre us ys
  | [], _, .nil => .nil
  | y :: ys, _, .cons r t => by
    obtain ⟨k, e⟩ := (show ∃ k, _ = Value.str y k from r)
    subst e
    exact .cons y k (strsAre_of t)
theorem mt_join : MtR X "str.join" (fun x xs H Q => ∃ z p ys, x = .str z ∧ xs = [.ref p] ∧ SqL X.K H p (ys.map V.str) ∧ (ys.map (·.length)).sum + ys.length * z.length ≤ 16777216 ∧ Q (.str (Txt.join z ys)) H) := by
  intro pins s σ H x xs v us Q I rx rs h
  obtain ⟨z, p, ys, rfl, rfl, hq, hz, q⟩ := h
  obtain ⟨t, rfl⟩ := rx
  obtain ⟨u, rfl, r1⟩ := vals1 rs
  cases r1
  obtain ⟨its, r, pl, _⟩ := I.list hq
  exact join_list pl.isList (by simpa using strsAre_of r) hz fun t' k => ⟨.str _, H, I.tok _, ⟨_, rfl⟩, q⟩
noncomputable def rSlS : V → Option Int → Option Int → Hp → VK → Prop := fun x lo hi H Q => ∃ z, x = .str z ∧ z.length ≤ sizeLine ∧ Q (.str (Txt.slice z lo hi)) H
theorem sl_str : SlR X rSlS := by
  intro pins s σ H x v vl vu lo hi sl Q I rx hs pl pu h
  obtain ⟨z, rfl, hz, q⟩ := h
  obtain ⟨t, rfl⟩ := rx
  refine ⟨"str", _, PySem.F.slot_str_getitem.lookup, typeIs_str _ _ _, ?_⟩
  cases pl with
  | none =>
    cases pu with
    | none => exact wpAny_getItem_str_slice (l := none) (u := none) (st := none) hs rfl (post_val_or_str ⟨Nat.le_trans (Txt.slice_le z _ _) hz, fun t' k => ⟨.str (Txt.slice z none none), H, I.tok _, ⟨_, rfl⟩, q⟩⟩)
    | int j tj => exact wpAny_getItem_str_slice (l := none) (u := some (j, tj)) (st := none) hs rfl (post_val_or_str ⟨Nat.le_trans (Txt.slice_le z _ _) hz, fun t' k => ⟨.str (Txt.slice z none (some j)), H, I.tok _, ⟨_, rfl⟩, q⟩⟩)
  | int i ti =>
    cases pu with
    | none => exact wpAny_getItem_str_slice (l := some (i, ti)) (u := none) (st := none) hs rfl (post_val_or_str ⟨Nat.le_trans (Txt.slice_le z _ _) hz, fun t' k => ⟨.str (Txt.slice z (some i) none), H, I.tok _, ⟨_, rfl⟩, q⟩⟩)
    | int j tj => exact wpAny_getItem_str_slice (l := some (i, ti)) (u := some (j, tj)) (st := none) hs rfl (post_val_or_str ⟨Nat.le_trans (Txt.slice_le z _ _) hz, fun t' k => ⟨.str (Txt.slice z (some i) (some j)), H, I.tok _, ⟨_, rfl⟩, q⟩⟩)
theorem op_le_str : OpR X (compareOp .LtE) (fun x y H Q => ∃ i j, x = .str i ∧ y = .str j ∧ Q (.bl (!(decide (j.cps.toList < i.cps.toList)))) H) := by
  intro pins s σ H x y v u Q I rx ry h
  obtain ⟨i, j, rfl, rfl, q⟩ := h
  obtain ⟨t, rfl⟩ := rx
  obtain ⟨t', rfl⟩ := ry
  exact PySem.P.le_str ⟨.bl _, H, I, rfl, q⟩
mutual
inductive DtV (K : PySem.W.Frag) (H : Hp) : V → PyData → Prop
  | non : DtV K H .non .none
  | bl (b : Bool) : DtV K H (.bl b) (.bool b)
  | int (i : Int) : DtV K H (.int i) (.int i)
  | str (x : Str) : DtV K H (.str x) (.str x)
  | lst {a : Addr} {xs : List V} {ds : List PyData} : SqL K H a xs → DtVs K H xs ds → DtV K H (.ref a) (.list ds)
  | tup {a : Addr} {xs : List V} {ds : List PyData} : SqT K H a xs → DtVs K H xs ds → DtV K H (.ref a) (.tuple ds)
inductive DtVs (K : PySem.W.Frag) (H : Hp) : List V → List PyData → Prop
  | nil : DtVs K H [] []
  | cons {x : V} {xs : List V} {d : PyData} {ds : List PyData} : DtV K H x d → DtVs K H xs ds → DtVs K H (x :: xs) (d :: ds)
end
mutual
theorem DtV.reads {pins : List (Addr × Obj)} {σ : St} {H : Hp} {s : Shared} (I : Inv X pins σ H s) : ∀ {x : V} {d : PyData} {u : Value}, DtV X.K H x d → RelV x u → ∃ as, Reads s.heap u d as
  | _, _, _, .non, r => by cases r; exact ⟨_, .none⟩
  | _, _, _, .bl b, r => by cases r; exact ⟨_, .bool b⟩
  | _, _, _, .int i, r => by obtain ⟨t, rfl⟩ := r; exact ⟨_, .int i t⟩
  | _, _, _, .str x, r => by obtain ⟨t, rfl⟩ := r; exact ⟨_, .str x t⟩
  | _, _, _, .lst hq hs, r => by
    cases r
    obtain ⟨its, rv, ⟨o, n, e, c, _, d⟩, _⟩ := I.list hq
    obtain ⟨as, ra⟩ := DtVs.reads I hs rv
    exact ⟨_, .list e c d (by simpa using ra)⟩
  | _, _, _, .tup hq hs, r => by
    cases r
    obtain ⟨its, rv, ⟨o, e, c, n, d⟩, _⟩ := I.tuple hq
    obtain ⟨as, ra⟩ := DtVs.reads I hs rv
    exact ⟨_, .tuple e c d (by simpa using ra)⟩
theorem DtVs.reads {pins : List (Addr × Obj)} {σ : St} {H : Hp} {s : Shared} (I : Inv X pins σ H s) : ∀ {xs : List V} {ds : List PyData} {us : List Value}, DtVs X.K H xs ds → Vals xs us → ∃ as, ReadsAll s.heap us ds as
  | _, _, _, .nil, .nil => ⟨_, .nil⟩
  | _, _, _, .cons h hs, .cons r rs => by
    obtain ⟨as, ra⟩ := DtV.reads I h r
    obtain ⟨bs, rb⟩ := DtVs.reads I hs rs
    exact ⟨_, .cons ra rb⟩
end
noncomputable def rEqD (X : Cx) : R2 := fun x y H Q => ∃ dx dy, DtV X.K H x dx ∧ DtV X.K H y dy ∧ dx.canLay0 = true ∧ dy.canLay0 = true ∧ min dx.depth dy.depth ≤ 100 ∧ Q (.bl (PyData.eqv dx dy)) H
noncomputable def rNeD (X : Cx) : R2 := fun x y H Q => ∃ dx dy, DtV X.K H x dx ∧ DtV X.K H y dy ∧ dx.canLay0 = true ∧ dy.canLay0 = true ∧ min dx.depth dy.depth ≤ 100 ∧ Q (.bl (!PyData.eqv dx dy)) H
theorem op_eqD (hu : X.A.units + 100 < cLine) : OpR X (compareOp .Eq) (rEqD X) := by
  intro pins s σ H x y v u Q I rx ry h
  obtain ⟨dx, dy, hx, hy, lx, ly, hd, q⟩ := h
  obtain ⟨as, ra⟩ := hx.reads I rx
  obtain ⟨bs, rb⟩ := hy.reads I ry
  exact SeqAt.compareEq_reads ra rb lx ly (by (clear ly lx; omega)) ⟨.bl _, H, I, rfl, q⟩
theorem op_neD (hu : X.A.units + 100 < cLine) : OpR X (compareOp .NotEq) (rNeD X) := by
  intro pins s σ H x y v u Q I rx ry h
  obtain ⟨dx, dy, hx, hy, lx, ly, hd, q⟩ := h
  obtain ⟨as, ra⟩ := hx.reads I rx
  obtain ⟨bs, rb⟩ := hy.reads I ry
  exact SeqAt.compareNe_reads ra rb lx ly (by (clear ly lx; omega)) ⟨.bl _, H, I, rfl, q⟩
theorem boolsAre_get : ∀ {bs : List Bool} {us : List Value}, Vals (bs.map V.bl) us → ∀ (i : Nat) (v : Value), us[i]? = some v → ∃ b, bs[i]? = some b ∧ v = .bool b
  | [], _, .nil, i, v, h => by simp at h
  | b :: bs, _, .cons r t, 0, v, h => by
    have r' : _ = Value.bool b := r
    subst r'
    simp at h
    exact ⟨b, by simp, h.symm⟩
  | b :: bs, _, .cons r t, i + 1, v, h => by
    obtain ⟨c, e1, e2⟩ := boolsAre_get t i v (by simpa using h)
    exact ⟨c, by simpa using e1, e2⟩
theorem call_all_bools (hc : X.calm = true) : CallR X (.builtin "all") (fun xs H Q => ∃ (p : Addr) (bs : List Bool), xs = [.ref p] ∧ SqL X.K H p (bs.map V.bl) ∧ Q (.bl (bs.all id)) H) := by
  intro pins s σ H xs us Q I r h
  obtain ⟨p, bs, rfl, hq, q⟩ := h
  obtain ⟨u, rfl, rx⟩ := vals1 r
  cases rx
  obtain ⟨its, rv, pl, hz⟩ := I.list hq
  have hl := pl.isList
  have hlen := rv.length
  rw [List.length_map] at hlen
  have hlt : p < s.heap.objs.size := by obtain ⟨_, e, _⟩ := hl; exact Heap.lt_size e
  refine call_all_walk (wpAny_pyIter_list hl ?_)
  refine ⟨s.heap.objs.size, [s.heap.objs.size, p], [s.heap.objs.size], its.toArray.size, _, _, fun i => (bs[i]?).getD true, rfl, Walks.list (A := X.A.in1) (I.ok.hd hc) _ p (Nat.ne_of_lt hlt) its.toArray,
    ⟨⟨_, Heap.get?_push_size _ rfl, rfl, rfl⟩, hl.push _⟩, fun i v s' Q' E' hP hQ => ?_, fun h' tk hk => ?_⟩
  · obtain ⟨b, e, rfl⟩ := boolsAre_get rv i v (by simpa using hP)
    simp only [e, Option.getD_some] at hQ
    exact wpAny_truthy_bool hQ
  · have e : ((List.range its.toArray.size).all fun i => (bs[i]?).getD true) = bs.all id := by
      rw [List.size_toArray, ← hlen]; exact LSm.range_all bs
    rw [e]
    exact ⟨.bl _, H, I.kept (LSm.kept_iter hk), rfl, q⟩
theorem call_isi : CallR X (.builtin "isinstance") (fun xs H Q => ∃ x c t b, xs = [x, c] ∧ TyOf X.K H x t ∧
    ((∃ n, c = .ty n ∧ PySem.W.kitOne X.K t (.type n) = some b) ∨ (∃ C, c = .ref C ∧ PySem.W.kitOne X.K t (.ref C) = some b)) ∧ Q (.bl b) H) := by
  intro pins s σ H xs us Q I r h
  obtain ⟨x, c, t, b, rfl, ty, hc, q⟩ := h
  obtain ⟨u, w', rfl, rx, rc⟩ := vals2 r
  rcases hc with ⟨n, rfl, e⟩ | ⟨C, rfl, e⟩
  · cases rc
    exact isinst_ok I rx ty e fun tk => ⟨.bl b, H, I.tok tk, rfl, q⟩
  · cases rc
    exact isinst_ok I rx ty e fun tk => ⟨.bl b, H, I.tok tk, rfl, q⟩
end
end L2
set_option Elab.async false
set_option linter.all false
set_option maxRecDepth 100000
set_option maxHeartbeats 4000000
namespace L2
open PySem PySem.Spec PyProof.Rows
section
variable {X : Cx} {pins : List (Addr × Obj)} {σ : St} {H H' : Hp} {s : Shared} {h' : Heap}
theorem Inv.track {a : Addr} {o : HO} (I : Inv X pins σ H s) (hs : X.s₀.heap.get? a = none ∨ a ∈ X.ex) (hn : H a = none) (hL : a ≠ X.env.locals) (hC : ∀ x c, X.env.cells.lookup x = some c → c ≠ a) (hp : ∀ p ∈ X.pn ++ pins, p.1 ≠ a)
    (new : ObjOk X.prog X.w (upd H a o) s.heap a o) : Inv X pins σ (upd H a o) s := by
  refine ⟨I.ok, I.os, I.bare, ⟨I.base.keep, I.base.slot, fun b ob e n hx => ?_, I.base.there, fun b xs e => ?_, fun b ob u e => ?_, fun b ps e => ?_⟩, I.loc, I.cell, ?_, fun x c e => ?_, fun p hp' => ?_, fun b u e => ?_, I.len⟩
  · have hb : b ≠ a := by
      rintro rfl
      rcases hs with z | z
      · rw [z] at e; cases e
      · exact hx z
    rw [upd_ne hb]
    exact I.base.free b ob e n hx
  · have q := I.base.tups b xs e
    rw [upd_ne (ne_of_none q hn)]; exact q
  · have q := I.base.frzs b ob u e
    rw [upd_ne (ne_of_none q hn)]; exact q
  · obtain ⟨m, q⟩ := I.base.tbls b ps e
    exact ⟨m, by rw [upd_ne (ne_of_none q hn)]; exact q⟩
  · rw [upd_ne (Ne.symm hL)]; exact I.free
  · rw [upd_ne (hC x c e)]; exact I.freeC x c e
  · obtain ⟨e, n, r⟩ := I.pin p hp'
    exact ⟨e, by rw [upd_ne (hp p hp')]; exact n, r⟩
  · by_cases hb : b = a
    · subst hb; rw [upd_same] at e; cases e; exact new
    · rw [upd_ne hb] at e
      exact (I.hok b u e).stay (fun c v _ q => q) (fun c q => by rw [upd_ne (ne_of_none q hn)]; exact q) fun c xs q => by rw [upd_ne (ne_of_none q hn)]; exact q
theorem Inv.turnedL {t' : Nat} {fp : List Addr} (I : Inv X pins σ H s) (k : ∀ b o, b ∉ fp → s.heap.get? b = some o → h'.get? b = some o) (hf : ∀ b ∈ fp, FpOk X pins H b) : Inv X pins σ H { s with heap := h', toks := t' } := by
  have nit : ∀ b u, H b = some u → b ∉ fp := fun b u e z => by rw [(hf b z).1] at e; cases e
  refine I.step (g' := s.gens) (d' := s.drawn) (ch := fp) (fun b hb => ?_) (fun b o _ _ hc e _ => k b o hc e) (fun b o _ _ hc e _ => ⟨o.slots, k b o hc e⟩) (fun _ _ _ _ n => n)
    (fun b o hc e => ⟨o, k b o hc e⟩) (fun _ _ e => e) (fun _ _ _ e => e) (fun b ps e => ⟨#[], by rw [e]; simp⟩) (fun m hm => ?_) (fun b u e => ?_) I.bare
  · obtain ⟨f0, f1, f2, f3, f4, f5⟩ := hf b hb
    exact ⟨f3, f1, f4, f5⟩
  · obtain ⟨o, es, ep, ho, r⟩ := hm
    exact ⟨o, es, ep, k _ o (fun z => (hf _ z).2.1 rfl) ho, r⟩
  · refine (I.hok b u e).stay (fun c v hc q => k c v ?_ q) (fun _ q => q) fun _ _ q => q
    rcases hc with z | z
    · rw [z]; exact nit b u e
    · exact nit c _ z
end
noncomputable def Its (x : Str) : It := ⟨fun i _ => i < x.cps.size, fun i H v H' => H' = H ∧ ∃ c, x.cps[i]? = some c ∧ v = .str ⟨#[c]⟩, fun i _ => i = x.cps.size⟩
theorem strWalks {P : Program} {w : World} {A : Around} (hh : A.handled = none) (I : Addr) (x : Str) (t : Tok) : Walks P w A I [I] [I] x.cps.size (SignAt x) (fun i h => h.IsStrIter I (strIterType x) x t i) := by
  unfold strIterType
  cases x.cps.all (· < 128)
  · exact Walks.strWide hh I x t
  · exact Walks.strAscii hh I x t
theorem strIter_not {x : Str} : ["enumerate", "zip", "dict_itemiterator", "dict_reverseitemiterator", "odict_iterator", "itertools.zip_longest", "itertools.pairwise"].contains (strIterType x) = false := by
  unfold strIterType
  cases x.cps.all (· < 128) <;> decide
theorem turn_str {P : Program} {w : World} {K : PySem.W.Frag} {tg : Expr} (x : Str) (t : Tok) (it : Addr) : Turn P w K tg (Its x) [it] it (fun i h => h.IsStrIter it (strIterType x) x t i) where
  mem := by simp
  obj := fun i h st b hb => by
    have e : b = it := by simpa using hb
    subst e
    obtain ⟨o, e, c, d⟩ := st
    exact ⟨o, e, fun v z => by rw [d] at z; cases z⟩
  keep := fun i h h' st k => by
    obtain ⟨o, e, r⟩ := st
    exact ⟨o, k it (by simp) o e, r⟩
  item := by
    intro X hP hw hK hc i pins s σ H E I hf st hg
    subst hP hw hK
    refine (strWalks (P := X.prog) (w := X.w) (I.ok.hd hc) it x t).item i s _ _ hg st fun v h' tk hv st' kk => ?_
    obtain ⟨c, u, hc', rfl⟩ := hv
    have I1 : Inv X pins σ H { s with heap := h', toks := tk } := I.turnedL kk hf
    obtain ⟨o, e, c2, d⟩ := id st'
    exact ⟨_, rfl, go_of (s := { s with heap := h', toks := tk }) e c2 d strIter_not ⟨.str ⟨#[c]⟩, H, I1, ⟨u, rfl⟩, ⟨rfl, c, hc', rfl⟩, st', fun b hb => (hf b hb).1⟩⟩
  done := by
    intro X hP hw hK hc i pins s σ H E I hf st hg
    subst hP hw hK
    have hg' : i = x.cps.size := hg
    subst hg'
    exact (strWalks (P := X.prog) (w := X.w) (I.ok.hd hc) it x t).done s _ _ st fun h' tk kk => ⟨rfl, I.turnedL kk hf⟩
  self := fun A i s Q E st h => by
    revert st
    unfold strIterType
    cases x.cps.all (· < 128)
    · exact fun st => wpAny_pyIter_striter_wide st h
    · exact fun st => wpAny_pyIter_striter_ascii st h
noncomputable def iStr (tl : TE) : TI := fun σ H R => tl σ H fun v H1 => ∃ x, v = .str x ∧ R (Its x) H1
section
variable {X : Cx} {tg : Expr}
theorem pi_str {l : Expr} {tl : TE} (hl : PE X l tl) : PI X tg l (iStr tl) := by
  intro pins s σ H R I h
  refine thn (hl pins s σ H _ I h) fun v s1 ⟨y, H1, I1, r1, x, e, q⟩ => ?_
  subst e
  obtain ⟨t, rfl⟩ := r1
  refine wpAny_pyIter_strU ?_
  refine ⟨s1.heap.objs.size, [s1.heap.objs.size], _, _, H1, rfl, I1.kept (t' := s1.toks) fun b o e => Heap.get?_push_of_some _ e, turn_str x t _, ⟨_, Heap.get?_push_size _ rfl, rfl, rfl⟩, fun b hb => ?_, q⟩
  have e : b = s1.heap.objs.size := by simpa using hb
  subst e
  exact I1.fpOk (Nat.le_refl _) (I1.hok.fresh (Nat.le_refl _))
end
theorem strDraws {P : Program} {w : World} {A : Around} (hh : A.handled = none) (it : Addr) (x : Str) (t : Tok) :
    Draws P w A it [it] x.cps.size (fun i v => ∃ c u, x.cps[i]? = some c ∧ v = .str ⟨#[c]⟩ u) (fun i h => h.IsStrIter it (strIterType x) x t i) := by
  unfold strIterType
  cases x.cps.all (· < 128)
  · exact Draws.strWide hh it x t
  · exact Draws.strAscii hh it x t
noncomputable def Ite (x : Str) : It := ⟨fun i _ => i < x.cps.size, fun i H v H' => ∃ T c, H T = none ∧ x.cps[i]? = some c ∧ v = .ref T ∧ H' = upd H T (.tup [.int i, .str ⟨#[c]⟩]), fun i _ => i = x.cps.size⟩
theorem turn_enum {P : Program} {w : World} {K : PySem.W.Frag} {elts : List Expr} {k : Nat} {pos : Pos} (x : Str) (t : Tok) (e it : Addr) (hei : e ≠ it) :
    Turn P w K (.Tuple elts k pos) (Ite x) [e, it] e (fun i h => (∃ old, IsEnum h e it i old) ∧ h.IsStrIter it (strIterType x) x t i) where
  mem := by simp
  obj := fun i h st b hb => by
    obtain ⟨⟨old, he⟩, o, ho, c, d⟩ := st
    rcases List.mem_cons.mp hb with rfl | hb
    · exact ⟨_, he, fun v z => nomatch z⟩
    · have e : b = it := by simpa using hb
      subst e
      exact ⟨o, ho, fun v z => by rw [d] at z; cases z⟩
  keep := fun i h h' st kk => by
    obtain ⟨⟨old, he⟩, o, ho, r⟩ := st
    exact ⟨⟨old, kk e (by simp) _ he⟩, o, kk it (by simp) o ho, r⟩
  item := by
    intro X hP hw hK hc i pins s σ H E I hf st hg
    subst hP hw hK
    have W := WalksT.enumerateD (strDraws (P := X.prog) (w := X.w) (A := X.A.in1) (I.ok.hd hc) it x t) e hei (by simpa using hei) (by simp)
    refine W.item i s _ _ hg st fun T vals h' tk hv hT ht mid kk => ⟨_, rfl, ?_⟩
    obtain ⟨t', y, ⟨c, u, hx, rfl⟩, rfl⟩ := hv
    refine W.go elts k pos i T _ _ _ mid fun h'' st'' kk2 => ?_
    have keep : ∀ b o, b ∉ [e, it] → s.heap.get? b = some o → h''.get? b = some o := fun b o hb q => kk2 b o hb (kk b o hb q)
    have I1 : Inv X pins σ H { s with heap := h'', toks := tk } := I.turnedL keep hf
    have hn : H T = none := I.hok.fresh hT
    have hTn : T ∉ [e, it] := W.apart i T h' mid
    obtain ⟨ot, hot, hct, n, hdt⟩ := ht
    have I2 : Inv X pins σ (upd H T (.tup [.int i, .str ⟨#[c]⟩])) { s with heap := h'', toks := tk } := by
      refine I1.track (.inl (Heap.get?_none_of_le (Nat.le_trans I.sz hT))) hn (Nat.ne_of_gt (Nat.lt_of_lt_of_le I.lt hT)) (fun y c' q z => ?_) (fun p hp z => ?_) ?_
      · obtain ⟨v, q'⟩ := I.cell y c' q
        exact absurd (Nat.lt_of_lt_of_le q'.lt (by rw [z]; exact hT)) (Nat.lt_irrefl _)
      · exact absurd (Nat.lt_of_lt_of_le (Heap.lt_size (I.pin p hp).1) (by rw [z]; exact hT)) (Nat.lt_irrefl _)
      · exact ⟨by show 2 ≤ sizeLine; decide, [.int i t', .str ⟨#[c]⟩ u], .cons ⟨_, rfl⟩ (.cons ⟨_, rfl⟩ .nil), ot, kk2 T ot hTn hot, hct, n, hdt⟩
    refine ⟨.ref T, _, I2, rfl, ⟨T, c, hn, hx, rfl, rfl⟩, st'', fun b hb => ?_⟩
    have hbT : b ≠ T := fun z => hTn (z ▸ hb)
    rw [upd_ne hbT]
    exact (hf b hb).1
  done := by
    intro X hP hw hK hc i pins s σ H E I hf st hg
    subst hP hw hK
    have hg' : i = x.cps.size := hg
    subst hg'
    have W := WalksT.enumerateD (strDraws (P := X.prog) (w := X.w) (A := X.A.in1) (I.ok.hd hc) it x t) e hei (by simpa using hei) (by simp)
    exact W.done s _ _ st fun h' tk kk => ⟨rfl, I.turnedL kk hf⟩
  self := fun A i s Q E st h => by
    obtain ⟨⟨old, he⟩, _⟩ := st
    exact wpAny_pyIter_enum he h
noncomputable def iEnum (ta : TA) : TI := fun σ H R => ta σ H fun vs H1 => ∃ x, vs = [.str x] ∧ R (Ite x) H1
section
variable {X : Cx}
theorem pi_enum {elts : List Expr} {k : Nat} {tpos p pos : Pos} {a : Expr} {ta : TA} (hg : Gl X "enumerate") (hm : X.mg "enumerate" = none) (ha : PA X [a] ta) (hs : starEach [a] X.env = [(false, eval a X.env)] := by rfl) :
    PI X (.Tuple elts k tpos) (.Call (.Name "enumerate" p) [a] [] pos) (iEnum ta) := by
  intro pins s σ H R I h
  refine Call_ (ld_blt I hg hm boot_enumerate (PyProof.Rows.callWith_type1 (thn (ha pos pins s σ H _ I h) fun us s1 ⟨vs, H1, I1, r1, q1⟩ => ?_) hs rfl))
  obtain ⟨x, e, q⟩ := q1
  subst e
  obtain ⟨u, rfl, t, rfl⟩ := vals1 r1
  refine call_enumerate_str fun h' he hit hsz hk => ?_
  refine wpAny_pyIter_enum he ?_
  refine ⟨s1.heap.objs.size + 1, [s1.heap.objs.size + 1, s1.heap.objs.size], _, _, H1, rfl, I1.kept (t' := s1.toks) hk, turn_enum x t _ _ (Nat.succ_ne_self _), ⟨⟨_, he⟩, hit⟩, fun b hb => ?_, q⟩
  rcases List.mem_cons.mp hb with rfl | hb
  · exact I1.fpOk (Nat.le_succ _) (I1.hok.fresh (Nat.le_succ _))
  · have e : b = s1.heap.objs.size := by simpa using hb
    subst e
    exact I1.fpOk (Nat.le_refl _) (I1.hok.fresh (Nat.le_refl _))
end
theorem for_ite {x : Str} {g : TG} {tb : TS} {D : Ends} {σ : St} {H : Hp} (Pv : Nat → St → Hp → Prop) (h0 : Pv 0 σ H)
    (hs : ∀ i c σ H T, x.cps[i]? = some c → Pv i σ H → H T = none → g (.ref T) σ (upd H T (.tup [.int i, .str ⟨#[c]⟩])) fun σ2 H2 => tb { D with nx := Pv (i + 1), ct := Pv (i + 1), bk := D.nx } σ2 H2) (hd : ∀ σ H, Pv x.cps.size σ H → D.nx σ H) :
    ∃ W : Nat → Nat → St → Hp → Prop, (∃ m, W 0 m σ H) ∧ ∀ i m σ H, W i m σ H →
      ((Ite x).stop i H ∧ D.nx σ H) ∨ ((Ite x).go i H ∧ ∃ N : St → Hp → Prop, (∀ σ' H', N σ' H' → ∃ m', m' < m ∧ W (i + 1) m' σ' H') ∧ ∀ y H', (Ite x).yld i H y H' → g y σ H' fun σ2 H2 => tb { D with nx := N, ct := N, bk := D.nx } σ2 H2) := by
  refine ⟨fun i m σ H => m = x.cps.size - i ∧ i ≤ x.cps.size ∧ Pv i σ H, ⟨x.cps.size, by simp, Nat.zero_le _, h0⟩, ?_⟩
  rintro i m σ H ⟨rfl, hi, p⟩
  by_cases hlt : i < x.cps.size
  · refine .inr ⟨hlt, Pv (i + 1), fun σ' H' p' => ⟨x.cps.size - (i + 1), by (clear hi; omega), rfl, hlt, p'⟩, fun y H' q => ?_⟩
    obtain ⟨T, c, hT, hc, e, e2⟩ := q
    subst e e2
    exact hs i c σ _ T hc p hT
  · have e : i = x.cps.size := by omega
    subst e
    exact .inl ⟨rfl, hd σ H p⟩
end L2
set_option Elab.async false
set_option linter.all false
set_option maxRecDepth 100000
set_option maxHeartbeats 4000000
namespace L2
open PySem
noncomputable def closL (env : Env) : List (Str × NameKind) → List (Str × Addr) → List (Str × Addr)
  | [], cs => cs
  | (n, k) :: r, cs => closL env r (if (k == NameKind.free) = true then (n, (env.cells.lookup n).getD 0) :: cs else cs)
theorem closureFor_eq {scope : Scope} {env : Env} (h : ∀ x ∈ scope.names, x.2 = .free → ∃ c, env.cells.lookup x.1 = some c) : closureFor scope env = pure (closL env scope.names []) := by
  unfold closureFor
  have go : ∀ (names : List (Str × NameKind)) (cs : List (Str × Addr)), (∀ x ∈ names, x.2 = .free → ∃ c, env.cells.lookup x.1 = some c) →
      (forIn names cs fun (x : Str × NameKind) (r : List (Str × Addr)) => (match x with
        | (name, kind) => if (kind == NameKind.free) = true then do let a ← cellOf env name; pure (ForInStep.yield ((name, a) :: r)) else pure (ForInStep.yield r) : Sem (ForInStep (List (Str × Addr))))) = pure (closL env names cs) := by
    intro names
    induction names with
    | nil => intro cs _; rfl
    | cons x r ih =>
      intro cs h
      obtain ⟨n, k⟩ := x
      rw [List.forIn_cons]
      have hr := fun y hy => h y (List.mem_cons_of_mem _ hy)
      cases hk : (k == NameKind.free) with
      | false =>
        simp only [hk, Bool.false_eq_true, if_false]
        show (pure (ForInStep.yield cs) >>= _ : Sem _) = _
        simp only [pure_bind]
        rw [ih cs hr]
        simp only [closL, hk, Bool.false_eq_true, if_false]
      | true =>
        obtain ⟨c, hc⟩ := h (n, k) List.mem_cons_self (by simpa using hk)
        have e : cellOf env n = pure c := by unfold cellOf; rw [show env.cells.lookup n = some c from hc]
        simp only [hk, if_true, e, pure_bind]
        rw [ih _ hr]
        simp only [closL, hk, if_true]
        rw [show env.cells.lookup n = some c from hc]
        rfl
  exact congrArg (fun m : Sem (List (Str × Addr)) => m >>= fun r => pure r) (go scope.names [] h)
theorem closL_some {env : Env} {x : Str} {c : Addr} : ∀ {names : List (Str × NameKind)} {cs : List (Str × Addr)}, (closL env names cs).lookup x = some c → cs.lookup x = some c ∨ ((x, NameKind.free) ∈ names ∧ c = (env.cells.lookup x).getD 0)
  | [], _, h => .inl h
  | (n, k) :: r, cs, h => by
    rcases closL_some (names := r) h with q | ⟨q, e⟩
    · cases hk : (k == NameKind.free) with
      | false => rw [hk] at q; exact .inl q
      | true =>
        rw [hk, if_pos rfl] at q
        have hk' : k = NameKind.free := by simpa using hk
        subst hk'
        cases hx : x == n with
        | true =>
          rw [List.lookup_cons, hx] at q
          have e : x = n := by simpa using hx
          subst e
          exact .inr ⟨List.mem_cons_self, (Option.some.inj q).symm⟩
        | false =>
          rw [List.lookup_cons, hx] at q
          exact .inl q
    · exact .inr ⟨List.mem_cons_of_mem _ q, e⟩
theorem closL_has {env : Env} {x : Str} : ∀ {names : List (Str × NameKind)} {cs : List (Str × Addr)}, (x, NameKind.free) ∈ names ∨ (∃ c, cs.lookup x = some c) → ∃ c, (closL env names cs).lookup x = some c
  | [], _, h => by
    rcases h with h | h
    · cases h
    · exact h
  | (n, k) :: r, cs, h => by
    refine closL_has (names := r) ?_
    rcases h with h | ⟨c, h⟩
    · rcases List.mem_cons.mp h with e | e
      · cases e
        refine .inr ⟨(env.cells.lookup x).getD 0, ?_⟩
        rw [if_pos (by rfl), List.lookup_cons]
        simp
      · exact .inl e
    · refine .inr ?_
      cases hk : (k == NameKind.free) with
      | false => exact ⟨c, h⟩
      | true =>
        rw [if_pos rfl, List.lookup_cons]
        cases hx : x == n with
        | true => exact ⟨_, rfl⟩
        | false => exact ⟨c, h⟩
theorem relabel_free {env : Env} (hf : env.scope.kind = .function) : ∀ {names : List (Str × NameKind)} {x : Str}, names.lookup x = some .free → env.kindOf x = some .cell →
    (names.map fun (n, k) => if (k == NameKind.free && env.scope.kind == .function && env.kindOf n == some .cell) then (n, NameKind.cell) else (n, k)).lookup x = some .cell
  | [], _, h, _ => by simp at h
  | (n, k) :: r, x, h, hc => by
    have ih := @relabel_free env hf r x
    show List.lookup x ((if (k == NameKind.free && env.scope.kind == .function && env.kindOf n == some .cell) = true then (n, NameKind.cell) else (n, k)) :: _) = _
    cases hx : x == n with
    | true =>
      have e : x = n := by simpa using hx
      subst e
      simp only [List.lookup_cons, hx] at h
      cases h
      rw [if_pos (by rw [hf, hc]; rfl)]
      simp [List.lookup_cons]
    | false =>
      simp only [List.lookup_cons, hx] at h
      by_cases hc' : (k == NameKind.free && env.scope.kind == .function && env.kindOf n == some .cell) = true
      · rw [if_pos hc']; simp only [List.lookup_cons, hx]; exact ih h hc
      · rw [if_neg hc']; simp only [List.lookup_cons, hx]; exact ih h hc
theorem relabel_back {env : Env} : ∀ {names : List (Str × NameKind)} {x : Str} {k' : NameKind}, (∀ y ∈ names, y.2 ≠ .cell) → (k' = .cell ∨ k' = .free) →
    (names.map fun (n, k) => if (k == NameKind.free && env.scope.kind == .function && env.kindOf n == some .cell) then (n, NameKind.cell) else (n, k)).lookup x = some k' → (x, NameKind.free) ∈ names
  | [], _, _, _, _, h => by simp at h
  | (n, k) :: r, x, k', hn, hk, h => by
    have ih := @relabel_back env r x k' (fun y hy => hn y (List.mem_cons_of_mem _ hy)) hk
    have h' : List.lookup x ((if (k == NameKind.free && env.scope.kind == .function && env.kindOf n == some .cell) = true then (n, NameKind.cell) else (n, k)) :: r.map fun (n, k) => if (k == NameKind.free && env.scope.kind == .function && env.kindOf n == some .cell) then (n, NameKind.cell) else (n, k)) = some k' := h
    have hn0 : k ≠ .cell := hn (n, k) List.mem_cons_self
    by_cases hc' : (k == NameKind.free && env.scope.kind == .function && env.kindOf n == some .cell) = true
    · rw [if_pos hc', List.lookup_cons] at h'
      have hkf : k = .free := by
        rw [Bool.and_eq_true, Bool.and_eq_true] at hc'
        simpa using hc'.1.1
      cases hx : x == n with
      | true =>
        have e : x = n := by simpa using hx
        subst e
        rw [hkf]
        exact List.mem_cons_self
      | false => rw [hx] at h'; exact List.mem_cons_of_mem _ (ih h')
    · rw [if_neg hc', List.lookup_cons] at h'
      cases hx : x == n with
      | true =>
        rw [hx] at h'
        have e : x = n := by simpa using hx
        subst e
        have e2 : k = k' := Option.some.inj h'
        subst e2
        rcases hk with z | z
        · exact absurd z hn0
        · rw [z]; exact List.mem_cons_self
      | false => rw [hx] at h'; exact List.mem_cons_of_mem _ (ih h')
section
variable {prog : Program} {w : World} {A : Around} {R : Result → Shared → Prop} {s : Shared}
theorem compLoop_any {elt target iter : Expr} {ifs : List Expr} {scope : Scope} {pos : Pos} {it acc : Value} {env : Env} (I : Nat → Shared → Prop)
    (turn : ∀ n s, I n s → wpAny (model prog w) A (pyNext it) (fun r s₁ => match r with
      | none => R (.ok .next) s₁
      | some v => wpAny (model prog w) A (letOwnedTupleGo target it v) (fun _ s₀ => wpAny (model prog w) A (assign target env v) (fun _ s₂ =>
          wpAny (model prog w) A (forIn ifs true fun c r => if r = true then do let ok ← isTrue c env (eval c env); pure (ForInStep.yield ok) else pure (ForInStep.yield r)) (fun ok s₃ =>
            if ok = true then wpAny (model prog w) A (eval elt env) (fun x s₄ =>
              wpAny (model prog w) A (call (.builtin "list.append") [acc, x]) (fun _ s₅ => ∃ m, m < n ∧ I m s₅) (fun _ _ => False) s₄) (fun _ _ => False) s₃
            else ∃ m, m < n ∧ I m s₃) (fun _ _ => False) s₂) (fun _ _ => False) s₀) (fun _ _ => False) s₁) (fun _ _ => False) s)
    (n : Nat) (h : I n s) :
    codeAny (model prog w) A (.compLoop (.ListComp elt [⟨target, iter, ifs, 0⟩] scope pos) 0 it acc env) R s := by
  refine codeAny_loop rfl I (fun n s hI => ?_) n h
  show wpAny _ A ((compTurn (.ListComp elt [⟨target, iter, ifs, 0⟩] scope pos) 0 it acc env).onRaise (fun x => do noteFrame x env; theTreesLotGoes x)) _ _ s
  refine wpAny_noted ?_
  rw [compTurn_list]
  refine wpAny_bind (wpAny_standAt (wpAny_bind (wpAny_mono (turn n s hI) (fun r s₁ h₁ => ?_) fun _ _ h' => h'.elim)))
  cases r with
  | none => exact wpAny_pure h₁
  | some v =>
    refine wpAny_bind (wpAny_mono h₁ (fun _ s₀ h₀ => ?_) fun _ _ h' => h'.elim)
    refine wpAny_bind (wpAny_mono h₀ (fun _ s₂ h₂ => wpAny_bind (wpAny_mono h₂ (fun ok s₃ h₃ => ?_) fun _ _ h' => h'.elim)) fun _ _ h' => h'.elim)
    cases ok with
    | false => exact wpAny_pure ⟨rfl, h₃⟩
    | true =>
      exact wpAny_bind (wpAny_bind (wpAny_mono h₃ (fun x s₄ h₄ => wpAny_bind (wpAny_mono h₄ (fun _ s₅ h₅ => wpAny_pure (wpAny_pure ⟨rfl, h₅⟩)) fun _ _ h' => h'.elim)) fun _ _ h' => h'.elim))
end
end L2
namespace L2
open PySem PySem.Spec PyProof.Rows
noncomputable def cxB (X : Cx) (scope : Scope) (N : List Str) (s₀ : Shared) (H₀ : Hp) (ex : List Addr) : Cx :=
  { X with N := N, s₀ := s₀, H₀ := H₀, env := compEnvC scope (closL X.env scope.names []) s₀.heap.objs.size X.env, outer := X.stack, ex := ex, fn := fun _ => false, pn := [], xe := fun _ _ => False }
section
variable {X : Cx} {c : Expr} {t : TT}
noncomputable def PIfs (X : Cx) (ifs : List Expr) (t : TT) : Prop := ∀ (pins : List (Addr × Obj)) (s : Shared) (σ : St) (H : Hp) (Q : Bool → Hp → Prop), Inv X pins σ H s → t σ H Q →
  wpAny (model X.prog X.w) X.A (forIn ifs true fun c r => if r = true then do let ok ← isTrue c X.env (eval c X.env); pure (ForInStep.yield ok) else pure (ForInStep.yield r)) (TP X pins σ Q) X.xe s
noncomputable def tNoIf : TT := fun _ H Q => Q true H
theorem pf_none : PIfs X [] tNoIf := fun _ _ _ H _ I h => wpAny_tests_nil ⟨H, I, h⟩
theorem pf_one (h : PT X c t) : PIfs X [c] t := fun pins s σ H Q I hq => wpAny_tests_one (h pins s σ H Q I hq)
end
noncomputable def GKeep (own : Nat) (g : TG) : Prop := ∀ x σ H Q Q', g x σ H Q → (∀ σ' H', Q σ' H' → σ'.length = σ.length → (∀ j v, own ≤ j → σ[j]? = some (some v) → σ'[j]? = some (some v)) → Q' σ' H') → g x σ H Q'
noncomputable def GKeeps (own : Nat) (g : TGs) : Prop := ∀ xs σ H Q Q', g xs σ H Q → (∀ σ' H', Q σ' H' → σ'.length = σ.length → (∀ j v, own ≤ j → σ[j]? = some (some v) → σ'[j]? = some (some v)) → Q' σ' H') → g xs σ H Q'
theorem gk_name {own i : Nat} (hi : i < own) : GKeep own (gName i) := fun x σ H Q Q' h k => k _ H h (by simp) fun j v hj e => by rw [List.getElem?_set_ne (by (clear e; omega))]; exact e
theorem gks_nil {own : Nat} : GKeeps own gNil := fun xs σ H Q Q' ⟨e, h⟩ k => ⟨e, k σ H h rfl fun _ _ _ e => e⟩
theorem gks_cons {own : Nat} {t : TG} {u : TGs} (h1 : GKeep own t) (h2 : GKeeps own u) : GKeeps own (gCons t u) := fun xs σ H Q Q' ⟨v, r, e, h⟩ k =>
  ⟨v, r, e, h1 v σ H _ _ h fun σ' H' q l1 k1 => h2 r σ' H' _ _ q fun σ'' H'' q2 l2 k2 => k σ'' H'' q2 (l2.trans l1) fun j w hj e => k2 j w hj (k1 j w hj e)⟩
theorem gk_tup {own n : Nat} {K : PySem.W.Frag} {t : TGs} (h : GKeeps own t) : GKeep own (gTup K n t) := fun x σ H Q Q' ⟨a, xs, e, hq, hl, q⟩ k => ⟨a, xs, e, hq, hl, h xs σ H Q Q' q k⟩
noncomputable def st0 (own : Nat) (caps : List Nat) (σ : St) : St := List.replicate own none ++ caps.map fun j => (σ[j]?).join
noncomputable def CompR (J : It) (g : TG) (tc : TT) (te : TE) (σ0 : St) (Q : VK) (H : Hp) : Prop :=
    ∃ W : Nat → Nat → List V → Hp → Prop, (∃ m, W 0 m [] H) ∧ ∀ i m ys H, W i m ys H →
      (J.stop i H ∧ ys.length ≤ sizeLine ∧ ∀ p, H p = none → Q (.ref p) (upd H p (.lst ys))) ∨
      (J.go i H ∧ ys.length < sizeLine ∧ ∀ x H', J.yld i H x H' → g x σ0 H' fun σ2 H2 => tc σ2 H2 fun b H3 =>
        if b = true then te σ2 H3 fun y H4 => ∃ m', m' < m ∧ W (i + 1) m' (ys ++ [y]) H4 else ∃ m', m' < m ∧ W (i + 1) m' ys H3)
noncomputable def tComp (own : Nat) (caps : List Nat) (wi : TI) (g : TG) (tc : TT) (te : TE) : TE := fun σ H Q => wi σ H fun J H1 => CompR J g tc te (st0 own caps σ) Q H1
theorem mem1 {a : Addr} {o : Obj} : ∀ p ∈ [(a, o)], p.1 = a := fun p hp => by rw [List.mem_singleton.mp hp]
section
variable {X : Cx}
theorem comp_end {scope : Scope} {N : List Str} {pins : List (Addr × Obj)} {σ σ' : St} {H2 He : Hp} {s2 s1 : Shared} {hp h' : Heap} {fp : List Addr} {ys : List V} {its : List Value} {na : Nat} {lo : Obj}
    (I2 : Inv X pins σ H2 s2) (f2 : ∀ b ∈ fp, FpOk X pins H2 b) (ehp : hp = s2.heap.push lo)
    (J : Inv (cxB X scope N { s2 with heap := hp } H2 (s2.heap.objs.size :: fp)) [(s2.heap.objs.size, { cls := .type "list", data := .seq its.toArray na })] σ' He s1)
    (hsb : Heap.SameBut hp.objs.size s1.heap h') (hv : Vals ys its) (hz : ys.length ≤ sizeLine) :
    Inv X pins σ (upd He s2.heap.objs.size (.lst ys)) { s1 with heap := h' } := by
  have hC : hp.objs.size = s2.heap.objs.size + 1 := by rw [ehp, Heap.size_push]
  have below : ∀ {b : Addr} {o : Obj}, s2.heap.get? b = some o → b ≠ hp.objs.size ∧ b ≠ s2.heap.objs.size := fun {b o} e => by
    have q := Heap.lt_size e
    exact ⟨by rw [hC]; exact Nat.ne_of_lt (Nat.lt_succ_of_lt q), Nat.ne_of_lt q⟩
  have up : ∀ {b : Addr} {o : Obj}, s2.heap.get? b = some o → hp.get? b = some o := fun e => by rw [ehp]; exact Heap.get?_push_of_some _ e
  have un : Un (frs X.stack) (s2.heap.objs.size :: fp) H2 He hp s1.heap := J.base
  have nD : ∀ {b : Addr} {o : Obj}, s2.heap.get? b = some o → b ∉ fp → b ∉ s2.heap.objs.size :: fp := fun e hx z => (List.mem_cons.mp z).elim (below e).2 hx
  have hfree : He hp.objs.size = none := J.free
  have u2 : Un (frs X.stack) fp H2 He s2.heap h' := by
    refine ⟨fun b o e n hb hx => ?_, fun b o e n hb hx => ?_, fun b o e n hx => ?_, fun b o e hx => ?_, un.tups, un.frzs, un.tbls⟩
    · exact (hsb.2 b (below e).1).trans (un.keep b o (up e) n hb (nD e hx))
    · obtain ⟨sl, q⟩ := un.slot b o (up e) n hb (nD e hx)
      exact ⟨sl, (hsb.2 b (below e).1).trans q⟩
    · exact un.free b o (up e) n (nD e hx)
    · obtain ⟨o', q⟩ := un.there b o (up e) (nD e hx)
      exact ⟨o', (hsb.2 b (below e).1).trans q⟩
  have hok : HOk X.prog X.w He h' := fun b u e => by
    refine (J.hok b u e).stay (fun c v hc q => (hsb.2 c ?_).trans q) (fun _ q => q) fun _ _ q => q
    rintro rfl
    rcases hc with z | z
    · rw [← z, hfree] at e; cases e
    · rw [hfree] at z; cases z
  have I3 : Inv X pins σ He { s1 with heap := h' } := I2.call' (s' := { s1 with heap := h' }) (ch := fp) J.os u2 hok J.bare fun b hb => by
    obtain ⟨f0, f1, f3, f4, f5, f6⟩ := f2 b hb
    exact ⟨f4, f1, f5, f6⟩
  obtain ⟨pe, pn, _⟩ := J.pin _ (List.mem_append_right _ List.mem_cons_self)
  refine I3.track (.inl (Heap.get?_none_of_le I2.sz)) pn (Nat.ne_of_gt I2.lt) (fun y c' q z => ?_) (fun p hp' z => ?_) ?_
  · obtain ⟨v, q'⟩ := I2.cell y c' q
    exact absurd q'.lt (by rw [z]; exact Nat.lt_irrefl _)
  · exact absurd (Heap.lt_size (I2.pin p hp').1) (by rw [z]; exact Nat.lt_irrefl _)
  · exact ⟨hz, its, na, hv, (hsb.2 _ (by rw [hC]; exact Nat.ne_of_lt (Nat.lt_succ_self _))).trans pe⟩
theorem comp_core {elt target iter : Expr} {ifs : List Expr} {scope sc0 : Scope} {pos : Pos} {N N0 : List Str} {own : Nat} {caps : List Nat} {wi : TI} {g : TG} {tc : TT} {te : TE}
    (hcalm : X.calm = true) (hi : PI X target iter wi)
    (hg : ∀ s₀ H₀ ex, PG (cxB X scope N s₀ H₀ ex) target g) (hc : ∀ s₀ H₀ ex, PIfs (cxB X scope N s₀ H₀ ex) ifs tc) (he : ∀ s₀ H₀ ex, PE (cxB X scope N s₀ H₀ ex) elt te) (hk : GKeep own g)
    (hX : X.N = N0) (hsc : X.env.scope = sc0)
    (hcell : ∀ y ∈ scope.names, y.2 ≠ .cell) (hkind : scope.kind = .function) (hnames : ∀ y ∈ scope.names, y.2 = .local → scope.names.lookup y.1 = some .local)
    (hfree : ∀ y ∈ scope.names, y.2 = .free → sc0.names.lookup y.1 = some .cell) (hN : N.length = own + caps.length)
    (hcap : ∀ p ∈ caps.zip (N.drop own), N0[p.1]? = some p.2 ∧ scope.names.lookup p.2 = some .free)
    (hs : ∀ x, foldedSetIterable iter X.env x = pure x)
    {use : Option (Value → Sem Unit)} {Qf : Value → Shared → Prop} {pins : List (Addr × Obj)} {s : Shared} {σ : St} {H : Hp} {Q : VK} {cpos : Pos} (I : Inv X pins σ H s) (h : tComp own caps wi g tc te σ H Q)
    (hR : ∀ (D C : Addr) (s' : Shared) (He : Hp) (ys : List V) (m : Str → Option Value) (f : Flow), s'.heap.Ns C m → (∀ h', Heap.SameBut C s'.heap h' → Inv X pins σ (upd He D (.lst ys)) { s' with heap := h' }) →
      FpOk X pins (upd He D (.lst ys)) C → Q (.ref D) (upd He D (.lst ys)) → compPost (model X.prog X.w) X.A X.xe use Qf (.ref D) C (.ok f) s') :
    wpAny (model X.prog X.w) X.A (comprehension (.ListComp elt [⟨target, iter, ifs, 0⟩] scope pos) scope X.env cpos (newList []) false (eval iter X.env) use) Qf X.xe s := by
  have hcellOf : ∀ y ∈ scope.names, y.2 = .free → X.env.kindOf y.1 = some .cell := fun y hy e => by
    show X.env.scope.names.lookup y.1 = some .cell
    rw [hsc]; exact hfree y hy e
  refine wpAny_comprehension_free (use := use) rfl hs (closureFor_eq fun y hy e => I.ok.has y.1 (.inl (hcellOf y hy e))) hkind hnames ?_
  refine thn (hi pins s σ H _ I h) fun v s1 h1 => thn h1 fun itv s2 h2 => ?_
  obtain ⟨it, fp, tn, J, H2, e, I2, T, st2, f2, W, ⟨m0, w0⟩, turn⟩ := h2
  subst e
  refine wpAny_newObj_type (wpAny_newFunctionEnv hcell (by intro y hy; simp at hy) (fun h₁ hns₁ hsb₁ => ?_) hkind)
  dsimp only at hns₁ hsb₁ ⊢
  generalize ehp : s2.heap.push { cls := .type "list", dict := none, data := .seq ([] : List Value).toArray } = hp at hns₁ hsb₁ ⊢
  have hC : hp.objs.size = s2.heap.objs.size + 1 := by rw [← ehp, Heap.size_push]
  have hDC : s2.heap.objs.size ≠ hp.objs.size := by rw [hC]; exact Nat.ne_of_lt (Nat.lt_succ_self _)
  have hD0 : hp.get? s2.heap.objs.size = some { cls := .type "list", data := .seq ([] : List Value).toArray } := by rw [← ehp]; exact Heap.get?_push_size _ rfl
  have up : ∀ {b : Addr} {o : Obj}, s2.heap.get? b = some o → hp.get? b = some o := fun e => by rw [← ehp]; exact Heap.get?_push_of_some _ e
  have up1 : ∀ {b : Addr} {o : Obj}, hp.get? b = some o → h₁.get? b = some o := fun {b o} e => hsb₁.extBut b o (Nat.ne_of_lt (Heap.lt_size e)) (Heap.get?_push_of_some _ e)
  have hlt2 : ∀ {b : Addr} {o : Obj}, s2.heap.get? b = some o → b < s2.heap.objs.size := fun e => Heap.lt_size e
  have fpo : ∀ b ∈ fp, ∃ o, s2.heap.get? b = some o := fun b hb => by obtain ⟨o, e, _⟩ := T.obj 0 _ st2 b hb; exact ⟨o, e⟩
  have fpC : ∀ b ∈ fp, b ≠ hp.objs.size ∧ b ≠ s2.heap.objs.size := fun b hb => by
    obtain ⟨o, e⟩ := fpo b hb
    have q := hlt2 e
    exact ⟨by rw [hC]; exact Nat.ne_of_lt (Nat.lt_succ_of_lt q), Nat.ne_of_lt q⟩
  have clos : ∀ {x : Str} {c : Addr}, (closL X.env scope.names []).lookup x = some c → X.env.cells.lookup x = some c ∧ X.env.kindOf x = some .cell := fun {x c} q => by
    rcases closL_some q with z | ⟨z, e⟩
    · cases z
    · have k := hcellOf _ z rfl
      obtain ⟨c', hc'⟩ := I2.ok.has x (.inl k)
      rw [hc'] at e
      have e' : c = c' := e
      subst e'
      exact ⟨hc', k⟩
  have cellLt : ∀ {x : Str} {c : Addr}, (closL X.env scope.names []).lookup x = some c → c < s2.heap.objs.size := fun q => by
    obtain ⟨v, z⟩ := I2.cell _ _ (clos q).1
    exact z.lt
  have stkLt : ∀ b ∈ frs X.stack, b < s2.heap.objs.size := fun b hb => by
    obtain ⟨_, o, ho, _⟩ := I2.stack.mem hb
    exact Heap.lt_size ho
  have ok' : (cxB X scope N { s2 with heap := hp } H2 (s2.heap.objs.size :: fp)).Ok := by
    refine ⟨I2.ok.mod, hkind, I2.ok.glob, I2.ok.blt, Nat.le_refl _, fun x y c q1 q2 => I2.ok.inj x y c (clos q1).1 (clos q2).1, fun x hx => ?_, (fun x c z => by cases z), I2.ok.hd, I2.ok.frames, .inl rfl, fun b hb => ?_, fun b o q => ⟨up (I2.bs b o q).1, (I2.bs b o q).2⟩, ?_, fun b o q hb => ?_, fun b hb => ?_, ?_, fun b hb => I2.stkFree b hb⟩
    · rcases hx with hx | hx
      · exact closL_has (.inl (relabel_back (env := X.env) hcell (.inl rfl) hx))
      · exact closL_has (.inl (relabel_back (env := X.env) hcell (.inr rfl) hx))
    · rcases List.mem_cons.mp hb with rfl | hb
      · exact ⟨by show s2.heap.objs.size ≠ hp.objs.size; exact hDC, fun x c q => Nat.ne_of_lt (cellLt q)⟩
      · exact ⟨(fpC b hb).1, fun x c q => (f2 b hb).2.2.2.2.1 x c (clos q).1⟩
    · show X.base.objs.size ≤ hp.objs.size
      rw [hC]
      exact Nat.le_succ_of_le (Nat.le_trans I2.ok.bsz I2.sz)
    · rcases List.mem_cons.mp hb with rfl | hb
      · exact Nat.lt_irrefl _ (hlt2 (I2.bs _ o q).1)
      · rcases (f2 b hb).2.2.2.1 with z | z
        · exact I2.ok.noex b o q z
        · exact Nat.lt_irrefl _ (Nat.lt_of_lt_of_le (Heap.lt_size (I2.ok.bs b o q).1) z)
    · intro z
      rcases List.mem_cons.mp hb with rfl | hb
      · exact Nat.lt_irrefl _ (stkLt _ z)
      · rcases List.mem_cons.mp (I2.stkSub b z) with q | q
        · exact (f2 b hb).2.1 q
        · exact (f2 b hb).2.2.1 q
    · show hp.FunFrames X.base X.stack
      exact I2.stack.of_keeps fun b o q _ => ⟨o, up q, rfl⟩
  have len0 : (st0 own caps σ).length = N.length := by unfold st0; rw [List.length_append, List.length_replicate, List.length_map, hN]
  have I0 : Inv (cxB X scope N { s2 with heap := hp } H2 (s2.heap.objs.size :: fp)) [] (st0 own caps σ) H2 { s2 with heap := h₁, toks := s2.toks + ([] : List (Str × Value)).length } := by
    refine ⟨ok', rfl, I2.bare, Un.kept fun b o q => up1 q, ⟨_, hns₁, fun i x v e1 e2 e3 => ?_⟩, fun x c q => ?_, I2.hok.fresh (by show s2.heap.objs.size ≤ hp.objs.size; rw [hC]; exact Nat.le_succ _), fun x c q => I2.freeC x c (clos q).1, fun p hp' => absurd (show p ∈ ([] : List (Addr × Obj)) from hp') (by simp), I2.hok.kept fun b o q => up1 (up q), len0⟩
    ·
      unfold st0 at e2
      by_cases hi' : i < own
      · rw [List.getElem?_append_left (by simpa using hi'), List.getElem?_replicate] at e2
        split at e2 <;> cases e2
      · rw [List.getElem?_append_right (by simpa using hi'), List.length_replicate, List.getElem?_map] at e2
        cases ec : caps[i - own]? with
        | none => rw [ec] at e2; cases e2
        | some j =>
          rw [ec] at e2
          have e2' : (σ[j]?).join = some v := Option.some.inj e2
          have hσ : σ[j]? = some (some v) := by
            cases q : σ[j]? with
            | none => rw [q] at e2'; cases e2'
            | some z => rw [q] at e2'; exact congrArg some e2'
          have hx : (N.drop own)[i - own]? = some x := by
            rw [List.getElem?_drop]
            have : own + (i - own) = i := by (clear hσ e2' ec e2 e1 len0 hD0 hDC hC ehp hN hkind hsc hX hcalm; omega)
            rw [this]; exact e1
          have hz : (caps.zip (N.drop own))[i - own]? = some (j, x) := by
            rw [List.getElem?_zip_eq_some]; exact ⟨ec, hx⟩
          obtain ⟨hj, hf⟩ := hcap _ (List.mem_of_getElem? hz)
          rw [← hX] at hj
          have hfm : (x, NameKind.free) ∈ scope.names := PySem.mem_of_lookup hf
          have hk1 := hcellOf _ hfm rfl
          obtain ⟨m, hn, hl⟩ := I2.loc
          obtain ⟨u, ru, lk⟩ := hl j x v hj hσ (.inr (.inl hk1))
          refine ⟨u, ru, .inr ⟨.inl (relabel_free I2.ok.kind hf hk1), ?_⟩⟩
          obtain ⟨c, hc'⟩ := closL_has (env := X.env) (cs := []) (.inl hfm)
          have hc2 := (clos hc').1
          rcases lk with ⟨z, _⟩ | ⟨_, c2, hc3, hcell'⟩
          · rw [hk1] at z; cases z
          · rw [hc2] at hc3
            cases hc3
            obtain ⟨oc, hoc, hod⟩ := hcell'
            exact ⟨c, hc', oc, up1 (up hoc), hod⟩
    · obtain ⟨v, oc, hoc, hod⟩ := I2.cell x c (clos q).1
      exact ⟨v, oc, up1 (up hoc), hod⟩
  have pinD : ∀ {σ' : St} {H' : Hp} {s' : Shared} {its : List Value} {na : Nat}, Inv (cxB X scope N { s2 with heap := hp } H2 (s2.heap.objs.size :: fp)) [] σ' H' s' → H' s2.heap.objs.size = none →
      s'.heap.get? s2.heap.objs.size = some { cls := .type "list", data := .seq its.toArray na } →
      Inv (cxB X scope N { s2 with heap := hp } H2 (s2.heap.objs.size :: fp)) [(s2.heap.objs.size, { cls := .type "list", data := .seq its.toArray na })] σ' H' s' := fun {σ' H' s' its na} I' hn hd => I'.pins_of fun p hp' => by
    have e : p = (s2.heap.objs.size, { cls := .type "list", data := .seq its.toArray na }) := by simpa using hp'
    subst e
    exact ⟨hd, hn, hDC, fun z => Nat.lt_irrefl _ (stkLt _ z), fun v z => nomatch z⟩
  have fpD : ∀ {H' : Hp} {pl : List (Addr × Obj)}, (∀ b ∈ fp, H' b = none) → (∀ p ∈ pl, p.1 = s2.heap.objs.size) → ∀ b ∈ fp, FpOk (cxB X scope N { s2 with heap := hp } H2 (s2.heap.objs.size :: fp)) pl H' b := fun hn hpl b hb => by
    refine ⟨hn b hb, (fpC b hb).1, fun z => ?_, .inl (List.mem_cons_of_mem _ hb), fun x c q => (f2 b hb).2.2.2.2.1 x c (clos q).1, fun p hp' z => ?_⟩
    · rcases List.mem_cons.mp (I2.stkSub b z) with q | q
      · exact (f2 b hb).2.1 q
      · exact (f2 b hb).2.2.1 q
    · exact (fpC b hb).2 (z.symm.trans (hpl p hp'))
  have loop : ∀ s₃ : Shared, s₃ = { s2 with heap := h₁, toks := s2.toks + ([] : List (Str × Value)).length } →
      codeAny (model X.prog X.w) X.A (.compLoop (.ListComp elt [⟨target, iter, ifs, 0⟩] scope pos) 0 (.ref it) (.ref s2.heap.objs.size) (compEnvC scope (closL X.env scope.names []) hp.objs.size X.env))
        (compPost (model X.prog X.w) X.A X.xe use Qf (.ref s2.heap.objs.size) hp.objs.size) s₃ := by
    rintro s₃ rfl
    refine compLoop_any (fun n s' => ∃ i ys its na H', Inv (cxB X scope N { s2 with heap := hp } H2 (s2.heap.objs.size :: fp)) [] (st0 own caps σ) H' s' ∧ tn i s'.heap ∧ (∀ b ∈ fp, H' b = none) ∧ H' s2.heap.objs.size = none ∧
      Vals ys its ∧ s'.heap.get? s2.heap.objs.size = some { cls := .type "list", data := .seq its.toArray na } ∧ W i n ys H') ?_ m0
      ⟨0, [], [], 0, H2, I0, T.keep _ _ _ st2 fun b _ o q => up1 (up q), fun b hb => (f2 b hb).1, I2.hok.fresh (Nat.le_refl _), .nil, up1 hD0, w0⟩
    rintro n s3 ⟨i, ys, its, na, H3, I3, st3, fr3, nD3, rv3, hd3, w3⟩
    have Ip := pinD I3 nD3 hd3
    have f3 := fpD (H' := H3) (pl := [(s2.heap.objs.size, { cls := .type "list", data := .seq its.toArray na })]) fr3 mem1
    rcases turn i n ys H3 w3 with ⟨stop, hz, fin⟩ | ⟨go, hz, step⟩
    · refine thn (T.done (cxB X scope N { s2 with heap := hp } H2 (s2.heap.objs.size :: fp)) rfl rfl rfl hcalm i _ s3 _ H3 _ Ip f3 st3 stop) fun r s4 ⟨hr, I4⟩ => ?_
      subst hr
      obtain ⟨m, hn, _⟩ := I4.loc
      exact hR _ _ _ _ ys m _ hn (fun h' hsb => comp_end I2 f2 ehp.symm I4 hsb rv3 hz) (I2.fpOk (by rw [hC]; exact Nat.le_succ _) (by rw [upd_ne (Ne.symm hDC)]; exact I4.free)) (fin _ (I4.pin _ (List.mem_append_right _ List.mem_cons_self)).2.1)
    · refine thn (T.item (cxB X scope N { s2 with heap := hp } H2 (s2.heap.objs.size :: fp)) rfl rfl rfl hcalm i _ s3 _ H3 _ Ip f3 st3 go) fun r s4 ⟨u, hr, h4⟩ => ?_
      subst hr
      refine thn h4 fun _ s5 ⟨x, H5, I5, r5, y5, st5, fr5⟩ => ?_
      have I5' := I5.pinned (fpD (H' := H5) (pl := [(s2.heap.objs.size, { cls := .type "list", data := .seq its.toArray na })]) fr5 mem1) (T.obj _ _ st5)
      refine thn (hg _ _ _ _ s5 _ H5 x u _ I5' r5 (hk x _ H5 _ _ (step x H5 y5) fun σ' H' q l k => (⟨q, l, k⟩ : _ ∧ _ ∧ _))) fun _ s6 ⟨σ6, H6, I6, q6, l6, k6⟩ => ?_
      refine thn (hc _ _ _ _ s6 σ6 H6 _ I6 q6) fun ok s7 ⟨H7, I7, q7⟩ => ?_
      have weak : ∀ {H' : Hp} {s' : Shared} {pl : List (Addr × Obj)}, Inv (cxB X scope N { s2 with heap := hp } H2 (s2.heap.objs.size :: fp)) pl σ6 H' s' → Inv (cxB X scope N { s2 with heap := hp } H2 (s2.heap.objs.size :: fp)) pl (st0 own caps σ) H' s' := fun I' =>
        I'.weak l6.symm fun j v e => k6 j v (by
          by_cases hj : j < own
          · unfold st0 at e
            rw [List.getElem?_append_left (by simpa using hj), List.getElem?_replicate] at e
            split at e <;> cases e
          · (clear e l6 hz hd3 nD3 len0 hD0 hDC hC ehp hN hkind hsc hX hcalm; omega)) e
      have after : ∀ {H' : Hp} {s' : Shared}, Inv (cxB X scope N { s2 with heap := hp } H2 (s2.heap.objs.size :: fp)) ([(s2.heap.objs.size, { cls := .type "list", data := .seq its.toArray na })] ++ pinsAt fp s5.heap) σ6 H' s' →
          tn (i + 1) s'.heap ∧ (∀ b ∈ fp, H' b = none) ∧ H' s2.heap.objs.size = none ∧ s'.heap.get? s2.heap.objs.size = some { cls := .type "list", data := .seq its.toArray na } := fun I' => by
        refine ⟨T.keep _ _ _ st5 fun b hb o e => (I'.pin (b, o) (List.mem_append_right _ (List.mem_append_right _ (mem_pinsAt hb e)))).1, fun b hb => ?_, ?_, ?_⟩
        · obtain ⟨o, e, d⟩ := T.obj _ _ st5 b hb
          exact (I'.pin (b, o) (List.mem_append_right _ (List.mem_append_right _ (mem_pinsAt hb e)))).2.1
        · exact (I'.pin _ (List.mem_append_right _ (List.mem_append_left _ List.mem_cons_self))).2.1
        · exact (I'.pin _ (List.mem_append_right _ (List.mem_append_left _ List.mem_cons_self))).1
      cases ok with
      | false =>
        rw [if_neg Bool.false_ne_true]
        obtain ⟨m', hm, w7⟩ := (show ∃ m', m' < n ∧ W (i + 1) m' ys H7 by rw [if_neg Bool.false_ne_true] at q7; exact q7)
        obtain ⟨a1, a2, a3, a4⟩ := after I7
        exact ⟨m', hm, i + 1, ys, its, na, H7, (weak I7).pins_of (fun p hp' => absurd hp' (by simp)), a1, a2, a3, rv3, a4, w7⟩
      | true =>
        rw [if_pos rfl]
        rw [if_pos rfl] at q7
        refine thn (he _ _ _ _ s7 σ6 H7 _ I7 q7) fun yv s8 ⟨y, H8, I8, r8, m', hm, w8⟩ => ?_
        obtain ⟨a1, a2, a3, a4⟩ := after I8
        have hl := rv3.length
        refine call_meets F.slot_list_append ⟨_, a4, rfl⟩ F.entry_list_append (F.args_list_append_2 _ _) (PySem.list_append s2.heap.objs.size its.toArray na yv (by rw [List.size_toArray]; (clear a4 a3 hm l6 hd3 nD3 len0 hD0 hDC hC ehp hN hkind hsc hX hcalm; omega))) ⟨a4, ?_⟩
        have I9 : Inv (cxB X scope N { s2 with heap := hp } H2 (s2.heap.objs.size :: fp)) [] (st0 own caps σ) H8 s8 := (weak I8).pins_of (fun p hp' => absurd hp' (by simp))
        have q : (s8.heap.update s2.heap.objs.size (Obj.mapSeq (·.push yv))).get? s2.heap.objs.size = some { cls := .type "list", data := .seq (its ++ [yv]).toArray (na + 1) } := by
          have q := PySem.IsL.update a4 (·.push yv)
          simpa using q
        refine ⟨m', hm, i + 1, ys ++ [y], its ++ [yv], na + 1, H8, I9.turned (it := s2.heap.objs.size) (t' := s8.toks) (fun b o hb e => ?_) a3 (hDC) (.inl List.mem_cons_self) (fun x c z => Nat.ne_of_lt (cellLt z)) (fun p hp' => absurd (show p ∈ ([] : List (Addr × Obj)) from hp') (by simp)), ?_, a2, a3, rv3.append (.cons r8 .nil), q, w8⟩
        · rw [Heap.get?_update_other _ _ (Ne.symm hb)]; exact e
        · exact T.keep _ _ _ a1 fun b hb o e => by rw [Heap.get?_update_other _ _ (Ne.symm (fpC b hb).2)]; exact e
  exact codeAny_compStart_list (loop _ rfl) (T.self _ 0 _ _ _ (T.keep _ _ _ st2 fun b _ o q => up1 (up q)) (loop _ rfl))
theorem pe_comp {elt target iter : Expr} {ifs : List Expr} {scope sc0 : Scope} {pos : Pos} {N N0 : List Str} {own : Nat} {caps : List Nat} {wi : TI} {g : TG} {tc : TT} {te : TE}
    (hcalm : X.calm = true) (hi : PI X target iter wi)
    (hg : ∀ s₀ H₀ ex, PG (cxB X scope N s₀ H₀ ex) target g) (hc : ∀ s₀ H₀ ex, PIfs (cxB X scope N s₀ H₀ ex) ifs tc) (he : ∀ s₀ H₀ ex, PE (cxB X scope N s₀ H₀ ex) elt te) (hk : GKeep own g)
    (hX : X.N = N0) (hsc : X.env.scope = sc0)
    (hcell : ∀ y ∈ scope.names, y.2 ≠ .cell) (hkind : scope.kind = .function) (hnames : ∀ y ∈ scope.names, y.2 = .local → scope.names.lookup y.1 = some .local)
    (hfree : ∀ y ∈ scope.names, y.2 = .free → sc0.names.lookup y.1 = some .cell) (hN : N.length = own + caps.length)
    (hcap : ∀ p ∈ caps.zip (N.drop own), N0[p.1]? = some p.2 ∧ scope.names.lookup p.2 = some .free)
    (hs : ∀ x, foldedSetIterable iter X.env x = pure x := by intro _; rfl) :
    PE X (.ListComp elt [⟨target, iter, ifs, 0⟩] scope pos) (tComp own caps wi g tc te) := by
  intro pins s σ H Q I h
  rw [eval_ListComp]
  exact comp_core hcalm hi hg hc he hk hX hsc hcell hkind hnames hfree hN hcap hs I h fun D C s' He ys m f hn hI _ q => ⟨m, hn, fun h' hsb => ⟨.ref D, _, hI h' hsb, rfl, q⟩⟩
end
end L2
set_option Elab.async false
set_option linter.all false
set_option maxRecDepth 100000
set_option maxHeartbeats 4000000
namespace L2
open PySem PySem.Spec PyProof.Rows
theorem ObjOk.at {P : Program} {w : World} {H : Hp} {h : Heap} {a : Addr} {o : HO} (x : ObjOk P w H h a o) : ∃ ob, h.get? a = some ob := by
  cases o with
  | lst xs => obtain ⟨_, _, _, _, e⟩ := x; exact ⟨_, e⟩
  | tup xs => obtain ⟨_, _, _, ob, e, _⟩ := x; exact ⟨_, e⟩
  | dK kvs => obtain ⟨_, _, _, _, o, _, _, e, _⟩ := x; exact ⟨_, e⟩
  | dT kvs => obtain ⟨_, _, _, _, o, _, _, e, _⟩ := x; exact ⟨_, e⟩
  | set S n => obtain ⟨o, _, _, _, e, _⟩ := x; exact ⟨_, e⟩
  | ins C dx fs => obtain ⟨_, _, _, e, _⟩ := x; exact ⟨_, e⟩
  | own y => obtain ⟨_, e⟩ := x; exact ⟨_, e⟩
  | xd fs => obtain ⟨_, ⟨_, _, _, e, _⟩, _⟩ := x; exact ⟨_, e⟩
  | rng lo hi => obtain ⟨_, _, _, e⟩ := x; exact ⟨_, e⟩
  | frz ob u => obtain ⟨e, _⟩ := x; exact ⟨_, e⟩
  | tbl ps => exact ⟨_, show h.get? a = some _ from x⟩
  | met f y => exact ⟨_, show h.get? a = some _ from x⟩
  | ext φ => obtain ⟨_, ⟨_, e⟩, _⟩ := x; exact ⟨_, e⟩
noncomputable def CX1 (P : Program) (w : World) : CXT := fun outer H s E e s' => ∃ (ea : Addr) (cls a0 : Value) (B : Heap) (H' : Hp),
  e = .ref ea ∧ s'.os = s.os ∧ AllBare s'.gens ∧ Un (frs outer) [] H H' s.heap s'.heap ∧ HOk P w H' s'.heap ∧ Heap.FlyingW B outer ea cls a0 s'.heap ∧
  (∀ b o, s.heap.get? b = some o → H b = none → b ∉ frs outer → B.get? b = some o) ∧ (∀ b o, s.heap.get? b = some o → b ∉ frs outer → ∃ o', B.get? b = some o') ∧
  (∀ b u, H' b = some u → ∃ o, B.get? b = some o) ∧ E cls none H'
theorem CX1.no {P : Program} {w : World} {outer : List Env} {H : Hp} {s s' : Shared} {e : Value} (h : CX1 P w outer H s (fun _ _ _ => False) e s') : False := by
  obtain ⟨_, _, _, _, _, _, _, _, _, _, _, _, _, _, z⟩ := h
  exact z
theorem un_fly {fs : List Addr} {H H' : Hp} {h h1 h2 B base : Heap} {outer : List Env} (hfs : fs = frs outer) (u : Un fs [] H H' h h1) (k1 : ∀ b o, h.get? b = some o → H b = none → b ∉ fs → B.get? b = some o)
    (k3 : ∀ b o, h.get? b = some o → b ∉ fs → ∃ o', B.get? b = some o') (ff : h1.FunFrames base outer) (st : B.StaysIn h2) (up : h1.UpToSlots h2) : Un fs [] H H' h h2 := by
  have fr : ∀ b ∈ fs, ∀ o, h1.get? b = some o → ∃ sl, h2.get? b = some { o with slots := sl } := fun b hb o e => by
    rw [hfs] at hb
    obtain ⟨_, o', e', nf⟩ := ff.mem hb
    rw [e] at e'; cases e'
    exact up b o e nf
  refine ⟨fun b o e n hb _ => st b o (k1 b o e n hb), fun b o e n hb hx => ?_, u.free, fun b o e hx => ?_, u.tups, u.frzs, u.tbls⟩
  · obtain ⟨sl, e1⟩ := u.slot b o e n hb hx
    obtain ⟨sl', e2⟩ := fr b hb _ e1
    exact ⟨sl', e2⟩
  · by_cases hb : b ∈ fs
    · obtain ⟨o1, e1⟩ := u.there b o e hx
      obtain ⟨sl, e2⟩ := fr b hb _ e1
      exact ⟨_, e2⟩
    · obtain ⟨o', e'⟩ := k3 b o e hb
      exact ⟨o', st b o' e'⟩
theorem hok_fly {P : Program} {w : World} {H : Hp} {h1 h2 B : Heap} (x : HOk P w H h1) (k2 : ∀ b u, H b = some u → ∃ o, B.get? b = some o) (s1 : B.StaysIn h1) (s2 : B.StaysIn h2) : HOk P w H h2 := fun b u e => by
  refine (x b u e).stay (fun c v hc q => ?_) (fun _ q => q) fun _ _ q => q
  have ht : ∃ z, H c = some z := by
    rcases hc with z | z
    · subst z; exact ⟨u, e⟩
    · exact ⟨_, z⟩
  obtain ⟨z, ez⟩ := ht
  obtain ⟨o, eo⟩ := k2 c z ez
  have := s1 c o eo
  rw [q] at this; cases this
  exact s2 c v eo
section
variable {P : Program} {w : World} {K : PySem.W.Frag} {mg : Str → Option Value} {base : Heap} {N : List Str} {qual : Str} {scope : Scope} {f : Addr} {cdv : Value} {A : Around} {outer : List Env} {s₀ : Shared} {H₀ : Hp} {E E' : XK}
noncomputable def Raises (X : Cx) (E : XK) : Prop := ∀ (pins : List (Addr × Obj)) (σ : St) (H : Hp) (s : Shared) (h' : Heap) (ea : Addr) (cls : Value) (args : List Value), Inv X pins σ H s → Heap.MadeExcOf s.heap h' ea cls args → E cls none H → X.xe (.ref ea) { s with heap := h' }
theorem raise_out : Raises (cxOf (CX1 P w) P w K mg base N qual scope f cdv A outer s₀ H₀ E) E := by
  intro pins σ H s h' ea cls args I hx hE
  have stk := I.stack
  have hin : ∀ env ∈ (cxOf (CX1 P w) P w K mg base N qual scope f cdv A outer s₀ H₀ E).stack, ∀ b, env.frame = some b → b ∈ frs (cxOf (CX1 P w) P w K mg base N qual scope f cdv A outer s₀ H₀ E).stack := fun env he b hb => List.mem_filterMap.mpr ⟨env, he, hb⟩
  have inB : ∀ {b : Addr} {o : Obj}, s.heap.get? b = some o → b ∉ frs (cxOf (CX1 P w) P w K mg base N qual scope f cdv A outer s₀ H₀ E).stack → (PySem.W.hideAll s.heap (frs (cxOf (CX1 P w) P w K mg base N qual scope f cdv A outer s₀ H₀ E).stack)).get? b = some o := fun e hb => PySem.W.hideAll_get _ e hb
  have hL : ∀ {b : Addr} {o : Obj}, s₀.heap.get? b = some o → b ∉ frs outer → b ∉ frs (cxOf (CX1 P w) P w K mg base N qual scope f cdv A outer s₀ H₀ E).stack := fun {b o} e hb z => by
    rcases List.mem_cons.mp (I.stkSub b z) with q | q
    · have h1 := Heap.lt_size e
      have h2 : s₀.heap.objs.size ≤ (cxOf (CX1 P w) P w K mg base N qual scope f cdv A outer s₀ H₀ E).env.locals := I.ok.above
      rw [q] at h1
      exact Nat.lt_irrefl _ (Nat.lt_of_lt_of_le h1 h2)
    · exact hb q
  show wpAny (model P w) (A.deeper (envOfC qual scope s₀.heap.objs.size f cdv)) (leaving (envOfC qual scope s₀.heap.objs.size f cdv) (.ref ea)) _ _ _
  refine wpAny_leaves_madeW (s := { s with heap := h' }) (h := s.heap) (base := PySem.W.hideAll s.heap (frs (cxOf (CX1 P w) P w K mg base N qual scope f cdv A outer s₀ H₀ E).stack)) I.ok.frames rfl (fun b o q => PySem.W.of_hideAll _ q) (PySem.W.funFrames_hide stk hin) hx fun h'' t fl _ _ up => ?_
  have u0 : Un (frs outer) [] H₀ H s₀.heap s.heap := I.base
  have tr : ∀ b u, H b = some u → b ∉ frs (cxOf (CX1 P w) P w K mg base N qual scope f cdv A outer s₀ H₀ E).stack := fun b u e z => by rw [I.stkFree b z] at e; cases e
  have k1 : ∀ b o, s₀.heap.get? b = some o → H₀ b = none → b ∉ frs outer → (PySem.W.hideAll s.heap (frs (cxOf (CX1 P w) P w K mg base N qual scope f cdv A outer s₀ H₀ E).stack)).get? b = some o := fun b o e n hb => inB (u0.keep b o e n hb (by simp)) (hL e hb)
  have k3 : ∀ b o, s₀.heap.get? b = some o → b ∉ frs outer → ∃ o', (PySem.W.hideAll s.heap (frs (cxOf (CX1 P w) P w K mg base N qual scope f cdv A outer s₀ H₀ E).stack)).get? b = some o' := fun b o e hb => by
    obtain ⟨o', e'⟩ := u0.there b o e (by simp)
    exact ⟨o', inB e' (hL e hb)⟩
  have k2 : ∀ b u, H b = some u → ∃ o, (PySem.W.hideAll s.heap (frs (cxOf (CX1 P w) P w K mg base N qual scope f cdv A outer s₀ H₀ E).stack)).get? b = some o := fun b u e => by
    obtain ⟨o, eo⟩ := (I.hok b u e).at
    exact ⟨o, inB eo (tr b u e)⟩
  exact ⟨ea, cls, .ref t, _, H, rfl, I.os, I.bare, un_fly rfl u0 k1 k3 I.funs fl.1 ((Heap.UpToSlots.of_keeps hx.keeps).trans up), hok_fly I.hok k2 (fun b o q => PySem.W.of_hideAll _ q) fl.1, fl, k1, k3, k2, hE⟩
theorem pass_out (hE : ∀ cls od H', E' cls od H' → E cls od H') : Passes (CX1 P w) (cxOf (CX1 P w) P w K mg base N qual scope f cdv A outer s₀ H₀ E) E' := by
  intro pins σ H s e s' I h
  obtain ⟨ea, cls, a0, B, H', rfl, os, bare, un, hok, fl, k1, k3, k2, hx⟩ := h
  have stk : (cxOf (CX1 P w) P w K mg base N qual scope f cdv A outer s₀ H₀ E).stack = envOfC qual scope s₀.heap.objs.size f cdv :: outer := rfl
  have hfrs : frs (cxOf (CX1 P w) P w K mg base N qual scope f cdv A outer s₀ H₀ E).stack = s₀.heap.objs.size :: frs outer := rfl
  have u0 : Un (frs outer) [] H₀ H s₀.heap s.heap := I.base
  have notL : ∀ {b : Addr} {o : Obj}, s₀.heap.get? b = some o → b ∉ frs outer → b ∉ frs (cxOf (CX1 P w) P w K mg base N qual scope f cdv A outer s₀ H₀ E).stack := fun {b o} e hb z => by
    rw [hfrs] at z
    rcases List.mem_cons.mp z with q | q
    · have h1 := Heap.lt_size e
      rw [q] at h1
      exact Nat.lt_irrefl _ h1
    · exact hb q
  show wpAny (model P w) (A.deeper (envOfC qual scope s₀.heap.objs.size f cdv)) (leaving (envOfC qual scope s₀.heap.objs.size f cdv) (.ref ea)) _ _ _
  refine wpAny_leaves_onW I.ok.frames rfl fl fun h'' fl2 up => ?_
  have u1 : Un (frs outer) [] H₀ H' s₀.heap s'.heap := by
    refine ⟨fun b o e n hb hx => ?_, fun b o e n hb hx => ?_, fun b o e n hx => ?_, fun b o e hx => ?_, fun b xs q => un.tups b xs (u0.tups b xs q), fun b ob u q => un.frzs b ob u (u0.frzs b ob u q), fun b ps q => ?_⟩
    · exact un.keep b o (u0.keep b o e n hb hx) (u0.free b o e n hx) (notL e hb) (by simp)
    · obtain ⟨sl, e1⟩ := u0.slot b o e n hb hx
      obtain ⟨sl', e2⟩ := un.any e1 (u0.free b o e n hx) (by simp)
      exact ⟨sl', e2⟩
    · obtain ⟨o', e1⟩ := u0.there b o e hx
      exact un.free b o' e1 (u0.free b o e n hx) (by simp)
    · obtain ⟨o', e1⟩ := u0.there b o e hx
      exact un.there b o' e1 (by simp)
    · obtain ⟨m1, e1⟩ := u0.tbls b ps q
      obtain ⟨m2, e2⟩ := un.tbls b _ e1
      exact ⟨m1 ++ m2, by rw [e2, Array.append_assoc]⟩
  have K1 : ∀ b o, s₀.heap.get? b = some o → H₀ b = none → b ∉ frs outer → B.get? b = some o := fun b o e n hb => k1 b o (u0.keep b o e n hb (by simp)) (u0.free b o e n (by simp)) (notL e hb)
  have K3 : ∀ b o, s₀.heap.get? b = some o → b ∉ frs outer → ∃ o', B.get? b = some o' := fun b o e hb => by
    obtain ⟨o', e1⟩ := u0.there b o e (by simp)
    exact k3 b o' e1 (notL e hb)
  have ff : s'.heap.FunFrames B outer := by
    obtain ⟨_, _, ⟨_, _, r⟩, _⟩ := fl
    exact r
  exact ⟨ea, cls, a0, B, H', rfl, os.trans I.os, bare, un_fly rfl u1 K1 K3 ff fl2.1 up, hok_fly hok k2 fl.1 fl2.1, fl2, K1, K3, k2, hE _ _ _ hx⟩
end
theorem exc_obj {K : PySem.W.Frag} {h : Heap} {C : Addr} {bmB : List Value} {newId : String} (X : K.In h) (q : PySem.W.excIn K C bmB newId = true) :
    ∃ bm N nm qn bs hdct sn sub ab col dd k0 k1 k2 k3 k5 mN, h.get? C = some (excClassObj nm qn C N bs bm hdct sn sub ab col dd k0 k1 k2 k3 k5 newId) ∧ h.Ns N mN ∧ mN "__init__" = none ∧ OwnTail h bmB bm := by
  unfold PySem.W.excIn at q
  split at q
  · rename_i dd cd sl ho
    split at q
    · rename_i C' bm k0 k1 k2 k3 n k5 hm hs
      simp only [Bool.and_eq_true, beq_iff_eq, Bool.not_eq_true'] at q
      obtain ⟨⟨⟨⟨⟨rfl, rfl⟩, hdel⟩, ht⟩, hok⟩, hni⟩ := q
      obtain ⟨nm, bs, mro, ns, qn, hd, sn, sub, ab, col, del⟩ := cd
      dsimp only at hm hdel hok hni
      subst hm hdel
      have hsl : sl = #[k0, k1, k2, k3, some (.builtin n), k5] := by
        obtain ⟨l⟩ := sl
        simp only at hs
        rw [hs]
      subst hsl
      exact ⟨bm, ns, nm, qn, bs, hd, sn, sub, ab, col, dd, k0, k1, k2, k3, k5, _, X _ _ ho, .of_isNs (PySem.W.isNs_of_in X hok), PySem.W.nsMap_none_of_in X hok hni, PySem.W.tail_of_in X ht⟩
    · cases q
  · cases q
section
variable {X : Cx} {E : XK}
noncomputable def tRaise (C : Addr) (E : XK) (t : TA) : TS := fun _ σ H => t σ H fun vs H1 => vs.length ≤ sizeLine ∧ E (.ref C) none H1
theorem ps_raise {x : Str} {C : Addr} {e : Expr} {es : List Expr} {t : TA} {np cpos pos : Pos} {B Bn newId nid initId inN : String} {bmB bmN : List Value} (hcalm : X.calm = true) (hq : PySem.W.excIn X.K C bmB newId = true)
    (Fn : ExcBaseFacts Bn newId inN bmN) (hBn : bmB.contains (.type Bn) = true) (FB : ExcBaseFacts B nid initId bmB) (hg : Gl X x) (hm : X.mg x = some (.ref C)) (ha : PA X (e :: es) t) (hR : Raises X E)
    (hdb : (x == ("__debug__" : Str)) = false := by decide) (he : starEach (e :: es) X.env = (false, eval e X.env) :: starEach es X.env := by rfl) (hpl : (backTo cpos (starEach es X.env)).any (·.1) = false := by rfl) :
    PS X (.Raise (some (.Call (.Name x np) (e :: es) [] cpos)) none pos) (tRaise C E t) := by
  intro pins s σ H D I h
  obtain ⟨tl, N, nm, qn, bs, hdct, sn, sub, ab, col, dd, k0, k1, k2, k3, k5, mN, hC, hN, hni, T⟩ := exc_obj I.ok.mod.kin hq
  refine wpAny_Raise_call_subU (C := C) (nm := nm) (q := qn) (N := N) (bs := bs) (bm := tl) (hdct := hdct) (sn := sn) (sub := sub) (ab := ab) (col := col) (dd := dd) (k0 := k0) (k1 := k1) (k2 := k2) (k3 := k3) (k5 := k5)
    Fn hBn FB (mN := mN) (T.hasType FB.hasBase) (I.ok.hd hcalm) (by rw [he]; show (false || (backTo cpos (starEach es X.env)).any (·.1)) = false; rw [hpl]; rfl) hni (ld_glob I hg hm ⟨rfl, ?_⟩ hdb)
  have hA := ha cpos pins s σ H _ I h
  rw [he] at hA ⊢
  exact Calls.evalArgs_plain (thn hA fun us s2 ⟨vs, H2, I2, r, hz, hE⟩ => ⟨rfl, by rw [← r.length]; exact hz, I2.bk _ _ hC, hN.keeps I2.bk, T.keeps I2.bk, fun h' ea mk => hR pins σ H2 s2 h' ea (.ref C) us I2 mk hE⟩)
end
section
variable {P : Program} {w : World} {K : PySem.W.Frag} {mg : Str → Option Value} {base : Heap}
theorem Fun.ok1 {x qual : Str} {st : Stmt} {f : Addr} {fd : FuncData} {N ps : List Str} {k : Nat} {sp : Sp} (F : Fun K x qual st f fd) (S : FnScope N ps (defScope st)) (len : ∀ vs H Q E, sp vs H Q E → vs.length = ps.length)
    (hbody : ∀ (cdv : Value) (A : Around) (outer : List Env) (s : Shared) (H : Hp) (vs : List V) (Q : VK) (E : XK), Room k (A.deeper (envOfC qual (defScope st) s.heap.objs.size f cdv)) → sp vs H Q E →
      ∃ t, PSs (cxOf (CX1 P w) P w K mg base N qual (defScope st) f cdv A outer s H E) (defBody st) t ∧ t { nx := fun _ H' => Q .non H', rt := Q } (start N vs) H) : FnOk P w K mg base (CX1 P w) (k + 1) f fd ps sp := by
  obtain ⟨oc, od, kV, doc, pm, an, cdv, ct, osl, rfl, lk, hcd⟩ := F.ex
  exact fn_of lk hcd S len fun A outer s H vs Q E hr hsp => hbody cdv A outer s H vs Q E hr hsp
end
end L2
set_option Elab.async false
set_option linter.all false
set_option maxRecDepth 100000
set_option maxHeartbeats 4000000
namespace L2
open PySem PySem.Spec PyProof.Rows
noncomputable def ExcO (ea C : Addr) : HO := .ext fun h => ∃ o vs, h.get? ea = some o ∧ o.cls = .ref C ∧ o.data = .fields vs
noncomputable abbrev Cx.tr (X : Cx) (p : List (Addr × Obj)) (E : Value → Shared → Prop) : Cx := { X with pn := p, xe := E }
noncomputable def cxH (X : Cx) (ea : Addr) (p : List (Addr × Obj)) : Cx := { X with A := X.A.mark (some (.ref ea)), calm := false, xe := fun _ _ => False, pn := p }
noncomputable def PassS (CX : CXT) (X : Cx) (E : St → XK) : Prop := ∀ (pins : List (Addr × Obj)) (σ : St) (H : Hp) (s : Shared) (e : Value) (s' : Shared), Inv X pins σ H s → CX X.stack H s (E σ) e s' → X.xe e s'
noncomputable def tCallS (sp : Sp) (dvs : List V) (E : St → XK) (t : TA) : TE := fun σ H Q => t σ H fun vs H1 => sp (vs ++ dvs) H1 Q (E σ)
section
variable {X : Cx} {CX : CXT} {k : Nat} {f C : Addr} {fd : FuncData} {ps : List Str} {sp : Sp} {dvs : List V} {ds : List Value} {E : St → XK} {x m : Str} {p pos apos : Pos} {e o : Expr} {es : List Expr} {ta : TE} {t : TA}
theorem run_fnS {pins : List (Addr × Obj)} {σ : St} {H : Hp} {s : Shared} {Q : VK} {us : List Value} {vs : List V} (F : FnOk X.prog X.w X.K X.mg X.base CX k f fd ps sp) (hr : Room k X.A) (hb : Binds X.K fd ps ds) (hd : Vals dvs ds) (hx : PassS CX X E)
    (I : Inv X pins σ H s) (r : Vals vs us) (h : sp (vs ++ dvs) H Q (E σ)) : wpAny (model X.prog X.w) X.A (call (.ref f) us) (EP X pins σ Q) X.xe s := by
  have r2 : Vals (vs ++ dvs) (us ++ ds) := r.append hd
  have hl : (us ++ ds).length = ps.length := by rw [← r2.length]; exact F.len _ _ _ _ h
  refine wpAny_call (codeAny_mono (F.run X.A X.stack s H ⟨us, []⟩ (us ++ ds) (vs ++ dvs) Q (E σ) hr I.env0 (hb s us I.kIn hl) r2 h) fun r s' hq => ?_)
  cases r with
  | error e => exact hx pins σ H s e s' I hq
  | ok fl =>
    cases fl with
    | ret u => exact I.after hq
    | next => exact False.elim hq
    | brk => exact False.elim hq
    | cont => exact False.elim hq
theorem pe_callS (F : FnOk X.prog X.w X.K X.mg X.base CX k f fd ps sp) (hr : Room k X.A) (hg : Gl X x) (hm : X.mg x = some (.ref f)) (hk : PySem.W.keepIn X.K (.ref f) = true) (hb : Binds X.K fd ps ds) (hd : Vals dvs ds) (hx : PassS CX X E)
    (ha : PA X (e :: es) t) (hdb : (x == ("__debug__" : Str)) = false := by decide) (he : starEach (e :: es) X.env = (false, eval e X.env) :: starEach es X.env := by rfl) (hpl : (backTo pos (starEach es X.env)).any (·.1) = false := by rfl) :
    PE X (.Call (.Name x p) (e :: es) [] pos) (tCallS sp dvs E t) := by
  intro pins s σ H Q I h
  refine wpAny_Call_Name_kw (ld_glob I hg hm ?_ hdb)
  refine PySem.W.callWith_K (h₀ := X.base) I.ok.mod.kin hk (thn (ha pos pins s σ H _ I h) fun us s1 ⟨vs, H1, I1, r, q⟩ => ⟨I1.kIn, ?_⟩) he hpl
  exact run_fnS F hr hb hd hx I1 r q
end
section
variable {X : Cx} {pins : List (Addr × Obj)} {σ : St} {H : Hp} {s : Shared}
theorem Inv.unset {n : Str} {i : Nat} {m : Str → Option Value} {u : Option Value} {h' : Heap} (I : Inv X pins σ H s) (hN : X.N.Nodup) (hi : X.N[i]? = some n)
    (hl : ∀ (i : Nat) (x : Str) (v : V), X.N[i]? = some x → σ[i]? = some (some v) → Vis X.env.scope x → ∃ u, RelV v u ∧ Look X.env s.heap m x u)
    (hn' : h'.Ns X.env.locals (fun x => if x = n then u else m x)) (hs : Heap.SameBut X.env.locals s.heap h') : Inv X pins (σ.set i none) H { s with heap := h' } := by
  have cne := I.cne
  obtain ⟨m0, ⟨oL, _, _, hoL, _⟩, _⟩ := id I.loc
  have tracked : HOk X.prog X.w H h' := fun b ob e => by
    refine (I.hok b ob e).stay (fun c w' hc q => (hs.2 c ?_).trans q) (fun _ q => q) fun _ _ q => q
    rintro rfl
    have hf := I.free
    rcases hc with hc | hc
    · rw [← hc, hf] at e; cases e
    · rw [hf] at hc; cases hc
  refine ⟨I.ok, I.os, I.bare, ⟨fun b o e n hb hx => ?_, fun b o e n hb hx => ?_, I.base.free, fun b o e hx => ?_, I.base.tups, I.base.frzs, I.base.tbls⟩, ⟨_, hn', fun j y v' e1 e2 e3 => ?_⟩, fun y c e => ?_, I.free, I.freeC, fun p hp => ?_, tracked, by simpa using I.len⟩
  · exact (hs.2 b (Nat.ne_of_lt (Nat.lt_of_lt_of_le (Heap.lt_size e) I.ok.above))).trans (I.base.keep b o e n hb hx)
  · obtain ⟨sl, e1⟩ := I.base.slot b o e n hb hx
    exact ⟨sl, (hs.2 b (Nat.ne_of_lt (Nat.lt_of_lt_of_le (Heap.lt_size e) I.ok.above))).trans e1⟩
  · obtain ⟨o', e1⟩ := I.base.there b o e hx
    exact ⟨o', (hs.2 b (Nat.ne_of_lt (Nat.lt_of_lt_of_le (Heap.lt_size e) I.ok.above))).trans e1⟩
  · by_cases hj : j = i
    · subst hj
      rw [List.getElem?_set] at e2
      rw [if_pos rfl] at e2
      split at e2 <;> cases e2
    · rw [List.getElem?_set_ne (Ne.symm hj)] at e2
      obtain ⟨u', r', q⟩ := hl j y v' e1 e2 e3
      refine ⟨u', r', ?_⟩
      rcases q with ⟨k, e⟩ | ⟨k, c, e, z⟩
      · refine .inl ⟨k, ?_⟩
        have : y ≠ n := fun e => hj (nodup_ix hN e1 (e ▸ hi))
        simp [this, e]
      · exact .inr ⟨k, c, e, z.sameBut hs (cne y c e)⟩
  · obtain ⟨w', z⟩ := I.cell y c e
    exact ⟨w', z.sameBut hs (cne y c e)⟩
  · obtain ⟨e, n, ne, nf, d⟩ := I.pin p hp
    exact ⟨(hs.2 p.1 ne).trans e, n, ne, nf, d⟩
theorem let_go {n : Str} {i : Nat} {pos : Pos} {Q : Unit → Shared → Prop} (I : Inv X pins σ H s) (hN : X.N.Nodup) (hi : X.N[i]? = some n) (hk : X.env.scope.names.lookup n = some .local)
    (h : ∀ s', Inv X pins (σ.set i none) H s' → Q () s') : wpAny (model X.prog X.w) X.A (do bindName X.env n .none; unbindBehindTheSuite X.env n pos) Q X.xe s := by
  have hcls : (X.env.scope.kind == .class || (X.env.scope.kind == .module && X.env.locals != X.env.globals)) = false := by rw [I.ok.kind]; rfl
  refine wpAny_bind (wpAny_bindName (store_ok I hN hi (.inl hk) (show RelV .non .none from rfl) (fun s1 I1 => ?_) (.inr hk)))
  obtain ⟨m, hn, hl⟩ := id I1.loc
  have hiσ : i < σ.length := by rw [I.len]; exact (List.getElem?_eq_some_iff.mp hi).1
  obtain ⟨u, ru, lk⟩ := hl i n .non hi (by rw [List.getElem?_set_self hiσ]) (.inl hk)
  have hm : m n = some u := by
    rcases lk with ⟨_, e⟩ | ⟨z, _⟩
    · exact e
    · have hk' : X.env.kindOf n = some .local := hk
      rw [hk'] at z
      rcases z with z | z <;> cases z
  unfold unbindBehindTheSuite
  refine wpAny_onRaise (wpAny_unbindName_local hk hn hm hcls fun h' u' hn' hs' => ?_)
  have I2 := I1.unset hN hi hl hn' hs'
  rw [List.set_set] at I2
  exact h _ I2
end
section
variable {X : Cx}
noncomputable def tTry (K : PySem.W.Frag) (CH : Addr) (i : Nat) (E : St → XK) (tb ts : TS) : TS := fun D σ H => tb D σ H ∧ ∀ σ' cls H' ea, E σ' cls none H' → H' ea = none →
  ∃ C, cls = .ref C ∧ PySem.W.exmOne K (.ref C) (.ref CH) = some true ∧
    ts { nx := fun σ2 H2 => D.nx (σ2.set i none) H2, rt := D.rt, bk := fun σ2 H2 => D.bk (σ2.set i none) H2, ct := fun σ2 H2 => D.ct (σ2.set i none) H2 } (σ'.set i (some (.ref ea))) (upd H' ea (ExcO ea C))
theorem try_pass {pins : List (Addr × Obj)} {D : Ends} {CH : Addr} {i : Nat} {E : St → XK} {x n : Str} {np pos : Pos} {b₀ : Stmt} {suite : List Stmt} {ts : TS}
    (hstk : X.stack = X.env :: X.outer) (hfr : X.env.frame = some X.env.locals) (hN : X.N.Nodup) (hi : X.N[i]? = some n) (hk : X.env.scope.names.lookup n = some .local) (hg : Gl X x) (hm : X.mg x = some (.ref CH))
    (hs : ∀ ea p, PSs (cxH X ea p) (b₀ :: suite) ts)
    (hc : ∀ σ' cls H' ea, E σ' cls none H' → H' ea = none → ∃ C, cls = .ref C ∧ PySem.W.exmOne X.K (.ref C) (.ref CH) = some true ∧
      ts { nx := fun σ2 H2 => D.nx (σ2.set i none) H2, rt := D.rt, bk := fun σ2 H2 => D.bk (σ2.set i none) H2, ct := fun σ2 H2 => D.ct (σ2.set i none) H2 } (σ'.set i (some (.ref ea))) (upd H' ea (ExcO ea C)))
    (hdb : (x == ("__debug__" : Str)) = false := by decide) :
    PassS (CX1 X.prog X.w) (X.tr (X.pn ++ pins) fun e s₁ => wpAny (model X.prog X.w) X.A (noteFrame e X.env) (fun _ s₂ => wpAny (model X.prog X.w) X.A (setFlight e none) (fun _ s₃ =>
      wpAny (model X.prog X.w) X.A (handleBy e X.env [.ExceptHandler (some (.Name x np)) (some n) (b₀ :: suite) pos]) (SP X pins D) X.xe s₃) X.xe s₂) X.xe s₁) E := by
  intro pins' σ' H1 s1 e s' I1 hx
  obtain ⟨ea, cls, a0, B, H', rfl, os, bare, un, hok, fl, k1, k3, k2, hE⟩ := hx
  have fl' : Heap.FlyingW B (X.env :: X.outer) ea cls a0 s'.heap := hstk ▸ fl
  have hfrm : X.A.frames = some (X.env :: X.outer) := hstk ▸ I1.ok.frames
  have nfr : ea ∉ frs X.stack := fun z => by
    obtain ⟨_, o, ho, nf⟩ := fl.2.2.1.mem z
    obtain ⟨oe, vs, _, _, _, he, _, hd, _⟩ := fl.2.2.2
    rw [he] at ho; cases ho
    exact nf vs hd
  have nE : ∀ {b : Addr} {o : Obj}, s1.heap.get? b = some o → b ≠ ea := fun {b o} q z => by
    subst z
    obtain ⟨o', e'⟩ := k3 b o q nfr
    rw [fl.2.1] at e'; cases e'
  have nH : H' ea = none := by
    cases q : H' ea with
    | none => rfl
    | some u =>
      obtain ⟨o, e'⟩ := k2 ea u q
      rw [fl.2.1] at e'; cases e'
  have go : ∀ {h2 : Heap}, Heap.FlyingW B (X.env :: X.outer) ea cls a0 h2 → s'.heap.UpToSlots h2 → Inv (X.tr (X.pn ++ pins) fun e s₁ => wpAny (model X.prog X.w) X.A (noteFrame e X.env) (fun _ s₂ => wpAny (model X.prog X.w) X.A (setFlight e none) (fun _ s₃ =>
      wpAny (model X.prog X.w) X.A (handleBy e X.env [.ExceptHandler (some (.Name x np)) (some n) (b₀ :: suite) pos]) (SP X pins D) X.xe s₃) X.xe s₂) X.xe s₁) pins' σ' H' { s' with heap := h2 } := fun {h2} fl2 up =>
    I1.call' (s' := { s' with heap := h2 }) (ch := []) os (un_fly rfl un k1 k3 fl.2.2.1 fl2.1 up) (hok_fly hok k2 fl.1 fl2.1) bare fun b z => absurd z (by simp)
  have toH : ∀ {s2 : Shared} {H2 : Hp}, Inv (X.tr (X.pn ++ pins) fun e s₁ => wpAny (model X.prog X.w) X.A (noteFrame e X.env) (fun _ s₂ => wpAny (model X.prog X.w) X.A (setFlight e none) (fun _ s₃ =>
      wpAny (model X.prog X.w) X.A (handleBy e X.env [.ExceptHandler (some (.Name x np)) (some n) (b₀ :: suite) pos]) (SP X pins D) X.xe s₃) X.xe s₂) X.xe s₁) pins' σ' H2 s2 → Inv (cxH X ea (X.pn ++ pins)) [] σ' H2 s2 := fun I =>
    ⟨⟨I.ok.mod, I.ok.kind, I.ok.glob, I.ok.blt, I.ok.above, I.ok.inj, I.ok.has, I.ok.cab, (fun z => by cases z), I.ok.frames, I.ok.stk, I.ok.exf, I.ok.bs, I.ok.bsz, I.ok.noex, I.ok.exfs, I.ok.funs, I.ok.frf⟩,
      I.os, I.bare, I.base, I.loc, I.cell, I.free, I.freeC, fun p hp => I.pin p (List.mem_append_left _ (by have hp' : p ∈ (X.pn ++ pins) ++ [] := hp; rw [List.append_nil] at hp'; exact hp')), I.hok, I.len⟩
  refine wpAny_looks_onW hfrm hfr fl' fun h4 held up4 => ?_
  refine wpAny_landsW held fun h5 fl5 up5 => ?_
  obtain ⟨C, rfl, hexm, hts⟩ := hc σ' cls H' ea hE nH
  have I5 := toH (go fl5 (up4.trans up5))
  refine wpAny_handleBy_cons (codeAny_handlers_test ?_) (by intro q; cases q)
  refine ld_glob I5 hg hm ?_ hdb
  obtain ⟨ob, hob, hobc⟩ := fl5.there
  have LT : PySem.W.Looks (model X.prog X.w) h5 (typeOf (.ref ea)) (.ref C) := by
    rw [← hobc]
    exact (PySem.W.Looks.ld hob).andThen .now
  refine PySem.W.exm_one I5.kIn LT hexm _ _ _ _ (fun _ _ q => q) ?_
  refine codeAny_handlers_suite_as (lands_againW fl5 fun h6 fl6 up6 => ?_)
  have I6 := toH (go fl6 ((up4.trans up5).trans up6))
  have I7 : Inv (cxH X ea (X.pn ++ pins)) [] σ' (upd H' ea (ExcO ea C)) { s' with heap := h6 } := by
    refine I6.track ?_ nH (fun z => ?_) (fun y c q z => ?_) (fun p hp z => ?_) ?_
    · by_cases hx : ea ∈ X.ex
      · exact .inr hx
      · refine .inl ?_
        cases q : X.s₀.heap.get? ea with
        | none => exact q
        | some o =>
          obtain ⟨o', e'⟩ := I1.base.there ea o q hx
          exact absurd rfl (nE e')
    · exact nfr (by rw [hstk]; exact List.mem_filterMap.mpr ⟨X.env, List.mem_cons_self, by rw [hfr]; exact congrArg some z.symm⟩)
    · obtain ⟨v, oc, hoc, _⟩ := I1.cell y c q
      exact nE hoc z
    · exact nE (I1.pin p (List.mem_append_left _ (by have hp' : p ∈ (X.pn ++ pins) ++ [] := hp; rw [List.append_nil] at hp'; exact hp'))).1 z
    · obtain ⟨oe, vs, _, _, _, he, ⟨hcl, _⟩, hd, _⟩ := fl6.2.2.2
      exact ⟨⟨oe, vs, he, hcl, hd⟩, ⟨oe, he⟩, fun h1 h2 ⟨o, ws, q1, q2, q3⟩ k => ⟨o, ws, k o q1, q2, q3⟩⟩
  refine store_ok (X := cxH X ea (X.pn ++ pins)) I7 hN hi (.inl hk) (show RelV (.ref ea) (.ref ea) from rfl) (fun s8 I8 => ?_) (.inr hk)
  refine wpAny_mono (hs ea (X.pn ++ pins) [] s8 _ _ _ I8 hts) (fun fl9 s9 h9 => ?_) fun _ _ z => False.elim z
  have back : ∀ {σ2 : St} {H2 : Hp}, Inv (cxH X ea (X.pn ++ pins)) [] σ2 H2 s9 → Inv X pins σ2 H2 s9 := fun I =>
    ⟨⟨I1.ok.mod, I1.ok.kind, I1.ok.glob, I1.ok.blt, I1.ok.above, I1.ok.inj, I1.ok.has, I1.ok.cab, I1.ok.hd, I1.ok.frames, I1.ok.stk, I1.ok.exf, I1.ok.bs, I1.ok.bsz, I1.ok.noex, I1.ok.exfs, I1.ok.funs, I1.ok.frf⟩,
      I.os, I.bare, I.base, I.loc, I.cell, I.free, I.freeC, fun p hp => I.pin p (List.mem_append_left _ hp), I.hok, I.len⟩
  show wpAny (model X.prog X.w) X.A (do bindName X.env n .none; unbindBehindTheSuite X.env n pos) (fun _ s₃ => SP X pins D fl9 s₃) X.xe s9
  cases fl9 with
  | next =>
    obtain ⟨σ2, H2, I9, q9⟩ := h9
    exact let_go (back I9) hN hi hk fun s10 I10 => ⟨_, H2, I10, q9⟩
  | brk =>
    obtain ⟨σ2, H2, I9, q9⟩ := h9
    exact let_go (back I9) hN hi hk fun s10 I10 => ⟨_, H2, I10, q9⟩
  | cont =>
    obtain ⟨σ2, H2, I9, q9⟩ := h9
    exact let_go (back I9) hN hi hk fun s10 I10 => ⟨_, H2, I10, q9⟩
  | ret u =>
    obtain ⟨v, σ2, H2, I9, rv, q9⟩ := h9
    exact let_go (back I9) hN hi hk fun s10 I10 => ⟨v, _, H2, I10, rv, q9⟩
theorem ps_try {CH : Addr} {i : Nat} (E : St → XK) {x n : Str} {np hpos pos : Pos} {b₀ : Stmt} {suite body : List Stmt} {tb ts : TS}
    (hstk : X.stack = X.env :: X.outer) (hfr : X.env.frame = some X.env.locals) (hN : X.N.Nodup) (hi : X.N[i]? = some n) (hk : X.env.scope.names.lookup n = some .local) (hg : Gl X x) (hm : X.mg x = some (.ref CH))
    (hb : ∀ p xe, PassS (CX1 X.prog X.w) (X.tr p xe) E → PSs (X.tr p xe) body tb) (hs : ∀ ea p, PSs (cxH X ea p) (b₀ :: suite) ts)
    (hdb : (x == ("__debug__" : Str)) = false := by decide) : PS X (.Try body [.ExceptHandler (some (.Name x np)) (some n) (b₀ :: suite) hpos] [] [] pos) (tTry X.K CH i E tb ts) := by
  intro pins s σ H D I h
  obtain ⟨h1, h2⟩ := h
  refine wpAny_Try_except ?_
  have I' : Inv (X.tr (X.pn ++ pins) fun e s₁ => wpAny (model X.prog X.w) X.A (noteFrame e X.env) (fun _ s₂ => wpAny (model X.prog X.w) X.A (setFlight e none) (fun _ s₃ =>
      wpAny (model X.prog X.w) X.A (handleBy e X.env [.ExceptHandler (some (.Name x np)) (some n) (b₀ :: suite) hpos]) (SP X pins D) X.xe s₃) X.xe s₂) X.xe s₁) [] σ H s :=
    ⟨⟨I.ok.mod, I.ok.kind, I.ok.glob, I.ok.blt, I.ok.above, I.ok.inj, I.ok.has, I.ok.cab, I.ok.hd, I.ok.frames, I.ok.stk, I.ok.exf, I.ok.bs, I.ok.bsz, I.ok.noex, I.ok.exfs, I.ok.funs, I.ok.frf⟩,
      I.os, I.bare, I.base, I.loc, I.cell, I.free, I.freeC, fun p hp => I.pin p (by simpa using hp), I.hok, I.len⟩
  have back : ∀ {σ2 : St} {H2 : Hp} {s2 : Shared}, Inv (X.tr (X.pn ++ pins) fun e s₁ => wpAny (model X.prog X.w) X.A (noteFrame e X.env) (fun _ s₂ => wpAny (model X.prog X.w) X.A (setFlight e none) (fun _ s₃ =>
      wpAny (model X.prog X.w) X.A (handleBy e X.env [.ExceptHandler (some (.Name x np)) (some n) (b₀ :: suite) hpos]) (SP X pins D) X.xe s₃) X.xe s₂) X.xe s₁) [] σ2 H2 s2 → Inv X pins σ2 H2 s2 := fun J =>
    ⟨I.ok, J.os, J.bare, J.base, J.loc, J.cell, J.free, J.freeC, fun p hp => J.pin p (List.mem_append_left _ hp), J.hok, J.len⟩
  refine wpAny_mono (hb _ _ (try_pass hstk hfr hN hi hk hg hm hs h2 hdb) [] s σ H D I' h1) (fun f s1 q => ?_) fun e s1 q => q
  cases f with
  | next =>
    obtain ⟨σ2, H2, J, q⟩ := q
    exact wpAny_execs_nil ⟨σ2, H2, back J, q⟩
  | brk => obtain ⟨σ2, H2, J, q⟩ := q; exact ⟨σ2, H2, back J, q⟩
  | cont => obtain ⟨σ2, H2, J, q⟩ := q; exact ⟨σ2, H2, back J, q⟩
  | ret u => obtain ⟨v, σ2, H2, J, r, q⟩ := q; exact ⟨v, σ2, H2, back J, r, q⟩
end
end L2
set_option Elab.async false
set_option linter.all false
set_option maxRecDepth 100000
set_option maxHeartbeats 4000000
namespace L2
open PySem PySem.Spec PyProof.Rows
structure RoomN (k : Nat) (A : Around) : Prop where
  dp : A.depth + 3 * k + 5 < recursionLimit
  un : A.units + 16 * k + 200 < cLine
theorem Room.toN {k : Nat} {A : Around} (r : Room k A) : RoomN k A := ⟨r.dp, r.un⟩
theorem RoomN.mono {j k : Nat} {A : Around} (r : RoomN k A) (h : j ≤ k) : RoomN j A := ⟨by have := r.dp; omega, by have := r.un; omega⟩
theorem RoomN.deeper {k : Nat} {A : Around} (r : RoomN (k + 1) A) (env : Env) : RoomN k (A.deeper env) :=
  ⟨by have := r.dp; show A.depth + 1 + 3 * k + 5 < _; omega, by have := r.un; show A.units + 3 + 16 * k + 200 < _; omega⟩
theorem RoomN.mark {k : Nat} {A : Around} (r : RoomN k A) (e : Option Value) : RoomN k (A.mark e) := ⟨r.dp, r.un⟩
theorem RoomN.depth {k : Nat} {A : Around} (r : RoomN k A) : A.depth < recursionLimit := by have := r.dp; omega
theorem RoomN.units {k : Nat} {A : Around} (r : RoomN k A) : A.units + 100 < cLine := by have := r.un; omega
theorem Room.units100 {k : Nat} {A : Around} (r : Room k A) : A.units + 100 < cLine := r.toN.units
structure FnOkN (P : Program) (w : World) (K : PySem.W.Frag) (mg : Str → Option Value) (base : Heap) (k : Nat) (f : Addr) (fd : FuncData) (ps : List Str) (sp : List V → Hp → VK → Prop) : Prop where
  len : ∀ vs H Q, sp vs H Q → vs.length = ps.length
  run : ∀ (A : Around) (outer : List Env) (s : Shared) (H : Hp) (args : Args) (us : List Value) (vs : List V) (Q : VK), RoomN k A → Env0 P w K mg base A outer s H → BindsTo s fd args (ps.zip us) → Vals vs us → sp vs H Q →
    codeAny (model P w) A (.call (.ref f) args) (CR CX0 outer P w H s Q E0) s
noncomputable def cxN (P : Program) (w : World) (K : PySem.W.Frag) (mg : Str → Option Value) (base : Heap) (N : List Str) (qual : Str) (scope : Scope) (f : Addr) (cd : Value) (A : Around) (outer : List Env) (s : Shared) (H : Hp) : Cx :=
  { cxOf CX0 P w K mg base N qual scope f cd A outer s H E0 with calm := false, xe := fun _ _ => False }
theorem fn_ofN {P : Program} {w : World} {K : PySem.W.Frag} {mg : Str → Option Value} {base : Heap} {k : Nat} {f : Addr} {name qual : Str} {params : Arguments} {body : List Stmt} {scope : Scope} {dV kV doc pm cdv ct oc : Value} {an od : Option Addr}
    {osl : Array (Option Value)} {N ps : List Str} {sp : List V → Hp → VK → Prop} (lk : K.lookup f = some ⟨oc, od, .func (PySem.W.fnOf name qual params body scope dV kV doc pm an cdv ct), osl⟩) (hcd : PySem.W.codeIn K cdv qual = true) (S : FnScope N ps scope)
    (len : ∀ vs H Q, sp vs H Q → vs.length = ps.length)
    (hbody : ∀ (A : Around) (outer : List Env) (s : Shared) (H : Hp) (vs : List V) (Q : VK), RoomN k (A.deeper (envOfC qual scope s.heap.objs.size f cdv)) → sp vs H Q →
      ∃ t, PSs (cxN P w K mg base N qual scope f cdv A outer s H) body t ∧ t { nx := fun _ H' => Q .non H', rt := Q } (start N vs) H) :
    FnOkN P w K mg base (k + 1) f (PySem.W.fnOf name qual params body scope dV kV doc pm an cdv ct) ps sp := by
  refine ⟨len, fun A outer s H args us vs Q hr e0 hb r hsp => ?_⟩
  have hl := len _ _ _ hsp
  have KX : K.In s.heap := e0.mod.kin.keeps fun b o e => (e0.bs b o e).1
  have lim : s.heap.NoLimit := e0.mod.nolimit.keeps fun b o e => (e0.bs b o e).1
  have hkind : ∀ y ∈ ps.zip us, scope.names.lookup y.1 = some .local ∨ (scope.names.lookup y.1 = some .cell ∧ ((cellsFrom (s.heap.objs.size + 1) scope.names []).lookup y.1).isSome = true) := fun ⟨n, v⟩ hy => by
    rcases S.par n (List.of_mem_zip hy).1 with q | q
    · exact .inl q
    · exact .inr ⟨q, PySem.W.cellsFrom_some _ _ _ (.inl q)⟩
  refine codeAny_call_function hr.depth (KX _ _ lk) rfl S.co S.gen rfl (PySem.W.codeRec_of KX hcd) (hb _ _ _ _ ?_)
  refine wpAny_newFunctionEnv_cells S.kind hkind fun env he s1 x => ?_
  subst he
  refine ⟨lim.keeps x.toInCall.keep, codeAny_func ?_⟩
  obtain ⟨t, ht, hq⟩ := hbody A outer s H vs Q (hr.deeper _) hsp
  have e0' : Env0 P w K mg base { A with handled := none } outer s H := ⟨e0.frames, e0.mod, e0.bs, e0.bsz, e0.funs, e0.frf, e0.hok, e0.bare⟩
  have I0 : Inv (cxOf CX0 P w K mg base N qual scope f cdv { A with handled := none } outer s H E0) [] (start N vs) H s1 := inv_start S rfl e0' hl r x
  have I : Inv (cxN P w K mg base N qual scope f cdv A outer s H) [] (start N vs) H s1 :=
    ⟨⟨I0.ok.mod, I0.ok.kind, I0.ok.glob, I0.ok.blt, I0.ok.above, I0.ok.inj, I0.ok.has, I0.ok.cab, (fun z => by cases z), Around.frames_deeper e0.frames, I0.ok.stk, I0.ok.exf, I0.ok.bs, I0.ok.bsz, I0.ok.noex, I0.ok.exfs, I0.ok.funs, I0.ok.frf⟩,
      I0.os, I0.bare, I0.base, I0.loc, I0.cell, I0.free, I0.freeC, I0.pin, I0.hok, I0.len⟩
  refine wpAny_mono (ht [] s1 (start N vs) H _ I hq) (fun fl s' hs => ?_) fun e s' hs => False.elim hs
  have fin : ∀ {σ' : St} {H' : Hp} {v : V} {u : Value}, Inv (cxN P w K mg base N qual scope f cdv A outer s H) [] σ' H' s' → RelV v u → Q v H' → CE outer P w H s Q u s' :=
    fun {σ' H' v u} J rv q => ⟨v, H', J.os, J.bare, J.base, J.hok, rv, q⟩
  cases fl with
  | ret u =>
    obtain ⟨v, σ', H', J, rv, q⟩ := hs
    exact fin J rv q
  | next =>
    obtain ⟨σ', H', J, q⟩ := hs
    exact fin (v := V.non) (u := Value.none) J rfl q
  | brk =>
    obtain ⟨_, _, _, q⟩ := hs
    exact False.elim q
  | cont =>
    obtain ⟨_, _, _, q⟩ := hs
    exact False.elim q
theorem Fun.okN {P : Program} {w : World} {K : PySem.W.Frag} {mg : Str → Option Value} {base : Heap} {x qual : Str} {st : Stmt} {f : Addr} {fd : FuncData} {N ps : List Str} {k : Nat} {sp : List V → Hp → VK → Prop} (F : Fun K x qual st f fd) (S : FnScope N ps (defScope st)) (len : ∀ vs H Q, sp vs H Q → vs.length = ps.length)
    (hbody : ∀ (cdv : Value) (A : Around) (outer : List Env) (s : Shared) (H : Hp) (vs : List V) (Q : VK), RoomN k (A.deeper (envOfC qual (defScope st) s.heap.objs.size f cdv)) → sp vs H Q →
      ∃ t, PSs (cxN P w K mg base N qual (defScope st) f cdv A outer s H) (defBody st) t ∧ t { nx := fun _ H' => Q .non H', rt := Q } (start N vs) H) : FnOkN P w K mg base (k + 1) f fd ps sp := by
  obtain ⟨oc, od, kV, doc, pm, an, cdv, ct, osl, rfl, lk, hcd⟩ := F.ex
  exact fn_ofN lk hcd S len fun A outer s H vs Q hr hsp => hbody cdv A outer s H vs Q hr hsp
noncomputable def tCallN (sp : List V → Hp → VK → Prop) (dvs : List V) (t : TA) : TE := fun σ H Q => t σ H fun vs H1 => sp (vs ++ dvs) H1 Q
section
variable {X : Cx} {k : Nat} {f C : Addr} {fd : FuncData} {ps : List Str} {sp : List V → Hp → VK → Prop} {dvs : List V} {ds : List Value} {x m : Str} {p pos apos : Pos} {e o : Expr} {es : List Expr} {ta : TE} {t : TA}
theorem pe_callN (F : FnOkN X.prog X.w X.K X.mg X.base k f fd ps sp) (hr : RoomN k X.A) (hg : Gl X x) (hm : X.mg x = some (.ref f)) (hk : PySem.W.keepIn X.K (.ref f) = true) (hb : Binds X.K fd ps ds) (hd : Vals dvs ds)
    (ha : PA X (e :: es) t) (hdb : (x == ("__debug__" : Str)) = false := by decide) (he : starEach (e :: es) X.env = (false, eval e X.env) :: starEach es X.env := by rfl) (hpl : (backTo pos (starEach es X.env)).any (·.1) = false := by rfl) :
    PE X (.Call (.Name x p) (e :: es) [] pos) (tCallN sp dvs t) := by
  intro pins s σ H Q I h
  refine wpAny_Call_Name_kw (ld_glob I hg hm ?_ hdb)
  refine PySem.W.callWith_K (h₀ := X.base) I.ok.mod.kin hk (thn (ha pos pins s σ H _ I h) fun us s1 ⟨vs, H1, I1, r, q⟩ => ⟨I1.kIn, ?_⟩) he hpl
  have r2 : Vals (vs ++ dvs) (us ++ ds) := r.append hd
  have hl : (us ++ ds).length = ps.length := by rw [← r2.length]; exact F.len _ _ _ q
  refine wpAny_call (codeAny_mono (F.run X.A X.stack s1 H1 ⟨us, []⟩ (us ++ ds) (vs ++ dvs) Q hr I1.env0 (hb s1 us I1.kIn hl) r2 q) fun r s' hq => ?_)
  cases r with
  | error e => exact False.elim hq
  | ok fl =>
    cases fl with
    | ret u => exact I1.after hq
    | next => exact False.elim hq
    | brk => exact False.elim hq
    | cont => exact False.elim hq
end
end L2
namespace PySem.W
open PySem PySem.Spec PySem.Calls PyProof.Rows PySem.Builtin.ObjectAttr PySem.Builtin.Getset_descriptor PySem.Builtin
structure ExcCls (K : Frag) (C : Addr) : Prop where
  cl : (clsIn K C).isSome = true
  ga : findIn K (.ref C) "__getattribute__" = some (some (.builtin "BaseException.__getattribute__"))
  hk : findIn K (.ref C) "__getattr__" = some none
  ha : findIn K (.ref C) "__class__" = some (some (.builtin "object.__class__"))
  hn : specialIn K (.builtin "object.__class__") "__get__" = some (some (.builtin "getset_descriptor.__get__"))
  ht : takesIn K (.builtin "object.__class__") = some true
  hm : mroIn K C (.type "object") = some true
  hb : mroIn K C (.type "BaseException") = some true
section
variable {prog : Program} {w : World} {A : Around} {E : Value → Shared → Prop} {K : Frag} {x C : Addr} {ox : Obj}
theorem class_getE {R : Result → Shared → Prop} {h : Heap} {g : Array GenState} {d : Drawn} {t : Nat} {os : OsState} {tp : Value} (X : K.In h) (L0 : Looks (model prog w) h (typeOf (.ref x)) (.ref C)) (hm : mroIn K C (.type "object") = some true)
    (hq : R (.ok (.ret (.ref C))) ⟨h, g, d, t, os⟩) : codeAny (model prog w) A (.call (.builtin "getset_descriptor.__get__") ⟨[.builtin "object.__class__", .ref x, tp], []⟩) R ⟨h, g, d, t, os⟩ := by
  have L1 := looks_mroIn (M := model prog w) X hm
  refine codeAny_call_builtin KF.slot_gs.plain KF.entry_gs (KF.slot_gs.check _ _ _ _ _ _ _ _ KF.type_class (KF.args_gs _ _ _) ?_)
  unfold Builtin.«getset_descriptor.__get__» descrGet
  rw [dga_obj]
  refine wpAny_bind (wpAny_pure ?_)
  unfold descrGetter descrCheckInstance descrNameAndClass isInstance
  simp only [KF.owner_class]
  repeat lk
  refine ⟨Code.quiet_builtin _ (by decide +kernel), codeAny_builtin KF.entry_class ?_⟩
  unfold Builtin.«object.__class__» shownTypeOf
  repeat lk
  exact hq
theorem exc_class {h : Heap} {g : Array GenState} {d : Drawn} {t : Nat} {os : OsState} {vs : Array Value} {Q : Option Value → Shared → Prop} (X : K.In h) (T : ExcCls K C) (hx : h.get? x = some ox) (hc : ox.cls = .ref C) (hd : ox.data = .fields vs)
    (hq : Q (some (.ref C)) ⟨h, g, d, t + 1, os⟩) : wpAny (model prog w) A (getAttr? (.ref x) "__class__") Q E ⟨h, g, d, t, os⟩ := by
  have L0 : Looks (model prog w) h (typeOf (.ref x)) (.ref C) := hc ▸ (Looks.ld hx).andThen .now
  have L1 := looks_findIn (M := model prog w) X T.ga
  unfold getAttr? getAttrBy? getAttrBy
  refine wpAny_bind (wpAny_mkText (wpAny_bind (wpAny_attempt (wpAny_holding (wpAny_bind (L0.at (wpAny_bind (L1.at ?_))))))))
  show wpAny _ _ (getAttrByItsOwn (.ref x) (.str "__class__" t) (.ref C) (.builtin "BaseException.__getattribute__") false false) _ _ _
  have LH := looks_findIn (M := model prog w) X T.hk
  unfold getAttrByItsOwn callGetattribute boundAndCalled hookBefore
  refine wpAny_bind (LH.at (wpAny_bind (wpAny_attempt (wpAny_holding ?_))))
  rw [if_neg (by simp)]
  refine wpAny_bind (wpAny_of_eq (F.excAttr_ValueError.ga.bind _) ?_)
  refine wpAny_call ?_
  refine codeAny_call_builtin F.excAttr_ValueError.ga.plain F.entry_bexc_ga ?_
  have hsub : Looks (model prog w) h (isSubtype (.ref C) (.type "BaseException")) true := looks_mroIn X T.hb
  have chk : ∀ {A' : Around} {Q' : Unit → Shared → Prop} {E' : Value → Shared → Prop} {t' : Nat}, Q' () ⟨h, g, d, t', os⟩ → wpAny (model prog w) A' (checkBuiltinCall "BaseException.__getattribute__" ⟨[.ref x, .str "__class__" t], []⟩) Q' E' ⟨h, g, d, t', os⟩ := fun hq' => by
    have hkd : builtinKind "BaseException.__getattribute__" = some .slot := by kernel_rfl
    have hsp : splitId "BaseException.__getattribute__" = some ("BaseException", "__getattribute__") := by kernel_rfl
    simp only [checkBuiltinCall, hkd, hsp]
    have LI : Looks (model prog w) h (isInstance (.ref x) (.type "BaseException")) true := L0.andThen hsub
    refine wpAny_bind (LI.at ?_)
    simp only [Bool.not_true, Bool.false_eq_true, if_false]
    have ha := F.args_bexc_ga (.ref x) (.str "__class__" t)
    cases hsig : Manifest.signature? "BaseException.__getattribute__" with
    | none => exact wpAny_pure hq'
    | some sig =>
      simp only [argsOk, hsig] at ha
      have h2 : Bind.checkArgs "BaseException.__getattribute__" sig ⟨[.ref x, .str "__class__" t], []⟩ = pure () := ha
      show wpAny _ _ (Bind.checkArgs "BaseException.__getattribute__" sig ⟨[.ref x, .str "__class__" t], []⟩) _ _ _
      rw [h2]; exact wpAny_pure hq'
  refine chk ?_
  have LF : Looks (model prog w) h (Builtin.ObjectAttr.find (.ref x) (.ref C) "__class__") (Found.bind (.builtin "getset_descriptor.__get__") (.builtin "object.__class__")) := by
    have L1 := looks_findIn (M := model prog w) X T.ha
    have L2 : Looks (model prog w) h (getOf (some (.builtin "object.__class__"))) (some (.builtin "getset_descriptor.__get__")) := looks_specialIn X T.hn
    have L3 := looks_takesIn (M := model prog w) X T.ht
    unfold Builtin.ObjectAttr.find
    exact L1.andThen (L2.andThen ((show Looks (model prog w) h (dataDescriptor? (some (.builtin "object.__class__")) (some (.builtin "getset_descriptor.__get__"))) (some (.builtin "getset_descriptor.__get__", .builtin "object.__class__")) from L3.andThen .now).andThen (Looks.tag .now)))
  show wpAny _ _ (Builtin.«object.__getattribute__» ⟨[.ref x, .str "__class__" t], []⟩) _ _ _
  unfold Builtin.«object.__getattribute__»
  refine wpAny_bind (wpAny_pure (wpAny_bind (wpAny_pure (wpAny_bind (L0.at (wpAny_bind (LF.at ?_)))))))
  show wpAny _ _ (bindTo (.builtin "getset_descriptor.__get__") (.builtin "object.__class__") (.ref x) (.ref C)) _ _ _
  show wpAny _ _ (holding [Value.builtin "object.__class__"] (call (.builtin "getset_descriptor.__get__") [.builtin "object.__class__", .ref x, .ref C]) >>= ret) _ _ _
  refine wpAny_bind (wpAny_holding (wpAny_call (class_getE X L0 T.hm ?_)))
  refine wpAny_pure ?_
  exact handed_on rfl (wpAny_pure hq)
noncomputable def ExcAtH (x C : Addr) (h : Heap) : Prop := ∃ o vs, h.get? x = some o ∧ o.cls = .ref C ∧ o.data = .fields vs
theorem kitx_exc (T : ExcCls K C) : KitX K (.ref x) (.ref C) (ExcAtH x C) where
  ty := fun M h _ ⟨o, vs, e, c, d⟩ => c ▸ (Looks.ld e).andThen .now
  it := fun _ _ X _ => by
    obtain ⟨cdD, hcD⟩ := Option.isSome_iff_exists.mp T.cl
    unfold clsIn at hcD
    split at hcD
    · rename_i c' d' cd' sl' ho
      intro A' Q' E' s' k q
      unfold isType loadHead
      exact wpAny_bind (wpAny_loadPart (k _ _ (X _ _ ho)) (wpAny_pure q))
    · cases hcD
  ne := fun h tp dd its n sl X htp => by
    obtain ⟨cdD, hcD⟩ := Option.isSome_iff_exists.mp T.cl
    refine Bool.eq_false_iff.mpr fun q => ?_
    have e : C = tp := Value.ref.inj (beq_iff_eq.mp q)
    subst e
    unfold clsIn at hcD
    split at hcD
    · rename_i c' d' cd' sl' ho
      have z := (X _ _ ho).symm.trans htp
      cases z
    · cases hcD
  ca := fun {prog w A E Q s} X ⟨o, vs, e, c, d⟩ k => by
    obtain ⟨hh, g, dd, t, os⟩ := s
    exact exc_class X T e c d k
end
end PySem.W
namespace L2
open PySem PySem.Spec PyProof.Rows
theorem vals_refs : ∀ {Cs : List Addr} {its : List Value}, Vals (Cs.map V.ref) its → its = Cs.map Value.ref
  | [], _, .nil => rfl
  | _ :: _, _, .cons r1 r2 => by cases r1; rw [vals_refs r2, List.map_cons]
section
variable {X : Cx}
theorem call_isiE : CallR X (.builtin "isinstance") (fun xs H Q => ∃ ea D c b, xs = [.ref ea, c] ∧ H ea = some (ExcO ea D) ∧ PySem.W.ExcCls X.K D ∧
    ((∃ n, c = .ty n ∧ PySem.W.kitOne X.K (.ref D) (.type n) = some b) ∨ (∃ C, c = .ref C ∧ PySem.W.kitOne X.K (.ref D) (.ref C) = some b) ∨
      (∃ (p : Addr) (Cs : List Addr), c = .ref p ∧ H p = some (.tup (Cs.map V.ref)) ∧ PySem.W.kitAny X.K (.ref D) (Cs.map Value.ref) = some b)) ∧ Q (.bl b) H) := by
  intro pins s σ H xs us Q I r h
  obtain ⟨ea, D, c, b, rfl, hH, T, hc, q⟩ := h
  obtain ⟨u, w', rfl, rx, rc⟩ := vals2 r
  cases rx
  have hE : PySem.W.ExcAtH ea D s.heap := (I.hok ea _ hH).1
  have fin : ∀ tk, EP X pins σ Q (.bool b) { s with toks := tk } := fun tk => ⟨.bl b, H, I.tok tk, rfl, q⟩
  rcases hc with ⟨n, rfl, e⟩ | ⟨C, rfl, e⟩ | ⟨p, Cs, rfl, hp, e⟩
  · cases rc
    exact PySem.W.kia_one (PySem.W.kitx_exc T) I.kIn hE e (fun z => nomatch z) fin
  · cases rc
    exact PySem.W.kia_one (PySem.W.kitx_exc T) I.kIn hE e (fun z => nomatch z) fin
  · cases rc
    obtain ⟨_, its, rv, o, ho, hcl, n, hd⟩ := (show ObjOk X.prog X.w H s.heap p (.tup (Cs.map V.ref)) from I.hok p _ hp)
    have ei : its = Cs.map Value.ref := vals_refs rv
    obtain ⟨cls, dd, data, sl⟩ := o
    have hcl' : cls = .type "tuple" := hcl
    have hd' : data = .seq its.toArray n := hd
    subst hcl' hd'
    exact PySem.W.kia_tup (PySem.W.kitx_exc T) I.kIn hE ho (by rw [ei]; exact e) (fun z => nomatch z) fin
end
end L2
set_option Elab.async false
set_option linter.all false
set_option maxRecDepth 100000
set_option maxHeartbeats 4000000
namespace L2
open PySem PySem.Spec PyProof.Rows
theorem comp_by {J : It} {g : TG} {tc : TT} {te : TE} {σ0 : St} {H : Hp} {Q : VK} (n : Nat) (Pv : Nat → List V → Hp → Prop) (hz : n < sizeLine) (hgo : ∀ i ys H, i < n → Pv i ys H → J.go i H) (hstop : ∀ ys H, Pv n ys H → J.stop n H) (h0 : Pv 0 [] H)
    (hs : ∀ i ys H x H' (N : List V → Hp → Prop), i < n → Pv i ys H → J.yld i H x H' → (∀ ys' H2, Pv (i + 1) ys' H2 → N ys' H2) →
      g x σ0 H' fun σ2 H2 => tc σ2 H2 fun b H3 => if b = true then te σ2 H3 fun y H4 => N (ys ++ [y]) H4 else N ys H3)
    (hd : ∀ ys H, Pv n ys H → ys.length ≤ n → ∀ p, H p = none → Q (.ref p) (upd H p (.lst ys))) :
    CompR J g tc te σ0 Q H := by
  refine ⟨fun i m ys H => m = n - i ∧ i ≤ n ∧ ys.length ≤ i ∧ Pv i ys H, ⟨n, by simp, Nat.zero_le _, Nat.le_refl _, h0⟩, ?_⟩
  rintro i m ys H ⟨rfl, hi, hl, p⟩
  by_cases hlt : i < n
  · refine .inr ⟨hgo i ys H hlt p, by (clear hlt; omega), fun x H' y => ?_⟩
    have key := hs i ys H x H' (fun ys' H2 => (ys'.length ≤ ys.length + 1 → ∃ m', m' < n - i ∧ m' = n - (i + 1) ∧ i + 1 ≤ n ∧ ys'.length ≤ i + 1 ∧ Pv (i + 1) ys' H2)) hlt p y (fun ys' H2 q hle => ⟨n - (i + 1), by (clear hle hl hi hz; omega), rfl, hlt, by (clear hlt hi hz; omega), q⟩)
    have e : (fun σ2 H2 => tc σ2 H2 fun b H3 => if b = true then te σ2 H3 fun y H4 => ((ys ++ [y]).length ≤ ys.length + 1 → ∃ m', m' < n - i ∧ m' = n - (i + 1) ∧ i + 1 ≤ n ∧ (ys ++ [y]).length ≤ i + 1 ∧ Pv (i + 1) (ys ++ [y]) H4)
        else (ys.length ≤ ys.length + 1 → ∃ m', m' < n - i ∧ m' = n - (i + 1) ∧ i + 1 ≤ n ∧ ys.length ≤ i + 1 ∧ Pv (i + 1) ys H3)) =
      (fun σ2 H2 => tc σ2 H2 fun b H3 => if b = true then te σ2 H3 fun y H4 => ∃ m', m' < n - i ∧ m' = n - (i + 1) ∧ i + 1 ≤ n ∧ (ys ++ [y]).length ≤ i + 1 ∧ Pv (i + 1) (ys ++ [y]) H4
        else ∃ m', m' < n - i ∧ m' = n - (i + 1) ∧ i + 1 ≤ n ∧ ys.length ≤ i + 1 ∧ Pv (i + 1) ys H3) := by
      funext σ2 H2
      congr 1
      funext b H3
      have e1 : ∀ (y : V) (H4 : Hp), ((ys ++ [y]).length ≤ ys.length + 1 → ∃ m', m' < n - i ∧ m' = n - (i + 1) ∧ i + 1 ≤ n ∧ (ys ++ [y]).length ≤ i + 1 ∧ Pv (i + 1) (ys ++ [y]) H4) = (∃ m', m' < n - i ∧ m' = n - (i + 1) ∧ i + 1 ≤ n ∧ (ys ++ [y]).length ≤ i + 1 ∧ Pv (i + 1) (ys ++ [y]) H4) := fun y H4 =>
        propext ⟨fun q => q (by simp), fun q _ => q⟩
      have e2 : (ys.length ≤ ys.length + 1 → ∃ m', m' < n - i ∧ m' = n - (i + 1) ∧ i + 1 ≤ n ∧ ys.length ≤ i + 1 ∧ Pv (i + 1) ys H3) = (∃ m', m' < n - i ∧ m' = n - (i + 1) ∧ i + 1 ≤ n ∧ ys.length ≤ i + 1 ∧ Pv (i + 1) ys H3) := propext ⟨fun q => q (by (clear hlt hl hi hz; omega)), fun q _ => q⟩
      simp only [e1, e2]
    rw [e] at key
    exact key
  · have e : i = n := by (clear hl hz; omega)
    subst e
    exact .inl ⟨hstop ys H p, by (clear hlt hi; omega), hd ys H p hl⟩
theorem comp_its {x : Str} {g : TG} {tc : TT} {te : TE} {σ0 : St} {H : Hp} {Q : VK} (Pv : Nat → List V → Hp → Prop) (hz : x.cps.size < sizeLine) (h0 : Pv 0 [] H)
    (hs : ∀ i c ys H (N : List V → Hp → Prop), x.cps[i]? = some c → Pv i ys H → (∀ ys' H2, Pv (i + 1) ys' H2 → N ys' H2) →
      g (.str ⟨#[c]⟩) σ0 H fun σ2 H2 => tc σ2 H2 fun b H3 => if b = true then te σ2 H3 fun y H4 => N (ys ++ [y]) H4 else N ys H3)
    (hd : ∀ ys H, Pv x.cps.size ys H → ys.length ≤ x.cps.size → ∀ p, H p = none → Q (.ref p) (upd H p (.lst ys))) : CompR (Its x) g tc te σ0 Q H := comp_by x.cps.size Pv hz (fun i ys H hi _ => hi) (fun ys H _ => rfl) h0
  (fun i ys H v H' N hi p y hN => by
    obtain ⟨e, c, hc, e2⟩ := y
    subst e e2
    exact hs i c ys _ N hc p hN) hd
theorem comp_itr {lo : Int} {n : Nat} {g : TG} {tc : TT} {te : TE} {σ0 : St} {H : Hp} {Q : VK} (Pv : Nat → List V → Hp → Prop) (hz : n < sizeLine) (h0 : Pv 0 [] H)
    (hs : ∀ i ys H (N : List V → Hp → Prop), i < n → Pv i ys H → (∀ ys' H2, Pv (i + 1) ys' H2 → N ys' H2) →
      g (.int (lo + i)) σ0 H fun σ2 H2 => tc σ2 H2 fun b H3 => if b = true then te σ2 H3 fun y H4 => N (ys ++ [y]) H4 else N ys H3)
    (hd : ∀ ys H, Pv n ys H → ys.length ≤ n → ∀ p, H p = none → Q (.ref p) (upd H p (.lst ys))) : CompR (Itr lo n) g tc te σ0 Q H := comp_by n Pv hz (fun i ys H hi _ => hi) (fun ys H _ => Nat.le_refl _) h0
  (fun i ys H v H' N hi p y hN => by
    obtain ⟨e, e2⟩ := y
    subst e e2
    exact hs i ys _ N hi p hN) hd
theorem comp_itl {K : PySem.W.Frag} {a : Addr} {xs : List V} {g : TG} {tc : TT} {te : TE} {σ0 : St} {H : Hp} {Q : VK} (Pv : Nat → List V → Hp → Prop) (hz : xs.length < sizeLine) (hl : ∀ i ys H, Pv i ys H → SqL K H a xs) (h0 : Pv 0 [] H)
    (hs : ∀ i x ys H (N : List V → Hp → Prop), xs[i]? = some x → Pv i ys H → (∀ ys' H2, Pv (i + 1) ys' H2 → N ys' H2) →
      g x σ0 H fun σ2 H2 => tc σ2 H2 fun b H3 => if b = true then te σ2 H3 fun y H4 => N (ys ++ [y]) H4 else N ys H3)
    (hd : ∀ ys H, Pv xs.length ys H → ys.length ≤ xs.length → ∀ p, H p = none → Q (.ref p) (upd H p (.lst ys))) : CompR (Itl K a) g tc te σ0 Q H := comp_by xs.length Pv hz
  (fun i ys H hi p => ⟨xs, xs[i], hl i ys H p, by simp [hi]⟩) (fun ys H p => ⟨xs, hl _ ys H p, Nat.le_refl _⟩) h0
  (fun i ys H v H' N hi p y hN => by
    obtain ⟨e, y⟩ := y
    subst e
    exact hs i v ys _ N (y xs (hl i ys _ p)) p hN) hd
@[elab_as_elim] theorem us1 {α : Type} {p : List α → Prop} (h : ∀ a, p [a]) (us : List α) (hl : us.length = 1) : p us := by
  obtain ⟨a, rfl⟩ := List.length_eq_one_iff.mp hl
  exact h a
@[elab_as_elim] theorem us2 {α : Type} {p : List α → Prop} (h : ∀ a b, p [a, b]) (us : List α) (hl : us.length = 2) : p us := by
  cases us with
  | nil => cases hl
  | cons a r => exact @us1 _ (fun r => p (a :: r)) (fun b => h a b) r (Nat.succ.inj hl)
@[elab_as_elim] theorem us3 {α : Type} {p : List α → Prop} (h : ∀ a b c, p [a, b, c]) (us : List α) (hl : us.length = 3) : p us := by
  cases us with
  | nil => cases hl
  | cons a r => exact @us2 _ (fun r => p (a :: r)) (fun b c => h a b c) r (Nat.succ.inj hl)
@[elab_as_elim] theorem us4 {α : Type} {p : List α → Prop} (h : ∀ a b c d, p [a, b, c, d]) (us : List α) (hl : us.length = 4) : p us := by
  cases us with
  | nil => cases hl
  | cons a r => exact @us3 _ (fun r => p (a :: r)) (fun b c d => h a b c d) r (Nat.succ.inj hl)
end L2
set_option Elab.async false
set_option linter.all false
set_option maxRecDepth 100000
set_option maxHeartbeats 4000000
namespace L2
open PySem PySem.Spec PyProof.Rows
section
variable {X : Cx}
theorem ps_setC {i : Nat} {x : Str} {pos' spos : Pos} {elt target iter : Expr} {ifs : List Expr} {scope sc0 : Scope} {pos : Pos} {N N0 : List Str} {own : Nat} {caps : List Nat} {wi : TI} {g : TG} {tc : TT} {te t' : TE}
    (hNd : X.N.Nodup) (hxi : X.N[i]? = some x) (hx : Loc X.env.scope x)
    (hcalm : X.calm = true) (hi : PI X target iter wi)
    (hg : ∀ s₀ H₀ ex, PG (cxB X scope N s₀ H₀ ex) target g) (hc : ∀ s₀ H₀ ex, PIfs (cxB X scope N s₀ H₀ ex) ifs tc) (he : ∀ s₀ H₀ ex, PE (cxB X scope N s₀ H₀ ex) elt te) (hk : GKeep own g)
    (hX : X.N = N0) (hsc : X.env.scope = sc0)
    (hcell : ∀ y ∈ scope.names, y.2 ≠ .cell) (hkind : scope.kind = .function) (hnames : ∀ y ∈ scope.names, y.2 = .local → scope.names.lookup y.1 = some .local)
    (hfree : ∀ y ∈ scope.names, y.2 = .free → sc0.names.lookup y.1 = some .cell) (hN : N.length = own + caps.length)
    (hcap : ∀ p ∈ caps.zip (N.drop own), N0[p.1]? = some p.2 ∧ scope.names.lookup p.2 = some .free)
    (himp : ∀ σ H Q, t' σ H Q → tComp own caps wi g tc te σ H Q)
    (hs : ∀ x, foldedSetIterable iter X.env x = pure x := by intro _; rfl)
    (hsw : swapsWith (.ListComp elt [⟨target, iter, ifs, 0⟩] scope pos) (some (.Name x pos')) spos.line X.env = pure true := by rfl)
    (hf : X.fn x = true ∨ X.env.scope.names.lookup x = some .local := by first | exact .inl rfl | exact .inr rfl | assumption) :
    PS X (.Assign [.Name x pos'] (.ListComp elt [⟨target, iter, ifs, 0⟩] scope pos) spos) (tAsg t' (gName i)) := by
  intro pins s σ H D I h
  rw [exec_Assign_Name_used _ _ _ _ hsw]
  refine wpAny_bind (wpAny_standAt (wpAny_bind ?_))
  show wpAny _ X.A (do let _ ← comprehension (.ListComp elt [⟨target, iter, ifs, 0⟩] scope pos) scope X.env _ (newList []) false (eval iter X.env) (some (assign (.Name x pos') X.env))) _ _ s
  refine wpAny_bind (wpAny_mono (comp_core (use := some (assign (.Name x pos') X.env)) (Qf := fun _ s' => SP X pins D .next s') hcalm hi hg hc he hk hX hsc hcell hkind hnames hfree hN hcap hs I (himp _ _ _ h) ?_) (fun _ s' hq => wpAny_pure (wpAny_pure hq)) fun _ _ e => e)
  intro D' C s' He ys m f hn hI hfp q
  show wpAny _ X.A (assign (.Name x pos') X.env (.ref D')) _ _ s'
  have I1 : Inv X pins σ (upd He D' (.lst ys)) s' := hI s'.heap ⟨rfl, fun _ _ => rfl⟩
  refine wpAny_assign_Name (store_ok2 (v := .ref D') I1 hNd hxi hx rfl (fun s'' I2 ⟨a, hs2, ha⟩ => ?_) hf)
  have hCa : C ≠ a := by
    rcases ha with rfl | ha
    · exact hfp.2.1
    · exact fun z => hfp.2.2.2.2.1 _ _ ha z.symm
  refine ⟨m, hn.sameBut hs2 hCa, fun h' hsb => ⟨_, _, I2.turnedL (fp := [C]) (t' := s''.toks) (fun b o hb e => (hsb.2 b (fun z => hb (by rw [z]; exact List.mem_singleton.mpr rfl))).trans e) (fun b hb => ?_), q⟩⟩
  rw [List.mem_singleton.mp hb]
  exact hfp
end
end L2
set_option Elab.async false
set_option linter.all false
set_option maxRecDepth 100000
set_option maxHeartbeats 4000000
namespace L2
open PySem PySem.Spec PyProof.Rows
section
variable {X : Cx}
end
end L2
set_option Elab.async false
set_option linter.all false
set_option maxRecDepth 100000
set_option maxHeartbeats 4000000
namespace L2
open PySem PySem.Spec PyProof.Rows
section
variable {X : Cx}
end
end L2
set_option Elab.async false
set_option linter.all false
set_option maxRecDepth 100000
set_option maxHeartbeats 4000000
namespace L2
open PySem PySem.Spec PyProof.Rows
section
variable {X : Cx}
end
end L2
set_option Elab.async false
set_option linter.all false
set_option maxRecDepth 100000
set_option maxHeartbeats 4000000
namespace L2
open PySem PySem.Spec PyProof.Rows
section
variable {X : Cx} {CX : CXT} {k : Nat} {f C : Addr} {fd : FuncData} {ps : List Str} {ds : List Value} {dvs : List V} {sp : Sp} {m : Str} {pos apos : Pos} {e o : Expr} {es : List Expr} {ta : TE} {t : TA} {E : St → XK}
end
end L2
set_option Elab.async false
set_option linter.all false
set_option maxRecDepth 100000
set_option maxHeartbeats 4000000
namespace L2
open PySem PySem.Spec PyProof.Rows
section
variable {X : Cx}
theorem Vals.rev : ∀ {xs : List V} {us : List Value}, Vals xs us → Vals xs.reverse us.reverse
  | _, _, .nil => .nil
  | _, _, .cons r t => by
    rw [List.reverse_cons, List.reverse_cons]
    exact (Vals.rev t).append (.cons r .nil)
end
end L2
set_option Elab.async false
set_option linter.all false
set_option maxRecDepth 100000
set_option maxHeartbeats 4000000
namespace L2
open PySem PySem.Spec PyProof.Rows
section
variable {X : Cx}
end
end L2
set_option Elab.async false
set_option linter.all false
set_option maxRecDepth 100000
set_option maxHeartbeats 4000000
namespace ST
open PySem PySem.W PyProof.Rows
section
variable {α β : Type} (N : Nat) (key : Nat → Nat)
noncomputable def KRun : KasT α → (α → Prop) → Prop
  | .ret a, Q => Q a
  | .ask i j k, Q => i < N ∧ j < N ∧ KRun (k (decide (key i < key j))) Q
variable {N key}
theorem KRun.bind {f : α → KasT β} {Q : β → Prop} : ∀ (t : KasT α), KRun N key t (fun a => KRun N key (f a) Q) → KRun N key (t.bind f) Q
  | .ret a, h => h
  | .ask i j k, h => ⟨h.1, h.2.1, KRun.bind (k _) h.2.2⟩
theorem KRun.wp {cmp : Nat → Nat → (Bool → Shared → Prop) → Shared → Prop} {s : Shared} {R : α → Shared → Prop} (hc : ∀ i j (C : Bool → Shared → Prop), i < N → j < N → C (decide (key i < key j)) s → cmp i j C s) {Q : α → Prop} (hq : ∀ a, Q a → R a s) :
    ∀ (t : KasT α), KRun N key t Q → t.kasWp cmp R s
  | .ret a, h => hq a h
  | .ask i j k, h => hc i j _ h.1 h.2.1 (KRun.wp hc hq (k _) h.2.2)
theorem yes {T₁ T₂ : KasT α} {Q : α → Prop} (h : KRun N key T₁ Q) : KRun N key (if true = true then T₁ else T₂) Q := by rw [if_pos rfl]; exact h
theorem nope {T₁ T₂ : KasT α} {Q : α → Prop} (h : KRun N key T₂ Q) : KRun N key (if false = true then T₁ else T₂) Q := by rw [if_neg (by decide)]; exact h
noncomputable abbrev g (p : Array Nat) (i : Nat) : Nat := p.getD i 0
variable (key) in
noncomputable abbrev K (p : Array Nat) (i : Nat) : Nat := key (g p i)
variable (N) in
structure Pm (p : Array Nat) : Prop where
  n : p.size = N
  p : p.toList.Perm (List.range N)
  z : 0 < N
theorem Pm.lt {p : Array Nat} (h : Pm N p) (i : Nat) : g p i < N := by
  unfold g
  by_cases hi : i < p.size
  · have e : p.getD i 0 = p[i] := by simp [Array.getD, hi]
    rw [e]
    have : p[i] ∈ p.toList := Array.getElem_mem_toList hi
    exact List.mem_range.mp (h.p.mem_iff.mp this)
  · have e : p.getD i 0 = 0 := by simp [Array.getD, hi]
    rw [e]; exact h.z
theorem g_of {p q : Array Nat} {i j : Nat} (h : p[i]? = q[j]?) : g p i = g q j := by
  unfold g
  rw [Array.getD_eq_getD_getElem?, Array.getD_eq_getD_getElem?, h]
theorem g_rev {p : Array Nat} {i j : Nat} (hj : j ≤ p.size) (x : Nat) : g (kas_rev p i j) x = if i ≤ x ∧ x < j then g p (i + j - 1 - x) else g p x := by
  have e := getElem?_mirror_all (i := i) hj x
  by_cases h : i ≤ x ∧ x < j
  · rw [if_pos h] at e ⊢; exact g_of e
  · rw [if_neg h] at e ⊢; exact g_of e
theorem Pm.rev {p : Array Nat} (h : Pm N p) (i j : Nat) : Pm N (kas_rev p i j) :=
  ⟨by unfold kas_rev; rw [mirror_size]; exact h.n, (mirror_perm p i j _).toList.trans h.p, h.z⟩
theorem Pm.bub {p : Array Nat} (h : Pm N p) (k d : Nat) : Pm N (bubble p k d) :=
  ⟨by rw [bubble_size]; exact h.n, (bubble_perm p k d).toList.trans h.p, h.z⟩
variable (key) in
noncomputable def Srt (p : Array Nat) (n : Nat) : Prop := ∀ i j, i ≤ j → j < n → K key p i ≤ K key p j
variable (key) in
noncomputable def Non (p : Array Nat) (n : Nat) : Prop := ∀ i j, i ≤ j → j < n → K key p j ≤ K key p i
theorem asc_ok {p : Array Nat} (hp : Pm N p) {Q : Nat → Prop} : ∀ f n, 1 ≤ n → Srt key p n → (∀ m, n ≤ m → m ≤ n + f → Srt key p m → (m < n + f → K key p m < K key p (m - 1)) → Q m) → KRun N key (kas_asc p f n) Q
  | 0, n, h1, hs, k => k n (Nat.le_refl _) (Nat.le_refl _) hs fun h => absurd h (by omega)
  | f + 1, n, h1, hs, k => by
    refine ⟨hp.lt _, hp.lt _, ?_⟩
    by_cases hc : K key p n < K key p (n - 1)
    · rw [decide_eq_true hc]
      refine yes ?_
      exact k n (Nat.le_refl _) (by omega) hs fun _ => hc
    · rw [decide_eq_false hc]
      refine nope ?_
      refine asc_ok hp f (n + 1) (by omega) (fun i j hij hj => ?_) fun m m1 m2 ms ml => k m (by omega) (by omega) ms fun h => ml (by omega)
      rcases Nat.lt_or_ge j n with z | z
      · exact hs i j hij z
      · have e : j = n := by omega
        subst e
        rcases Nat.lt_or_ge i j with y | y
        · have := hs i (j - 1) (by omega) (by omega)
          omega
        · have e : i = j := by omega
          rw [e]
          exact Nat.le_refl _
theorem rev_same {p : Array Nat} {i j : Nat} (hj : j ≤ p.size) (he : ∀ x, i ≤ x → x < j → K key p x = K key p (j - 1)) (x : Nat) : K key (kas_rev p i j) x = K key p x := by
  unfold K
  rw [g_rev hj]
  by_cases h : i ≤ x ∧ x < j
  · rw [if_pos h]
    have h1 := he (i + j - 1 - x) (by omega) (by omega)
    have h2 := he x h.1 h.2
    exact h1.trans h2.symm
  · rw [if_neg h]
structure Dsc (N : Nat) (key : Nat → Nat) (p : Array Nat) (n q : Nat) : Prop where
  m : Pm N p
  l : q + 1 ≤ n
  u : n ≤ N
  d : Non key p n
  e : ∀ i, n - (q + 1) ≤ i → i < n → K key p i = K key p (n - 1)
theorem desc_ok {Q : Array Nat × Nat × Nat → Prop} : ∀ f p n q, Dsc N key p n q → n + f ≤ N → (∀ p' n' q', Dsc N key p' n' q' → n ≤ n' → Q (p', n', q')) → KRun N key (kas_desc f p n q) Q
  | 0, p, n, q, h, _, k => k p n q h (Nat.le_refl _)
  | f + 1, p, n, q, h, hf, k => by
    have hz : n ≤ p.size := by rw [h.m.n]; exact h.u
    have hl := h.l
    refine ⟨h.m.lt _, h.m.lt _, ?_⟩
    by_cases hc : K key p n < K key p (n - 1)
    · rw [decide_eq_true hc]
      refine yes ?_
      by_cases hq : q > 0
      · rw [if_pos hq]
        have es := rev_same (key := key) (p := p) (i := n - (q + 1)) (j := n) hz h.e
        refine desc_ok f _ (n + 1) 0 ⟨h.m.rev _ _, by omega, by omega, fun i j hij hj => ?_, fun i h1 h2 => ?_⟩ (by omega) fun p' n' q' h' hn => k p' n' q' h' (by omega)
        · rw [es, es]
          rcases Nat.lt_or_ge j n with z | z
          · exact h.d i j hij z
          · have e : j = n := by omega
            subst e
            rcases Nat.lt_or_ge i j with y | y
            · have := h.d i (j - 1) (by omega) (by omega)
              omega
            · have e : i = j := by omega
              rw [e]; exact Nat.le_refl _
        · have e : i = n + 1 - 1 := by omega
          rw [e]
      · rw [if_neg hq]
        refine desc_ok f p (n + 1) 0 ⟨h.m, by omega, by omega, fun i j hij hj => ?_, fun i h1 h2 => ?_⟩ (by omega) fun p' n' q' h' hn => k p' n' q' h' (by omega)
        · rcases Nat.lt_or_ge j n with z | z
          · exact h.d i j hij z
          · have e : j = n := by omega
            subst e
            rcases Nat.lt_or_ge i j with y | y
            · have := h.d i (j - 1) (by omega) (by omega)
              omega
            · have e : i = j := by omega
              rw [e]; exact Nat.le_refl _
        · have e : i = n + 1 - 1 := by omega
          rw [e]
    · rw [decide_eq_false hc]
      refine nope ?_
      refine ⟨h.m.lt _, h.m.lt _, ?_⟩
      by_cases hd : K key p (n - 1) < K key p n
      · rw [decide_eq_true hd]
        refine yes ?_
        exact k p n q h (Nat.le_refl _)
      · rw [decide_eq_false hd]
        refine nope ?_
        refine desc_ok f p (n + 1) (q + 1) ⟨h.m, by omega, by omega, fun i j hij hj => ?_, fun i h1 h2 => ?_⟩ (by omega) fun p' n' q' h' hn => k p' n' q' h' (by omega)
        · rcases Nat.lt_or_ge j n with z | z
          · exact h.d i j hij z
          · have e : j = n := by omega
            subst e
            rcases Nat.lt_or_ge i j with y | y
            · have := h.d i (j - 1) (by omega) (by omega)
              omega
            · have e : i = j := by omega
              rw [e]; exact Nat.le_refl _
        · show K key p i = K key p n
          rcases Nat.lt_or_ge i n with z | z
          · have := h.e i (by omega) z
            omega
          · have e : i = n := by omega
            rw [e]
structure Cnt (N : Nat) (key : Nat → Nat) (r : Nat × Array Nat) : Prop where
  m : Pm N r.2
  a : 1 ≤ r.1
  u : r.1 ≤ N
  s : Srt key r.2 r.1
theorem tail3_ok {p : Array Nat} {n : Nat} {Q : Nat × Array Nat → Prop} (hp : Pm N p) (h1 : 1 ≤ n) (hn : n ≤ N) (hd : Non key p n) (k : ∀ r, Cnt N key r → Q r) : KRun N key (kas_tail3 n N p) Q := by
  have hz : n ≤ p.size := by rw [hp.n]; exact hn
  refine KRun.bind _ (asc_ok (hp.rev 0 n) _ _ h1 (fun i j hij hj => ?_) fun m m1 m2 ms _ => k _ ⟨hp.rev 0 n, by show 1 ≤ m; omega, by show m ≤ N; omega, ms⟩)
  unfold K
  rw [g_rev hz, g_rev hz, if_pos ⟨Nat.zero_le _, by omega⟩, if_pos ⟨Nat.zero_le _, hj⟩]
  exact hd _ _ (by omega) (by omega)
theorem descPart_ok {p : Array Nat} {n : Nat} {Q : Nat × Array Nat → Prop} (hp : Pm N p) (h1 : 1 ≤ n) (hn : n + 1 ≤ N) (he : ∀ i, i < n → K key p i = K key p (n - 1)) (hl : K key p n < K key p (n - 1)) (k : ∀ r, Cnt N key r → Q r) : KRun N key (kas_descPart n N p) Q := by
  refine KRun.bind _ (desc_ok _ p (n + 1) 0 ⟨hp, by omega, hn, fun i j hij hj => ?_, fun i h2 h3 => ?_⟩ (by omega) fun p' n' q' D hn' => ?_)
  · rcases Nat.lt_or_ge j n with z | z
    · have := he i (by omega)
      have := he j z
      omega
    · have e : j = n := by omega
      subst e
      rcases Nat.lt_or_ge i j with y | y
      · have := he i y
        omega
      · have e : i = j := by omega
        rw [e]; exact Nat.le_refl _
  · have e : i = n + 1 - 1 := by omega
    rw [e]
  · have dl := D.l
    show KRun N key (if q' > 0 then kas_tail3 n' N (kas_rev p' (n' - (q' + 1)) n') else kas_tail3 n' N p') Q
    by_cases hq : q' > 0
    · rw [if_pos hq]
      have es := rev_same (key := key) (p := p') (i := n' - (q' + 1)) (j := n') (by rw [D.m.n]; exact D.u) D.e
      exact tail3_ok (D.m.rev _ _) (by omega) D.u (fun i j hij hj => by rw [es, es]; exact D.d i j hij hj) k
    · rw [if_neg hq]
      exact tail3_ok D.m (by omega) D.u D.d k
theorem count_ok {p : Array Nat} {Q : Nat × Array Nat → Prop} (hp : Pm N p) (k : ∀ r, Cnt N key r → Q r) : KRun N key (kas_count N p) Q := by
  have hN := hp.z
  refine KRun.bind _ (asc_ok hp _ 1 (Nat.le_refl _) (fun i j hij hj => ?_) fun m m1 m2 ms ml => ?_)
  · have e : i = j := by omega
    rw [e]; exact Nat.le_refl _
  by_cases he : m = N
  · subst he
    rw [if_pos (by simp)]
    exact k _ ⟨hp, m1, Nat.le_refl _, ms⟩
  · rw [if_neg (by simpa using he)]
    have hl := ml (by omega)
    by_cases h1 : m > 1
    · rw [if_pos h1]
      refine ⟨hp.lt _, hp.lt _, ?_⟩
      by_cases hc : K key p 0 < K key p (m - 1)
      · rw [decide_eq_true hc]
        refine yes ?_
        exact k _ ⟨hp, m1, by show m ≤ N; omega, ms⟩
      · rw [decide_eq_false hc]
        refine nope ?_
        have eq : ∀ i, 0 ≤ i → i < m → K key p i = K key p (m - 1) := fun i _ hi => by
          have a := ms 0 i (Nat.zero_le _) hi
          have b := ms i (m - 1) (by omega) (by omega)
          omega
        have es := rev_same (key := key) (p := p) (i := 0) (j := m) (by rw [hp.n]; omega) eq
        exact descPart_ok (hp.rev 0 m) m1 (by omega) (fun i hi => by rw [es, es]; exact eq i (Nat.zero_le _) hi) (by rw [es, es]; exact hl) k
    · rw [if_neg h1]
      have e : m = 1 := by omega
      subst e
      exact descPart_ok hp (by omega) (by omega) (fun i hi => by have : i = 0 := by omega
                                                                 rw [this]) hl k
theorem place_ok {p : Array Nat} {k : Nat} (hp : Pm N p) (hs : Srt key p k) {Q : Nat → Prop} : ∀ f l r, l ≤ r → r ≤ k → r - l ≤ f → (∀ i, i < l → K key p i ≤ K key p k) → (∀ i, r ≤ i → i < k → K key p k < K key p i) →
    (∀ l', l' ≤ k → (∀ i, i < l' → K key p i ≤ K key p k) → (∀ i, l' ≤ i → i < k → K key p k < K key p i) → Q l') → KRun N key (kas_place p k f l r) Q
  | 0, l, r, h1, h2, h3, ha, hb, q => q l (by omega) ha fun i hi hk => hb i (by omega) hk
  | f + 1, l, r, h1, h2, h3, ha, hb, q => by
    show KRun N key (if l ≥ r then .ret l else .ask (p.getD k 0) (p.getD ((l + r) / 2) 0) fun c => if c = true then kas_place p k f l ((l + r) / 2) else kas_place p k f ((l + r) / 2 + 1) r) Q
    by_cases hlr : l ≥ r
    · rw [if_pos hlr]
      exact q l (by omega) ha fun i hi hk => hb i (by omega) hk
    · rw [if_neg hlr]
      refine ⟨hp.lt _, hp.lt _, ?_⟩
      by_cases hc : K key p k < K key p ((l + r) / 2)
      · rw [decide_eq_true hc]
        refine yes ?_
        refine place_ok hp hs f l ((l + r) / 2) (by omega) (by omega) (by omega) ha (fun i hi hk => ?_) q
        have := hs ((l + r) / 2) i hi hk
        omega
      · rw [decide_eq_false hc]
        refine nope ?_
        refine place_ok hp hs f ((l + r) / 2 + 1) r (by omega) h2 (by omega) (fun i hi => ?_) hb q
        have := hs i ((l + r) / 2) (by omega) (by omega)
        omega
theorem bin_ok {Q : Array Nat → Prop} : ∀ f p k, Pm N p → Srt key p k → k + f = N → (∀ p', Pm N p' → Srt key p' N → Q p') → KRun N key (kas_bin f p k) Q
  | 0, p, k, hp, hs, hk, q => q p hp (by have : k = N := by omega
                                         rw [← this]; exact hs)
  | f + 1, p, k, hp, hs, hk, q => by
    refine KRun.bind _ (place_ok hp hs k 0 k (Nat.zero_le _) (Nat.le_refl _) (by omega) (fun i hi => absurd hi (by omega)) (fun i h1 h2 => absurd h1 (by omega)) fun l hl ha hb => ?_)
    refine bin_ok f _ (k + 1) (hp.bub _ _) ?_ (by omega) q
    have hks : k < p.size := by rw [hp.n]; omega
    have gb : ∀ x, K key (bubble p k (k - l)) x = if x = l then K key p k else if l < x ∧ x ≤ k then K key p (x - 1) else K key p x := fun x => by
      have e := getElem?_bubble hks (k - l) (by omega) x
      have el : k - (k - l) = l := by omega
      rw [el] at e
      unfold K
      by_cases h1 : x = l
      · rw [if_pos h1] at e ⊢; exact congrArg key (g_of e)
      · rw [if_neg h1] at e ⊢
        by_cases h2 : l < x ∧ x ≤ k
        · rw [if_pos h2] at e ⊢; exact congrArg key (g_of e)
        · rw [if_neg h2] at e ⊢; exact congrArg key (g_of e)
    intro i j hij hj
    rw [gb, gb]
    by_cases i1 : i = l
    · rw [if_pos i1]
      by_cases j1 : j = l
      · rw [if_pos j1]; exact Nat.le_refl _
      · rw [if_neg j1, if_pos ⟨by omega, by omega⟩]
        have := hb (j - 1) (by omega) (by omega)
        omega
    · rw [if_neg i1]
      by_cases i2 : l < i ∧ i ≤ k
      · rw [if_pos i2, if_neg (by omega), if_pos ⟨by omega, by omega⟩]
        exact hs _ _ (by omega) (by omega)
      · rw [if_neg i2]
        by_cases j1 : j = l
        · rw [if_pos j1]; exact ha i (by omega)
        · rw [if_neg j1]
          by_cases j2 : l < j ∧ j ≤ k
          · rw [if_pos j2]; exact hs _ _ (by omega) (by omega)
          · rw [if_neg j2]; exact hs _ _ hij (by omega)
theorem sort_ok {n : Nat} (h0 : 0 < n) {Q : Array Nat → Prop} (q : ∀ p, Pm n p → Srt key p n → Q p) : KRun n key (kas_sort n) Q := by
  have hp : Pm n (List.toArray (List.range n)) := ⟨by simp, by simp, h0⟩
  refine KRun.bind _ (count_ok hp fun r C => ?_)
  have ca := C.a
  have cu := C.u
  by_cases hr : r.1 < n
  · rw [if_pos hr]
    have e : max r.1 1 = r.1 := by omega
    rw [e]
    exact bin_ok _ _ _ C.m C.s (by omega) q
  · rw [if_neg hr]
    have e : r.1 = n := by omega
    have cs := C.s
    rw [e] at cs
    exact q _ C.m cs
end
end ST
set_option Elab.async false
set_option linter.all false
set_option maxRecDepth 100000
set_option maxHeartbeats 4000000
namespace Gn
open PySem L2 PyProof.Rows PySem.Spec
section
variable {P : Program} {w : World} {K : PySem.W.Frag} {mg : Str → Option Value} {base h : Heap}
noncomputable def isStrV : V → Bool
  | .str _ => true
  | _ => false
noncomputable def isIntV : V → Bool
  | .int _ => true
  | .bl _ => true
  | _ => false
noncomputable def isBlV : V → Bool
  | .bl _ => true
  | _ => false
noncomputable def Known (K : PySem.W.Frag) (H : Hp) (x : V) : Prop := ∃ n, TyOf K H x (.type n)
theorem kit_str {K : PySem.W.Frag} {H : Hp} {x : V} {n : String} (h : TyOf K H x (.type n)) : PySem.W.kitOne K (.type n) (.type "str") = some (isStrV x) := by
  cases h <;> kernel_rfl
theorem kit_int {K : PySem.W.Frag} {H : Hp} {x : V} {n : String} (h : TyOf K H x (.type n)) : PySem.W.kitOne K (.type n) (.type "int") = some (isIntV x) := by
  cases h <;> kernel_rfl
theorem kit_bool {K : PySem.W.Frag} {H : Hp} {x : V} {n : String} (h : TyOf K H x (.type n)) : PySem.W.kitOne K (.type n) (.type "bool") = some (isBlV x) := by
  cases h <;> kernel_rfl
theorem Known.same {K : PySem.W.Frag} {H H' : Hp} {x : V} (h : Known K H x) (e : Same H H') : Known K H' x := by
  obtain ⟨n, h⟩ := h
  cases h with
  | non => exact ⟨_, .non⟩
  | bl b => exact ⟨_, .bl b⟩
  | int i => exact ⟨_, .int i⟩
  | str z => exact ⟨_, .str z⟩
  | flt z => exact ⟨_, .flt z⟩
  | lst q => exact ⟨_, .lst (e _ _ q)⟩
  | frz q => exact ⟨_, .frz (e _ _ q)⟩
  | tup q => exact ⟨_, .tup (e _ _ q)⟩
  | dK q => exact ⟨_, .dK (e _ _ q)⟩
  | dT q => exact ⟨_, .dT (e _ _ q)⟩
theorem same_upd {H : Hp} {a : Addr} {o : HO} (h : H a = none) : Same H (upd H a o) := fun b u e => by rw [upd_ne (ne_of_none e h)]; exact e
theorem Same.upd {H H' : Hp} {a : Addr} {o : HO} (s : Same H H') (h : H' a = none) : Same H (upd H' a o) := s.trans (same_upd h)
structure Df (K : PySem.W.Frag) (mg : Str → Option Value) (x : Str) (st : Stmt) (f : Addr) (fd : FuncData) : Prop where
  F : Fun K x x st f fd
  m : mg x = some (.ref f)
theorem b_isi : bootBuiltins "isinstance" = some (.builtin "isinstance") := by decide +kernel
theorem b_int : bootBuiltins "int" = some (.type "int") := by decide +kernel
theorem b_bool : bootBuiltins "bool" = some (.type "bool") := by decide +kernel
theorem b_str : bootBuiltins "str" = some (.type "str") := by decide +kernel
theorem b_list : bootBuiltins "list" = some (.type "list") := by decide +kernel
theorem b_tuple : bootBuiltins "tuple" = some (.type "tuple") := by decide +kernel
theorem b_len : bootBuiltins "len" = some (.builtin "len") := by decide +kernel
theorem b_all : bootBuiltins "all" = some (.builtin "all") := by decide +kernel
theorem b_val : bootBuiltins "ValueError" = some (.type "ValueError") := by decide +kernel
theorem binds1 {x p : Str} {st : Stmt} {f : Addr} {fd : FuncData} (F : Fun K x x st f fd)
    (h : ∀ (kV doc pm : Value) (an : Option Addr) (cdv ct : Value) (u : Value), bindArgs (PySem.W.fnOf x x (defArgs st) (defBody st) (defScope st) .none kV doc pm an cdv ct) ⟨[u], []⟩ = pure ([p].zip [u])) : Binds K fd [p] [] :=
  F.binds fun kV doc pm an cdv ct us hl => match us, hl with | [u], _ => h kV doc pm an cdv ct u
theorem g1 {i : Nat} {v : V} {σ : L2.St} {H : Hp} {te : TE} {M : V → Hp → Prop} {N0 : Hp → Prop} (h : te (σ.set i (some v)) H M) : gName i v σ H fun σ2 H2 => tNoIf σ2 H2 fun b H3 => if b = true then te σ2 H3 M else N0 H3 := by
  show if true = true then te (σ.set i (some v)) H M else N0 H
  exact iteT h
structure Ex (K : PySem.W.Frag) (mg : Str → Option Value) (x : Str) (C : Addr) : Prop where
  m : mg x = some (.ref C)
  q : PySem.W.excIn K C [.type "ValueError", .type "Exception", .type "BaseException", .type "object"] "ValueError.__new__" = true
structure DfD (K : PySem.W.Frag) (mg : Str → Option Value) (x : Str) (st : Stmt) (f : Addr) (fd : FuncData) (items : Array Value) : Prop where
  ex : ∃ (oc : Value) (od : Option Addr) (kV doc pm : Value) (an : Option Addr) (cdv ct : Value) (osl : Array (Option Value)) (T : Addr) (o : Obj) (n : Nat),
    fd = PySem.W.fnOf x x (defArgs st) (defBody st) (defScope st) (.ref T) kV doc pm an cdv ct ∧ K.lookup f = some ⟨oc, od, .func fd, osl⟩ ∧ PySem.W.codeIn K cdv x = true ∧ K.lookup T = some o ∧ o.data = .seq items n
  kp : PySem.W.keepIn K (.ref f) = true
  m : mg x = some (.ref f)
theorem DfD.ok1 {x : Str} {st : Stmt} {f : Addr} {fd : FuncData} {items : Array Value} {N ps : List Str} {k : Nat} {sp : Sp} (F : DfD K mg x st f fd items) (S : FnScope N ps (defScope st)) (len : ∀ vs H Q E, sp vs H Q E → vs.length = ps.length)
    (hbody : ∀ (cdv : Value) (A : Around) (outer : List Env) (s : Shared) (H : Hp) (vs : List V) (Q : VK) (E : XK), Room k (A.deeper (envOfC x (defScope st) s.heap.objs.size f cdv)) → sp vs H Q E →
      ∃ t, PSs (cxOf (CX1 P w) P w K mg base N x (defScope st) f cdv A outer s H E) (defBody st) t ∧ t { nx := fun _ H' => Q .non H', rt := Q } (L2.start N vs) H) : FnOk P w K mg base (CX1 P w) (k + 1) f fd ps sp := by
  obtain ⟨oc, od, kV, doc, pm, an, cdv, ct, osl, T, o, n, rfl, lk, hcd, _⟩ := F.ex
  exact fn_of lk hcd S len fun A outer s H vs Q E hr hsp => hbody cdv A outer s H vs Q E hr hsp
theorem DfD.binds {x : Str} {st : Stmt} {f : Addr} {fd : FuncData} {items : Array Value} {ps : List Str} {ds : List Value} (F : DfD K mg x st f fd items)
    (h : ∀ (T : Addr) (kV doc pm : Value) (an : Option Addr) (cdv ct : Value) (us : List Value), (us ++ ds).length = ps.length → ∃ k : Option (Array Value) → Sem (List (Str × Value)),
      bindArgs (PySem.W.fnOf x x (defArgs st) (defBody st) (defScope st) (.ref T) kV doc pm an cdv ct) ⟨us, []⟩ = seqItems? (.ref T) >>= k ∧ k (some items) = pure (ps.zip (us ++ ds))) : Binds K fd ps ds := by
  obtain ⟨oc, od, kV, doc, pm, an, cdv, ct, osl, T, o, n, rfl, lk, hcd, lT, hd⟩ := F.ex
  intro s us X hl
  obtain ⟨k, h1, h2⟩ := h T kV doc pm an cdv ct us hl
  exact BindsTo.of_defaults (T := T) rfl (X _ _ lT) hd h1 h2
noncomputable def goodN (x : V) (least : Int) (most : Option Int) : Bool := match x with
  | .int i => decide (least ≤ i) && (match most with | none => true | some m => decide (i ≤ m))
  | _ => false
noncomputable def mostV : Option Int → V
  | none => .non
  | some m => .int m
noncomputable def spNNum (K : PySem.W.Frag) (C : Addr) : Sp := fun vs H Q E => ∃ (x : V) (l : Int) (m : Option Int), vs = [x, .int l, mostV m] ∧ Known K H x ∧ (goodN x l m = true → Q x H) ∧ (goodN x l m = false → E (.ref C) none H)
theorem dt_ints {K : PySem.W.Frag} {H : Hp} : ∀ (ns : List Int), DtVs K H (ns.map V.int) (ns.map PyData.int)
  | [] => .nil
  | n :: ns => .cons (.int n) (dt_ints ns)
theorem lay_ints : ∀ (ns : List Int), (PyData.list (ns.map PyData.int)).canLay0 = true := by
  intro ns
  induction ns with
  | nil => rfl
  | cons n ns ih => exact ih
theorem Paired.imp2 {α β : Type} {F G : α → β → Prop} : ∀ {l : List α} {m : List β}, Paired F l m → (∀ a b, F a b → G a b) → Paired G l m
  | _, _, .nil, _ => .nil
  | _, _, .cons r t, f => .cons (f _ _ r) (Paired.imp2 t f)
theorem Paired.app {α β : Type} {F : α → β → Prop} {a : α} {b : β} : ∀ {l : List α} {m : List β}, Paired F l m → F a b → Paired F (l ++ [a]) (m ++ [b])
  | _, _, .nil, h => .cons h .nil
  | _, _, .cons r t, h => .cons r (Paired.app t h)
theorem Paired.len {α β : Type} {F : α → β → Prop} : ∀ {l : List α} {m : List β}, Paired F l m → l.length = m.length
  | _, _, .nil => rfl
  | _, _, .cons _ t => by simp [Paired.len t]
theorem same_app {H0 H : Hp} {a t : Addr} {o o' : HO} (s : Same H0 H) (ha : H0 a = none) (ht : H t = none) : Same H0 (upd (upd H t o) a o') := fun b u e => by
  rw [upd_ne (ne_of_none e ha), upd_ne (ne_of_none (s b u e) ht)]
  exact s b u e
theorem PS.nox {X : Cx} {st : Stmt} {t : TS} (h : PS X.nox st t) : PS X st t := fun pins s σ H D I hw =>
  wpAny_mono (h pins s σ H D (I.wish _) hw) (fun _ _ q => q.unwish) fun _ _ z => False.elim z
theorem paired_get {α β : Type} {F : α → β → Prop} : ∀ {l : List α} {m : List β}, Paired F l m → ∀ {i : Nat} {a : α}, l[i]? = some a → ∃ b, m[i]? = some b ∧ F a b
  | _, _, .nil, i, a, h => by simp at h
  | _, _, .cons r t, 0, a, h => by simp at h; subst h; exact ⟨_, rfl, r⟩
  | _, _, .cons r t, i + 1, a, h => by
    obtain ⟨b, h1, h2⟩ := paired_get t (i := i) (a := a) (by simpa using h)
    exact ⟨b, by simpa using h1, h2⟩
theorem mod_ix {r n : Int} (hn : 0 < n) : ∃ j : Nat, (j : Int) = r % n ∧ (j : Int) < n := by
  have h1 := Int.emod_nonneg r (show n ≠ 0 by omega)
  have h2 := Int.emod_lt_of_pos r hn
  exact ⟨(r % n).toNat, by omega, by omega⟩
noncomputable def tIfJ (c : TT) (t u : TS) : TS := fun D σ H => ∃ J : L2.St → Hp → Prop, (c σ H fun b H1 => if b = true then t { D with nx := J } σ H1 else u { D with nx := J } σ H1) ∧ ∀ σ' H', J σ' H' → D.nx σ' H'
theorem ps_ifJ {X : Cx} {c : Expr} {a b : List Stmt} {tc : TT} {t u : TS} {pos : Pos} (hc : PT X c tc) (ha : PSs X a t) (hb : PSs X b u) : PS X (.If c a b pos) (tIfJ tc t u) := by
  intro pins s σ H D I h
  obtain ⟨J, h1, h2⟩ := h
  refine thn (ps_if hc ha hb pins s σ H { D with nx := J } I h1) fun f s1 q => ?_
  cases f with
  | next => obtain ⟨σ', H', I', q⟩ := q; exact ⟨σ', H', I', h2 _ _ q⟩
  | brk => exact q
  | cont => exact q
  | ret u => exact q
theorem pickV {xs : List V} {n L : Int} (h0 : 0 < xs.length) (hL : L = (xs.length : Nat)) : ∃ v ∈ xs, atI xs (n % L) = some v := by
  obtain ⟨j, hj, hjl⟩ := mod_ix (r := n) (n := L) (by omega)
  have hj' : j < xs.length := by omega
  refine ⟨xs[j], List.getElem_mem hj', ?_⟩
  rw [← hj]
  exact atI_nat (List.getElem?_eq_getElem hj')
theorem ixPick {K : PySem.W.Frag} {H : Hp} {p : Addr} {xs : List V} {n L : Int} {Q : VK} (hp : H p = some (.lst xs)) (h0 : 0 < xs.length) (hL : L = (xs.length : Nat)) (h : ∀ v ∈ xs, Q v H) : rIxL K (.ref p) (.int (n % L)) H Q := by
  obtain ⟨v, hv, e⟩ := pickV (n := n) h0 hL
  exact ⟨p, xs, _, v, rfl, rfl, SqL.of hp, e, h v hv⟩
theorem dec_i {a b : Int} (h : a = b) : decide (V.int a = V.int b) = true := by subst h; exact decide_eq_true rfl
theorem dec_n {a b : Int} (h : a ≠ b) : decide (V.int a = V.int b) = false := decide_eq_false fun z => h (by injection z)
theorem ixPickP {K : PySem.W.Frag} {H : Hp} {p : Addr} {xs : List V} {n L : Int} {Q : VK} (R : V → Hp → Prop) (hp : H p = some (.lst xs)) (h0 : 0 < xs.length) (hL : L = (xs.length : Nat)) (hR : ∀ v ∈ xs, R v H) (h : ∀ v, R v H → Q v H) : rIxL K (.ref p) (.int (n % L)) H Q :=
  ixPick hp h0 hL fun v hv => h v (hR v hv)
theorem eqv_same {d : PyData} (h : d.canLay0 = true) : PyData.eqv d d = true := SeqAt.eqv_refl d h
noncomputable def rIsi (K : PySem.W.Frag) : List V → Hp → VK → Prop := fun xs H Q => ∃ x c t b, xs = [x, c] ∧ TyOf K H x t ∧
    ((∃ n, c = .ty n ∧ PySem.W.kitOne K t (.type n) = some b) ∨ (∃ C, c = .ref C ∧ PySem.W.kitOne K t (.ref C) = some b)) ∧ Q (.bl b) H
theorem call_isiK {X : Cx} {K : PySem.W.Frag} (h : X.K = K) : CallR X (.builtin "isinstance") (rIsi K) := by subst h; exact call_isi
theorem ix_listK {X : Cx} {K : PySem.W.Frag} (h : X.K = K) : IxR X (rIxL K) := by subst h; exact ix_list
theorem ix_tupK {X : Cx} {K : PySem.W.Frag} (h : X.K = K) : IxR X (rIxT K) := by subst h; exact ix_tup
theorem kit_tt {K : PySem.W.Frag} : PySem.W.kitOne K (.type "tuple") (.type "tuple") = some true := by kernel_rfl
theorem kit_ll {K : PySem.W.Frag} : PySem.W.kitOne K (.type "list") (.type "list") = some true := by kernel_rfl
theorem passN {P : Program} {w : World} {X : Cx} : Passes (CX1 P w) X E0 := fun _ _ _ _ _ _ _ h => (CX1.no h).elim
theorem df_mk {x : Str} {st : Stmt} {f : Addr} {oc kV doc pm cd ct : Value} {od an : Option Addr} {sl : Array (Option Value)} (X : K.In h) (G : h.Ns mainGlobals mg) (a : PySem.W.nsIn K mainGlobals x = some (some (.ref f)))
    (l : K.lookup f = some ⟨oc, od, .func (PySem.W.fnOf x x (defArgs st) (defBody st) (defScope st) .none kV doc pm an cd ct), sl⟩) (c : PySem.W.codeIn K cd x = true) (k : PySem.W.keepIn K (.ref f) = true) : ∃ f fd, Df K mg x st f fd :=
  ⟨f, _, fun_mk l c k, PySem.W.mg_of X G a⟩
theorem dfd_mk {x : Str} {st : Stmt} {f T : Addr} {oc kV doc pm cd ct tc : Value} {od an td : Option Addr} {sl tsl : Array (Option Value)} {items : Array Value} {tn : Nat} (X : K.In h) (G : h.Ns mainGlobals mg) (a : PySem.W.nsIn K mainGlobals x = some (some (.ref f)))
    (l : K.lookup f = some ⟨oc, od, .func (PySem.W.fnOf x x (defArgs st) (defBody st) (defScope st) (.ref T) kV doc pm an cd ct), sl⟩) (c : PySem.W.codeIn K cd x = true) (k : PySem.W.keepIn K (.ref f) = true)
    (t : K.lookup T = some ⟨tc, td, .seq items tn, tsl⟩) : ∃ f fd, DfD K mg x st f fd items :=
  ⟨f, _, ⟨oc, od, kV, doc, pm, an, cd, ct, sl, T, _, tn, rfl, l, c, t, rfl⟩, k, PySem.W.mg_of X G a⟩
end
end Gn
set_option Elab.async false
set_option linter.all false
set_option maxRecDepth 100000
set_option maxHeartbeats 4000000
namespace Gn
open PySem PySem.W PySem.Calls PyProof.Rows
end Gn
namespace Gn
open PySem L2 PyProof.Rows PySem.Spec
end Gn
set_option Elab.async false
set_option linter.all false
set_option maxRecDepth 100000
set_option maxHeartbeats 4000000
namespace L2
open PySem PySem.Spec PyProof.Rows PySem.W
section
variable {prog : Program} {w : World} {A : Around} {E : Value → Shared → Prop} {s : Shared}
noncomputable def Kept (s s' : Shared) (a : Addr) : Prop := ∀ b o, b ≠ a → s.heap.get? b = some o → s'.heap.get? b = some o
theorem lsortT {a : Addr} {vs : List Value} {n : Nat} {R : PySem.Fin → Shared → Prop} {key : Nat → Nat} (ho : s.heap.get? a = some (seqObj "list" vs.toArray n)) (h64 : vs.length < 64)
    (hq : ∀ s' : Shared, Kept s s' a → (∀ (Q : SortKind → Shared → Prop), 0 < vs.length → Q (tuples' true) s' → wpAny (model prog w) A (keyKind' vs.toArray) Q (fun _ _ => False) s') ∧
      ∀ i j (C : Bool → Shared → Prop), i < vs.length → j < vs.length → C (decide (key i < key j)) s' → kas_ask prog w A (tuples' true) vs i j C s')
    (hR : ∀ p : Array Nat, p.toList.Perm (List.range vs.length) → ST.Srt key p vs.length → R (.done (.ret .none)) { s with heap := sortedHeap s.heap a vs (p.toList.map fun i => vs.getD i Value.none).toArray }) :
    wpAny (model prog w) A (Builtin.«list.sort» ⟨[.ref a], []⟩) R E s := by
  have line : (sizeLine : Nat) = 16777216 := sizeLine_eq
  have alt := Heap.lt_size ho
  obtain ⟨ep, o1⟩ : ∃ ep, (s.heap.update a (Obj.mapSeq fun _ => (#[] : Array Value))).get? a = some (seqObj "list" #[] ep) := ⟨_, get?_update_seq ho fun _ => #[]⟩
  have o2 : (((s.heap.update a (Obj.mapSeq fun _ => (#[] : Array Value))).push (seqObj "tuple" vs.toArray 0)).push (seqObj "list" #[] 0)).get? a = some (seqObj "list" #[] ep) := Heap.get?_push_of_some _ (Heap.get?_push_of_some _ o1)
  have kp : Kept s { s with heap := ((s.heap.update a (Obj.mapSeq fun _ => (#[] : Array Value))).push (seqObj "tuple" vs.toArray 0)).push (seqObj "list" #[] 0) } a := fun b o hb e =>
    Heap.get?_push_of_some _ (Heap.get?_push_of_some _ (by rw [Heap.get?_update_ne _ _ _ _ hb]; exact e))
  rw [list_sort_plain]
  refine wpAny_bind (listItems_at ho rfl (wpAny_bind (listUpdate_at ho rfl ?_ (by rw [List.size_toArray]; omega) (Nat.zero_le _))))
  refine wpAny_bind (seqEpoch_at o1 rfl (wpAny_bind (wpAny_newTuple ?_ (by show vs.length ≤ _; omega))))
  refine wpAny_bind (wpAny_newList (wpAny_holding ?_) (Nat.zero_le _))
  generalize hs' : ({ s with heap := ((s.heap.update a (Obj.mapSeq fun _ => (#[] : Array Value))).push (seqObj "tuple" vs.toArray 0)).push (seqObj "list" #[] 0) } : Shared) = s' at kp
  have fin : ∀ (st : SortSt) (p : Array Nat), p.toList.Perm (List.range vs.length) → ST.Srt key p vs.length → (arrOf st).map (·.2) = (p.toList.map fun i => vs.getD i Value.none).toArray → failedOf st = none →
      wpAny (model prog w) A (do
        let touched := (← seqEpoch a) != ep
        Builtin.List.listUpdate (.ref a) fun _ => (arrOf st).map (·.2)
        if let some e := failedOf st then rule "list.sort.comparison-raised"; throw e
        if touched then rule "list.sort.modified"; raiseError "ValueError" "list modified during sort"
        ret .none) R E s' := fun st p h1 h2 h3 h4 => by
    subst hs'
    refine wpAny_bind (seqEpoch_at o2 rfl (wpAny_bind (listUpdate_at o2 rfl ?_ (Nat.zero_le _) ?_)))
    · rw [h4, h3]
      simp only [bne_self_eq_false, Bool.false_eq_true, if_false]
      exact wpAny_pure (hR p h1 h2)
    · have hl := h1.length_eq
      rw [List.length_range] at hl
      rw [h3, List.size_toArray, List.length_map]
      omega
  obtain ⟨hK, hC⟩ := hq s' kp
  by_cases h2 : vs.toArray.size < 2
  · dsimp only
    rw [if_pos h2, if_pos h2]
    refine wpAny_bind (wpAny_pure ?_)
    rw [StateT.run_pure]
    refine wpAny_bind (wpAny_pure ?_)
    rw [List.size_toArray] at h2
    have e1 : (arrOf (SortSt.mk' general' (vs.toArray.zip vs.toArray) #[] 7 none)).map (·.2) = ((List.range vs.length).toArray.toList.map fun i => vs.getD i Value.none).toArray := by
      show (vs.toArray.zip vs.toArray).map (·.2) = _
      match vs, h2 with
      | [], _ => simp
      | [v], _ => simp [List.range_succ]
    have srt : ST.Srt key (List.range vs.length).toArray vs.length := by
      intro i j hij hj
      have e : i = j := by omega
      rw [e]
      exact Nat.le_refl _
    exact fin _ (List.range vs.length).toArray (List.Perm.refl _) srt e1 rfl
  · dsimp only
    rw [if_neg h2, if_neg h2]
    rw [List.size_toArray] at h2
    refine wpAny_bind (wpAny_mono (hK (fun κ s'' => κ = tuples' true ∧ s'' = s') (by omega) ⟨rfl, rfl⟩) ?_ fun _ _ x => x.elim)
    rintro κ s'' ⟨rfl, rfl⟩
    refine wpAny_bind (wpAny_mono (kat_run (Q := fun st' s3 => ∃ p : Array Nat, arrOf st' = p.map (kas_item (vs.toArray.zip vs.toArray)) ∧ failedOf st' = none ∧ (s3 = s'' ∧ p.toList.Perm (List.range vs.length) ∧ ST.Srt key p vs.length)) rfl (by omega) h64
      (fun p' st' s3 _ b2 b3 b4 => ⟨p', b2, b3, b4⟩) (ST.KRun.wp (N := vs.length) (key := key) (fun i j C hi hj hc => hC i j C hi hj hc) (fun p hp => ⟨rfl, hp⟩) _ (ST.sort_ok (by omega) fun p hp hs => ⟨hp.p, hs⟩))) ?_ fun _ _ e => e)
    rintro ⟨⟨⟩, st'⟩ s3 ⟨p, b2, b3, rfl, b4, b5⟩
    exact fin st' p b4 b5 (kat_snds rfl b2) b3
noncomputable def rank (r : Nat × Nat) : Nat := r.1 * 1000 + r.2
theorem lexT {x y : Addr} {ox oy : Obj} {n k : Nat} {r q : Nat × Nat} {t1 t2 t3 t4 : Tok} {Q : Bool → Shared → Prop} (hx : s.heap.get? x = some ox) (dx : ox.data = .seq #[.int r.1 t1, .int r.2 t2] n) (hy : s.heap.get? y = some oy) (dy : oy.data = .seq #[.int q.1 t3, .int q.2 t4] k)
    (hr : r.2 < 1000) (hq : q.2 < 1000) (h : Q (decide (rank r < rank q)) s) : wpAny (model prog w) A (keyLt' (tuples' true) (.ref x) (.ref y)) Q E s := by
  unfold rank at h
  refine kat_lt hx dx hy dy (kat_cons (wpAny_eqBool_int ?_))
  by_cases e : r.1 = q.1
  · have e1 : (((r.1 : Nat) : Int) == ((q.1 : Nat) : Int)) = true := by rw [e]; exact beq_self_eq_true _
    rw [e1]
    refine kat_yes (kat_cons (wpAny_eqBool_int ?_))
    by_cases f : r.2 = q.2
    · have f1 : (((r.2 : Nat) : Int) == ((q.2 : Nat) : Int)) = true := by rw [f]; exact beq_self_eq_true _
      rw [f1]
      rw [decide_eq_false (by omega)] at h
      exact kat_yes (kat_nil h)
    · have f1 : (((r.2 : Nat) : Int) == ((q.2 : Nat) : Int)) = false := beq_eq_false_iff_ne.mpr (by omega)
      rw [f1]
      refine kat_no (kat_one _ _ (lt_int ?_))
      have e2 : decide (((r.2 : Nat) : Int) < ((q.2 : Nat) : Int)) = decide (r.1 * 1000 + r.2 < q.1 * 1000 + q.2) := decide_eq_decide.mpr (by omega)
      rw [e2]
      exact h
  · have e1 : (((r.1 : Nat) : Int) == ((q.1 : Nat) : Int)) = false := beq_eq_false_iff_ne.mpr (by omega)
    rw [e1]
    refine kat_no (oneLt_int ?_)
    have e2 : decide (((r.1 : Nat) : Int) < ((q.1 : Nat) : Int)) = decide (r.1 * 1000 + r.2 < q.1 * 1000 + q.2) := decide_eq_decide.mpr (by omega)
    rw [e2]
    exact h
end
noncomputable abbrev TuA (H : Hp) (q : Addr) (r : Nat × Nat) : Prop := H q = some (.tup [.int (r.1 : Int), .int (r.2 : Int)])
theorem vals_refsT : ∀ {qs : List Addr} {us : List Value}, Vals (qs.map V.ref) us → us = qs.map Value.ref
  | [], us, r => by rw [List.map_nil] at r; cases r; rfl
  | q :: qs, us, r => by
    rw [List.map_cons] at r
    cases r with
    | cons r1 r2 =>
      cases r1
      rw [vals_refsT r2]
      rfl
theorem refs_vals : ∀ (qs : List Addr), Vals (qs.map V.ref) (qs.map Value.ref)
  | [] => .nil
  | q :: qs => .cons rfl (refs_vals qs)
noncomputable def TupO (h : Heap) (q : Addr) (r : Nat × Nat) : Prop := ∃ o n t1 t2, h.get? q = some o ∧ o.cls = .type "tuple" ∧ o.data = .seq #[.int r.1 t1, .int r.2 t2] n
section
variable {X : Cx}
theorem tupO {pins : List (Addr × Obj)} {σ : St} {H : Hp} {s : Shared} (I : Inv X pins σ H s) {q : Addr} {r : Nat × Nat} (h : TuA H q r) : TupO s.heap q r := by
  obtain ⟨its, rv, ⟨o, e, c, n, d⟩, _⟩ := I.tuple (SqT.of h)
  obtain ⟨u1, u2, rfl, ⟨t1, rfl⟩, t2, rfl⟩ := rv.two
  exact ⟨o, n, t1, t2, e, c, d⟩
theorem katT {h : Heap} : ∀ {qs : List Addr} {rs : List (Nat × Nat)}, Paired (TupO h) qs rs → ∃ fs, KatTups h (qs.map Value.ref) fs ∧ fs.length = rs.length ∧ ∀ v ∈ fs, ∃ i t, v = Value.int i t
  | _, _, .nil => ⟨[], trivial, rfl, fun v hv => nomatch hv⟩
  | _, _, .cons r t => by
    obtain ⟨fs, a, b, c⟩ := katT t
    obtain ⟨o, n, t1, t2, e, k, d⟩ := r
    exact ⟨_ :: fs, KatTups.cons e k d rfl a, by rw [List.length_cons, List.length_cons, b], List.forall_mem_cons.mpr ⟨⟨_, t1, rfl⟩, c⟩⟩
theorem getD_map {α β : Type} (f : α → β) (l : List α) (i : Nat) (d : β) (d' : α) (h : i < l.length) : (l.map f).getD i d = f (l.getD i d') := by simp [h]
theorem perm_map {α : Type} {l : List α} {p : List Nat} (d : α) (h : p.Perm (List.range l.length)) : (p.map fun i => l.getD i d).Perm l := by
  have e : (List.range l.length).map (fun i => l.getD i d) = l := by
    refine List.ext_getElem (by simp) fun i h1 h2 => ?_
    simp [h2]
  have := h.map (fun i => l.getD i d)
  rwa [e] at this
theorem paired_getD {α β : Type} {F : α → β → Prop} {l : List α} {m : List β} (h : Paired F l m) {i : Nat} (hi : i < l.length) (d : α) (d' : β) : F (l.getD i d) (m.getD i d') := by
  induction h generalizing i with
  | nil => simp at hi
  | cons r _ ih =>
    cases i with
    | zero => exact r
    | succ i => exact ih (by simpa using hi)
theorem paired_map {α β : Type} {F : α → β → Prop} {f : Nat → α} {g : Nat → β} : ∀ (p : List Nat), (∀ i ∈ p, F (f i) (g i)) → Paired F (p.map f) (p.map g)
  | [], _ => .nil
  | i :: p, h => .cons (h i List.mem_cons_self) (paired_map p fun j hj => h j (List.mem_cons_of_mem _ hj))
theorem call_sortedT : CallR X (.builtin "sorted") (fun xs H Q => ∃ (p : Addr) (qs : List Addr) (rs : List (Nat × Nat)), xs = [.ref p] ∧ H p = some (.lst (qs.map V.ref)) ∧ Paired (TuA H) qs rs ∧ (∀ r ∈ rs, r.2 < 1000) ∧ rs.length < 64 ∧
    ∀ (l : Addr) (qs' : List Addr) (rs' : List (Nat × Nat)), H l = none → Paired (TuA H) qs' rs' → rs'.Perm rs → rs'.Pairwise (fun a b => rank a ≤ rank b) → Q (.ref l) (upd H l (.lst (qs'.map V.ref)))) := by
  intro pins s σ H xs us Q I r h
  obtain ⟨p, qs, rs, rfl, hP, pr, hs, h64, q⟩ := h
  obtain ⟨u, rfl, rx⟩ := vals1 r
  cases rx
  have line : (sizeLine : Nat) = 16777216 := sizeLine_eq
  have plen := Gn.Paired.len pr
  obtain ⟨its, r', pl, _⟩ := I.list (SqL.of hP)
  have ei := vals_refsT r'
  subst ei
  have vl : (qs.map Value.ref).length = rs.length := by rw [List.length_map, plen]
  have po : Paired (TupO s.heap) qs rs := Gn.Paired.imp2 pr fun _ _ h => tupO I h
  refine Calls.call_function_entry kind_sorted plain_sorted entry_sorted (args_sorted1 _) (show wpAny _ _ (Builtin.«sorted» _) _ _ _ from ?_)
  unfold Builtin.«sorted»
  refine wpAny_bind (m := checkCount "sorted" 1 1 _) (wpAny_pure (wpAny_bind (collect_list pl.isList ?_ (by rw [vl]; omega))))
  refine wpAny_bind (wpAny_newList ?_ (by show (qs.map Value.ref).length ≤ _; rw [vl]; omega))
  have zz : ((s.heap.push (seqObj "list" #[] 0)).update s.heap.objs.size (Obj.mapSeq (· ++ (qs.map Value.ref).toArray))).objs.size = s.heap.objs.size + 1 := by rw [Heap.size_update, size_push']
  have oL : (((s.heap.push (seqObj "list" #[] 0)).update s.heap.objs.size (Obj.mapSeq (· ++ (qs.map Value.ref).toArray))).push (seqObj "list" (qs.map Value.ref).toArray 0)).get? (s.heap.objs.size + 1) = some (seqObj "list" (qs.map Value.ref).toArray 0) := by
    rw [← zz]; exact Heap.get?_push_size _ rfl
  have kept : ∀ b o, s.heap.get? b = some o → (((s.heap.push (seqObj "list" #[] 0)).update s.heap.objs.size (Obj.mapSeq (· ++ (qs.map Value.ref).toArray))).push (seqObj "list" (qs.map Value.ref).toArray 0)).get? b = some o := fun b o e => by
    have lt := Heap.lt_size e
    refine Heap.get?_push_of_some _ ?_
    rw [Heap.get?_update_ne _ _ _ _ (Nat.ne_of_lt lt)]
    exact Heap.get?_push_of_some _ e
  show wpAny _ _ _ _ _ { s with heap := ((s.heap.push (seqObj "list" #[] 0)).update s.heap.objs.size (Obj.mapSeq (· ++ (qs.map Value.ref).toArray))).push (seqObj "list" (qs.map Value.ref).toArray 0) }
  rw [zz]
  refine wpAny_bind (wpAny_holding (wpAny_call_entry slot_list_sort ⟨_, oL, rfl⟩ entry_list_sort (lsortT (key := fun i => rank (rs.getD i (0, 0))) oL (by rw [vl]; exact h64) (fun s' kp => ?_) fun pm h1 h2 => ⟨_, rfl, ?_⟩) (args_list_sort _)))
  · have po' : Paired (TupO s'.heap) qs rs := Gn.Paired.imp2 po fun c y h => by
      obtain ⟨o, n, t1, t2, e, k, d⟩ := h
      exact ⟨o, n, t1, t2, kp _ _ (Nat.ne_of_lt (Nat.lt_succ_of_lt (Heap.lt_size e))) (kept _ _ e), k, d⟩
    obtain ⟨fs, k1, k2, k3⟩ := katT po'
    refine ⟨fun Q' h0 hQ => kat_kind (T := .type "int") k1 (by rw [k2, ← vl]; exact h0) (fun v hv => ?_) (by decide) hQ, fun i j C hi hj hC => ?_⟩
    · obtain ⟨i, t, rfl⟩ := k3 v hv
      exact Looks.now
    · rw [vl] at hi hj
      obtain ⟨o, n, t1, t2, e, _, d⟩ := paired_getD po' (i := i) (by omega) 0 (0, 0)
      obtain ⟨o', n', t3, t4, e', _, d'⟩ := paired_getD po' (i := j) (by omega) 0 (0, 0)
      have m1 : ∀ {i}, i < rs.length → (rs.getD i (0, 0)).2 < 1000 := fun {i} hi => by
        have : rs.getD i (0, 0) = rs[i] := by simp [hi]
        rw [this]; exact hs _ (List.getElem_mem hi)
      unfold kas_ask
      rw [getD_map Value.ref qs i Value.none 0 (by omega), getD_map Value.ref qs j Value.none 0 (by omega)]
      exact lexT e d e' d' (m1 hi) (m1 hj) hC
  · have eo : (pm.toList.map fun i => (qs.map Value.ref).getD i Value.none) = (pm.toList.map fun i => qs.getD i 0).map Value.ref := by
      rw [List.map_map]
      refine List.map_congr_left fun i hi => ?_
      have hlt := List.mem_range.mp (h1.mem_iff.mp hi)
      rw [List.length_map] at hlt
      exact getD_map Value.ref qs i Value.none 0 hlt
    rw [eo]
    rw [vl] at h1 h2
    obtain ⟨e, he⟩ := sortedAll_at s.heap (qs.map Value.ref) ((pm.toList.map fun i => qs.getD i 0).map Value.ref).toArray
    have pp : Paired (TuA H) (pm.toList.map fun i => qs.getD i 0) (pm.toList.map fun i => rs.getD i (0, 0)) := paired_map _ fun i hi => paired_getD pr (by have := List.mem_range.mp (h1.mem_iff.mp hi); omega) 0 (0, 0)
    have pl' := Gn.Paired.len pp
    have ll := h1.length_eq
    rw [List.length_range] at ll
    refine wpAny_pure ⟨_, rfl, .ref (s.heap.objs.size + 1), _, I.laid (t' := s.toks) (fun _ _ => sortedAll_old) (Nat.le_succ _) (show ObjOk X.prog X.w _ (sortedAll s.heap (qs.map Value.ref) ((pm.toList.map fun i => qs.getD i 0).map Value.ref).toArray) _ (.lst ((pm.toList.map fun i => qs.getD i 0).map V.ref)) from ⟨by rw [List.length_map, List.length_map, ll]; omega, _, e, refs_vals _, by rw [he]⟩), rfl,
      q _ _ _ (I.hok.fresh (Nat.le_succ _)) pp (perm_map (0, 0) h1) ?_⟩
    rw [List.pairwise_map]
    rw [List.pairwise_iff_getElem]
    intro i j hi hj hij
    have := h2 i j (Nat.le_of_lt hij) (by rw [← ll]; exact hj)
    have gi : ∀ {i} (h : i < pm.toList.length), ST.g pm i = pm.toList[i] := fun {i} h => by
      have h' : i < pm.size := by simpa using h
      unfold ST.g
      simp [Array.getD, h']
    unfold ST.K at this
    rw [gi hi, gi hj] at this
    exact this
end
end L2
set_option linter.all false
namespace WN
noncomputable abbrev Pr := Nat × Nat
noncomputable def Cov (l : List Pr) (p : Nat) : Prop := ∃ x ∈ l, x.1 ≤ p ∧ p ≤ x.2
structure Rs (l : List Pr) : Prop where
  o : l.Pairwise fun x y => x.2 + 1 < y.1
  w : ∀ x ∈ l, x.1 ≤ x.2
theorem Rs.nil : Rs [] := ⟨.nil, fun x h => nomatch h⟩
theorem cov_nil {p : Nat} : ¬ Cov [] p := fun ⟨x, h, _⟩ => nomatch h
theorem cov_cons {x : Pr} {l : List Pr} {p : Nat} : Cov (x :: l) p ↔ (x.1 ≤ p ∧ p ≤ x.2) ∨ Cov l p := by
  constructor
  · rintro ⟨y, hy, h⟩
    rcases List.mem_cons.mp hy with q | q
    · rw [q] at h; exact .inl h
    · exact .inr ⟨y, q, h⟩
  · rintro (h | ⟨y, hy, h⟩)
    · exact ⟨x, List.mem_cons_self, h⟩
    · exact ⟨y, List.mem_cons_of_mem _ hy, h⟩
theorem cov_app {l m : List Pr} {p : Nat} : Cov (l ++ m) p ↔ Cov l p ∨ Cov m p := by
  constructor
  · rintro ⟨y, hy, h⟩
    rcases List.mem_append.mp hy with q | q
    · exact .inl ⟨y, q, h⟩
    · exact .inr ⟨y, q, h⟩
  · rintro (⟨y, hy, h⟩ | ⟨y, hy, h⟩)
    · exact ⟨y, List.mem_append_left _ hy, h⟩
    · exact ⟨y, List.mem_append_right _ hy, h⟩
theorem cov_one {x : Pr} {p : Nat} : Cov [x] p ↔ x.1 ≤ p ∧ p ≤ x.2 := by
  rw [cov_cons]
  exact ⟨fun h => h.resolve_right cov_nil, .inl⟩
theorem Rs.tl {x : Pr} {l : List Pr} (h : Rs (x :: l)) : Rs l := ⟨(List.pairwise_cons.mp h.o).2, fun y hy => h.w y (List.mem_cons_of_mem _ hy)⟩
theorem Rs.far {x : Pr} {l : List Pr} (h : Rs (x :: l)) {p : Nat} (c : Cov l p) : x.2 + 1 < p := by
  obtain ⟨y, hy, h1, h2⟩ := c
  have := (List.pairwise_cons.mp h.o).1 y hy
  omega
theorem Rs.uniq : ∀ {l m : List Pr}, Rs l → Rs m → (∀ p, Cov l p ↔ Cov m p) → l = m
  | [], [], _, _, _ => rfl
  | [], y :: m, _, hm, h => by
    have w := hm.w y List.mem_cons_self
    exact absurd ((h y.1).mpr (cov_cons.mpr (.inl ⟨Nat.le_refl _, w⟩))) cov_nil
  | x :: l, [], hl, _, h => by
    have w := hl.w x List.mem_cons_self
    exact absurd ((h x.1).mp (cov_cons.mpr (.inl ⟨Nat.le_refl _, w⟩))) cov_nil
  | x :: l, y :: m, hl, hm, h => by
    have wx := hl.w x List.mem_cons_self
    have wy := hm.w y List.mem_cons_self
    have b1 : y.1 ≤ x.1 := by
      rcases cov_cons.mp ((h x.1).mp (cov_cons.mpr (.inl ⟨Nat.le_refl _, wx⟩))) with q | q
      · exact q.1
      · have := hm.far q; omega
    have b2 : x.1 ≤ y.1 := by
      rcases cov_cons.mp ((h y.1).mpr (cov_cons.mpr (.inl ⟨Nat.le_refl _, wy⟩))) with q | q
      · exact q.1
      · have := hl.far q; omega
    have e1 : ¬ x.2 < y.2 := fun z => by
      rcases cov_cons.mp ((h (x.2 + 1)).mpr (cov_cons.mpr (.inl ⟨by omega, by omega⟩))) with q | q
      · omega
      · have := hl.far q; omega
    have e2 : ¬ y.2 < x.2 := fun z => by
      rcases cov_cons.mp ((h (y.2 + 1)).mp (cov_cons.mpr (.inl ⟨by omega, by omega⟩))) with q | q
      · omega
      · have := hm.far q; omega
    have e : x = y := Prod.ext (by omega) (by omega)
    subst e
    rw [Rs.uniq hl.tl hm.tl fun p => ?_]
    constructor
    · intro c
      have f := hl.far c
      rcases cov_cons.mp ((h p).mp (cov_cons.mpr (.inr c))) with q | q
      · omega
      · exact q
    · intro c
      have f := hm.far c
      rcases cov_cons.mp ((h p).mpr (cov_cons.mpr (.inr c))) with q | q
      · omega
      · exact q
structure Mg (acc : List Pr) (done : List Pr) : Prop where
  r : Rs acc
  c : ∀ p, Cov acc p ↔ Cov done p
theorem Mg.add {acc done : List Pr} {x : Pr} (h : Mg acc done) (hx : x.1 ≤ x.2) (hf : ∀ y ∈ acc, y.2 + 1 < x.1) : Mg (acc ++ [x]) (done ++ [x]) := by
  refine ⟨⟨List.pairwise_append.mpr ⟨h.r.o, List.pairwise_singleton _ _, fun a ha b hb => by rw [List.mem_singleton.mp hb]; exact hf a ha⟩, fun y hy => ?_⟩, fun p => ?_⟩
  · rcases List.mem_append.mp hy with q | q
    · exact h.r.w y q
    · rw [List.mem_singleton.mp q]; exact hx
  · rw [cov_app, cov_app, h.c]
theorem Mg.grow {ini done : List Pr} {b x : Pr} (h : Mg (ini ++ [b]) done) (hx : x.1 ≤ x.2) (h1 : b.1 ≤ x.1) (h2 : x.1 ≤ b.2 + 1) : Mg (ini ++ [(b.1, max b.2 x.2)]) (done ++ [x]) := by
  have hw := h.r.w b (List.mem_append_right _ List.mem_cons_self)
  refine ⟨⟨?_, fun y hy => ?_⟩, fun p => ?_⟩
  · have q := h.r.o
    rw [List.pairwise_append] at q ⊢
    exact ⟨q.1, List.pairwise_singleton _ _, fun a ha c hc => by rw [List.mem_singleton.mp hc]; exact q.2.2 a ha b List.mem_cons_self⟩
  · rcases List.mem_append.mp hy with q | q
    · exact h.r.w y (List.mem_append_left _ q)
    · rw [List.mem_singleton.mp q]; show b.1 ≤ max b.2 x.2; omega
  · rw [cov_app, cov_app, ← h.c, cov_app, cov_one, cov_one, cov_one]
    show (Cov ini p ∨ b.1 ≤ p ∧ p ≤ max b.2 x.2) ↔ _
    constructor
    · rintro (q | q)
      · exact .inl (.inl q)
      · by_cases z : p ≤ b.2
        · exact .inl (.inr ⟨q.1, z⟩)
        · exact .inr ⟨by omega, by omega⟩
    · rintro ((q | q) | q)
      · exact .inl q
      · exact .inr ⟨q.1, by omega⟩
      · exact .inr ⟨by omega, by omega⟩
theorem far_of {ini : List Pr} {b x : Pr} (h : Rs (ini ++ [b])) (hb : b.2 + 1 < x.1) : ∀ y ∈ ini ++ [b], y.2 + 1 < x.1 := fun y hy => by
  rcases List.mem_append.mp hy with q | q
  · have := (List.pairwise_append.mp h.o).2.2 y q b List.mem_cons_self
    have := h.w b (List.mem_append_right _ List.mem_cons_self)
    omega
  · rw [List.mem_singleton.mp q]; exact hb
structure Pl (cov : List Bool) (acc : List Pr) (i : Nat) : Prop where
  r : Rs acc
  c : ∀ p, Cov acc p ↔ p < i ∧ cov[p]? = some true
theorem Pl.zero (cov : List Bool) : Pl cov [] 0 := ⟨Rs.nil, fun p => ⟨fun h => absurd h cov_nil, fun h => absurd h.1 (by omega)⟩⟩
theorem Pl.skip {cov : List Bool} {acc : List Pr} {i : Nat} (h : Pl cov acc i) (hc : cov[i]? ≠ some true) : Pl cov acc (i + 1) := by
  refine ⟨h.r, fun p => (h.c p).trans ⟨fun q => ⟨by omega, q.2⟩, fun q => ⟨?_, q.2⟩⟩⟩
  rcases Nat.lt_or_ge p i with z | z
  · exact z
  · have e : p = i := by omega
    rw [e] at q
    exact absurd q.2 hc
theorem Pl.new {cov : List Bool} {acc : List Pr} {i : Nat} (h : Pl cov acc i) (hc : cov[i]? = some true) (hp : i = 0 ∨ cov[i - 1]? ≠ some true) : Pl cov (acc ++ [(i, i)]) (i + 1) := by
  have far : ∀ y ∈ acc, y.2 + 1 < i := fun y hy => by
    have w := h.r.w y hy
    have c := (h.c y.2).mp ⟨y, hy, w, Nat.le_refl _⟩
    rcases hp with z | z
    · omega
    · have : y.2 ≠ i - 1 := fun e => by rw [e] at c; exact z c.2
      omega
  refine ⟨⟨List.pairwise_append.mpr ⟨h.r.o, List.pairwise_singleton _ _, fun a ha b hb => by rw [List.mem_singleton.mp hb]; exact far a ha⟩, fun y hy => ?_⟩, fun p => ?_⟩
  · rcases List.mem_append.mp hy with q | q
    · exact h.r.w y q
    · rw [List.mem_singleton.mp q]; exact Nat.le_refl _
  · rw [cov_app, cov_one, h.c]
    show (p < i ∧ cov[p]? = some true) ∨ (i ≤ p ∧ p ≤ i) ↔ _
    constructor
    · rintro (q | q)
      · exact ⟨by omega, q.2⟩
      · have e : p = i := by omega
        rw [e]; exact ⟨by omega, hc⟩
    · rintro ⟨q1, q2⟩
      rcases Nat.lt_or_ge p i with z | z
      · exact .inl ⟨z, q2⟩
      · exact .inr ⟨z, by omega⟩
theorem Pl.last {cov : List Bool} {acc : List Pr} {i : Nat} (h : Pl cov acc i) (h0 : i ≠ 0) (hc : cov[i - 1]? = some true) : ∃ ini b, acc = ini ++ [(b, i - 1)] := by
  obtain ⟨y, hy, y1, y2⟩ := (h.c (i - 1)).mpr ⟨by omega, hc⟩
  have ne : acc ≠ [] := fun z => by rw [z] at hy; cases hy
  refine ⟨acc.dropLast, (acc.getLast ne).1, ?_⟩
  have e := (List.dropLast_concat_getLast ne).symm
  have last : (acc.getLast ne).2 = i - 1 := by
    have w := h.r.w _ (List.getLast_mem ne)
    have c := (h.c (acc.getLast ne).2).mp ⟨_, List.getLast_mem ne, w, Nat.le_refl _⟩
    by_cases q : (acc.getLast ne).2 = i - 1
    · exact q
    · have hy' := hy
      rw [e] at hy'
      rcases List.mem_append.mp hy' with z | z
      · have o := h.r.o
        rw [e] at o
        have := (List.pairwise_append.mp o).2.2 y z _ List.mem_cons_self
        omega
      · rw [List.mem_singleton.mp z] at y2
        omega
  rw [← last]
  exact e
theorem Pl.long {cov : List Bool} {ini : List Pr} {b i : Nat} (h : Pl cov (ini ++ [(b, i - 1)]) i) (h0 : i ≠ 0) (hc : cov[i]? = some true) : Pl cov (ini ++ [(b, i)]) (i + 1) := by
  have wb := h.r.w (b, i - 1) (List.mem_append_right _ List.mem_cons_self)
  have wb' : b ≤ i - 1 := wb
  refine ⟨⟨?_, fun y hy => ?_⟩, fun p => ?_⟩
  · have q := h.r.o
    rw [List.pairwise_append] at q ⊢
    exact ⟨q.1, List.pairwise_singleton _ _, fun a ha c hcc => by rw [List.mem_singleton.mp hcc]; exact q.2.2 a ha (b, i - 1) List.mem_cons_self⟩
  · rcases List.mem_append.mp hy with q | q
    · exact h.r.w y (List.mem_append_left _ q)
    · rw [List.mem_singleton.mp q]; show b ≤ i; omega
  · have hp := h.c p
    rw [cov_app, cov_one] at hp ⊢
    show (Cov ini p ∨ b ≤ p ∧ p ≤ i) ↔ _
    have hp' : (Cov ini p ∨ b ≤ p ∧ p ≤ i - 1) ↔ p < i ∧ cov[p]? = some true := hp
    constructor
    · rintro (q | q)
      · have := hp'.mp (.inl q)
        exact ⟨by omega, this.2⟩
      · rcases Nat.lt_or_ge p i with z | z
        · exact ⟨by omega, (hp'.mp (.inr ⟨q.1, by omega⟩)).2⟩
        · have e : p = i := by omega
          rw [e]; exact ⟨by omega, hc⟩
    · rintro ⟨q1, q2⟩
      rcases Nat.lt_or_ge p i with z | z
      · rcases hp'.mpr ⟨z, q2⟩ with y | y
        · exact .inl y
        · exact .inr ⟨y.1, by omega⟩
      · exact .inr ⟨by omega, by omega⟩
noncomputable def win (n ar : Nat) (r : Pr) : Pr := (r.1 - ar, min (r.2 + ar) (n - 1))
noncomputable def Okp (n : Nat) (r : Pr) : Prop := r.1 ≤ r.2 ∧ r.2 < n
theorem win_ok {n ar : Nat} {r : Pr} (h : Okp n r) : Okp n (win n ar r) := ⟨by show r.1 - ar ≤ min (r.2 + ar) (n - 1); have := h.1; have := h.2; omega, by show min (r.2 + ar) (n - 1) < n; have := h.2; omega⟩
noncomputable def near (ar : Nat) (r : Pr) (p : Nat) : Prop := r.1 ≤ p + ar ∧ p ≤ r.2 + ar
theorem win_cov {n ar : Nat} {rs : List Pr} (h : ∀ r ∈ rs, Okp n r) (p : Nat) : Cov (rs.map (win n ar)) p ↔ p < n ∧ ∃ r ∈ rs, near ar r p := by
  constructor
  · rintro ⟨x, hx, h1, h2⟩
    obtain ⟨r, hr, rfl⟩ := List.mem_map.mp hx
    have o := h r hr
    have o2 := o.2
    have h1' : r.1 - ar ≤ p := h1
    have h2' : p ≤ min (r.2 + ar) (n - 1) := h2
    exact ⟨by omega, r, hr, by omega, by omega⟩
  · rintro ⟨hp, r, hr, h1, h2⟩
    exact ⟨win n ar r, List.mem_map.mpr ⟨r, hr, rfl⟩, by show r.1 - ar ≤ p; omega, by show p ≤ min (r.2 + ar) (n - 1); omega⟩
theorem cov_perm {l m : List Pr} (h : l.Perm m) (p : Nat) : Cov l p ↔ Cov m p := ⟨fun ⟨x, hx, q⟩ => ⟨x, h.mem_iff.mp hx, q⟩, fun ⟨x, hx, q⟩ => ⟨x, h.mem_iff.mpr hx, q⟩⟩
end WN
set_option Elab.async false
set_option linter.all false
set_option maxRecDepth 100000
set_option maxHeartbeats 4000000
namespace Gn
open PySem L2 PyProof.Rows PySem.Spec
section
variable {X : Cx}
end
theorem cut_take (xs : List V) (k : Nat) : cutV xs none (some (k : Int)) = xs.take k := by
  unfold cutV
  rw [HT.sIx_nat, HT.sIx_none, List.drop_zero, Nat.sub_zero]
  by_cases h : k ≤ xs.length
  · rw [Nat.min_eq_left h]
  · rw [Nat.min_eq_right (by omega), List.take_of_length_le (Nat.le_refl _), List.take_of_length_le (by omega)]
theorem Paired.tk {α β : Type} {F : α → β → Prop} : ∀ (n : Nat) {l : List α} {m : List β}, Paired F l m → Paired F (l.take n) (m.take n)
  | 0, _, _, _ => .nil
  | _ + 1, _, _, .nil => .nil
  | n + 1, _, _, .cons r t => .cons r (Paired.tk n t)
theorem Paired.dp {α β : Type} {F : α → β → Prop} : ∀ (n : Nat) {l : List α} {m : List β}, Paired F l m → Paired F (l.drop n) (m.drop n)
  | 0, _, _, h => h
  | _ + 1, _, _, .nil => .nil
  | n + 1, _, _, .cons _ t => Paired.dp n t
theorem Paired.at {α β : Type} {F : α → β → Prop} : ∀ {l : List α} {m : List β}, Paired F l m → ∀ {i : Nat} {b : β}, m[i]? = some b → ∃ a, l[i]? = some a ∧ F a b
  | _, _, .nil, i, b, h => by cases i <;> cases h
  | _, _, .cons r t, 0, b, h => by
    have e := Option.some.inj h
    subst e
    exact ⟨_, rfl, r⟩
  | _, _, .cons r t, i + 1, b, h => Paired.at t h
end Gn
set_option Elab.async false
set_option linter.all false
set_option maxRecDepth 100000
set_option maxHeartbeats 4000000
namespace L2
open PySem PySem.Spec PyProof.Rows
section
variable {X : Cx} {a b c d : Expr} {ta tb tc td : TE} {pos : Pos}
noncomputable def tChain3 (r r' r'' : R2) (ta tb tc td : TE) : TE := fun σ H Q => ta σ H fun x H1 => tb σ H1 fun y H2 => r x y H2 fun z H3 => ∃ k, z = .bl k ∧
  (if k = true then tc σ H3 fun w' H4 => r' y w' H4 fun z' H5 => ∃ k', z' = .bl k' ∧ (if k' = true then td σ H5 fun v' H6 => r'' w' v' H6 Q else Q (.bl false) H5) else Q (.bl false) H3)
theorem pe_chain3 {op op' op'' : CmpOp} {r r' r'' : R2} (ho : OpR X (compareOp op) r) (ho' : OpR X (compareOp op') r') (ho'' : OpR X (compareOp op'') r'') (ha : PE X a ta) (hb : PE X b tb) (hc : PE X c tc) (hd : PE X d td)
    (hm : lastMarks [op, op', op''] [b, c, d] = false := by with_unfolding_all rfl) : PE X (.Compare a [op, op', op''] [b, c, d] pos) (tChain3 r r' r'' ta tb tc td) := by
  intro pins s σ H Q I h
  refine Compare_chain (thn (ha pins s σ H _ I h) fun v s1 ⟨x, H1, I1, r1, q1⟩ => chain_link (thn (hb pins s1 σ H1 _ I1 q1) fun u s2 ⟨y, H2, I2, r2, q2⟩ => thn (ho pins s2 σ H2 x y v u _ I2 r1 r2 q2) fun e1 s3 ⟨z, H3, I3, r3, k, e, q3⟩ => ?_)) hm
  subst e
  cases r3
  refine wpAny_truthy_bool ?_
  cases k with
  | false => exact ite_ff ⟨.bl false, H3, I3, rfl, q3⟩
  | true =>
    refine ite_tt (chain_link (thn (hc pins s3 σ H3 _ I3 q3) fun w' s4 ⟨z', H4, I4, r4, q4⟩ => thn (ho' pins s4 σ H4 y z' u w' _ I4 r2 r4 q4) fun e2 s5 ⟨z2, H5, I5, r5, k2, e', q5⟩ => ?_))
    subst e'
    cases r5
    refine wpAny_truthy_bool ?_
    cases k2 with
    | false => exact ite_ff ⟨.bl false, H5, I5, rfl, q5⟩
    | true => exact ite_tt (chain_last (thn (hd pins s5 σ H5 _ I5 q5) fun v' s6 ⟨z3, H6, I6, r6, q6⟩ => ho'' pins s6 σ H6 z' z3 w' v' Q I6 r4 r6 q6))
end
end L2
set_option linter.all false
namespace K03
noncomputable abbrev Fr := Int × Nat
noncomputable def size (W : Nat) (x : Fr) : Int := x.1 * ((W / x.2 : Nat) : Int)
noncomputable def ins (x : Fr) (l : List Fr) (k : Nat) : List Fr := l.take k ++ x :: l.drop k
end K03
set_option Elab.async false
set_option linter.all false
namespace K01
noncomputable def lo (c : Nat) : Nat := if 65 ≤ c ∧ c ≤ 90 then c + 32 else c
noncomputable def isS (c : Nat) : Bool := (decide (97 ≤ c) && decide (c ≤ 122)) || (decide (48 ≤ c) && decide (c ≤ 57))
noncomputable def okC (c : Nat) : Bool := decide (c = 10) || (decide (32 ≤ c) && decide (c ≤ 126) && !decide (c = 37))
noncomputable abbrev Wd := List Nat × Nat × Nat
noncomputable def flush (i : Nat) (w : List Nat) : List Wd := if w = [] then [] else [(w, i - w.length, i)]
noncomputable def wgo : List Nat → Nat → List Nat → List Wd
  | [], i, w => flush i w
  | c :: r, i, w => if isS c then wgo r (i + 1) (w ++ [c]) else flush i w ++ wgo r (i + 1) []
noncomputable def words (cs : List Nat) : List Wd := wgo (cs.map lo) 0 []
theorem wgo_small {c : Nat} {r : List Nat} {i : Nat} {w : List Nat} (h : isS c = true) : wgo (c :: r) i w = wgo r (i + 1) (w ++ [c]) := by
  rw [wgo, if_pos h]
theorem wgo_other {c : Nat} {r : List Nat} {i : Nat} {w : List Nat} (h : isS c = false) : wgo (c :: r) i w = flush i w ++ wgo r (i + 1) [] := by
  rw [wgo, if_neg (by rw [h]; exact Bool.false_ne_true)]
theorem wgo_blank : ∀ (r : List Nat) (i : Nat) (w : List Nat), wgo (r ++ [32]) i w = wgo r i w
  | [], i, w => by
    show wgo [32] i w = wgo [] i w
    rw [wgo_other (by decide)]
    simp [wgo, flush]
  | c :: r, i, w => by
    show wgo (c :: (r ++ [32])) i w = _
    cases h : isS c with
    | true => rw [wgo_small h, wgo_small h, wgo_blank]
    | false => rw [wgo_other h, wgo_other h, wgo_blank]
theorem ok_lt {c : Nat} (h : okC c = true) : c < 128 := by
  unfold okC at h
  simp only [Bool.or_eq_true, Bool.and_eq_true, decide_eq_true_eq, Bool.not_eq_true', decide_eq_false_iff_not] at h
  omega
theorem isS_ok {c : Nat} (h : isS c = true) : okC c = true := by
  unfold isS at h
  unfold okC
  simp only [Bool.or_eq_true, Bool.and_eq_true, decide_eq_true_eq, Bool.not_eq_true', decide_eq_false_iff_not] at *
  omega
theorem isS_lt {c : Nat} (h : isS c = true) : c < 128 := ok_lt (isS_ok h)
end K01
set_option maxRecDepth 100000
set_option maxHeartbeats 4000000
namespace K01
open PySem L2
noncomputable def txtV : V → Bool
  | .str z => decide (z.length ≤ 2000) && z.cps.toList.all okC
  | _ => false
noncomputable def Fit (x : V) : Prop := ∀ z, x = .str z → z.length ≤ 5000
end K01
set_option linter.all false
namespace WN
open K01 (Wd)
theorem Rs.sep : ∀ {l : List Pr}, Rs l → ∀ {x y : Pr}, x ∈ l → y ∈ l → x = y ∨ x.2 + 1 < y.1 ∨ y.2 + 1 < x.1
  | [], _, _, _, h, _ => nomatch h
  | z :: l, hR, x, y, hx, hy => by
    have p := List.pairwise_cons.mp hR.o
    rcases List.mem_cons.mp hx with ex | ix
    · rcases List.mem_cons.mp hy with ey | iy
      · exact .inl (ex.trans ey.symm)
      · exact .inr (.inl (by rw [ex]; exact p.1 y iy))
    · rcases List.mem_cons.mp hy with ey | iy
      · exact .inr (.inr (by rw [ey]; exact p.1 x ix))
      · exact hR.tl.sep ix iy
theorem Rs.run {l : List Pr} (h : Rs l) {w : Pr} (hw : w ∈ l) {a b x : Nat} (hx : a ≤ x ∧ x ≤ b) (hxw : w.1 ≤ x ∧ x ≤ w.2) (hc : ∀ z, a ≤ z → z ≤ b → Cov l z) : w.1 ≤ a ∧ b ≤ w.2 := by
  have ww := h.w w hw
  constructor
  · rcases Nat.lt_or_ge a w.1 with z | z
    · obtain ⟨v, hv, v1, v2⟩ := hc (w.1 - 1) (by omega) (by omega)
      rcases h.sep hw hv with e | e | e
      · subst e; omega
      · omega
      · omega
    · exact z
  · rcases Nat.lt_or_ge w.2 b with z | z
    · obtain ⟨v, hv, v1, v2⟩ := hc (w.2 + 1) (by omega) (by omega)
      rcases h.sep hw hv with e | e | e
      · subst e; omega
      · omega
      · omega
    · exact z
noncomputable def inW (w m : Pr) : Bool := decide (w.1 ≤ m.1) && decide (m.1 ≤ w.2)
noncomputable def mks (mk : List Pr) (w : Pr) : List Pr := mk.filter (inW w)
theorem mks_rs {mk : List Pr} (h : Rs mk) (w : Pr) : Rs (mks mk w) := ⟨h.o.sublist List.filter_sublist, fun x hx => h.w x (List.mem_filter.mp hx).1⟩
theorem mks_cov {mk ms : List Pr} (hk : Rs mk) (hm : Rs ms) {w : Pr} (hw : w ∈ ms) (hc : ∀ p, Cov mk p → Cov ms p) (p : Nat) : Cov (mks mk w) p ↔ Cov mk p ∧ w.1 ≤ p ∧ p ≤ w.2 := by
  have all : ∀ m ∈ mk, ∀ z, m.1 ≤ z → z ≤ m.2 → Cov ms z := fun m h z a b => hc z ⟨m, h, a, b⟩
  constructor
  · rintro ⟨m, h, a, b⟩
    obtain ⟨h1, h2⟩ := List.mem_filter.mp h
    unfold inW at h2
    rw [Bool.and_eq_true, decide_eq_true_eq, decide_eq_true_eq] at h2
    have q := hm.run hw ⟨Nat.le_refl m.1, hk.w m h1⟩ h2 (all m h1)
    exact ⟨⟨m, h1, a, b⟩, by omega, by omega⟩
  · rintro ⟨⟨m, h, a, b⟩, c, d⟩
    have q := hm.run hw ⟨a, b⟩ ⟨c, d⟩ (all m h)
    refine ⟨m, List.mem_filter.mpr ⟨h, ?_⟩, a, b⟩
    unfold inW
    rw [decide_eq_true q.1, decide_eq_true (show m.1 ≤ w.2 by omega)]
    rfl
noncomputable def sg (ws : List Wd) (r : Pr) : Pr := ((ws.getD r.1 ([], 0, 0)).2.1, (ws.getD r.2 ([], 0, 0)).2.2)
noncomputable abbrev Pc := Nat × Nat × List Pr
noncomputable def pcs (ws : List Wd) (ms mk : List Pr) : List Pc := ms.map fun w => ((sg ws w).1, (sg ws w).2, (mks mk w).map (sg ws))
end WN
set_option Elab.async false
set_option linter.all false
set_option maxRecDepth 100000
set_option maxHeartbeats 4000000
namespace K23
open PySem L2 PyProof.Rows PySem.Spec Gn K01
open WN (Cov Rs Mg Pl win Okp near)
noncomputable def top (i : Nat) : Stmt := PySem.Challenge.pw_findhall_k23_pieces.main.body.getD i (.Pass ⟨0, 0, 0, 0⟩)
noncomputable abbrev sWhole : Stmt := top 19
noncomputable abbrev sSign : Stmt := top 20
noncomputable abbrev sText : Stmt := top 21
noncomputable abbrev sNText : Stmt := top 22
noncomputable abbrev sNNum : Stmt := top 23
noncomputable abbrev sWordsIn : Stmt := top 25
noncomputable abbrev sIsS : Stmt := top 27
noncomputable abbrev sNSp : Stmt := top 28
noncomputable abbrev sNb : Stmt := top 29
noncomputable abbrev sWin : Stmt := top 30
noncomputable abbrev sSO : Stmt := top 31
noncomputable abbrev sPc : Stmt := top 32
noncomputable abbrev sPs : Stmt := top 33
noncomputable abbrev lMixed : Stmt := top 35
noncomputable abbrev lNumber : Stmt := top 36
noncomputable abbrev lMenu : Stmt := top 37
noncomputable abbrev lText : Stmt := top 38
noncomputable abbrev lSmall : Stmt := top 39
noncomputable abbrev lWords : Stmt := top 40
noncomputable abbrev lSpans : Stmt := top 41
noncomputable abbrev lRows : Stmt := top 42
noncomputable abbrev lPcs : Stmt := top 43
noncomputable abbrev lCls : Stmt := top 44
noncomputable abbrev lAsked : Stmt := top 45
noncomputable abbrev lRef : Stmt := top 46
noncomputable abbrev lKinds : Stmt := top 47
noncomputable abbrev lLaw : Stmt := top 48
structure Txt (mg : Str → Option Value) : Prop where
  isi : mg "isinstance" = none
  int : mg "int" = none
  bool : mg "bool" = none
  str : mg "str" = none
  list : mg "list" = none
  tuple : mg "tuple" = none
  len : mg "len" = none
  all : mg "all" = none
  ord : mg "ord" = none
  range : mg "range" = none
  enum : mg "enumerate" = none
  val : mg "ValueError" = none
  sorted : mg "sorted" = none
  min : mg "min" = none
  max : mg "max" = none
  cText : ∃ t, mg "MOST_TEXT_SIGNS" = some (.int 2000 t)
  cSmall : ∃ t, mg "SMALL_SIGNS" = some (.str "abcdefghijklmnopqrstuvwxyz0123456789" t)
  cPer : ∃ t, mg "PERCENT_NUMBER" = some (.int 37 t)
section
variable {P : Program} {w : World} {K : PySem.W.Frag} {mg : Str → Option Value} {base : Heap} {CN CS : Addr}
theorem b_sorted : bootBuiltins "sorted" = some (.builtin "sorted") := by decide +kernel
theorem b_min : bootBuiltins "min" = some (.builtin "min") := by decide +kernel
theorem b_max : bootBuiltins "max" = some (.builtin "max") := by decide +kernel
theorem at_last (xs : List V) (v : V) : atI (xs ++ [v]) (-1) = some v := by
  have e : ixN (xs ++ [v]).length (-1) = some xs.length := by
    unfold ixN
    rw [List.length_append, List.length_singleton]
    rw [if_neg (by decide), if_pos (by omega)]
    congr 1
    omega
  unfold atI
  rw [e]
  simp
theorem ixN_last (xs : List V) (v : V) : ixN (xs ++ [v]).length (-1) = some xs.length := by
  unfold ixN
  rw [List.length_append, List.length_singleton, if_neg (by decide), if_pos (by omega)]
  congr 1
  omega
theorem same_put {H H' : Hp} {p : Addr} {o : HO} (s : Same H H') (hp : H p = none) : Same H (upd H' p o) := fun b u e => by
  rw [upd_ne (ne_of_none e hp)]; exact s b u e
theorem set_last {α : Type} (l : List α) (a b : α) : (l ++ [a]).set l.length b = l ++ [b] := by simp
theorem last_of {α : Type} {l : List α} (h : l ≠ []) : ∃ ini x, l = ini ++ [x] := ⟨l.dropLast, l.getLast h, (List.dropLast_concat_getLast h).symm⟩
noncomputable def spWhole (K : PySem.W.Frag) : Sp := fun vs H Q _ => ∃ x, vs = [x] ∧ Known K H x ∧ Q (.bl (isIntV x && !isBlV x)) H
theorem scWhole : FnScope ["thing"] ["thing"] (defScope sWhole) := ⟨rfl, rfl, rfl, by decide +kernel, rfl, by decide +kernel, by decide +kernel⟩
seal PSs PS PE PT PA PG PI PGs PIfs in
theorem ok_whole {f : Addr} {fd : FuncData} (D : Df K mg "is_whole" sWhole f fd) (T : Txt mg) : FnOk P w K mg base CX0 1 f fd ["thing"] (spWhole K) := by
  refine D.F.ok scWhole (fun vs H Q E h => ?_) (fun cdv A outer s H vs Q E hr h => ?_)
  · obtain ⟨x, rfl, _⟩ := h
    rfl
  · obtain ⟨x, rfl, ⟨n, hty⟩, k⟩ := h
    refine ⟨_, pss_one (ps_ret (pe_and (pe_callB call_isi rfl T.isi b_isi (pa_cons (pv 0) (pa_cons (pe_bltn (v := .ty "int") rfl T.int b_int rfl) pa_nil)))
      (pe_one (pe_not (pe_callB call_isi rfl T.isi b_isi (pa_cons (pv 0) (pa_cons (pe_bltn (v := .ty "bool") rfl T.bool b_bool rfl) pa_nil))))))), ?_⟩
    refine ⟨_, rfl, x, .ty "int", _, _, rfl, hty, .inl ⟨_, rfl, kit_int hty⟩, _, rfl, ?_⟩
    cases hi : isIntV x with
    | false =>
      rw [hi] at k
      exact iteF k
    | true =>
      rw [hi] at k
      refine iteT ?_
      exact ⟨_, rfl, x, .ty "bool", _, _, rfl, hty, .inl ⟨_, rfl, kit_bool hty⟩, _, rfl, k⟩
theorem scNNum : FnScope ["thing", "least", "most"] ["thing", "least", "most"] (defScope sNNum) := ⟨rfl, rfl, rfl, by decide +kernel, rfl, by decide +kernel, by decide +kernel⟩
seal PSs PS PE PT PA PG PI PGs PIfs in
theorem ok_nnum {f fw C : Addr} {fd fdw : FuncData} (D : DfD K mg "need_number" sNNum f fd #[.none]) (DW : Df K mg "is_whole" sWhole fw fdw) (X : Ex K mg "BadNumber" C) (T : Txt mg) : FnOk P w K mg base (CX1 P w) 2 f fd ["thing", "least", "most"] (spNNum K C) := by
  have GW : FnOk P w K mg base CX0 1 fw fdw ["thing"] (spWhole K) := ok_whole DW T
  have bW := binds1 (p := "thing") DW.F fun _ _ _ _ _ _ _ => rfl
  refine D.ok1 scNNum (fun vs H Q E h => ?_) (fun cdv A outer s H vs Q E hr h => ?_)
  · obtain ⟨x, l, m, rfl, _⟩ := h
    rfl
  · obtain ⟨x, l, m, rfl, hk, k1, k2⟩ := h
    refine ⟨_, pss_cons (ps_if (pt_not (pt_val (pe_call GW hr rfl DW.m DW.F.kp bW .nil pass0 (pa_cons (pv 0) pa_nil)))) (pss_one (ps_raise rfl X.q PySem.F.excBase_ValueError (by decide +kernel) PySem.F.excBase_ValueError rfl X.m (pa_cons pe_str pa_nil) raise_out)) pss_nil)
      (pss_cons (ps_if (pt_cmpR op_lt (pv 0) (pv 1) (nomark _)) (pss_one (ps_raise rfl X.q PySem.F.excBase_ValueError (by decide +kernel) PySem.F.excBase_ValueError rfl X.m (pa_cons pe_str pa_nil) raise_out)) pss_nil)
      (pss_cons (ps_if (PW.pt (pw_and (pt_cmp (pc_notN (pv 2))) (pw_and1 (pt_cmpR op_gt (pv 0) (pv 2) (nomark _))))) (pss_one (ps_raise rfl X.q PySem.F.excBase_ValueError (by decide +kernel) PySem.F.excBase_ValueError rfl X.m (pa_cons pe_str pa_nil) raise_out)) pss_nil)
      (pss_one (ps_ret (pv 0))))), ?_⟩
    refine ⟨_, rfl, x, rfl, hk, _, rfl, ?_⟩
    cases hx : isIntV x && !isBlV x with
    | false =>
      refine iteT ⟨by show 1 ≤ sizeLine; decide, k2 ?_⟩
      cases x <;> first | rfl | cases hx
    | true =>
      obtain ⟨i, rfl⟩ : ∃ i, x = .int i := by cases x <;> first | exact ⟨_, rfl⟩ | cases hx
      refine iteF ?_
      refine ⟨_, rfl, _, rfl, _, _, rfl, rfl, _, rfl, ?_⟩
      by_cases hl : i < l
      · rw [decide_eq_true hl]
        refine iteT ⟨by show 1 ≤ sizeLine; decide, k2 ?_⟩
        show (decide (l ≤ i) && _) = false
        rw [decide_eq_false (by omega), Bool.false_and]
      · rw [decide_eq_false hl]
        refine iteF ⟨_, rfl, _, rfl, ?_⟩
        cases m with
        | none =>
          refine iteF (iteF ⟨_, rfl, k1 ?_⟩)
          show (decide (l ≤ i) && true) = true
          rw [decide_eq_true (by omega)]; rfl
        | some m =>
          refine iteT ⟨_, rfl, _, rfl, _, _, rfl, rfl, _, rfl, ?_⟩
          by_cases hm : m < i
          · rw [decide_eq_true hm]
            refine iteT ⟨by show 1 ≤ sizeLine; decide, k2 ?_⟩
            show (decide (l ≤ i) && decide (i ≤ m)) = false
            rw [decide_eq_false (show ¬ i ≤ m by omega), Bool.and_false]
          · rw [decide_eq_false hm]
            refine iteF ⟨_, rfl, k1 ?_⟩
            show (decide (l ≤ i) && decide (i ≤ m)) = true
            rw [decide_eq_true (by omega), decide_eq_true (by omega)]; rfl
noncomputable def spMixed : Sp := fun vs H Q _ => ∃ n k : Int, vs = [.int n, .int k] ∧ 0 ≤ k ∧ k ≤ 1000000 ∧ ∀ r : Int, 0 ≤ r → r < 2147483629 → Q (.int r) H
theorem scMixed : FnScope ["_law_number_here", "_law_k"] ["_law_number_here", "_law_k"] (defScope lMixed) := ⟨rfl, rfl, rfl, by decide +kernel, rfl, by decide +kernel, by decide +kernel⟩
seal PSs PS PE PT PA PG PI PGs PIfs in
theorem ok_mixed {f : Addr} {fd : FuncData} (D : Df K mg "_law_mixed" lMixed f fd) : FnOk P w K mg base CX0 1 f fd ["_law_number_here", "_law_k"] spMixed := by
  refine D.F.ok scMixed (fun vs H Q E h => ?_) (fun cdv A outer s H vs Q E hr h => ?_)
  · obtain ⟨n, k, rfl, _⟩ := h
    rfl
  · obtain ⟨n, k, rfl, h0, h1, kk⟩ := h
    refine ⟨_, pss_cons (ps_set (i := 0) scMixed.nd rfl (Or.inl rfl) (pe_op op_mod (pe_op op_mul (pe_op op_add (pe_op op_add (pe_op op_mod (pv 0) pe_int) (pe_op op_mul (pe_op op_mul pe_int (pv 1)) (pv 1))) (pe_op op_mul pe_int (pv 1))) pe_int) pe_int))
      (pss_one (ps_ret (pe_op op_mod (pe_op op_mul (pv 0) (pe_op op_add pe_int (pe_op op_mul pe_int (pv 1)))) pe_int))), ?_⟩
    refine ⟨_, rfl, _, _, rfl, rfl, (by show (0 : Int) < 2147483647; decide), _, rfl, _, _, rfl, rfl, .inl ⟨by decide, by decide⟩, _, rfl, _, _, rfl, rfl, .inr ⟨by omega, by omega⟩, _, _, rfl, rfl, _, rfl, _, _, rfl, rfl, .inl ⟨by decide, by decide⟩, _, _, rfl, rfl,
      _, _, rfl, rfl, .inr ⟨by decide, by decide⟩, _, _, rfl, rfl, (by show (0 : Int) < 2147483647; decide), ?_⟩
    have b1 := Int.emod_nonneg ((n % 2147483647 + 7919 * k * k + 31 * k) * 48271) (show (2147483647 : Int) ≠ 0 by decide)
    have b2 := Int.emod_lt_of_pos ((n % 2147483647 + 7919 * k * k + 31 * k) * 48271) (show (0 : Int) < 2147483647 by decide)
    refine ⟨_, rfl, _, rfl, _, _, rfl, rfl, .inl ⟨by decide, by decide⟩, _, _, rfl, rfl, _, _, rfl, rfl, .inl ⟨by omega, by omega⟩, _, _, rfl, rfl, (by show (0 : Int) < 2147483629; decide), ?_⟩
    exact kk _ (Int.emod_nonneg _ (by decide)) (Int.emod_lt_of_pos _ (by decide))
noncomputable def spNumber (K : PySem.W.Frag) : Sp := fun vs H Q _ => ∃ (a : Addr) (ns : List Int) (k : Nat), vs = [.ref a, .int k] ∧ SqL K H a (ns.map V.int) ∧ ns.length ≤ 63 ∧ k ≤ 1000 ∧ ∀ (r : Int) H', 0 ≤ r → r < 2147483629 → Same H H' → Q (.int r) H'
theorem scNumber : FnScope ["_law_script", "_law_k"] ["_law_script", "_law_k"] (defScope lNumber) := ⟨rfl, rfl, rfl, by decide +kernel, rfl, by decide +kernel, by decide +kernel⟩
seal PSs PS PE PT PA PG PI PGs PIfs in
theorem ok_number {f fm : Addr} {fd fdm : FuncData} (D : Df K mg "_law_number" lNumber f fd) (DM : Df K mg "_law_mixed" lMixed fm fdm) (T : Txt mg) : FnOk P w K mg base CX0 2 f fd ["_law_script", "_law_k"] (spNumber K) := by
  have GM : FnOk P w K mg base CX0 1 fm fdm ["_law_number_here", "_law_k"] spMixed := ok_mixed DM
  have bM := DM.F.binds (ps := ["_law_number_here", "_law_k"]) fun _ _ _ _ _ _ us hl => match us, hl with | [_, _], _ => rfl
  refine D.F.ok scNumber (fun vs H Q E h => ?_) (fun cdv A outer s H vs Q E hr h => ?_)
  · obtain ⟨a, ns, k, rfl, _⟩ := h
    rfl
  · obtain ⟨a, ns, k, rfl, hS, hl, hk, kk⟩ := h
    refine ⟨_, pss_cons (ps_if (pt_cmpR (op_eqD hr.units100) (pv 0) (pe_lst pa_nil) (nomark _)) (pss_one (ps_ret (pe_call GM hr rfl DM.m DM.F.kp bM .nil pass0 (pa_cons pe_int (pa_cons (pv 1) pa_nil))))) pss_nil)
      (pss_one (ps_ret (pe_call GM hr rfl DM.m DM.F.kp bM .nil pass0 (pa_cons (pe_ix ix_list (pv 0) (pe_op op_mod (pv 1) (pe_callB call_len_seq rfl T.len b_len (pa_cons (pv 0) pa_nil))) (fun _ _ => rfl)) (pa_cons (pv 1) pa_nil))))), ?_⟩
    refine ⟨_, rfl, Nat.zero_le _, fun p hp => ?_⟩
    have sm : Same H (upd H p (.lst [])) := same_upd hp
    refine ⟨.list (ns.map .int), .list [], .lst (sm.seq hS) (dt_ints ns), .lst (SqL.of upd_same) .nil, lay_ints ns, rfl, Nat.le_trans (Nat.min_le_right _ _) (by decide), _, rfl, ?_⟩
    cases ns with
    | nil =>
      refine iteT ?_
      exact ⟨_, rfl, 17, k, rfl, by omega, by omega, fun r r0 r1 => kk r _ r0 r1 sm⟩
    | cons n ns =>
      refine iteF ?_
      have hn : (0 : Int) < (((n :: ns).map V.int).length : Nat) := by simp
      refine ⟨_, rfl, _, rfl, _, rfl, _, _, rfl, .inl (sm.seq hS), _, _, rfl, rfl, hn, ?_⟩
      have hlt : k % (n :: ns).length < (n :: ns).length := Nat.mod_lt _ (by simp)
      have ei : ((k : Nat) : Int) % ((((n :: ns).map V.int).length : Nat) : Int) = ((k % (n :: ns).length : Nat) : Int) := by rw [List.length_map]; omega
      refine ⟨a, _, _, .int ((n :: ns)[k % (n :: ns).length]), rfl, rfl, sm.seq hS, ?_, _, rfl, _, k, rfl, by omega, by omega, fun r r0 r1 => kk r _ r0 r1 sm⟩
      rw [ei]
      exact atI_nat (by rw [List.getElem?_map, List.getElem?_eq_getElem hlt]; rfl)
structure PrL (H : Hp) (a : Addr) (rs : List (Nat × Nat)) : Prop where
  ex : ∃ qs : List Addr, H a = some (.lst (qs.map V.ref)) ∧ Paired (TuA H) qs rs
theorem PrL.same {H H' : Hp} {a : Addr} {rs : List (Nat × Nat)} (h : PrL H a rs) (s : Same H H') : PrL H' a rs := by
  obtain ⟨qs, e, p⟩ := h.ex
  exact ⟨qs, s _ _ e, Paired.imp2 p fun _ _ q => s _ _ q⟩
theorem TuA.upd {H : Hp} {a q : Addr} {r : Nat × Nat} {xs : List V} {o : HO} (h : TuA H q r) (ha : H a = some (.lst xs)) : TuA (upd H a o) q r := by
  show L2.upd H a o q = _
  rw [upd_ne (fun z => by have h' : H q = _ := h; rw [z, ha] at h'; cases h')]
  exact h
theorem PrL.put {H : Hp} {a : Addr} {qs : List Addr} {xs : List V} {rs : List (Nat × Nat)} (ha : H a = some (.lst xs)) (p : Paired (TuA H) qs rs) : PrL (L2.upd H a (.lst (qs.map V.ref))) a rs := ⟨qs, upd_same, Paired.imp2 p fun _ _ h => TuA.upd h ha⟩
theorem PrL.other {H : Hp} {a b : Addr} {xs : List V} {o : HO} {rs : List (Nat × Nat)} (h : PrL H b rs) (ha : H a = some (.lst xs)) (n : b ≠ a) : PrL (L2.upd H a o) b rs := by
  obtain ⟨qs, e, p⟩ := h.ex
  exact ⟨qs, by rw [upd_ne n]; exact e, Paired.imp2 p fun _ _ h => TuA.upd h ha⟩
inductive SpB (K : PySem.W.Frag) (H : Hp) (n : Nat) : V → Bool → Prop
  | good {q : Addr} {r : Nat × Nat} (h : TuA H q r) (o : Okp n r) : SpB K H n (.ref q) true
  | nt {v : V} {ty : String} (h : TyOf K H v (.type ty)) (k : PySem.W.kitOne K (.type ty) (.type "tuple") = some false) : SpB K H n v false
  | ln {q : Addr} {xs : List V} (h : H q = some (.tup xs)) (k : xs.length ≠ 2) : SpB K H n (.ref q) false
  | nw {q : Addr} {x y : V} (h : H q = some (.tup [x, y])) (kx : Known K H x) (ky : Known K H y) (k : (isIntV x && !isBlV x) = false ∨ (isIntV y && !isBlV y) = false) : SpB K H n (.ref q) false
  | rg {q : Addr} {i j : Int} (h : H q = some (.tup [.int i, .int j])) (k : ¬ (0 ≤ i ∧ i ≤ j ∧ j < (n : Int))) : SpB K H n (.ref q) false
theorem ty_same {H H' : Hp} {x : V} {n : String} (h : TyOf K H x (.type n)) (e : Same H H') : TyOf K H' x (.type n) := by
  cases h with
  | non => exact .non
  | bl b => exact .bl b
  | int i => exact .int i
  | str z => exact .str z
  | flt z => exact .flt z
  | lst q => exact .lst (e _ _ q)
  | frz q => exact .frz (e _ _ q)
  | tup q => exact .tup (e _ _ q)
  | dK q => exact .dK (e _ _ q)
  | dT q => exact .dT (e _ _ q)
theorem Known.same' {H H' : Hp} {x : V} (h : Known K H x) (e : Same H H') : Known K H' x := by
  obtain ⟨t, h⟩ := h
  exact ⟨t, ty_same h e⟩
theorem SpB.same {H H' : Hp} {n : Nat} {v : V} {b : Bool} (h : SpB K H n v b) (e : Same H H') : SpB K H' n v b := by
  cases h with
  | good h o => exact .good (e _ _ h) o
  | nt h k => exact .nt (ty_same h e) k
  | ln h k => exact .ln (e _ _ h) k
  | nw h kx ky k => exact .nw (e _ _ h) (Known.same' kx e) (Known.same' ky e) k
  | rg h k => exact .rg (e _ _ h) k
noncomputable def spIsS (K : PySem.W.Frag) : Sp := fun vs H Q _ => ∃ (v : V) (n : Nat) (b : Bool), vs = [v, .int n] ∧ SpB K H n v b ∧ Q (.bl b) H
theorem scIsS : FnScope ["thing", "size"] ["thing", "size"] (defScope sIsS) := ⟨rfl, rfl, rfl, by decide +kernel, rfl, by decide +kernel, by decide +kernel⟩
seal PSs PS PE PT PA PG PI PGs PIfs in
theorem ok_iss {f fw : Addr} {fd fdw : FuncData} (D : Df K mg "is_span" sIsS f fd) (DW : Df K mg "is_whole" sWhole fw fdw) (T : Txt mg) : FnOk P w K mg base CX0 2 f fd ["thing", "size"] (spIsS K) := by
  have GW : FnOk P w K mg base CX0 1 fw fdw ["thing"] (spWhole K) := ok_whole DW T
  have bW := binds1 (p := "thing") DW.F fun _ _ _ _ _ _ _ => rfl
  refine D.F.ok scIsS (fun vs H Q E h => ?_) (fun cdv A outer s H vs Q E hr h => ?_)
  · obtain ⟨v, n, b, rfl, _⟩ := h
    rfl
  · obtain ⟨v, n, b, rfl, hB, k⟩ := h
    refine ⟨_, (pss_cons (ps_if (PW.pt (pw_or (pt_not (pt_val (pe_callB (call_isiK (K := K) rfl) rfl T.isi b_isi (pa_cons (pv 0) (pa_cons (pe_bltn (v := .ty "tuple") rfl T.tuple b_tuple rfl) pa_nil))))) (pw_or1 (pt_cmpR op_ne (pe_callB call_len_seq rfl T.len b_len (pa_cons (pv 0) pa_nil)) pe_int (nomark _))))) (pss_one (ps_ret pe_bl)) pss_nil)
      (pss_cons (ps_if (PW.pt (pw_or (pt_not (pt_val (pe_call GW hr rfl DW.m DW.F.kp bW .nil pass0 (pa_cons (pe_ix ix_tup (pv 0) pe_int (fun _ _ => rfl)) pa_nil)))) (pw_or1 (pt_not (pt_val (pe_call GW hr rfl DW.m DW.F.kp bW .nil pass0 (pa_cons (pe_ix ix_tup (pv 0) pe_int (fun _ _ => rfl)) pa_nil))))))) (pss_one (ps_ret pe_bl)) pss_nil)
      (pss_one (ps_ret (pe_chain3 op_le op_le op_lt pe_int (pe_ix ix_tup (pv 0) pe_int (fun _ _ => rfl)) (pe_ix ix_tup (pv 0) pe_int (fun _ _ => rfl)) (pv 1)))))), ?_⟩
    have kn : ∀ {i : Int}, Known K H (.int i) := ⟨_, .int _⟩
    cases hB with
    | good hq ok =>
      rename_i q r
      obtain ⟨o1, o2⟩ := ok
      refine ⟨_, rfl, .ref q, .ty "tuple", _, _, rfl, .tup hq, .inl ⟨_, rfl, kit_tt⟩, _, rfl, iteF ?_⟩
      refine ⟨_, rfl, q, _, rfl, .inr (SqT.of hq), rfl, _, rfl, iteF ?_⟩
      refine ⟨_, rfl, q, _, _, _, rfl, rfl, SqT.of hq, atI_nat (j := 0) rfl, _, rfl, kn, _, rfl, iteF ?_⟩
      refine ⟨_, rfl, q, _, _, _, rfl, rfl, SqT.of hq, atI_nat (j := 1) rfl, _, rfl, kn, _, rfl, iteF ?_⟩
      refine ⟨_, rfl, q, _, _, _, rfl, rfl, SqT.of hq, atI_nat (j := 0) rfl, _, _, rfl, rfl, _, rfl, ?_⟩
      rw [decide_eq_true (show (0 : Int) ≤ (r.1 : Int) by omega)]
      refine iteT ⟨_, rfl, q, _, _, _, rfl, rfl, SqT.of hq, atI_nat (j := 1) rfl, _, _, rfl, rfl, _, rfl, ?_⟩
      rw [decide_eq_true (show (r.1 : Int) ≤ (r.2 : Int) by omega)]
      refine iteT ⟨_, rfl, _, _, rfl, rfl, ?_⟩
      show Q (.bl (decide ((r.2 : Int) < (n : Int)))) H
      rw [decide_eq_true (show (r.2 : Int) < (n : Int) by omega)]
      exact k
    | nt h kt => exact ⟨_, rfl, v, .ty "tuple", _, false, rfl, h, .inl ⟨_, rfl, kt⟩, _, rfl, iteT k⟩
    | ln hq hl =>
      rename_i q xs
      refine ⟨_, rfl, .ref q, .ty "tuple", _, _, rfl, .tup hq, .inl ⟨_, rfl, kit_tt⟩, _, rfl, iteF ?_⟩
      refine ⟨_, rfl, q, _, rfl, .inr (SqT.of hq), rfl, _, rfl, ?_⟩
      have : (!decide (V.int ((xs.length : Nat) : Int) = V.int 2)) = true := by rw [dec_n (by omega)]; rfl
      rw [this]
      exact iteT k
    | nw hq kx ky hk =>
      rename_i q x y
      refine ⟨_, rfl, .ref q, .ty "tuple", _, _, rfl, .tup hq, .inl ⟨_, rfl, kit_tt⟩, _, rfl, iteF ?_⟩
      refine ⟨_, rfl, q, _, rfl, .inr (SqT.of hq), rfl, _, rfl, iteF ?_⟩
      refine ⟨_, rfl, q, _, _, _, rfl, rfl, SqT.of hq, atI_nat (j := 0) rfl, x, rfl, kx, _, rfl, ?_⟩
      cases hx : (isIntV x && !isBlV x) with
      | false => exact iteT k
      | true =>
        refine iteF ⟨_, rfl, q, _, _, _, rfl, rfl, SqT.of hq, atI_nat (j := 1) rfl, y, rfl, ky, _, rfl, ?_⟩
        have hy : (isIntV y && !isBlV y) = false := hk.resolve_left (by rw [hx]; decide)
        rw [hy]
        exact iteT k
    | rg hq hk =>
      rename_i q i j
      refine ⟨_, rfl, .ref q, .ty "tuple", _, _, rfl, .tup hq, .inl ⟨_, rfl, kit_tt⟩, _, rfl, iteF ?_⟩
      refine ⟨_, rfl, q, _, rfl, .inr (SqT.of hq), rfl, _, rfl, iteF ?_⟩
      refine ⟨_, rfl, q, _, _, _, rfl, rfl, SqT.of hq, atI_nat (j := 0) rfl, _, rfl, kn, _, rfl, iteF ?_⟩
      refine ⟨_, rfl, q, _, _, _, rfl, rfl, SqT.of hq, atI_nat (j := 1) rfl, _, rfl, kn, _, rfl, iteF ?_⟩
      refine ⟨_, rfl, q, _, _, _, rfl, rfl, SqT.of hq, atI_nat (j := 0) rfl, _, _, rfl, rfl, _, rfl, ?_⟩
      by_cases h0 : (0 : Int) ≤ i
      · rw [decide_eq_true h0]
        refine iteT ⟨_, rfl, q, _, _, _, rfl, rfl, SqT.of hq, atI_nat (j := 1) rfl, _, _, rfl, rfl, _, rfl, ?_⟩
        by_cases h1 : i ≤ j
        · rw [decide_eq_true h1]
          refine iteT ⟨_, rfl, _, _, rfl, rfl, ?_⟩
          show Q (.bl (decide (j < (n : Int)))) H
          rw [decide_eq_false (fun z => hk ⟨h0, h1, z⟩)]
          exact k
        · rw [decide_eq_false h1]
          exact iteF k
      · rw [decide_eq_false h0]
        exact iteF k
noncomputable def spNSp (K : PySem.W.Frag) (CS : Addr) : Sp := fun vs H Q E => ∃ (v : V) (n : Nat), vs = [v, .int n] ∧ ((∃ ty, TyOf K H v (.type ty) ∧ PySem.W.kitOne K (.type ty) (.type "list") = some false ∧ E (.ref CS) none H) ∨
  ∃ (a : Addr) (xs : List V) (bs : List Bool), v = .ref a ∧ H a = some (.lst xs) ∧ Paired (SpB K H n) xs bs ∧ (bs.all id = true → Q (.ref a) H) ∧ (bs.all id = false → E (.ref CS) none H))
theorem scNSp : FnScope ["spans", "size", "span"] ["spans", "size"] (defScope sNSp) := ⟨rfl, rfl, rfl, by decide +kernel, rfl, by decide +kernel, by decide +kernel⟩
seal PSs PS PE PT PA PG PI PGs PIfs in
theorem ok_nsp {f fs_ fw : Addr} {fd fds fdw : FuncData} (D : Df K mg "need_spans" sNSp f fd) (DS : Df K mg "is_span" sIsS fs_ fds) (DW : Df K mg "is_whole" sWhole fw fdw) (X : Ex K mg "BadSpan" CS) (T : Txt mg) : FnOk P w K mg base (CX1 P w) 3 f fd ["spans", "size"] (spNSp K CS) := by
  have GS : FnOk P w K mg base CX0 2 fs_ fds ["thing", "size"] (spIsS K) := ok_iss DS DW T
  have bS := DS.F.binds (ps := ["thing", "size"]) fun _ _ _ _ _ _ us hl => us2 (fun _ _ => rfl) us hl
  refine D.F.ok1 scNSp (fun vs H Q E h => ?_) (fun cdv A outer s H vs Q E hr h => ?_)
  · obtain ⟨v, n, rfl, _⟩ := h
    rfl
  · obtain ⟨v, n, rfl, h⟩ := h
    refine ⟨_, (pss_cons (ps_if (pt_not (pt_val (pe_callB call_isi rfl T.isi b_isi (pa_cons (pv 0) (pa_cons (pe_bltn (v := .ty "list") rfl T.list b_list rfl) pa_nil))))) (pss_one (ps_raise rfl X.q PySem.F.excBase_ValueError (by decide +kernel) PySem.F.excBase_ValueError rfl X.m (pa_cons pe_str pa_nil) raise_out)) pss_nil)
      (pss_cons (ps_for PassesOwn.leaving rfl (pi_list (pv 0)) (pg_name (i := 2) scNSp.nd rfl (Or.inl rfl)) (pss_one (ps_if (pt_not (pt_val (pe_call GS hr rfl DS.m DS.F.kp bS .nil pass0 (pa_cons (pv 2) (pa_cons (pv 1) pa_nil))))) (pss_one (ps_raise rfl X.q PySem.F.excBase_ValueError (by decide +kernel) PySem.F.excBase_ValueError rfl X.m (pa_cons pe_str pa_nil) raise_out)) pss_nil)))
      (pss_one (ps_ret (pv 0))))), ?_⟩
    rcases h with ⟨ty, hty, hk, kE⟩ | ⟨a, xs, bs, rfl, hA, hP, k1, k2⟩
    · exact ⟨_, rfl, v, .ty "list", _, false, rfl, hty, .inl ⟨_, rfl, hk⟩, _, rfl, iteT ⟨by show 1 ≤ sizeLine; decide, kE⟩⟩
    · refine ⟨_, rfl, .ref a, .ty "list", _, true, rfl, .lst hA, .inl ⟨_, rfl, kit_ll⟩, _, rfl, iteF ?_⟩
      refine ⟨_, rfl, a, rfl, ⟨_, SqL.of hA⟩, ?_⟩
      refine for_list (xs := xs) (fun i σ H' => H' = H ∧ (∃ o, σ = [some (.ref a), some (.int (n : Int)), o]) ∧ (bs.take i).all id = true) ⟨rfl, ⟨none, rfl⟩, rfl⟩ (fun i σ H' _ q => by rw [q.1]; exact SqL.of hA) ?_ ?_
      · rintro i x σ H' hxi ⟨rfl, ⟨o, rfl⟩, hg⟩
        obtain ⟨b, hb, hB⟩ := paired_get hP hxi
        refine ⟨_, rfl, _, rfl, x, n, b, rfl, hB, _, rfl, ?_⟩
        cases b with
        | true => exact iteF ⟨rfl, ⟨_, rfl⟩, by rw [List.take_add_one, hb, List.all_append, hg]; rfl⟩
        | false =>
          refine iteT ⟨by show 1 ≤ sizeLine; decide, k2 ?_⟩
          cases e : bs.all id with
          | false => rfl
          | true => have := List.all_eq_true.mp e false (List.mem_of_getElem? hb); cases this
      · rintro σ H' ⟨rfl, ⟨o, rfl⟩, hg⟩
        rw [Paired.len hP, List.take_of_length_le (Nat.le_refl _)] at hg
        exact ⟨_, rfl, k1 hg⟩
noncomputable def spNb : Sp := fun vs H Q _ => ∃ (a : Addr) (rs : List (Nat × Nat)), vs = [.ref a] ∧ PrL H a rs ∧ (∀ r ∈ rs, r.1 ≤ r.2 ∧ r.2 < 1000) ∧ rs.length < 64 ∧ ∀ p H' ms, Same H H' → H p = none → PrL H' p ms → Rs ms → (∀ x, Cov ms x ↔ Cov rs x) → ms.length ≤ 64 → Q (.ref p) H'
theorem max_nat (a b : Nat) : (if ((b : Nat) : Int) > ((a : Nat) : Int) then ((b : Nat) : Int) else ((a : Nat) : Int)) = ((max a b : Nat) : Int) := by split <;> omega
theorem scNb : FnScope ["spans", "found", "begin", "end"] ["spans"] (defScope sNb) := ⟨rfl, rfl, rfl, by decide +kernel, rfl, by decide +kernel, by decide +kernel⟩
seal PSs PS PE PT PA PG PI PGs PIfs in
theorem ok_nb {f : Addr} {fd : FuncData} (D : Df K mg "rows_of_neighbours" sNb f fd) (T : Txt mg) : FnOk P w K mg base CX0 1 f fd ["spans"] spNb := by
  refine D.F.ok scNb (fun vs H Q E h => ?_) (fun cdv A outer s H vs Q E hr h => ?_)
  · obtain ⟨a, rs, rfl, _⟩ := h
    rfl
  · obtain ⟨a, rs, rfl, hA, hw, h64, kk⟩ := h
    have hz : (sizeLine : Nat) = 16777216 := sizeLine_eq
    obtain ⟨qs, eA, pA⟩ := hA.ex
    refine ⟨_, (pss_cons (ps_set (i := 1) scNb.nd rfl (Or.inl rfl) (pe_lst pa_nil))
      (pss_cons (ps_for PassesOwn.never rfl (pi_list (pe_callB call_sortedT rfl T.sorted b_sorted (pa_cons (pv 0) pa_nil))) (pg_tup (n := 2) rfl (pgs_cons (pg_name (i := 2) scNb.nd rfl (Or.inl rfl)) (pgs_cons (pg_name (i := 3) scNb.nd rfl (Or.inl rfl)) pgs_nil))) (pss_one (ps_if (PW.pt (pw_and (pt_cmpR op_gt (pe_callB call_len_seq rfl T.len b_len (pa_cons (pv 1) pa_nil)) pe_int (nomark _)) (pw_and1 (pt_cmpR op_le (pv 2) (pe_op op_add (pe_ix ix_tup (pe_ix ix_list (pv 1) (pe_un un_neg pe_int) (fun _ _ => rfl)) pe_int (fun _ _ => rfl)) pe_int) (nomark _))))) (pss_one (ps_asg (pe_tup (pa_cons (pe_ix ix_tup (pe_ix ix_list (pv 1) (pe_un un_neg pe_int) (fun _ _ => rfl)) pe_int (fun _ _ => rfl)) (pa_cons (pe_callB (call_max2 rfl) rfl T.max b_max (pa_cons (pe_ix ix_tup (pe_ix ix_list (pv 1) (pe_un un_neg pe_int) (fun _ _ => rfl)) pe_int (fun _ _ => rfl)) (pa_cons (pv 3) pa_nil))) pa_nil))) (pg_sub (pv 1) (pe_un un_neg pe_int) set_list))) (pss_one (ps_expr (pe_bm PySem.F.plainAttrs_list PySem.F.slot_list_append PySem.F.type_list_append mt_append (pv 1) (pa_cons (pe_tup (pa_cons (pv 2) (pa_cons (pv 3) pa_nil))) pa_nil)))))))
      (pss_one (ps_ret (pv 1))))), ?_⟩
    refine ⟨Nat.zero_le _, fun r hr0 => ⟨_, rfl, a, qs, rs, rfl, same_upd hr0 _ _ eA, Paired.imp2 pA fun _ _ q => same_upd hr0 _ _ q, fun x hx => (hw x hx).2, h64, fun l qs' rs' hl pr' pm so => ⟨l, rfl, ⟨_, SqL.of upd_same⟩, ?_⟩⟩⟩
    have nlr : r ≠ l := ne_of_none upd_same hl
    have hl0 : H l = none := (same_upd hr0).free hl
    have s2 : Same H (upd (upd H r (.lst [])) l (.lst (qs'.map V.ref))) := Same.upd (same_upd hr0) hl
    have er2 : (upd (upd H r (.lst [])) l (.lst (qs'.map V.ref))) r = some (.lst []) := by rw [upd_ne nlr]; exact upd_same
    have el2 : (upd (upd H r (.lst [])) l (.lst (qs'.map V.ref))) l = some (.lst (qs'.map V.ref)) := upd_same
    have pr2 : Paired (TuA (upd (upd H r (.lst [])) l (.lst (qs'.map V.ref)))) qs' rs' := Paired.imp2 pr' fun _ _ q => same_upd hl _ _ q
    generalize upd (upd H r (.lst [])) l (.lst (qs'.map V.ref)) = H2 at s2 er2 el2 pr2
    have plen := Paired.len pr2
    have rlen := pm.length_eq
    refine for_list (xs := qs'.map V.ref) (fun i σ H' => ∃ (acc : List (Nat × Nat)) (o2 o3 : Option V), σ = [some (.ref a), some (.ref r), o2, o3] ∧ Same H H' ∧ H' l = some (.lst (qs'.map V.ref)) ∧ Paired (TuA H') qs' rs' ∧ PrL H' r acc ∧ Mg acc (rs'.take i) ∧ acc.length ≤ i ∧ ∀ y ∈ acc, ∀ x, rs'[i]? = some x → y.1 ≤ x.1) ?_ ?_ ?_ ?_
    · exact ⟨[], none, none, rfl, s2, el2, pr2, ⟨[], er2, .nil⟩, ⟨Rs.nil, fun p => Iff.rfl⟩, Nat.le_refl _, fun y hy => nomatch hy⟩
    · rintro i σ H' _ ⟨acc, o2, o3, _, _, e, _⟩
      exact SqL.of e
    · rintro i v σ H' hv ⟨acc, o2, o3, rfl, sm, el, pr3, hR, hM, hal, hle⟩
      rw [List.getElem?_map] at hv
      cases hpi : qs'[i]? with
      | none => rw [hpi] at hv; cases hv
      | some q =>
        rw [hpi] at hv
        have hv' : v = .ref q := (Option.some.inj hv).symm
        subst hv'
        obtain ⟨x, hxi, hx⟩ := paired_get pr3 hpi
        have hxm := List.mem_of_getElem? hxi
        have hxw := hw x (pm.mem_iff.mp hxm)
        have hi64 : i < 64 := by have := (List.getElem?_eq_some_iff.mp hxi).1; omega
        obtain ⟨us, eU, pU⟩ := hR.ex
        have ulen := Paired.len pU
        have nxt : ∀ z, rs'[i + 1]? = some z → x.1 ≤ z.1 := fun z hz' => by
          obtain ⟨h1, e1⟩ := List.getElem?_eq_some_iff.mp hxi
          obtain ⟨h2, e2⟩ := List.getElem?_eq_some_iff.mp hz'
          have q := List.pairwise_iff_getElem.mp so i (i + 1) h1 h2 (by omega)
          rw [e1, e2] at q
          unfold rank at q
          have := hxw.2
          have := (hw z (pm.mem_iff.mp (List.mem_of_getElem? hz'))).2
          omega
        have tk : rs'.take (i + 1) = rs'.take i ++ [x] := by rw [List.take_add_one, hxi]; rfl
        refine ⟨q, _, rfl, SqT.of hx, rfl, _, _, rfl, _, _, rfl, rfl, ?_⟩
        refine ⟨_, rfl, r, _, rfl, .inl (SqL.of eU), _, _, rfl, rfl, _, rfl, ?_⟩
        have addR : (∀ y ∈ acc, y.2 + 1 < x.1) → tDrop (tBM K "list" rAppend (tVar 1) (tCons (tTup (tCons (tVar 2) (tCons (tVar 3) tNil))) tNil)) { nx := fun σ2 H2 => ∃ (acc : List (Nat × Nat)) (o2 o3 : Option V), σ2 = [some (.ref a), some (.ref r), o2, o3] ∧ Same H H2 ∧ H2 l = some (.lst (qs'.map V.ref)) ∧ Paired (TuA H2) qs' rs' ∧ PrL H2 r acc ∧ Mg acc (rs'.take (i + 1)) ∧ acc.length ≤ i + 1 ∧ ∀ y ∈ acc, ∀ x, rs'[i + 1]? = some x → y.1 ≤ x.1, rt := fun _ _ => False } [some (.ref a), some (.ref r), some (.int (x.1 : Int)), some (.int (x.2 : Int))] H' := fun far => by
          refine ⟨_, rfl, .inl ⟨rfl, _, SqL.of eU⟩, _, rfl, _, rfl, (by show 2 ≤ sizeLine; omega), fun t ht => ?_⟩
          have s5 := same_upd (o := .tup [.int (x.1 : Int), .int (x.2 : Int)]) ht
          have eU5 := s5 _ _ eU
          refine ⟨r, _, _, rfl, rfl, eU5, by rw [List.length_map]; omega, ?_⟩
          have pU5 : Paired (TuA (upd H' t (.tup [.int (x.1 : Int), .int (x.2 : Int)]))) (us ++ [t]) (acc ++ [x]) := Paired.app (Paired.imp2 pU fun _ _ q => s5 _ _ q) upd_same
          have hR6 := PrL.put eU5 pU5
          rw [List.map_append] at hR6
          refine ⟨acc ++ [x], _, _, rfl, same_put (sm.trans s5) hr0, by rw [upd_ne (Ne.symm nlr)]; exact s5 _ _ el, Paired.imp2 pr3 fun _ _ q => TuA.upd (s5 _ _ q) eU5, hR6, by rw [tk]; exact hM.add hxw.1 far, by rw [List.length_append]; show _ + 1 ≤ _; omega, fun y hy z hz' => ?_⟩
          rcases List.mem_append.mp hy with c | c
          · have := hle y c x hxi; have := nxt z hz'; omega
          · rw [List.mem_singleton.mp c]; exact nxt z hz'
        by_cases h0 : acc = []
        · subst h0
          have u0 : us = [] := List.length_eq_zero_iff.mp ulen
          subst u0
          refine iteF (iteF ?_)
          obtain ⟨z1, z2⟩ := (show _ ∧ _ from ⟨addR (fun y hy => nomatch hy), trivial⟩)
          exact z1
        · obtain ⟨ini, b, rfl⟩ := last_of h0
          obtain ⟨us', u, rfl⟩ : ∃ us' u, us = us' ++ [u] := last_of (fun z => by rw [z] at ulen; rw [List.length_append] at ulen; simp at ulen)
          have l1 : us'.length = ini.length := by rw [List.length_append, List.length_append] at ulen; simpa using ulen
          have hbu : TuA H' u b := by
            have := Paired.at pU (i := ini.length) (b := b) (by simp)
            obtain ⟨a', e', f'⟩ := this
            rw [← l1] at e'
            have : a' = u := by simpa using e'.symm
            rw [this] at f'
            exact f'
          have lp : (0 : Int) < (((us' ++ [u]).map V.ref).length : Nat) := by rw [List.length_map, List.length_append]; show (0 : Int) < ((_ + 1 : Nat) : Int); omega
          rw [decide_eq_true lp]
          have atl : atI ((us' ++ [u]).map V.ref) (-1) = some (.ref u) := by rw [List.map_append]; exact at_last _ _
          refine iteT ⟨_, rfl, _, rfl, _, rfl, r, _, _, .ref u, rfl, rfl, SqL.of eU, atl, u, _, _, _, rfl, rfl, SqT.of hbu, atI_nat (j := 1) rfl, _, _, rfl, rfl, _, _, rfl, rfl, _, rfl, ?_⟩
          by_cases hc : (x.1 : Int) ≤ (b.2 : Int) + 1
          · rw [decide_eq_true hc]
            refine iteT ⟨_, rfl, _, rfl, r, _, _, .ref u, rfl, rfl, SqL.of eU, atl, u, _, _, _, rfl, rfl, SqT.of hbu, atI_nat (j := 0) rfl, _, rfl, _, rfl, r, _, _, .ref u, rfl, rfl, SqL.of eU, atl, u, _, _, _, rfl, rfl, SqT.of hbu, atI_nat (j := 1) rfl, _, rfl, _, _, rfl, ?_⟩
            rw [max_nat]
            refine ⟨(by show 2 ≤ sizeLine; omega), fun t ht => ?_⟩
            have s5 := same_upd (o := .tup [.int (b.1 : Int), .int ((max b.2 x.2 : Nat) : Int)]) ht
            have eU5 := s5 _ _ eU
            refine ⟨_, rfl, _, rfl, r, _, _, us'.length, rfl, rfl, eU5, ?_, ?_⟩
            · rw [List.map_append]
              have q := ixN_last (us'.map V.ref) (.ref u)
              rw [List.length_map] at q
              exact q
            · have es : ((us' ++ [u]).map V.ref).set us'.length (.ref t) = (us' ++ [t]).map V.ref := by
                rw [List.map_append, List.map_append]
                have q := set_last (us'.map V.ref) (.ref u) (.ref t)
                rw [List.length_map] at q
                exact q
              rw [es]
              have pI : Paired (TuA H') us' ini := by
                have q := Paired.tk us'.length pU
                rw [List.take_left] at q
                rw [l1, List.take_left] at q
                exact q
              have pU5 : Paired (TuA (upd H' t (.tup [.int (b.1 : Int), .int ((max b.2 x.2 : Nat) : Int)]))) (us' ++ [t]) (ini ++ [(b.1, max b.2 x.2)]) := Paired.app (Paired.imp2 pI fun _ _ q => s5 _ _ q) upd_same
              have hb1 := hle b (List.mem_append_right _ List.mem_cons_self) x hxi
              refine ⟨ini ++ [(b.1, max b.2 x.2)], _, _, rfl, same_put (sm.trans s5) hr0, by rw [upd_ne (Ne.symm nlr)]; exact s5 _ _ el, Paired.imp2 pr3 fun _ _ q => TuA.upd (s5 _ _ q) eU5, PrL.put eU5 pU5, by rw [tk]; exact hM.grow hxw.1 hb1 (by omega), by rw [List.length_append] at hal ⊢; have h1 : ini.length + 1 ≤ i := hal; show ini.length + 1 ≤ i + 1; omega, fun y hy z hz' => ?_⟩
              have nz := nxt z hz'
              rcases List.mem_append.mp hy with c | c
              · have := hle y (List.mem_append_left _ c) x hxi; omega
              · rw [List.mem_singleton.mp c]; show b.1 ≤ z.1; omega
          · rw [decide_eq_false hc]
            exact iteF (addR (WN.far_of hM.r (by omega)))
    · rintro σ H' ⟨acc, o2, o3, rfl, sm, el, pr3, hR, hM, hal, _⟩
      have ll : (qs'.map V.ref).length = rs'.length := by rw [List.length_map, plen]
      rw [ll, List.take_of_length_le (Nat.le_refl _)] at hM
      rw [ll] at hal
      exact ⟨_, rfl, kk r H' acc sm hr0 hR hM.r (fun p => (hM.c p).trans (WN.cov_perm pm p)) (by omega)⟩
theorem ndWin : (["begin", "end", "around", "size"] : List Str).Nodup := by decide +kernel
theorem sub_nat (a b : Nat) : (if (0 : Int) > (a : Int) - (b : Int) then 0 else (a : Int) - (b : Int)) = ((a - b : Nat) : Int) := by split <;> omega
theorem min_nat {a b n : Nat} (h : 0 < n) : (if (n : Int) - 1 < (a : Int) + (b : Int) then (n : Int) - 1 else (a : Int) + (b : Int)) = ((min (a + b) (n - 1) : Nat) : Int) := by split <;> omega
noncomputable def spWin (K : PySem.W.Frag) (CN CS : Addr) : Sp := fun vs H Q E => ∃ (x0 sp x2 : V), vs = [x0, sp, x2] ∧ Known K H x0 ∧ Known K H x2 ∧ (
  (goodN x0 0 none = false ∧ E (.ref CN) none H) ∨ (goodN x0 0 none = true ∧ goodN x2 0 none = false ∧ E (.ref CN) none H) ∨
  ∃ (n ar : Nat), x0 = .int n ∧ x2 = .int ar ∧ (
    (∃ ty, TyOf K H sp (.type ty) ∧ PySem.W.kitOne K (.type ty) (.type "list") = some false ∧ E (.ref CS) none H) ∨
    (∃ (a : Addr) (xs : List V) (bs : List Bool), sp = .ref a ∧ H a = some (.lst xs) ∧ Paired (SpB K H n) xs bs ∧ bs.all id = false ∧ E (.ref CS) none H) ∨
    (∃ (a : Addr) (rs : List (Nat × Nat)), sp = .ref a ∧ PrL H a rs ∧ (∀ r ∈ rs, Okp n r) ∧ n ≤ 1000 ∧ rs.length < 64 ∧
      ∀ p H' ms, Same H H' → H p = none → PrL H' p ms → Rs ms → (∀ x, Cov ms x ↔ x < n ∧ ∃ r ∈ rs, near ar r x) → ms.length ≤ 64 → Q (.ref p) H')))
theorem sp_all {H : Hp} {n : Nat} : ∀ {qs : List Addr} {rs : List (Nat × Nat)}, Paired (TuA H) qs rs → (∀ r ∈ rs, Okp n r) → Paired (SpB K H n) (qs.map V.ref) (List.replicate rs.length true)
  | [], [], .nil, _ => .nil
  | _ :: _, _ :: _, .cons h t, ok => .cons (.good h (ok _ List.mem_cons_self)) (sp_all t fun r hr => ok r (List.mem_cons_of_mem _ hr))
theorem all_rep : ∀ n : Nat, (List.replicate n true).all id = true
  | 0 => rfl
  | n + 1 => by rw [List.replicate_succ, List.all_cons, all_rep n]; rfl
theorem good_int {n : Nat} : goodN (.int (n : Int)) 0 none = true := by
  show (decide ((0 : Int) ≤ (n : Int)) && true) = true
  rw [decide_eq_true (by omega)]
  rfl
theorem scWin : FnScope ["size", "spans", "around"] ["size", "spans", "around"] (defScope sWin) := ⟨rfl, rfl, rfl, by decide +kernel, rfl, by decide +kernel, by decide +kernel⟩
seal PSs PS PE PT PA PG PI PGs PIfs in
theorem ok_win {f fn fw fs_ fi fb : Addr} {fd fdn fdw fds fdi fdb : FuncData} (D : Df K mg "windows" sWin f fd) (DN : DfD K mg "need_number" sNNum fn fdn #[.none]) (DW : Df K mg "is_whole" sWhole fw fdw) (DS : Df K mg "need_spans" sNSp fs_ fds) (DI : Df K mg "is_span" sIsS fi fdi) (DB : Df K mg "rows_of_neighbours" sNb fb fdb) (XN : Ex K mg "BadNumber" CN) (XS : Ex K mg "BadSpan" CS) (T : Txt mg) : FnOk P w K mg base (CX1 P w) 4 f fd ["size", "spans", "around"] (spWin K CN CS) := by
  have GN : FnOk P w K mg base (CX1 P w) 3 fn fdn ["thing", "least", "most"] (spNNum K CN) := (ok_nnum DN DW XN T).mono (by decide)
  have GS : FnOk P w K mg base (CX1 P w) 3 fs_ fds ["spans", "size"] (spNSp K CS) := ok_nsp DS DI DW XS T
  have GB : FnOk P w K mg base CX0 1 fb fdb ["spans"] spNb := ok_nb DB T
  have bN2 := DN.binds (ps := ["thing", "least", "most"]) (ds := [.none]) fun T kV doc pm an cdv ct us hl => match us, (show us.length = 2 by simpa using hl) with | [_, _], _ => ⟨_, rfl, rfl⟩
  have bS := DS.F.binds (ps := ["spans", "size"]) fun _ _ _ _ _ _ us hl => us2 (fun _ _ => rfl) us hl
  have bB := binds1 (p := "spans") DB.F fun _ _ _ _ _ _ _ => rfl
  refine D.F.ok1 scWin (fun vs H Q E h => ?_) (fun cdv A outer s H vs Q E hr h => ?_)
  · obtain ⟨x0, sp, x2, rfl, _⟩ := h
    rfl
  · obtain ⟨x0, sp, x2, rfl, kx0, kx2, h⟩ := h
    have hz : (sizeLine : Nat) = 16777216 := sizeLine_eq
    refine ⟨_, (pss_cons (ps_expr (pe_call GN hr rfl DN.m DN.kp bN2 (dvs := [.non]) (.cons rfl .nil) (pass_out (E' := E) fun _ _ _ h => h) (pa_cons (pv 0) (pa_cons pe_int pa_nil))))
      (pss_cons (ps_expr (pe_call GN hr rfl DN.m DN.kp bN2 (dvs := [.non]) (.cons rfl .nil) (pass_out (E' := E) fun _ _ _ h => h) (pa_cons (pv 2) (pa_cons pe_int pa_nil))))
      (pss_cons (ps_expr (pe_call GS hr rfl DS.m DS.F.kp bS .nil (pass_out (E' := E) fun _ _ _ h => h) (pa_cons (pv 1) (pa_cons (pv 0) pa_nil))))
      (pss_one (ps_ret (pe_call (GB.mono (by decide)) hr rfl DB.m DB.F.kp bB .nil pass0 (pa_cons (pe_comp (own := 2) (caps := [2, 0]) (N := ["begin", "end", "around", "size"]) (N0 := ["size", "spans", "around"]) (sc0 := defScope sWin) rfl (pi_list (pv 1)) (fun _ _ _ => pg_tup (n := 2) rfl (pgs_cons (pg_name (i := 0) ndWin rfl (Or.inl rfl)) (pgs_cons (pg_name (i := 1) ndWin rfl (Or.inl rfl)) pgs_nil))) (fun _ _ _ => pf_none) (fun _ _ _ => pe_tup (pa_cons (pe_callB (call_max2 rfl) rfl T.max b_max (pa_cons (pe_op op_sub (pv 0) (pv 2)) (pa_cons pe_int pa_nil))) (pa_cons (pe_callB (call_min2 rfl) rfl T.min b_min (pa_cons (pe_op op_add (pv 1) (pv 2)) (pa_cons (pe_op op_sub (pv 3) pe_int) pa_nil))) pa_nil))) (gk_tup (gks_cons (gk_name (by decide)) (gks_cons (gk_name (by decide)) gks_nil))) rfl rfl
        (by decide +kernel) rfl (by decide +kernel) (by decide +kernel) rfl (by decide +kernel)) pa_nil))))))), ?_⟩
    rcases h with ⟨h0, kE⟩ | ⟨h0, h2, kE⟩ | ⟨n, ar, rfl, rfl, h⟩
    · exact ⟨_, rfl, x0, 0, none, rfl, kx0, (fun c => by rw [h0] at c; cases c), fun _ => kE⟩
    · exact ⟨_, rfl, x0, 0, none, rfl, kx0, fun _ => ⟨_, rfl, x2, 0, none, rfl, kx2, (fun c => by rw [h2] at c; cases c), fun _ => kE⟩, (fun c => by rw [h0] at c; cases c)⟩
    · refine ⟨_, rfl, _, 0, none, rfl, kx0, fun _ => ?_, (fun c => by rw [good_int] at c; cases c)⟩
      refine ⟨_, rfl, _, 0, none, rfl, kx2, fun _ => ?_, (fun c => by rw [good_int] at c; cases c)⟩
      rcases h with ⟨ty, t1, t2, kE⟩ | ⟨a, xs, bs, rfl, eA, pB, hb, kE⟩ | ⟨a, rs, rfl, hA, hok, hn, h64, kk⟩
      · exact ⟨_, rfl, _, rfl, sp, n, rfl, .inl ⟨ty, t1, t2, kE⟩⟩
      · exact ⟨_, rfl, _, rfl, _, n, rfl, .inr ⟨a, xs, bs, rfl, eA, pB, (fun c => by rw [hb] at c; cases c), fun _ => kE⟩⟩
      · obtain ⟨qs, eA, pA⟩ := hA.ex
        have plen := Paired.len pA
        refine ⟨_, rfl, _, rfl, _, n, rfl, .inr ⟨a, _, _, rfl, eA, sp_all pA hok, fun _ => ?_, (fun c => by rw [all_rep] at c; cases c)⟩⟩
        refine ⟨_, rfl, a, rfl, ⟨_, SqL.of eA⟩, ?_⟩
        refine comp_itl (xs := qs.map V.ref) (fun i ys H' => Same H H' ∧ ∃ us, ys = us.map V.ref ∧ Paired (TuA H') us ((rs.take i).map (win n ar))) (by rw [List.length_map]; omega) (fun i ys H' q => SqL.of (q.1 _ _ eA)) ⟨fun _ _ h => h, [], rfl, .nil⟩ ?_ ?_
        · rintro i v ys H' N hv ⟨sm, us, rfl, pU⟩ hN
          rw [List.getElem?_map] at hv
          cases hpi : qs[i]? with
          | none => rw [hpi] at hv; cases hv
          | some q =>
            rw [hpi] at hv
            have hv' : v = .ref q := (Option.some.inj hv).symm
            subst hv'
            obtain ⟨x, hxi, hx⟩ := paired_get pA hpi
            have okx := hok x (List.mem_of_getElem? hxi)
            have tk : (rs.take (i + 1)).map (win n ar) = (rs.take i).map (win n ar) ++ [win n ar x] := by rw [List.take_add_one, hxi, List.map_append]; rfl
            refine ⟨q, _, rfl, SqT.of (sm _ _ hx), rfl, _, _, rfl, _, _, rfl, rfl, ?_⟩
            refine ⟨_, rfl, _, rfl, _, _, rfl, rfl, _, _, rfl, ?_⟩
            rw [sub_nat]
            refine ⟨_, rfl, _, rfl, _, _, rfl, rfl, _, rfl, _, _, rfl, rfl, _, _, rfl, ?_⟩
            rw [min_nat (by have := okx.2; omega)]
            refine ⟨(by show 2 ≤ sizeLine; omega), fun t ht => ?_⟩
            have s5 := same_upd (o := .tup [.int ((x.1 - ar : Nat) : Int), .int ((min (x.2 + ar) (n - 1) : Nat) : Int)]) ht
            refine hN _ _ ⟨sm.trans s5, us ++ [t], by rw [List.map_append]; rfl, ?_⟩
            rw [tk]
            exact Paired.app (Paired.imp2 pU fun _ _ q => s5 _ _ q) upd_same
        · rintro ys H' ⟨sm, us, rfl, pU⟩ _ u hu
          have ll : (qs.map V.ref).length = rs.length := by rw [List.length_map, plen]
          rw [ll, List.take_of_length_le (Nat.le_refl _)] at pU
          have su := same_upd (o := .lst (us.map V.ref)) hu
          refine ⟨u, rs.map (win n ar), rfl, ⟨us, upd_same, Paired.imp2 pU fun _ _ q => su _ _ q⟩, fun r hr => ?_, by rw [List.length_map]; exact h64, fun p H2 ms s2 hp hP hR hC hl => ?_⟩
          · obtain ⟨y, hy, rfl⟩ := List.mem_map.mp hr
            have q := WN.win_ok (ar := ar) (hok y hy)
            exact ⟨q.1, by have := q.2; omega⟩
          · exact kk p H2 ms ((sm.trans su).trans s2) ((sm.trans su).free hp) hP hR (fun x => (hC x).trans (WN.win_cov hok x)) hl
theorem min_nat2 {b n : Nat} {i : Int} (e : i = (b : Int)) (h : 0 < n) : (if i < (n : Int) - 1 then i else (n : Int) - 1) = ((min (n - 1) b : Nat) : Int) := by split <;> omega
theorem PrL.add {H : Hp} {p q : Addr} {us : List Addr} {rs : List (Nat × Nat)} {x : Nat × Nat} (eU : H p = some (.lst (us.map V.ref))) (pU : Paired (TuA H) us rs) (hq : TuA H q x) : PrL (L2.upd H p (.lst (us.map V.ref ++ [.ref q]))) p (rs ++ [x]) := by
  have h := PrL.put eU (Paired.app pU hq)
  rw [List.map_append] at h
  exact h
noncomputable def spSp : Sp := fun vs H Q _ => ∃ (m : Int) (n : Nat), vs = [.int m, .int n] ∧ n ≤ 1000 ∧ ∀ p H' rs, Same H H' → H p = none → PrL H' p rs → (∀ r ∈ rs, Okp n r) → rs.length ≤ 12 → Q (.ref p) H'
theorem ok_add {n : Nat} {rs : List (Nat × Nat)} {x : Nat × Nat} (h : ∀ r ∈ rs, Okp n r) (hx : Okp n x) : ∀ r ∈ rs ++ [x], Okp n r := fun r hr => by
  rcases List.mem_append.mp hr with c | c
  · exact h r c
  · rw [List.mem_singleton.mp c]; exact hx
theorem scSp : FnScope ["_law_number_here", "_law_size", "_law_spans_here", "_law_k", "_law_more", "_law_first", "_law_last"] ["_law_number_here", "_law_size"] (defScope lSpans) := ⟨rfl, rfl, rfl, by decide +kernel, rfl, by decide +kernel, by decide +kernel⟩
seal PSs PS PE PT PA PG PI PGs PIfs in
theorem ok_sp {f fm : Addr} {fd fdm : FuncData} (D : Df K mg "_law_spans" lSpans f fd) (DM : Df K mg "_law_mixed" lMixed fm fdm) (T : Txt mg) : FnOk P w K mg base CX0 2 f fd ["_law_number_here", "_law_size"] spSp := by
  have GM : FnOk P w K mg base CX0 1 fm fdm ["_law_number_here", "_law_k"] spMixed := ok_mixed DM
  have bM := DM.F.binds (ps := ["_law_number_here", "_law_k"]) fun _ _ _ _ _ _ us hl => us2 (fun _ _ => rfl) us hl
  refine D.F.ok scSp (fun vs H Q E h => ?_) (fun cdv A outer s H vs Q E hr h => ?_)
  · obtain ⟨m, n, rfl, _⟩ := h
    rfl
  · obtain ⟨m, n, rfl, hn, kk⟩ := h
    have hz : (sizeLine : Nat) = 16777216 := sizeLine_eq
    refine ⟨_, (pss_cons (ps_set (i := 2) scSp.nd rfl (Or.inl rfl) (pe_lst pa_nil))
      (pss_cons (ps_if (pt_cmpR op_gt (pv 1) pe_int (nomark _)) (pss_one (ps_for PassesOwn.never rfl (pi_range1 rfl T.range (pa_cons (pe_op op_mod (pv 0) pe_int) pa_nil)) (pg_name (i := 3) scSp.nd rfl (Or.inl rfl)) (pss_cons (ps_set (i := 4) scSp.nd rfl (Or.inl rfl) (pe_call GM hr rfl DM.m DM.F.kp bM .nil pass0 (pa_cons (pv 0) (pa_cons (pe_op op_add pe_int (pv 3)) pa_nil))))
      (pss_cons (ps_set (i := 5) scSp.nd rfl (Or.inl rfl) (pe_op op_mod (pv 4) (pv 1)))
      (pss_cons (ps_set (i := 6) scSp.nd rfl (Or.inl rfl) (pe_callB (call_min2 rfl) rfl T.min b_min (pa_cons (pe_op op_sub (pv 1) pe_int) (pa_cons (pe_op op_add (pv 5) (pe_ix ix_list (pe_lst (pa_cons pe_int (pa_cons pe_int (pa_cons pe_int (pa_cons pe_int (pa_cons pe_int (pa_cons (pv 1) pa_nil))))))) (pe_op op_mod (pe_op op_fdiv (pv 4) pe_int) pe_int) (fun _ _ => rfl))) pa_nil))))
      (pss_cons (ps_expr (pe_bm PySem.F.plainAttrs_list PySem.F.slot_list_append PySem.F.type_list_append mt_append (pv 2) (pa_cons (pe_tup (pa_cons (pv 5) (pa_cons (pv 6) pa_nil))) pa_nil)))
      (pss_one (ps_if (pt_cmpR op_eq (pe_op op_mod (pe_op op_fdiv (pv 4) pe_int) pe_int) pe_int (nomark _)) (pss_one (ps_expr (pe_bm PySem.F.plainAttrs_list PySem.F.slot_list_append PySem.F.type_list_append mt_append (pv 2) (pa_cons (pe_ix ix_list (pe_lst (pa_cons (pe_tup (pa_cons (pv 5) (pa_cons (pv 6) pa_nil))) (pa_cons (pe_tup (pa_cons (pe_callB (call_min2 rfl) rfl T.min b_min (pa_cons (pe_op op_sub (pv 1) pe_int) (pa_cons (pe_op op_add (pv 6) pe_int) pa_nil))) (pa_cons (pe_callB (call_min2 rfl) rfl T.min b_min (pa_cons (pe_op op_sub (pv 1) pe_int) (pa_cons (pe_op op_add (pv 6) pe_int) pa_nil))) pa_nil))) pa_nil))) (pe_op op_mod (pe_op op_fdiv (pv 4) pe_int) pe_int) (fun _ _ => rfl)) pa_nil)))) pss_nil)))))))) pss_nil)
      (pss_one (ps_ret (pv 2))))), ?_⟩
    refine ⟨Nat.zero_le _, fun p hp => ⟨_, rfl, _, _, rfl, rfl, _, rfl, ?_⟩⟩
    have s1 := same_upd (o := .lst []) hp
    have e1 : upd H p (.lst []) p = some (.lst []) := upd_same
    by_cases h0 : n = 0
    · subst h0
      exact iteF ⟨_, rfl, kk p _ [] s1 hp ⟨[], e1, .nil⟩ (fun r hr => nomatch hr) (Nat.zero_le _)⟩
    · rw [decide_eq_true (show (n : Int) > 0 by omega)]
      obtain ⟨c, hc, hcl⟩ := mod_ix (r := m) (n := 7) (by decide)
      refine iteT ⟨_, rfl, _, _, rfl, rfl, (by show (0 : Int) < 7; decide), _, rfl, by omega, by omega, ?_⟩
      rw [← hc, Int.toNat_natCast]
      refine for_range (fun i σ H' => ∃ (rs : List (Nat × Nat)) (o3 o4 o5 o6 : Option V), σ = [some (.int m), some (.int (n : Int)), some (.ref p), o3, o4, o5, o6] ∧ Same H H' ∧ PrL H' p rs ∧ (∀ r ∈ rs, Okp n r) ∧ rs.length ≤ 2 * i) ?_ ?_ ?_
      · exact ⟨[], none, none, none, none, rfl, s1, ⟨[], e1, .nil⟩, (fun r hr => nomatch hr), Nat.le_refl _⟩
      · rintro i σ H' hi ⟨rs, o3, o4, o5, o6, rfl, sm, hR, hok, hlen⟩
        refine ⟨_, rfl, _, rfl, _, _, rfl, rfl, _, _, rfl, by omega, by omega, fun r r0 r1 => ?_⟩
        obtain ⟨fi, hf, hfl⟩ := mod_ix (r := r) (n := (n : Int)) (by omega)
        refine ⟨_, rfl, _, rfl, _, _, rfl, rfl, (by show (0 : Int) < (n : Int); omega), ?_⟩
        show gName 5 (V.int (r % (n : Int))) _ _ _
        rw [← hf]
        refine ⟨_, rfl, _, _, rfl, rfl, _, rfl, _, rfl, (by show 6 ≤ sizeLine; omega), fun u hu => ?_⟩
        refine ⟨_, rfl, _, _, rfl, rfl, ⟨by decide, by decide⟩, _, _, rfl, rfl, (by show (0 : Int) < 6; decide), ?_⟩
        refine ixPickP (fun v _ => ∃ d : Nat, v = .int (d : Int)) upd_same (by show 0 < 6; decide) rfl (List.forall_mem_cons.mpr ⟨⟨0, rfl⟩, List.forall_mem_cons.mpr ⟨⟨0, rfl⟩, List.forall_mem_cons.mpr ⟨⟨1, rfl⟩, List.forall_mem_cons.mpr ⟨⟨2, rfl⟩, List.forall_mem_cons.mpr ⟨⟨0, rfl⟩, List.forall_mem_cons.mpr ⟨⟨n, rfl⟩, fun _ h => nomatch h⟩⟩⟩⟩⟩⟩) ?_
        rintro v ⟨d, rfl⟩
        have su := same_upd (o := .lst [.int 0, .int 0, .int 1, .int 2, .int 0, .int (n : Int)]) hu
        have hR2 := hR.same su
        have sm2 := sm.trans su
        refine ⟨_, _, rfl, rfl, _, _, rfl, ?_⟩
        show gName 6 (V.int (if (fi : Int) + (d : Int) < (n : Int) - 1 then (fi : Int) + (d : Int) else (n : Int) - 1)) _ _ _
        rw [min_nat2 (b := fi + d) (by omega) (by omega)]
        obtain ⟨la, hla⟩ : ∃ la, la = min (n - 1) (fi + d) := ⟨_, rfl⟩
        rw [← hla]
        generalize upd H' u (.lst [.int 0, .int 0, .int 1, .int 2, .int 0, .int (n : Int)]) = H2 at hR2 sm2
        obtain ⟨us, eU, pU⟩ := hR2.ex
        have ulen := Paired.len pU
        have okx : Okp n (fi, la) := ⟨by show fi ≤ la; omega, by show la < n; omega⟩
        refine ⟨_, rfl, .inl ⟨rfl, _, SqL.of eU⟩, _, rfl, _, rfl, (by show 2 ≤ sizeLine; omega), fun t ht => ?_⟩
        have s5 := same_upd (o := .tup [.int (fi : Int), .int (la : Int)]) ht
        have eU5 := s5 _ _ eU
        have hR6 := PrL.add (x := (fi, la)) eU5 (Paired.imp2 pU fun _ _ q => s5 _ _ q) (show TuA _ t (fi, la) from upd_same)
        have sm6 := same_put (o := .lst (us.map V.ref ++ [.ref t])) (sm2.trans s5) hp
        refine ⟨p, _, _, rfl, rfl, eU5, by rw [List.length_map]; omega, ?_⟩
        generalize upd (upd H2 t (.tup [.int (fi : Int), .int (la : Int)])) p (.lst (us.map V.ref ++ [.ref t])) = H6 at hR6 sm6
        refine ⟨_, rfl, _, _, rfl, rfl, ⟨by decide, by decide⟩, _, _, rfl, rfl, (by show (0 : Int) < 4; decide), rfl, _, rfl, ?_⟩
        have ok6 := ok_add hok okx
        by_cases he : r / 6000 % 4 = 1
        · rw [dec_i he]
          obtain ⟨vs6, eV, pV⟩ := hR6.ex
          have vlen := Paired.len pV
          rw [List.length_append] at vlen
          have vlen' : vs6.length = rs.length + 1 := vlen
          refine iteT ⟨_, rfl, .inl ⟨rfl, _, SqL.of eV⟩, _, rfl, _, rfl, (by show 2 ≤ sizeLine; omega), fun t1 ht1 => ?_⟩
          refine ⟨_, rfl, _, _, rfl, rfl, _, rfl, _, _, rfl, rfl, _, _, rfl, ?_⟩
          rw [min_nat2 (b := la + 1) (by omega) (by omega)]
          refine ⟨_, rfl, _, _, rfl, rfl, _, rfl, _, _, rfl, rfl, _, _, rfl, ?_⟩
          rw [min_nat2 (b := la + 1) (by omega) (by omega)]
          obtain ⟨lb, hlb⟩ : ∃ lb, lb = min (n - 1) (la + 1) := ⟨_, rfl⟩
          rw [← hlb]
          refine ⟨(by show 2 ≤ sizeLine; omega), fun t2 ht2 => ⟨(by show 2 ≤ sizeLine; omega), fun t3 ht3 => ?_⟩⟩
          have q1 := same_upd (o := .tup [.int (fi : Int), .int (la : Int)]) ht1
          have q2 := same_upd (o := .tup [.int (lb : Int), .int (lb : Int)]) ht2
          have q3 := same_upd (o := .lst [.ref t1, .ref t2]) ht3
          have r1' : TuA (upd (upd (upd H6 t1 (.tup [.int (fi : Int), .int (la : Int)])) t2 (.tup [.int (lb : Int), .int (lb : Int)])) t3 (.lst [.ref t1, .ref t2])) t1 (fi, la) := q3 _ _ (q2 _ _ upd_same)
          have r2' : TuA (upd (upd (upd H6 t1 (.tup [.int (fi : Int), .int (la : Int)])) t2 (.tup [.int (lb : Int), .int (lb : Int)])) t3 (.lst [.ref t1, .ref t2])) t2 (lb, lb) := q3 _ _ upd_same
          refine ⟨_, rfl, _, _, rfl, rfl, ⟨by decide, by decide⟩, _, _, rfl, rfl, (by show (0 : Int) < 2; decide), ?_⟩
          refine ixPickP (fun v G => ∃ q x, v = .ref q ∧ TuA G q x ∧ Okp n x) upd_same (by show 0 < 2; decide) rfl (List.forall_mem_cons.mpr ⟨⟨t1, _, rfl, r1', okx⟩, List.forall_mem_cons.mpr ⟨⟨t2, _, rfl, r2', ⟨Nat.le_refl _, by show lb < n; omega⟩⟩, fun _ h => nomatch h⟩⟩) ?_
          rintro v ⟨q, x, rfl, hq, okq⟩
          have qq := (q1.trans q2).trans q3
          have eV9 := qq _ _ eV
          refine ⟨p, _, _, rfl, rfl, eV9, by rw [List.length_map]; omega, ?_⟩
          exact ⟨_, _, _, _, _, rfl, same_put (sm6.trans qq) hp, PrL.add eV9 (Paired.imp2 pV fun _ _ q => qq _ _ q) hq, ok_add ok6 okq, by rw [List.length_append, List.length_append]; show rs.length + 1 + 1 ≤ _; omega⟩
        · rw [dec_n he]
          exact iteF ⟨_, _, _, _, _, rfl, sm6, hR6, ok6, by rw [List.length_append]; show rs.length + 1 ≤ _; omega⟩
      · rintro σ H' ⟨rs, o3, o4, o5, o6, rfl, sm, hR, hok, hlen⟩
        exact ⟨_, rfl, kk p H' rs sm hp hR hok (by omega)⟩
end
end K23
set_option Elab.async false
set_option linter.all false
set_option maxRecDepth 100000
set_option maxHeartbeats 4000000
namespace K23
open PySem L2 PyProof.Rows PySem.Spec Gn K01
open WN (Cov Rs Mg Pl win Okp near)
section
variable {P : Program} {w : World} {K : PySem.W.Frag} {mg : Str → Option Value} {base : Heap} {CN CS : Addr}
theorem nextW {t u R : TS} {D : Ends} {σ : L2.St} {H : Hp} (hR : R = tSeq t u) (h : ∀ R' : TS, R' = u → tSeq t R' D σ H) : R D σ H := by subst hR; exact h u rfl
theorem lastW {t R : TS} {D : Ends} {σ : L2.St} {H : Hp} (hR : R = t) (h : t D σ H) : R D σ H := by subst hR; exact h
theorem genW {g : TG} {x : V} {tb : TS} {D : Ends} {σ : L2.St} {H : Hp} (h : ∀ (B : TS) (D' : Ends), B = tb → (∀ σ H, D.nx σ H → D'.nx σ H) → g x σ H fun σ2 H2 => B D' σ2 H2) : g x σ H fun σ2 H2 => tb D σ2 H2 := h tb D rfl fun _ _ z => z
theorem b_ord : bootBuiltins "ord" = some (.builtin "ord") := by decide +kernel
noncomputable def spSign : Sp := fun vs H Q _ => ∃ c : Nat, vs = [.str ⟨#[c]⟩] ∧ Q (.bl (okC c)) H
theorem scSign : FnScope ["sign"] ["sign"] (defScope sSign) := ⟨rfl, rfl, rfl, by decide +kernel, rfl, by decide +kernel, by decide +kernel⟩
theorem one_eq (c d : Nat) : decide (V.str ⟨#[c]⟩ = V.str ⟨#[d]⟩) = decide (c = d) := by
  by_cases h : c = d
  · subst h; simp
  · rw [decide_eq_false h]
    exact decide_eq_false fun z => h (by injection z with z; injection z with z; simpa using z)
theorem lt_one (c d : Nat) : decide (([c] : List Nat) < [d]) = decide (c < d) := by
  by_cases h : c < d
  · rw [decide_eq_true h]; exact decide_eq_true (List.Lex.rel h)
  · rw [decide_eq_false h]
    exact decide_eq_false fun z => by
      cases z with
      | rel q => exact h q
      | cons q => cases q
seal PSs PS PE PT PA PG PI PGs PIfs in
theorem ok_sign {f : Addr} {fd : FuncData} (D : Df K mg "is_text_sign" sSign f fd) (T : Txt mg) : FnOk P w K mg base CX0 1 f fd ["sign"] spSign := by
  obtain ⟨tp, cp⟩ := T.cPer
  refine D.F.ok scSign (fun vs H Q E h => ?_) (fun cdv A outer s H vs Q E hr h => ?_)
  · obtain ⟨c, rfl, _⟩ := h
    rfl
  · obtain ⟨c, rfl, k⟩ := h
    refine ⟨_, pss_one (ps_ret (pe_or (pe_cmpR op_eq (pv 0) pe_str (nomark _)) (pe_one (pe_and (pe_chain op_le_str op_le_str pe_str (pv 0) pe_str)
      (pe_one (pe_cmpR op_ne (pe_callB call_ord rfl T.ord b_ord (pa_cons (pv 0) pa_nil)) (pe_glob (v := .int 37) rfl cp ⟨_, rfl⟩) (nomark _))))))), ?_⟩
    refine ⟨_, rfl, rfl, _, rfl, ?_⟩
    have e10 : decide (V.str ⟨#[c]⟩ = V.str (Str.ofString "\n")) = decide (c = 10) := one_eq c 10
    rw [e10]
    unfold okC at k
    by_cases h10 : c = 10
    · rw [decide_eq_true h10] at k ⊢
      exact iteT k
    · rw [decide_eq_false h10] at k ⊢
      refine iteF ?_
      refine ⟨_, rfl, _, _, rfl, rfl, _, rfl, ?_⟩
      have e32 : (!decide ((⟨#[c]⟩ : Str).cps.toList < (Str.ofString " ").cps.toList)) = decide (32 ≤ c) := by
        show (!decide (([c] : List Nat) < [32])) = _
        rw [lt_one]
        by_cases h : c < 32
        · rw [decide_eq_true h, decide_eq_false (by (clear h10 e10 cp; omega))]; rfl
        · rw [decide_eq_false h, decide_eq_true (by (clear h10 e10 cp; omega))]; rfl
      rw [e32]
      by_cases h32 : 32 ≤ c
      · rw [decide_eq_true h32] at k ⊢
        refine iteT ⟨_, _, rfl, rfl, _, rfl, ?_⟩
        have e126 : (!decide ((Str.ofString "~").cps.toList < (⟨#[c]⟩ : Str).cps.toList)) = decide (c ≤ 126) := by
          show (!decide (([126] : List Nat) < [c])) = _
          rw [lt_one]
          by_cases h : 126 < c
          · rw [decide_eq_true h, decide_eq_false (by (clear h32 e32 h10 e10 cp; omega))]; rfl
          · rw [decide_eq_false h, decide_eq_true (by (clear h32 e32 h10 e10 cp; omega))]; rfl
        rw [e126]
        by_cases h126 : c ≤ 126
        · rw [decide_eq_true h126] at k ⊢
          refine iteT ⟨_, rfl, _, rfl, rfl, rfl, ?_⟩
          have e37 : decide (V.int (((⟨#[c]⟩ : Str).cps.getD 0 0 : Nat) : Int) = V.int 37) = decide (c = 37) := by
            rw [dec_int]
            by_cases h : c = 37
            · subst h; rfl
            · rw [decide_eq_false h]
              exact beq_eq_false_iff_ne.mpr fun z => h (by have z' : ((c : Nat) : Int) = 37 := z; (clear z h h126 e126 h32 e32 h10 e10 cp; omega))
          rw [e37]
          exact k
        · rw [decide_eq_false h126] at k ⊢
          exact iteF k
      · rw [decide_eq_false h32] at k ⊢
        exact iteF ⟨_, rfl, iteF k⟩
theorem str_len (z : Str) : z.cps.toList.length = z.length := by simp [Str.length]
theorem cps_get {z : Str} {i c : Nat} (h : z.cps[i]? = some c) : z.cps.toList[i]? = some c := by simpa using h
theorem ndSign : (["sign"] : List Str).Nodup := by decide +kernel
noncomputable def spText (K : PySem.W.Frag) : Sp := fun vs H Q _ => ∃ x, vs = [x] ∧ Known K H x ∧ Fit x ∧ ∀ H', Same H H' → Q (.bl (txtV x)) H'
theorem scText : FnScope ["thing"] ["thing"] (defScope sText) := ⟨rfl, rfl, rfl, by decide +kernel, rfl, by decide +kernel, by decide +kernel⟩
theorem notStr {x : V} (h : isStrV x = false) : txtV x = false := by cases x <;> first | rfl | cases h
theorem isStr {x : V} (h : isStrV x = true) : ∃ z, x = .str z := by cases x <;> first | exact ⟨_, rfl⟩ | cases h
seal PSs PS PE PT PA PG PI PGs PIfs in
theorem ok_text {f fs : Addr} {fd fds : FuncData} (D : Df K mg "is_text" sText f fd) (DS : Df K mg "is_text_sign" sSign fs fds) (T : Txt mg) : FnOk P w K mg base CX0 2 f fd ["thing"] (spText K) := by
  obtain ⟨tc, cc⟩ := T.cText
  have GS : FnOk P w K mg base CX0 1 fs fds ["sign"] spSign := ok_sign DS T
  have bS := binds1 (p := "sign") DS.F fun _ _ _ _ _ _ _ => rfl
  refine D.F.ok scText (fun vs H Q E h => ?_) (fun cdv A outer s H vs Q E hr h => ?_)
  · obtain ⟨x, rfl, _⟩ := h
    rfl
  · obtain ⟨x, rfl, ⟨n, hty⟩, hfit, k⟩ := h
    refine ⟨_, pss_cons (ps_if (PW.pt (pw_or (pt_not (pt_val (pe_callB call_isi rfl T.isi b_isi (pa_cons (pv 0) (pa_cons (pe_bltn (v := .ty "str") rfl T.str b_str rfl) pa_nil)))))
        (pw_or1 (pt_cmpR op_gt (pe_callB call_len_str rfl T.len b_len (pa_cons (pv 0) pa_nil)) (pe_glob (v := .int 2000) rfl cc ⟨_, rfl⟩) (nomark _))))) (pss_one (ps_ret pe_bl)) pss_nil)
      (pss_one (ps_ret (pe_callB (call_all_bools rfl) rfl T.all b_all (pa_cons (pe_comp (own := 1) (caps := []) (N := ["sign"]) (N0 := ["thing"]) (sc0 := defScope sText) rfl (pi_str (pv 0))
        (fun _ _ _ => pg_name (i := 0) ndSign rfl (Or.inl rfl)) (fun _ _ _ => pf_none)
        (fun _ _ _ => pe_call GS hr rfl DS.m DS.F.kp bS .nil pass0 (pa_cons (pv 0) pa_nil)) (gk_name (by decide)) rfl rfl
        (by decide +kernel) rfl (by decide +kernel) (by decide +kernel) rfl (by decide +kernel)) pa_nil)))), ?_⟩
    refine ⟨_, rfl, x, .ty "str", _, _, rfl, hty, .inl ⟨_, rfl, kit_str hty⟩, _, rfl, ?_⟩
    cases hx : isStrV x with
    | false =>
      refine iteT (iteT ?_)
      have := k H (Same.refl H)
      rw [notStr hx] at this
      exact this
    | true =>
      obtain ⟨z, rfl⟩ := isStr hx
      have hz := hfit z rfl
      have hl : (sizeLine : Nat) = 16777216 := sizeLine_eq
      refine iteF ?_
      refine ⟨_, rfl, z, rfl, by (clear hx cc; omega), _, _, rfl, rfl, _, rfl, ?_⟩
      by_cases hlen : (2000 : Int) < (z.length : Int)
      · rw [decide_eq_true hlen]
        refine iteT ?_
        have := k H (Same.refl H)
        have e : txtV (.str z) = false := by
          show (decide (z.length ≤ 2000) && _) = false
          rw [decide_eq_false (by (clear hl hz hx cc; omega)), Bool.false_and]
        rw [e] at this
        exact this
      · rw [decide_eq_false hlen]
        refine iteF ?_
        have sz : z.cps.size = z.length := rfl
        refine ⟨_, rfl, z, rfl, comp_its (x := z) (fun i ys H' => Same H H' ∧ ys = ((z.cps.toList.take i).map fun c => V.bl (okC c))) (by (clear hlen hx cc; omega)) ⟨Same.refl H, rfl⟩ ?_ ?_⟩
        · rintro i c ys H' N hc ⟨sm, rfl⟩ hN
          refine g1 ?_
          refine ⟨_, rfl, c, rfl, hN _ _ ⟨sm, ?_⟩⟩
          rw [List.take_add_one, cps_get hc, List.map_append]
          rfl
        · rintro ys H' ⟨sm, rfl⟩ _ p hp
          refine ⟨p, z.cps.toList.map okC, rfl, SqL.of (by rw [upd_same, List.take_of_length_le (by simp)]; simp), ?_⟩
          have := k (upd H' p (.lst ((z.cps.toList.take z.cps.size).map fun c => V.bl (okC c)))) (Same.upd sm hp)
          have e : txtV (.str z) = (z.cps.toList.map okC).all id := by
            show (decide (z.length ≤ 2000) && _) = _
            rw [decide_eq_true (by (clear hp sz hl hz hx cc; omega)), Bool.true_and, List.all_map]
            rfl
          rw [e] at this
          exact this
theorem by128 {f g : Nat → Bool} (h : ∀ c, c < 128 → f c = g c) (hf : ∀ c, f c = true → c < 128) (hg : ∀ c, g c = true → c < 128) (c : Nat) : f c = g c := by
  by_cases hc : c < 128
  · exact h c hc
  · cases ef : f c with
    | true => exact absurd (hf c ef) hc
    | false =>
      cases eg : g c with
      | true => exact absurd (hg c eg) hc
      | false => rfl
theorem mem128 {l : List Nat} (h : l.all (fun x => decide (x < 128)) = true) (c : Nat) (e : decide (c ∈ l) = true) : c < 128 := of_decide_eq_true (List.all_eq_true.mp h c (of_decide_eq_true e))
noncomputable abbrev smallT : Str := Str.ofString "abcdefghijklmnopqrstuvwxyz0123456789"
theorem small_mem : ∀ c : Nat, decide (c ∈ smallT.cps.toList) = isS c := by128 (by decide +kernel) (mem128 (by decide +kernel)) fun c h => isS_lt h
theorem small_in (c : Nat) : (!(Builtin.Str.occurrences (Str.ofString "abcdefghijklmnopqrstuvwxyz0123456789") ⟨#[c]⟩ 0 (Str.ofString "abcdefghijklmnopqrstuvwxyz0123456789").length 1).isEmpty) = isS c := by
  rw [PySem.StrLaws.found_one]
  exact small_mem c
noncomputable def spNeed (K : PySem.W.Frag) (p : V → Bool) (C : Addr) : Sp := fun vs H Q E => ∃ x, vs = [x] ∧ Known K H x ∧ Fit x ∧ (p x = true → ∀ H', Same H H' → Q x H') ∧ (p x = false → ∀ H', Same H H' → E (.ref C) none H')
theorem scNText : FnScope ["thing"] ["thing"] (defScope sNText) := ⟨rfl, rfl, rfl, by decide +kernel, rfl, by decide +kernel, by decide +kernel⟩
seal PSs PS PE PT PA PG PI PGs PIfs in
theorem ok_ntext {f ft C : Addr} {fd fdt : FuncData} (D : Df K mg "need_text" sNText f fd) (DT : Df K mg "is_text" sText ft fdt) (X : Ex K mg "BadText" C) (GT : FnOk P w K mg base CX0 2 ft fdt ["thing"] (spText K)) : FnOk P w K mg base (CX1 P w) 3 f fd ["thing"] (spNeed K txtV C) := by
  have bT := binds1 (p := "thing") DT.F fun _ _ _ _ _ _ _ => rfl
  refine D.F.ok1 scNText (fun vs H Q E h => ?_) (fun cdv A outer s H vs Q E hr h => ?_)
  · obtain ⟨x, rfl, _⟩ := h
    rfl
  · obtain ⟨x, rfl, hk, hfit, k1, k2⟩ := h
    refine ⟨_, pss_cons (ps_if (pt_not (pt_val (pe_call GT hr rfl DT.m DT.F.kp bT .nil pass0 (pa_cons (pv 0) pa_nil)))) (pss_one (ps_raise rfl X.q PySem.F.excBase_ValueError (by decide +kernel) PySem.F.excBase_ValueError rfl X.m (pa_cons pe_str pa_nil) raise_out)) pss_nil)
      (pss_one (ps_ret (pv 0))), ?_⟩
    refine ⟨_, rfl, x, rfl, hk, hfit, fun H' sm => ⟨_, rfl, ?_⟩⟩
    cases hx : txtV x with
    | false => exact iteT ⟨by show 1 ≤ sizeLine; decide, k2 hx H' sm⟩
    | true => exact iteF ⟨_, rfl, k1 hx H' sm⟩
theorem same_app {H0 H : Hp} {a t : Addr} {o o' : HO} (s : Same H0 H) (ha : H0 a = none) (ht : H t = none) : Same H0 (upd (upd H t o) a o') := fun b u e => by
  rw [upd_ne (ne_of_none e ha), upd_ne (ne_of_none (s b u e) ht)]
  exact s b u e
noncomputable def wdT (x : Wd) : HO := .tup [.str ⟨x.1.toArray⟩, .int x.2.1, .int x.2.2]
structure WL (H : Hp) (a : Addr) (ws : List Wd) : Prop where
  ex : ∃ ps : List Addr, H a = some (.lst (ps.map V.ref)) ∧ Paired (fun p x => H p = some (wdT x)) ps ws
theorem WL.same {H H' : Hp} {a : Addr} {ws : List Wd} (h : WL H a ws) (s : Same H H') : WL H' a ws := by
  obtain ⟨ps, e, p⟩ := h.ex
  exact ⟨ps, s _ _ e, Paired.imp2 p fun _ _ q => s _ _ q⟩
theorem WL.more {H : Hp} {a t : Addr} {ws : List Wd} {x : Wd} {ps : List Addr} (e : H a = some (.lst (ps.map V.ref))) (p : Paired (fun p x => H p = some (wdT x)) ps ws) (ht : H t = none) :
    WL (upd (upd H t (wdT x)) a (.lst (ps.map V.ref ++ [.ref t]))) a (ws ++ [x]) := by
  have hta : t ≠ a := fun z => by rw [z, e] at ht; cases ht
  refine ⟨ps ++ [t], by rw [upd_same, List.map_append]; rfl, ?_⟩
  refine Paired.app (Paired.imp2 p fun q y h => ?_) (by rw [upd_ne hta, upd_same])
  have h1 : q ≠ a := fun z => by rw [z, e] at h; cases h
  have h2 : q ≠ t := ne_of_none h ht
  rw [upd_ne h1, upd_ne h2]
  exact h
noncomputable def codes (x : Str) : List Nat := x.cps.toList
noncomputable def Drawn (x : Str) : Prop := x.length ≤ 2000 ∧ (codes x).all okC = true
theorem str_app (a b : List Nat) : (⟨a.toArray⟩ : Str) ++ ⟨b.toArray⟩ = ⟨(a ++ b).toArray⟩ := by
  show (⟨a.toArray ++ b.toArray⟩ : Str) = _
  simp
theorem str_len' (a : List Nat) : (⟨a.toArray⟩ : Str).length = a.length := by simp [Str.length]
theorem empty_str : Str.ofString "" = ⟨([] : List Nat).toArray⟩ := rfl
theorem fit_app {a b : List Nat} (h : a.length + b.length ≤ 5000) : (⟨a.toArray⟩ : Str).length + (⟨b.toArray⟩ : Str).length ≤ sizeLine := by
  rw [str_len', str_len', sizeLine_eq]
  omega
theorem str_eq (a b : List Nat) : decide (V.str ⟨a.toArray⟩ = V.str ⟨b.toArray⟩) = decide (a = b) := by
  by_cases h : a = b
  · subst h; simp
  · rw [decide_eq_false h]
    exact decide_eq_false fun z => h (by injection z with z; injection z with z; simpa using z)
theorem slice_nat (l : List Nat) {a b : Nat} (hab : a ≤ b) (hb : b ≤ l.length) : Txt.slice ⟨l.toArray⟩ (some (a : Int)) (some (b : Int)) = ⟨((l.drop a).take (b - a)).toArray⟩ := by
  have h := PySem.StrLaws.sliceText_nat (⟨l.toArray⟩ : Str) hab (by rw [str_len']; exact hb)
  have e : (⟨l.toArray⟩ : Str).cps.toList = l := by simp
  rw [e] at h
  exact h
theorem lower_eq {z : Str} (h : (codes z).all okC = true) : Txt.lower z = ⟨((codes z).map K01.lo).toArray⟩ := by
  rw [lower_ascii fun c hc => ok_lt (List.all_eq_true.mp h c hc)]
  show (⟨z.cps.map K01.lo⟩ : Str) = _
  congr 1
  unfold codes
  apply Array.toList_inj.mp
  simp
theorem txt_drawn {z : Str} (h : txtV (.str z) = true) : Drawn z := by
  have h' : (decide (z.length ≤ 2000) && z.cps.toList.all okC) = true := h
  rw [Bool.and_eq_true] at h'
  exact ⟨of_decide_eq_true h'.1, h'.2⟩
theorem drawn_txt {z : Str} (h : Drawn z) : txtV (.str z) = true := by
  show (decide (z.length ≤ 2000) && z.cps.toList.all okC) = true
  rw [decide_eq_true h.1, Bool.true_and]
  exact h.2
noncomputable def spWIn (K : PySem.W.Frag) (C : Addr) : Sp := fun vs H Q E => ∃ x, vs = [x] ∧ Known K H x ∧ Fit x ∧ (∀ z, x = .str z → Drawn z → ∀ a H', Same H H' → H a = none → WL H' a (words (codes z)) → Q (.ref a) H') ∧ (txtV x = false → ∀ H', Same H H' → E (.ref C) none H')
theorem scWIn : FnScope ["text", "small", "found", "begin", "place", "sign"] ["text"] (defScope sWordsIn) := ⟨rfl, rfl, rfl, by decide +kernel, rfl, by decide +kernel, by decide +kernel⟩
seal PSs PS PE PT PA PG PI PGs PIfs in
theorem ok_wdin {f ft C : Addr} {fd fdt : FuncData} (D : Df K mg "words_in" sWordsIn f fd) (DT : Df K mg "need_text" sNText ft fdt) (GT : FnOk P w K mg base (CX1 P w) 3 ft fdt ["thing"] (spNeed K txtV C)) (T : Txt mg) : FnOk P w K mg base (CX1 P w) 4 f fd ["text"] (spWIn K C) := by
  obtain ⟨tc, cc⟩ := T.cSmall
  have bT := binds1 (p := "thing") DT.F fun _ _ _ _ _ _ _ => rfl
  refine D.F.ok1 scWIn (fun vs H Q E h => ?_) (fun cdv A outer s H vs Q E hr h => ?_)
  · obtain ⟨x, rfl, _⟩ := h
    rfl
  · obtain ⟨x, rfl, hk, hfit, k1, k2⟩ := h
    have hl : (sizeLine : Nat) = 16777216 := sizeLine_eq
    refine ⟨_, pss_cons (ps_set (i := 1) scWIn.nd rfl (Or.inl rfl) (pe_bm0 PySem.F.plainAttrs_str PySem.F.slot_str_lower PySem.F.type_str_lower mt_lower (pe_call GT hr rfl DT.m DT.F.kp bT .nil (pass_out (E' := E) (fun _ _ _ h => h)) (pa_cons (pv 0) pa_nil))))
      (pss_cons (ps_set (i := 2) scWIn.nd rfl (Or.inl rfl) (pe_lst pa_nil)) (pss_cons (ps_set (i := 3) scWIn.nd rfl (Or.inl rfl) pe_int)
      (pss_cons (PS.nox (ps_for PassesOwn.never rfl (pi_enum rfl T.enum (pa_cons (pe_op op_add_str (pv 1) pe_str) pa_nil)) (pg_tup rfl (pgs_cons (pg_name (i := 4) scWIn.nd rfl (Or.inl rfl)) (pgs_cons (pg_name (i := 5) scWIn.nd rfl (Or.inl rfl)) pgs_nil)))
        (pss_one (ps_if (pt_cmpR op_notIn_str (pv 5) (pe_glob (v := .str (Str.ofString "abcdefghijklmnopqrstuvwxyz0123456789")) rfl cc ⟨_, rfl⟩) rfl)
          (pss_cons (ps_if (pt_cmpR op_lt (pv 3) (pv 4) (nomark _))
            (pss_one (ps_expr (pe_bm PySem.F.plainAttrs_list PySem.F.slot_list_append PySem.F.type_list_append mt_append (pv 2) (pa_cons (pe_tup (pa_cons (pe_slice sl_str (pv 1) (po_some (pv 3)) (po_some (pv 4))) (pa_cons (pv 3) (pa_cons (pv 4) pa_nil)))) pa_nil)))) pss_nil)
          (pss_one (ps_set (i := 3) scWIn.nd rfl (Or.inl rfl) (pe_op op_add (pv 4) pe_int)))) pss_nil))))
      (pss_one (ps_ret (pv 2)))))), ?_⟩
    refine ⟨_, rfl, x, rfl, hk, hfit, fun ht H1 s1 => ?_, k2⟩
    obtain ⟨z, rfl⟩ : ∃ z, x = .str z := by cases x <;> first | exact ⟨_, rfl⟩ | cases ht
    have hd := txt_drawn ht
    obtain ⟨hlen, hok⟩ := id hd
    have clen : (codes z).length = z.length := by unfold codes; simp [Str.length]
    refine ⟨rfl, z, rfl, rfl, by (clear clen hok ht hl cc; omega), ?_⟩
    rw [lower_eq hok]
    refine ⟨Nat.zero_le _, fun a ha => ?_⟩
    have ha0 : H a = none := s1.free ha
    refine ⟨_, rfl, _, _, rfl, rfl, fit_app (b := [32]) (by simp; (clear ha0 ha hok ht hl cc; omega)), _, rfl, ?_⟩
    have ebl : (⟨((codes z).map K01.lo).toArray⟩ : Str) ++ Str.ofString " " = ⟨((codes z).map K01.lo ++ [32]).toArray⟩ := str_app _ [32]
    rw [ebl]
    have htot : wgo ((codes z).map K01.lo ++ [32]) 0 [] = words (codes z) := wgo_blank _ 0 []
    have hsz : (⟨((codes z).map K01.lo ++ [32]).toArray⟩ : Str).cps.size = z.length + 1 := by simp [clen]
    refine for_ite (fun i σ H' => ∃ (ds : List Wd) (wd : List Nat) (b : Nat) (v4 v5 : Option V), σ = [some (.str z), some (.str ⟨((codes z).map K01.lo).toArray⟩), some (.ref a), some (.int b), v4, v5] ∧ Same H H' ∧ WL H' a ds ∧ b + wd.length = i ∧
        wd = (((codes z).map K01.lo ++ [32]).drop b).take wd.length ∧ ds.length ≤ i ∧ i ≤ z.length + 1 ∧ (i = z.length + 1 → wd = []) ∧ ds ++ wgo (((codes z).map K01.lo ++ [32]).drop i) i wd = words (codes z)) ?_ ?_ ?_
    · exact ⟨[], [], 0, none, none, rfl, Same.upd s1 ha, ⟨[], upd_same, .nil⟩, rfl, rfl, Nat.le_refl _, Nat.zero_le _, fun _ => rfl, htot⟩
    · intro i c σ H' t hc hP htn
      refine genW fun B D' hB hnB => ?_
      obtain ⟨ds, wd, b, v4, v5, rfl, sm, hW, hb, hwd, hdl, _, hend, heq⟩ := hP
      have hil : i < ((codes z).map K01.lo ++ [32]).length := by
        have : i < (⟨((codes z).map K01.lo ++ [32]).toArray⟩ : Str).cps.size := (Array.getElem?_eq_some_iff.mp hc).1
        simpa using this
      have hil' : i < z.length + 1 := by simpa [clen] using hil
      have hci : ((codes z).map K01.lo ++ [32])[i]? = some c := by simpa using hc
      have hdrop : ((codes z).map K01.lo ++ [32]).drop i = c :: ((codes z).map K01.lo ++ [32]).drop (i + 1) := by
        rw [List.drop_eq_getElem_cons hil]
        congr 1
        rw [List.getElem?_eq_getElem hil] at hci
        exact Option.some.inj hci
      obtain ⟨ps, eA, pA⟩ := hW.ex
      have plen := Paired.len pA
      have smT : Same H (upd H' t (.tup [.int i, .str ⟨#[c]⟩])) := Same.upd sm htn
      have hta : a ≠ t := ne_of_none eA htn
      refine ⟨t, _, rfl, SqT.of upd_same, rfl, _, _, rfl, _, _, rfl, rfl, ?_⟩
      refine lastW (R := B) hB ?_
      refine ⟨_, rfl, _, _, rfl, rfl, _, rfl, ?_⟩
      rw [small_in]
      cases hS : isS c with
      | true =>
        refine iteF ?_
        refine hnB _ _ ⟨ds, wd ++ [c], b, _, _, rfl, smT, hW.same (same_upd htn), by simp; (clear hS hta plen eA hdrop hci hil' hil htn heq hdl hwd hc hsz htot ebl ha0 ha clen hok hlen ht hl cc; omega), ?_, by (clear hS hta plen eA hdrop hci hil' hil htn heq hwd hb hc hsz htot ebl ha0 ha clen hok hlen ht hl cc; omega), by (clear hS hta plen eA hdrop hci hil htn heq hdl hwd hb hc hsz htot ebl ha0 ha clen hok hlen ht hl cc; omega), fun e => ?_, ?_⟩
        · have hg : (((codes z).map K01.lo ++ [32]).drop b)[wd.length]? = some c := by rw [List.getElem?_drop, hb]; exact hci
          rw [List.length_append, List.length_singleton, List.take_add_one, ← hwd, hg]
          rfl
        · have e' : i = ((codes z).map K01.lo).length := by rw [List.length_map, clen]; (clear hS hta plen eA hdrop hci hil' hil htn heq hdl hwd hb hc hsz htot ebl ha0 ha clen hok hlen ht hl cc; omega)
          rw [e', List.getElem?_append_right (Nat.le_refl _), Nat.sub_self] at hci
          have : c = 32 := by simpa using hci.symm
          rw [this] at hS
          exact absurd hS (by decide)
        · rw [hdrop, wgo_small hS] at heq
          exact heq
      | false =>
        refine iteT ?_
        rw [hdrop, wgo_other hS, ← List.append_assoc] at heq
        refine ⟨_, rfl, _, rfl, _, _, rfl, rfl, _, rfl, ?_⟩
        by_cases hbi : b < i
        · rw [decide_eq_true (by (clear hS hta plen eA hdrop hci hil' hil htn heq hdl hwd hb hc hsz htot ebl ha0 ha clen hok hlen ht hl cc; omega))]
          refine iteT ?_
          have hw0 : wd ≠ [] := fun e => by rw [e] at hb; simp at hb; (clear e hS hta plen eA hdrop hci hil' hil htn heq hdl hwd hc hsz htot ebl ha0 ha clen hok hlen ht hl cc; omega)
          refine ⟨_, rfl, .inl ⟨rfl, _, SqL.of (by rw [upd_ne hta]; exact eA)⟩, _, rfl, _, rfl, _, rfl, _, rfl, _, rfl, _, rfl, by rw [str_len', List.length_map]; (clear hw0 hbi hS hta plen eA hdrop hci hil' hil htn heq hdl hwd hb hc hsz htot ebl ha0 ha hok ht cc; omega), ?_⟩
          rw [slice_nat _ (by (clear hw0 hbi hS hta plen eA hdrop hci hil' hil htn heq hdl hwd hc hsz htot ebl ha0 ha clen hok hlen ht hl cc; omega)) (by rw [List.length_map]; (clear hw0 hbi hS hta plen eA hdrop hci hil htn heq hdl hwd hb hc hsz htot ebl ha0 ha hok hlen ht hl cc; omega))]
          refine ⟨_, rfl, _, rfl, (by show 3 ≤ sizeLine; decide), fun t2 ht2 => ?_⟩
          have hta2 : a ≠ t2 := ne_of_none (show upd H' t (.tup [.int i, .str ⟨#[c]⟩]) a = some (.lst (ps.map V.ref)) by rw [upd_ne hta]; exact eA) ht2
          refine ⟨a, _, _, rfl, rfl, by rw [upd_ne hta2, upd_ne hta]; exact eA, by simp; (clear hta2 ht2 hw0 hbi hS hta eA hdrop hci hil' hil htn heq hwd hb hc hsz htot ebl ha0 ha clen hok ht cc; omega), ?_⟩
          have ew : ((((codes z).map K01.lo).drop b).take (i - b)) = wd := by
            have e1 : wd.length = i - b := by (clear hta2 ht2 hw0 hbi hS hta plen eA hdrop hci hil' hil htn heq hdl hwd hc hsz htot ebl ha0 ha clen hok hlen ht hl cc; omega)
            rw [e1, List.drop_append_of_le_length (by rw [List.length_map]; (clear e1 hta2 ht2 hw0 hbi hS hta plen eA hdrop hci hil htn heq hdl hwd hc hsz htot ebl ha0 ha hok hlen ht hl cc; omega)), List.take_append_of_le_length (by rw [List.length_drop, List.length_map]; (clear e1 hta2 ht2 hw0 hbi hS hta plen eA hdrop hci hil htn heq hdl hwd hb hc hsz htot ebl ha0 ha hok hlen ht hl cc; omega))] at hwd
            exact hwd.symm
          rw [ew]
          refine ⟨_, rfl, _, _, rfl, rfl, ?_⟩
          have et : HO.tup [V.str ⟨wd.toArray⟩, V.int (b : Int), V.int (i : Int)] = wdT (wd, i - wd.length, i) := by
            unfold wdT
            show HO.tup [_, V.int ((b : Nat) : Int), _] = HO.tup [_, V.int ((i - wd.length : Nat) : Int), _]
            rw [show b = i - wd.length by (clear ew hta2 ht2 hw0 hbi hS hta plen eA hdrop hci hil' hil htn heq hdl hwd hc hsz htot ebl ha0 ha clen hok hlen ht hl cc; omega)]
          rw [et]
          have hfl : flush i wd = [(wd, i - wd.length, i)] := by unfold flush; rw [if_neg hw0]
          rw [hfl] at heq
          refine hnB _ _ ⟨ds ++ [(wd, i - wd.length, i)], [], i + 1, _, _, rfl, same_app smT ha0 ht2, WL.more (by rw [upd_ne hta]; exact eA) (Paired.imp2 pA fun p y q => by rw [upd_ne (ne_of_none q htn)]; exact q) ht2, by simp, by simp, by simp; (clear hfl et ew hta2 ht2 hw0 hbi hS hta plen eA hdrop hci hil' hil htn heq hwd hb hc hsz htot ebl ha0 ha clen hok hlen ht hl cc; omega), by (clear hfl et ew hta2 ht2 hw0 hbi hS hta plen eA hdrop hci hil htn heq hdl hwd hb hc hsz htot ebl ha0 ha clen hok hlen ht hl cc; omega), fun _ => rfl, heq⟩
        · rw [decide_eq_false (by (clear hS hta plen eA hdrop hci hil' hil htn heq hdl hwd hb hc hsz htot ebl ha0 ha clen hok hlen ht hl cc; omega))]
          refine iteF ?_
          have hw0 : wd = [] := List.eq_nil_of_length_eq_zero (by (clear hS hta plen eA hdrop hci hil' hil htn heq hdl hwd hc hsz htot ebl ha0 ha clen hok hlen ht hl cc; omega))
          subst hw0
          refine ⟨_, rfl, _, _, rfl, rfl, ?_⟩
          refine hnB _ _ ⟨ds, [], i + 1, _, _, rfl, smT, hW.same (same_upd htn), by simp, by simp, by (clear heq hwd hb hbi hS hta plen eA hdrop hci hil' hil htn hc hsz htot ebl ha0 ha clen hok hlen ht hl cc; omega), by (clear heq hwd hb hbi hS hta plen eA hdrop hci hil htn hdl hc hsz htot ebl ha0 ha clen hok hlen ht hl cc; omega), fun _ => rfl, ?_⟩
          simpa [flush] using heq
    · rintro σ H' ⟨ds, wd, b, v4, v5, rfl, sm, hW, hb, hwd, hdl, hin, hend, heq⟩
      rw [hsz] at hend heq
      have hw0 := hend rfl
      subst hw0
      rw [List.drop_of_length_le (by simp [clen])] at heq
      have e : ds = words (codes z) := by simpa [wgo, flush] using heq
      subst e
      exact ⟨_, rfl, k1 z rfl hd a H' sm ha0 hW⟩
end
end K23
set_option Elab.async false
set_option linter.all false
set_option maxRecDepth 100000
set_option maxHeartbeats 4000000
namespace K23
open PySem L2 PyProof.Rows PySem.Spec Gn K01
open WN (Cov Rs Mg Pl win Okp near)
section
variable {P : Program} {w : World} {K : PySem.W.Frag} {mg : Str → Option Value} {base : Heap} {CN CS : Addr}
noncomputable def smallS (c : Nat) : List Nat := if isS (K01.lo c) then [K01.lo c] else []
noncomputable def spSmall : Sp := fun vs H Q _ => ∃ c : Nat, vs = [.str ⟨#[c]⟩] ∧ okC c = true ∧ Q (.str ⟨(smallS c).toArray⟩) H
theorem scSmall : FnScope ["_law_sign", "_law_great", "_law_small_here"] ["_law_sign"] (defScope lSmall) := ⟨rfl, rfl, rfl, by decide +kernel, rfl, by decide +kernel, by decide +kernel⟩
theorem in_lit (x : String) (c : Nat) : (!(Builtin.Str.occurrences (Str.ofString x) ⟨#[c]⟩ 0 (Str.ofString x).length 1).isEmpty) = decide (c ∈ (Str.ofString x).cps.toList) := PySem.StrLaws.found_one _ _
theorem great_list : (Str.ofString "ABCDEFGHIJKLMNOPQRSTUVWXYZ").cps.toList = List.range' 65 26 := by decide +kernel
theorem small_list : (Str.ofString "abcdefghijklmnopqrstuvwxyz").cps.toList = List.range' 97 26 := by decide +kernel
theorem fig_list : (Str.ofString "0123456789").cps.toList = List.range' 48 10 := by decide +kernel
theorem find_great : ∀ c, c < 128 → 65 ≤ c → c ≤ 90 → Txt.find (Str.ofString "ABCDEFGHIJKLMNOPQRSTUVWXYZ") ⟨#[c]⟩ = ((c - 65 : Nat) : Int) := by decide +kernel
seal PSs PS PE PT PA PG PI PGs PIfs in
theorem ok_small {f : Addr} {fd : FuncData} (D : Df K mg "_law_small" lSmall f fd) : FnOk P w K mg base CX0 1 f fd ["_law_sign"] spSmall := by
  refine D.F.ok scSmall (fun vs H Q E h => ?_) (fun cdv A outer s H vs Q E hr h => ?_)
  · obtain ⟨c, rfl, _⟩ := h
    rfl
  · obtain ⟨c, rfl, hok, k⟩ := h
    have hlt := ok_lt hok
    refine ⟨_, pss_cons (ps_set (i := 1) scSmall.nd rfl (Or.inl rfl) pe_str) (pss_cons (ps_set (i := 2) scSmall.nd rfl (Or.inl rfl) pe_str)
      (pss_cons (ps_if (pt_cmpR op_in_str (pv 0) (pv 1) rfl) (pss_one (ps_ret (pe_ix ix_str (pv 2) (pe_bm PySem.F.plainAttrs_str PySem.F.slot_str_index PySem.F.type_str_index (mt_sindex rfl) (pv 1) (pa_cons (pv 0) pa_nil)) (fun _ _ => rfl)))) pss_nil)
      (pss_cons (ps_if (PW.pt (pw_or (pt_cmpR op_in_str (pv 0) (pv 2) rfl) (pw_or1 (pt_cmpR op_in_str (pv 0) pe_str rfl)))) (pss_one (ps_ret (pv 0))) pss_nil)
      (pss_one (ps_ret pe_str))))), ?_⟩
    refine ⟨_, rfl, _, rfl, _, _, rfl, rfl, _, rfl, ?_⟩
    rw [in_lit, great_list]
    by_cases hg : 65 ≤ c ∧ c ≤ 90
    · rw [decide_eq_true (by rw [List.mem_range'_1]; (clear hlt hok; omega))]
      refine iteT ?_
      have hf := find_great c hlt hg.1 hg.2
      refine ⟨_, rfl, _, rfl, rfl, _, rfl, _, _, rfl, rfl, ?_, _, _, c + 32, rfl, rfl, by decide, ?_, ?_⟩
      · have e := in_lit "ABCDEFGHIJKLMNOPQRSTUVWXYZ" c
        rw [great_list, decide_eq_true (by rw [List.mem_range'_1]; (clear e hf hlt hok; omega))] at e
        simpa using e
      · rw [hf, small_list]
        refine atI_nat ?_
        rw [List.getElem?_range' (by (clear hf hlt hok; omega))]
        congr 1
        (clear hf hlt hok; omega)
      · have e : smallS c = [c + 32] := by
          unfold smallS K01.lo
          rw [if_pos hg, if_pos]
          unfold isS
          simp only [Bool.or_eq_true, Bool.and_eq_true, decide_eq_true_eq]
          (clear hf hlt hok; omega)
        rw [e] at k
        exact k
    · rw [decide_eq_false (by rw [List.mem_range'_1]; (clear hlt hok; omega))]
      refine iteF ?_
      have el : K01.lo c = c := by unfold K01.lo; rw [if_neg hg]
      refine ⟨_, rfl, _, rfl, _, _, rfl, rfl, _, rfl, ?_⟩
      rw [in_lit, small_list]
      by_cases hs : 97 ≤ c ∧ c ≤ 122
      · rw [decide_eq_true (by rw [List.mem_range'_1]; (clear el hg hlt hok; omega))]
        refine iteT (iteT ⟨_, rfl, ?_⟩)
        have e : smallS c = [c] := by
          unfold smallS
          rw [el, if_pos]
          unfold isS
          simp only [Bool.or_eq_true, Bool.and_eq_true, decide_eq_true_eq]
          (clear el hg hlt hok; omega)
        rw [e] at k
        exact k
      · rw [decide_eq_false (by rw [List.mem_range'_1]; (clear el hg hlt hok; omega))]
        refine iteF ⟨_, rfl, _, _, rfl, rfl, _, rfl, ?_⟩
        rw [in_lit, fig_list]
        by_cases hd : 48 ≤ c ∧ c ≤ 57
        · rw [decide_eq_true (by rw [List.mem_range'_1]; (clear hs el hg hlt hok; omega))]
          refine iteT ⟨_, rfl, ?_⟩
          have e : smallS c = [c] := by
            unfold smallS
            rw [el, if_pos]
            unfold isS
            simp only [Bool.or_eq_true, Bool.and_eq_true, decide_eq_true_eq]
            (clear hs el hg hlt hok; omega)
          rw [e] at k
          exact k
        · rw [decide_eq_false (by rw [List.mem_range'_1]; (clear hs el hg hlt hok; omega))]
          refine iteF ?_
          have e : smallS c = [] := by
            unfold smallS
            rw [el, if_neg]
            unfold isS
            simp only [Bool.or_eq_true, Bool.and_eq_true, decide_eq_true_eq]
            (clear el hg hlt hok; omega)
          rw [e] at k
          exact k
noncomputable def spWords : Sp := fun vs H Q _ => ∃ x, vs = [.str x] ∧ Drawn x ∧ ∀ a H', Same H H' → H a = none → WL H' a (words (codes x)) → Q (.ref a) H'
theorem scWords : FnScope ["_law_text_here", "_law_found", "_law_word", "_law_at", "_law_sign"] ["_law_text_here"] (defScope lWords) := ⟨rfl, rfl, rfl, by decide +kernel, rfl, by decide +kernel, by decide +kernel⟩
seal PSs PS PE PT PA PG PI PGs PIfs in
theorem ok_words {f fs : Addr} {fd fds : FuncData} (D : Df K mg "_law_words" lWords f fd) (DS : Df K mg "_law_small" lSmall fs fds) (T : Txt mg) : FnOk P w K mg base CX0 2 f fd ["_law_text_here"] spWords := by
  have GS : FnOk P w K mg base CX0 1 fs fds ["_law_sign"] spSmall := ok_small DS
  have bS := binds1 (p := "_law_sign") DS.F fun _ _ _ _ _ _ _ => rfl
  refine D.F.ok scWords (fun vs H Q E h => ?_) (fun cdv A outer s H vs Q E hr h => ?_)
  · obtain ⟨x, rfl, _⟩ := h
    rfl
  · obtain ⟨x, rfl, ⟨hlen, hok⟩, kk⟩ := h
    have hl : (sizeLine : Nat) = 16777216 := sizeLine_eq
    have clen : (codes x).length = x.length := by unfold codes; simp [Str.length]
    refine ⟨_, pss_cons (ps_set (i := 1) scWords.nd rfl (Or.inl rfl) (pe_lst pa_nil)) (pss_cons (ps_set (i := 2) scWords.nd rfl (Or.inl rfl) pe_str)
      (pss_cons (ps_for PassesOwn.never rfl (pi_range1 rfl T.range (pa_cons (pe_op op_add (pe_callB call_len_str rfl T.len b_len (pa_cons (pv 0) pa_nil)) pe_int) pa_nil)) (pg_name (i := 3) scWords.nd rfl (Or.inl rfl))
        (pss_cons (ps_set (i := 4) scWords.nd rfl (Or.inl rfl) pe_str)
        (pss_cons (ps_if (pt_cmpR op_lt (pv 3) (pe_callB call_len_str rfl T.len b_len (pa_cons (pv 0) pa_nil)) (nomark _))
          (pss_one (ps_set (i := 4) scWords.nd rfl (Or.inl rfl) (pe_call GS hr rfl DS.m DS.F.kp bS .nil pass0 (pa_cons (pe_ix ix_str (pv 0) (pv 3) (fun _ _ => rfl)) pa_nil)))) pss_nil)
        (pss_cons (ps_if (PW.pt (pw_and (pt_cmpR op_eq (pv 4) pe_str (nomark _)) (pw_and1 (pt_cmpR op_ne (pv 2) pe_str (nomark _)))))
          (pss_cons (ps_expr (pe_bm PySem.F.plainAttrs_list PySem.F.slot_list_append PySem.F.type_list_append mt_append (pv 1)
              (pa_cons (pe_tup (pa_cons (pv 2) (pa_cons (pe_op op_sub (pv 3) (pe_callB call_len_str rfl T.len b_len (pa_cons (pv 2) pa_nil))) (pa_cons (pv 3) pa_nil)))) pa_nil)))
            (pss_one (ps_set (i := 2) scWords.nd rfl (Or.inl rfl) pe_str))) pss_nil)
        (pss_one (ps_set (i := 2) scWords.nd rfl (Or.inl rfl) (pe_op op_add_str (pv 2) (pv 4))))))))
      (pss_one (ps_ret (pv 1))))), ?_⟩
    refine ⟨Nat.zero_le _, fun a ha => ?_⟩
    refine ⟨_, rfl, x, rfl, by (clear ha clen hok; omega), _, _, rfl, rfl, _, rfl, by (clear ha clen hl hok hlen; omega), by (clear ha clen hl hok; omega), ?_⟩
    have en : (((x.length : Nat) : Int) + 1).toNat = x.length + 1 := by (clear ha clen hl hok hlen; omega)
    rw [en]
    refine for_range (fun i σ H' => ∃ (ds : List Wd) (wd : List Nat) (v3 v4 : Option V), σ = [some (.str x), some (.ref a), some (.str ⟨wd.toArray⟩), v3, v4] ∧ Same H H' ∧ WL H' a ds ∧ wd.all isS = true ∧ wd.length ≤ i ∧ ds.length ≤ i ∧
        ((i ≤ x.length ∧ ds ++ wgo (((codes x).map K01.lo).drop i) i wd = words (codes x)) ∨ (i = x.length + 1 ∧ ds = words (codes x)))) ?_ ?_ ?_
    · exact ⟨[], [], none, none, rfl, same_upd ha, ⟨[], upd_same, .nil⟩, rfl, Nat.le_refl _, Nat.le_refl _, .inl ⟨Nat.zero_le _, rfl⟩⟩
    · intro i σ H' hi hP
      refine genW fun B D' hB hnB => ?_
      obtain ⟨ds, wd, v3, v4, rfl, sm, hW, hwd, hwl, hdl, hm⟩ := hP
      have hm' : i ≤ x.length ∧ ds ++ wgo (((codes x).map K01.lo).drop i) i wd = words (codes x) := by
        rcases hm with q | ⟨q, _⟩
        · exact q
        · (clear hdl hwl hwd en ha clen hl hok hlen; omega)
      obtain ⟨hix, heq⟩ := hm'
      have e0 : (0 : Int) + (i : Nat) = (i : Int) := by (clear heq hix hm hdl hwl hwd hi en ha clen hl hok hlen; omega)
      rw [e0]
      have rest : ∀ (sg : List Nat), ((sg = [] ∧ ((i < x.length → False) ∨ ∃ c, (codes x)[i]? = some c ∧ isS (K01.lo c) = false)) ∨ ∃ c, (codes x)[i]? = some c ∧ isS (K01.lo c) = true ∧ sg = [K01.lo c]) → sg.length ≤ 1 → True := fun _ _ _ => trivial
      refine nextW (R := B) hB fun R hR => ?_
      refine nextW (R := R) hR fun R hR => ?_
      refine ⟨_, rfl, _, rfl, x, rfl, by (clear e0 heq hix hm hdl hwl hwd hi en ha clen hok; omega), _, _, rfl, rfl, _, rfl, ?_⟩
      obtain ⟨ps, eA, pA⟩ := hW.ex
      have plen := Paired.len pA
      by_cases hlt : i < x.length
      · rw [decide_eq_true (by (clear plen eA e0 heq hix hm hdl hwl hwd hi en ha clen hl hok hlen; omega))]
        refine iteT ?_
        have hci : i < (codes x).length := by (clear plen eA e0 heq hix hm hdl hwl hwd hi en ha hl hok hlen; omega)
        have hc : (codes x)[i]? = some (codes x)[i] := List.getElem?_eq_getElem hci
        have hdrop : ((codes x).map K01.lo).drop i = K01.lo (codes x)[i] :: ((codes x).map K01.lo).drop (i + 1) := by
          rw [List.drop_eq_getElem_cons (by rw [List.length_map]; exact hci), List.getElem_map]
        have hokc : okC (codes x)[i] = true := List.all_eq_true.mp hok _ (List.getElem_mem hci)
        refine ⟨_, rfl, _, rfl, x, _, (codes x)[i], rfl, rfl, by (clear hokc hdrop hc hci hlt plen eA e0 heq hix hm hdl hwl hwd hi en ha clen hok; omega), atI_nat hc, _, rfl, hokc, ?_⟩
        refine nextW (R := R) hR fun R hR => ?_
        refine ⟨_, rfl, rfl, _, rfl, ?_⟩
        have es : decide (V.str ⟨(smallS (codes x)[i]).toArray⟩ = V.str (Str.ofString "")) = decide (smallS (codes x)[i] = []) := str_eq _ []
        rw [es]
        cases hS : isS (K01.lo (codes x)[i]) with
        | true =>
          have e1 : smallS (codes x)[i] = [K01.lo (codes x)[i]] := by unfold smallS; rw [if_pos hS]
          rw [e1, decide_eq_false (by simp)]
          refine iteF (iteF (lastW (R := R) hR ?_))
          refine ⟨_, rfl, _, rfl, _, _, rfl, rfl, ?_, ?_⟩
          · rw [str_len', str_len']; simp; (clear e1 hS es hokc hdrop hc hci hlt plen eA e0 heq hix hm hdl hwd en ha clen hok; omega)
          · rw [str_app]
            refine hnB _ _ ⟨ds, wd ++ [K01.lo (codes x)[i]], _, _, rfl, sm, hW, by simp [List.all_append, hwd, hS], by simp; (clear e1 hS es hokc hdrop hc hci hlt plen eA e0 heq hix hm hdl hwd hi en ha clen hl hok hlen; omega), by (clear e1 hS es hokc hdrop hc hci hlt plen eA e0 heq hix hm hwl hwd hi en ha clen hl hok hlen; omega), .inl ⟨by (clear e1 hS es hokc hdrop hc hci plen eA e0 heq hix hm hdl hwl hwd hi en ha clen hl hok hlen; omega), ?_⟩⟩
            rw [hdrop, wgo_small hS] at heq
            exact heq
        | false =>
          have e1 : smallS (codes x)[i] = [] := by unfold smallS; rw [if_neg (by rw [hS]; exact Bool.false_ne_true)]
          rw [e1, decide_eq_true rfl]
          refine iteT ⟨_, rfl, rfl, _, rfl, ?_⟩
          have ew : (!decide (V.str ⟨wd.toArray⟩ = V.str (Str.ofString ""))) = !decide (wd = []) := by rw [show decide (V.str ⟨wd.toArray⟩ = V.str (Str.ofString "")) = decide (wd = []) from str_eq _ []]
          rw [ew]
          rw [hdrop, wgo_other hS, ← List.append_assoc] at heq
          by_cases hw0 : wd = []
          · subst hw0
            rw [decide_eq_true rfl]
            refine iteF (lastW (R := R) hR ?_)
            refine ⟨_, rfl, _, rfl, _, _, rfl, rfl, fit_app (a := []) (b := []) (by simp), ?_⟩
            rw [str_app]
            refine hnB _ _ ⟨ds, [], _, _, rfl, sm, hW, rfl, Nat.zero_le _, by (clear ew heq hm hwl hwd e1 hS es hokc hdrop hc hci hlt plen eA e0 hix hi en ha clen hl hok hlen; omega), .inl ⟨by (clear ew heq hm hwl hwd e1 hS es hokc hdrop hc hci plen eA e0 hix hdl hi en ha clen hl hok hlen; omega), ?_⟩⟩
            simpa [flush] using heq
          · rw [decide_eq_false hw0]
            refine iteT ?_
            refine ⟨_, rfl, .inl ⟨rfl, _, SqL.of eA⟩, _, rfl, _, rfl, _, rfl, _, rfl, by rw [str_len']; (clear hw0 ew e1 hS es hokc hdrop hc heq hci hlt plen eA e0 hix hm hdl hwd en ha clen hok; omega), _, _, rfl, rfl, _, rfl, (by show 3 ≤ sizeLine; decide), fun t ht => ?_⟩
            have hta : a ≠ t := ne_of_none eA ht
            refine ⟨a, _, _, rfl, rfl, by rw [upd_ne hta]; exact eA, by simp; (clear hta ht hw0 ew e1 hS es hokc hdrop hc heq hci hlt eA e0 hix hm hwl hwd en ha clen hok; omega), ?_⟩
            refine lastW (R := R) hR ?_
            refine ⟨_, rfl, _, rfl, _, _, rfl, rfl, fit_app (a := []) (b := []) (by simp), ?_⟩
            have et : HO.tup [V.str ⟨wd.toArray⟩, V.int (((i : Nat) : Int) - ((Str.length ⟨wd.toArray⟩ : Nat) : Int)), V.int (i : Int)] = wdT (wd, i - wd.length, i) := by
              unfold wdT
              rw [str_len']
              show HO.tup [_, V.int _, _] = HO.tup [_, V.int ((i - wd.length : Nat) : Int), _]
              rw [show ((i : Nat) : Int) - ((wd.length : Nat) : Int) = ((i - wd.length : Nat) : Int) by (clear hta ht hw0 ew e1 hS es hokc hdrop hc heq hci hlt plen eA e0 hix hm hdl hwd hi en ha clen hl hok hlen; omega)]
            rw [et]
            have ee : (Str.ofString "" : Str) ++ ⟨([] : List Nat).toArray⟩ = ⟨([] : List Nat).toArray⟩ := str_app [] []
            refine hnB _ _ ⟨ds ++ [(wd, i - wd.length, i)], [], _, _, (by rw [ee]; rfl), same_app sm ha ht, WL.more eA pA ht, rfl, Nat.zero_le _, by simp; (clear ee et hta ht hw0 ew e1 hS es hokc hdrop hc heq hci hlt plen eA e0 hix hm hwl hwd hi en ha clen hl hok hlen; omega), .inl ⟨by (clear ee et hta ht hw0 ew e1 hS es hokc hdrop hc heq hci plen eA e0 hix hm hdl hwl hwd hi en ha clen hl hok hlen; omega), ?_⟩⟩
            have hfl : flush i wd = [(wd, i - wd.length, i)] := by unfold flush; rw [if_neg hw0]
            rw [hfl] at heq
            exact heq
      · rw [decide_eq_false (by (clear plen eA e0 heq hix hm hdl hwl hwd hi en ha clen hl hok hlen; omega))]
        refine iteF ?_
        have hin : i = x.length := by (clear plen eA e0 heq hix hm hdl hwl hwd en ha clen hl hok hlen; omega)
        have hdrop : ((codes x).map K01.lo).drop i = [] := List.drop_of_length_le (by rw [List.length_map]; (clear hin plen eA e0 heq hix hm hdl hwl hwd hi en ha hl hok hlen; omega))
        rw [hdrop] at heq
        have heq' : ds ++ flush i wd = words (codes x) := heq
        refine nextW (R := R) hR fun R hR => ?_
        refine ⟨_, rfl, rfl, _, rfl, ?_⟩
        have es : decide (V.str (Str.ofString "") = V.str (Str.ofString "")) = true := decide_eq_true rfl
        rw [es]
        refine iteT ⟨_, rfl, rfl, _, rfl, ?_⟩
        have ew : (!decide (V.str ⟨wd.toArray⟩ = V.str (Str.ofString ""))) = !decide (wd = []) := by rw [show decide (V.str ⟨wd.toArray⟩ = V.str (Str.ofString "")) = decide (wd = []) from str_eq _ []]
        rw [ew]
        have ee : (⟨wd.toArray⟩ : Str) ++ Str.ofString "" = ⟨wd.toArray⟩ := by
          rw [empty_str, str_app, List.append_nil]
        by_cases hw0 : wd = []
        · subst hw0
          rw [decide_eq_true rfl]
          refine iteF (lastW (R := R) hR ?_)
          refine ⟨_, rfl, _, rfl, _, _, rfl, rfl, fit_app (a := []) (b := []) (by simp), ?_⟩
          rw [ee]
          exact hnB _ _ ⟨ds, [], _, _, rfl, sm, hW, rfl, Nat.zero_le _, by (clear ee ew heq' heq hm hwl hwd es hdrop hin hlt plen eA e0 hix hi en ha clen hl hok hlen; omega), .inr ⟨by (clear ee ew heq' heq hm hwl hwd es hdrop hin plen eA e0 hix hdl en ha clen hl hok hlen; omega), by simpa [flush] using heq'⟩⟩
        · rw [decide_eq_false hw0]
          refine iteT ?_
          refine ⟨_, rfl, .inl ⟨rfl, _, SqL.of eA⟩, _, rfl, _, rfl, _, rfl, _, rfl, by rw [str_len']; (clear hw0 ee ew es heq' hdrop hin hlt plen eA e0 heq hix hm hdl hwd en ha clen hok; omega), _, _, rfl, rfl, _, rfl, (by show 3 ≤ sizeLine; decide), fun t ht => ?_⟩
          have hta : a ≠ t := ne_of_none eA ht
          refine ⟨a, _, _, rfl, rfl, by rw [upd_ne hta]; exact eA, by simp; (clear hta ht hw0 ee ew es heq' hdrop hin hlt eA e0 heq hix hm hwl hwd en ha clen hok; omega), ?_⟩
          refine lastW (R := R) hR ?_
          refine ⟨_, rfl, _, rfl, _, _, rfl, rfl, fit_app (a := []) (b := []) (by simp), ?_⟩
          have et : HO.tup [V.str ⟨wd.toArray⟩, V.int (((i : Nat) : Int) - ((Str.length ⟨wd.toArray⟩ : Nat) : Int)), V.int (i : Int)] = wdT (wd, i - wd.length, i) := by
            unfold wdT
            rw [str_len']
            show HO.tup [_, V.int _, _] = HO.tup [_, V.int ((i - wd.length : Nat) : Int), _]
            rw [show ((i : Nat) : Int) - ((wd.length : Nat) : Int) = ((i - wd.length : Nat) : Int) by (clear hta ht hw0 ee ew es heq' hdrop hin hlt plen eA e0 heq hix hm hdl hwd hi en ha clen hl hok hlen; omega)]
          rw [et]
          have e2 : (Str.ofString "" : Str) ++ Str.ofString "" = ⟨([] : List Nat).toArray⟩ := str_app [] []
          have hfl : flush i wd = [(wd, i - wd.length, i)] := by unfold flush; rw [if_neg hw0]
          rw [hfl] at heq'
          exact hnB _ _ ⟨ds ++ [(wd, i - wd.length, i)], [], _, _, (by rw [e2]; rfl), same_app sm ha ht, WL.more eA pA ht, rfl, Nat.zero_le _, by simp; (clear hfl e2 et hta ht hw0 ee ew es heq' hdrop hin hlt plen eA e0 heq hix hm hwl hwd hi en ha clen hl hok hlen; omega), .inr ⟨by (clear hfl e2 et hta ht hw0 ee ew es heq' hdrop hin plen eA e0 heq hix hm hdl hwl hwd en ha clen hl hok hlen; omega), heq'⟩⟩
    · rintro σ H' ⟨ds, wd, v3, v4, rfl, sm, hW, _, _, _, hm⟩
      rcases hm with ⟨q, _⟩ | ⟨_, q⟩
      · (clear en ha clen hl hok hlen; omega)
      · subst q
        exact ⟨_, rfl, kk a H' sm ha hW⟩
end
end K23
set_option Elab.async false
set_option linter.all false
set_option maxRecDepth 100000
set_option maxHeartbeats 4000000
namespace K23
open PySem L2 PyProof.Rows PySem.Spec Gn K01
open WN (Cov Rs Mg Pl win Okp near)
section
variable {P : Program} {w : World} {K : PySem.W.Frag} {mg : Str → Option Value} {base : Heap} {CN CS : Addr}
theorem join_codes : ∀ cs : List Nat, PySem.Str.join (Str.ofString "") (cs.map fun c => (⟨#[c]⟩ : Str)) = ⟨cs.toArray⟩
  | [] => rfl
  | [c] => rfl
  | c :: d :: r => by
    show (⟨[c].toArray⟩ : Str) ++ Str.ofString "" ++ PySem.Str.join (Str.ofString "") ((d :: r).map fun c => (⟨#[c]⟩ : Str)) = _
    rw [join_codes (d :: r), empty_str, str_app, str_app]
    rfl
theorem join_eq (cs : List Nat) : Txt.join (Str.ofString "") (cs.map fun c => (⟨#[c]⟩ : Str)) = ⟨cs.toArray⟩ := by
  show Builtin.Str.glued _ _ = _
  rw [StrLaws.glued_eq_join]
  exact join_codes cs
theorem sum_ones (cs : List Nat) : ((cs.map fun c => (⟨#[c]⟩ : Str)).map (·.length)).sum = cs.length := by
  induction cs with
  | nil => rfl
  | cons c r ih => rw [List.map_cons, List.map_cons, List.sum_cons, ih, List.length_cons]; show 1 + _ = _; (clear ih; omega)
theorem slice_mem {z : Str} {l u : Option Int} {c : Nat} (h : c ∈ (Txt.slice z l u).cps.toList) : c ∈ z.cps.toList := by
  unfold Txt.slice at h
  split at h
  · exact h
  · have h' : c ∈ (Builtin.Str.strSliceIndices l u 1 z.length).filterMap (z.cps[·]?) := by simpa using h
    obtain ⟨i, _, e⟩ := List.mem_filterMap.mp h'
    have := Array.mem_of_getElem? e
    simpa using this
theorem slice_all {p : Nat → Bool} {z : Str} (l u : Option Int) (h : z.cps.toList.all p = true) : (Txt.slice z l u).cps.toList.all p = true :=
  List.all_eq_true.mpr fun c hc => List.all_eq_true.mp h c (slice_mem hc)
theorem sub_mem {z : Str} {i j c : Nat} (h : c ∈ (Builtin.Str.strSub z i j).cps.toList) : c ∈ z.cps.toList := by
  have h' : c ∈ (z.cps.extract i j).toList := h
  rw [Array.toList_extract] at h'
  exact List.mem_of_mem_drop (List.mem_of_mem_take h')
theorem strip_all {p : Nat → Bool} {z : Str} (h : z.cps.toList.all p = true) : (Txt.strip z).cps.toList.all p = true := by
  refine List.all_eq_true.mpr fun c hc => List.all_eq_true.mp h c ?_
  unfold Txt.strip at hc
  rw [stripBy_eq] at hc
  exact sub_mem hc
theorem app_all {p : Nat → Bool} {a b : Str} (ha : a.cps.toList.all p = true) (hb : b.cps.toList.all p = true) : (a ++ b).cps.toList.all p = true := by
  rw [PySem.Str.cps_append, Array.toList_append, List.all_append, ha, hb]
  rfl
theorem up_ok : ∀ c, c < 128 → isS c = true → okC (up1 c) = true := by decide +kernel
theorem upper_all {z : Str} (h : z.cps.toList.all isS = true) : (Txt.upper z).cps.toList.all okC = true ∧ (Txt.upper z).length = z.length := by
  rw [upper_ascii fun c hc => isS_lt (List.all_eq_true.mp h c hc)]
  refine ⟨?_, by simp [Str.length]⟩
  rw [Array.toList_map, List.all_map]
  exact List.all_eq_true.mpr fun c hc => up_ok c (isS_lt (List.all_eq_true.mp h c hc)) (List.all_eq_true.mp h c hc)
theorem isS_all {z : Str} (h : z.cps.toList.all isS = true) : z.cps.toList.all okC = true := List.all_eq_true.mpr fun c hc => isS_ok (List.all_eq_true.mp h c hc)
theorem all_get {p : Nat → Bool} {l : List Nat} (h : l.all p = true) {i : Nat} (hi : i < l.length) : p l[i] = true := List.all_eq_true.mp h _ (List.getElem_mem hi)
noncomputable def pL (c : Nat) : Bool := isS (K01.lo c)
noncomputable def sc (p : Bool) : List Nat → Nat
  | [] => 0
  | c :: r => (if pL c = true ∧ p = false then 1 else 0) + sc (pL c) r
noncomputable def lst1 (p : Bool) : List Nat → Bool
  | [] => p
  | c :: r => lst1 (pL c) r
theorem sc_app : ∀ (a b : List Nat) (p : Bool), sc p (a ++ b) = sc p a + sc (lst1 p a) b
  | [], b, p => by
    show sc p b = 0 + sc p b
    omega
  | c :: a, b, p => by
    show _ + sc (pL c) (a ++ b) = _ + sc (pL c) a + sc (lst1 (pL c) a) b
    rw [sc_app a b (pL c), Nat.add_assoc]
theorem sc_true : ∀ (b : List Nat), sc true b ≤ sc false b ∧ sc false b ≤ sc true b + 1
  | [] => ⟨Nat.le_refl _, Nat.le_succ _⟩
  | c :: r => by
    show (if pL c = true ∧ true = false then 1 else 0) + sc (pL c) r ≤ (if pL c = true ∧ false = false then 1 else 0) + sc (pL c) r ∧ (if pL c = true ∧ false = false then 1 else 0) + sc (pL c) r ≤ (if pL c = true ∧ true = false then 1 else 0) + sc (pL c) r + 1
    rw [if_neg (show ¬ (pL c = true ∧ true = false) from fun z => nomatch z.2)]
    constructor
    · omega
    · split <;> omega
theorem sc_le (p : Bool) (b : List Nat) : sc p b ≤ sc false b := by
  cases p
  · exact Nat.le_refl _
  · exact (sc_true b).1
theorem sc_lst : ∀ (a : List Nat) (p : Bool), lst1 p a = true → p = true ∨ 1 ≤ sc p a
  | [], p, h => .inl h
  | c :: a, p, h => by
    have h' : lst1 (pL c) a = true := h
    show p = true ∨ 1 ≤ (if pL c = true ∧ p = false then 1 else 0) + sc (pL c) a
    rcases sc_lst a (pL c) h' with q | q
    · cases p
      · rw [if_pos ⟨q, rfl⟩]
        exact .inr (by omega)
      · exact .inl rfl
    · exact .inr (by omega)
theorem sc_app_le (a b : List Nat) : sc false (a ++ b) ≤ sc false a + sc false b := by
  rw [sc_app]
  have := sc_le (lst1 false a) b
  omega
theorem sc_left (a b : List Nat) : sc false a ≤ sc false (a ++ b) := by rw [sc_app]; omega
theorem sc_right (a b : List Nat) : sc false b ≤ sc false (a ++ b) := by
  rw [sc_app]
  cases h : lst1 false a with
  | false => omega
  | true =>
    have h1 := (sc_true b).2
    rcases sc_lst a false h with q | q
    · cases q
    · omega
theorem sc_ones : ∀ (y : List Nat) (p : Bool), y.all pL = true → sc p y ≤ (if p = true then 0 else 1)
  | [], p, _ => Nat.zero_le _
  | c :: y, p, h => by
    rw [List.all_cons, Bool.and_eq_true] at h
    have ih := sc_ones y (pL c) h.2
    rw [if_pos h.1] at ih
    show (if pL c = true ∧ p = false then 1 else 0) + sc (pL c) y ≤ _
    cases p
    · rw [if_pos ⟨h.1, rfl⟩, if_neg (by decide)]
      omega
    · rw [if_neg (fun z => nomatch z.2), if_pos rfl]
      omega
theorem sc_none : ∀ (t : List Nat) (p : Bool), t.all (fun c => !pL c) = true → sc p t = 0
  | [], p, _ => rfl
  | c :: t, p, h => by
    rw [List.all_cons, Bool.and_eq_true] at h
    have hc : pL c = false := by simpa using h.1
    have ih := sc_none t (pL c) h.2
    show (if pL c = true ∧ p = false then 1 else 0) + sc (pL c) t = 0
    rw [ih, if_neg (fun z => by rw [hc] at z; cases z.1)]
theorem wgo_sc : ∀ (r : List Nat) (i : Nat) (w : List Nat), (wgo (r.map K01.lo) i w).length = (if w = [] then 0 else 1) + sc (decide (w ≠ [])) r
  | [], i, w => by
    show (flush i w).length = _
    unfold flush
    by_cases h : w = []
    · rw [if_pos h, if_pos h]
      rfl
    · rw [if_neg h, if_neg h]
      rfl
  | c :: r, i, w => by
    show (wgo (K01.lo c :: r.map K01.lo) i w).length = _ + ((if pL c = true ∧ decide (w ≠ []) = false then 1 else 0) + sc (pL c) r)
    cases h : isS (K01.lo c) with
    | true =>
      have hp : pL c = true := h
      rw [wgo_small h, wgo_sc r (i + 1) (w ++ [K01.lo c]), if_neg (by simp), hp]
      have e : decide (w ++ [K01.lo c] ≠ []) = true := by simp
      rw [e]
      by_cases hw : w = []
      · rw [if_pos hw, if_pos ⟨rfl, by simp [hw]⟩]
        omega
      · rw [if_neg hw, if_neg (fun z => by have := z.2; simp [hw] at this)]
        omega
    | false =>
      have hp : pL c = false := h
      rw [wgo_other h, List.length_append, wgo_sc r (i + 1) [], if_pos (rfl : ([] : List Nat) = []), hp, if_neg (show ¬ (false = true ∧ decide (w ≠ []) = false) from fun z => nomatch z.1)]
      have e : decide (([] : List Nat) ≠ []) = false := by simp
      rw [e]
      unfold flush
      by_cases hw : w = []
      · rw [if_pos hw, if_pos hw]
        show 0 + (0 + sc false r) = 0 + (0 + sc false r)
        rfl
      · rw [if_neg hw, if_neg hw]
        show 1 + (0 + sc false r) = 1 + (0 + sc false r)
        rfl
theorem words_sc (cs : List Nat) : (words cs).length = sc false cs := by
  have := wgo_sc cs 0 []
  rw [if_pos rfl] at this
  have e : decide (([] : List Nat) ≠ []) = false := by simp
  rw [e, Nat.zero_add] at this
  exact this
theorem codes_app (a b : Str) : codes (a ++ b) = codes a ++ codes b := by
  unfold codes
  rw [PySem.Str.cps_append, Array.toList_append]
theorem sub_sc (l : List Nat) (i j : Nat) : sc false ((l.drop i).take (j - i)) ≤ sc false l := by
  have h1 := sc_left ((l.drop i).take (j - i)) ((l.drop i).drop (j - i))
  rw [List.take_append_drop] at h1
  have h2 := sc_right (l.take i) (l.drop i)
  rw [List.take_append_drop] at h2
  exact Nat.le_trans h1 h2
theorem strip_sc (z : Str) : sc false (codes (Txt.strip z)) ≤ sc false (codes z) := by
  unfold Txt.strip
  rw [stripBy_eq]
  have key : ∀ i j : Nat, sc false (z.cps.extract i j).toList ≤ sc false z.cps.toList := fun i j => by
    rw [Array.toList_extract]
    exact sub_sc z.cps.toList i j
  exact key _ _
theorem pL_isS : ∀ c, c < 128 → isS c = true → pL c = true := by decide +kernel
theorem pL_up : ∀ c, c < 128 → isS c = true → pL (up1 c) = true := by decide +kernel
theorem pL_all {z : Str} (h : z.cps.toList.all isS = true) : z.cps.toList.all pL = true := List.all_eq_true.mpr fun c hc => pL_isS c (isS_lt (List.all_eq_true.mp h c hc)) (List.all_eq_true.mp h c hc)
theorem pL_upper {z : Str} (h : z.cps.toList.all isS = true) : (Txt.upper z).cps.toList.all pL = true := by
  rw [upper_ascii fun c hc => isS_lt (List.all_eq_true.mp h c hc), Array.toList_map, List.all_map]
  exact List.all_eq_true.mpr fun c hc => pL_up c (isS_lt (List.all_eq_true.mp h c hc)) (List.all_eq_true.mp h c hc)
theorem cut_ab {R : Str} {i j : Int} (hi : 0 ≤ i) (hij : i ≤ j) (hj : j ≤ R.length) : (Txt.slice R none (some i)).length + (Txt.slice R (some i) (some j)).length ≤ j.toNat := by
  have l : (R.cps.toList.length : Int) = R.length := by simp [Str.length]
  have e1 : Txt.slice R none (some i) = _ := PySem.StrLaws.sliceText_to ⟨hi, by omega⟩
  have e2 : Txt.slice R (some i) (some j) = _ := PySem.StrLaws.sliceText_plain ⟨hi, hij, by omega⟩
  rw [e1, e2, str_len', str_len', List.length_take, List.length_take, List.length_drop, List.length_drop]
  omega
theorem cut_one (z : Str) : (Txt.slice z none (some 1)).length + (Txt.slice z (some 1) none).length ≤ z.length := by
  have l : z.cps.toList.length = z.length := by simp [Str.length]
  by_cases h : z.length = 0
  · have a := Txt.slice_le z none (some 1)
    have b := Txt.slice_le z (some 1) none
    omega
  · have e1 : Txt.slice z none (some 1) = _ := PySem.StrLaws.sliceText_to ⟨by decide, by omega⟩
    have e2 : Txt.slice z (some 1) none = _ := PySem.StrLaws.sliceText_from ⟨by decide, by omega⟩
    rw [e1, e2, str_len', str_len', List.length_take, List.length_take, List.length_drop, List.length_drop]
    omega
noncomputable def Wm (z : Str) : Prop := z.length ≤ 7 ∧ z.cps.toList.all isS = true
noncomputable def spMenu : Sp := fun vs H Q _ => ∃ n : Int, vs = [.int n] ∧ ∀ a H' (ws : List Str), Same H H' → H' a = some (.lst (ws.map V.str)) → ws.length = 5 → (∀ z ∈ ws, Wm z) → Q (.ref a) H'
theorem scMenu : FnScope ["_law_number_here", "_law_signs", "_law_rest", "_law_k", "_law_size", "_law_at", "_law_found", "_law_sign"] ["_law_number_here"] (defScope lMenu) := ⟨rfl, rfl, rfl, by decide +kernel, rfl, by decide +kernel, by decide +kernel⟩
theorem ndMenu : (["_law_j", "_law_signs", "_law_number_here"] : List Str).Nodup := by decide +kernel
theorem ndMenu2 : (["_law_k", "_law_rest"] : List Str).Nodup := by decide +kernel
seal PSs PS PE PT PA PG PI PGs PIfs in
theorem ok_menu {f fm : Addr} {fd fdm : FuncData} (D : Df K mg "_law_menu" lMenu f fd) (DM : Df K mg "_law_mixed" lMixed fm fdm) (T : Txt mg) : FnOk P w K mg base CX0 2 f fd ["_law_number_here"] spMenu := by
  have GM : FnOk P w K mg base CX0 1 fm fdm ["_law_number_here", "_law_k"] spMixed := ok_mixed DM
  have bM := DM.F.binds (ps := ["_law_number_here", "_law_k"]) fun _ _ _ _ _ _ us hl => us2 (fun _ _ => rfl) us hl
  refine D.F.ok scMenu (fun vs H Q E h => ?_) (fun cdv A outer s H vs Q E hr h => ?_)
  · obtain ⟨n, rfl, _⟩ := h
    rfl
  · obtain ⟨n, rfl, kk⟩ := h
    have hl : (sizeLine : Nat) = 16777216 := sizeLine_eq
    refine ⟨_, pss_cons (ps_set (i := 1) scMenu.nd rfl (Or.inr rfl) pe_str)
      (pss_cons (ps_ifJ (pt_cmpR op_eq (pe_op op_mod (pv 0) pe_int) pe_int (nomark _)) (pss_one (ps_set (i := 1) scMenu.nd rfl (Or.inr rfl) pe_str)) pss_nil)
      (pss_cons (ps_set (i := 2) scMenu.nd rfl (Or.inr rfl) (pe_bm PySem.F.plainAttrs_str PySem.F.slot_str_join PySem.F.type_str_join mt_join pe_str (pa_cons (pe_comp (own := 1) (caps := [1, 0]) (N := ["_law_j", "_law_signs", "_law_number_here"])
          (N0 := ["_law_number_here", "_law_signs", "_law_rest", "_law_k", "_law_size", "_law_at", "_law_found", "_law_sign"]) (sc0 := defScope lMenu) rfl
        (pi_range1 rfl T.range (pa_cons pe_int pa_nil)) (fun _ _ _ => pg_name (i := 0) ndMenu rfl (Or.inl rfl)) (fun _ _ _ => pf_none)
        (fun _ _ _ => pe_ix ix_str (pv 1) (pe_op op_mod (pe_call GM hr rfl DM.m DM.F.kp bM .nil pass0 (pa_cons (pv 2) (pa_cons (pe_op op_add pe_int (pv 0)) pa_nil))) pe_int) (fun _ _ => rfl)) (gk_name (by decide)) rfl rfl
        (by decide +kernel) rfl (by decide +kernel) (by decide +kernel) rfl (by decide +kernel)) pa_nil)))
      (pss_cons (ps_if (pt_cmpR op_eq (pe_op op_mod (pe_op op_fdiv (pv 0) pe_int) pe_int) pe_int (nomark _))
        (pss_one (ps_ret (pe_comp (own := 1) (caps := [2]) (N := ["_law_k", "_law_rest"])
          (N0 := ["_law_number_here", "_law_signs", "_law_rest", "_law_k", "_law_size", "_law_at", "_law_found", "_law_sign"]) (sc0 := defScope lMenu) rfl
          (pi_range1 rfl T.range (pa_cons pe_int pa_nil)) (fun _ _ _ => pg_name (i := 0) ndMenu2 rfl (Or.inl rfl)) (fun _ _ _ => pf_none)
          (fun _ _ _ => pe_slice sl_str (pv 1) po_none (po_some (pe_op op_add (pv 0) pe_int))) (gk_name (by decide)) rfl rfl
          (by decide +kernel) rfl (by decide +kernel) (by decide +kernel) rfl (by decide +kernel)))) pss_nil)
      (pss_cons (ps_set (i := 4) scMenu.nd rfl (Or.inl rfl) (pe_op op_mod (pe_op op_fdiv (pv 0) pe_int) pe_int))
      (pss_cons (ps_set (i := 5) scMenu.nd rfl (Or.inl rfl) (pe_op op_mod (pe_op op_fdiv (pv 0) pe_int) (pe_op op_add (pv 4) pe_int)))
      (pss_cons (ps_set (i := 6) scMenu.nd rfl (Or.inl rfl) (pe_lst pa_nil))
      (pss_cons (ps_for PassesOwn.never rfl (pi_range1 rfl T.range (pa_cons pe_int pa_nil)) (pg_name (i := 3) scMenu.nd rfl (Or.inl rfl))
        (pss_cons (ps_set (i := 7) scMenu.nd rfl (Or.inl rfl) (pe_ix ix_str (pv 1) (pe_op op_mod (pe_op op_add (pe_op op_fdiv (pv 0) pe_int) (pe_op op_mul pe_int (pv 3))) pe_int) (fun _ _ => rfl)))
        (pss_one (ps_expr (pe_bm PySem.F.plainAttrs_list PySem.F.slot_list_append PySem.F.type_list_append mt_append (pv 6)
          (pa_cons (pe_op op_add_str (pe_op op_add_str (pe_slice sl_str (pv 2) po_none (po_some (pv 5))) (pv 7)) (pe_slice sl_str (pv 2) (po_some (pv 5)) (po_some (pv 4)))) pa_nil))))))
      (pss_one (ps_ret (pv 6)))))))))), ?_⟩
    refine ⟨fun σ' H' => H' = H ∧ ∃ S : Str, S.cps.toList.all isS = true ∧ S.length = 26 ∧ σ' = [some (.int n), some (.str S), none, none, none, none, none, none], ?_, ?_⟩
    · refine ⟨_, rfl, _, _, rfl, rfl, (by show (0 : Int) < 3; decide), rfl, _, rfl, ?_⟩
      refine ite2 (fun _ => ?_) (fun _ => ?_)
      · exact ⟨rfl, Str.ofString "0a1b2c3d4e5f6g7h8i9jklmnop", by decide +kernel, by decide +kernel, rfl⟩
      · exact ⟨rfl, Str.ofString "abcdefghijklmnopqrstuvwxyz", by decide +kernel, by decide +kernel, rfl⟩
    · rintro σ' H' ⟨rfl, S, hS, h26, rfl⟩
      have hSl : (codes S).length = 26 := by unfold codes; rw [str_len]; exact h26
      refine ⟨rfl, 6, rfl, by decide, by decide, comp_itr (fun i ys H1 => H1 = H' ∧ ∃ cs : List Nat, cs.length = i ∧ cs.all isS = true ∧ ys = cs.map fun c => V.str ⟨#[c]⟩) (by rw [hl]; decide) ⟨rfl, [], rfl, rfl, rfl⟩ ?_ ?_⟩
      · rintro i ys H1 N hi ⟨rfl, cs, hc, hok, rfl⟩ hN
        have hi6 : i < 6 := hi
        refine g1 ?_
        refine ⟨_, rfl, _, rfl, _, rfl, _, _, rfl, rfl, _, _, rfl, by (clear hi6 hok hc hi hSl h26 hS hl; omega), by (clear hi6 hok hc hSl h26 hS hl; omega), fun r r0 r1 => ?_⟩
        refine ⟨_, _, rfl, rfl, (by show (0 : Int) < 26; decide), ?_⟩
        obtain ⟨j, hj, hjl⟩ := mod_ix (r := r) (n := 26) (by decide)
        have hj' : j < (codes S).length := by (clear hjl r1 r0 hi6 hok hc hi h26 hS hl; omega)
        refine ⟨S, _, (codes S)[j], rfl, rfl, by (clear hj' hjl hj r1 r0 hi6 hok hc hi hSl hS; omega), ?_, hN _ _ ⟨rfl, cs ++ [(codes S)[j]], by simp [hc], by rw [List.all_append, hok]; simp [all_get (p := isS) (l := codes S) hS hj'], by rw [List.map_append]; rfl⟩⟩
        rw [← hj]
        exact atI_nat (List.getElem?_eq_getElem hj')
      · rintro ys H1 ⟨rfl, cs, hc, hok, rfl⟩ _ p hp
        have hc6 : cs.length = 6 := hc
        refine ⟨_, p, cs.map fun c => (⟨#[c]⟩ : Str), rfl, rfl, SqL.of (by rw [upd_same, List.map_map]; rfl), ?_, ?_⟩
        · rw [sum_ones, List.length_map]
          show cs.length + cs.length * 0 ≤ _
          (clear hc6 hp hok hSl h26 hS hl; omega)
        rw [join_eq]
        have sm : Same H1 (upd H1 p (.lst (cs.map fun c => V.str ⟨#[c]⟩))) := same_upd hp
        generalize hG : upd H1 p (.lst (cs.map fun c => V.str ⟨#[c]⟩)) = H2 at sm
        have hR : (⟨cs.toArray⟩ : Str).cps.toList.all isS = true := by simpa using hok
        have hRl : (⟨cs.toArray⟩ : Str).length = 6 := by rw [str_len']; exact hc6
        generalize (⟨cs.toArray⟩ : Str) = R at hR hRl
        refine ⟨_, rfl, _, _, rfl, rfl, ⟨by decide, by decide⟩, _, _, rfl, rfl, (by show (0 : Int) < 3; decide), rfl, _, rfl, ?_⟩
        refine ite2 (fun _ => ?_) (fun _ => ?_)
        · refine ⟨5, rfl, by decide, by decide, comp_itr (fun i ys H3 => H3 = H2 ∧ ∃ ws : List Str, ws.length = i ∧ (∀ z ∈ ws, Wm z) ∧ ys = ws.map V.str) (by rw [hl]; decide) ⟨rfl, [], rfl, fun z hz => by simp at hz, rfl⟩ ?_ ?_⟩
          · rintro i ys H3 N hi ⟨rfl, ws, hw, hok', rfl⟩ hN
            refine g1 ?_
            refine ⟨_, rfl, _, rfl, _, _, rfl, rfl, _, rfl, R, rfl, by (clear hw hG hi hR hc6 hp hok hc hSl h26 hS; omega), hN _ _ ⟨rfl, ws ++ [Txt.slice R none (some ((0 : Int) + i + 1))], by simp [hw], fun z hz => ?_, by rw [List.map_append]; rfl⟩⟩
            rcases List.mem_append.mp hz with q | q
            · exact hok' z q
            · have e : z = Txt.slice R none (some ((0 : Int) + i + 1)) := by simpa using q
              rw [e]
              have := Txt.slice_le R none (some ((0 : Int) + i + 1))
              exact ⟨by (clear e hw hG hi hR hc6 hp hok hc hSl h26 hS hl; omega), slice_all _ _ hR⟩
          · rintro ys H3 ⟨rfl, ws, hw, hok', rfl⟩ _ q hq
            exact kk q _ ws (sm.trans (same_upd hq)) upd_same hw hok'
        · refine ⟨_, rfl, _, _, rfl, rfl, ⟨by decide, by decide⟩, _, _, rfl, rfl, (by show (0 : Int) < 5; decide), ?_⟩
          have s0 := Int.emod_nonneg (n / 9) (show (5 : Int) ≠ 0 by decide)
          refine ⟨_, rfl, _, _, rfl, rfl, ⟨by decide, by decide⟩, _, rfl, _, _, rfl, rfl, _, _, rfl, rfl, (by show (0 : Int) < n / 9 % 5 + 1; (clear s0 hRl hR hG hc6 hp hok hc hSl h26 hS hl; omega)), ?_⟩
          refine ⟨Nat.zero_le _, fun a ha => ?_⟩
          refine ⟨5, rfl, by decide, by decide, for_range (fun i σ H3 => ∃ (ws : List Str) (v3 v7 : Option V), σ = [some (.int n), some (.str S), some (.str R), v3, some (.int (n / 9 % 5)), some (.int (n / 45 % (n / 9 % 5 + 1))), some (.ref a), v7] ∧ Same H1 H3 ∧ H3 a = some (.lst (ws.map V.str)) ∧ ws.length = i ∧ ∀ z ∈ ws, Wm z) ?_ ?_ ?_⟩
          · exact ⟨[], none, none, rfl, sm.trans (same_upd ha), upd_same, rfl, fun z hz => by simp at hz⟩
          · rintro i σ H3 hi ⟨ws, v3, v7, rfl, sm3, hA, hw, hok'⟩
            have hi5 : i < 5 := hi
            refine ⟨_, rfl, _, rfl, _, _, rfl, rfl, ⟨by decide, by decide⟩, _, rfl, _, _, rfl, rfl, .inl ⟨by decide, by decide⟩, _, _, rfl, rfl, _, _, rfl, rfl, (by show (0 : Int) < 26; decide), ?_⟩
            obtain ⟨j, hj, hjl⟩ := mod_ix (r := n / 225 + 5 * (0 + (i : Int))) (n := 26) (by decide)
            have hj' : j < (codes S).length := by (clear hjl hi5 hw hA hi ha s0 hRl hR hG hc6 hp hok hc h26 hS hl; omega)
            refine ⟨S, _, (codes S)[j], rfl, rfl, by (clear hj' hjl hj hi5 hw hA hi ha s0 hRl hR hG hc6 hp hok hc hSl hS; omega), by rw [← hj]; exact atI_nat (List.getElem?_eq_getElem hj'), ?_⟩
            have l1 := Txt.slice_le R none (some (n / 45 % (n / 9 % 5 + 1)))
            have l2 := Txt.slice_le R (some (n / 45 % (n / 9 % 5 + 1))) (some (n / 9 % 5))
            have hone : (⟨#[(codes S)[j]]⟩ : Str).length = 1 := rfl
            have l34 : (Txt.slice R none (some (n / 45 % (n / 9 % 5 + 1)))).length + (Txt.slice R (some (n / 45 % (n / 9 % 5 + 1))) (some (n / 9 % 5))).length ≤ 4 := by
              have z1 := Int.emod_lt_of_pos (n / 9) (show (0 : Int) < 5 by decide)
              have z2 := Int.emod_lt_of_pos (n / 45) (show (0 : Int) < n / 9 % 5 + 1 by omega)
              have z3 := Int.emod_nonneg (n / 45) (show n / 9 % 5 + 1 ≠ 0 by omega)
              have := cut_ab (R := R) z3 (show n / 45 % (n / 9 % 5 + 1) ≤ n / 9 % 5 by omega) (by rw [hRl]; omega)
              omega
            refine ⟨_, rfl, .inl ⟨rfl, _, SqL.of hA⟩, _, rfl, _, rfl, _, rfl, R, rfl, by (clear hone l2 l1 hj' hjl hj hi5 hw hA hi ha s0 hR hG hc6 hp hok hc hSl h26 hS; omega), _, rfl, _, _, rfl, rfl, by (clear l2 hjl hj hi5 hw hA hi ha s0 hR hG hc6 hp hok hc hSl h26 hS; omega), _, rfl, _, rfl, _, rfl, _, rfl, _, rfl, R, rfl, by (clear hone l2 l1 hj' hjl hj hi5 hw hA hi ha s0 hR hG hc6 hp hok hc hSl h26 hS; omega), _, _, rfl, rfl, by rw [PySem.Str.length_append]; (clear hjl hj hi5 hw hA hi ha s0 hR hG hc6 hp hok hc hSl h26 hS; omega), ?_⟩
            have hne : a ≠ a → False := fun z => z rfl
            refine ⟨a, _, _, rfl, rfl, hA, by simp; (clear hone l2 l1 hj' hjl hj hi5 hA ha s0 hRl hR hG hc6 hp hok hc hSl h26 hS; omega), ?_⟩
            refine ⟨ws ++ [Txt.slice R none (some (n / 45 % (n / 9 % 5 + 1))) ++ ⟨#[(codes S)[j]]⟩ ++ Txt.slice R (some (n / 45 % (n / 9 % 5 + 1))) (some (n / 9 % 5))], _, _, rfl, fun b u e => ?_, by rw [upd_same, List.map_append]; rfl, by simp [hw], fun z hz => ?_⟩
            · have hb : b ≠ a := fun z => by subst z; rw [sm.free ha] at e; cases e
              rw [upd_ne hb]; exact sm3 b u e
            · rcases List.mem_append.mp hz with q | q
              · exact hok' z q
              · have e : z = Txt.slice R none (some (n / 45 % (n / 9 % 5 + 1))) ++ ⟨#[(codes S)[j]]⟩ ++ Txt.slice R (some (n / 45 % (n / 9 % 5 + 1))) (some (n / 9 % 5)) := by simpa using q
                rw [e]
                refine ⟨by rw [PySem.Str.length_append, PySem.Str.length_append]; (clear e hjl hj hi5 hw hA hi ha s0 hR hG hc6 hp hok hc hSl h26 hS hl; omega), app_all (app_all (slice_all _ _ hR) ?_) (slice_all _ _ hR)⟩
                simp [all_get (p := isS) (l := codes S) hS hj']
          · rintro σ H3 ⟨ws, v3, v7, rfl, sm3, hA, hw, hok'⟩
            exact ⟨_, rfl, kk a H3 ws sm3 hA hw hok'⟩
theorem pickS {ss : List Str} {n L : Int} (h0 : 0 < ss.length) (hL : L = (ss.length : Nat)) : ∃ z ∈ ss, atI (ss.map V.str) (n % L) = some (.str z) := by
  obtain ⟨v, hv, e⟩ := pickV (xs := ss.map V.str) (n := n) (L := L) (by rw [List.length_map]; exact h0) (by rw [List.length_map]; exact hL)
  obtain ⟨z, hz, rfl⟩ := List.mem_map.mp hv
  exact ⟨z, hz, e⟩
noncomputable def betL : List Str := [" ", "  ", ", ", "\n", "-", ". ", " [", "] ", "_", " \\ ", "/", "; "]
noncomputable def begL : List Str := ["", "", " ", "\n\n", "- "]
theorem bet_ok : ∀ z ∈ betL, z.length ≤ 3 ∧ z.cps.toList.all okC = true := by decide +kernel
theorem beg_ok : ∀ z ∈ begL, z.length ≤ 2 ∧ z.cps.toList.all okC = true := by decide +kernel
theorem strip_len (z : Str) : (Txt.strip z).length ≤ z.length := by
  unfold Txt.strip
  rw [stripBy_eq]
  show (z.cps.extract _ _).size ≤ z.cps.size
  rw [Array.size_extract]
  omega
theorem bet_no : ∀ z ∈ betL, z.cps.toList.all (fun c => !pL c) = true := by decide +kernel
theorem beg_no : ∀ z ∈ begL, z.cps.toList.all (fun c => !pL c) = true := by decide +kernel
noncomputable def spTextL : Sp := fun vs H Q _ => ∃ (n : Int) (a : Addr) (ws : List Str) (m : Nat), vs = [.int n, .ref a, .int m] ∧ m ≤ 150 ∧ H a = some (.lst (ws.map V.str)) ∧ ws.length = 5 ∧ (∀ z ∈ ws, Wm z) ∧ ∀ x H', Same H H' → x.length ≤ 2000 → (codes x).all okC = true → (words (codes x)).length ≤ m → Q (.str x) H'
theorem scTextL : FnScope ["_law_number_here", "_law_menu_here", "_law_many", "_law_between", "_law_text_here", "_law_k", "_law_more", "_law_word"] ["_law_number_here", "_law_menu_here", "_law_many"] (defScope lText) := ⟨rfl, rfl, rfl, by decide +kernel, rfl, by decide +kernel, by decide +kernel⟩
seal PSs PS PE PT PA PG PI PGs PIfs in
theorem ok_textL {f fm : Addr} {fd fdm : FuncData} (D : Df K mg "_law_text" lText f fd) (DM : Df K mg "_law_mixed" lMixed fm fdm) (T : Txt mg) : FnOk P w K mg base CX0 2 f fd ["_law_number_here", "_law_menu_here", "_law_many"] spTextL := by
  have GM : FnOk P w K mg base CX0 1 fm fdm ["_law_number_here", "_law_k"] spMixed := ok_mixed DM
  have bM := DM.F.binds (ps := ["_law_number_here", "_law_k"]) fun _ _ _ _ _ _ us hl => us2 (fun _ _ => rfl) us hl
  refine D.F.ok scTextL (fun vs H Q E h => ?_) (fun cdv A outer s H vs Q E hr h => ?_)
  · obtain ⟨n, a, ws, m, rfl, _⟩ := h
    rfl
  · obtain ⟨n, a, ws, m, rfl, hm, hA, h5, hws, kk⟩ := h
    have hl : (sizeLine : Nat) = 16777216 := sizeLine_eq
    refine ⟨_, pss_cons (ps_set (i := 3) scTextL.nd rfl (Or.inl rfl) (pe_lst (pa_cons pe_str (pa_cons pe_str (pa_cons pe_str (pa_cons pe_str (pa_cons pe_str (pa_cons pe_str (pa_cons pe_str (pa_cons pe_str (pa_cons pe_str (pa_cons pe_str (pa_cons pe_str (pa_cons pe_str pa_nil))))))))))))))
      (pss_cons (ps_set (i := 4) scTextL.nd rfl (Or.inl rfl) (pe_ix ix_list (pe_lst (pa_cons pe_str (pa_cons pe_str (pa_cons pe_str (pa_cons pe_str (pa_cons pe_str pa_nil)))))) (pe_op op_mod (pv 0) pe_int) (fun _ _ => rfl)))
      (pss_cons (ps_for PassesOwn.never rfl (pi_range1 rfl T.range (pa_cons (pv 2) pa_nil)) (pg_name (i := 5) scTextL.nd rfl (Or.inl rfl))
        (pss_cons (ps_set (i := 6) scTextL.nd rfl (Or.inl rfl) (pe_call GM hr rfl DM.m DM.F.kp bM .nil pass0 (pa_cons (pv 0) (pa_cons (pv 5) pa_nil))))
        (pss_cons (ps_set (i := 7) scTextL.nd rfl (Or.inl rfl) (pe_ix ix_list (pv 1) (pe_op op_mod (pv 6) (pe_callB call_len_seq rfl T.len b_len (pa_cons (pv 1) pa_nil))) (fun _ _ => rfl)))
        (pss_cons (ps_set (i := 7) scTextL.nd rfl (Or.inl rfl) (pe_ix ix_list (pe_lst (pa_cons (pv 7) (pa_cons (pv 7) (pa_cons (pe_bm0 PySem.F.plainAttrs_str PySem.F.slot_str_upper PySem.F.type_str_upper mt_upper (pv 7))
            (pa_cons (pe_op op_add_str (pe_bm0 PySem.F.plainAttrs_str PySem.F.slot_str_upper PySem.F.type_str_upper mt_upper (pe_slice sl_str (pv 7) po_none (po_some pe_int))) (pe_slice sl_str (pv 7) (po_some pe_int) po_none)) pa_nil)))))
            (pe_op op_mod (pe_op op_fdiv (pv 6) pe_int) pe_int) (fun _ _ => rfl)))
        (pss_one (ps_set (i := 4) scTextL.nd rfl (Or.inl rfl) (pe_op op_add_str (pe_op op_add_str (pv 4) (pv 7)) (pe_ix ix_list (pv 3) (pe_op op_mod (pe_op op_fdiv (pv 6) pe_int) pe_int) (fun _ _ => rfl)))))))))
      (pss_cons (ps_if (pt_cmpR op_eq (pe_op op_mod (pe_op op_fdiv (pv 0) pe_int) pe_int) pe_int (nomark _)) (pss_one (ps_ret (pe_bm0 PySem.F.plainAttrs_str PySem.F.slot_str_strip PySem.F.type_str_strip mt_strip (pv 4)))) pss_nil)
      (pss_one (ps_ret (pv 4)))))), ?_⟩
    refine ⟨(by show 12 ≤ sizeLine; (clear h5 hA hm; omega)), fun b hb => ⟨(by show 5 ≤ sizeLine; (clear hb h5 hA hm; omega)), fun p hp => ?_⟩⟩
    have smb : Same H (upd H b (.lst (betL.map V.str))) := same_upd hb
    change (upd H b (.lst (betL.map V.str))) p = none at hp
    obtain ⟨x0, hx0, e0⟩ := pickS (ss := begL) (n := n) (L := 5) (by decide) rfl
    obtain ⟨lx0, ox0⟩ := beg_ok x0 hx0
    refine ⟨_, rfl, _, _, rfl, rfl, (by show (0 : Int) < 5; decide), p, begL.map V.str, _, _, rfl, rfl, SqL.of upd_same, e0, ?_⟩
    have smp : Same H (upd (upd H b (.lst (betL.map V.str))) p (.lst (begL.map V.str))) := Same.upd smb hp
    have hbp : (upd (upd H b (.lst (betL.map V.str))) p (.lst (begL.map V.str))) b = some (.lst (betL.map V.str)) := by rw [upd_ne (ne_of_none upd_same hp), upd_same]
    refine ⟨_, rfl, m, rfl, by (clear hbp ox0 lx0 e0 hp hb hl h5 hA hm; omega), by (clear hbp ox0 lx0 e0 hp hb hl h5 hA; omega), ?_⟩
    refine for_range (fun i σ H' => ∃ (x : Str) (v5 v6 v7 : Option V), σ = [some (.int n), some (.ref a), some (.int m), some (.ref b), some (.str x), v5, v6, v7] ∧ Same H H' ∧ H' b = some (.lst (betL.map V.str)) ∧ x.length ≤ 2 + 10 * i ∧ x.cps.toList.all okC = true ∧ sc false (codes x) ≤ i) ?_ ?_ ?_
    · exact ⟨x0, none, none, none, rfl, smp, hbp, by (clear hbp ox0 e0 hp hb hl h5 hA hm; omega), ox0, Nat.le_of_eq (sc_none _ _ (beg_no x0 hx0))⟩
    · intro i σ H' hi hP
      refine genW fun B D' hB0 hnB => ?_
      obtain ⟨x, v5, v6, v7, rfl, sm, hB, hx, hox, hsc⟩ := hP
      have him : i < m := by simpa using hi
      refine nextW (R := B) hB0 fun R hR => ?_
      refine ⟨_, rfl, _, rfl, _, _, rfl, by (clear him hox hx hB hi hbp ox0 lx0 e0 hp hb hl h5 hA hm; omega), by (clear him hox hx hB hbp ox0 lx0 e0 hp hb hl h5 hA; omega), fun r r0 r1 => ?_⟩
      have hA' := sm _ _ hA
      obtain ⟨z, hz, ez⟩ := pickS (ss := ws) (n := r) (L := ((ws.map V.str).length : Nat)) (by (clear hA' r1 r0 him hox hx hB hi hbp ox0 lx0 e0 hp hb hl hA hm; omega)) (by rw [List.length_map])
      obtain ⟨lz, oz⟩ := hws z hz
      have ozk := isS_all oz
      refine nextW (R := R) hR fun R hR => ?_
      refine ⟨_, rfl, _, rfl, _, rfl, _, _, rfl, .inl (SqL.of hA'), _, _, rfl, rfl, (by show (0 : Int) < _; rw [List.length_map, h5]; decide), a, _, _, _, rfl, rfl, SqL.of hA', ez, ?_⟩
      have s1 := Txt.slice_le z none (some 1)
      have s2 := Txt.slice_le z (some 1) none
      have c12 := cut_one z
      obtain ⟨u1, u2⟩ := upper_all oz
      obtain ⟨u3, u4⟩ := upper_all (slice_all none (some 1) oz)
      have u5 := isS_all (slice_all (some 1) none oz)
      refine nextW (R := R) hR fun R hR => ?_
      refine ⟨_, rfl, _, rfl, _, rfl, rfl, z, rfl, rfl, by (clear u5 u4 u3 u2 u1 s2 s1 ozk oz ez hA' r1 r0 him hox hx hB hi hbp ox0 lx0 e0 hp hb hl h5 hA hm; omega), _, rfl, _, rfl, z, rfl, by (clear u5 u4 u3 u2 u1 s2 s1 ozk oz ez hA' r1 r0 him hox hx hB hi hbp ox0 lx0 e0 hp hb h5 hA hm; omega), rfl, _, rfl, rfl, by (clear u5 u4 u3 u2 u1 s2 ozk oz ez hA' r1 r0 him hox hx hB hi hbp ox0 lx0 e0 hp hb hl h5 hA hm; omega), _, rfl, _, rfl, z, rfl, by (clear u5 u4 u3 u2 u1 s2 s1 ozk oz ez hA' r1 r0 him hox hx hB hi hbp ox0 lx0 e0 hp hb h5 hA hm; omega), _, _, rfl, rfl, by (clear u5 u3 u2 u1 ozk oz ez hA' r1 r0 him hox hx hB hi hbp ox0 lx0 e0 hp hb h5 hA hm; omega), (by show 4 ≤ sizeLine; (clear u5 u4 u3 u2 u1 s2 s1 ozk oz lz ez hA' r1 r0 him hox hx hB hi hbp ox0 lx0 e0 hp hb h5 hA hm; omega)), fun q hq => ?_⟩
      refine ⟨_, rfl, _, _, rfl, rfl, ⟨by decide, by decide⟩, _, _, rfl, rfl, (by show (0 : Int) < 4; decide), ?_⟩
      obtain ⟨y, hy, ey⟩ := pickS (ss := [z, z, Txt.upper z, Txt.upper (Txt.slice z none (some 1)) ++ Txt.slice z (some 1) none]) (n := r / 7) (L := 4) (by simp) rfl
      have hyk : y.length ≤ 7 ∧ y.cps.toList.all okC = true ∧ y.cps.toList.all pL = true := by
        have hy' : y = z ∨ y = z ∨ y = Txt.upper z ∨ y = Txt.upper (Txt.slice z none (some 1)) ++ Txt.slice z (some 1) none := by simpa using hy
        rcases hy' with e | e | e | e
        · rw [e]; exact ⟨by (clear e ey hq u5 u4 u3 u2 u1 s2 s1 ozk oz ez hA' r1 r0 him hox hx hB hi hbp ox0 lx0 e0 hp hb hl h5 hA hm; omega), ozk, pL_all oz⟩
        · rw [e]; exact ⟨by (clear e ey hq u5 u4 u3 u2 u1 s2 s1 ozk oz ez hA' r1 r0 him hox hx hB hi hbp ox0 lx0 e0 hp hb hl h5 hA hm; omega), ozk, pL_all oz⟩
        · rw [e]; exact ⟨by (clear e ey hq u5 u4 u3 u1 s2 s1 ozk oz ez hA' r1 r0 him hox hx hB hi hbp ox0 lx0 e0 hp hb hl h5 hA hm; omega), u1, pL_upper oz⟩
        · rw [e]; exact ⟨by rw [PySem.Str.length_append]; (clear e ey hq u5 u3 u2 u1 ozk oz ez hA' r1 r0 him hox hx hB hi hbp ox0 lx0 e0 hp hb hl h5 hA hm; omega), app_all u3 u5, app_all (pL_upper (slice_all none (some 1) oz)) (pL_all (slice_all (some 1) none oz))⟩
      obtain ⟨hy1, hy2, hy3⟩ := hyk
      refine ⟨q, _, _, _, rfl, rfl, SqL.of upd_same, ey, ?_⟩
      obtain ⟨t, ht, et⟩ := pickS (ss := betL) (n := r / 31) (L := 12) (by decide) rfl
      obtain ⟨ht1, ht2⟩ := bet_ok t ht
      have hB' : (upd H' q (.lst [V.str z, V.str z, V.str (Txt.upper z), V.str (Txt.upper (Txt.slice z none (some 1)) ++ Txt.slice z (some 1) none)])) b = some (.lst (betL.map V.str)) := by rw [upd_ne (ne_of_none hB hq)]; exact hB
      refine lastW (R := R) hR ?_
      refine ⟨_, rfl, _, rfl, _, _, rfl, rfl, by (clear hB' ht2 ht1 et hy2 ey hq u5 u4 u3 u2 u1 s2 s1 ozk oz lz ez hA' r1 r0 him hox hB hbp ox0 lx0 e0 hp hb h5 hA; omega), _, rfl, _, rfl, _, _, rfl, rfl, ⟨by decide, by decide⟩, _, _, rfl, rfl, (by show (0 : Int) < 12; decide), b, _, _, _, rfl, rfl, SqL.of hB', et, _, _, rfl, rfl, by rw [PySem.Str.length_append]; (clear hB' ht2 et hy2 ey hq u5 u4 u3 u2 u1 s2 s1 ozk oz lz ez hA' r1 r0 him hox hB hbp ox0 lx0 e0 hp hb h5 hA; omega), ?_⟩
      have hsn : sc false (codes (x ++ y ++ t)) ≤ i + 1 := by
        rw [codes_app, codes_app]
        have a1 := sc_app_le (codes x ++ codes y) (codes t)
        have a2 := sc_app_le (codes x) (codes y)
        have a3 := sc_ones (codes y) false hy3
        have a4 := sc_none (codes t) false (bet_no t ht)
        rw [if_neg (by decide)] at a3
        omega
      exact hnB _ _ ⟨x ++ y ++ t, _, _, _, rfl, Same.upd sm hq, hB', by rw [PySem.Str.length_append, PySem.Str.length_append]; (clear hB' ht2 et hy2 ey hq u5 u4 u3 u2 u1 s2 s1 ozk oz lz ez hA' r1 r0 him hox hB hi hbp ox0 lx0 e0 hp hb hl h5 hA hm; omega), app_all (app_all hox hy2) ht2, hsn⟩
    · rintro σ H' ⟨x, v5, v6, v7, rfl, sm, hB, hx, hox, hsc⟩
      have hsc' : sc false (codes x) ≤ m := by simpa using hsc
      have hx' : x.length ≤ 2 + 10 * m := by simpa using hx
      refine ⟨_, rfl, _, _, rfl, rfl, ⟨by decide, by decide⟩, _, _, rfl, rfl, (by show (0 : Int) < 3; decide), rfl, _, rfl, ?_⟩
      refine ite2 (fun _ => ?_) (fun _ => ?_)
      · refine ⟨_, rfl, rfl, x, rfl, rfl, by (clear hx' hox hB hbp ox0 lx0 e0 hp hb h5 hA; omega), kk _ _ sm ?_ (strip_all hox) (by rw [words_sc]; exact Nat.le_trans (strip_sc x) hsc')⟩
        have := strip_len x
        (clear hx' hox hB hbp ox0 lx0 e0 hp hb hl h5 hA; omega)
      · exact ⟨_, rfl, kk _ _ sm (by (clear hx' hox hB hbp ox0 lx0 e0 hp hb hl h5 hA; omega)) hox (by rw [words_sc]; exact hsc')⟩
end
end K23
set_option Elab.async false
set_option linter.all false
set_option maxRecDepth 100000
set_option maxHeartbeats 4000000
namespace K23
open PySem L2 PyProof.Rows PySem.Spec Gn K01
open WN (Cov Rs Mg Pl win Okp near mks sg pcs Pc inW)
section
variable {P : Program} {w : World} {K : PySem.W.Frag} {mg : Str → Option Value} {base : Heap} {CN CS : Addr}
theorem WL.at {H : Hp} {a : Addr} {ws : List Wd} (h : WL H a ws) {j : Nat} (hj : j < ws.length) : ∃ xs p, H a = some (.lst xs) ∧ atI xs (j : Int) = some (.ref p) ∧ H p = some (wdT (ws.getD j ([], 0, 0))) := by
  obtain ⟨ps, e, p⟩ := h.ex
  obtain ⟨q, e1, e2⟩ := Paired.at p (List.getElem?_eq_getElem hj)
  refine ⟨_, q, e, atI_nat (by rw [List.getElem?_map, e1]; rfl), ?_⟩
  rw [List.getD_eq_getElem?_getD, List.getElem?_eq_getElem hj]
  exact e2
noncomputable def tSg (ws : List Wd) (r : Nat × Nat) : HO := .tup [.int ((sg ws r).1 : Int), .int ((sg ws r).2 : Int)]
noncomputable def spSO : Sp := fun vs H Q _ => ∃ (a q : Addr) (ws : List Wd) (r : Nat × Nat), vs = [.ref a, .ref q] ∧ WL H a ws ∧ TuA H q r ∧ r.1 < ws.length ∧ r.2 < ws.length ∧ ∀ t, H t = none → Q (.ref t) (upd H t (tSg ws r))
theorem scSO : FnScope ["words", "span"] ["words", "span"] (defScope sSO) := ⟨rfl, rfl, rfl, by decide +kernel, rfl, by decide +kernel, by decide +kernel⟩
seal PSs PS PE PT PA PG PI PGs PIfs in
theorem ok_so {f : Addr} {fd : FuncData} (D : Df K mg "signs_of" sSO f fd) : FnOk P w K mg base CX0 1 f fd ["words", "span"] spSO := by
  refine D.F.ok scSO (fun vs H Q E h => ?_) (fun cdv A outer s H vs Q E hr h => ?_)
  · obtain ⟨a, q, ws, r, rfl, _⟩ := h
    rfl
  · obtain ⟨a, q, ws, r, rfl, hW, hq, h1, h2, k⟩ := h
    have hz : (sizeLine : Nat) = 16777216 := sizeLine_eq
    refine ⟨_, (pss_one (ps_ret (pe_tup (pa_cons (pe_ix ix_tup (pe_ix ix_list (pv 0) (pe_ix ix_tup (pv 1) pe_int (fun _ _ => rfl)) (fun _ _ => rfl)) pe_int (fun _ _ => rfl)) (pa_cons (pe_ix ix_tup (pe_ix ix_list (pv 0) (pe_ix ix_tup (pv 1) pe_int (fun _ _ => rfl)) (fun _ _ => rfl)) pe_int (fun _ _ => rfl)) pa_nil))))), ?_⟩
    obtain ⟨xs, p, e1, e2, e3⟩ := hW.at h1
    obtain ⟨xs', p', f1, f2, f3⟩ := hW.at h2
    exact ⟨_, rfl, _, rfl, q, _, _, _, rfl, rfl, SqT.of hq, atI_nat (j := 0) rfl, a, _, _, .ref p, rfl, rfl, SqL.of e1, e2, p, _, _, _, rfl, rfl, SqT.of e3, atI_nat (j := 1) rfl,
      _, rfl, _, rfl, q, _, _, _, rfl, rfl, SqT.of hq, atI_nat (j := 1) rfl, a, _, _, .ref p', rfl, rfl, SqL.of f1, f2, p', _, _, _, rfl, rfl, SqT.of f3, atI_nat (j := 2) rfl, (by show 2 ≤ sizeLine; omega), fun t ht => k t ht⟩
theorem ndMk : (["mark", "window", "words"] : List Str).Nodup := by decide +kernel
noncomputable def spPc : Sp := fun vs H Q _ => ∃ (a q m : Addr) (ws : List Wd) (r : Nat × Nat) (mk : List (Nat × Nat)), vs = [.ref a, .ref q, .ref m] ∧ WL H a ws ∧ TuA H q r ∧ PrL H m mk ∧ Okp ws.length r ∧ (∀ x ∈ mk, Okp ws.length x) ∧ mk.length ≤ 64 ∧
  ∀ t l H', Same H H' → H l = none → H t = none → H' t = some (.tup [.int ((sg ws r).1 : Int), .int ((sg ws r).2 : Int), .ref l]) → PrL H' l ((mks mk r).map (sg ws)) → Q (.ref t) H'
theorem scPc : FnScope ["words", "window", "marked", "within", "signs"] ["words", "window", "marked"] (defScope sPc) := ⟨rfl, rfl, rfl, by decide +kernel, rfl, by decide +kernel, by decide +kernel⟩
seal PSs PS PE PT PA PG PI PGs PIfs in
theorem ok_pc {f fs_ : Addr} {fd fds : FuncData} (D : Df K mg "piece_of" sPc f fd) (DS : Df K mg "signs_of" sSO fs_ fds) : FnOk P w K mg base CX0 2 f fd ["words", "window", "marked"] spPc := by
  have GS : FnOk P w K mg base CX0 1 fs_ fds ["words", "span"] spSO := ok_so DS
  have bS := DS.F.binds (ps := ["words", "span"]) fun _ _ _ _ _ _ us hl => us2 (fun _ _ => rfl) us hl
  refine D.F.ok scPc (fun vs H Q E h => ?_) (fun cdv A outer s H vs Q E hr h => ?_)
  · obtain ⟨a, q, m, ws, r, mk, rfl, _⟩ := h
    rfl
  · obtain ⟨a, q, m, ws, r, mk, rfl, hW, hq, hM, hr1, hok, hl, kk⟩ := h
    have hz : (sizeLine : Nat) = 16777216 := sizeLine_eq
    obtain ⟨ps, eM, pM⟩ := hM.ex
    have plen := Paired.len pM
    refine ⟨_, (pss_cons (ps_setC (i := 3) scPc.nd rfl (Or.inl rfl) (own := 1) (caps := [1, 0]) (N := ["mark", "window", "words"]) (N0 := ["words", "window", "marked", "within", "signs"]) (sc0 := defScope sPc) rfl (pi_list (pv 2)) (fun _ _ _ => pg_name (i := 0) ndMk rfl (Or.inl rfl)) (fun _ _ _ => pf_one (pt_chain op_le op_le (pe_ix (ix_tupK (K := K) rfl) (pv 1) pe_int (fun _ _ => rfl)) (pe_ix (ix_tupK (K := K) rfl) (pv 0) pe_int (fun _ _ => rfl)) (pe_ix (ix_tupK (K := K) rfl) (pv 1) pe_int (fun _ _ => rfl)))) (fun _ _ _ => pe_call GS hr rfl DS.m DS.F.kp bS .nil pass0 (pa_cons (pv 2) (pa_cons (pv 0) pa_nil))) (gk_name (by decide)) rfl rfl
        (by decide +kernel) rfl (by decide +kernel) (by decide +kernel) rfl (by decide +kernel) (fun _ _ _ h => h))
      (pss_cons (ps_set (i := 4) scPc.nd rfl (Or.inl rfl) (pe_call GS hr rfl DS.m DS.F.kp bS .nil pass0 (pa_cons (pv 0) (pa_cons (pv 1) pa_nil))))
      (pss_one (ps_ret (pe_tup (pa_cons (pe_ix ix_tup (pv 4) pe_int (fun _ _ => rfl)) (pa_cons (pe_ix ix_tup (pv 4) pe_int (fun _ _ => rfl)) (pa_cons (pv 3) pa_nil)))))))), ?_⟩
    refine ⟨_, rfl, m, rfl, ⟨_, SqL.of eM⟩, ?_⟩
    refine comp_itl (xs := ps.map V.ref) (fun i ys H' => Same H H' ∧ ∃ us, ys = us.map V.ref ∧ Paired (TuA H') us ((mks (mk.take i) r).map (sg ws))) (by rw [List.length_map]; omega) (fun i ys H' q => SqL.of (q.1 _ _ eM)) ⟨fun _ _ h => h, [], rfl, .nil⟩ ?_ ?_
    · rintro i v ys H' N hv ⟨sm, us, rfl, pU⟩ hN
      rw [List.getElem?_map] at hv
      cases hpi : ps[i]? with
      | none => rw [hpi] at hv; cases hv
      | some p =>
        rw [hpi] at hv
        have hv' : v = .ref p := (Option.some.inj hv).symm
        subst hv'
        obtain ⟨x, hxi, hx0⟩ := paired_get pM hpi
        have hx : TuA H' p x := sm _ _ hx0
        have hq' : TuA H' q r := sm _ _ hq
        have okx := hok x (List.mem_of_getElem? hxi)
        have tk : mks (mk.take (i + 1)) r = mks (mk.take i) r ++ (if inW r x = true then [x] else []) := by
          unfold mks
          rw [List.take_add_one, hxi, List.filter_append]
          congr 1
          show List.filter _ [x] = _
          rw [List.filter_cons]
          split <;> rfl
        refine ⟨_, rfl, q, _, _, _, rfl, rfl, SqT.of hq', atI_nat (j := 0) rfl, _, rfl, p, _, _, _, rfl, rfl, SqT.of hx, atI_nat (j := 0) rfl, _, _, rfl, rfl, _, rfl, ?_⟩
        by_cases h1 : r.1 ≤ x.1
        · rw [decide_eq_true (show (r.1 : Int) ≤ (x.1 : Int) by omega)]
          refine iteT ⟨_, rfl, q, _, _, _, rfl, rfl, SqT.of hq', atI_nat (j := 1) rfl, _, _, rfl, rfl, _, rfl, ?_⟩
          by_cases h2 : x.1 ≤ r.2
          · rw [decide_eq_true (show (x.1 : Int) ≤ (r.2 : Int) by omega)]
            have iw : inW r x = true := by unfold inW; rw [decide_eq_true h1, decide_eq_true h2]; rfl
            rw [if_pos iw] at tk
            have o1 := okx.1
            have o2 := okx.2
            refine iteT ⟨_, rfl, _, rfl, a, p, ws, x, rfl, hW.same sm, hx, by omega, by omega, fun t ht => ?_⟩
            have s5 := same_upd (o := tSg ws x) ht
            refine hN _ _ ⟨sm.trans s5, us ++ [t], by rw [List.map_append]; rfl, ?_⟩
            rw [tk, List.map_append]
            exact Paired.app (Paired.imp2 pU fun _ _ q => s5 _ _ q) upd_same
          · rw [decide_eq_false (show ¬ (x.1 : Int) ≤ (r.2 : Int) by omega)]
            have iw : ¬ inW r x = true := by unfold inW; rw [decide_eq_false h2, Bool.and_false]; decide
            rw [if_neg iw, List.append_nil] at tk
            exact iteF (hN _ _ ⟨sm, us, rfl, by rw [tk]; exact pU⟩)
        · rw [decide_eq_false (show ¬ (r.1 : Int) ≤ (x.1 : Int) by omega)]
          have iw : ¬ inW r x = true := by unfold inW; rw [decide_eq_false h1, Bool.false_and]; decide
          rw [if_neg iw, List.append_nil] at tk
          exact iteF ⟨_, rfl, iteF (hN _ _ ⟨sm, us, rfl, by rw [tk]; exact pU⟩)⟩
    · rintro ys H' ⟨sm, us, rfl, pU⟩ _ u hu
      have ll : (ps.map V.ref).length = mk.length := by rw [List.length_map, plen]
      rw [ll, List.take_of_length_le (Nat.le_refl _)] at pU
      have su := same_upd (o := .lst (us.map V.ref)) hu
      have hU : PrL (upd H' u (.lst (us.map V.ref))) u ((mks mk r).map (sg ws)) := ⟨us, upd_same, Paired.imp2 pU fun _ _ q => su _ _ q⟩
      have hu0 : H u = none := sm.free hu
      have s2 := sm.trans su
      generalize upd H' u (.lst (us.map V.ref)) = H2 at su hU s2
      have r1 := hr1.1
      have r2 := hr1.2
      refine ⟨_, rfl, _, rfl, a, q, ws, r, rfl, hW.same s2, s2 _ _ hq, by omega, by omega, fun t ht => ?_⟩
      have s3 := same_upd (o := tSg ws r) ht
      have e3 : upd H2 t (tSg ws r) t = some (tSg ws r) := upd_same
      have hU3 := hU.same s3
      have s23 := s2.trans s3
      generalize upd H2 t (tSg ws r) = H3 at s3 e3 hU3 s23
      refine ⟨_, rfl, t, _, _, _, rfl, rfl, SqT.of e3, atI_nat (j := 0) rfl, _, rfl, t, _, _, _, rfl, rfl, SqT.of e3, atI_nat (j := 1) rfl, _, rfl, (by show 3 ≤ sizeLine; omega), fun p hp => ?_⟩
      exact kk p u _ (s23.trans (same_upd hp)) hu0 (s23.free hp) upd_same (hU3.same (same_upd hp))
end
end K23
set_option Elab.async false
set_option linter.all false
set_option maxRecDepth 100000
set_option maxHeartbeats 4000000
namespace K23
open PySem L2 PyProof.Rows PySem.Spec Gn K01
open WN (Cov Rs Mg Pl win Okp near mks sg pcs Pc inW)
section
variable {P : Program} {w : World} {K : PySem.W.Frag} {mg : Str → Option Value} {base : Heap} {CN CS : Addr}
variable {CT : Addr}
theorem ndPs : (["window", "marked", "words"] : List Str).Nodup := by decide +kernel
noncomputable def BadS (K : PySem.W.Frag) (H : Hp) (n : Nat) (sp : V) : Prop := (∃ ty, TyOf K H sp (.type ty) ∧ PySem.W.kitOne K (.type ty) (.type "list") = some false) ∨
  ∃ (a : Addr) (xs : List V) (bs : List Bool), sp = .ref a ∧ H a = some (.lst xs) ∧ Paired (SpB K H n) xs bs ∧ bs.all id = false
theorem BadS.same {H H' : Hp} {n : Nat} {sp : V} (h : BadS K H n sp) (e : Same H H') : BadS K H' n sp := by
  rcases h with ⟨ty, t1, t2⟩ | ⟨a, xs, bs, r, eA, p, hb⟩
  · exact .inl ⟨ty, ty_same t1 e, t2⟩
  · exact .inr ⟨a, xs, bs, r, e _ _ eA, Paired.imp2 p fun _ _ q => q.same e, hb⟩
noncomputable def PcA (B H : Hp) (q : Addr) (x : Pc) : Prop := ∃ l, H q = some (.tup [.int (x.1 : Int), .int (x.2.1 : Int), .ref l]) ∧ PrL H l x.2.2 ∧ B l = none
theorem PcA.same {B H H' : Hp} {q : Addr} {x : Pc} (h : PcA B H q x) (e : Same H H') : PcA B H' q x := by
  obtain ⟨l, h1, h2, h3⟩ := h
  exact ⟨l, e _ _ h1, h2.same e, h3⟩
structure PcL (B H : Hp) (a : Addr) (xs : List Pc) : Prop where
  ex : ∃ qs : List Addr, H a = some (.lst (qs.map V.ref)) ∧ Paired (PcA B H) qs xs ∧ ∀ q ∈ qs, ∀ u v l, H q = some (.tup [u, v, .ref l]) → l ≠ a
theorem rs_ok {ms : List (Nat × Nat)} {n : Nat} (h : Rs ms) (hc : ∀ p, Cov ms p → p < n) : ∀ x ∈ ms, Okp n x := fun x hx => ⟨h.w x hx, hc x.2 ⟨x, hx, h.w x hx, Nat.le_refl _⟩⟩
theorem ok_cov {rs : List (Nat × Nat)} {n : Nat} (h : ∀ r ∈ rs, Okp n r) : ∀ p, Cov rs p → p < n := fun p ⟨x, hx, _, b⟩ => by have := (h x hx).2; omega
noncomputable def spPs (K : PySem.W.Frag) (CT CN CS : Addr) : Sp := fun vs H Q E => ∃ (x sp x2 x3 : V), vs = [x, sp, x2, x3] ∧ Known K H x ∧ Fit x ∧ Known K H x2 ∧ Known K H x3 ∧ (
  (txtV x = false ∧ ∀ H', Same H H' → E (.ref CT) none H') ∨ ∃ z, x = .str z ∧ Drawn z ∧ (
  (goodN x2 0 none = false ∧ ∀ H', Same H H' → E (.ref CN) none H') ∨
  (goodN x2 0 none = true ∧ goodN x3 0 none = false ∧ ∀ H', Same H H' → E (.ref CN) none H') ∨
  ∃ (ar mo : Nat), x2 = .int ar ∧ x3 = .int mo ∧ (
    (BadS K H (words (codes z)).length sp ∧ ∀ H', Same H H' → E (.ref CS) none H') ∨
    ∃ (a : Addr) (rs : List (Nat × Nat)), sp = .ref a ∧ PrL H a rs ∧ (∀ r ∈ rs, Okp (words (codes z)).length r) ∧ (words (codes z)).length ≤ 1000 ∧ rs.length < 64 ∧
      ∀ ms mk, Rs ms → (∀ p, Cov ms p ↔ p < (words (codes z)).length ∧ ∃ r ∈ rs, near ar r p) → Rs mk → (∀ p, Cov mk p ↔ Cov rs p) → ms.length ≤ 64 → mk.length ≤ 64 →
        ∀ p H', Same H H' → H p = none → PcL H H' p (pcs (words (codes z)) (ms.take mo) mk) → Q (.ref p) H')))
theorem scPs : FnScope ["text", "spans", "around", "most", "words", "found", "marked"] ["text", "spans", "around", "most"] (defScope sPs) := ⟨rfl, rfl, rfl, by decide +kernel, rfl, by decide +kernel, by decide +kernel⟩
seal PSs PS PE PT PA PG PI PGs PIfs in
theorem ok_ps {f fi fn fw fb fp : Addr} {fd fdi fdn fdw fdb fdp : FuncData} {items : Array Value} (D : DfD K mg "pieces_of" sPs f fd items) (DWI : Df K mg "words_in" sWordsIn fi fdi) (GWI : FnOk P w K mg base (CX1 P w) 4 fi fdi ["text"] (spWIn K CT)) (DN : DfD K mg "need_number" sNNum fn fdn #[.none]) (GN : FnOk P w K mg base (CX1 P w) 2 fn fdn ["thing", "least", "most"] (spNNum K CN))
    (DW : Df K mg "windows" sWin fw fdw) (GW : FnOk P w K mg base (CX1 P w) 4 fw fdw ["size", "spans", "around"] (spWin K CN CS)) (DB : Df K mg "rows_of_neighbours" sNb fb fdb) (GB : FnOk P w K mg base CX0 1 fb fdb ["spans"] spNb) (DP : Df K mg "piece_of" sPc fp fdp) (GP : FnOk P w K mg base CX0 2 fp fdp ["words", "window", "marked"] spPc) (T : Txt mg) :
    FnOk P w K mg base (CX1 P w) 5 f fd ["text", "spans", "around", "most"] (spPs K CT CN CS) := by
  have bWI := binds1 (p := "text") DWI.F fun _ _ _ _ _ _ _ => rfl
  have bN2 := DN.binds (ps := ["thing", "least", "most"]) (ds := [.none]) fun T kV doc pm an cdv ct us hl => match us, (show us.length = 2 by simpa using hl) with | [_, _], _ => ⟨_, rfl, rfl⟩
  have bW := DW.F.binds (ps := ["size", "spans", "around"]) fun _ _ _ _ _ _ us hl => us3 (fun _ _ _ => rfl) us hl
  have bB := binds1 (p := "spans") DB.F fun _ _ _ _ _ _ _ => rfl
  have bP := DP.F.binds (ps := ["words", "window", "marked"]) fun _ _ _ _ _ _ us hl => us3 (fun _ _ _ => rfl) us hl
  refine D.ok1 scPs (fun vs H Q E h => ?_) (fun cdv A outer s H vs Q E hr h => ?_)
  · obtain ⟨x, sp, x2, x3, rfl, _⟩ := h
    rfl
  · obtain ⟨x, sp, x2, x3, rfl, hk, hfit, k2, k3, h⟩ := h
    have hz : (sizeLine : Nat) = 16777216 := sizeLine_eq
    refine ⟨_, (pss_cons (ps_set (i := 4) scPs.nd rfl (Or.inr rfl) (pe_call GWI hr rfl DWI.m DWI.F.kp bWI .nil (pass_out (E' := E) fun _ _ _ h => h) (pa_cons (pv 0) pa_nil)))
      (pss_cons (ps_expr (pe_call (GN.mono (by decide)) hr rfl DN.m DN.kp bN2 (dvs := [.non]) (.cons rfl .nil) (pass_out (E' := E) fun _ _ _ h => h) (pa_cons (pv 2) (pa_cons pe_int pa_nil))))
      (pss_cons (ps_expr (pe_call (GN.mono (by decide)) hr rfl DN.m DN.kp bN2 (dvs := [.non]) (.cons rfl .nil) (pass_out (E' := E) fun _ _ _ h => h) (pa_cons (pv 3) (pa_cons pe_int pa_nil))))
      (pss_cons (ps_set (i := 5) scPs.nd rfl (Or.inl rfl) (pe_call GW hr rfl DW.m DW.F.kp bW .nil (pass_out (E' := E) fun _ _ _ h => h) (pa_cons (pe_callB call_len_seq rfl T.len b_len (pa_cons (pv 4) pa_nil)) (pa_cons (pv 1) (pa_cons (pv 2) pa_nil)))))
      (pss_cons (ps_set (i := 6) scPs.nd rfl (Or.inr rfl) (pe_call (GB.mono (by decide)) hr rfl DB.m DB.F.kp bB .nil pass0 (pa_cons (pv 1) pa_nil)))
      (pss_one (ps_ret (pe_comp (own := 1) (caps := [6, 4]) (N := ["window", "marked", "words"]) (N0 := ["text", "spans", "around", "most", "words", "found", "marked"]) (sc0 := defScope sPs) rfl (pi_list (pe_slice sl_list (pv 5) po_none (po_some (pv 3)))) (fun _ _ _ => pg_name (i := 0) ndPs rfl (Or.inl rfl)) (fun _ _ _ => pf_none) (fun _ _ _ => pe_call (GP.mono (by decide)) hr rfl DP.m DP.F.kp bP .nil pass0 (pa_cons (pv 2) (pa_cons (pv 0) (pa_cons (pv 1) pa_nil)))) (gk_name (by decide)) rfl rfl
        (by decide +kernel) rfl (by decide +kernel) (by decide +kernel) rfl (by decide +kernel))))))))), ?_⟩
    rcases h with ⟨ht, kE⟩ | ⟨z, rfl, hd, h⟩
    · exact ⟨_, rfl, x, rfl, hk, hfit, (fun z e hz' => by rw [e, drawn_txt hz'] at ht; cases ht), fun _ => kE⟩
    · refine ⟨_, rfl, _, rfl, hk, hfit, (fun z' e _ a H1 s1 ha hW => ?_), (fun c => by rw [drawn_txt hd] at c; cases c)⟩
      have ez : z' = z := by injection e with e; exact e.symm
      subst ez
      rcases h with ⟨h2, kE⟩ | ⟨h2, h3, kE⟩ | ⟨ar, mo, rfl, rfl, h⟩
      · exact ⟨_, rfl, x2, 0, none, rfl, Known.same' k2 s1, (fun c => by rw [h2] at c; cases c), fun _ => kE _ s1⟩
      · exact ⟨_, rfl, x2, 0, none, rfl, Known.same' k2 s1, (fun _ => ⟨_, rfl, x3, 0, none, rfl, Known.same' k3 s1, (fun c => by rw [h3] at c; cases c), fun _ => kE _ s1⟩), (fun c => by rw [h2] at c; cases c)⟩
      · refine ⟨_, rfl, _, 0, none, rfl, ⟨_, .int _⟩, (fun _ => ?_), (fun c => by rw [good_int] at c; cases c)⟩
        refine ⟨_, rfl, _, 0, none, rfl, ⟨_, .int _⟩, (fun _ => ?_), (fun c => by rw [good_int] at c; cases c)⟩
        obtain ⟨ps, eW, pW⟩ := hW.ex
        have pl : (ps.map V.ref).length = (words (codes z')).length := by rw [List.length_map, Paired.len pW]
        refine ⟨_, rfl, a, _, rfl, .inl (SqL.of eW), _, rfl, _, rfl, .int (((ps.map V.ref).length : Nat) : Int), sp, .int (ar : Int), rfl, ⟨_, .int _⟩, ⟨_, .int _⟩, .inr (.inr ⟨_, ar, rfl, rfl, ?_⟩)⟩
        rw [pl]
        rcases h with ⟨hB, kE⟩ | ⟨sa, rs, rfl, hR, hok, hn, h64, kk⟩
        · rcases hB.same s1 with ⟨ty, t1, t2⟩ | ⟨b, xs, bs, e', eA, pB, hb⟩
          · exact .inl ⟨ty, t1, t2, kE _ s1⟩
          · exact .inr (.inl ⟨b, xs, bs, e', eA, pB, hb, kE _ s1⟩)
        · refine .inr (.inr ⟨sa, rs, rfl, hR.same s1, hok, hn, h64, fun fo H2 ms s2 hfo hM rM cM lM => ?_⟩)
          have hR2 := (hR.same s1).same s2
          refine ⟨_, rfl, sa, rs, rfl, hR2, (fun r hr' => ⟨(hok r hr').1, by have := (hok r hr').2; omega⟩), h64, fun mk H3 mks' s3 hmk hK rK cK lK => ?_⟩
          have t3 := (s1.trans s2).trans s3
          have hM3 := hM.same s3
          have hW3 := (hW.same s2).same s3
          obtain ⟨fs, eF, pF⟩ := hM3.ex
          have okm := rs_ok rM (fun p c => ((cM p).mp c).1)
          have okk := rs_ok rK (fun p c => ok_cov hok p ((cK p).mp c))
          refine ⟨_, rfl, _, rfl, _, rfl, fo, _, rfl, SqL.of eF, fun p1 hp1 => ?_⟩
          rw [cut_take]
          have s4 := same_upd (o := .lst ((fs.map V.ref).take mo)) hp1
          have e4 : upd H3 p1 (.lst ((fs.map V.ref).take mo)) p1 = some (.lst ((fs.take mo).map V.ref)) := by rw [List.map_take]; exact upd_same
          have pT := Paired.imp2 (Paired.tk mo pF) fun _ _ q => s4 _ _ q
          have t4 := t3.trans s4
          have hW4 := hW3.same s4
          have hK4 := hK.same s4
          generalize upd H3 p1 (.lst ((fs.map V.ref).take mo)) = H4 at s4 e4 pT t4 hW4 hK4
          refine ⟨p1, rfl, ⟨_, SqL.of e4⟩, ?_⟩
          have tl : (fs.take mo).length ≤ 64 := by rw [Paired.len pT, List.length_take]; omega
          refine comp_itl (xs := (fs.take mo).map V.ref) (fun i ys H' => Same H4 H' ∧ ∃ us, ys = us.map V.ref ∧ Paired (PcA H H') us (pcs (words (codes z')) ((ms.take mo).take i) mks')) (by rw [List.length_map]; omega) (fun i ys H' q => SqL.of (q.1 _ _ e4)) ⟨fun _ _ h => h, [], rfl, .nil⟩ ?_ ?_
          · rintro i v ys H' N hv ⟨sm, us, rfl, pU⟩ hN
            rw [List.getElem?_map] at hv
            cases hpi : (fs.take mo)[i]? with
            | none => rw [hpi] at hv; cases hv
            | some q =>
              rw [hpi] at hv
              have hv' : v = .ref q := (Option.some.inj hv).symm
              subst hv'
              obtain ⟨r, hri, hq⟩ := paired_get pT hpi
              have hrm : r ∈ ms := List.mem_of_mem_take (List.mem_of_getElem? hri)
              refine g1 ?_
              refine ⟨_, rfl, _, rfl, _, rfl, a, q, mk, _, r, mks', rfl, hW4.same sm, sm _ _ hq, hK4.same sm, okm r hrm, okk, lK, fun t l H5 s5 hl ht et hP => ?_⟩
              refine hN _ _ ⟨sm.trans s5, us ++ [t], by rw [List.map_append]; rfl, ?_⟩
              have tk : pcs (words (codes z')) ((ms.take mo).take (i + 1)) mks' = pcs (words (codes z')) ((ms.take mo).take i) mks' ++ [((sg (words (codes z')) r).1, (sg (words (codes z')) r).2, (mks mks' r).map (sg (words (codes z'))))] := by
                unfold pcs
                rw [List.take_add_one, hri, List.map_append]
                rfl
              rw [tk]
              exact Paired.app (Paired.imp2 pU fun _ _ q => q.same s5) ⟨l, et, hP, (t4.trans sm).free hl⟩
          · rintro ys H' ⟨sm, us, rfl, pU⟩ _ u hu
            have ll : ((fs.take mo).map V.ref).length = (ms.take mo).length := by rw [List.length_map, Paired.len pT]
            rw [ll, List.take_of_length_le (Nat.le_refl _)] at pU
            have su := same_upd (o := .lst (us.map V.ref)) hu
            refine kk ms mks' rM cM rK cK lM lK u _ ((t4.trans sm).trans su) ((t4.trans sm).free hu) ⟨us, upd_same, Paired.imp2 pU fun _ _ q => q.same su, fun q hq u' v' l e => ?_⟩
            obtain ⟨j, hj, ej⟩ := List.getElem_of_mem hq
            obtain ⟨x, _, ⟨l', e1, hl', _⟩⟩ := paired_get pU (show us[j]? = some q by rw [List.getElem?_eq_getElem hj, ej])
            have e2 := su _ _ e1
            rw [e2] at e
            have : l' = l := by injection e with e; injection e with e; injection e with _ e; injection e with _ e; injection e with e _; injection e
            rw [← this]
            obtain ⟨_, el, _⟩ := hl'.ex
            exact ne_of_none el hu
end
end K23
set_option Elab.async false
set_option linter.all false
set_option maxRecDepth 100000
set_option maxHeartbeats 4000000
namespace K23
open PySem L2 PyProof.Rows PySem.Spec Gn K01
open WN (Cov Rs Mg Pl win Okp near mks sg pcs Pc inW)
section
variable {P : Program} {w : World} {K : PySem.W.Frag} {mg : Str → Option Value} {base : Heap} {CN CS : Addr}
noncomputable def spRo : Sp := fun vs H Q _ => ∃ (c : Addr) (bs : List Bool), vs = [.ref c] ∧ H c = some (.lst (bs.map V.bl)) ∧ bs.length ≤ 1000 ∧ ∀ p H' acc, Same H H' → H p = none → PrL H' p acc → Pl bs acc bs.length → acc.length ≤ bs.length → Q (.ref p) H'
theorem scRo : FnScope ["_law_flags", "_law_found", "_law_place"] ["_law_flags"] (defScope lRows) := ⟨rfl, rfl, rfl, by decide +kernel, rfl, by decide +kernel, by decide +kernel⟩
seal PSs PS PE PT PA PG PI PGs PIfs in
theorem ok_ro {f : Addr} {fd : FuncData} (D : Df K mg "_law_rows" lRows f fd) (T : Txt mg) : FnOk P w K mg base CX0 1 f fd ["_law_flags"] spRo := by
  refine D.F.ok scRo (fun vs H Q E h => ?_) (fun cdv A outer s H vs Q E hr h => ?_)
  · obtain ⟨c, bs, rfl, _⟩ := h
    rfl
  · obtain ⟨c, bs, rfl, eC, hbl, kk⟩ := h
    have hz : (sizeLine : Nat) = 16777216 := sizeLine_eq
    refine ⟨_, (pss_cons (ps_set (i := 1) scRo.nd rfl (Or.inl rfl) (pe_lst pa_nil))
      (pss_cons (ps_for PassesOwn.never rfl (pi_range1 rfl T.range (pa_cons (pe_callB call_len_seq rfl T.len b_len (pa_cons (pv 0) pa_nil)) pa_nil)) (pg_name (i := 2) scRo.nd rfl (Or.inl rfl)) (pss_one (ps_if (PW.pt (pw_and (pt_val (pe_ix ix_list (pv 0) (pv 2) (fun _ _ => rfl))) (pw_and1 (PW.pt (pw_or (pt_cmpR op_eq (pv 2) pe_int (nomark _)) (pw_or1 (pt_not (pt_val (pe_ix ix_list (pv 0) (pe_op op_sub (pv 2) pe_int) (fun _ _ => rfl)))))))))) (pss_one (ps_expr (pe_bm PySem.F.plainAttrs_list PySem.F.slot_list_append PySem.F.type_list_append mt_append (pv 1) (pa_cons (pe_tup (pa_cons (pv 2) (pa_cons (pv 2) pa_nil))) pa_nil)))) (pss_one (ps_if (pt_val (pe_ix ix_list (pv 0) (pv 2) (fun _ _ => rfl))) (pss_one (ps_asg (pe_tup (pa_cons (pe_ix ix_tup (pe_ix ix_list (pv 1) (pe_un un_neg pe_int) (fun _ _ => rfl)) pe_int (fun _ _ => rfl)) (pa_cons (pv 2) pa_nil))) (pg_sub (pv 1) (pe_un un_neg pe_int) set_list))) pss_nil)))))
      (pss_one (ps_ret (pv 1))))), ?_⟩
    refine ⟨Nat.zero_le _, fun f' hf' => ⟨_, rfl, c, _, rfl, .inl (SqL.of (same_upd hf' _ _ eC)), _, rfl, by omega, by rw [List.length_map]; omega, ?_⟩⟩
    rw [Int.toNat_natCast]
    have ncf : c ≠ f' := ne_of_none eC hf'
    have nn : (bs.map V.bl).length = bs.length := List.length_map _
    rw [nn]
    refine for_range (fun i σ H' => ∃ (acc : List (Nat × Nat)) (o2 : Option V), σ = [some (.ref c), some (.ref f'), o2] ∧ Same H H' ∧ H' c = some (.lst (bs.map V.bl)) ∧ PrL H' f' acc ∧ Pl bs acc i ∧ acc.length ≤ i) ?_ ?_ ?_
    · exact ⟨[], _, rfl, same_upd hf', same_upd hf' _ _ eC, ⟨[], upd_same, .nil⟩, WN.Pl.zero _, Nat.le_refl _⟩
    · rintro i σ H2 hi ⟨acc, o2', rfl, s2, eC2, hR, hP, hal⟩
      rw [Int.zero_add]
      obtain ⟨us, eU, pU⟩ := hR.ex
      have ulen := Paired.len pU
      have hbi : bs[i]? = some bs[i] := List.getElem?_eq_getElem hi
      have ati : ∀ (j : Nat) b, bs[j]? = some b → atI (bs.map V.bl) ((j : Nat) : Int) = some (.bl b) := fun j b h => atI_nat (by rw [List.getElem?_map, h]; rfl)
      have addR : bs[i]? = some true → (i = 0 ∨ bs[i - 1]? ≠ some true) → tDrop (tBM K "list" rAppend (tVar 1) (tCons (tTup (tCons (tVar 2) (tCons (tVar 2) tNil))) tNil)) { nx := fun σ H' => ∃ (acc : List (Nat × Nat)) (o2 : Option V), σ = [some (.ref c), some (.ref f'), o2] ∧ Same H H' ∧ H' c = some (.lst (bs.map V.bl)) ∧ PrL H' f' acc ∧ Pl bs acc (i + 1) ∧ acc.length ≤ i + 1, rt := fun _ _ => False } [some (.ref c), some (.ref f'), some (.int (i : Int))] H2 := fun ht hq => by
        refine ⟨_, rfl, .inl ⟨rfl, _, SqL.of eU⟩, _, rfl, _, rfl, (by show 2 ≤ sizeLine; omega), fun t ht' => ?_⟩
        have s5 := same_upd (o := .tup [.int (i : Int), .int (i : Int)]) ht'
        have eU5 := s5 _ _ eU
        refine ⟨f', _, _, rfl, rfl, eU5, by rw [List.length_map]; omega, ?_⟩
        exact ⟨acc ++ [(i, i)], _, rfl, same_put (s2.trans s5) hf', by rw [upd_ne ncf]; exact s5 _ _ eC2, PrL.add (x := (i, i)) eU5 (Paired.imp2 pU fun _ _ q => s5 _ _ q) upd_same, hP.new ht hq, by rw [List.length_append]; show _ + 1 ≤ _; omega⟩
      refine ⟨_, rfl, _, rfl, c, _, _, _, rfl, rfl, SqL.of eC2, ati i _ hbi, _, rfl, ?_⟩
      cases hbv : bs[i] with
      | false =>
        refine iteF (iteF ⟨_, rfl, _, rfl, c, _, _, _, rfl, rfl, SqL.of eC2, ati i _ hbi, _, rfl, ?_⟩)
        rw [hbv]
        exact iteF ⟨acc, _, rfl, s2, eC2, hR, hP.skip (by rw [hbi, hbv]; decide), by omega⟩
      | true =>
        rw [hbv] at hbi
        refine iteT ⟨_, rfl, rfl, _, rfl, ?_⟩
        by_cases h0 : i = 0
        · rw [dec_i (show (i : Int) = 0 by omega)]
          exact iteT (iteT (addR hbi (.inl h0)))
        · rw [dec_n (show (i : Int) ≠ 0 by omega)]
          have e1 : (i : Int) - 1 = ((i - 1 : Nat) : Int) := by omega
          have hbj : bs[i - 1]? = some bs[i - 1] := List.getElem?_eq_getElem (by omega)
          refine iteF ⟨_, rfl, _, rfl, _, _, rfl, rfl, c, _, _, _, rfl, rfl, SqL.of eC2, (by rw [e1]; exact ati (i - 1) _ hbj), _, rfl, ?_⟩
          cases hbw : bs[i - 1] with
          | false => exact iteT (addR hbi (.inr (by rw [hbj, hbw]; decide)))
          | true =>
            rw [hbw] at hbj
            refine iteF ⟨_, rfl, _, rfl, c, _, _, _, rfl, rfl, SqL.of eC2, ati i _ hbi, _, rfl, iteT ?_⟩
            obtain ⟨ini, b0, rfl⟩ := hP.last h0 hbj
            obtain ⟨us', u, rfl⟩ : ∃ us' u, us = us' ++ [u] := last_of (fun z => by rw [z] at ulen; rw [List.length_append] at ulen; simp at ulen)
            have l1 : us'.length = ini.length := by rw [List.length_append, List.length_append] at ulen; simpa using ulen
            have hbu : TuA H2 u (b0, i - 1) := by
              obtain ⟨a', e', f''⟩ := Paired.at pU (i := ini.length) (b := (b0, i - 1)) (by simp)
              rw [← l1] at e'
              have : a' = u := by simpa using e'.symm
              rw [this] at f''
              exact f''
            have atl : atI ((us' ++ [u]).map V.ref) (-1) = some (.ref u) := by rw [List.map_append]; exact at_last _ _
            refine ⟨_, rfl, _, rfl, f', _, _, .ref u, rfl, rfl, SqL.of eU, atl, u, _, _, _, rfl, rfl, SqT.of hbu, atI_nat (j := 0) rfl, _, rfl, (by show 2 ≤ sizeLine; omega), fun t ht => ?_⟩
            have s5 := same_upd (o := .tup [.int (b0 : Int), .int (i : Int)]) ht
            have eU5 := s5 _ _ eU
            refine ⟨_, rfl, _, rfl, f', _, _, us'.length, rfl, rfl, eU5, ?_, ?_⟩
            · rw [List.map_append]
              have q := ixN_last (us'.map V.ref) (.ref u)
              rw [List.length_map] at q
              exact q
            · have es : ((us' ++ [u]).map V.ref).set us'.length (.ref t) = (us' ++ [t]).map V.ref := by
                rw [List.map_append, List.map_append]
                have q := set_last (us'.map V.ref) (.ref u) (.ref t)
                rw [List.length_map] at q
                exact q
              rw [es]
              have pI : Paired (TuA H2) us' ini := by
                have q := Paired.tk us'.length pU
                rw [List.take_left] at q
                rw [l1, List.take_left] at q
                exact q
              have pU5 : Paired (TuA (upd H2 t (.tup [.int (b0 : Int), .int (i : Int)]))) (us' ++ [t]) (ini ++ [(b0, i)]) := Paired.app (Paired.imp2 pI fun _ _ q => s5 _ _ q) upd_same
              exact ⟨ini ++ [(b0, i)], _, rfl, same_put (s2.trans s5) hf', by rw [upd_ne ncf]; exact s5 _ _ eC2, PrL.put eU5 pU5, hP.long h0 hbi, by rw [List.length_append] at hal ⊢; have h1 : ini.length + 1 ≤ i := hal; show ini.length + 1 ≤ i + 1; omega⟩
    · rintro σ H2 ⟨acc, o2', rfl, s2, eC2, hR, hP, hal⟩
      exact ⟨_, rfl, kk f' H2 acc s2 hf' hR hP hal⟩
theorem ndA : (["_law_first", "_law_last", "_law_around", "_law_place"] : List Str).Nodup := by decide +kernel
theorem ndB : (["_law_first", "_law_last", "_law_place"] : List Str).Nodup := by decide +kernel
theorem ndF : (["_law_place", "_law_first", "_law_last", "_law_marked"] : List Str).Nodup := by decide +kernel
theorem ndM : (["_law_begin", "_law_end", "_law_words_here"] : List Str).Nodup := by decide +kernel
theorem eqv_ones (c : Nat) : (!PyData.eqv (.list ((List.replicate c (1 : Int)).map PyData.int)) (.list [])) = decide (c ≠ 0) := by
  cases c with
  | zero => rfl
  | succ c => rfl
theorem tk_or {α : Type} {l : List α} {i : Nat} {x : α} {p : α → Prop} (h : l[i]? = some x) : (∃ r ∈ l.take (i + 1), p r) ↔ (∃ r ∈ l.take i, p r) ∨ p x := by
  rw [List.take_add_one, h]
  constructor
  · rintro ⟨r, hr, q⟩
    rcases List.mem_append.mp hr with z | z
    · exact .inl ⟨r, z, q⟩
    · rw [List.mem_singleton.mp z] at q; exact .inr q
  · rintro (⟨r, hr, q⟩ | q)
    · exact ⟨r, List.mem_append_left _ hr, q⟩
    · exact ⟨x, List.mem_append_right _ List.mem_cons_self, q⟩
structure Lk (bs : List Bool) (p : Nat → Prop) (i : Nat) : Prop where
  l : bs.length = i
  h : ∀ j b, bs[j]? = some b → (b = true ↔ p j)
theorem Lk.add {bs : List Bool} {p : Nat → Prop} {i : Nat} (h : Lk bs p i) {b : Bool} (hb : b = true ↔ p i) : Lk (bs ++ [b]) p (i + 1) := ⟨by rw [List.length_append, h.l]; rfl, fun j b' hj => by
  rw [List.getElem?_append] at hj
  split at hj
  · exact h.h j b' hj
  · have e0 : j - bs.length = 0 := by
      rcases Nat.eq_zero_or_pos (j - bs.length) with z | z
      · exact z
      · rw [List.getElem?_eq_none (by show 1 ≤ _; omega)] at hj; cases hj
    rw [e0] at hj
    have e : j = i := by have := h.l; omega
    have hb' : b' = b := (Option.some.inj hj).symm
    rw [hb', e]
    exact hb⟩
theorem Lk.iff {bs : List Bool} {p : Nat → Prop} {n : Nat} (h : Lk bs p n) (j : Nat) : bs[j]? = some true ↔ j < n ∧ p j := by
  constructor
  · intro e
    exact ⟨by have := (List.getElem?_eq_some_iff.mp e).1; have := h.l; omega, (h.h j true e).mp rfl⟩
  · rintro ⟨h1, q⟩
    cases e : bs[j]? with
    | none => rw [List.getElem?_eq_none_iff] at e; have := h.l; omega
    | some b => rw [(h.h j b e).mpr q]
theorem pl_ex (bs : List Bool) : ∀ i, i ≤ bs.length → ∃ acc, Pl bs acc i
  | 0, _ => ⟨[], WN.Pl.zero _⟩
  | i + 1, hi => by
    obtain ⟨acc, h⟩ := pl_ex bs i (by omega)
    by_cases hc : bs[i]? = some true
    · by_cases h0 : i = 0 ∨ bs[i - 1]? ≠ some true
      · exact ⟨_, h.new hc h0⟩
      · have h1 : i ≠ 0 := fun z => h0 (.inl z)
        have h2 : bs[i - 1]? = some true := Classical.byContradiction fun z => h0 (.inr z)
        obtain ⟨ini, b, rfl⟩ := h.last h1 h2
        exact ⟨_, h.long h1 hc⟩
    · exact ⟨_, h.skip hc⟩
theorem mk_ex (rs : List (Nat × Nat)) (n : Nat) (hok : ∀ r ∈ rs, Okp n r) : ∃ mk, Rs mk ∧ ∀ p, Cov mk p ↔ Cov rs p := by
  classical
  have hL : Lk ((List.range n).map fun p => decide (Cov rs p)) (Cov rs) n := ⟨by rw [List.length_map, List.length_range], fun j b hj => by
    rw [List.getElem?_map] at hj
    cases e : (List.range n)[j]? with
    | none => rw [e] at hj; cases hj
    | some k =>
      rw [e] at hj
      have ek : k = j := by
        have := List.getElem?_eq_some_iff.mp e
        obtain ⟨h1, h2⟩ := this
        rw [List.getElem_range] at h2
        exact h2.symm
      have hb : b = decide (Cov rs k) := (Option.some.inj hj).symm
      rw [hb, ek, decide_eq_true_iff]⟩
  obtain ⟨mk, h⟩ := pl_ex _ _ (Nat.le_refl _)
  refine ⟨mk, h.r, fun p => (h.c p).trans ⟨fun q => ((hL.iff p).mp q.2).2, fun q => ?_⟩⟩
  have hp := ok_cov hok p q
  exact ⟨by rw [hL.l]; exact hp, (hL.iff p).mpr ⟨hp, q⟩⟩
end
end K23
set_option Elab.async false
set_option linter.all false
set_option maxRecDepth 100000
set_option maxHeartbeats 4000000
namespace K23
open PySem L2 PyProof.Rows PySem.Spec Gn K01
open WN (Cov Rs Mg Pl win Okp near mks sg pcs Pc inW)
section
variable {P : Program} {w : World} {K : PySem.W.Frag} {mg : Str → Option Value} {base : Heap} {CN CS : Addr}
noncomputable def PcB (B H : Hp) (d : Addr) (q : Addr) (x : Pc) : Prop := ∃ l, H q = some (.tup [.int (x.1 : Int), .int (x.2.1 : Int), .ref l]) ∧ PrL H l x.2.2 ∧ B l = none ∧ l ≠ d
theorem PcB.same {B H H' : Hp} {d q : Addr} {x : Pc} (h : PcB B H d q x) (e : Same H H') : PcB B H' d q x := by
  obtain ⟨l, h1, h2, h3, h4⟩ := h
  exact ⟨l, e _ _ h1, h2.same e, h3, h4⟩
theorem PcB.put {B H : Hp} {d q : Addr} {x : Pc} {xs : List V} {o : HO} (h : PcB B H d q x) (hd : H d = some (.lst xs)) : PcB B (upd H d o) d q x := by
  obtain ⟨l, h1, h2, h3, h4⟩ := h
  refine ⟨l, ?_, h2.other hd h4, h3, h4⟩
  rw [upd_ne (fun z => by rw [z, hd] at h1; cases h1)]
  exact h1
theorem PcB.lst {B H : Hp} {d : Addr} {us : List Addr} {xs : List Pc} (e : H d = some (.lst (us.map V.ref))) (p : Paired (PcB B H d) us xs) : PcL B H d xs := by
  refine ⟨us, e, Paired.imp2 p fun _ _ ⟨l, h1, h2, h3, _⟩ => ⟨l, h1, h2, h3⟩, fun q hq u v l el => ?_⟩
  obtain ⟨j, hj, ej⟩ := List.getElem_of_mem hq
  obtain ⟨x, _, ⟨l', e1, _, _, n⟩⟩ := paired_get p (show us[j]? = some q by rw [List.getElem?_eq_getElem hj, ej])
  rw [e1] at el
  have : l' = l := by injection el with el; injection el with el; injection el with _ el; injection el with _ el; injection el with el _; injection el
  rw [← this]
  exact n
noncomputable def spLP (K : PySem.W.Frag) : Sp := fun vs H Q _ => ∃ (z : Str) (a : Addr) (ar mo : Nat) (rs : List (Nat × Nat)), vs = [.str z, .ref a, .int ar, .int mo] ∧ Drawn z ∧ PrL H a rs ∧ (∀ r ∈ rs, Okp (words (codes z)).length r) ∧ (words (codes z)).length ≤ 1000 ∧ rs.length ≤ 64 ∧
  ∀ ms mk, Rs ms → (∀ p, Cov ms p ↔ p < (words (codes z)).length ∧ ∃ r ∈ rs, near ar r p) → Rs mk → (∀ p, Cov mk p ↔ Cov rs p) → ms.length ≤ 1000 →
    ∀ p H', Same H H' → H p = none → PcL H H' p (pcs (words (codes z)) (ms.take mo) mk) → Q (.ref p) H'
theorem scLP : FnScope ["_law_text_here", "_law_spans_here", "_law_around", "_law_most", "_law_words_here", "_law_near", "_law_marked", "_law_place", "_law_first", "_law_last", "_law_found", "_law_flags", "_law_marks"] ["_law_text_here", "_law_spans_here", "_law_around", "_law_most"] (defScope lPcs) := ⟨rfl, rfl, rfl, by decide +kernel, rfl, by decide +kernel, by decide +kernel⟩
seal PSs PS PE PT PA PG PI PGs PIfs in
theorem ok_lp {f fl fr : Addr} {fd fdl fdr : FuncData} (D : Df K mg "_law_pieces" lPcs f fd) (DL : Df K mg "_law_words" lWords fl fdl) (GL : FnOk P w K mg base CX0 2 fl fdl ["_law_text_here"] spWords) (DR : Df K mg "_law_rows" lRows fr fdr) (T : Txt mg) : FnOk P w K mg base CX0 3 f fd ["_law_text_here", "_law_spans_here", "_law_around", "_law_most"] (spLP K) := by
  have GR : FnOk P w K mg base CX0 1 fr fdr ["_law_flags"] spRo := ok_ro DR T
  have bR := binds1 (p := "_law_flags") DR.F fun _ _ _ _ _ _ _ => rfl
  have bL := binds1 (p := "_law_text_here") DL.F fun _ _ _ _ _ _ _ => rfl
  refine D.F.ok scLP (fun vs H Q E h => ?_) (fun cdv A outer s H vs Q E hr h => ?_)
  · obtain ⟨z, a, ar, mo, rs, rfl, _⟩ := h
    rfl
  · obtain ⟨z, a, ar, mo, rs, rfl, hd, hR, hok, hn, hl, kk⟩ := h
    have hz : (sizeLine : Nat) = 16777216 := sizeLine_eq
    refine ⟨_, (pss_cons (ps_set (i := 4) scLP.nd rfl (Or.inr rfl) (pe_call GL hr rfl DL.m DL.F.kp bL .nil pass0 (pa_cons (pv 0) pa_nil)))
      (pss_cons (ps_set (i := 5) scLP.nd rfl (Or.inl rfl) (pe_lst pa_nil))
      (pss_cons (ps_set (i := 6) scLP.nd rfl (Or.inr rfl) (pe_lst pa_nil))
      (pss_cons (ps_for PassesOwn.never rfl (pi_range1 rfl T.range (pa_cons (pe_callB call_len_seq rfl T.len b_len (pa_cons (pv 4) pa_nil)) pa_nil)) (pg_name (i := 7) scLP.nd rfl (Or.inr rfl)) (pss_cons (ps_expr (pe_bm PySem.F.plainAttrs_list PySem.F.slot_list_append PySem.F.type_list_append mt_append (pv 5) (pa_cons (pe_cmpR (op_neD hr.units100) (pe_comp (own := 2) (caps := [2, 7]) (N := ["_law_first", "_law_last", "_law_around", "_law_place"]) (N0 := ["_law_text_here", "_law_spans_here", "_law_around", "_law_most", "_law_words_here", "_law_near", "_law_marked", "_law_place", "_law_first", "_law_last", "_law_found", "_law_flags", "_law_marks"]) (sc0 := defScope lPcs) rfl (pi_list (pv 1)) (fun _ _ _ => pg_tup (n := 2) rfl (pgs_cons (pg_name (i := 0) ndA rfl (Or.inl rfl)) (pgs_cons (pg_name (i := 1) ndA rfl (Or.inl rfl)) pgs_nil))) (fun _ _ _ => pf_one (pt_chain op_le op_le (pe_op op_sub (pv 0) (pv 2)) (pv 3) (pe_op op_add (pv 1) (pv 2)))) (fun _ _ _ => pe_int) (gk_tup (gks_cons (gk_name (by decide)) (gks_cons (gk_name (by decide)) gks_nil))) rfl rfl
        (by decide +kernel) rfl (by decide +kernel) (by decide +kernel) rfl (by decide +kernel)) (pe_lst pa_nil) (nomark _)) pa_nil)))
      (pss_one (ps_expr (pe_bm PySem.F.plainAttrs_list PySem.F.slot_list_append PySem.F.type_list_append mt_append (pv 6) (pa_cons (pe_cmpR (op_neD hr.units100) (pe_comp (own := 2) (caps := [7]) (N := ["_law_first", "_law_last", "_law_place"]) (N0 := ["_law_text_here", "_law_spans_here", "_law_around", "_law_most", "_law_words_here", "_law_near", "_law_marked", "_law_place", "_law_first", "_law_last", "_law_found", "_law_flags", "_law_marks"]) (sc0 := defScope lPcs) rfl (pi_list (pv 1)) (fun _ _ _ => pg_tup (n := 2) rfl (pgs_cons (pg_name (i := 0) ndB rfl (Or.inl rfl)) (pgs_cons (pg_name (i := 1) ndB rfl (Or.inl rfl)) pgs_nil))) (fun _ _ _ => pf_one (pt_chain op_le op_le (pv 0) (pv 2) (pv 1))) (fun _ _ _ => pe_int) (gk_tup (gks_cons (gk_name (by decide)) (gks_cons (gk_name (by decide)) gks_nil))) rfl rfl
        (by decide +kernel) rfl (by decide +kernel) (by decide +kernel) rfl (by decide +kernel)) (pe_lst pa_nil) (nomark _)) pa_nil))))))
      (pss_cons (ps_set (i := 10) scLP.nd rfl (Or.inl rfl) (pe_lst pa_nil))
      (pss_cons (ps_for PassesOwn.never rfl (pi_list (pe_slice sl_list (pe_call (GR.mono (by decide)) hr rfl DR.m DR.F.kp bR .nil pass0 (pa_cons (pv 5) pa_nil)) po_none (po_some (pv 3)))) (pg_tup (n := 2) rfl (pgs_cons (pg_name (i := 8) scLP.nd rfl (Or.inr rfl)) (pgs_cons (pg_name (i := 9) scLP.nd rfl (Or.inr rfl)) pgs_nil))) (pss_cons (ps_setC (i := 11) scLP.nd rfl (Or.inl rfl) (own := 1) (caps := [8, 9, 6]) (N := ["_law_place", "_law_first", "_law_last", "_law_marked"]) (N0 := ["_law_text_here", "_law_spans_here", "_law_around", "_law_most", "_law_words_here", "_law_near", "_law_marked", "_law_place", "_law_first", "_law_last", "_law_found", "_law_flags", "_law_marks"]) (sc0 := defScope lPcs) rfl (pi_range1 rfl T.range (pa_cons (pe_callB call_len_seq rfl T.len b_len (pa_cons (pv 4) pa_nil)) pa_nil)) (fun _ _ _ => pg_name (i := 0) ndF rfl (Or.inl rfl)) (fun _ _ _ => pf_none) (fun _ _ _ => pe_and (pe_ix (ix_listK (K := K) rfl) (pv 3) (pv 0) (fun _ _ => rfl)) (pe_one (pe_chain op_le op_le (pv 1) (pv 0) (pv 2)))) (gk_name (by decide)) rfl rfl
        (by decide +kernel) rfl (by decide +kernel) (by decide +kernel) rfl (by decide +kernel) (fun _ _ _ h => h))
      (pss_cons (ps_setC (i := 12) scLP.nd rfl (Or.inl rfl) (own := 2) (caps := [4]) (N := ["_law_begin", "_law_end", "_law_words_here"]) (N0 := ["_law_text_here", "_law_spans_here", "_law_around", "_law_most", "_law_words_here", "_law_near", "_law_marked", "_law_place", "_law_first", "_law_last", "_law_found", "_law_flags", "_law_marks"]) (sc0 := defScope lPcs) rfl (pi_list (pe_call (GR.mono (by decide)) hr rfl DR.m DR.F.kp bR .nil pass0 (pa_cons (pv 11) pa_nil))) (fun _ _ _ => pg_tup (n := 2) rfl (pgs_cons (pg_name (i := 0) ndM rfl (Or.inl rfl)) (pgs_cons (pg_name (i := 1) ndM rfl (Or.inl rfl)) pgs_nil))) (fun _ _ _ => pf_none) (fun _ _ _ => pe_tup (pa_cons (pe_ix (ix_tupK (K := K) rfl) (pe_ix (ix_listK (K := K) rfl) (pv 2) (pv 0) (fun _ _ => rfl)) pe_int (fun _ _ => rfl)) (pa_cons (pe_ix (ix_tupK (K := K) rfl) (pe_ix (ix_listK (K := K) rfl) (pv 2) (pv 1) (fun _ _ => rfl)) pe_int (fun _ _ => rfl)) pa_nil))) (gk_tup (gks_cons (gk_name (by decide)) (gks_cons (gk_name (by decide)) gks_nil))) rfl rfl
        (by decide +kernel) rfl (by decide +kernel) (by decide +kernel) rfl (by decide +kernel) (fun _ _ _ h => h))
      (pss_one (ps_expr (pe_bm PySem.F.plainAttrs_list PySem.F.slot_list_append PySem.F.type_list_append mt_append (pv 10) (pa_cons (pe_tup (pa_cons (pe_ix ix_tup (pe_ix ix_list (pv 4) (pv 8) (fun _ _ => rfl)) pe_int (fun _ _ => rfl)) (pa_cons (pe_ix ix_tup (pe_ix ix_list (pv 4) (pv 9) (fun _ _ => rfl)) pe_int (fun _ _ => rfl)) (pa_cons (pv 12) pa_nil)))) pa_nil)))))))
      (pss_one (ps_ret (pv 10))))))))), ?_⟩
    refine ⟨_, rfl, z, rfl, hd, fun W H1 s1 hW0 hW => ?_⟩
    obtain ⟨ps, eW, pW⟩ := hW.ex
    have pl : (ps.map V.ref).length = (words (codes z)).length := by rw [List.length_map, Paired.len pW]
    obtain ⟨qs, eA, pA⟩ := (hR.same s1).ex
    have plen := Paired.len pA
    generalize hws : words (codes z) = ws at *
    refine ⟨Nat.zero_le _, fun ne hne => ⟨Nat.zero_le _, fun mr hmr => ?_⟩⟩
    have nem : ne ≠ mr := ne_of_none upd_same hmr
    have hmr1 : H1 mr = none := (same_upd hne).free hmr
    have s2 := Same.upd (o := .lst []) (same_upd (o := .lst ([] : List V)) hne) hmr
    refine ⟨_, rfl, W, _, rfl, .inl (SqL.of (s2 _ _ eW)), _, rfl, by omega, by omega, ?_⟩
    rw [Int.toNat_natCast, pl]
    refine for_range (fun i σ H' => ∃ (nb mb : List Bool) (o7 : Option V), σ = [some (.str z), some (.ref a), some (.int (ar : Int)), some (.int (mo : Int)), some (.ref W), some (.ref ne), some (.ref mr), o7, none, none, none, none, none] ∧ Same H1 H' ∧ H' ne = some (.lst (nb.map V.bl)) ∧ H' mr = some (.lst (mb.map V.bl)) ∧ Lk nb (fun p => ∃ r ∈ rs, near ar r p) i ∧ Lk mb (fun p => ∃ r ∈ rs, r.1 ≤ p ∧ p ≤ r.2) i) ?_ ?_ ?_
    · exact ⟨[], [], none, rfl, s2, same_upd hmr _ _ upd_same, upd_same, ⟨rfl, fun j b h => nomatch h⟩, ⟨rfl, fun j b h => nomatch h⟩⟩
    · rintro i σ H' hi ⟨nb, mb, o7, rfl, sm, eN, eM, kN, kM⟩
      rw [Int.zero_add]
      have nl := kN.l
      have ml := kM.l
      refine ⟨_, rfl, .inl ⟨rfl, _, SqL.of eN⟩, _, rfl, a, rfl, ⟨_, SqL.of (sm _ _ eA)⟩, ?_⟩
      refine comp_itl (xs := qs.map V.ref) (fun j ys G => G = H' ∧ ∃ m : Nat, ys = (List.replicate m (1 : Int)).map V.int ∧ (m ≠ 0 ↔ ∃ r ∈ rs.take j, near ar r i)) (by rw [List.length_map]; omega) (fun j ys G q => by rw [q.1]; exact SqL.of (sm _ _ eA)) ⟨rfl, 0, rfl, ⟨fun h => absurd rfl h, fun ⟨r, h, _⟩ => nomatch h⟩⟩ ?_ ?_
      · rintro j v ys G N hv ⟨rfl, m, rfl, hm⟩ hN
        rw [List.getElem?_map] at hv
        cases hpi : qs[j]? with
        | none => rw [hpi] at hv; cases hv
        | some q =>
          rw [hpi] at hv
          have hv' : v = .ref q := (Option.some.inj hv).symm
          subst hv'
          obtain ⟨x, hxi, hx⟩ := paired_get pA hpi
          refine ⟨q, _, rfl, SqT.of (sm _ _ hx), rfl, _, _, rfl, _, _, rfl, rfl, ?_⟩
          refine ⟨_, rfl, _, rfl, _, _, rfl, rfl, _, rfl, _, _, rfl, rfl, _, rfl, ?_⟩
          by_cases h1 : (x.1 : Int) - (ar : Int) ≤ (i : Int)
          · rw [decide_eq_true h1]
            refine iteT ⟨_, rfl, _, rfl, _, _, rfl, rfl, _, _, rfl, rfl, _, rfl, ?_⟩
            by_cases h2 : (i : Int) ≤ (x.2 : Int) + (ar : Int)
            · rw [decide_eq_true h2]
              exact iteT (hN _ _ ⟨rfl, m + 1, by rw [List.replicate_succ', List.map_append]; rfl, by rw [tk_or hxi]; exact ⟨fun _ => .inr ⟨by omega, by omega⟩, fun _ => by omega⟩⟩)
            · rw [decide_eq_false h2]
              refine iteF (hN _ _ ⟨rfl, m, rfl, by rw [tk_or hxi, hm]; exact ⟨.inl, fun z => z.resolve_right fun ⟨_, q⟩ => by omega⟩⟩)
          · rw [decide_eq_false h1]
            refine iteF ⟨_, rfl, iteF (hN _ _ ⟨rfl, m, rfl, by rw [tk_or hxi, hm]; exact ⟨.inl, fun z => z.resolve_right fun ⟨q, _⟩ => by omega⟩⟩)⟩
      rintro ys G ⟨rfl, m1, rfl, hm1⟩ _ u1 hu1
      rw [List.length_map, plen, List.take_of_length_le (Nat.le_refl _)] at hm1
      refine ⟨Nat.zero_le _, fun v1 hv1 => ?_⟩
      have z1 := Same.upd (o := .lst []) (same_upd (o := .lst ((List.replicate m1 (1 : Int)).map V.int)) hu1) hv1
      refine ⟨.list ((List.replicate m1 (1 : Int)).map PyData.int), .list [], .lst (SqL.of (same_upd hv1 _ _ upd_same)) (dt_ints _), .lst (SqL.of upd_same) .nil, lay_ints _, rfl, Nat.le_trans (Nat.min_le_right _ _) (by decide), ?_⟩
      rw [eqv_ones]
      refine ⟨ne, _, _, rfl, rfl, z1 _ _ eN, by rw [List.length_map]; omega, ?_⟩
      have sA := same_put (o := .lst (nb.map V.bl ++ [V.bl (decide (m1 ≠ 0))])) (sm.trans z1) hne
      have eNA : upd (upd (upd G u1 (.lst ((List.replicate m1 (1 : Int)).map V.int))) v1 (.lst [])) ne (.lst (nb.map V.bl ++ [V.bl (decide (m1 ≠ 0))])) ne = some (.lst ((nb ++ [decide (m1 ≠ 0)]).map V.bl)) := by rw [List.map_append]; exact upd_same
      have eMA : upd (upd (upd G u1 (.lst ((List.replicate m1 (1 : Int)).map V.int))) v1 (.lst [])) ne (.lst (nb.map V.bl ++ [V.bl (decide (m1 ≠ 0))])) mr = some (.lst (mb.map V.bl)) := by rw [upd_ne (Ne.symm nem)]; exact z1 _ _ eM
      generalize upd (upd (upd G u1 (.lst ((List.replicate m1 (1 : Int)).map V.int))) v1 (.lst [])) ne (.lst (nb.map V.bl ++ [V.bl (decide (m1 ≠ 0))])) = HA at sA eNA eMA ⊢
      refine ⟨_, rfl, .inl ⟨rfl, _, SqL.of eMA⟩, _, rfl, a, rfl, ⟨_, SqL.of (sA _ _ eA)⟩, ?_⟩
      refine comp_itl (xs := qs.map V.ref) (fun j ys G => G = HA ∧ ∃ m : Nat, ys = (List.replicate m (1 : Int)).map V.int ∧ (m ≠ 0 ↔ ∃ r ∈ rs.take j, r.1 ≤ i ∧ i ≤ r.2)) (by rw [List.length_map]; omega) (fun j ys G q => by rw [q.1]; exact SqL.of (sA _ _ eA)) ⟨rfl, 0, rfl, ⟨fun h => absurd rfl h, fun ⟨r, h, _⟩ => nomatch h⟩⟩ ?_ ?_
      · rintro j v ys G N hv ⟨rfl, m, rfl, hm⟩ hN
        rw [List.getElem?_map] at hv
        cases hpi : qs[j]? with
        | none => rw [hpi] at hv; cases hv
        | some q =>
          rw [hpi] at hv
          have hv' : v = .ref q := (Option.some.inj hv).symm
          subst hv'
          obtain ⟨x, hxi, hx⟩ := paired_get pA hpi
          refine ⟨q, _, rfl, SqT.of (sA _ _ hx), rfl, _, _, rfl, _, _, rfl, rfl, ?_⟩
          refine ⟨_, rfl, _, rfl, _, _, rfl, rfl, _, rfl, ?_⟩
          by_cases h1 : (x.1 : Int) ≤ (i : Int)
          · rw [decide_eq_true h1]
            refine iteT ⟨_, rfl, _, _, rfl, rfl, _, rfl, ?_⟩
            by_cases h2 : (i : Int) ≤ (x.2 : Int)
            · rw [decide_eq_true h2]
              exact iteT (hN _ _ ⟨rfl, m + 1, by rw [List.replicate_succ', List.map_append]; rfl, by rw [tk_or hxi]; exact ⟨fun _ => .inr ⟨by omega, by omega⟩, fun _ => by omega⟩⟩)
            · rw [decide_eq_false h2]
              refine iteF (hN _ _ ⟨rfl, m, rfl, by rw [tk_or hxi, hm]; exact ⟨.inl, fun z => z.resolve_right fun ⟨_, q⟩ => by omega⟩⟩)
          · rw [decide_eq_false h1]
            refine iteF ⟨_, rfl, iteF (hN _ _ ⟨rfl, m, rfl, by rw [tk_or hxi, hm]; exact ⟨.inl, fun z => z.resolve_right fun ⟨q, _⟩ => by omega⟩⟩)⟩
      rintro ys G ⟨rfl, m2, rfl, hm2⟩ _ u2 hu2
      rw [List.length_map, plen, List.take_of_length_le (Nat.le_refl _)] at hm2
      refine ⟨Nat.zero_le _, fun v2 hv2 => ?_⟩
      have z2 := Same.upd (o := .lst []) (same_upd (o := .lst ((List.replicate m2 (1 : Int)).map V.int)) hu2) hv2
      refine ⟨.list ((List.replicate m2 (1 : Int)).map PyData.int), .list [], .lst (SqL.of (same_upd hv2 _ _ upd_same)) (dt_ints _), .lst (SqL.of upd_same) .nil, lay_ints _, rfl, Nat.le_trans (Nat.min_le_right _ _) (by decide), ?_⟩
      rw [eqv_ones]
      refine ⟨mr, _, _, rfl, rfl, z2 _ _ eMA, by rw [List.length_map]; omega, ?_⟩
      refine ⟨nb ++ [decide (m1 ≠ 0)], mb ++ [decide (m2 ≠ 0)], _, rfl, same_put (sA.trans z2) hmr1, by rw [upd_ne nem]; exact z2 _ _ eNA, by rw [List.map_append]; exact upd_same, kN.add (by rw [decide_eq_true_iff]; exact hm1), kM.add (by rw [decide_eq_true_iff]; exact hm2)⟩
    · rintro σ H2 ⟨nb, mb, o7, rfl, sm, eN, eM, kN, kM⟩
      refine ⟨Nat.zero_le _, fun fo hfo => ?_⟩
      have nl := kN.l
      have ml := kM.l
      have e3 := same_upd (o := .lst ([] : List V)) hfo
      have eF3 : upd H2 fo (.lst []) fo = some (.lst []) := upd_same
      have hfo1 : H1 fo = none := sm.free hfo
      have nmf : mr ≠ fo := ne_of_none eM hfo
      have t3 := sm.trans e3
      have eN3 := e3 _ _ eN
      have eM3 := e3 _ _ eM
      generalize upd H2 fo (.lst []) = H3 at e3 eF3 t3 eN3 eM3
      refine ⟨_, rfl, ne, nb, rfl, eN3, by omega, fun p2 H4 ms s4 hp2 hM plM lM => ?_⟩
      obtain ⟨fs, eR, pR⟩ := hM.ex
      refine ⟨_, rfl, _, rfl, p2, _, rfl, SqL.of eR, fun p3 hp3 => ?_⟩
      rw [cut_take]
      have s5 := same_upd (o := .lst ((fs.map V.ref).take mo)) hp3
      have e5 : upd H4 p3 (.lst ((fs.map V.ref).take mo)) p3 = some (.lst ((fs.take mo).map V.ref)) := by rw [List.map_take]; exact upd_same
      have pT := Paired.imp2 (Paired.tk mo pR) fun _ _ q => s5 _ _ q
      have t5 := t3.trans (s4.trans s5)
      have eF5 := s5 _ _ (s4 _ _ eF3)
      have eM5 := s5 _ _ (s4 _ _ eM3)
      have nf3 : fo ≠ p3 := ne_of_none (s4 _ _ eF3) hp3
      generalize upd H4 p3 (.lst ((fs.map V.ref).take mo)) = H5 at s5 e5 pT t5 eF5 eM5
      refine ⟨p3, rfl, ⟨_, SqL.of e5⟩, ?_⟩
      have rM := plM.r
      have cM : ∀ p, Cov ms p ↔ p < ws.length ∧ ∃ r ∈ rs, near ar r p := fun p => (plM.c p).trans ⟨fun q => (kN.iff p).mp q.2, fun q => ⟨by rw [nl]; exact q.1, (kN.iff p).mpr q⟩⟩
      obtain ⟨mk, rK, cK⟩ := mk_ex rs ws.length hok
      have okm := rs_ok rM (fun p c => ((cM p).mp c).1)
      have kc : ∀ p, Cov mk p → Cov ms p := fun p c => (cM p).mpr ⟨ok_cov hok p ((cK p).mp c), by
        obtain ⟨x, hx, a1, a2⟩ := (cK p).mp c
        exact ⟨x, hx, by show x.1 ≤ p + ar; omega, by show p ≤ x.2 + ar; omega⟩⟩
      refine for_list (xs := (fs.take mo).map V.ref) (fun i σ H' => ∃ (us : List Addr) (o7 o8 o9 o11 o12 : Option V), σ = [some (.str z), some (.ref a), some (.int (ar : Int)), some (.int (mo : Int)), some (.ref W), some (.ref ne), some (.ref mr), o7, o8, o9, some (.ref fo), o11, o12] ∧ Same H1 H' ∧ H' p3 = some (.lst ((fs.take mo).map V.ref)) ∧ Paired (TuA H') (fs.take mo) (ms.take mo) ∧ H' mr = some (.lst (mb.map V.bl)) ∧ H' fo = some (.lst (us.map V.ref)) ∧ Paired (PcB H H' fo) us (pcs ws ((ms.take mo).take i) mk) ∧ us.length = i) ?_ ?_ ?_ ?_
      · exact ⟨[], _, _, _, _, _, rfl, t5, e5, pT, eM5, eF5, .nil, rfl⟩
      · rintro i σ H' _ ⟨us, _, _, _, _, _, _, _, q, _⟩
        exact SqL.of q
      · rintro i v σ H' hv ⟨us, o7', o8, o9, o11, o12, rfl, sm', e3', pT', eMr, eFo, pU, hul⟩
        rw [List.getElem?_map] at hv
        cases hpi : (fs.take mo)[i]? with
        | none => rw [hpi] at hv; cases hv
        | some q =>
          rw [hpi] at hv
          have hv' : v = .ref q := (Option.some.inj hv).symm
          subst hv'
          obtain ⟨r, hri, hq⟩ := paired_get pT' hpi
          have hrm : r ∈ ms := List.mem_of_mem_take (List.mem_of_getElem? hri)
          have okr := okm r hrm
          have hi1000 : i < 1000 := by
            have h1 := (List.getElem?_eq_some_iff.mp hri).1
            rw [List.length_take] at h1
            omega
          refine ⟨q, _, rfl, SqT.of hq, rfl, _, _, rfl, _, _, rfl, rfl, ?_⟩
          refine ⟨_, rfl, W, _, rfl, .inl (SqL.of (sm' _ _ eW)), _, rfl, by omega, by omega, ?_⟩
          rw [Int.toNat_natCast, pl]
          refine comp_itr (fun j ys G => G = H' ∧ ∃ fb : List Bool, ys = fb.map V.bl ∧ Lk fb (fun p => Cov rs p ∧ r.1 ≤ p ∧ p ≤ r.2) j) (by omega) ⟨rfl, [], rfl, ⟨rfl, fun j b h => nomatch h⟩⟩ ?_ ?_
          · rintro j ys G N hj ⟨rfl, fb, rfl, kF⟩ hN
            refine g1 ?_
            rw [Int.zero_add]
            have hmj : mb[j]? = some mb[j] := List.getElem?_eq_getElem (by omega)
            refine ⟨_, rfl, _, rfl, mr, _, _, .bl mb[j], rfl, rfl, SqL.of eMr, atI_nat (by rw [List.getElem?_map, hmj]; rfl), _, rfl, ?_⟩
            have hmc := kM.h j _ hmj
            have fin : ∀ b, (b = true ↔ Cov rs j ∧ r.1 ≤ j ∧ j ≤ r.2) → N (fb.map V.bl ++ [V.bl b]) G := fun b hb => hN _ _ ⟨rfl, fb ++ [b], by rw [List.map_append]; rfl, kF.add hb⟩
            cases hbv : mb[j] with
            | false =>
              rw [hbv] at hmc
              exact iteF (fin false ⟨(fun h => by cases h), fun h => hmc.mpr h.1⟩)
            | true =>
              rw [hbv] at hmc
              refine iteT ⟨_, rfl, _, rfl, _, _, rfl, rfl, _, rfl, ?_⟩
              by_cases h1 : r.1 ≤ j
              · rw [decide_eq_true (show (r.1 : Int) ≤ (j : Int) by omega)]
                refine iteT ⟨_, rfl, _, _, rfl, rfl, ?_⟩
                exact fin _ ⟨fun h => ⟨hmc.mp rfl, h1, by have := of_decide_eq_true h; omega⟩, fun h => decide_eq_true (by omega)⟩
              · rw [decide_eq_false (show ¬ (r.1 : Int) ≤ (j : Int) by omega)]
                exact iteF (fin false ⟨(fun h => by cases h), fun h => absurd h.2.1 h1⟩)
          rintro ys G ⟨rfl, fb, rfl, kF⟩ _ u hu
          have fl := kF.l
          have s6 := same_upd (o := .lst (fb.map V.bl)) hu
          have e6 : upd G u (.lst (fb.map V.bl)) u = some (.lst (fb.map V.bl)) := upd_same
          have t6 := sm'.trans s6
          generalize upd G u (.lst (fb.map V.bl)) = H6 at s6 e6 t6 ⊢
          refine ⟨_, rfl, u, fb, rfl, e6, by omega, fun p6 H7 acc s7 hp6 hA plA lA => ?_⟩
          have eqA : acc = mks mk r := WN.Rs.uniq plA.r (WN.mks_rs rK r) fun p => by
            rw [plA.c p, WN.mks_cov rK rM hrm kc p, cK p]
            exact ⟨fun q => ((kF.iff p).mp q.2).2, fun q => ⟨by rw [fl]; exact ok_cov hok p q.1, (kF.iff p).mpr ⟨ok_cov hok p q.1, q⟩⟩⟩
          have okA : ∀ x ∈ acc, Okp ws.length x := rs_ok plA.r (fun p c => by have := ((plA.c p).mp c).1; omega)
          obtain ⟨as', eA7, pA7⟩ := hA.ex
          have alen := Paired.len pA7
          refine ⟨p6, rfl, ⟨_, SqL.of eA7⟩, ?_⟩
          have hW7 : WL H7 W ws := ⟨ps, (t6.trans s7) _ _ eW, Paired.imp2 pW fun _ _ q => (t6.trans s7) _ _ q⟩
          refine comp_itl (xs := as'.map V.ref) (fun j ys G' => Same H7 G' ∧ ∃ vs', ys = vs'.map V.ref ∧ Paired (TuA G') vs' ((acc.take j).map (sg ws))) (by rw [List.length_map]; omega) (fun j ys G' q => SqL.of (q.1 _ _ eA7)) ⟨fun _ _ h => h, [], rfl, .nil⟩ ?_ ?_
          · rintro j v' ys G' N hv' ⟨smG, vs', rfl, pV⟩ hN
            rw [List.getElem?_map] at hv'
            cases hpj : as'[j]? with
            | none => rw [hpj] at hv'; cases hv'
            | some q' =>
              rw [hpj] at hv'
              have hv2 : v' = .ref q' := (Option.some.inj hv').symm
              subst hv2
              obtain ⟨x, hxj, hx⟩ := paired_get pA7 hpj
              obtain ⟨x1, x2⟩ := okA x (List.mem_of_getElem? hxj)
              obtain ⟨xs1, q1, b1, b2, b3⟩ := (hW7.same smG).at (show x.1 < ws.length by omega)
              obtain ⟨xs2, q2, d1, d2, d3⟩ := (hW7.same smG).at x2
              refine ⟨q', _, rfl, SqT.of (smG _ _ hx), rfl, _, _, rfl, _, _, rfl, rfl, ?_⟩
              refine ⟨_, rfl, _, rfl, W, _, _, .ref q1, rfl, rfl, SqL.of b1, b2, q1, _, _, _, rfl, rfl, SqT.of b3, atI_nat (j := 1) rfl, _, rfl, _, rfl, W, _, _, .ref q2, rfl, rfl, SqL.of d1, d2, q2, _, _, _, rfl, rfl, SqT.of d3, atI_nat (j := 2) rfl, (by show 2 ≤ sizeLine; omega), fun t ht => ?_⟩
              have s8 := same_upd (o := tSg ws x) ht
              refine hN _ _ ⟨smG.trans s8, vs' ++ [t], by rw [List.map_append]; rfl, ?_⟩
              rw [List.take_add_one, hxj, List.map_append]
              exact Paired.app (Paired.imp2 pV fun _ _ q => s8 _ _ q) upd_same
          rintro ys G' ⟨smG, vs', rfl, pV⟩ _ l hl'
          have ll : (as'.map V.ref).length = acc.length := by rw [List.length_map, alen]
          rw [ll, List.take_of_length_le (Nat.le_refl _)] at pV
          have s9 := same_upd (o := .lst (vs'.map V.ref)) hl'
          have hL9 : PrL (upd G' l (.lst (vs'.map V.ref))) l (acc.map (sg ws)) := ⟨vs', upd_same, Paired.imp2 pV fun _ _ q => s9 _ _ q⟩
          have u9 := (s6.trans s7).trans (smG.trans s9)
          have t9 := sm'.trans u9
          have nlf : l ≠ fo := fun z => by rw [z] at hl'; rw [smG _ _ (s7 _ _ (s6 _ _ eFo))] at hl'; cases hl'
          have hl0 : H l = none := (s1.trans (sm'.trans (s6.trans (s7.trans smG)))).free hl'
          generalize upd G' l (.lst (vs'.map V.ref)) = H9 at s9 hL9 u9 t9 ⊢
          have hW9 : WL H9 W ws := ⟨ps, t9 _ _ eW, Paired.imp2 pW fun _ _ q => t9 _ _ q⟩
          have eFo9 := u9 _ _ eFo
          have okr1 := okr.1
          obtain ⟨xs1, q1, b1, b2, b3⟩ := hW9.at (show r.1 < ws.length by have := okr.2; omega)
          obtain ⟨xs2, q2, d1, d2, d3⟩ := hW9.at okr.2
          refine ⟨_, rfl, .inl ⟨rfl, _, SqL.of eFo9⟩, _, rfl, _, rfl, W, _, _, .ref q1, rfl, rfl, SqL.of b1, b2, q1, _, _, _, rfl, rfl, SqT.of b3, atI_nat (j := 1) rfl, _, rfl, _, rfl, W, _, _, .ref q2, rfl, rfl, SqL.of d1, d2, q2, _, _, _, rfl, rfl, SqT.of d3, atI_nat (j := 2) rfl, _, rfl, (by show 3 ≤ sizeLine; omega), fun t ht => ?_⟩
          have sT := same_upd (o := .tup [.int ((sg ws r).1 : Int), .int ((sg ws r).2 : Int), .ref l]) ht
          have eFoT := sT _ _ eFo9
          refine ⟨fo, _, _, rfl, rfl, eFoT, by rw [List.length_map]; omega, ?_⟩
          have new : PcB H (upd H9 t (.tup [.int ((sg ws r).1 : Int), .int ((sg ws r).2 : Int), .ref l])) fo t ((sg ws r).1, (sg ws r).2, (mks mk r).map (sg ws)) := ⟨l, upd_same, by rw [← eqA]; exact hL9.same sT, hl0, nlf⟩
          have pU' := Paired.app (Paired.imp2 pU fun _ _ q => (q.same u9).same sT) new
          have tk : pcs ws ((ms.take mo).take (i + 1)) mk = pcs ws ((ms.take mo).take i) mk ++ [((sg ws r).1, (sg ws r).2, (mks mk r).map (sg ws))] := by
            unfold pcs
            rw [List.take_add_one, hri, List.map_append]
            rfl
          refine ⟨us ++ [t], _, _, _, _, _, rfl, same_put (t9.trans sT) hfo1, ?_, ?_, ?_, by rw [List.map_append]; exact upd_same, by rw [tk]; exact Paired.imp2 pU' fun _ _ q => q.put eFoT, by rw [List.length_append, hul]; rfl⟩
          · rw [upd_ne (Ne.symm nf3)]; exact sT _ _ (u9 _ _ e3')
          · exact Paired.imp2 pT' fun _ _ q => TuA.upd (sT _ _ (u9 _ _ q)) eFoT
          · rw [upd_ne nmf]; exact sT _ _ (u9 _ _ eMr)
      · rintro σ H' ⟨us, o7', o8, o9, o11, o12, rfl, sm', e3', pT', eMr, eFo, pU, hul⟩
        have ll : ((fs.take mo).map V.ref).length = (ms.take mo).length := by rw [List.length_map, Paired.len pT']
        rw [ll, List.take_of_length_le (Nat.le_refl _)] at pU
        exact ⟨_, rfl, kk ms mk rM cM rK cK (by omega) fo H' (s1.trans sm') (s1.free hfo1) (PcB.lst eFo pU)⟩
end
end K23
set_option Elab.async false
set_option linter.all false
set_option maxRecDepth 100000
set_option maxHeartbeats 4000000
namespace L2
open PySem PySem.Spec PyProof.Rows
theorem dt_bools {K : PySem.W.Frag} {H : Hp} : ∀ (ns : List Bool), DtVs K H (ns.map V.bl) (ns.map PyData.bool)
  | [] => .nil
  | n :: ns => .cons (.bl n) (dt_bools ns)
theorem has_bools : ∀ (ns : List Bool), (ns.map PyData.bool).all Shape.bool.has = true
  | [] => rfl
  | n :: ns => by rw [List.map_cons, List.all_cons, has_bools ns]; rfl
section
variable {X : Cx}
theorem mt_countB : MtR X "list.count" (fun x xs H Q => ∃ (p : Addr) (bs : List Bool) (k : Bool), x = .ref p ∧ xs = [.bl k] ∧ SqL X.K H p (bs.map V.bl) ∧ Q (.int (Spec.countIn (.bool k) (bs.map PyData.bool))) H) := by
  intro pins s σ H x xs v us Q I rx rs h
  obtain ⟨p, bs, k, rfl, rfl, hq, q⟩ := h
  cases rx
  obtain ⟨u, rfl, r1⟩ := vals1 rs
  cases r1
  obtain ⟨its, r, pl, _⟩ := I.list hq
  obtain ⟨as, ra⟩ := DtVs.reads I (dt_bools (K := X.K) (H := H) bs) r
  exact count_list_bools pl.isList ra (has_bools bs) ⟨.int _, H, I.tok _, ⟨_, rfl⟩, q⟩
theorem mt_indexB : MtR X "list.index" (fun x xs H Q => ∃ (p : Addr) (bs : List Bool) (k : Bool) (j : Nat), x = .ref p ∧ xs = [.bl k] ∧ SqL X.K H p (bs.map V.bl) ∧ j < 1000 ∧ bs[j]? = some k ∧ (∀ m, m < j → bs[m]? ≠ some k) ∧ Q (.int j) H) := by
  intro pins s σ H x xs v us Q I rx rs h
  obtain ⟨p, bs, k, j, rfl, rfl, hq, hj, hit, hno, q⟩ := h
  cases rx
  obtain ⟨u, rfl, r1⟩ := vals1 rs
  cases r1
  obtain ⟨its, r, pl, _⟩ := I.list hq
  obtain ⟨as, ra⟩ := DtVs.reads I (dt_bools (K := X.K) (H := H) bs) r
  obtain ⟨⟨cls, dd, data, sl⟩, ho, hc, n, hd⟩ := pl.isList
  simp only at hc hd
  subst hc hd
  have hlen := r.length
  rw [List.length_map] at hlen
  have hjl : j < its.length := by
    rw [← hlen]
    exact (List.getElem?_eq_some_iff.mp hit).1
  refine call_meets PySem.F.slot_list_index ⟨_, ho, rfl⟩ PySem.F.entry_list_index (PySem.F.args_list_index_2 _ _)
    (SeqAt.list_indexAt p its.toArray n dd sl (.bool k) (isBoolOf k) j (by simpa using hjl) (by omega) ?_ ?_) ⟨ho, fun y hy => eq_isBoolOf k ra (has_bools bs) y (by simpa using hy) _ _, ⟨.int _, H, I.tok _, ⟨_, rfl⟩, q⟩⟩
  · show isBoolOf k its[j] = true
    obtain ⟨b, e1, e2⟩ := boolsAre_get r j its[j] (List.getElem?_eq_getElem hjl)
    rw [hit] at e1
    rw [e2, ← Option.some.inj e1]
    exact beq_self_eq_true k
  · intro m hm hlt
    have hm' : m < its.length := by simpa using hm
    show isBoolOf k its[m] = false
    obtain ⟨b, e1, e2⟩ := boolsAre_get r m its[m] (List.getElem?_eq_getElem hm')
    rw [e2]
    refine beq_eq_false_iff_ne.mpr fun z => hno m hlt ?_
    rw [e1, z]
end
end L2
namespace K23
open PySem L2 PyProof.Rows PySem.Spec Gn K01
open WN (Cov Rs Mg Pl win Okp near mks sg pcs Pc inW)
section
variable {P : Program} {w : World} {K : PySem.W.Frag} {mg : Str → Option Value} {base : Heap} {CN CS : Addr}
variable {CH CT : Addr} {cs : Nat → Addr}
structure Cl (mg : Str → Option Value) (CH : Addr) (cs : Nat → Addr) : Prop where
  h : mg "HallError" = some (.ref CH)
  m0 : mg "BadText" = some (.ref (cs 0))
  m1 : mg "BadNumber" = some (.ref (cs 1))
  m2 : mg "BadSpan" = some (.ref (cs 2))
  m3 : mg "BadAsk" = some (.ref (cs 3))
  m4 : mg "BadKept" = some (.ref (cs 4))
  m5 : mg "BadKey" = some (.ref (cs 5))
  m6 : mg "BadParts" = some (.ref (cs 6))
  m7 : mg "BadRow" = some (.ref (cs 7))
  m8 : mg "BadWord" = some (.ref (cs 8))
  m9 : mg "NoAsk" = some (.ref (cs 9))
  m10 : mg "NoLine" = some (.ref (cs 10))
  m11 : mg "NoText" = some (.ref (cs 11))
  m12 : mg "Twice" = some (.ref (cs 12))
structure CF (K : PySem.W.Frag) (CH : Addr) (cs : Nat → Addr) (i : Nat) : Prop where
  x : PySem.W.ExcCls K (cs i)
  k : ∀ j, j < 13 → PySem.W.kitOne K (.ref (cs i)) (.ref (cs j)) = some (decide (i = j))
  v : PySem.W.kitOne K (.ref (cs i)) (.type "ValueError") = some true
  e : PySem.W.exmOne K (.ref (cs i)) (.ref CH) = some true
  lt : i < 3
noncomputable def bs3 (i : Nat) : List Bool := [decide (i = 0), decide (i = 1), decide (i = 2)]
theorem cnt3 : ∀ i, i < 3 → Spec.countIn (.bool true) ((bs3 i).map PyData.bool) = 1 := by decide
theorem at3 : ∀ i, i < 3 → (bs3 i)[i]? = some true := by decide
theorem no3 : ∀ i, i < 3 → ∀ m, m < i → (bs3 i)[m]? ≠ some true := by decide
noncomputable def nmL : List Str := ["text", "number", "span"]
noncomputable def nmF (i : Nat) : Str := nmL.getD i ""
theorem nm_at : ∀ i, i < 3 → (nmL.map V.str)[i]? = some (.str (nmF i)) := fun i hi => by
  rw [List.getElem?_map]
  have : i < nmL.length := hi
  unfold nmF
  rw [List.getD_eq_getElem?_getD, List.getElem?_eq_getElem this]
  rfl
theorem noO : ∀ i, i < 3 → inV (.bl true) [V.bl (decide (i = 3)), V.bl (decide (i = 4)), V.bl (decide (i = 5)), V.bl (decide (i = 6)), V.bl (decide (i = 7)), V.bl (decide (i = 8)), V.bl (decide (i = 9)), V.bl (decide (i = 10)), V.bl (decide (i = 11)), V.bl (decide (i = 12))] = false := by
  intro i hi
  have h : i = 0 ∨ i = 1 ∨ i = 2 := by omega
  rcases h with rfl | rfl | rfl
  · rfl
  · rfl
  · rfl
noncomputable def spCls (K : PySem.W.Frag) (CH : Addr) (cs : Nat → Addr) : List V → Hp → VK → Prop := fun vs H Q => ∃ (ea : Addr) (i : Nat), vs = [.ref ea] ∧ H ea = some (ExcO ea (cs i)) ∧ CF K CH cs i ∧ ∀ H', Same H H' → Q (.str (nmF i)) H'
theorem scCls : FnScope ["_law_e", "_law_found", "_law_others"] ["_law_e"] (defScope lCls) := ⟨rfl, rfl, rfl, by decide +kernel, rfl, by decide +kernel, by decide +kernel⟩
seal PSs PS PE PT PA PG PI PGs PIfs in
theorem ok_cls {f : Addr} {fd : FuncData} (D : Df K mg "_law_class" lCls f fd) (X : Cl mg CH cs) (T : Txt mg) : FnOkN P w K mg base 1 f fd ["_law_e"] (spCls K CH cs) := by
  refine D.F.okN scCls (fun vs H Q h => ?_) (fun cdv A outer s H vs Q hr h => ?_)
  · obtain ⟨ea, i, rfl, _⟩ := h
    rfl
  · obtain ⟨ea, i, rfl, hH, F, kk⟩ := h
    have hl : (sizeLine : Nat) = 16777216 := sizeLine_eq
    refine ⟨_, (pss_cons (ps_set (i := 1) scCls.nd rfl (Or.inl rfl) (pe_lst (pa_cons (pe_callB call_isiE rfl T.isi b_isi (pa_cons (pv 0) (pa_cons (pe_glob (v := .ref (cs 0)) rfl X.m0 rfl) pa_nil))) (pa_cons (pe_callB call_isiE rfl T.isi b_isi (pa_cons (pv 0) (pa_cons (pe_glob (v := .ref (cs 1)) rfl X.m1 rfl) pa_nil))) (pa_cons (pe_callB call_isiE rfl T.isi b_isi (pa_cons (pv 0) (pa_cons (pe_glob (v := .ref (cs 2)) rfl X.m2 rfl) pa_nil))) pa_nil)))))
      (pss_cons (ps_set (i := 2) scCls.nd rfl (Or.inl rfl) (pe_lst (pa_cons (pe_callB call_isiE rfl T.isi b_isi (pa_cons (pv 0) (pa_cons (pe_glob (v := .ref (cs 3)) rfl X.m3 rfl) pa_nil))) (pa_cons (pe_callB call_isiE rfl T.isi b_isi (pa_cons (pv 0) (pa_cons (pe_glob (v := .ref (cs 4)) rfl X.m4 rfl) pa_nil))) (pa_cons (pe_callB call_isiE rfl T.isi b_isi (pa_cons (pv 0) (pa_cons (pe_glob (v := .ref (cs 5)) rfl X.m5 rfl) pa_nil))) (pa_cons (pe_callB call_isiE rfl T.isi b_isi (pa_cons (pv 0) (pa_cons (pe_glob (v := .ref (cs 6)) rfl X.m6 rfl) pa_nil))) pa_nil))))))
      (pss_cons (ps_set (i := 2) scCls.nd rfl (Or.inl rfl) (pe_op op_cat (pv 2) (pe_lst (pa_cons (pe_callB call_isiE rfl T.isi b_isi (pa_cons (pv 0) (pa_cons (pe_glob (v := .ref (cs 7)) rfl X.m7 rfl) pa_nil))) (pa_cons (pe_callB call_isiE rfl T.isi b_isi (pa_cons (pv 0) (pa_cons (pe_glob (v := .ref (cs 8)) rfl X.m8 rfl) pa_nil))) (pa_cons (pe_callB call_isiE rfl T.isi b_isi (pa_cons (pv 0) (pa_cons (pe_glob (v := .ref (cs 9)) rfl X.m9 rfl) pa_nil))) (pa_cons (pe_callB call_isiE rfl T.isi b_isi (pa_cons (pv 0) (pa_cons (pe_glob (v := .ref (cs 10)) rfl X.m10 rfl) pa_nil))) pa_nil)))))))
      (pss_cons (ps_set (i := 2) scCls.nd rfl (Or.inl rfl) (pe_op op_cat (pv 2) (pe_lst (pa_cons (pe_callB call_isiE rfl T.isi b_isi (pa_cons (pv 0) (pa_cons (pe_glob (v := .ref (cs 11)) rfl X.m11 rfl) pa_nil))) (pa_cons (pe_callB call_isiE rfl T.isi b_isi (pa_cons (pv 0) (pa_cons (pe_glob (v := .ref (cs 12)) rfl X.m12 rfl) pa_nil))) pa_nil)))))
      (pss_cons (ps_if (PW.pt (pw_or (pt_cmpR op_ne (pe_bm PySem.F.plainAttrs_list PySem.F.slot_list_count PySem.F.type_list_count mt_countB (pv 1) (pa_cons pe_bl pa_nil)) pe_int (nomark _)) (pw_or (pt_not (pt_val (pe_callB call_isiE rfl T.isi b_isi (pa_cons (pv 0) (pa_cons (pe_bltn (v := .ty "ValueError") rfl T.val b_val rfl) pa_nil))))) (pw_or1 (pt_cmpR op_in_seq pe_bl (pv 2) (by with_unfolding_all rfl)))))) (pss_one (ps_ret pe_str)) pss_nil)
      (pss_one (ps_ret (pe_ix ix_list (pe_lst (pa_cons pe_str (pa_cons pe_str (pa_cons pe_str pa_nil)))) (pe_bm PySem.F.plainAttrs_list PySem.F.slot_list_index PySem.F.type_list_index mt_indexB (pv 1) (pa_cons pe_bl pa_nil)) (fun _ _ => rfl))))))))), ?_⟩
    refine ⟨_, rfl, ea, cs i, _, _, rfl, hH, F.x, .inr (.inl ⟨_, rfl, F.k 0 (by decide)⟩), _, rfl, ea, cs i, _, _, rfl, hH, F.x, .inr (.inl ⟨_, rfl, F.k 1 (by decide)⟩), _, rfl, ea, cs i, _, _, rfl, hH, F.x, .inr (.inl ⟨_, rfl, F.k 2 (by decide)⟩), (by show 3 ≤ sizeLine; omega), fun p hp => ?_⟩
    have s1 : Same H (upd H p (.lst ((bs3 i).map V.bl))) := same_upd hp
    have h1 : upd H p (.lst ((bs3 i).map V.bl)) p = _ := upd_same
    change tSeq _ _ _ _ (upd H p (.lst ((bs3 i).map V.bl)))
    generalize upd H p (.lst ((bs3 i).map V.bl)) = H1 at s1 h1
    have e1 := s1 _ _ hH
    refine ⟨_, rfl, ea, cs i, _, _, rfl, e1, F.x, .inr (.inl ⟨_, rfl, F.k 3 (by decide)⟩), _, rfl, ea, cs i, _, _, rfl, e1, F.x, .inr (.inl ⟨_, rfl, F.k 4 (by decide)⟩), _, rfl, ea, cs i, _, _, rfl, e1, F.x, .inr (.inl ⟨_, rfl, F.k 5 (by decide)⟩), _, rfl, ea, cs i, _, _, rfl, e1, F.x, .inr (.inl ⟨_, rfl, F.k 6 (by decide)⟩), (by show 4 ≤ sizeLine; omega), fun q hq => ?_⟩
    have s2 : Same H (upd H1 q (.lst [V.bl (decide (i = 3)), V.bl (decide (i = 4)), V.bl (decide (i = 5)), V.bl (decide (i = 6))])) := s1.trans (same_upd hq)
    have h2 : upd H1 q (.lst [V.bl (decide (i = 3)), V.bl (decide (i = 4)), V.bl (decide (i = 5)), V.bl (decide (i = 6))]) p = _ := same_upd hq _ _ h1
    have g2 : upd H1 q (.lst [V.bl (decide (i = 3)), V.bl (decide (i = 4)), V.bl (decide (i = 5)), V.bl (decide (i = 6))]) q = _ := upd_same
    change tSeq _ _ _ _ (upd H1 q (.lst [V.bl (decide (i = 3)), V.bl (decide (i = 4)), V.bl (decide (i = 5)), V.bl (decide (i = 6))]))
    generalize upd H1 q (.lst [V.bl (decide (i = 3)), V.bl (decide (i = 4)), V.bl (decide (i = 5)), V.bl (decide (i = 6))]) = H2 at s2 h2 g2
    have e2 := s2 _ _ hH
    refine ⟨_, rfl, _, rfl, ea, cs i, _, _, rfl, e2, F.x, .inr (.inl ⟨_, rfl, F.k 7 (by decide)⟩), _, rfl, ea, cs i, _, _, rfl, e2, F.x, .inr (.inl ⟨_, rfl, F.k 8 (by decide)⟩), _, rfl, ea, cs i, _, _, rfl, e2, F.x, .inr (.inl ⟨_, rfl, F.k 9 (by decide)⟩), _, rfl, ea, cs i, _, _, rfl, e2, F.x, .inr (.inl ⟨_, rfl, F.k 10 (by decide)⟩), (by show 4 ≤ sizeLine; omega), fun q3 hq3 => ?_⟩
    refine ⟨q, q3, _, _, rfl, rfl, same_upd hq3 _ _ g2, upd_same, (by show 4 + 4 ≤ sizeLine; omega), fun r3 hr3 => ?_⟩
    have s3 : Same H (upd (upd H2 q3 (.lst [V.bl (decide (i = 7)), V.bl (decide (i = 8)), V.bl (decide (i = 9)), V.bl (decide (i = 10))])) r3 (.lst [V.bl (decide (i = 3)), V.bl (decide (i = 4)), V.bl (decide (i = 5)), V.bl (decide (i = 6)), V.bl (decide (i = 7)), V.bl (decide (i = 8)), V.bl (decide (i = 9)), V.bl (decide (i = 10))])) := (s2.trans (same_upd hq3)).trans (same_upd hr3)
    have h3 : upd (upd H2 q3 (.lst [V.bl (decide (i = 7)), V.bl (decide (i = 8)), V.bl (decide (i = 9)), V.bl (decide (i = 10))])) r3 (.lst [V.bl (decide (i = 3)), V.bl (decide (i = 4)), V.bl (decide (i = 5)), V.bl (decide (i = 6)), V.bl (decide (i = 7)), V.bl (decide (i = 8)), V.bl (decide (i = 9)), V.bl (decide (i = 10))]) p = _ := same_upd hr3 _ _ (same_upd hq3 _ _ h2)
    have g3 : upd (upd H2 q3 (.lst [V.bl (decide (i = 7)), V.bl (decide (i = 8)), V.bl (decide (i = 9)), V.bl (decide (i = 10))])) r3 (.lst [V.bl (decide (i = 3)), V.bl (decide (i = 4)), V.bl (decide (i = 5)), V.bl (decide (i = 6)), V.bl (decide (i = 7)), V.bl (decide (i = 8)), V.bl (decide (i = 9)), V.bl (decide (i = 10))]) r3 = _ := upd_same
    change tSeq _ _ _ _ (upd (upd H2 q3 (.lst [V.bl (decide (i = 7)), V.bl (decide (i = 8)), V.bl (decide (i = 9)), V.bl (decide (i = 10))])) r3 (.lst [V.bl (decide (i = 3)), V.bl (decide (i = 4)), V.bl (decide (i = 5)), V.bl (decide (i = 6)), V.bl (decide (i = 7)), V.bl (decide (i = 8)), V.bl (decide (i = 9)), V.bl (decide (i = 10))]))
    generalize upd (upd H2 q3 (.lst [V.bl (decide (i = 7)), V.bl (decide (i = 8)), V.bl (decide (i = 9)), V.bl (decide (i = 10))])) r3 (.lst [V.bl (decide (i = 3)), V.bl (decide (i = 4)), V.bl (decide (i = 5)), V.bl (decide (i = 6)), V.bl (decide (i = 7)), V.bl (decide (i = 8)), V.bl (decide (i = 9)), V.bl (decide (i = 10))]) = H3 at s3 h3 g3
    have e3 := s3 _ _ hH
    refine ⟨_, rfl, _, rfl, ea, cs i, _, _, rfl, e3, F.x, .inr (.inl ⟨_, rfl, F.k 11 (by decide)⟩), _, rfl, ea, cs i, _, _, rfl, e3, F.x, .inr (.inl ⟨_, rfl, F.k 12 (by decide)⟩), (by show 2 ≤ sizeLine; omega), fun q4 hq4 => ?_⟩
    refine ⟨r3, q4, _, _, rfl, rfl, same_upd hq4 _ _ g3, upd_same, (by show 8 + 2 ≤ sizeLine; omega), fun r4 hr4 => ?_⟩
    have s4 : Same H (upd (upd H3 q4 (.lst [V.bl (decide (i = 11)), V.bl (decide (i = 12))])) r4 (.lst [V.bl (decide (i = 3)), V.bl (decide (i = 4)), V.bl (decide (i = 5)), V.bl (decide (i = 6)), V.bl (decide (i = 7)), V.bl (decide (i = 8)), V.bl (decide (i = 9)), V.bl (decide (i = 10)), V.bl (decide (i = 11)), V.bl (decide (i = 12))])) := (s3.trans (same_upd hq4)).trans (same_upd hr4)
    have h4 : upd (upd H3 q4 (.lst [V.bl (decide (i = 11)), V.bl (decide (i = 12))])) r4 (.lst [V.bl (decide (i = 3)), V.bl (decide (i = 4)), V.bl (decide (i = 5)), V.bl (decide (i = 6)), V.bl (decide (i = 7)), V.bl (decide (i = 8)), V.bl (decide (i = 9)), V.bl (decide (i = 10)), V.bl (decide (i = 11)), V.bl (decide (i = 12))]) p = _ := same_upd hr4 _ _ (same_upd hq4 _ _ h3)
    have g4 : upd (upd H3 q4 (.lst [V.bl (decide (i = 11)), V.bl (decide (i = 12))])) r4 (.lst [V.bl (decide (i = 3)), V.bl (decide (i = 4)), V.bl (decide (i = 5)), V.bl (decide (i = 6)), V.bl (decide (i = 7)), V.bl (decide (i = 8)), V.bl (decide (i = 9)), V.bl (decide (i = 10)), V.bl (decide (i = 11)), V.bl (decide (i = 12))]) r4 = _ := upd_same
    change tSeq _ _ _ _ (upd (upd H3 q4 (.lst [V.bl (decide (i = 11)), V.bl (decide (i = 12))])) r4 (.lst [V.bl (decide (i = 3)), V.bl (decide (i = 4)), V.bl (decide (i = 5)), V.bl (decide (i = 6)), V.bl (decide (i = 7)), V.bl (decide (i = 8)), V.bl (decide (i = 9)), V.bl (decide (i = 10)), V.bl (decide (i = 11)), V.bl (decide (i = 12))]))
    generalize upd (upd H3 q4 (.lst [V.bl (decide (i = 11)), V.bl (decide (i = 12))])) r4 (.lst [V.bl (decide (i = 3)), V.bl (decide (i = 4)), V.bl (decide (i = 5)), V.bl (decide (i = 6)), V.bl (decide (i = 7)), V.bl (decide (i = 8)), V.bl (decide (i = 9)), V.bl (decide (i = 10)), V.bl (decide (i = 11)), V.bl (decide (i = 12))]) = H4 at s4 h4 g4
    refine ⟨_, rfl, .inl ⟨rfl, _, SqL.of h4⟩, p, bs3 i, true, rfl, rfl, SqL.of h4, ?_⟩
    rw [cnt3 i F.lt]
    refine ⟨rfl, _, rfl, iteF ?_⟩
    refine ⟨_, rfl, ea, cs i, _, _, rfl, s4 _ _ hH, F.x, .inl ⟨_, rfl, F.v⟩, _, rfl, iteF ?_⟩
    refine ⟨_, rfl, r4, _, rfl, .inl (SqL.of g4), rfl, rfl, ?_⟩
    refine ⟨false, congrArg V.bl (noO i F.lt), iteF ⟨(by show 3 ≤ sizeLine; omega), fun z hz => ?_⟩⟩
    have s5 : Same H (upd H4 z (.lst (nmL.map V.str))) := s4.trans (same_upd hz)
    have h5 : upd H4 z (.lst (nmL.map V.str)) p = some (.lst ((bs3 i).map V.bl)) := same_upd hz _ _ h4
    exact ⟨_, rfl, .inl ⟨rfl, _, SqL.of h5⟩, p, bs3 i, true, i, rfl, rfl, SqL.of h5, Nat.lt_trans F.lt (by decide), at3 i F.lt, no3 i F.lt, z, _, _, _, rfl, rfl, SqL.of upd_same, atI_nat (nm_at i F.lt), kk _ s5⟩
theorem fit_drawn {z : Str} (h : Drawn z) : Fit (.str z) := fun y e => by injection e with e; rw [← e]; exact Nat.le_trans h.1 (by decide)
noncomputable def spAk : Sp := fun vs H Q _ => ∃ (wy : Nat) (z : Str) (a : Addr) (ar mo : Nat) (rs : List (Nat × Nat)), vs = [.int wy, .str z, .ref a, .int ar, .int mo] ∧ (wy = 0 → ar = 3) ∧ (wy ≤ 1 → mo = 3) ∧ Drawn z ∧ PrL H a rs ∧ (∀ r ∈ rs, Okp (words (codes z)).length r) ∧ (words (codes z)).length ≤ 1000 ∧ rs.length < 64 ∧
  ∀ ms mk, Rs ms → (∀ p, Cov ms p ↔ p < (words (codes z)).length ∧ ∃ r ∈ rs, near ar r p) → Rs mk → (∀ p, Cov mk p ↔ Cov rs p) → ms.length ≤ 64 → mk.length ≤ 64 →
    ∀ p H', Same H H' → H p = none → PcL H H' p (pcs (words (codes z)) (ms.take mo) mk) → Q (.ref p) H'
theorem scAk : FnScope ["_law_way", "_law_text_here", "_law_spans_here", "_law_around", "_law_most"] ["_law_way", "_law_text_here", "_law_spans_here", "_law_around", "_law_most"] (defScope lAsked) := ⟨rfl, rfl, rfl, by decide +kernel, rfl, by decide +kernel, by decide +kernel⟩
seal PSs PS PE PT PA PG PI PGs PIfs in
theorem ok_ak {f fp : Addr} {fd fdp : FuncData} {t1 t2 : Tok} (D : Df K mg "_law_asked" lAsked f fd) (DP : DfD K mg "pieces_of" sPs fp fdp #[.int 3 t1, .int 3 t2]) (GP : FnOk P w K mg base (CX1 P w) 5 fp fdp ["text", "spans", "around", "most"] (spPs K CT CN CS)) : FnOk P w K mg base CX0 6 f fd ["_law_way", "_law_text_here", "_law_spans_here", "_law_around", "_law_most"] spAk := by
  have b2 := DP.binds (ps := ["text", "spans", "around", "most"]) (ds := [.int 3 t1, .int 3 t2]) fun T kV doc pm an cdv ct us hl => match us, (show us.length = 2 by simpa using hl) with | [_, _], _ => ⟨_, rfl, rfl⟩
  have b3 := DP.binds (ps := ["text", "spans", "around", "most"]) (ds := [.int 3 t2]) fun T kV doc pm an cdv ct us hl => match us, (show us.length = 3 by simpa using hl) with | [_, _, _], _ => ⟨_, rfl, rfl⟩
  have b4 := DP.binds (ps := ["text", "spans", "around", "most"]) (ds := []) fun T kV doc pm an cdv ct us hl => match us, (show us.length = 4 by simpa using hl) with | [_, _, _, _], _ => ⟨_, rfl, rfl⟩
  refine D.F.ok scAk (fun vs H Q E h => ?_) (fun cdv A outer s H vs Q E hr h => ?_)
  · obtain ⟨wy, z, a, ar, mo, rs, rfl, _⟩ := h
    rfl
  · obtain ⟨wy, z, a, ar, mo, rs, rfl, h0, h1, hd, hR, hok, hn, h64, kk⟩ := h
    refine ⟨_, (pss_cons (ps_if (pt_cmpR op_eq (pv 0) pe_int (nomark _)) (pss_one (ps_ret (pe_call GP hr rfl DP.m DP.kp b2 (dvs := [.int 3, .int 3]) (.cons ⟨t1, rfl⟩ (.cons ⟨t2, rfl⟩ .nil)) passN (pa_cons (pv 1) (pa_cons (pv 2) pa_nil))))) pss_nil)
      (pss_cons (ps_if (pt_cmpR op_eq (pv 0) pe_int (nomark _)) (pss_one (ps_ret (pe_call GP hr rfl DP.m DP.kp b3 (dvs := [.int 3]) (.cons ⟨t2, rfl⟩ .nil) passN (pa_cons (pv 1) (pa_cons (pv 2) (pa_cons (pv 3) pa_nil)))))) pss_nil)
      (pss_one (ps_ret (pe_call GP hr rfl DP.m DP.kp b4 (dvs := []) .nil passN (pa_cons (pv 1) (pa_cons (pv 2) (pa_cons (pv 3) (pa_cons (pv 4) pa_nil))))))))), ?_⟩
    refine ⟨_, rfl, rfl, _, rfl, ?_⟩
    by_cases e0 : wy = 0
    · rw [dec_i (show (wy : Int) = 0 by omega)]
      have ea := h0 e0
      have em := h1 (by omega)
      subst ea em
      exact iteT ⟨_, rfl, _, rfl, _, _, _, _, rfl, ⟨_, .str _⟩, fit_drawn hd, ⟨_, .int _⟩, ⟨_, .int _⟩, .inr ⟨z, rfl, hd, .inr (.inr ⟨3, 3, rfl, rfl, .inr ⟨a, rs, rfl, hR, hok, hn, h64, kk⟩⟩)⟩⟩
    · rw [dec_n (show (wy : Int) ≠ 0 by omega)]
      refine iteF ⟨_, rfl, rfl, _, rfl, ?_⟩
      by_cases e1 : wy = 1
      · rw [dec_i (show (wy : Int) = 1 by omega)]
        have em := h1 (by omega)
        subst em
        exact iteT ⟨_, rfl, _, rfl, _, rfl, _, _, _, _, rfl, ⟨_, .str _⟩, fit_drawn hd, ⟨_, .int _⟩, ⟨_, .int _⟩, .inr ⟨z, rfl, hd, .inr (.inr ⟨ar, 3, rfl, rfl, .inr ⟨a, rs, rfl, hR, hok, hn, h64, kk⟩⟩)⟩⟩
      · rw [dec_n (show (wy : Int) ≠ 1 by omega)]
        exact iteF ⟨_, rfl, _, rfl, _, rfl, _, rfl, _, _, _, _, rfl, ⟨_, .str _⟩, fit_drawn hd, ⟨_, .int _⟩, ⟨_, .int _⟩, .inr ⟨z, rfl, hd, .inr (.inr ⟨ar, mo, rfl, rfl, .inr ⟨a, rs, rfl, hR, hok, hn, h64, kk⟩⟩)⟩⟩
end
end K23
set_option Elab.async false
set_option linter.all false
set_option maxRecDepth 100000
set_option maxHeartbeats 4000000
namespace K23
open PySem L2 PyProof.Rows PySem.Spec Gn K01
open WN (Cov Rs Mg Pl win Okp near mks sg pcs Pc inW)
section
variable {P : Program} {w : World} {K : PySem.W.Frag} {mg : Str → Option Value} {base : Heap} {CN CS : Addr}
theorem ndOne : (["_law_one"] : List Str).Nodup := by decide +kernel
noncomputable def spKi : Sp := fun vs H Q _ => ∃ (B : Hp) (a : Addr) (xs : List Pc), vs = [.ref a] ∧ PcL B H a xs ∧ xs.length ≤ 64 ∧ (∀ x ∈ xs, x.2.2.length ≤ 64) ∧ ∀ H', Same H H' → Q (.bl true) H'
theorem scKi : FnScope ["_law_found", "_law_piece", "_law_numbers", "_law_mark"] ["_law_found"] (defScope lKinds) := ⟨rfl, rfl, rfl, by decide +kernel, rfl, by decide +kernel, by decide +kernel⟩
seal PSs PS PE PT PA PG PI PGs PIfs in
theorem ok_ki {f : Addr} {fd : FuncData} (D : Df K mg "_law_kinds" lKinds f fd) (T : Txt mg) : FnOk P w K mg base CX0 1 f fd ["_law_found"] spKi := by
  refine D.F.ok scKi (fun vs H Q E h => ?_) (fun cdv A outer s H vs Q E hr h => ?_)
  · obtain ⟨_, a, xs, rfl, _⟩ := h
    rfl
  · obtain ⟨B, a, xs, rfl, hL, hl, hm, kk⟩ := h
    have hz : (sizeLine : Nat) = 16777216 := sizeLine_eq
    obtain ⟨qs, eA, pA, _⟩ := hL.ex
    have plen := Paired.len pA
    refine ⟨_, (pss_cons (ps_if (pt_not (pt_val (pe_callB (call_isiK (K := K) rfl) rfl T.isi b_isi (pa_cons (pv 0) (pa_cons (pe_bltn (v := .ty "list") rfl T.list b_list rfl) pa_nil))))) (pss_one (ps_ret pe_bl)) pss_nil)
      (pss_cons (ps_for PassesOwn.never rfl (pi_list (pv 0)) (pg_name (i := 1) scKi.nd rfl (Or.inl rfl)) (pss_cons (ps_if (PW.pt (pw_or (pt_not (pt_val (pe_callB (call_isiK (K := K) rfl) rfl T.isi b_isi (pa_cons (pv 1) (pa_cons (pe_bltn (v := .ty "tuple") rfl T.tuple b_tuple rfl) pa_nil))))) (pw_or (pt_cmpR op_ne (pe_callB call_len_seq rfl T.len b_len (pa_cons (pv 1) pa_nil)) pe_int (nomark _)) (pw_or1 (pt_not (pt_val (pe_callB (call_isiK (K := K) rfl) rfl T.isi b_isi (pa_cons (pe_ix ix_tup (pv 1) pe_int (fun _ _ => rfl)) (pa_cons (pe_bltn (v := .ty "list") rfl T.list b_list rfl) pa_nil))))))))) (pss_one (ps_ret pe_bl)) pss_nil)
      (pss_cons (ps_set (i := 2) scKi.nd rfl (Or.inl rfl) (pe_callTy call_list_of rfl T.list b_list (pa_cons (pe_slice sl_tup (pv 1) po_none (po_some pe_int)) pa_nil)))
      (pss_cons (ps_for PassesOwn.never rfl (pi_list (pe_ix ix_tup (pv 1) pe_int (fun _ _ => rfl))) (pg_name (i := 3) scKi.nd rfl (Or.inl rfl)) (pss_cons (ps_if (pt_not (pt_val (pe_callB (call_isiK (K := K) rfl) rfl T.isi b_isi (pa_cons (pv 3) (pa_cons (pe_bltn (v := .ty "tuple") rfl T.tuple b_tuple rfl) pa_nil))))) (pss_one (ps_ret pe_bl)) pss_nil)
      (pss_one (ps_set (i := 2) scKi.nd rfl (Or.inl rfl) (pe_op op_cat (pv 2) (pe_callTy call_list_of rfl T.list b_list (pa_cons (pv 3) pa_nil)))))))
      (pss_one (ps_if (pt_cmpR (op_neD hr.units100) (pe_comp (own := 1) (caps := []) (N := ["_law_one"]) (N0 := ["_law_found", "_law_piece", "_law_numbers", "_law_mark"]) (sc0 := defScope lKinds) rfl (pi_list (pv 2)) (fun _ _ _ => pg_name (i := 0) ndOne rfl (Or.inl rfl)) (fun _ _ _ => pf_one (PW.pt (pw_or (pt_val (pe_callB (call_isiK (K := K) rfl) rfl T.isi b_isi (pa_cons (pv 0) (pa_cons (pe_bltn (v := .ty "bool") rfl T.bool b_bool rfl) pa_nil)))) (pw_or1 (pt_not (pt_val (pe_callB (call_isiK (K := K) rfl) rfl T.isi b_isi (pa_cons (pv 0) (pa_cons (pe_bltn (v := .ty "int") rfl T.int b_int rfl) pa_nil))))))))) (fun _ _ _ => pv 0) (gk_name (by decide)) rfl rfl
        (by decide +kernel) rfl (by decide +kernel) (by decide +kernel) rfl (by decide +kernel)) (pe_lst pa_nil) (nomark _)) (pss_one (ps_ret pe_bl)) pss_nil))))))
      (pss_one (ps_ret pe_bl)))), ?_⟩
    refine ⟨_, rfl, .ref a, .ty "list", _, true, rfl, .lst eA, .inl ⟨_, rfl, kit_ll⟩, _, rfl, iteF ?_⟩
    refine ⟨_, rfl, a, rfl, ⟨_, SqL.of eA⟩, ?_⟩
    refine for_list (xs := qs.map V.ref) (fun i σ H' => (∃ o1 o2 o3, σ = [some (.ref a), o1, o2, o3]) ∧ Same H H') ⟨⟨none, none, none, rfl⟩, fun _ _ h => h⟩ (fun i σ H' _ q => SqL.of (q.2 _ _ eA)) ?_ ?_
    · rintro i v σ H' hv ⟨⟨o1, o2, o3, rfl⟩, sm⟩
      rw [List.getElem?_map] at hv
      cases hpi : qs[i]? with
      | none => rw [hpi] at hv; cases hv
      | some q =>
        rw [hpi] at hv
        have hv' : v = .ref q := (Option.some.inj hv).symm
        subst hv'
        obtain ⟨x, hxi, hx0⟩ := paired_get pA hpi
        obtain ⟨l, eQ, hP, _⟩ := hx0.same sm
        have hml := hm x (List.mem_of_getElem? hxi)
        obtain ⟨us, eL, pU⟩ := hP.ex
        have ulen := Paired.len pU
        refine ⟨_, rfl, .ref q, .ty "tuple", _, true, rfl, .tup eQ, .inl ⟨_, rfl, kit_tt⟩, _, rfl, iteF ?_⟩
        refine ⟨_, rfl, q, _, rfl, .inr (SqT.of eQ), rfl, _, rfl, iteF ?_⟩
        refine ⟨_, rfl, q, _, _, _, rfl, rfl, SqT.of eQ, atI_nat (j := 2) rfl, .ref l, .ty "list", _, true, rfl, .lst eL, .inl ⟨_, rfl, kit_ll⟩, _, rfl, iteF ?_⟩
        refine ⟨_, rfl, _, rfl, q, _, rfl, SqT.of eQ, (by show ¬ (HT.sIx 3 0 none = 0 ∧ HT.sIx 3 3 (some 2) = 3); decide), fun p1 hp1 => ?_⟩
        refine ⟨p1, _, rfl, .inr (SqT.of upd_same), fun nl hnl => ?_⟩
        have s1 : Same H' (upd (upd H' p1 (.tup [.int (x.1 : Int), .int (x.2.1 : Int)])) nl (.lst ([(x.1 : Int), (x.2.1 : Int)].map V.int))) := Same.upd (same_upd hp1) hnl
        have e1 : upd (upd H' p1 (.tup [.int (x.1 : Int), .int (x.2.1 : Int)])) nl (.lst ([(x.1 : Int), (x.2.1 : Int)].map V.int)) nl = some (.lst ([(x.1 : Int), (x.2.1 : Int)].map V.int)) := upd_same
        change gName 2 _ _ (upd (upd H' p1 (.tup [.int (x.1 : Int), .int (x.2.1 : Int)])) nl (.lst ([(x.1 : Int), (x.2.1 : Int)].map V.int))) _
        generalize upd (upd H' p1 (.tup [.int (x.1 : Int), .int (x.2.1 : Int)])) nl (.lst ([(x.1 : Int), (x.2.1 : Int)].map V.int)) = H1 at s1 e1 ⊢
        refine ⟨_, rfl, q, _, _, _, rfl, rfl, SqT.of (s1 _ _ eQ), atI_nat (j := 2) rfl, l, rfl, ⟨_, SqL.of (s1 _ _ eL)⟩, ?_⟩
        refine for_list (xs := us.map V.ref) (fun j σ H2 => ∃ (ns : List Int) (nl : Addr) (o3 : Option V), σ = [some (.ref a), some (.ref q), some (.ref nl), o3] ∧ Same H1 H2 ∧ H2 nl = some (.lst (ns.map V.int)) ∧ ns.length ≤ 2 + 2 * j) ⟨_, nl, _, rfl, fun _ _ h => h, e1, Nat.le_refl _⟩ (fun j σ H2 _ q => by obtain ⟨_, _, _, _, q, _⟩ := q; exact SqL.of (q _ _ (s1 _ _ eL))) ?_ ?_
        · rintro j v σ H2 hv2 ⟨ns, nl', o3', rfl, s2, e2, hnl2⟩
          rw [List.getElem?_map] at hv2
          cases hpj : us[j]? with
          | none => rw [hpj] at hv2; cases hv2
          | some q2 =>
            rw [hpj] at hv2
            have hv3 : v = .ref q2 := (Option.some.inj hv2).symm
            subst hv3
            obtain ⟨y, hyj, hy0⟩ := paired_get pU hpj
            have hy : TuA H2 q2 y := s2 _ _ (s1 _ _ hy0)
            have hj64 : j < 64 := by have := (List.getElem?_eq_some_iff.mp hyj).1; omega
            refine ⟨_, rfl, .ref q2, .ty "tuple", _, true, rfl, .tup hy, .inl ⟨_, rfl, kit_tt⟩, _, rfl, iteF ?_⟩
            refine ⟨_, rfl, _, rfl, q2, _, rfl, .inr (SqT.of hy), fun l3 hl3 => ?_⟩
            have s3 := same_upd (o := .lst [V.int (y.1 : Int), .int (y.2 : Int)]) hl3
            refine ⟨nl', l3, _, _, rfl, rfl, s3 _ _ e2, upd_same, (by rw [List.length_map]; show _ + 2 ≤ _; omega), fun l4 hl4 => ?_⟩
            exact ⟨ns ++ [(y.1 : Int), (y.2 : Int)], l4, _, rfl, Same.upd (s2.trans s3) hl4, by rw [upd_same, List.map_append]; rfl, by rw [List.length_append]; show _ + 2 ≤ _; omega⟩
        · rintro σ H2 ⟨ns, nl', o3', rfl, s2, e2, hnl2⟩
          rw [List.length_map] at hnl2
          refine ⟨_, rfl, nl', rfl, ⟨_, SqL.of e2⟩, ?_⟩
          refine comp_itl (xs := ns.map V.int) (fun j ys G => G = H2 ∧ ys = []) (by rw [List.length_map]; omega) (fun j ys G q => by rw [q.1]; exact SqL.of e2) ⟨rfl, rfl⟩ ?_ ?_
          · rintro j v ys G N hv2 ⟨rfl, rfl⟩ hN
            rw [List.getElem?_map] at hv2
            cases hpj : ns[j]? with
            | none => rw [hpj] at hv2; cases hv2
            | some k =>
              rw [hpj] at hv2
              have hv3 : v = .int k := (Option.some.inj hv2).symm
              subst hv3
              refine ⟨_, rfl, .int k, .ty "bool", _, false, rfl, .int k, .inl ⟨_, rfl, kit_bool (H := G) (.int k)⟩, _, rfl, iteF ?_⟩
              exact ⟨_, rfl, .int k, .ty "int", _, true, rfl, .int k, .inl ⟨_, rfl, kit_int (H := G) (.int k)⟩, _, rfl, iteF (hN _ _ ⟨rfl, rfl⟩)⟩
          · rintro ys G ⟨rfl, rfl⟩ _ u hu
            refine ⟨Nat.zero_le _, fun u2 hu2 => ?_⟩
            refine ⟨.list [], .list [], .lst (SqL.of (same_upd hu2 _ _ upd_same)) .nil, .lst (SqL.of upd_same) .nil, rfl, rfl, by decide, _, rfl, iteF ?_⟩
            exact ⟨⟨_, _, _, rfl⟩, ((sm.trans s1).trans s2).trans (Same.upd (same_upd hu) hu2)⟩
    · rintro σ H' ⟨⟨o1, o2, o3, rfl⟩, sm⟩
      exact kk _ sm
end
end K23
set_option Elab.async false
set_option linter.all false
set_option maxRecDepth 100000
set_option maxHeartbeats 4000000
namespace K23
open PySem L2 PyProof.Rows PySem.Spec Gn K01
open WN (Cov Rs Mg Pl win Okp near mks sg pcs Pc inW)
section
variable {P : Program} {w : World} {K : PySem.W.Frag} {mg : Str → Option Value} {base : Heap} {CN CS : Addr}
variable {CH : Addr} {cs : Nat → Addr}
noncomputable def cOf (fi : Nat) : Nat := [0, 1, 1, 2].getD fi 0
noncomputable def dueL : List Str := ["text", "number", "number", "span"]
noncomputable def Bd (K : PySem.W.Frag) (G : Hp) (n : Nat) : Nat → V → Prop
  | 0, v => Known K G v ∧ Fit v ∧ txtV v = false
  | 1, v => Known K G v ∧ goodN v 0 none = false
  | 2, v => Known K G v ∧ goodN v 0 none = false
  | _, v => BadS K G n v
theorem four {k : Nat} (h : k < 4) : k = 0 ∨ k = 1 ∨ k = 2 ∨ k = 3 := by omega
theorem set4 {v : Nat → V} {k : Nat} (hk : k < 4) (x : V) : [v 0, v 1, v 2, v 3].set k x = [(fun j => if j = k then x else v j) 0, (fun j => if j = k then x else v j) 1, (fun j => if j = k then x else v j) 2, (fun j => if j = k then x else v j) 3] := by
  rcases four hk with rfl | rfl | rfl | rfl <;> rfl
theorem ix4 {k : Nat} (hk : k < 4) : ixN 4 (k : Int) = some k := by
  rcases four hk with rfl | rfl | rfl | rfl <;> rfl
theorem sp_end {H : Hp} {n : Nat} {v : V} {qs : List Addr} {rs : List (Nat × Nat)} (hv : SpB K H n v false) (p : Paired (TuA H) qs rs) (ok : ∀ r ∈ rs, Okp n r) : Paired (SpB K H n) (qs.map V.ref ++ [v]) (List.replicate rs.length true ++ [false]) ∧ (List.replicate rs.length true ++ [false]).all id = false :=
  ⟨Paired.app (sp_all p ok) hv, by rw [List.all_append]; exact Bool.and_false _⟩
theorem kit_tl {K : PySem.W.Frag} : PySem.W.kitOne K (.type "tuple") (.type "list") = some false := by kernel_rfl
noncomputable def og (z : Str) (sa : Addr) : Nat → V
  | 0 => .str z
  | 1 => .int 1
  | 2 => .int 1
  | _ => .ref sa
noncomputable def spRf (K : PySem.W.Frag) : Sp := fun vs H Q _ => ∃ (m : Int) (z : Str) (sa : Addr) (rs : List (Nat × Nat)), vs = [.int m, .str z, .ref sa] ∧ Drawn z ∧ PrL H sa rs ∧ (∀ r ∈ rs, Okp (words (codes z)).length r) ∧ (words (codes z)).length ≤ 1000 ∧ rs.length ≤ 12 ∧ ∀ H', Q (.bl true) H'
theorem scRf : FnScope ["_law_number_here", "_law_text_here", "_law_spans_here", "_law_bad", "_law_things", "_law_due", "_law_first", "_law_at", "_law_e"] ["_law_number_here", "_law_text_here", "_law_spans_here"] (defScope lRef) := ⟨rfl, rfl, rfl, by decide +kernel, rfl, by decide +kernel, by decide +kernel⟩
seal PSs PS PE PT PA PG PI PGs PIfs in
theorem ok_rf {f fp fc : Addr} {fd fdp fdc : FuncData} {items : Array Value} (D : Df K mg "_law_refused" lRef f fd) (X : Cl mg CH cs) (F0 : CF K CH cs 0) (F1 : CF K CH cs 1) (F2 : CF K CH cs 2) (DP : DfD K mg "pieces_of" sPs fp fdp items) (b4 : L2.Binds K fdp ["text", "spans", "around", "most"] []) (GP : FnOk P w K mg base (CX1 P w) 5 fp fdp ["text", "spans", "around", "most"] (spPs K (cs 0) (cs 1) (cs 2)))
    (DC : Df K mg "_law_class" lCls fc fdc) (GC : FnOkN P w K mg base 1 fc fdc ["_law_e"] (spCls K CH cs)) (T : Txt mg) : FnOk P w K mg base CX0 6 f fd ["_law_number_here", "_law_text_here", "_law_spans_here"] (spRf K) := by
  have bC := binds1 (p := "_law_e") DC.F fun _ _ _ _ _ _ _ => rfl
  refine D.F.ok scRf (fun vs H Q E h => ?_) (fun cdv A outer s H vs Q E hr h => ?_)
  · obtain ⟨m, z, sa, rs, rfl, _⟩ := h
    rfl
  · obtain ⟨m, z, sa, rs, rfl, hd, hR, hok, hn, hl, kk⟩ := h
    have hz : (sizeLine : Nat) = 16777216 := sizeLine_eq
    refine ⟨_, (pss_cons (ps_set (i := 3) scRf.nd rfl (Or.inl rfl) (pe_lst (pa_cons (pe_lst (pa_cons pe_non (pa_cons pe_int (pa_cons pe_str (pa_cons (pe_lst (pa_cons pe_str pa_nil)) pa_nil))))) (pa_cons (pe_lst (pa_cons (pe_un un_neg pe_int) (pa_cons pe_bl (pa_cons pe_non (pa_cons pe_str pa_nil))))) (pa_cons (pe_lst (pa_cons (pe_un un_neg pe_int) (pa_cons pe_bl (pa_cons pe_non (pa_cons (pe_op op_sub pe_int (pe_op op_pow pe_int pe_int)) pa_nil))))) pa_nil)))))
      (pss_cons (ps_expr (pe_bm PySem.F.plainAttrs_list PySem.F.slot_list_append PySem.F.type_list_append mt_append (pv 3) (pa_cons (pe_lst (pa_cons (pe_op op_cat (pv 2) (pe_lst (pa_cons (pe_tup (pa_cons pe_bl (pa_cons pe_int pa_nil))) pa_nil))) (pa_cons (pe_callTy call_tuple_of rfl T.tuple b_tuple (pa_cons (pv 2) pa_nil)) (pa_cons (pe_op op_cat (pv 2) (pe_lst (pa_cons (pe_tup (pa_cons pe_int (pa_cons (pe_op op_pow pe_int pe_int) pa_nil))) pa_nil))) (pa_cons (pe_op op_cat (pv 2) (pe_lst (pa_cons (pe_tup (pa_cons pe_int (pa_cons pe_bl pa_nil))) pa_nil))) pa_nil))))) pa_nil)))
      (pss_cons (ps_set (i := 4) scRf.nd rfl (Or.inl rfl) (pe_lst (pa_cons (pv 1) (pa_cons pe_int (pa_cons pe_int (pa_cons (pv 2) pa_nil))))))
      (pss_cons (ps_set (i := 5) scRf.nd rfl (Or.inl rfl) (pe_lst (pa_cons pe_str (pa_cons pe_str (pa_cons pe_str (pa_cons pe_str pa_nil))))))
      (pss_cons (ps_set (i := 6) scRf.nd rfl (Or.inl rfl) (pe_op op_mod (pv 0) pe_int))
      (pss_cons (ps_for PassesOwn.never rfl (pi_range2 rfl T.range (pa_cons (pv 6) (pa_cons pe_int pa_nil))) (pg_name (i := 7) scRf.nd rfl (Or.inl rfl)) (pss_one (ps_if (PW.pt (pw_or (pt_cmpR op_eq (pv 7) (pv 6) (nomark _)) (pw_or1 (pt_cmpR op_eq (pe_op op_mod (pe_op op_fdiv (pv 0) pe_int) pe_int) pe_int (nomark _))))) (pss_one (ps_asg (pe_ix ix_list (pe_ix ix_list (pv 3) (pv 7) (fun _ _ => rfl)) (pe_op op_mod (pe_op op_fdiv (pv 0) pe_int) pe_int) (fun _ _ => rfl)) (pg_sub (pv 4) (pv 7) set_list))) pss_nil)))
      (pss_cons (ps_try (CH := CH) (i := 8) (fun σ cls _ H' => ∃ (du bd th : Addr) (o7 : Option V) (fi : Nat), fi < 4 ∧ σ = [some (.int m), some (.str z), some (.ref sa), some (.ref bd), some (.ref th), some (.ref du), some (.int (fi : Int)), o7, none] ∧ Same H H' ∧ H' du = some (.lst (dueL.map V.str)) ∧ cls = .ref (cs (cOf fi))) rfl rfl scRf.nd rfl rfl rfl X.h
        (fun p xe hx => pss_one (ps_expr (pe_callS GP hr rfl DP.m DP.kp b4 .nil hx (pa_cons (pe_ix (ix_listK (K := K) rfl) (pv 4) pe_int (fun _ _ => rfl)) (pa_cons (pe_ix (ix_listK (K := K) rfl) (pv 4) pe_int (fun _ _ => rfl)) (pa_cons (pe_ix (ix_listK (K := K) rfl) (pv 4) pe_int (fun _ _ => rfl)) (pa_cons (pe_ix (ix_listK (K := K) rfl) (pv 4) pe_int (fun _ _ => rfl)) pa_nil)))))))
        (fun ea p => pss_one (ps_ret (pe_cmpR op_eq (pe_callN GC ((hr.toN.mono (by decide)).mark _) rfl DC.m DC.F.kp bC .nil (pa_cons (pv 8) pa_nil)) (pe_ix (ix_listK (K := K) rfl) (pv 5) (pv 6) (fun _ _ => rfl)) (nomark _)))))
      (pss_one (ps_ret pe_bl))))))))), ?_⟩
    refine ⟨(by show 1 ≤ sizeLine; omega), fun a1 ha1 => ?_⟩
    have q1 : Same H (upd H a1 (.lst [.str "a"])) := same_upd ha1
    have ea1 : upd H a1 (.lst [.str "a"]) a1 = some (.lst [.str "a"]) := upd_same
    generalize upd H a1 (.lst [.str "a"]) = G1 at q1 ea1 ⊢
    refine ⟨(by show 4 ≤ sizeLine; omega), fun a2 ha2 => ?_⟩
    have q2 : Same G1 (upd G1 a2 (.lst [.non, .int 5, .str "a\tb", .ref a1])) := same_upd ha2
    have ea2 : upd G1 a2 (.lst [.non, .int 5, .str "a\tb", .ref a1]) a2 = some (.lst [.non, .int 5, .str "a\tb", .ref a1]) := upd_same
    generalize upd G1 a2 (.lst [.non, .int 5, .str "a\tb", .ref a1]) = G2 at q2 ea2 ⊢
    refine ⟨_, rfl, (by show 4 ≤ sizeLine; omega), fun a3 ha3 => ?_⟩
    have q3 : Same G2 (upd G2 a3 (.lst [.int (-1), .bl true, .non, .str "3"])) := same_upd ha3
    have ea3 : upd G2 a3 (.lst [.int (-1), .bl true, .non, .str "3"]) a3 = some (.lst [.int (-1), .bl true, .non, .str "3"]) := upd_same
    generalize upd G2 a3 (.lst [.int (-1), .bl true, .non, .str "3"]) = G3 at q3 ea3 ⊢
    refine ⟨_, rfl, _, _, rfl, rfl, ⟨by decide, by decide, by decide⟩, _, _, rfl, rfl, (by show 4 ≤ sizeLine; omega), fun a4 ha4 => ?_⟩
    have q4 : Same G3 (upd G3 a4 (.lst [.int (-1), .bl true, .non, .int (0 - 10 ^ (20 : Int).toNat)])) := same_upd ha4
    have ea4 : upd G3 a4 (.lst [.int (-1), .bl true, .non, .int (0 - 10 ^ (20 : Int).toNat)]) a4 = some (.lst [.int (-1), .bl true, .non, .int (0 - 10 ^ (20 : Int).toNat)]) := upd_same
    generalize upd G3 a4 (.lst [.int (-1), .bl true, .non, .int (0 - 10 ^ (20 : Int).toNat)]) = G4 at q4 ea4 ⊢
    refine ⟨(by show 3 ≤ sizeLine; omega), fun bd hbd => ?_⟩
    have q5 : Same G4 (upd G4 bd (.lst [.ref a2, .ref a3, .ref a4])) := same_upd hbd
    have ebd : upd G4 bd (.lst [.ref a2, .ref a3, .ref a4]) bd = some (.lst [.ref a2, .ref a3, .ref a4]) := upd_same
    generalize upd G4 bd (.lst [.ref a2, .ref a3, .ref a4]) = G5 at q5 ebd ⊢
    have s05 : Same H G5 := q1.trans (q2.trans (q3.trans (q4.trans q5)))
    obtain ⟨qs, eS, pS⟩ := (hR.same s05).ex
    have plen := Paired.len pS
    refine ⟨_, rfl, .inl ⟨rfl, _, SqL.of ebd⟩, ?_⟩
    refine ⟨_, rfl, (by show 2 ≤ sizeLine; omega), fun b1 hb1 => ?_⟩
    have q6 : Same G5 (upd G5 b1 (.tup [.bl false, .int 0])) := same_upd hb1
    have eb1 : upd G5 b1 (.tup [.bl false, .int 0]) b1 = some (.tup [.bl false, .int 0]) := upd_same
    generalize upd G5 b1 (.tup [.bl false, .int 0]) = G6 at q6 eb1 ⊢
    refine ⟨(by show 1 ≤ sizeLine; omega), fun l1 hl1 => ?_⟩
    have q7 : Same G6 (upd G6 l1 (.lst [.ref b1])) := same_upd hl1
    have el1 : upd G6 l1 (.lst [.ref b1]) l1 = some (.lst [.ref b1]) := upd_same
    generalize upd G6 l1 (.lst [.ref b1]) = G7 at q7 el1 ⊢
    refine ⟨sa, l1, _, _, rfl, rfl, (q7 _ _ (q6 _ _ eS)), el1, (by rw [List.length_map]; show _ + 1 ≤ _; omega), fun c1 hc1 => ?_⟩
    have q8 : Same G7 (upd G7 c1 (.lst (qs.map V.ref ++ [.ref b1]))) := same_upd hc1
    have ec1 : upd G7 c1 (.lst (qs.map V.ref ++ [.ref b1])) c1 = some (.lst (qs.map V.ref ++ [.ref b1])) := upd_same
    generalize upd G7 c1 (.lst (qs.map V.ref ++ [.ref b1])) = G8 at q8 ec1 ⊢
    refine ⟨_, rfl, sa, _, rfl, .inl ⟨SqL.of (q8 _ _ (q7 _ _ (q6 _ _ eS))), fun tp htp => ?_⟩⟩
    have q9 : Same G8 (upd G8 tp (.tup (qs.map V.ref))) := same_upd htp
    have etp : upd G8 tp (.tup (qs.map V.ref)) tp = some (.tup (qs.map V.ref)) := upd_same
    generalize upd G8 tp (.tup (qs.map V.ref)) = G9 at q9 etp ⊢
    refine ⟨_, rfl, _, _, rfl, rfl, ⟨by decide, by decide, by decide⟩, (by show 2 ≤ sizeLine; omega), fun b2 hb2 => ?_⟩
    have q10 : Same G9 (upd G9 b2 (.tup [.int 0, .int (10 ^ (6 : Int).toNat)])) := same_upd hb2
    have eb2 : upd G9 b2 (.tup [.int 0, .int (10 ^ (6 : Int).toNat)]) b2 = some (.tup [.int 0, .int (10 ^ (6 : Int).toNat)]) := upd_same
    generalize upd G9 b2 (.tup [.int 0, .int (10 ^ (6 : Int).toNat)]) = G10 at q10 eb2 ⊢
    refine ⟨(by show 1 ≤ sizeLine; omega), fun l2 hl2 => ?_⟩
    have q11 : Same G10 (upd G10 l2 (.lst [.ref b2])) := same_upd hl2
    have el2 : upd G10 l2 (.lst [.ref b2]) l2 = some (.lst [.ref b2]) := upd_same
    generalize upd G10 l2 (.lst [.ref b2]) = G11 at q11 el2 ⊢
    refine ⟨sa, l2, _, _, rfl, rfl, (q11 _ _ (q10 _ _ (q9 _ _ (q8 _ _ (q7 _ _ (q6 _ _ eS)))))), el2, (by rw [List.length_map]; show _ + 1 ≤ _; omega), fun c2 hc2 => ?_⟩
    have q12 : Same G11 (upd G11 c2 (.lst (qs.map V.ref ++ [.ref b2]))) := same_upd hc2
    have ec2 : upd G11 c2 (.lst (qs.map V.ref ++ [.ref b2])) c2 = some (.lst (qs.map V.ref ++ [.ref b2])) := upd_same
    generalize upd G11 c2 (.lst (qs.map V.ref ++ [.ref b2])) = G12 at q12 ec2 ⊢
    refine ⟨_, rfl, (by show 2 ≤ sizeLine; omega), fun b3 hb3 => ?_⟩
    have q13 : Same G12 (upd G12 b3 (.tup [.int 0, .bl true])) := same_upd hb3
    have eb3 : upd G12 b3 (.tup [.int 0, .bl true]) b3 = some (.tup [.int 0, .bl true]) := upd_same
    generalize upd G12 b3 (.tup [.int 0, .bl true]) = G13 at q13 eb3 ⊢
    refine ⟨(by show 1 ≤ sizeLine; omega), fun l3 hl3 => ?_⟩
    have q14 : Same G13 (upd G13 l3 (.lst [.ref b3])) := same_upd hl3
    have el3 : upd G13 l3 (.lst [.ref b3]) l3 = some (.lst [.ref b3]) := upd_same
    generalize upd G13 l3 (.lst [.ref b3]) = G14 at q14 el3 ⊢
    refine ⟨sa, l3, _, _, rfl, rfl, (q14 _ _ (q13 _ _ (q12 _ _ (q11 _ _ (q10 _ _ (q9 _ _ (q8 _ _ (q7 _ _ (q6 _ _ eS))))))))), el3, (by rw [List.length_map]; show _ + 1 ≤ _; omega), fun c3 hc3 => ?_⟩
    have q15 : Same G14 (upd G14 c3 (.lst (qs.map V.ref ++ [.ref b3]))) := same_upd hc3
    have ec3 : upd G14 c3 (.lst (qs.map V.ref ++ [.ref b3])) c3 = some (.lst (qs.map V.ref ++ [.ref b3])) := upd_same
    generalize upd G14 c3 (.lst (qs.map V.ref ++ [.ref b3])) = G15 at q15 ec3 ⊢
    refine ⟨(by show 4 ≤ sizeLine; omega), fun ls hls => ?_⟩
    have q16 : Same G15 (upd G15 ls (.lst [.ref c1, .ref tp, .ref c2, .ref c3])) := same_upd hls
    have els : upd G15 ls (.lst [.ref c1, .ref tp, .ref c2, .ref c3]) ls = some (.lst [.ref c1, .ref tp, .ref c2, .ref c3]) := upd_same
    generalize upd G15 ls (.lst [.ref c1, .ref tp, .ref c2, .ref c3]) = G16 at q16 els ⊢
    refine ⟨bd, _, _, rfl, rfl, (q16 _ _ (q15 _ _ (q14 _ _ (q13 _ _ (q12 _ _ (q11 _ _ (q10 _ _ (q9 _ _ (q8 _ _ (q7 _ _ (q6 _ _ ebd))))))))))), (by show 3 < sizeLine; omega), ?_⟩
    have tG : ∀ q xs, G16 q = some (.tup xs) → upd G16 bd (.lst [.ref a2, .ref a3, .ref a4, .ref ls]) q = some (.tup xs) := fun q xs e => by rw [upd_ne (fun z => by rw [z, (q16 _ _ (q15 _ _ (q14 _ _ (q13 _ _ (q12 _ _ (q11 _ _ (q10 _ _ (q9 _ _ (q8 _ _ (q7 _ _ (q6 _ _ ebd)))))))))))] at e; cases e)]; exact e
    have lG : ∀ q xs, G16 q = some (.lst xs) → q ≠ bd → upd G16 bd (.lst [.ref a2, .ref a3, .ref a4, .ref ls]) q = some (.lst xs) := fun q xs e n => by rw [upd_ne n]; exact e
    have sG : Same H (upd G16 bd (.lst [.ref a2, .ref a3, .ref a4, .ref ls])) := same_put (s05.trans (q6.trans (q7.trans (q8.trans (q9.trans (q10.trans (q11.trans (q12.trans (q13.trans (q14.trans (q15.trans q16))))))))))) ((q1.trans (q2.trans (q3.trans q4))).free hbd)
    have gBd : upd G16 bd (.lst [.ref a2, .ref a3, .ref a4, .ref ls]) bd = some (.lst [.ref a2, .ref a3, .ref a4, .ref ls]) := upd_same
    have gA1 := lG _ _ (q16 _ _ (q15 _ _ (q14 _ _ (q13 _ _ (q12 _ _ (q11 _ _ (q10 _ _ (q9 _ _ (q8 _ _ (q7 _ _ (q6 _ _ (q5 _ _ (q4 _ _ (q3 _ _ (q2 _ _ ea1))))))))))))))) (ne_of_none (q4 _ _ (q3 _ _ (q2 _ _ ea1))) hbd)
    have gA2 := lG _ _ (q16 _ _ (q15 _ _ (q14 _ _ (q13 _ _ (q12 _ _ (q11 _ _ (q10 _ _ (q9 _ _ (q8 _ _ (q7 _ _ (q6 _ _ (q5 _ _ (q4 _ _ (q3 _ _ ea2)))))))))))))) (ne_of_none (q4 _ _ (q3 _ _ ea2)) hbd)
    have gA3 := lG _ _ (q16 _ _ (q15 _ _ (q14 _ _ (q13 _ _ (q12 _ _ (q11 _ _ (q10 _ _ (q9 _ _ (q8 _ _ (q7 _ _ (q6 _ _ (q5 _ _ (q4 _ _ ea3))))))))))))) (ne_of_none (q4 _ _ ea3) hbd)
    have gA4 := lG _ _ (q16 _ _ (q15 _ _ (q14 _ _ (q13 _ _ (q12 _ _ (q11 _ _ (q10 _ _ (q9 _ _ (q8 _ _ (q7 _ _ (q6 _ _ (q5 _ _ ea4)))))))))))) (ne_of_none ea4 hbd)
    have gLs := lG _ _ els (Ne.symm (ne_of_none (q15 _ _ (q14 _ _ (q13 _ _ (q12 _ _ (q11 _ _ (q10 _ _ (q9 _ _ (q8 _ _ (q7 _ _ (q6 _ _ ebd)))))))))) hls))
    have gC1 := lG _ _ (q16 _ _ (q15 _ _ (q14 _ _ (q13 _ _ (q12 _ _ (q11 _ _ (q10 _ _ (q9 _ _ ec1)))))))) (Ne.symm (ne_of_none (q7 _ _ (q6 _ _ ebd)) hc1))
    have gC2 := lG _ _ (q16 _ _ (q15 _ _ (q14 _ _ (q13 _ _ ec2)))) (Ne.symm (ne_of_none (q11 _ _ (q10 _ _ (q9 _ _ (q8 _ _ (q7 _ _ (q6 _ _ ebd)))))) hc2))
    have gC3 := lG _ _ (q16 _ _ ec3) (Ne.symm (ne_of_none (q14 _ _ (q13 _ _ (q12 _ _ (q11 _ _ (q10 _ _ (q9 _ _ (q8 _ _ (q7 _ _ (q6 _ _ ebd))))))))) hc3))
    have gB1 := tG _ _ (q16 _ _ (q15 _ _ (q14 _ _ (q13 _ _ (q12 _ _ (q11 _ _ (q10 _ _ (q9 _ _ (q8 _ _ (q7 _ _ eb1))))))))))
    have gB2 := tG _ _ (q16 _ _ (q15 _ _ (q14 _ _ (q13 _ _ (q12 _ _ (q11 _ _ eb2))))))
    have gB3 := tG _ _ (q16 _ _ (q15 _ _ (q14 _ _ eb3)))
    have gTp := tG _ _ (q16 _ _ (q15 _ _ (q14 _ _ (q13 _ _ (q12 _ _ (q11 _ _ (q10 _ _ etp)))))))
    have pG := Paired.imp2 pS fun _ _ q => tG _ _ (q16 _ _ (q15 _ _ (q14 _ _ (q13 _ _ (q12 _ _ (q11 _ _ (q10 _ _ (q9 _ _ (q8 _ _ (q7 _ _ (q6 _ _ q)))))))))))
    have gR := hR.same sG
    change tSeq _ _ _ _ (upd G16 bd (.lst [.ref a2, .ref a3, .ref a4, .ref ls]))
    generalize upd G16 bd (.lst [.ref a2, .ref a3, .ref a4, .ref ls]) = G at sG gBd gA1 gA2 gA3 gA4 gLs gC1 gC2 gC3 gB1 gB2 gB3 gTp pG gR ⊢
    have p6 : (10 : Int) ^ (6 : Int).toNat = 1000000 := by decide
    generalize hws : (words (codes z)).length = n at *
    have hb : ∀ k : Nat, k < 4 → ∃ (b : Addr) (xs : List V), atI [V.ref a2, .ref a3, .ref a4, .ref ls] (k : Int) = some (.ref b) ∧ G b = some (.lst xs) ∧ xs.length = 4 ∧ ∀ x ∈ xs, Bd K G n k x := fun k hk => by
      rcases four hk with rfl | rfl | rfl | rfl
      · refine ⟨a2, _, atI_nat (j := 0) rfl, gA2, rfl, List.forall_mem_cons.mpr ⟨⟨⟨_, .non⟩, (fun _ e => nomatch e), rfl⟩, List.forall_mem_cons.mpr ⟨⟨⟨_, .int _⟩, (fun _ e => nomatch e), rfl⟩, List.forall_mem_cons.mpr ⟨⟨⟨_, .str _⟩, (fun y e => by injection e with e; rw [← e]; decide), by decide +kernel⟩, List.forall_mem_cons.mpr ⟨⟨⟨_, .lst gA1⟩, (fun _ e => nomatch e), rfl⟩, fun _ h => nomatch h⟩⟩⟩⟩⟩
      · exact ⟨a3, _, atI_nat (j := 1) rfl, gA3, rfl, List.forall_mem_cons.mpr ⟨⟨⟨_, .int _⟩, rfl⟩, List.forall_mem_cons.mpr ⟨⟨⟨_, .bl _⟩, rfl⟩, List.forall_mem_cons.mpr ⟨⟨⟨_, .non⟩, rfl⟩, List.forall_mem_cons.mpr ⟨⟨⟨_, .str _⟩, rfl⟩, fun _ h => nomatch h⟩⟩⟩⟩⟩
      · exact ⟨a4, _, atI_nat (j := 2) rfl, gA4, rfl, List.forall_mem_cons.mpr ⟨⟨⟨_, .int _⟩, rfl⟩, List.forall_mem_cons.mpr ⟨⟨⟨_, .bl _⟩, rfl⟩, List.forall_mem_cons.mpr ⟨⟨⟨_, .non⟩, rfl⟩, List.forall_mem_cons.mpr ⟨⟨⟨_, .int _⟩, by decide⟩, fun _ h => nomatch h⟩⟩⟩⟩⟩
      · have x1 := sp_end (K := K) (.nw gB1 ⟨_, .bl _⟩ ⟨_, .int _⟩ (.inl rfl)) pG hok
        have x2 := sp_end (K := K) (.rg gB2 (by rw [p6]; omega)) pG hok
        have x3 := sp_end (K := K) (.nw gB3 ⟨_, .int _⟩ ⟨_, .bl _⟩ (.inr rfl)) pG hok
        exact ⟨ls, _, atI_nat (j := 3) rfl, gLs, rfl, List.forall_mem_cons.mpr ⟨.inr ⟨c1, _, _, rfl, gC1, x1.1, x1.2⟩, List.forall_mem_cons.mpr ⟨.inl ⟨_, .tup gTp, kit_tl⟩, List.forall_mem_cons.mpr ⟨.inr ⟨c2, _, _, rfl, gC2, x2.1, x2.2⟩, List.forall_mem_cons.mpr ⟨.inr ⟨c3, _, _, rfl, gC3, x3.1, x3.2⟩, fun _ h => nomatch h⟩⟩⟩⟩⟩
    refine ⟨_, rfl, _, rfl, (by show 4 ≤ sizeLine; omega), fun th hth => ?_⟩
    have w1 : Same G (upd G th (.lst [og z sa 0, og z sa 1, og z sa 2, og z sa 3])) := same_upd hth
    have eTh : upd G th (.lst [og z sa 0, og z sa 1, og z sa 2, og z sa 3]) th = some (.lst [og z sa 0, og z sa 1, og z sa 2, og z sa 3]) := upd_same
    change gName 4 _ _ (upd G th (.lst [og z sa 0, og z sa 1, og z sa 2, og z sa 3])) _
    generalize upd G th (.lst [og z sa 0, og z sa 1, og z sa 2, og z sa 3]) = G1' at w1 eTh ⊢
    refine ⟨(by show 4 ≤ sizeLine; omega), fun du hdu => ?_⟩
    have w2 : Same G1' (upd G1' du (.lst (dueL.map V.str))) := same_upd hdu
    have eDu : upd G1' du (.lst (dueL.map V.str)) du = some (.lst (dueL.map V.str)) := upd_same
    have nthd : th ≠ du := ne_of_none eTh hdu
    have eTh2 := w2 _ _ eTh
    have w12 := w1.trans w2
    change gName 5 _ _ (upd G1' du (.lst (dueL.map V.str))) _
    generalize upd G1' du (.lst (dueL.map V.str)) = G2' at w2 eDu eTh2 w12 ⊢
    obtain ⟨fi, hfi, hfl⟩ := mod_ix (r := m) (n := 4) (by decide)
    refine ⟨_, rfl, _, _, rfl, rfl, (by show (0 : Int) < 4; decide), ?_⟩
    show gName 6 (V.int (m % 4)) _ _ _
    rw [← hfi]
    refine ⟨_, rfl, _, _, rfl, ⟨by omega, by omega, by omega, by omega⟩, ?_⟩
    have en : ((4 : Int) - (fi : Int)).toNat = 4 - fi := by omega
    rw [en]
    refine for_range (fun i σ H' => ∃ (v : Nat → V) (o7 : Option V), σ = [some (.int m), some (.str z), some (.ref sa), some (.ref bd), some (.ref th), some (.ref du), some (.int (fi : Int)), o7, none] ∧ Same G H' ∧ H' th = some (.lst [v 0, v 1, v 2, v 3]) ∧ H' du = some (.lst (dueL.map V.str)) ∧ ∀ k, k < 4 → ((k < fi ∨ fi + i ≤ k) → v k = og z sa k) ∧ (fi ≤ k → k < fi + i → Bd K G n k (v k) ∨ (v k = og z sa k ∧ k ≠ fi))) ?_ ?_ ?_
    · exact ⟨og z sa, _, rfl, w12, eTh2, eDu, fun k hk => ⟨fun _ => rfl, fun h1 h2 => by omega⟩⟩
    · rintro i σ H' hi ⟨v, o7, rfl, sm, eV, eD, hv⟩
      have hk4 : fi + i < 4 := by omega
      have ek : (fi : Int) + (i : Int) = ((fi + i : Nat) : Int) := by omega
      rw [ek]
      have asg : ∀ (D' : Ends), (∀ σ' H'', (∃ (v : Nat → V) (o7 : Option V), σ' = [some (.int m), some (.str z), some (.ref sa), some (.ref bd), some (.ref th), some (.ref du), some (.int (fi : Int)), o7, none] ∧ Same G H'' ∧ H'' th = some (.lst [v 0, v 1, v 2, v 3]) ∧ H'' du = some (.lst (dueL.map V.str)) ∧ ∀ k, k < 4 → ((k < fi ∨ fi + (i + 1) ≤ k) → v k = og z sa k) ∧ (fi ≤ k → k < fi + (i + 1) → Bd K G n k (v k) ∨ (v k = og z sa k ∧ k ≠ fi))) → D'.nx σ' H'') →
          tAsg (tOp (rIxL K) (tOp (rIxL K) (tVar 3) (tVar 7)) (tOp (rI (fun x j => 0 < j) fun i j => V.int (i % j)) (tOp (rI CDiv fun i j => V.int (i / j)) (tVar 0) (tC (V.int 8))) (tC (V.int 4)))) (gSub (tVar 4) (tVar 7) rSetL) D' [some (.int m), some (.str z), some (.ref sa), some (.ref bd), some (.ref th), some (.ref du), some (.int (fi : Int)), some (.int ((fi + i : Nat) : Int)), none] H' := fun D' hD => by
        obtain ⟨b, xs, b1, b2, b3, b4'⟩ := hb _ hk4
        refine ⟨_, rfl, _, rfl, bd, _, _, .ref b, rfl, rfl, SqL.of (sm _ _ gBd), b1, ?_⟩
        refine ⟨_, rfl, _, _, rfl, rfl, ⟨by decide, by decide⟩, _, _, rfl, rfl, (by show (0 : Int) < 4; decide), ?_⟩
        refine ixPickP (fun x _ => Bd K G n (fi + i) x) (sm _ _ b2) (by omega) (by rw [b3]; rfl) b4' ?_
        intro x hx
        refine ⟨_, rfl, _, rfl, th, _, _, fi + i, rfl, rfl, eV, ix4 hk4, ?_⟩
        rw [set4 hk4]
        refine hD _ _ ⟨fun j => if j = fi + i then x else v j, _, rfl, same_put sm hth, upd_same, by rw [upd_ne (Ne.symm nthd)]; exact eD, fun k hk => ⟨fun h => ?_, fun h1 h2 => ?_⟩⟩
        · show (if k = fi + i then x else v k) = _
          rw [if_neg (by omega)]
          exact (hv k hk).1 (by omega)
        · show Bd K G n k (if k = fi + i then x else v k) ∨ ((if k = fi + i then x else v k) = _ ∧ _)
          by_cases e : k = fi + i
          · rw [if_pos e, e]
            exact .inl hx
          · rw [if_neg e]
            exact (hv k hk).2 h1 (by omega)
      refine ⟨_, rfl, _, rfl, rfl, _, rfl, ?_⟩
      by_cases e0 : i = 0
      · rw [dec_i (show ((fi + i : Nat) : Int) = (fi : Int) by omega)]
        exact iteT (iteT (asg _ fun _ _ h => h))
      · rw [dec_n (show ((fi + i : Nat) : Int) ≠ (fi : Int) by omega)]
        refine iteF ⟨_, rfl, _, _, rfl, rfl, ⟨by decide, by decide⟩, _, _, rfl, rfl, (by show (0 : Int) < 2; decide), rfl, _, rfl, ?_⟩
        by_cases e1 : m / 4 % 2 = 1
        · rw [dec_i e1]
          exact iteT (asg _ fun _ _ h => h)
        · rw [dec_n e1]
          refine iteF ⟨v, _, rfl, sm, eV, eD, fun k hk => ⟨fun h => (hv k hk).1 (by omega), fun h1 h2 => ?_⟩⟩
          by_cases e : k = fi + i
          · exact .inr ⟨(hv k hk).1 (by omega), by omega⟩
          · exact (hv k hk).2 h1 (by omega)
    · rintro σ H' ⟨v, o7, rfl, sm, eV, eD, hv⟩
      have f4 : fi < 4 := by omega
      have hv' : ∀ k, k < 4 → (k < fi → v k = og z sa k) ∧ (fi ≤ k → Bd K G n k (v k) ∨ (v k = og z sa k ∧ k ≠ fi)) := fun k hk => ⟨fun h => (hv k hk).1 (.inl h), fun h => (hv k hk).2 h (by omega)⟩
      have ky : ∀ {x : V}, Known K G x → Known K H' x := fun h => Known.same' h sm
      have k0 : Known K H' (v 0) ∧ Fit (v 0) := by
        by_cases h : 0 < fi
        · rw [(hv' 0 (by decide)).1 h]; exact ⟨⟨_, .str _⟩, fit_drawn hd⟩
        · rcases (hv' 0 (by decide)).2 (by omega) with q | q
          · exact ⟨ky q.1, q.2.1⟩
          · rw [q.1]; exact ⟨⟨_, .str _⟩, fit_drawn hd⟩
      have k1 : Known K H' (v 1) := by
        by_cases h : 1 < fi
        · rw [(hv' 1 (by decide)).1 h]; exact ⟨_, .int _⟩
        · rcases (hv' 1 (by decide)).2 (by omega) with q | q
          · exact ky q.1
          · rw [q.1]; exact ⟨_, .int _⟩
      have k2 : Known K H' (v 2) := by
        by_cases h : 2 < fi
        · rw [(hv' 2 (by decide)).1 h]; exact ⟨_, .int _⟩
        · rcases (hv' 2 (by decide)).2 (by omega) with q | q
          · exact ky q.1
          · rw [q.1]; exact ⟨_, .int _⟩
      have bad : Bd K G n fi (v fi) := ((hv' fi f4).2 (Nat.le_refl _)).resolve_right fun q => q.2 rfl
      refine ⟨?_, ?_⟩
      · refine ⟨_, rfl, th, _, _, v 0, rfl, rfl, SqL.of eV, atI_nat (j := 0) rfl, _, rfl, th, _, _, v 3, rfl, rfl, SqL.of eV, atI_nat (j := 3) rfl, _, rfl, th, _, _, v 1, rfl, rfl, SqL.of eV, atI_nat (j := 1) rfl, _, rfl, th, _, _, v 2, rfl, rfl, SqL.of eV, atI_nat (j := 2) rfl, v 0, v 3, v 1, v 2, rfl, k0.1, k0.2, k1, k2, ?_⟩
        have fin : ∀ H'', Same H' H'' → ∃ (du1 bd1 th1 : Addr) (o7' : Option V) (fi' : Nat), fi' < 4 ∧ [some (V.int m), some (.str z), some (.ref sa), some (.ref bd), some (.ref th), some (.ref du), some (.int (fi : Int)), o7, none] = [some (.int m), some (.str z), some (.ref sa), some (.ref bd1), some (.ref th1), some (.ref du1), some (.int (fi' : Int)), o7', none] ∧ Same H H'' ∧ H'' du1 = some (.lst (dueL.map V.str)) ∧ Value.ref (cs (cOf fi)) = .ref (cs (cOf fi')) := fun H'' s' => ⟨du, bd, th, o7, fi, f4, rfl, (sG.trans sm).trans s', s' _ _ eD, rfl⟩
        rcases four f4 with rfl | rfl | rfl | rfl
        · exact .inl ⟨bad.2.2, fin⟩
        · have e0 : v 0 = .str z := (hv' 0 (by decide)).1 (by decide)
          exact .inr ⟨z, e0, hd, .inl ⟨bad.2, fin⟩⟩
        · have e0 : v 0 = .str z := (hv' 0 (by decide)).1 (by decide)
          have e1 : v 1 = .int 1 := (hv' 1 (by decide)).1 (by decide)
          exact .inr ⟨z, e0, hd, .inr (.inl ⟨by rw [e1]; rfl, bad.2, fin⟩)⟩
        · have e0 : v 0 = .str z := (hv' 0 (by decide)).1 (by decide)
          have e1 : v 1 = .int 1 := (hv' 1 (by decide)).1 (by decide)
          have e2 : v 2 = .int 1 := (hv' 2 (by decide)).1 (by decide)
          exact .inr ⟨z, e0, hd, .inr (.inr ⟨1, 1, e1, e2, .inl ⟨by rw [hws]; exact BadS.same bad sm, fin⟩⟩)⟩
      · rintro σ' cls H'' ea ⟨du', bd', th', o7', fi', f4', rfl, s', eD', rfl⟩ hn
        have Fi : CF K CH cs (cOf fi') := by
          rcases four f4' with rfl | rfl | rfl | rfl
          · exact F0
          · exact F1
          · exact F1
          · exact F2
        have eat : atI (dueL.map V.str) (fi' : Int) = some (.str (nmF (cOf fi'))) := by
          rcases four f4' with rfl | rfl | rfl | rfl
          · exact atI_nat (j := 0) rfl
          · exact atI_nat (j := 1) rfl
          · exact atI_nat (j := 2) rfl
          · exact atI_nat (j := 3) rfl
        refine ⟨_, rfl, Fi.e, _, rfl, ea, _, rfl, upd_same, Fi, fun H1 s1 => ?_⟩
        refine ⟨_, rfl, _, rfl, du', _, _, .str (nmF (cOf fi')), rfl, rfl, SqL.of (s1 _ _ (same_upd hn _ _ eD')), eat, rfl, ?_⟩
        rw [decide_eq_true rfl]
        exact kk _
end
end K23
set_option Elab.async false
set_option linter.all false
set_option maxRecDepth 100000
set_option maxHeartbeats 4000000
namespace K23
open PySem L2 PyProof.Rows PySem.Spec Gn K01
open WN (Cov Rs Mg Pl win Okp near mks sg pcs Pc inW)
section
variable {P : Program} {w : World} {K : PySem.W.Frag} {mg : Str → Option Value} {base : Heap} {CN CS : Addr}
variable {CH : Addr} {cs : Nat → Addr}
theorem ndPi : (["_law_piece"] : List Str).Nodup := by decide +kernel
noncomputable def dPr (x : Nat × Nat) : PyData := .tuple [.int (x.1 : Int), .int (x.2 : Int)]
theorem dt_prs {H : Hp} {ps : List Addr} {rs : List (Nat × Nat)} (p : Paired (TuA H) ps rs) : DtVs K H (ps.map V.ref) (rs.map dPr) := by
  induction p with
  | nil => exact .nil
  | cons r _ ih => exact .cons (.tup (SqT.of r) (.cons (.int _) (.cons (.int _) .nil))) ih
theorem PrL.dt {H : Hp} {a : Addr} {rs : List (Nat × Nat)} (h : PrL H a rs) : DtV K H (.ref a) (.list (rs.map dPr)) := by
  obtain ⟨ps, e, p⟩ := h.ex
  exact .lst (SqL.of e) (dt_prs p)
theorem lay_pr : ∀ {rs : List (Nat × Nat)}, (PyData.list (rs.map dPr)).canLay0 = true
  | [] => rfl
  | x :: rs => lay_pr (rs := rs)
theorem dep_pr1 (rs : List (Nat × Nat)) : (PyData.list (rs.map dPr)).depth ≤ 4 := by
  induction rs with
  | nil => decide
  | cons x rs ih =>
    simp only [List.map_cons, PyData.depth, PyData.depthAll, dPr] at ih ⊢
    omega
theorem dep_pr (rs : List (Nat × Nat)) (y : PyData) : min (PyData.list (rs.map dPr)).depth y.depth ≤ 100 := by have := dep_pr1 rs; omega
noncomputable def dPc (x : Pc) : PyData := .tuple [.int (x.1 : Int), .int (x.2.1 : Int), .list (x.2.2.map dPr)]
theorem dt_pcs {B H : Hp} {ps : List Addr} {xs : List Pc} (p : Paired (PcA B H) ps xs) : DtVs K H (ps.map V.ref) (xs.map dPc) := by
  induction p with
  | nil => exact .nil
  | cons r _ ih =>
    obtain ⟨l, e, h, _⟩ := r
    exact .cons (.tup (SqT.of e) (.cons (.int _) (.cons (.int _) (.cons h.dt .nil)))) ih
theorem PcL.dt {B H H' : Hp} {a : Addr} {xs : List Pc} (h : PcL B H a xs) (s : Same H H') : DtV K H' (.ref a) (.list (xs.map dPc)) := by
  obtain ⟨ps, e, p, _⟩ := h.ex
  exact .lst (SqL.of (s _ _ e)) (dt_pcs (Paired.imp2 p fun _ _ q => q.same s))
theorem lay_pc : ∀ {xs : List Pc}, (PyData.list (xs.map dPc)).canLay0 = true
  | [] => rfl
  | x :: xs => by
    have i : (PyData.list (xs.map dPc)).canLay0 = true := lay_pc
    have e : (PyData.list ((x :: xs).map dPc)).canLay0 = (((PyData.list (x.2.2.map dPr)).canLay0 && true) && (PyData.list (xs.map dPc)).canLay0) := rfl
    rw [e, i, lay_pr]
    rfl
theorem dep_pc (xs : List Pc) (y : PyData) : min (PyData.list (xs.map dPc)).depth y.depth ≤ 100 := by
  have : (PyData.list (xs.map dPc)).depth ≤ 8 := by
    induction xs with
    | nil => decide
    | cons x xs ih =>
      have := dep_pr1 x.2.2
      simp only [List.map_cons, PyData.depth, PyData.depthAll, dPc] at ih this ⊢
      omega
  omega
theorem pickI {H : Hp} {u : Addr} {b : Int} {bb : Bool} {Q : VK} (e : H u = some (.lst [.int 3, .int b])) (hb : 0 ≤ b) (k : ∀ mv : Nat, (bb = false → mv = 3) → Q (.int (mv : Int)) H) : rIxL K (.ref u) (.int (if bb then 1 else 0)) H Q := by
  cases bb with
  | false => exact ⟨u, _, _, .int 3, rfl, rfl, SqL.of e, atI_nat (j := 0) rfl, k 3 fun _ => rfl⟩
  | true =>
    refine ⟨u, _, _, .int b, rfl, rfl, SqL.of e, atI_nat (j := 1) rfl, ?_⟩
    have := k b.toNat fun h => by cases h
    rwa [Int.toNat_of_nonneg hb] at this
theorem flat_rep {α : Type} (x : α) : ∀ k : Nat, (List.replicate k [x]).flatten = List.replicate k x
  | 0 => rfl
  | k + 1 => by rw [List.replicate_succ, List.replicate_succ, List.flatten_cons, flat_rep x k]; rfl
theorem zer {H : Hp} : ∀ {ts : List Addr}, (∀ t ∈ ts, TuA H t (0, 0)) → Paired (TuA H) ts (List.replicate ts.length (0, 0))
  | [], _ => .nil
  | t :: ts, h => .cons (h t List.mem_cons_self) (zer fun u hu => h u (List.mem_cons_of_mem _ hu))
theorem cut_last (xs : List V) (y : V) : cutV (xs ++ [y]) none (some (-1)) = xs := by
  have h : HT.sIx (xs ++ [y]).length (xs ++ [y]).length (some (-1)) = xs.length := by
    rw [List.length_append, List.length_singleton]
    show (if (-1 : Int) < 0 then ((-1 : Int) + ((xs.length + 1 : Nat) : Int)).toNat else min ((-1 : Int)).toNat (xs.length + 1)) = _
    rw [if_pos (by decide)]
    omega
  unfold cutV
  rw [h, HT.sIx_none, List.drop_zero, Nat.sub_zero, List.take_left]
structure Gr (B H : Hp) (fo q : Addr) (i : Nat) (done : Prop) : Prop where
  ex : ∃ (b e : Nat) (l : Addr) (us : List V), H q = some (.tup [.int (b : Int), .int (e : Int), .ref l]) ∧ H l = some (.lst us) ∧ B l = none ∧ l ≠ fo ∧ us.length ≤ 64 + i ∧ (done → ∃ us0 t, us = us0 ++ [.ref t] ∧ TuA H t (0, 0))
theorem Gr.same {B H H' : Hp} {fo q : Addr} {i : Nat} {d : Prop} (h : Gr B H fo q i d) (s : Same H H') : Gr B H' fo q i d := by
  obtain ⟨b, e, l, us, h1, h2, h3, h4, h5, h6⟩ := h.ex
  exact ⟨b, e, l, us, s _ _ h1, s _ _ h2, h3, h4, h5, fun z => by obtain ⟨u0, t, e1, e2⟩ := h6 z; exact ⟨u0, t, e1, s _ _ e2⟩⟩
theorem Gr.fo {B H : Hp} {fo q : Addr} {i : Nat} {d : Prop} {xs : List V} {o : HO} (h : Gr B H fo q i d) (hf : H fo = some (.lst xs)) : Gr B (upd H fo o) fo q i d := by
  obtain ⟨b, e, l, us, h1, h2, h3, h4, h5, h6⟩ := h.ex
  refine ⟨b, e, l, us, by rw [upd_ne (fun z => by rw [z, hf] at h1; cases h1)]; exact h1, by rw [upd_ne h4]; exact h2, h3, h4, h5, fun z => ?_⟩
  obtain ⟨u0, t, e1, e2⟩ := h6 z
  exact ⟨u0, t, e1, TuA.upd e2 hf⟩
theorem Gr.grow {B H : Hp} {fo q l t : Addr} {i : Nat} {d : Prop} {us : List V} (h : Gr B H fo q i d) (hl : H l = some (.lst us)) (ht : TuA H t (0, 0)) (hu : us.length ≤ 64 + i) (n : l ≠ fo) : Gr B (upd H l (.lst (us ++ [.ref t]))) fo q (i + 1) d := by
  obtain ⟨b, e, l', us', h1, h2, h3, h4, h5, h6⟩ := h.ex
  have t' : TuA (upd H l (.lst (us ++ [.ref t]))) t (0, 0) := TuA.upd ht hl
  have k1 : upd H l (.lst (us ++ [.ref t])) q = some (.tup [.int (b : Int), .int (e : Int), .ref l']) := by rw [upd_ne (fun z => by rw [z, hl] at h1; cases h1)]; exact h1
  by_cases z : l' = l
  · subst z
    exact ⟨b, e, l', _, k1, upd_same, h3, h4, by rw [List.length_append]; show _ + 1 ≤ _; omega, fun _ => ⟨us, t, rfl, t'⟩⟩
  · refine ⟨b, e, l', us', k1, by rw [upd_ne z]; exact h2, h3, h4, by omega, fun hz => ?_⟩
    obtain ⟨u0, t0, e1, e2⟩ := h6 hz
    exact ⟨u0, t0, e1, TuA.upd e2 hl⟩
noncomputable def spLaw (K : PySem.W.Frag) : Sp := fun vs H Q _ => ∃ (a : Addr) (ns : List Int), vs = [.ref a] ∧ SqL K H a (ns.map V.int) ∧ ns.length ≤ 63 ∧ ∀ H', Q (.bl true) H'
theorem scLaw : FnScope ["_law_script", "_law_many", "_law_text_here", "_law_spans_here", "_law_way", "_law_around", "_law_most", "_law_due", "_law_handed", "_law_found", "_law_piece", "_law_again"] ["_law_script"] (defScope lLaw) := ⟨rfl, rfl, rfl, by decide +kernel, rfl, by decide +kernel, by decide +kernel⟩
seal PSs PS PE PT PA PG PI PGs PIfs in
theorem ok_law {f fNu fTx fMe fSp fWo fRf fLP fA fKi : Addr} {fd dNu dTx dMe dSp dWo dRf dLP dA dKi : FuncData} (D : Df K mg "law" lLaw f fd) (T : Txt mg)
    (DNu : Df K mg "_law_number" lNumber fNu dNu) (GNu : FnOk P w K mg base CX0 2 fNu dNu ["_law_script", "_law_k"] (spNumber K)) (DTx : Df K mg "_law_text" lText fTx dTx) (GTx : FnOk P w K mg base CX0 2 fTx dTx ["_law_number_here", "_law_menu_here", "_law_many"] spTextL)
    (DMe : Df K mg "_law_menu" lMenu fMe dMe) (GMe : FnOk P w K mg base CX0 2 fMe dMe ["_law_number_here"] spMenu) (DSp : Df K mg "_law_spans" lSpans fSp dSp) (GSp : FnOk P w K mg base CX0 2 fSp dSp ["_law_number_here", "_law_size"] spSp)
    (DWo : Df K mg "_law_words" lWords fWo dWo) (GWo : FnOk P w K mg base CX0 2 fWo dWo ["_law_text_here"] spWords) (DRf : Df K mg "_law_refused" lRef fRf dRf) (GRf : FnOk P w K mg base CX0 6 fRf dRf ["_law_number_here", "_law_text_here", "_law_spans_here"] (spRf K))
    (DLP : Df K mg "_law_pieces" lPcs fLP dLP) (GLP : FnOk P w K mg base CX0 3 fLP dLP ["_law_text_here", "_law_spans_here", "_law_around", "_law_most"] (spLP K)) (DA : Df K mg "_law_asked" lAsked fA dA) (GA : FnOk P w K mg base CX0 6 fA dA ["_law_way", "_law_text_here", "_law_spans_here", "_law_around", "_law_most"] spAk)
    (DKi : Df K mg "_law_kinds" lKinds fKi dKi) (GKi : FnOk P w K mg base CX0 1 fKi dKi ["_law_found"] spKi) : FnOk P w K mg base CX0 7 f fd ["_law_script"] (spLaw K) := by
  have bNu := DNu.F.binds (ps := ["_law_script", "_law_k"]) fun _ _ _ _ _ _ us hl => us2 (fun _ _ => rfl) us hl
  have bTx := DTx.F.binds (ps := ["_law_number_here", "_law_menu_here", "_law_many"]) fun _ _ _ _ _ _ us hl => us3 (fun _ _ _ => rfl) us hl
  have bMe := binds1 (p := "_law_number_here") DMe.F fun _ _ _ _ _ _ _ => rfl
  have bSp := DSp.F.binds (ps := ["_law_number_here", "_law_size"]) fun _ _ _ _ _ _ us hl => us2 (fun _ _ => rfl) us hl
  have bWo := binds1 (p := "_law_text_here") DWo.F fun _ _ _ _ _ _ _ => rfl
  have bRf := DRf.F.binds (ps := ["_law_number_here", "_law_text_here", "_law_spans_here"]) fun _ _ _ _ _ _ us hl => us3 (fun _ _ _ => rfl) us hl
  have bLP := DLP.F.binds (ps := ["_law_text_here", "_law_spans_here", "_law_around", "_law_most"]) fun _ _ _ _ _ _ us hl => us4 (fun _ _ _ _ => rfl) us hl
  have bA := DA.F.binds (ps := ["_law_way", "_law_text_here", "_law_spans_here", "_law_around", "_law_most"]) fun T kV doc pm an cdv us hl => match us, (show us.length = 5 from hl) with | [_, _, _, _, _], _ => rfl
  have bKi := binds1 (p := "_law_found") DKi.F fun _ _ _ _ _ _ _ => rfl
  refine D.F.ok scLaw (fun vs H Q E h => ?_) (fun cdv A outer s H vs Q E hr h => ?_)
  · obtain ⟨a, ns, rfl, _⟩ := h
    rfl
  · obtain ⟨a, ns, rfl, hS, hlen, kk⟩ := h
    have hz : (sizeLine : Nat) = 16777216 := sizeLine_eq
    refine ⟨_, (pss_cons (ps_set (i := 1) scLaw.nd rfl (Or.inl rfl) (pe_op op_mod (pe_call (GNu.mono (by decide)) hr rfl DNu.m DNu.F.kp bNu .nil pass0 (pa_cons (pv 0) (pa_cons pe_int pa_nil))) pe_int))
      (pss_cons (ps_ifJ (pt_cmpR op_eq (pe_op op_mod (pe_op op_fdiv (pe_call (GNu.mono (by decide)) hr rfl DNu.m DNu.F.kp bNu .nil pass0 (pa_cons (pv 0) (pa_cons pe_int pa_nil))) pe_int) pe_int) pe_int (nomark _)) (pss_one (ps_set (i := 1) scLaw.nd rfl (Or.inl rfl) (pe_op op_mod (pe_op op_fdiv (pe_call (GNu.mono (by decide)) hr rfl DNu.m DNu.F.kp bNu .nil pass0 (pa_cons (pv 0) (pa_cons pe_int pa_nil))) pe_int) pe_int))) pss_nil)
      (pss_cons (ps_set (i := 2) scLaw.nd rfl (Or.inl rfl) (pe_call (GTx.mono (by decide)) hr rfl DTx.m DTx.F.kp bTx .nil pass0 (pa_cons (pe_call (GNu.mono (by decide)) hr rfl DNu.m DNu.F.kp bNu .nil pass0 (pa_cons (pv 0) (pa_cons pe_int pa_nil))) (pa_cons (pe_call (GMe.mono (by decide)) hr rfl DMe.m DMe.F.kp bMe .nil pass0 (pa_cons (pe_call (GNu.mono (by decide)) hr rfl DNu.m DNu.F.kp bNu .nil pass0 (pa_cons (pv 0) (pa_cons pe_int pa_nil))) pa_nil)) (pa_cons (pv 1) pa_nil)))))
      (pss_cons (ps_set (i := 3) scLaw.nd rfl (Or.inl rfl) (pe_call (GSp.mono (by decide)) hr rfl DSp.m DSp.F.kp bSp .nil pass0 (pa_cons (pe_call (GNu.mono (by decide)) hr rfl DNu.m DNu.F.kp bNu .nil pass0 (pa_cons (pv 0) (pa_cons pe_int pa_nil))) (pa_cons (pe_callB call_len_seq rfl T.len b_len (pa_cons (pe_call (GWo.mono (by decide)) hr rfl DWo.m DWo.F.kp bWo .nil pass0 (pa_cons (pv 2) pa_nil)) pa_nil)) pa_nil))))
      (pss_cons (ps_if (pt_cmpR op_eq (pe_op op_mod (pe_call (GNu.mono (by decide)) hr rfl DNu.m DNu.F.kp bNu .nil pass0 (pa_cons (pv 0) (pa_cons pe_int pa_nil))) pe_int) pe_int (nomark _)) (pss_one (ps_ret (pe_call GRf hr rfl DRf.m DRf.F.kp bRf .nil pass0 (pa_cons (pe_op op_fdiv (pe_call (GNu.mono (by decide)) hr rfl DNu.m DNu.F.kp bNu .nil pass0 (pa_cons (pv 0) (pa_cons pe_int pa_nil))) pe_int) (pa_cons (pv 2) (pa_cons (pv 3) pa_nil)))))) pss_nil)
      (pss_cons (ps_set (i := 4) scLaw.nd rfl (Or.inl rfl) (pe_op op_mod (pe_call (GNu.mono (by decide)) hr rfl DNu.m DNu.F.kp bNu .nil pass0 (pa_cons (pv 0) (pa_cons pe_int pa_nil))) pe_int))
      (pss_cons (ps_set (i := 5) scLaw.nd rfl (Or.inl rfl) (pe_ix ix_list (pe_lst (pa_cons pe_int (pa_cons (pe_op op_mod (pe_op op_fdiv (pe_call (GNu.mono (by decide)) hr rfl DNu.m DNu.F.kp bNu .nil pass0 (pa_cons (pv 0) (pa_cons pe_int pa_nil))) pe_int) pe_int) pa_nil))) (pe_callTy call_int1 rfl T.int b_int (pa_cons (pe_cmpR op_gt (pv 4) pe_int (nomark _)) pa_nil)) (fun _ _ => rfl)))
      (pss_cons (ps_set (i := 6) scLaw.nd rfl (Or.inl rfl) (pe_ix ix_list (pe_lst (pa_cons pe_int (pa_cons (pe_op op_mod (pe_op op_fdiv (pe_call (GNu.mono (by decide)) hr rfl DNu.m DNu.F.kp bNu .nil pass0 (pa_cons (pv 0) (pa_cons pe_int pa_nil))) pe_int) pe_int) pa_nil))) (pe_callTy call_int1 rfl T.int b_int (pa_cons (pe_cmpR op_gt (pv 4) pe_int (nomark _)) pa_nil)) (fun _ _ => rfl)))
      (pss_cons (ps_set (i := 7) scLaw.nd rfl (Or.inl rfl) (pe_call (GLP.mono (by decide)) hr rfl DLP.m DLP.F.kp bLP .nil pass0 (pa_cons (pv 2) (pa_cons (pv 3) (pa_cons (pv 5) (pa_cons (pv 6) pa_nil))))))
      (pss_cons (ps_set (i := 8) scLaw.nd rfl (Or.inl rfl) (pe_callTy call_list_of rfl T.list b_list (pa_cons (pv 3) pa_nil)))
      (pss_cons (ps_set (i := 9) scLaw.nd rfl (Or.inl rfl) (pe_call GA hr rfl DA.m DA.F.kp bA .nil pass0 (pa_cons (pv 4) (pa_cons (pv 2) (pa_cons (pv 8) (pa_cons (pv 5) (pa_cons (pv 6) pa_nil)))))))
      (pss_cons (ps_if (PW.pt (pw_or (pt_not (pt_val (pe_call (GKi.mono (by decide)) hr rfl DKi.m DKi.F.kp bKi .nil pass0 (pa_cons (pv 9) pa_nil)))) (pw_or (pt_cmpR (op_neD hr.units100) (pv 9) (pv 7) (nomark _)) (pw_or1 (pt_cmpR (op_neD hr.units100) (pv 8) (pv 3) (nomark _)))))) (pss_one (ps_ret pe_bl)) pss_nil)
      (pss_cons (ps_for PassesOwn.never rfl (pi_list (pv 9)) (pg_name (i := 10) scLaw.nd rfl (Or.inl rfl)) (pss_one (ps_expr (pe_bm PySem.F.plainAttrs_list PySem.F.slot_list_append PySem.F.type_list_append mt_append (pe_ix ix_tup (pv 10) pe_int (fun _ _ => rfl)) (pa_cons (pe_tup (pa_cons pe_int (pa_cons pe_int pa_nil))) pa_nil)))))
      (pss_cons (ps_expr (pe_bm PySem.F.plainAttrs_list PySem.F.slot_list_append PySem.F.type_list_append mt_append (pv 9) (pa_cons pe_non pa_nil)))
      (pss_cons (ps_set (i := 11) scLaw.nd rfl (Or.inl rfl) (pe_call GA hr rfl DA.m DA.F.kp bA .nil pass0 (pa_cons (pv 4) (pa_cons (pv 2) (pa_cons (pv 8) (pa_cons (pv 5) (pa_cons (pv 6) pa_nil)))))))
      (pss_cons (ps_if (PW.pt (pw_or (pt_cmpR (op_neD hr.units100) (pv 11) (pv 7) (nomark _)) (pw_or1 (pt_cmpR (op_neD hr.units100) (pe_comp (own := 1) (caps := []) (N := ["_law_piece"]) (N0 := ["_law_script", "_law_many", "_law_text_here", "_law_spans_here", "_law_way", "_law_around", "_law_most", "_law_due", "_law_handed", "_law_found", "_law_piece", "_law_again"]) (sc0 := defScope lLaw) rfl (pi_list (pe_slice sl_list (pv 9) po_none (po_some (pe_un un_neg pe_int)))) (fun _ _ _ => pg_name (i := 0) ndPi rfl (Or.inl rfl)) (fun _ _ _ => pf_none) (fun _ _ _ => pe_ix (ix_listK (K := K) rfl) (pe_ix (ix_tupK (K := K) rfl) (pv 0) pe_int (fun _ _ => rfl)) (pe_un un_neg pe_int) (fun _ _ => rfl)) (gk_name (by decide)) rfl rfl
        (by decide +kernel) rfl (by decide +kernel) (by decide +kernel) rfl (by decide +kernel)) (pe_op op_rep (pe_lst (pa_cons (pe_tup (pa_cons pe_int (pa_cons pe_int pa_nil))) pa_nil)) (pe_callB call_len_seq rfl T.len b_len (pa_cons (pv 7) pa_nil))) (nomark _))))) (pss_one (ps_ret pe_bl)) pss_nil)
      (pss_one (ps_ret (pe_and (pe_cmp (pc_isN (pe_ix ix_list (pv 9) (pe_un un_neg pe_int) (fun _ _ => rfl)))) (pe_one (pe_cmpR (op_eqD hr.units100) (pv 8) (pv 3) (nomark _)))))))))))))))))))))), ?_⟩
    refine ⟨_, rfl, a, ns, 0, rfl, hS, hlen, by decide, fun n0 H1 _ _ s1 => ⟨_, _, rfl, rfl, (by show (0 : Int) < 17; decide), ?_⟩⟩
    refine ⟨fun σ' H' => ∃ n : Nat, σ' = [some (.ref a), some (.int (n : Int)), none, none, none, none, none, none, none, none, none, none] ∧ Same H H' ∧ n ≤ 150, ?_, ?_⟩
    · refine ⟨_, rfl, a, ns, 0, rfl, s1.seq hS, hlen, by decide, fun n1 H2 _ _ s2 => ⟨_, _, rfl, rfl, ⟨by decide, by decide⟩, _, _, rfl, rfl, (by show (0 : Int) < 9; decide), rfl, _, rfl, ite2 (fun _ => ?_) fun _ => ?_⟩⟩
      · refine ⟨_, rfl, a, ns, 0, rfl, (s1.trans s2).seq hS, hlen, by decide, fun n2 H3 _ _ s3 => ⟨_, _, rfl, rfl, ⟨by decide, by decide⟩, _, _, rfl, rfl, (by show (0 : Int) < 151; decide), ?_⟩⟩
        obtain ⟨k, hk, hkl⟩ := mod_ix (r := n2 / 153) (n := 151) (by decide)
        exact ⟨k, by rw [hk]; rfl, (s1.trans s2).trans s3, by omega⟩
      · obtain ⟨k, hk, hkl⟩ := mod_ix (r := n0) (n := 17) (by decide)
        exact ⟨k, by rw [hk]; rfl, s1.trans s2, by omega⟩
    rintro σ' H2 ⟨many, rfl, s2, hmany⟩
    refine ⟨_, rfl, a, ns, 1, rfl, s2.seq hS, hlen, by decide, fun t1 H3 _ _ s3 => ⟨_, rfl, a, ns, 2, rfl, (s2.trans s3).seq hS, hlen, by decide, fun t2 H4 _ _ s4 => ⟨t2, rfl, fun mn H5 ws s5 eM w5 hW => ⟨_, rfl, t1, mn, ws, many, rfl, hmany, eM, w5, hW, fun z H6 s6 lz oz nz => ?_⟩⟩⟩⟩
    have hd : Drawn z := ⟨lz, oz⟩
    have u6 := ((s2.trans s3).trans (s4.trans s5)).trans s6
    refine ⟨_, rfl, a, ns, 3, rfl, u6.seq hS, hlen, by decide, fun t3 H7 _ _ s7 => ⟨_, rfl, z, rfl, hd, fun W H8 s8 hW0 hWL => ?_⟩⟩
    obtain ⟨ps, eW, pW⟩ := hWL.ex
    have pl : (ps.map V.ref).length = (words (codes z)).length := by rw [List.length_map, Paired.len pW]
    refine ⟨W, _, rfl, .inl (SqL.of eW), t3, _, rfl, by omega, fun p3 H9 rs s9 hp3 hR hok hrl => ?_⟩
    rw [pl] at hok
    have u9 := u6.trans (s7.trans (s8.trans s9))
    refine ⟨_, rfl, a, ns, 4, rfl, u9.seq hS, hlen, by decide, fun t4 H10 _ _ s10 => ⟨_, _, rfl, rfl, (by show (0 : Int) < 4; decide), rfl, _, rfl, ite2 (fun _ => ?_) fun _ => ?_⟩⟩
    · refine ⟨_, rfl, a, ns, 4, rfl, (u9.trans s10).seq hS, hlen, by decide, fun t5 H11 _ _ s11 => ⟨_, _, rfl, rfl, ⟨by decide, by decide⟩, _, rfl, _, rfl, _, z, p3, rs, rfl, hd, (hR.same s10).same s11, hok, by omega, hrl, kk⟩⟩
    · refine ⟨_, rfl, a, ns, 5, rfl, (u9.trans s10).seq hS, hlen, by decide, fun t5 H11 _ _ s11 => ⟨_, _, rfl, rfl, (by show (0 : Int) < 4; decide), ?_⟩⟩
      obtain ⟨wy, hwy, hwl⟩ := mod_ix (r := t5) (n := 4) (by decide)
      show gName 4 (V.int (t5 % 4)) _ _ _
      rw [← hwy]
      have u11 := u9.trans (s10.trans s11)
      refine ⟨_, rfl, a, ns, 5, rfl, u11.seq hS, hlen, by decide, fun t7 H12 _ _ s12 => ⟨_, _, rfl, rfl, ⟨by decide, by decide⟩, _, _, rfl, rfl, (by show (0 : Int) < 6; decide), (by show 2 ≤ sizeLine; omega), fun u hu => ?_⟩⟩
      refine ⟨_, rfl, _, _, rfl, rfl, .inr ⟨_, rfl, pickI upd_same (Int.emod_nonneg _ (by decide)) fun ar har => ?_⟩⟩
      have w0 : wy = 0 → ar = 3 := fun e => har (decide_eq_false (by omega))
      have v12 : Same H12 (upd H12 u (.lst [.int 3, .int (t7 / 4 % 6)])) := same_upd hu
      generalize upd H12 u (.lst [.int 3, .int (t7 / 4 % 6)]) = H13 at v12 ⊢
      have u13 := u11.trans (s12.trans v12)
      refine ⟨_, rfl, a, ns, 5, rfl, u13.seq hS, hlen, by decide, fun t8 H14 _ _ s14 => ⟨_, _, rfl, rfl, ⟨by decide, by decide⟩, _, _, rfl, rfl, (by show (0 : Int) < 7; decide), (by show 2 ≤ sizeLine; omega), fun u2 hu2 => ?_⟩⟩
      refine ⟨_, rfl, _, _, rfl, rfl, .inr ⟨_, rfl, pickI upd_same (Int.emod_nonneg _ (by decide)) fun mo hmo => ?_⟩⟩
      have w1 : wy ≤ 1 → mo = 3 := fun e => hmo (decide_eq_false (by omega))
      have v14 : Same H14 (upd H14 u2 (.lst [.int 3, .int (t8 / 24 % 7)])) := same_upd hu2
      generalize upd H14 u2 (.lst [.int 3, .int (t8 / 24 % 7)]) = H15 at v14 ⊢
      have r15 : Same H9 H15 := (s10.trans s11).trans ((s12.trans v12).trans (s14.trans v14))
      have hR15 := hR.same r15
      refine ⟨_, rfl, _, rfl, _, rfl, _, rfl, z, p3, ar, mo, rs, rfl, hd, hR15, hok, by omega, by omega, fun ms mk rM cM rK cK lM d H16 s16 hd0 hD => ?_⟩
      have hR16 := hR15.same s16
      obtain ⟨qs, eQ, pQ⟩ := hR16.ex
      refine ⟨_, rfl, p3, _, rfl, .inl (SqL.of eQ), fun h hh => ?_⟩
      have s17 := same_upd (o := .lst (qs.map V.ref)) hh
      have hH17 : PrL (upd H16 h (.lst (qs.map V.ref))) h rs := ⟨qs, upd_same, Paired.imp2 pQ fun _ _ q => s17 _ _ q⟩
      have hR17 := hR16.same s17
      generalize upd H16 h (.lst (qs.map V.ref)) = H17 at s17 hH17 hR17 ⊢
      refine ⟨_, rfl, _, rfl, _, rfl, _, rfl, _, rfl, wy, z, h, ar, mo, rs, rfl, w0, w1, hd, hH17, hok, by omega, by omega, fun ms' mk' rM' cM' rK' cK' lM' lK' fo H18 s18 hfo hF => ?_⟩
      have em : ms' = ms := WN.Rs.uniq rM' rM fun x => (cM' x).trans (cM x).symm
      have ek : mk' = mk := WN.Rs.uniq rK' rK fun x => (cK' x).trans (cK x).symm
      subst em ek
      have plk : (pcs (words (codes z)) (ms'.take mo) mk').length ≤ 64 := by
        unfold pcs
        rw [List.length_map, List.length_take]
        omega
      have pmk : ∀ x ∈ pcs (words (codes z)) (ms'.take mo) mk', x.2.2.length ≤ 64 := fun x hx => by
        obtain ⟨y, _, rfl⟩ := List.mem_map.mp hx
        show ((mks mk' y).map _).length ≤ 64
        rw [List.length_map]
        exact Nat.le_trans (List.length_filter_le _ _) lK'
      generalize hxs : pcs (words (codes z)) (ms'.take mo) mk' = xs at *
      refine ⟨_, rfl, H17, fo, xs, rfl, hF, plk, pmk, fun H19 s19 => ⟨_, rfl, iteF ?_⟩⟩
      have y19 := s18.trans s19
      refine ⟨_, rfl, _, rfl, _, _, hF.dt s19, hD.dt (s17.trans y19), lay_pc, lay_pc, dep_pc _ _, _, rfl, ?_⟩
      rw [eqv_same lay_pc]
      refine iteF ⟨_, rfl, _, rfl, _, _, (hH17.same y19).dt, (hR17.same y19).dt, lay_pr, lay_pr, dep_pr _ _, _, rfl, ?_⟩
      rw [eqv_same lay_pr]
      obtain ⟨fs, eF0, pF0, nF⟩ := hF.ex
      have flen := Paired.len pF0
      have eF := s19 _ _ eF0
      refine iteF ⟨_, rfl, fo, rfl, ⟨_, SqL.of eF⟩, ?_⟩
      refine for_list (xs := fs.map V.ref) (fun i σ H' => (∃ o10, σ = [some (.ref a), some (.int (many : Int)), some (.str z), some (.ref p3), some (.int (wy : Int)), some (.int (ar : Int)), some (.int (mo : Int)), some (.ref d), some (.ref h), some (.ref fo), o10, none]) ∧ Same H17 H' ∧ H' fo = some (.lst (fs.map V.ref)) ∧ ∀ j q, fs[j]? = some q → Gr H17 H' fo q i (j < i)) ⟨⟨none, rfl⟩, y19, eF, fun j q hj => ?_⟩ (fun i σ H' _ q => SqL.of q.2.2.1) ?_ ?_
      · obtain ⟨x, hxj, l, e1, hl1, hl2⟩ := paired_get pF0 hj
        obtain ⟨us, eu, pu⟩ := hl1.ex
        exact ⟨x.1, x.2.1, l, _, s19 _ _ e1, s19 _ _ eu, hl2, nF q (List.mem_of_getElem? hj) _ _ _ e1, by rw [List.length_map, Paired.len pu]; have := pmk x (List.mem_of_getElem? hxj); omega, fun z => absurd z (by omega)⟩
      · rintro i v σ H' hv ⟨⟨o10, rfl⟩, sm, eFo, hG⟩
        rw [List.getElem?_map] at hv
        cases hpi : fs[i]? with
        | none => rw [hpi] at hv; cases hv
        | some q =>
          rw [hpi] at hv
          have hv' : v = .ref q := (Option.some.inj hv).symm
          subst hv'
          have hi64 : i < 64 := by have := (List.getElem?_eq_some_iff.mp hpi).1; omega
          obtain ⟨b, e, l, us, g1', g2', g3', g4', g5', _⟩ := (hG i q hpi).ex
          refine ⟨_, rfl, q, _, _, _, rfl, rfl, SqT.of g1', atI_nat (j := 2) rfl, .inl ⟨rfl, _, SqL.of g2'⟩, (by show 2 ≤ sizeLine; omega), fun t ht => ?_⟩
          have sT := same_upd (o := .tup [.int 0, .int 0]) ht
          have tT : TuA (upd H' t (.tup [.int 0, .int 0])) t (0, 0) := upd_same
          have g2T := sT _ _ g2'
          refine ⟨l, _, _, rfl, rfl, g2T, by omega, ?_⟩
          refine ⟨⟨_, rfl⟩, same_put (sm.trans sT) g3', by rw [upd_ne (Ne.symm g4')]; exact sT _ _ eFo, fun j q' hj => ?_⟩
          have gj := ((hG j q' hj).same sT).grow g2T tT g5' g4'
          by_cases ej : j = i
          · subst ej
            have eq' : q' = q := Option.some.inj (hj.symm.trans hpi)
            subst eq'
            refine ⟨b, e, l, us ++ [.ref t], ?_, upd_same, g3', g4', by rw [List.length_append]; show _ + 1 ≤ _; omega, fun _ => ⟨us, t, rfl, TuA.upd tT g2T⟩⟩
            rw [upd_ne (fun z => by rw [z, g2'] at g1'; cases g1')]
            exact sT _ _ g1'
          · obtain ⟨b', e', l', us', k1, k2, k3, k4, k5, k6⟩ := gj.ex
            exact ⟨b', e', l', us', k1, k2, k3, k4, k5, fun z => k6 (by omega)⟩
      · rintro σ H20 ⟨⟨o10, rfl⟩, sm, eFo, hG⟩
        rw [List.length_map] at hG
        refine ⟨_, rfl, .inl ⟨rfl, _, SqL.of eFo⟩, fo, _, _, rfl, rfl, eFo, by rw [List.length_map]; omega, ?_⟩
        have sm21 := same_put (o := .lst (fs.map V.ref ++ [.non])) sm hfo
        have eF21 : upd H20 fo (.lst (fs.map V.ref ++ [.non])) fo = some (.lst (fs.map V.ref ++ [.non])) := upd_same
        have hG21 : ∀ j q, fs[j]? = some q → Gr H17 (upd H20 fo (.lst (fs.map V.ref ++ [.non]))) fo q fs.length (j < fs.length) := fun j q hj => (hG j q hj).fo eFo
        generalize upd H20 fo (.lst (fs.map V.ref ++ [.non])) = H21 at sm21 eF21 hG21 ⊢
        have hH21 := hH17.same sm21
        refine ⟨_, rfl, _, rfl, _, rfl, _, rfl, _, rfl, wy, z, h, ar, mo, rs, rfl, w0, w1, hd, hH21, hok, by omega, by omega, fun ms2 mk2 rM2 cM2 rK2 cK2 lM2 lK2 ag H22 s22 hag hA => ?_⟩
        have em2 : ms2 = ms' := WN.Rs.uniq rM2 rM' fun x => (cM2 x).trans (cM' x).symm
        have ek2 : mk2 = mk' := WN.Rs.uniq rK2 rK' fun x => (cK2 x).trans (cK' x).symm
        rw [em2, ek2, hxs] at hA
        have y22 := sm21.trans s22
        refine ⟨_, rfl, _, rfl, _, _, hA.dt (fun _ _ h => h), hD.dt (s17.trans y22), lay_pc, lay_pc, dep_pc _ _, _, rfl, ?_⟩
        rw [eqv_same lay_pc]
        have eF22 := s22 _ _ eF21
        have hG22 : ∀ j q, fs[j]? = some q → Gr H17 H22 fo q fs.length (j < fs.length) := fun j q hj => (hG21 j q hj).same s22
        refine iteF ⟨_, rfl, _, rfl, _, rfl, fo, _, rfl, SqL.of eF22, fun p hp => ?_⟩
        rw [cut_last]
        have s23 := same_upd (o := .lst (fs.map V.ref)) hp
        have e23 : upd H22 p (.lst (fs.map V.ref)) p = some (.lst (fs.map V.ref)) := upd_same
        generalize upd H22 p (.lst (fs.map V.ref)) = H23 at s23 e23 ⊢
        refine ⟨p, rfl, ⟨_, SqL.of e23⟩, ?_⟩
        refine comp_itl (xs := fs.map V.ref) (fun j ys G => G = H23 ∧ ∃ ts : List Addr, ys = ts.map V.ref ∧ ts.length = j ∧ ∀ t ∈ ts, TuA H23 t (0, 0)) (by rw [List.length_map]; omega) (fun j ys G q => by rw [q.1]; exact SqL.of e23) ⟨rfl, [], rfl, rfl, fun t h => nomatch h⟩ ?_ ?_
        · rintro j v ys G N hv ⟨rfl, ts, rfl, htl, hts⟩ hN
          rw [List.getElem?_map] at hv
          cases hpj : fs[j]? with
          | none => rw [hpj] at hv; cases hv
          | some q =>
            rw [hpj] at hv
            have hv' : v = .ref q := (Option.some.inj hv).symm
            subst hv'
            have hj := (List.getElem?_eq_some_iff.mp hpj).1
            obtain ⟨b, e, l, us, k1, k2, _, _, _, k6⟩ := ((hG22 j q hpj).same s23).ex
            obtain ⟨us0, t, rfl, ht⟩ := k6 hj
            refine g1 ?_
            refine ⟨_, rfl, q, _, _, _, rfl, rfl, SqT.of k1, atI_nat (j := 2) rfl, _, rfl, l, _, _, .ref t, rfl, rfl, SqL.of k2, at_last _ _, hN _ _ ⟨rfl, ts ++ [t], by rw [List.map_append]; rfl, by rw [List.length_append, htl]; rfl, fun t' h' => ?_⟩⟩
            rcases List.mem_append.mp h' with c | c
            · exact hts t' c
            · rw [List.mem_singleton.mp c]; exact ht
        · rintro ys G ⟨rfl, ts, rfl, htl, hts⟩ _ u hu
          rw [List.length_map] at htl
          have s24 := same_upd (o := .lst (ts.map V.ref)) hu
          refine ⟨(by show 2 ≤ sizeLine; omega), fun t2 ht2 => ⟨(by show 1 ≤ sizeLine; omega), fun l2 hl2 => ?_⟩⟩
          have s25 := same_upd (o := .tup [.int 0, .int 0]) ht2
          have s26 := same_upd (o := .lst [.ref t2]) hl2
          have z3 := s24.trans (s25.trans s26)
          have y26 := (y22.trans s23).trans z3
          obtain ⟨dps, eD, pD, _⟩ := hD.ex
          have dlen := Paired.len pD
          have dl : ((((dps.map V.ref).length : Nat) : Int)).toNat = xs.length := by rw [List.length_map, dlen]; rfl
          refine ⟨_, rfl, d, _, rfl, .inl (SqL.of ((s17.trans y26) _ _ eD)), l2, _, _, rfl, rfl, upd_same, by omega, by rw [List.length_map]; omega, (by rw [dl]; show 1 * _ ≤ _; omega), fun p5 hp5 => ?_⟩
          rw [dl, flat_rep]
          have s27 := same_upd (o := .lst (List.replicate xs.length (V.ref t2))) hp5
          have tt2 : TuA (upd (upd G u (.lst (ts.map V.ref))) t2 (.tup [.int 0, .int 0])) t2 (0, 0) := upd_same
          have hX : PrL (upd (upd (upd (upd G u (.lst (ts.map V.ref))) t2 (.tup [.int 0, .int 0])) l2 (.lst [.ref t2])) p5 (.lst (List.replicate xs.length (V.ref t2)))) p5 (List.replicate xs.length (0, 0)) := by
            have q := zer (ts := List.replicate xs.length t2) (H := upd (upd (upd (upd G u (.lst (ts.map V.ref))) t2 (.tup [.int 0, .int 0])) l2 (.lst [.ref t2])) p5 (.lst (List.replicate xs.length (V.ref t2)))) (fun t h => by rw [List.eq_of_mem_replicate h]; exact s27 _ _ (s26 _ _ tt2))
            rw [List.length_replicate] at q
            exact ⟨List.replicate xs.length t2, by rw [upd_same, List.map_replicate], q⟩
          have zz := z3.trans s27
          have hY : PrL (upd (upd (upd (upd G u (.lst (ts.map V.ref))) t2 (.tup [.int 0, .int 0])) l2 (.lst [.ref t2])) p5 (.lst (List.replicate xs.length (V.ref t2)))) u (List.replicate xs.length (0, 0)) := by
            have q := zer (ts := ts) (H := upd (upd (upd (upd G u (.lst (ts.map V.ref))) t2 (.tup [.int 0, .int 0])) l2 (.lst [.ref t2])) p5 (.lst (List.replicate xs.length (V.ref t2)))) (fun t h => zz _ _ (hts t h))
            rw [show ts.length = xs.length by omega] at q
            exact ⟨ts, s27 _ _ (s26 _ _ (s25 _ _ upd_same)), q⟩
          have yE := (y22.trans s23).trans zz
          have eFE := zz _ _ (s23 _ _ eF22)
          generalize upd (upd (upd (upd G u (.lst (ts.map V.ref))) t2 (.tup [.int 0, .int 0])) l2 (.lst [.ref t2])) p5 (.lst (List.replicate xs.length (V.ref t2))) = HE at hX hY yE eFE ⊢
          refine ⟨_, _, hY.dt, hX.dt, lay_pr, lay_pr, dep_pr _ _, _, rfl, ?_⟩
          rw [eqv_same lay_pr]
          refine iteF ⟨_, rfl, _, rfl, fo, _, _, .non, rfl, rfl, SqL.of eFE, at_last _ _, _, rfl, ?_⟩
          refine iteT ⟨_, rfl, _, rfl, _, _, (hH17.same yE).dt, (hR17.same yE).dt, lay_pr, lay_pr, dep_pr _ _, ?_⟩
          rw [eqv_same lay_pr]
          exact kk _
end
end K23
set_option Elab.async false
set_option linter.all false
set_option maxRecDepth 100000
set_option maxHeartbeats 4000000
namespace K23
open PySem L2 PyProof.Rows PySem.Spec Gn
open K01
section
variable {P : Program} {w : World} {K : PySem.W.Frag} {mg : Str → Option Value} {base h : Heap}
theorem txt_mk (X : K.In h) (G : h.Ns mainGlobals mg)
    (n0 : PySem.W.nsIn K mainGlobals "isinstance" = some none) (n1 : PySem.W.nsIn K mainGlobals "int" = some none) (n2 : PySem.W.nsIn K mainGlobals "bool" = some none) (n3 : PySem.W.nsIn K mainGlobals "str" = some none) (n4 : PySem.W.nsIn K mainGlobals "list" = some none) (n5 : PySem.W.nsIn K mainGlobals "tuple" = some none) (n6 : PySem.W.nsIn K mainGlobals "len" = some none) (n7 : PySem.W.nsIn K mainGlobals "all" = some none) (n8 : PySem.W.nsIn K mainGlobals "ord" = some none) (n9 : PySem.W.nsIn K mainGlobals "range" = some none) (n10 : PySem.W.nsIn K mainGlobals "enumerate" = some none) (n11 : PySem.W.nsIn K mainGlobals "ValueError" = some none) (n12 : PySem.W.nsIn K mainGlobals "sorted" = some none) (n13 : PySem.W.nsIn K mainGlobals "min" = some none) (n14 : PySem.W.nsIn K mainGlobals "max" = some none)
    {t0 t1 t2 : Tok} (c0 : PySem.W.nsIn K mainGlobals "MOST_TEXT_SIGNS" = some (some (.int 2000 t0))) (c1 : PySem.W.nsIn K mainGlobals "SMALL_SIGNS" = some (some (.str "abcdefghijklmnopqrstuvwxyz0123456789" t1))) (c2 : PySem.W.nsIn K mainGlobals "PERCENT_NUMBER" = some (some (.int 37 t2))) : Txt mg where
  cText := ⟨t0, PySem.W.mg_of X G c0⟩
  cSmall := ⟨t1, PySem.W.mg_of X G c1⟩
  cPer := ⟨t2, PySem.W.mg_of X G c2⟩
  isi := PySem.W.mg_none_of X G n0
  int := PySem.W.mg_none_of X G n1
  bool := PySem.W.mg_none_of X G n2
  str := PySem.W.mg_none_of X G n3
  list := PySem.W.mg_none_of X G n4
  tuple := PySem.W.mg_none_of X G n5
  len := PySem.W.mg_none_of X G n6
  all := PySem.W.mg_none_of X G n7
  ord := PySem.W.mg_none_of X G n8
  range := PySem.W.mg_none_of X G n9
  enum := PySem.W.mg_none_of X G n10
  val := PySem.W.mg_none_of X G n11
  sorted := PySem.W.mg_none_of X G n12
  min := PySem.W.mg_none_of X G n13
  max := PySem.W.mg_none_of X G n14
theorem cl_mk {CH c0 c1 c2 c3 c4 c5 c6 c7 c8 c9 c10 c11 c12 : Addr} (X : K.In h) (G : h.Ns mainGlobals mg)
    (aH : PySem.W.nsIn K mainGlobals "HallError" = some (some (.ref CH)))
    (a0 : PySem.W.nsIn K mainGlobals "BadText" = some (some (.ref c0)))
    (a1 : PySem.W.nsIn K mainGlobals "BadNumber" = some (some (.ref c1)))
    (a2 : PySem.W.nsIn K mainGlobals "BadSpan" = some (some (.ref c2)))
    (a3 : PySem.W.nsIn K mainGlobals "BadAsk" = some (some (.ref c3)))
    (a4 : PySem.W.nsIn K mainGlobals "BadKept" = some (some (.ref c4)))
    (a5 : PySem.W.nsIn K mainGlobals "BadKey" = some (some (.ref c5)))
    (a6 : PySem.W.nsIn K mainGlobals "BadParts" = some (some (.ref c6)))
    (a7 : PySem.W.nsIn K mainGlobals "BadRow" = some (some (.ref c7)))
    (a8 : PySem.W.nsIn K mainGlobals "BadWord" = some (some (.ref c8)))
    (a9 : PySem.W.nsIn K mainGlobals "NoAsk" = some (some (.ref c9)))
    (a10 : PySem.W.nsIn K mainGlobals "NoLine" = some (some (.ref c10)))
    (a11 : PySem.W.nsIn K mainGlobals "NoText" = some (some (.ref c11)))
    (a12 : PySem.W.nsIn K mainGlobals "Twice" = some (some (.ref c12)))
    (hn : PySem.W.specialIn K (.builtin "object.__class__") "__get__" = some (some (.builtin "getset_descriptor.__get__")))
    (ht : PySem.W.takesIn K (.builtin "object.__class__") = some true)
    {cd0 : ClassData}
    (cl0 : PySem.W.clsIn K c0 = some cd0)
    (ga0 : PySem.W.findIn K (.ref c0) "__getattribute__" = some (some (.builtin "BaseException.__getattribute__")))
    (hk0 : PySem.W.findIn K (.ref c0) "__getattr__" = some none)
    (ha0 : PySem.W.findIn K (.ref c0) "__class__" = some (some (.builtin "object.__class__")))
    (hm0 : PySem.W.mroIn K c0 (.type "object") = some true)
    (hb0 : PySem.W.mroIn K c0 (.type "BaseException") = some true)
    (q0_0 : PySem.W.kitOne K (.ref c0) (.ref c0) = some true)
    (q1_0 : PySem.W.kitOne K (.ref c0) (.ref c1) = some false)
    (q2_0 : PySem.W.kitOne K (.ref c0) (.ref c2) = some false)
    (q3_0 : PySem.W.kitOne K (.ref c0) (.ref c3) = some false)
    (q4_0 : PySem.W.kitOne K (.ref c0) (.ref c4) = some false)
    (q5_0 : PySem.W.kitOne K (.ref c0) (.ref c5) = some false)
    (q6_0 : PySem.W.kitOne K (.ref c0) (.ref c6) = some false)
    (q7_0 : PySem.W.kitOne K (.ref c0) (.ref c7) = some false)
    (q8_0 : PySem.W.kitOne K (.ref c0) (.ref c8) = some false)
    (q9_0 : PySem.W.kitOne K (.ref c0) (.ref c9) = some false)
    (q10_0 : PySem.W.kitOne K (.ref c0) (.ref c10) = some false)
    (q11_0 : PySem.W.kitOne K (.ref c0) (.ref c11) = some false)
    (q12_0 : PySem.W.kitOne K (.ref c0) (.ref c12) = some false)
    (v0 : PySem.W.kitOne K (.ref c0) (.type "ValueError") = some true)
    (e0 : PySem.W.exmOne K (.ref c0) (.ref CH) = some true)
    (x0 : PySem.W.excIn K c0 [.type "ValueError", .type "Exception", .type "BaseException", .type "object"] "ValueError.__new__" = true)
    {cd1 : ClassData}
    (cl1 : PySem.W.clsIn K c1 = some cd1)
    (ga1 : PySem.W.findIn K (.ref c1) "__getattribute__" = some (some (.builtin "BaseException.__getattribute__")))
    (hk1 : PySem.W.findIn K (.ref c1) "__getattr__" = some none)
    (ha1 : PySem.W.findIn K (.ref c1) "__class__" = some (some (.builtin "object.__class__")))
    (hm1 : PySem.W.mroIn K c1 (.type "object") = some true)
    (hb1 : PySem.W.mroIn K c1 (.type "BaseException") = some true)
    (q0_1 : PySem.W.kitOne K (.ref c1) (.ref c0) = some false)
    (q1_1 : PySem.W.kitOne K (.ref c1) (.ref c1) = some true)
    (q2_1 : PySem.W.kitOne K (.ref c1) (.ref c2) = some false)
    (q3_1 : PySem.W.kitOne K (.ref c1) (.ref c3) = some false)
    (q4_1 : PySem.W.kitOne K (.ref c1) (.ref c4) = some false)
    (q5_1 : PySem.W.kitOne K (.ref c1) (.ref c5) = some false)
    (q6_1 : PySem.W.kitOne K (.ref c1) (.ref c6) = some false)
    (q7_1 : PySem.W.kitOne K (.ref c1) (.ref c7) = some false)
    (q8_1 : PySem.W.kitOne K (.ref c1) (.ref c8) = some false)
    (q9_1 : PySem.W.kitOne K (.ref c1) (.ref c9) = some false)
    (q10_1 : PySem.W.kitOne K (.ref c1) (.ref c10) = some false)
    (q11_1 : PySem.W.kitOne K (.ref c1) (.ref c11) = some false)
    (q12_1 : PySem.W.kitOne K (.ref c1) (.ref c12) = some false)
    (v1 : PySem.W.kitOne K (.ref c1) (.type "ValueError") = some true)
    (e1 : PySem.W.exmOne K (.ref c1) (.ref CH) = some true)
    (x1 : PySem.W.excIn K c1 [.type "ValueError", .type "Exception", .type "BaseException", .type "object"] "ValueError.__new__" = true)
    {cd2 : ClassData}
    (cl2 : PySem.W.clsIn K c2 = some cd2)
    (ga2 : PySem.W.findIn K (.ref c2) "__getattribute__" = some (some (.builtin "BaseException.__getattribute__")))
    (hk2 : PySem.W.findIn K (.ref c2) "__getattr__" = some none)
    (ha2 : PySem.W.findIn K (.ref c2) "__class__" = some (some (.builtin "object.__class__")))
    (hm2 : PySem.W.mroIn K c2 (.type "object") = some true)
    (hb2 : PySem.W.mroIn K c2 (.type "BaseException") = some true)
    (q0_2 : PySem.W.kitOne K (.ref c2) (.ref c0) = some false)
    (q1_2 : PySem.W.kitOne K (.ref c2) (.ref c1) = some false)
    (q2_2 : PySem.W.kitOne K (.ref c2) (.ref c2) = some true)
    (q3_2 : PySem.W.kitOne K (.ref c2) (.ref c3) = some false)
    (q4_2 : PySem.W.kitOne K (.ref c2) (.ref c4) = some false)
    (q5_2 : PySem.W.kitOne K (.ref c2) (.ref c5) = some false)
    (q6_2 : PySem.W.kitOne K (.ref c2) (.ref c6) = some false)
    (q7_2 : PySem.W.kitOne K (.ref c2) (.ref c7) = some false)
    (q8_2 : PySem.W.kitOne K (.ref c2) (.ref c8) = some false)
    (q9_2 : PySem.W.kitOne K (.ref c2) (.ref c9) = some false)
    (q10_2 : PySem.W.kitOne K (.ref c2) (.ref c10) = some false)
    (q11_2 : PySem.W.kitOne K (.ref c2) (.ref c11) = some false)
    (q12_2 : PySem.W.kitOne K (.ref c2) (.ref c12) = some false)
    (v2 : PySem.W.kitOne K (.ref c2) (.type "ValueError") = some true)
    (e2 : PySem.W.exmOne K (.ref c2) (.ref CH) = some true)
    (x2 : PySem.W.excIn K c2 [.type "ValueError", .type "Exception", .type "BaseException", .type "object"] "ValueError.__new__" = true)
    : ∃ (CH : Addr) (cs : Nat → Addr), Cl mg CH cs ∧ CF K CH cs 0 ∧ CF K CH cs 1 ∧ CF K CH cs 2 ∧ Ex K mg "BadText" (cs 0) ∧ Ex K mg "BadNumber" (cs 1) ∧ Ex K mg "BadSpan" (cs 2) :=
  ⟨CH, (fun j => ([c0, c1, c2, c3, c4, c5, c6, c7, c8, c9, c10, c11, c12] : List Addr).getD j 0), ⟨PySem.W.mg_of X G aH, PySem.W.mg_of X G a0, PySem.W.mg_of X G a1, PySem.W.mg_of X G a2, PySem.W.mg_of X G a3, PySem.W.mg_of X G a4, PySem.W.mg_of X G a5, PySem.W.mg_of X G a6, PySem.W.mg_of X G a7, PySem.W.mg_of X G a8, PySem.W.mg_of X G a9, PySem.W.mg_of X G a10, PySem.W.mg_of X G a11, PySem.W.mg_of X G a12⟩, ⟨⟨by rw [show PySem.W.clsIn K ((fun j => ([c0, c1, c2, c3, c4, c5, c6, c7, c8, c9, c10, c11, c12] : List Addr).getD j 0) 0) = _ from cl0]; rfl, ga0, hk0, ha0, hn, ht, hm0, hb0⟩, (fun j hj => match j, hj with | 0, _ => q0_0 | 1, _ => q1_0 | 2, _ => q2_0 | 3, _ => q3_0 | 4, _ => q4_0 | 5, _ => q5_0 | 6, _ => q6_0 | 7, _ => q7_0 | 8, _ => q8_0 | 9, _ => q9_0 | 10, _ => q10_0 | 11, _ => q11_0 | 12, _ => q12_0 | n + 13, hj => absurd hj (by omega)), v0, e0, by decide⟩, ⟨⟨by rw [show PySem.W.clsIn K ((fun j => ([c0, c1, c2, c3, c4, c5, c6, c7, c8, c9, c10, c11, c12] : List Addr).getD j 0) 1) = _ from cl1]; rfl, ga1, hk1, ha1, hn, ht, hm1, hb1⟩, (fun j hj => match j, hj with | 0, _ => q0_1 | 1, _ => q1_1 | 2, _ => q2_1 | 3, _ => q3_1 | 4, _ => q4_1 | 5, _ => q5_1 | 6, _ => q6_1 | 7, _ => q7_1 | 8, _ => q8_1 | 9, _ => q9_1 | 10, _ => q10_1 | 11, _ => q11_1 | 12, _ => q12_1 | n + 13, hj => absurd hj (by omega)), v1, e1, by decide⟩, ⟨⟨by rw [show PySem.W.clsIn K ((fun j => ([c0, c1, c2, c3, c4, c5, c6, c7, c8, c9, c10, c11, c12] : List Addr).getD j 0) 2) = _ from cl2]; rfl, ga2, hk2, ha2, hn, ht, hm2, hb2⟩, (fun j hj => match j, hj with | 0, _ => q0_2 | 1, _ => q1_2 | 2, _ => q2_2 | 3, _ => q3_2 | 4, _ => q4_2 | 5, _ => q5_2 | 6, _ => q6_2 | 7, _ => q7_2 | 8, _ => q8_2 | 9, _ => q9_2 | 10, _ => q10_2 | 11, _ => q11_2 | 12, _ => q12_2 | n + 13, hj => absurd hj (by omega)), v2, e2, by decide⟩, ⟨PySem.W.mg_of X G a0, x0⟩, ⟨PySem.W.mg_of X G a1, x1⟩, ⟨PySem.W.mg_of X G a2, x2⟩⟩
theorem dfd2_mk {x : Str} {st : Stmt} {f T : Addr} {oc kV doc pm cd ct tc : Value} {od an td : Option Addr} {sl tsl : Array (Option Value)} {items : Array Value} {tn : Nat} {n1 n2 : Int} (X : K.In h) (G : h.Ns mainGlobals mg) (a : PySem.W.nsIn K mainGlobals x = some (some (.ref f)))
    (l : K.lookup f = some ⟨oc, od, .func (PySem.W.fnOf x x (defArgs st) (defBody st) (defScope st) (.ref T) kV doc pm an cd ct), sl⟩) (c : PySem.W.codeIn K cd x = true) (k : PySem.W.keepIn K (.ref f) = true)
    (t : K.lookup T = some ⟨tc, td, .seq items tn, tsl⟩) (e : ∃ t1 t2, items = #[.int n1 t1, .int n2 t2]) : ∃ t1 t2 f fd, DfD K mg x st f fd #[.int n1 t1, .int n2 t2] := by
  obtain ⟨t1, t2, rfl⟩ := e
  obtain ⟨f', fd, D⟩ := dfd_mk X G a l c k t
  exact ⟨t1, t2, f', fd, D⟩
theorem law_all (T : Txt mg) (C : ∃ (CH : Addr) (cs : Nat → Addr), Cl mg CH cs ∧ CF K CH cs 0 ∧ CF K CH cs 1 ∧ CF K CH cs 2 ∧ Ex K mg "BadText" (cs 0) ∧ Ex K mg "BadNumber" (cs 1) ∧ Ex K mg "BadSpan" (cs 2)) (hP : ∃ t1 t2 f fd, DfD K mg "pieces_of" sPs f fd #[.int 3 t1, .int 3 t2])
    (d1 : ∃ f fd, Df K mg "is_whole" sWhole f fd)
    (d2 : ∃ f fd, Df K mg "is_text_sign" sSign f fd)
    (d3 : ∃ f fd, Df K mg "is_text" sText f fd)
    (d4 : ∃ f fd, Df K mg "need_text" sNText f fd)
    (d5 : ∃ f fd, Df K mg "words_in" sWordsIn f fd)
    (d6 : ∃ f fd, Df K mg "is_span" sIsS f fd)
    (d7 : ∃ f fd, Df K mg "need_spans" sNSp f fd)
    (d8 : ∃ f fd, Df K mg "rows_of_neighbours" sNb f fd)
    (d9 : ∃ f fd, Df K mg "windows" sWin f fd)
    (d10 : ∃ f fd, Df K mg "signs_of" sSO f fd)
    (d11 : ∃ f fd, Df K mg "piece_of" sPc f fd)
    (e1 : ∃ f fd, Df K mg "_law_mixed" lMixed f fd)
    (e2 : ∃ f fd, Df K mg "_law_number" lNumber f fd)
    (e3 : ∃ f fd, Df K mg "_law_menu" lMenu f fd)
    (e4 : ∃ f fd, Df K mg "_law_text" lText f fd)
    (e5 : ∃ f fd, Df K mg "_law_small" lSmall f fd)
    (e6 : ∃ f fd, Df K mg "_law_words" lWords f fd)
    (e7 : ∃ f fd, Df K mg "_law_spans" lSpans f fd)
    (e8 : ∃ f fd, Df K mg "_law_rows" lRows f fd)
    (e9 : ∃ f fd, Df K mg "_law_pieces" lPcs f fd)
    (e10 : ∃ f fd, Df K mg "_law_class" lCls f fd)
    (e11 : ∃ f fd, Df K mg "_law_asked" lAsked f fd)
    (e12 : ∃ f fd, Df K mg "_law_refused" lRef f fd)
    (e13 : ∃ f fd, Df K mg "_law_kinds" lKinds f fd)
    (g1 : ∃ f fd, DfD K mg "need_number" sNNum f fd #[.none])
    {f : Addr} {fd : FuncData} (D : Df K mg "law" lLaw f fd) : FnOk P w K mg base CX0 7 f fd ["_law_script"] (spLaw K) := by
  obtain ⟨CH, cs, C, F0, F1, F2, XT, XN, XS⟩ := C
  obtain ⟨t1, t2, _, _, XP⟩ := hP
  obtain ⟨_, _, Xd1⟩ := d1
  obtain ⟨_, _, Xd2⟩ := d2
  obtain ⟨_, _, Xd3⟩ := d3
  obtain ⟨_, _, Xd4⟩ := d4
  obtain ⟨_, _, Xd5⟩ := d5
  obtain ⟨_, _, Xd6⟩ := d6
  obtain ⟨_, _, Xd7⟩ := d7
  obtain ⟨_, _, Xd8⟩ := d8
  obtain ⟨_, _, Xd9⟩ := d9
  obtain ⟨_, _, Xd10⟩ := d10
  obtain ⟨_, _, Xd11⟩ := d11
  obtain ⟨_, _, Xe1⟩ := e1
  obtain ⟨_, _, Xe2⟩ := e2
  obtain ⟨_, _, Xe3⟩ := e3
  obtain ⟨_, _, Xe4⟩ := e4
  obtain ⟨_, _, Xe5⟩ := e5
  obtain ⟨_, _, Xe6⟩ := e6
  obtain ⟨_, _, Xe7⟩ := e7
  obtain ⟨_, _, Xe8⟩ := e8
  obtain ⟨_, _, Xe9⟩ := e9
  obtain ⟨_, _, Xe10⟩ := e10
  obtain ⟨_, _, Xe11⟩ := e11
  obtain ⟨_, _, Xe12⟩ := e12
  obtain ⟨_, _, Xe13⟩ := e13
  obtain ⟨_, _, Xg1⟩ := g1
  have b4 := XP.binds (ps := ["text", "spans", "around", "most"]) (ds := []) fun T kV doc pm an cdv ct us hl => match us, (show us.length = 4 by simpa using hl) with | [_, _, _, _], _ => ⟨_, rfl, rfl⟩
  have GN : FnOk P w K mg base (CX1 P w) 2 _ _ ["thing", "least", "most"] (spNNum K (cs 1)) := ok_nnum Xg1 Xd1 XN T
  have GT : FnOk P w K mg base CX0 2 _ _ ["thing"] (spText K) := ok_text Xd3 Xd2 T
  have GNT : FnOk P w K mg base (CX1 P w) 3 _ _ ["thing"] (spNeed K txtV (cs 0)) := ok_ntext Xd4 Xd3 XT GT
  have GWI : FnOk P w K mg base (CX1 P w) 4 _ _ ["text"] (spWIn K (cs 0)) := ok_wdin Xd5 Xd4 GNT T
  have GW : FnOk P w K mg base (CX1 P w) 4 _ _ ["size", "spans", "around"] (spWin K (cs 1) (cs 2)) := ok_win Xd9 Xg1 Xd1 Xd7 Xd6 Xd8 XN XS T
  have GB : FnOk P w K mg base CX0 1 _ _ ["spans"] spNb := ok_nb Xd8 T
  have GPc : FnOk P w K mg base CX0 2 _ _ ["words", "window", "marked"] spPc := ok_pc Xd11 Xd10
  have GP : FnOk P w K mg base (CX1 P w) 5 _ _ ["text", "spans", "around", "most"] (spPs K (cs 0) (cs 1) (cs 2)) := ok_ps XP Xd5 GWI Xg1 GN Xd9 GW Xd8 GB Xd11 GPc T
  have GLw : FnOk P w K mg base CX0 2 _ _ ["_law_text_here"] spWords := ok_words Xe6 Xe5 T
  exact ok_law D T Xe2 (ok_number Xe2 Xe1 T) Xe4 (ok_textL Xe4 Xe1 T) Xe3 (ok_menu Xe3 Xe1 T) Xe7 (ok_sp Xe7 Xe1 T) Xe6 GLw Xe12 (ok_rf Xe12 C F0 F1 F2 XP b4 GP Xe10 (ok_cls Xe10 C T) T) Xe9 (ok_lp Xe9 Xe6 GLw Xe8 T) Xe11 (ok_ak Xe11 XP GP) Xe13 (ok_ki Xe13 T)
theorem law_mk {f fa : Addr} {oc kV doc pm cd ct : Value} {od an : Option Addr} {sl : Array (Option Value)} (X : K.In h) (G : h.Ns mainGlobals mg) (hfa : mg "law" = some (.ref fa)) (a : PySem.W.nsIn K mainGlobals "law" = some (some (.ref f)))
    (l : K.lookup f = some ⟨oc, od, .func (PySem.W.fnOf "law" "law" (defArgs lLaw) (defBody lLaw) (defScope lLaw) .none kV doc pm an cd ct), sl⟩) (c : PySem.W.codeIn K cd "law" = true) (k : PySem.W.keepIn K (.ref f) = true)
    (ok : ∀ (fd : FuncData) (base : Heap), Df K mg "law" lLaw f fd → FnOk P w K mg base CX0 7 f fd ["_law_script"] (spLaw K)) :
    ∃ fd : FuncData, (∀ (s : Shared) (v : Value), BindsTo s fd ⟨[v], []⟩ [("_law_script", v)]) ∧ ∀ base : Heap, K.In base → base.Ns mainGlobals mg → FnOk P w K mg base CX0 7 fa fd ["_law_script"] (spLaw K) := by
  have e := hfa.symm.trans (PySem.W.mg_of X G a)
  cases e
  exact ⟨PySem.W.fnOf "law" "law" (defArgs lLaw) (defBody lLaw) (defScope lLaw) .none kV doc pm an cd ct, fun s v => .of_eq rfl, fun base _ _ => ok _ base ⟨fun_mk l c k, PySem.W.mg_of X G a⟩⟩
end
theorem walk {l : PySem.W.OpenLaw} {q : Program} {loose : List Str} {XP : (Str → Option Value) → Heap → Prop} {YP : World → Heap → Prop} {d : DefRec} {K : Params → PySem.W.Frag} (hn : l.most = some 63) (hdf : d.params.defaults = [])
    (hY : ∀ (w : World) (h : Heap), YP w h → (K w.params).In h)
    (F : ∀ (w : World) (mg : Str → Option Value) (fa : Addr) (h : Heap), (K w.params).In h → h.Ns mainGlobals mg → mg d.name = some (.ref fa) →
      ∃ fd : FuncData, (∀ (s : Shared) (u : Value), BindsTo s fd ⟨[u], []⟩ [("_law_script", u)]) ∧ ∀ base : Heap, (K w.params).In base → base.Ns mainGlobals mg → FnOk l.prog w (K w.params) mg base CX0 7 fa fd ["_law_script"] (spLaw (K w.params))) :
    PySem.W.WalkO q loose XP YP l.row.toRowW d [] (fun f vs => PySem.call f vs) :=
  L2.walk_of (n := 63) (k := 7) (x := "_law_script") (CX := fun _ => CX0) (sp := fun w => spLaw (K w.params)) hn (by decide) hdf ⟨rfl, by decide, by decide⟩ hY F (fun _ _ a ns hl _ hS => ⟨a, ns, rfl, hS, hl, fun _ => rfl⟩) fun _ _ _ _ _ z => z
end K23
set_option Elab.async false
set_option linter.all false
set_option maxRecDepth 100000
set_option maxHeartbeats 4000000
namespace K23
open PySem PySem.W PyProof.Rows
noncomputable abbrev pQ : Program := PySem.Challenge.pw_findhall_k23_pieces
noncomputable def vQ : Program := PySem.W.view pQ [1, 2, 3, 4, 5, 6, 7, 8, 9, 10, 11, 12, 13, 14, 16, 17, 18, 19, 20, 21, 22, 25, 27, 28, 29, 30, 31, 32, 35, 36, 37, 38, 39, 40, 41, 42, 43, 44, 45, 46, 47, 48]
noncomputable def lQ : List Str := [Str.ofString "need_number", Str.ofString "pieces_of"]
noncomputable def xQ (s : Shared) : Bool := xlAt vQ [] s && recOk (RowW.records PySem.Challenge.rw_findhall_k23_pieces.row.toRowW) s
noncomputable def runQ (as : List Nat) (w : World) := (openEnds treeTable pQ w 7936).map fun s => (openSeen vQ lQ (importedModules pQ.main.body) xQ true s, as.map s.heap.get?)
noncomputable def goodQ := openGood vQ lQ
lay_quick runQ goodQ
theorem hl_of {as : List Nat} {V : World → List (Option Obj)} (h : ∀ w, PySem.W.Fast.tw12399264292756943116 as w = some (PySem.W.Fast.tw12746298996574112381, V w)) : LeftO pQ vQ lQ xQ (fun s => as.map s.heap.get?) V 7936 := fun w => by
  show runQ as w = some (goodQ, V w)
  rw [PySem.W.Fast.te12399264292756943116, PySem.W.Fast.te12746298996574112381]
  exact h w
end K23
open PySem PySem.W PyProof.Rows
set_option maxRecDepth 100000
local macro_rules | `(tactic| o_head $H:term) => `(tactic|
  refine holds_open
    (q := K23.vQ) (loose := K23.lQ)
    (Xt := K23.xQ) (XP := XL K23.vQ [])
    (Yf := Hook.obs $H)
    (Ya := Hook.val $H) (YP := Hook.says $H)
    (N := 7936)
    (K23.hl_of fun w => by kernel_rfl)
    (Hook.of $H) (Hook.keeps $H)
    (fun s e => xl_of s (Bool.and_eq_true_iff.mp e).1)
    XL.keeps rfl rfl rfl
    (fun s e => recFacts_of (Bool.and_eq_true_iff.mp e).2)
    rfl
    (by first | assumption | decide +kernel)
    (by decide +kernel)
    ⟨rfl, rfl, rfl, rfl, rfl, by decide +kernel⟩
    ?hw ?hc)
set_option maxRecDepth 100000 in
set_option maxHeartbeats 0 in
theorem PySem.Challenge.cw_findhall_k23_pieces_holds : PySem.Challenge.rw_findhall_k23_pieces.Holds := by
  w_on; o_law; k_head; (case hw => w_witness2)
  k_fill
  refine K23.walk (l := PySem.Challenge.rw_findhall_k23_pieces) rfl rfl (fun w h Y => PySem.W.kIn_of Y) ?F
  case F =>
    intro w mg fa h KX G hmg
    have T : K23.Txt mg := by
      refine' K23.txt_mk KX G ?n0 ?n1 ?n2 ?n3 ?n4 ?n5 ?n6 ?n7 ?n8 ?n9 ?n10 ?n11 ?n12 ?n13 ?n14 ?w0 ?w1 ?w2
      (case w0 => k_is)
      (case w1 => k_is)
      (case w2 => k_is)
      (case n0 => k_is)
      (case n1 => k_is)
      (case n2 => k_is)
      (case n3 => k_is)
      (case n4 => k_is)
      (case n5 => k_is)
      (case n6 => k_is)
      (case n7 => k_is)
      (case n8 => k_is)
      (case n9 => k_is)
      (case n10 => k_is)
      (case n11 => k_is)
      (case n12 => k_is)
      (case n13 => k_is)
      (case n14 => k_is)
    have d1 : ∃ f fd, Gn.Df (L2.KOf KX) mg "is_whole" K23.sWhole f fd := by
      dsimp only [L2.KOf]
      refine' Gn.df_mk KX G ?a ?l ?c ?k
      (case a => k_is); (case l => k_is); (case c => k_is); (case k => k_is)
    have d2 : ∃ f fd, Gn.Df (L2.KOf KX) mg "is_text_sign" K23.sSign f fd := by
      dsimp only [L2.KOf]
      refine' Gn.df_mk KX G ?a ?l ?c ?k
      (case a => k_is); (case l => k_is); (case c => k_is); (case k => k_is)
    have d3 : ∃ f fd, Gn.Df (L2.KOf KX) mg "is_text" K23.sText f fd := by
      dsimp only [L2.KOf]
      refine' Gn.df_mk KX G ?a ?l ?c ?k
      (case a => k_is); (case l => k_is); (case c => k_is); (case k => k_is)
    have d4 : ∃ f fd, Gn.Df (L2.KOf KX) mg "need_text" K23.sNText f fd := by
      dsimp only [L2.KOf]
      refine' Gn.df_mk KX G ?a ?l ?c ?k
      (case a => k_is); (case l => k_is); (case c => k_is); (case k => k_is)
    have d5 : ∃ f fd, Gn.Df (L2.KOf KX) mg "words_in" K23.sWordsIn f fd := by
      dsimp only [L2.KOf]
      refine' Gn.df_mk KX G ?a ?l ?c ?k
      (case a => k_is); (case l => k_is); (case c => k_is); (case k => k_is)
    have d6 : ∃ f fd, Gn.Df (L2.KOf KX) mg "is_span" K23.sIsS f fd := by
      dsimp only [L2.KOf]
      refine' Gn.df_mk KX G ?a ?l ?c ?k
      (case a => k_is); (case l => k_is); (case c => k_is); (case k => k_is)
    have d7 : ∃ f fd, Gn.Df (L2.KOf KX) mg "need_spans" K23.sNSp f fd := by
      dsimp only [L2.KOf]
      refine' Gn.df_mk KX G ?a ?l ?c ?k
      (case a => k_is); (case l => k_is); (case c => k_is); (case k => k_is)
    have d8 : ∃ f fd, Gn.Df (L2.KOf KX) mg "rows_of_neighbours" K23.sNb f fd := by
      dsimp only [L2.KOf]
      refine' Gn.df_mk KX G ?a ?l ?c ?k
      (case a => k_is); (case l => k_is); (case c => k_is); (case k => k_is)
    have d9 : ∃ f fd, Gn.Df (L2.KOf KX) mg "windows" K23.sWin f fd := by
      dsimp only [L2.KOf]
      refine' Gn.df_mk KX G ?a ?l ?c ?k
      (case a => k_is); (case l => k_is); (case c => k_is); (case k => k_is)
    have d10 : ∃ f fd, Gn.Df (L2.KOf KX) mg "signs_of" K23.sSO f fd := by
      dsimp only [L2.KOf]
      refine' Gn.df_mk KX G ?a ?l ?c ?k
      (case a => k_is); (case l => k_is); (case c => k_is); (case k => k_is)
    have d11 : ∃ f fd, Gn.Df (L2.KOf KX) mg "piece_of" K23.sPc f fd := by
      dsimp only [L2.KOf]
      refine' Gn.df_mk KX G ?a ?l ?c ?k
      (case a => k_is); (case l => k_is); (case c => k_is); (case k => k_is)
    have e1 : ∃ f fd, Gn.Df (L2.KOf KX) mg "_law_mixed" K23.lMixed f fd := by
      dsimp only [L2.KOf]
      refine' Gn.df_mk KX G ?a ?l ?c ?k
      (case a => k_is); (case l => k_is); (case c => k_is); (case k => k_is)
    have e2 : ∃ f fd, Gn.Df (L2.KOf KX) mg "_law_number" K23.lNumber f fd := by
      dsimp only [L2.KOf]
      refine' Gn.df_mk KX G ?a ?l ?c ?k
      (case a => k_is); (case l => k_is); (case c => k_is); (case k => k_is)
    have e3 : ∃ f fd, Gn.Df (L2.KOf KX) mg "_law_menu" K23.lMenu f fd := by
      dsimp only [L2.KOf]
      refine' Gn.df_mk KX G ?a ?l ?c ?k
      (case a => k_is); (case l => k_is); (case c => k_is); (case k => k_is)
    have e4 : ∃ f fd, Gn.Df (L2.KOf KX) mg "_law_text" K23.lText f fd := by
      dsimp only [L2.KOf]
      refine' Gn.df_mk KX G ?a ?l ?c ?k
      (case a => k_is); (case l => k_is); (case c => k_is); (case k => k_is)
    have e5 : ∃ f fd, Gn.Df (L2.KOf KX) mg "_law_small" K23.lSmall f fd := by
      dsimp only [L2.KOf]
      refine' Gn.df_mk KX G ?a ?l ?c ?k
      (case a => k_is); (case l => k_is); (case c => k_is); (case k => k_is)
    have e6 : ∃ f fd, Gn.Df (L2.KOf KX) mg "_law_words" K23.lWords f fd := by
      dsimp only [L2.KOf]
      refine' Gn.df_mk KX G ?a ?l ?c ?k
      (case a => k_is); (case l => k_is); (case c => k_is); (case k => k_is)
    have e7 : ∃ f fd, Gn.Df (L2.KOf KX) mg "_law_spans" K23.lSpans f fd := by
      dsimp only [L2.KOf]
      refine' Gn.df_mk KX G ?a ?l ?c ?k
      (case a => k_is); (case l => k_is); (case c => k_is); (case k => k_is)
    have e8 : ∃ f fd, Gn.Df (L2.KOf KX) mg "_law_rows" K23.lRows f fd := by
      dsimp only [L2.KOf]
      refine' Gn.df_mk KX G ?a ?l ?c ?k
      (case a => k_is); (case l => k_is); (case c => k_is); (case k => k_is)
    have e9 : ∃ f fd, Gn.Df (L2.KOf KX) mg "_law_pieces" K23.lPcs f fd := by
      dsimp only [L2.KOf]
      refine' Gn.df_mk KX G ?a ?l ?c ?k
      (case a => k_is); (case l => k_is); (case c => k_is); (case k => k_is)
    have e10 : ∃ f fd, Gn.Df (L2.KOf KX) mg "_law_class" K23.lCls f fd := by
      dsimp only [L2.KOf]
      refine' Gn.df_mk KX G ?a ?l ?c ?k
      (case a => k_is); (case l => k_is); (case c => k_is); (case k => k_is)
    have e11 : ∃ f fd, Gn.Df (L2.KOf KX) mg "_law_asked" K23.lAsked f fd := by
      dsimp only [L2.KOf]
      refine' Gn.df_mk KX G ?a ?l ?c ?k
      (case a => k_is); (case l => k_is); (case c => k_is); (case k => k_is)
    have e12 : ∃ f fd, Gn.Df (L2.KOf KX) mg "_law_refused" K23.lRef f fd := by
      dsimp only [L2.KOf]
      refine' Gn.df_mk KX G ?a ?l ?c ?k
      (case a => k_is); (case l => k_is); (case c => k_is); (case k => k_is)
    have e13 : ∃ f fd, Gn.Df (L2.KOf KX) mg "_law_kinds" K23.lKinds f fd := by
      dsimp only [L2.KOf]
      refine' Gn.df_mk KX G ?a ?l ?c ?k
      (case a => k_is); (case l => k_is); (case c => k_is); (case k => k_is)
    have g1 : ∃ f fd, Gn.DfD (L2.KOf KX) mg "need_number" K23.sNNum f fd #[.none] := by
      dsimp only [L2.KOf]
      refine' Gn.dfd_mk KX G ?a ?l ?c ?k ?t
      (case a => k_is); (case l => k_is); (case c => k_is); (case k => k_is); (case t => k_is)
    have hC : ∃ (CH : Addr) (cs : Nat → Addr), K23.Cl mg CH cs ∧ K23.CF (L2.KOf KX) CH cs 0 ∧ K23.CF (L2.KOf KX) CH cs 1 ∧ K23.CF (L2.KOf KX) CH cs 2 ∧ Gn.Ex (L2.KOf KX) mg "BadText" (cs 0) ∧ Gn.Ex (L2.KOf KX) mg "BadNumber" (cs 1) ∧ Gn.Ex (L2.KOf KX) mg "BadSpan" (cs 2) := by
      dsimp only [L2.KOf]
      refine' K23.cl_mk KX G ?zaH ?za0 ?za1 ?za2 ?za3 ?za4 ?za5 ?za6 ?za7 ?za8 ?za9 ?za10 ?za11 ?za12 ?zhn ?zht ?zcl0 ?zga0 ?zhk0 ?zha0 ?zhm0 ?zhb0 ?zq0_0 ?zq1_0 ?zq2_0 ?zq3_0 ?zq4_0 ?zq5_0 ?zq6_0 ?zq7_0 ?zq8_0 ?zq9_0 ?zq10_0 ?zq11_0 ?zq12_0 ?zv0 ?ze0 ?zx0 ?zcl1 ?zga1 ?zhk1 ?zha1 ?zhm1 ?zhb1 ?zq0_1 ?zq1_1 ?zq2_1 ?zq3_1 ?zq4_1 ?zq5_1 ?zq6_1 ?zq7_1 ?zq8_1 ?zq9_1 ?zq10_1 ?zq11_1 ?zq12_1 ?zv1 ?ze1 ?zx1 ?zcl2 ?zga2 ?zhk2 ?zha2 ?zhm2 ?zhb2 ?zq0_2 ?zq1_2 ?zq2_2 ?zq3_2 ?zq4_2 ?zq5_2 ?zq6_2 ?zq7_2 ?zq8_2 ?zq9_2 ?zq10_2 ?zq11_2 ?zq12_2 ?zv2 ?ze2 ?zx2
      (case zaH => k_is)
      (case za0 => k_is)
      (case za1 => k_is)
      (case za2 => k_is)
      (case za3 => k_is)
      (case za4 => k_is)
      (case za5 => k_is)
      (case za6 => k_is)
      (case za7 => k_is)
      (case za8 => k_is)
      (case za9 => k_is)
      (case za10 => k_is)
      (case za11 => k_is)
      (case za12 => k_is)
      (case zhn => k_is)
      (case zht => k_is)
      (case zcl0 => k_is)
      (case zga0 => k_is)
      (case zhk0 => k_is)
      (case zha0 => k_is)
      (case zhm0 => k_is)
      (case zhb0 => k_is)
      (case zq0_0 => kit_is)
      (case zq1_0 => kit_is)
      (case zq2_0 => kit_is)
      (case zq3_0 => kit_is)
      (case zq4_0 => kit_is)
      (case zq5_0 => kit_is)
      (case zq6_0 => kit_is)
      (case zq7_0 => kit_is)
      (case zq8_0 => kit_is)
      (case zq9_0 => kit_is)
      (case zq10_0 => kit_is)
      (case zq11_0 => kit_is)
      (case zq12_0 => kit_is)
      (case zv0 => kit_is)
      (case ze0 => kts_exm)
      (case zx0 => k_exc)
      (case zcl1 => k_is)
      (case zga1 => k_is)
      (case zhk1 => k_is)
      (case zha1 => k_is)
      (case zhm1 => k_is)
      (case zhb1 => k_is)
      (case zq0_1 => kit_is)
      (case zq1_1 => kit_is)
      (case zq2_1 => kit_is)
      (case zq3_1 => kit_is)
      (case zq4_1 => kit_is)
      (case zq5_1 => kit_is)
      (case zq6_1 => kit_is)
      (case zq7_1 => kit_is)
      (case zq8_1 => kit_is)
      (case zq9_1 => kit_is)
      (case zq10_1 => kit_is)
      (case zq11_1 => kit_is)
      (case zq12_1 => kit_is)
      (case zv1 => kit_is)
      (case ze1 => kts_exm)
      (case zx1 => k_exc)
      (case zcl2 => k_is)
      (case zga2 => k_is)
      (case zhk2 => k_is)
      (case zha2 => k_is)
      (case zhm2 => k_is)
      (case zhb2 => k_is)
      (case zq0_2 => kit_is)
      (case zq1_2 => kit_is)
      (case zq2_2 => kit_is)
      (case zq3_2 => kit_is)
      (case zq4_2 => kit_is)
      (case zq5_2 => kit_is)
      (case zq6_2 => kit_is)
      (case zq7_2 => kit_is)
      (case zq8_2 => kit_is)
      (case zq9_2 => kit_is)
      (case zq10_2 => kit_is)
      (case zq11_2 => kit_is)
      (case zq12_2 => kit_is)
      (case zv2 => kit_is)
      (case ze2 => kts_exm)
      (case zx2 => k_exc)
    have hP : ∃ t1 t2 f fd, Gn.DfD (L2.KOf KX) mg "pieces_of" K23.sPs f fd #[.int 3 t1, .int 3 t2] := by
      dsimp only [L2.KOf]
      refine' K23.dfd2_mk KX G ?a ?l ?c ?k ?t ?e
      (case a => k_is); (case l => k_is); (case c => k_is); (case k => k_is); (case t => k_is); (case e => exact ⟨_, _, rfl⟩)
    refine' K23.law_mk KX G hmg ?a ?l ?c ?k fun fd base D => K23.law_all T hC hP d1 d2 d3 d4 d5 d6 d7 d8 d9 d10 d11 e1 e2 e3 e4 e5 e6 e7 e8 e9 e10 e11 e12 e13 g1 D
    (case a => k_is); (case l => k_is); (case c => k_is); (case k => k_is)
