import PyProof.Rows.All
import Wide.All
import OpenK.AllK
import Wide.FinOn
import PyProof.EqAt
import PyProof.EqKinds
import PyProof.TupleCall
import Lean
import PySem.Challenge.RW_findhall_k19_shares_and_worths
set_option Elab.async false
set_option linter.all false
set_option maxRecDepth 100000
namespace L2
open PySem PySem.Spec PyProof.Rows
noncomputable abbrev Key := Sum Int Str
noncomputable def keyIs : Key → Value → Bool
  | .inl k, v => Value.isInt k v
  | .inr x, v => Value.isStrOf x v
noncomputable def keyH (w : World) : Key → Int
  | .inl k => hashInt k
  | .inr x => hashStr w x
theorem keyIs_shape : ∀ {k : Key} {v : Value}, keyIs k v = true → (∃ i t, k = Sum.inl i ∧ v = Value.int i t) ∨ (∃ x t, k = Sum.inr x ∧ v = Value.str x t)
  | .inl i, v, h => by
    obtain ⟨t, e⟩ := Value.isInt_shape (k := i) (v := v) h
    exact .inl ⟨i, t, rfl, e⟩
  | .inr x, v, h => by
    obtain ⟨t, e⟩ := Value.isStrOf_shape (x := x) (v := v) h
    exact .inr ⟨x, t, rfl, e⟩
theorem key_ll (a b : Int) : decide ((Sum.inl a : Key) = Sum.inl b) = (a == b) := by
  by_cases e : a = b
  · subst e; simp
  · have h : ¬ (Sum.inl a : Key) = Sum.inl b := fun q => e (Sum.inl.inj q)
    rw [decide_eq_false h]
    exact (beq_eq_false_iff_ne.mpr e).symm
theorem key_rr (a b : Str) : decide ((Sum.inr a : Key) = Sum.inr b) = decide (a = b) := by
  by_cases e : a = b
  · subst e; simp
  · have h : ¬ (Sum.inr a : Key) = Sum.inr b := fun q => e (Sum.inr.inj q)
    rw [decide_eq_false h, decide_eq_false e]
theorem key_lr (a : Int) (b : Str) : decide ((Sum.inl a : Key) = Sum.inr b) = false := decide_eq_false (fun q => nomatch q)
theorem key_rl (a : Str) (b : Int) : decide ((Sum.inr a : Key) = Sum.inl b) = false := decide_eq_false (fun q => nomatch q)
noncomputable def mixKind (prog : Program) (w : World) : PySem.KeyKind prog w Key where
  is := keyIs
  hash := keyH w
  inj := fun v a b ha hb => by
    rcases keyIs_shape ha with ⟨i, t, rfl, rfl⟩ | ⟨x, t, rfl, rfl⟩
    · rcases keyIs_shape hb with ⟨j, u, rfl, e⟩ | ⟨y, u, rfl, e⟩
      · injection e with e1 _; rw [e1]
      · exact nomatch e
    · rcases keyIs_shape hb with ⟨j, u, rfl, e⟩ | ⟨y, u, rfl, e⟩
      · exact nomatch e
      · injection e with e1 _; rw [e1]
  byValue := fun k v h => by
    rcases keyIs_shape h with ⟨i, t, rfl, rfl⟩ | ⟨x, t, rfl, rfl⟩ <;> rfl
  pyHash := fun hv h => by
    rcases keyIs_shape hv with ⟨i, t, rfl, rfl⟩ | ⟨x, t, rfl, rfl⟩
    · exact wpAny_pyHash_int h
    · exact wpAny_pyHash_str h
  eqBool := fun hu hv h => by
    rcases keyIs_shape hu with ⟨i, t, rfl, rfl⟩ | ⟨x, t, rfl, rfl⟩
    · rcases keyIs_shape hv with ⟨j, u, rfl, rfl⟩ | ⟨y, u, rfl, rfl⟩
      · rw [key_ll] at h; exact wpAny_eqBool_int h
      · rw [key_lr] at h; exact SeqAt.EqAt.int_str i t y u _ _ _ _ h
    · rcases keyIs_shape hv with ⟨j, u, rfl, rfl⟩ | ⟨y, u, rfl, rfl⟩
      · rw [key_rl] at h; exact SeqAt.EqAt.str_int x t j u _ _ _ _ h
      · rw [key_rr] at h; exact wpAny_eqBool_str h
  «strs» := fun k x t v h => by
    rcases keyIs_shape h with ⟨i, u, rfl, e⟩ | ⟨y, u, rfl, e⟩
    · exact nomatch e
    · injection e with e1 _
      subst e1
      cases v <;> rfl
end L2
namespace L2
open PySem PySem.Spec PyProof.Rows
inductive V where
  | non | bl (b : Bool) | int (i : Int) | str (x : Str) | byt (b : Array UInt8) | flt (b : UInt64) | ref (a : Addr) | ty (n : String)
  deriving DecidableEq
noncomputable def RelV : V → Value → Prop
  | .non, u => u = Value.none
  | .bl b, u => u = Value.bool b
  | .int i, u => ∃ t, u = Value.int i t
  | .str x, u => ∃ t, u = Value.str x t
  | .byt b, u => ∃ t, u = Value.bytes b t
  | .flt b, u => ∃ t, u = Value.float b t
  | .ref a, u => u = Value.ref a
  | .ty n, u => u = Value.type n
noncomputable abbrev Vals : List V → List Value → Prop := Paired RelV
theorem Vals.length {xs : List V} {us : List Value} (r : Vals xs us) : xs.length = us.length := Paired.length r
theorem Vals.get : ∀ {xs : List V} {us : List Value} {i : Nat} {x : V}, Vals xs us → xs[i]? = some x → ∃ u, us[i]? = some u ∧ RelV x u
  | _, _, _, _, .nil, e => by simp at e
  | _, _, 0, _, .cons r _, e => by simp at e; subst e; exact ⟨_, rfl, r⟩
  | _, _, i + 1, x, .cons _ t, e => by
    obtain ⟨u, h1, h2⟩ := Vals.get (i := i) (x := x) t (by simpa using e)
    exact ⟨u, by simpa using h1, h2⟩
theorem Vals.set {x : V} {u : Value} (r : RelV x u) : ∀ {xs : List V} {us : List Value} (i : Nat), Vals xs us → Vals (xs.set i x) (us.set i u)
  | _, _, _, .nil => .nil
  | _, _, 0, .cons _ t => .cons r t
  | _, _, i + 1, .cons q t => .cons q (Vals.set r i t)
theorem Vals.append : ∀ {xs ys : List V} {us ws : List Value}, Vals xs us → Vals ys ws → Vals (xs ++ ys) (us ++ ws)
  | _, _, _, _, .nil, s => s
  | _, _, _, _, .cons r t, s => .cons r (Vals.append t s)
theorem Vals.take : ∀ {xs : List V} {us : List Value} (n : Nat), Vals xs us → Vals (xs.take n) (us.take n)
  | _, _, 0, _ => .nil
  | _, _, _ + 1, .nil => .nil
  | _, _, n + 1, .cons r t => .cons r (Vals.take n t)
theorem Vals.drop : ∀ {xs : List V} {us : List Value} (n : Nat), Vals xs us → Vals (xs.drop n) (us.drop n)
  | _, _, 0, r => r
  | _, _, _ + 1, .nil => .nil
  | _, _, n + 1, .cons _ t => Vals.drop n t
noncomputable def RelO : Option V → Option Value → Prop
  | some v, some u => RelV v u
  | none, none => True
  | _, _ => False
noncomputable def KV {κ : Type} : List (κ × V) → List (κ × Value) → Prop := Paired fun (p : κ × V) (q : κ × Value) => p.1 = q.1 ∧ RelV p.2 q.2
noncomputable def kV : Key → V
  | .inl i => .int i
  | .inr x => .str x
inductive HO where
  | lst (xs : List V)
  | tup (xs : List V)
  | dK (kvs : List (Key × V)) | dT (kvs : List (List Key × V))
  | set (S : Int → Bool) (n : Nat)
  | ins (C dx : Addr) (fs : List (Str × V))
  | own (x : Addr)
  | xd (fs : List (Str × V))
  | met (f x : Addr)
  | rng (lo hi : Int)
  | frz (o : Obj) (u : HO)
  | tbl (ps : Array Value)
  | ext (φ : Heap → Prop)
noncomputable abbrev Hp := Addr → Option HO
noncomputable def upd (H : Hp) (a : Addr) (o : HO) : Hp := fun b => if b = a then some o else H b
theorem upd_same {H : Hp} {a : Addr} {o : HO} : upd H a o a = some o := by unfold upd; rw [if_pos rfl]
theorem upd_ne {H : Hp} {a b : Addr} {o : HO} (h : b ≠ a) : upd H a o b = H b := by unfold upd; rw [if_neg h]
theorem ne_of_none {H : Hp} {a b : Addr} {o : HO} (h : H a = some o) (h' : H b = none) : a ≠ b := by
  intro e; subst e; rw [h] at h'; cases h'
section
variable (P : Program) (w : World)
noncomputable def ObjOk (H : Hp) (h : Heap) (a : Addr) : HO → Prop
  | .lst xs => xs.length ≤ sizeLine ∧ ∃ (its : List Value) (n : Nat), Vals xs its ∧ h.get? a = some { cls := .type "list", data := .seq its.toArray n }
  | .tup xs => xs.length ≤ sizeLine ∧ ∃ its : List Value, Vals xs its ∧ IsTup h a its.toArray
  | .dK kvs => kvs.length ≤ sizeLine ∧ (a == sysModules) = false ∧ ∃ vs, KV kvs vs ∧ h.DictOf (mixKind P w) a vs
  | .dT kvs => kvs.length ≤ sizeLine ∧ (a == sysModules) = false ∧ ∃ xs : List (List Key × Addr × Value),
      Paired (fun (p : List Key × V) (q : List Key × Addr × Value) => p.1 = q.1 ∧ H q.2.1 = some (.tup (p.1.map kV)) ∧ RelV p.2 q.2.2) kvs xs ∧
      ∃ o es ep, h.get? a = some o ∧ o.ExactDict ∧ o.data = .dict es ep ∧ es.toList = xs.map (entryOfKey (tupleKind (mixKind P w))) ∧ (xs.map (·.1)).Nodup
  | .set S n => h.SetOf (intKind P w) a S n
  | .ins C dx fs => H dx = some (.own a) ∧ fs.length ≤ 1000 ∧ dx ≠ a ∧ h.get? a = some (PySem.W.instObj C dx) ∧
      ∃ mA, h.Ns1 dx mA ∧ (∀ f, RelO (fs.lookup f) (mA f)) ∧ PySem.Within mA (fs.map (·.1))
  | .own _ => ∃ o, h.get? a = some o
  | .xd fs => ∃ mA, h.Ns1 a mA ∧ ∀ f, RelO (fs.lookup f) (mA f)
  | .rng lo hi => ∃ t u v, h.get? a = some { cls := .type "range", data := .fields #[.int lo t, .int hi u, .int 1 v] }
  | .frz o u => h.get? a = some o ∧ ObjOk H h a u
  | .tbl ps => h.get? a = some { cls := .none, data := .fields ps }
  | .met f x => h.get? a = some (PySem.W.methodObj (.ref f) (.ref x))
  | .ext φ => φ h ∧ (∃ o, h.get? a = some o) ∧ ∀ h1 h2 : Heap, φ h1 → (∀ o, h1.get? a = some o → h2.get? a = some o) → φ h2
noncomputable def HOk (H : Hp) (h : Heap) : Prop := ∀ a o, H a = some o → ObjOk P w H h a o
end
section
variable {P : Program} {w : World} {H H' : Hp} {h h' : Heap} {a : Addr} {o : HO}
theorem ObjOk.lt (x : ObjOk P w H h a o) : a < h.objs.size := by
  cases o with
  | lst xs => obtain ⟨_, _, _, _, e⟩ := x; exact Heap.lt_size e
  | tup xs => obtain ⟨_, _, _, p⟩ := x; exact p.lt
  | dK kvs => obtain ⟨_, _, _, _, o, _, _, e, _⟩ := x; exact Heap.lt_size e
  | dT kvs => obtain ⟨_, _, _, _, o, _, _, e, _⟩ := x; exact Heap.lt_size e
  | set S n => obtain ⟨o, _, _, _, e, _⟩ := x; exact Heap.lt_size e
  | ins C dx fs => obtain ⟨_, _, _, e, _⟩ := x; exact Heap.lt_size e
  | own y => obtain ⟨_, e⟩ := x; exact Heap.lt_size e
  | xd fs => obtain ⟨_, ⟨_, _, _, e, _⟩, _⟩ := x; exact Heap.lt_size e
  | rng lo hi => obtain ⟨_, _, _, e⟩ := x; exact Heap.lt_size e
  | frz ob u => obtain ⟨e, _⟩ := x; exact Heap.lt_size e
  | tbl ps => exact Heap.lt_size (show h.get? a = some _ from x)
  | met f y => exact Heap.lt_size (show h.get? a = some _ from x)
  | ext φ => obtain ⟨_, ⟨_, e⟩, _⟩ := x; exact Heap.lt_size e
theorem Paired.mapP {α β : Type} {F G : α → β → Prop} : ∀ {l₁ : List α} {l₂ : List β}, Paired F l₁ l₂ → (∀ a b, F a b → G a b) → Paired G l₁ l₂
  | _, _, .nil, _ => .nil
  | _, _, .cons r t, f => .cons (f _ _ r) (Paired.mapP t f)
theorem ObjOk.stay (x : ObjOk P w H h a o) (k : ∀ b u, (b = a ∨ H b = some (.own a)) → h.get? b = some u → h'.get? b = some u)
    (ho : ∀ b, H b = some (.own a) → H' b = some (.own a)) (ht : ∀ b xs, H b = some (.tup xs) → H' b = some (.tup xs)) : ObjOk P w H' h' a o := by
  induction o with
  | lst xs => obtain ⟨z, its, n, r, e⟩ := x; exact ⟨z, its, n, r, k _ _ (.inl rfl) e⟩
  | tup xs => obtain ⟨z, its, r, ob, e, c⟩ := x; exact ⟨z, its, r, ob, k _ _ (.inl rfl) e, c⟩
  | dK kvs => obtain ⟨z, y, vs, r, ob, es, ep, e, c⟩ := x; exact ⟨z, y, vs, r, ob, es, ep, k _ _ (.inl rfl) e, c⟩
  | dT kvs =>
    obtain ⟨z, y, xs, r, ob, es, ep, e, c⟩ := x
    exact ⟨z, y, xs, Paired.mapP r fun p q z => ⟨z.1, ht _ _ z.2.1, z.2.2⟩, ob, es, ep, k _ _ (.inl rfl) e, c⟩
  | set S n => obtain ⟨ob, es, ep, t, e, c⟩ := x; exact ⟨ob, es, ep, t, k _ _ (.inl rfl) e, c⟩
  | ins C dx fs =>
    obtain ⟨d, z, ne, e, mA, ⟨od, es, ep, e2, c⟩, r⟩ := x
    exact ⟨ho _ d, z, ne, k _ _ (.inl rfl) e, mA, ⟨od, es, ep, k _ _ (.inr d) e2, c⟩, r⟩
  | own y => obtain ⟨ob, e⟩ := x; exact ⟨ob, k _ _ (.inl rfl) e⟩
  | xd fs => obtain ⟨mA, ⟨od, es, ep, e, c⟩, r⟩ := x; exact ⟨mA, ⟨od, es, ep, k _ _ (.inl rfl) e, c⟩, r⟩
  | rng lo hi => obtain ⟨t, u, v, e⟩ := x; exact ⟨t, u, v, k _ _ (.inl rfl) e⟩
  | frz ob u ih => obtain ⟨e, q⟩ := x; exact ⟨k _ _ (.inl rfl) e, ih q⟩
  | tbl ps =>
    have e : h.get? a = some { cls := .none, data := .fields ps } := x
    show h'.get? a = some { cls := .none, data := .fields ps }
    exact k a _ (.inl rfl) e
  | met f y =>
    have e : h.get? a = some (PySem.W.methodObj (.ref f) (.ref y)) := x
    show h'.get? a = some (PySem.W.methodObj (.ref f) (.ref y))
    exact k a _ (.inl rfl) e
  | ext φ => obtain ⟨p, ⟨o, e⟩, st⟩ := x; exact ⟨st _ _ p fun o q => k _ _ (.inl rfl) q, ⟨o, k _ _ (.inl rfl) e⟩, st⟩
theorem HOk.lt (x : HOk P w H h) (e : H a = some o) : a < h.objs.size := (x a o e).lt
theorem HOk.fresh (x : HOk P w H h) (e : h.objs.size ≤ a) : H a = none := by
  cases q : H a with
  | none => rfl
  | some u => exact absurd (Nat.lt_of_lt_of_le (x.lt q) e) (Nat.lt_irrefl _)
theorem HOk.kept (x : HOk P w H h) (k : ∀ b u, h.get? b = some u → h'.get? b = some u) : HOk P w H h' := fun a o e =>
  (x a o e).stay (fun b u _ q => k b u q) (fun _ q => q) fun _ _ q => q
theorem HOk.laid (x : HOk P w H h) (k : ∀ b u, h.get? b = some u → h'.get? b = some u) (hp : h.objs.size ≤ a) (new : ObjOk P w (upd H a o) h' a o) : HOk P w (upd H a o) h' := fun b u e => by
  have hn := x.fresh hp
  by_cases hb : b = a
  · subst hb; rw [upd_same] at e; cases e; exact new
  · rw [upd_ne hb] at e
    exact (x b u e).stay (fun c v _ q => k c v q) (fun c q => by rw [upd_ne (ne_of_none q hn)]; exact q) fun c xs q => by rw [upd_ne (ne_of_none q hn)]; exact q
end
noncomputable def Rd (H : Hp) (a : Addr) (u : HO) : Prop := H a = some u ∨ ∃ o, H a = some (.frz o u)
theorem Rd.of {H : Hp} {a : Addr} {u : HO} (h : H a = some u) : Rd H a u := .inl h
theorem Rd.ok {P : Program} {w : World} {H : Hp} {h : Heap} {a : Addr} {u : HO} (r : Rd H a u) (x : HOk P w H h) : ObjOk P w H h a u := by
  rcases r with r | ⟨o, r⟩
  · exact x a u r
  · obtain ⟨_, q⟩ := x a _ r
    exact q
noncomputable def Mut : Option HO → Prop
  | some (.lst _) => True
  | some (.dK _) => True
  | some (.dT _) => True
  | some (.set _ _) => True
  | some (.ins _ _ _) => True
  | some (.ext _) => True
  | _ => False
section
variable {P : Program} {w : World} {H : Hp} {h h' : Heap} {x e : Addr} {o' : HO}
theorem HOk.write (ok : HOk P w H h) (mu : Mut (H x)) (he : e = x ∨ H e = some (.own x)) (k : ∀ b u, b ≠ e → h.get? b = some u → h'.get? b = some u) (heo : ∃ u, h'.get? e = some u)
    (new : ObjOk P w (upd H x o') h' x o') : HOk P w (upd H x o') h' := fun b u q => by
  have nown : ∀ c y, H c = some (.own y) → c ≠ x := fun c y r z => by subst z; rw [r] at mu; exact mu
  have ntup : ∀ c xs, H c = some (.tup xs) → c ≠ x := fun c xs r z => by subst z; rw [r] at mu; exact mu
  by_cases hb : b = x
  · subst hb; rw [upd_same] at q; cases q; exact new
  · rw [upd_ne hb] at q
    by_cases hbe : b = e
    · have q' : H b = some (.own x) := by
        rcases he with z | z
        · exact absurd (hbe.trans z) hb
        · rw [hbe]; exact z
      rw [q] at q'; cases q'
      obtain ⟨v, hv⟩ := heo
      exact ⟨v, by rw [hbe]; exact hv⟩
    · refine (ok b u q).stay (fun c v hc r => k c v ?_ r) (fun c r => by rw [upd_ne (nown c b r)]; exact r) fun c xs r => by rw [upd_ne (ntup c xs r)]; exact r
      rcases hc with rfl | hc
      · exact hbe
      · rintro rfl
        rcases he with z | z
        · exact nown c b hc z
        · rw [hc] at z; cases z; exact hb rfl
end
structure Un (fs ex : List Addr) (H H' : Hp) (h h' : Heap) : Prop where
  keep : ∀ b o, h.get? b = some o → H b = none → b ∉ fs → b ∉ ex → h'.get? b = some o
  slot : ∀ b o, h.get? b = some o → H b = none → b ∈ fs → b ∉ ex → ∃ sl, h'.get? b = some { o with slots := sl }
  free : ∀ b o, h.get? b = some o → H b = none → b ∉ ex → H' b = none
  there : ∀ b o, h.get? b = some o → b ∉ ex → ∃ o', h'.get? b = some o'
  tups : ∀ b xs, H b = some (.tup xs) → H' b = some (.tup xs)
  frzs : ∀ b o u, H b = some (.frz o u) → H' b = some (.frz o u)
  tbls : ∀ b ps, H b = some (.tbl ps) → ∃ more, H' b = some (.tbl (ps ++ more))
section
variable {fs fs' ex ex' : List Addr} {H H1 H2 : Hp} {h h1 h2 h' : Heap} {a x e : Addr} {o : HO}
theorem Un.any (u : Un fs ex H H1 h h1) {b : Addr} {ob : Obj} (q : h.get? b = some ob) (n : H b = none) (hx : b ∉ ex) : ∃ sl, h1.get? b = some { ob with slots := sl } := by
  by_cases hb : b ∈ fs
  · exact u.slot b ob q n hb hx
  · exact ⟨ob.slots, u.keep b ob q n hb hx⟩
theorem Un.trans (a : Un fs ex H H1 h h1) (b : Un fs ex H1 H2 h1 h2) : Un fs ex H H2 h h2 where
  keep := fun c ob q n hc hx => b.keep c ob (a.keep c ob q n hc hx) (a.free c ob q n hx) hc hx
  slot := fun c ob q n hc hx => by
    obtain ⟨sl, e1⟩ := a.slot c ob q n hc hx
    obtain ⟨sl', e2⟩ := b.slot c _ e1 (a.free c ob q n hx) hc hx
    exact ⟨sl', e2⟩
  free := fun c ob q n hx => by
    obtain ⟨o', e1⟩ := a.there c ob q hx
    exact b.free c o' e1 (a.free c ob q n hx) hx
  there := fun c ob q hx => by
    obtain ⟨o', e1⟩ := a.there c ob q hx
    exact b.there c o' e1 hx
  tups := fun c xs q => b.tups c xs (a.tups c xs q)
  frzs := fun c ob xs q => b.frzs c ob xs (a.frzs c ob xs q)
  tbls := fun c ps q => by
    obtain ⟨m1, e1⟩ := a.tbls c ps q
    obtain ⟨m2, e2⟩ := b.tbls c _ e1
    exact ⟨m1 ++ m2, by rw [e2, Array.append_assoc]⟩
theorem Un.kept (k : ∀ b u, h.get? b = some u → h'.get? b = some u) : Un fs ex H H h h' :=
  ⟨fun b ob q _ _ _ => k b ob q, fun b ob q _ _ _ => ⟨ob.slots, k b ob q⟩, fun _ _ _ n _ => n, fun b ob q _ => ⟨ob, k b ob q⟩, fun _ _ q => q, fun _ _ _ q => q, fun _ ps q => ⟨#[], by rw [q]; simp⟩⟩
theorem Un.refl : Un fs ex H H h h := Un.kept fun _ _ q => q
theorem Un.laid (k : ∀ b u, h.get? b = some u → h'.get? b = some u) (hp : h.objs.size ≤ a) (hn : H a = none) : Un fs ex H (upd H a o) h h' where
  keep := fun b u q _ _ _ => k b u q
  slot := fun b u q _ _ _ => ⟨u.slots, k b u q⟩
  free := fun b u q n _ => by rw [upd_ne (Nat.ne_of_lt (Nat.lt_of_lt_of_le (Heap.lt_size q) hp))]; exact n
  there := fun b u q _ => ⟨u, k b u q⟩
  tups := fun b xs q => by rw [upd_ne (ne_of_none q hn)]; exact q
  frzs := fun b u xs q => by rw [upd_ne (ne_of_none q hn)]; exact q
  tbls := fun b ps q => ⟨#[], by rw [upd_ne (ne_of_none q hn), q]; simp⟩
theorem Un.write (mu : Mut (H x)) (he : e = x ∨ H e = some (.own x)) (k : ∀ b u, b ≠ e → h.get? b = some u → h'.get? b = some u) (heo : ∃ u, h'.get? e = some u) : Un fs ex H (upd H x o) h h' := by
  have hx : ∀ b, H b = none → b ≠ x := fun b n z => by subst z; rw [n] at mu; exact mu
  have hb : ∀ b, H b = none → b ≠ e := fun b n z => by
    subst z
    rcases he with r | r
    · exact hx b n r
    · rw [n] at r; cases r
  have hm : ∀ b u, H b = some u → ¬ Mut (some u) → b ≠ x := fun b u q nm z => by subst z; rw [q] at mu; exact nm mu
  refine ⟨fun b u q n _ _ => k b u (hb b n) q, fun b u q n _ _ => ⟨u.slots, k b u (hb b n) q⟩, fun b u q n _ => by rw [upd_ne (hx b n)]; exact n, fun b u q _ => ?_,
    fun b xs q => by rw [upd_ne (hm b _ q fun z => z)]; exact q, fun b u xs q => by rw [upd_ne (hm b _ q fun z => z)]; exact q, fun b ps q => ⟨#[], by rw [upd_ne (hm b _ q fun z => z), q]; simp⟩⟩
  by_cases hbe : b = e
  · subst hbe; exact heo
  · exact ⟨u, k b u hbe q⟩
theorem Un.mono (u : Un fs ex H H1 h h1) (hs : ∀ b ∈ fs, b ∈ fs') (hx : ∀ b ∈ ex, b ∈ ex') : Un fs' ex' H H1 h h1 :=
  ⟨fun b ob q n hb he => u.keep b ob q n (fun z => hb (hs b z)) fun z => he (hx b z), fun _ _ q n _ he => u.any q n fun z => he (hx _ z), fun b ob q n he => u.free b ob q n fun z => he (hx b z), fun b ob q he => u.there b ob q fun z => he (hx b z), u.tups, u.frzs, u.tbls⟩
end
noncomputable def trk (h : Heap) (H : Hp) : List Addr := (List.range h.objs.size).filter fun a => (H a).isSome
noncomputable def hidT (h : Heap) (H : Hp) : Heap := PySem.W.hideAll h (trk h H)
theorem hidT_size (h : Heap) (H : Hp) : (hidT h H).objs.size = h.objs.size := PySem.W.hideAll_size _ _
theorem hidT_get {h : Heap} {H : Hp} {b : Addr} {o : Obj} (e : h.get? b = some o) (n : H b = none) : (hidT h H).get? b = some o :=
  PySem.W.hideAll_get _ e fun hm => by
    have q : (H b).isSome = true := (List.mem_filter.mp hm).2
    rw [n] at q; simp at q
theorem of_hidT {h : Heap} {H : Hp} {b : Addr} {o : Obj} (e : (hidT h H).get? b = some o) : h.get? b = some o ∧ H b = none := by
  have e' : h.get? b = some o := PySem.W.of_hideAll (trk h H) e
  refine ⟨e', ?_⟩
  cases q : H b with
  | none => rfl
  | some x =>
    have hm : b ∈ trk h H := List.mem_filter.mpr ⟨List.mem_range.mpr (Heap.lt_size e'), by simp [q]⟩
    have z : (hidT h H).get? b = none := PySem.W.hideAll_none (trk h H) hm
    rw [z] at e; cases e
noncomputable def allNews (g h : Heap) (L : Addr) : List (Addr × Obj) := (List.range h.objs.size).filterMap fun a => if a = L ∨ (g.get? a).isSome = true then none else (h.get? a).map fun o => (a, o)
noncomputable def rest (g h : Heap) (L d : Addr) : List (Addr × Obj) := (allNews g h L).filter fun p => decide (p.1 ≠ d)
end L2
namespace L2
open PySem PySem.Spec PyProof.Rows
structure Mod (K : PySem.W.Frag) (mg : Str → Option Value) (base : Heap) : Prop where
  kin : K.In base
  glob : base.Ns mainGlobals mg
  blt : ∃ mb, base.Ns builtinsNs mb ∧ ∀ x : Str, x ≠ "__name__" → mb x = bootBuiltins x
  nolimit : base.NoLimit
structure Cx where
  prog : Program
  w : World
  K : PySem.W.Frag
  mg : Str → Option Value
  base : Heap
  A : Around
  N : List Str
  s₀ : Shared
  H₀ : Hp
  env : Env
  outer : List Env
  stack : List Env
  ex : List Addr
  fn : Str → Bool
  calm : Bool
  pn : List (Addr × Obj)
  xe : Value → Shared → Prop
noncomputable def frs (l : List Env) : List Addr := l.filterMap (·.frame)
noncomputable abbrev Cx.fs (X : Cx) : List Addr := frs X.outer
noncomputable def Vis (sc : Scope) (x : Str) : Prop := sc.names.lookup x = some .local ∨ sc.names.lookup x = some .cell ∨ sc.names.lookup x = some .free
noncomputable def Loc (sc : Scope) (x : Str) : Prop := sc.names.lookup x = some .local ∨ sc.names.lookup x = some .cell
noncomputable def Look (env : Env) (h : Heap) (m : Str → Option Value) (x : Str) (u : Value) : Prop :=
  (env.kindOf x = some .local ∧ m x = some u) ∨ ((env.kindOf x = some .cell ∨ env.kindOf x = some .free) ∧ ∃ c, env.cells.lookup x = some c ∧ h.IsCell c (some u))
structure Cx.Ok (X : Cx) : Prop where
  mod : Mod X.K X.mg X.base
  kind : X.env.scope.kind = .function
  glob : X.env.globals = mainGlobals
  blt : X.env.builtins = builtinsNs
  above : X.s₀.heap.objs.size ≤ X.env.locals
  inj : ∀ x y c, X.env.cells.lookup x = some c → X.env.cells.lookup y = some c → x = y
  has : ∀ x, (X.env.kindOf x = some .cell ∨ X.env.kindOf x = some .free) → ∃ c, X.env.cells.lookup x = some c
  cab : ∀ x c, X.fn x = true → X.env.cells.lookup x = some c → X.s₀.heap.objs.size ≤ c
  hd : X.calm = true → X.A.handled = none
  frames : X.A.frames = some X.stack
  stk : X.stack = X.outer ∨ (X.stack = X.env :: X.outer ∧ X.env.frame = some X.env.locals)
  exf : ∀ b ∈ X.ex, b ≠ X.env.locals ∧ ∀ x c, X.env.cells.lookup x = some c → c ≠ b
  bs : ∀ b o, X.base.get? b = some o → X.s₀.heap.get? b = some o ∧ X.H₀ b = none
  bsz : X.base.objs.size ≤ X.s₀.heap.objs.size
  noex : ∀ b o, X.base.get? b = some o → b ∉ X.ex
  exfs : ∀ b ∈ X.ex, b ∉ X.fs
  funs : X.s₀.heap.FunFrames X.base X.outer
  frf : ∀ b ∈ X.fs, X.H₀ b = none
structure Inv (X : Cx) (pins : List (Addr × Obj)) (σ : List (Option V)) (H : Hp) (s : Shared) : Prop where
  ok : X.Ok
  os : s.os = X.s₀.os
  bare : AllBare s.gens
  base : Un X.fs X.ex X.H₀ H X.s₀.heap s.heap
  loc : ∃ m, s.heap.Ns X.env.locals m ∧ ∀ (i : Nat) (x : Str) (v : V), X.N[i]? = some x → σ[i]? = some (some v) → Vis X.env.scope x → ∃ u, RelV v u ∧ Look X.env s.heap m x u
  cell : ∀ x c, X.env.cells.lookup x = some c → ∃ v, s.heap.IsCell c v
  free : H X.env.locals = none
  freeC : ∀ x c, X.env.cells.lookup x = some c → H c = none
  pin : ∀ p ∈ X.pn ++ pins, s.heap.get? p.1 = some p.2 ∧ H p.1 = none ∧ p.1 ≠ X.env.locals ∧ p.1 ∉ X.fs ∧ ∀ v, p.2.data ≠ .cell v
  hok : HOk X.prog X.w H s.heap
  len : σ.length = X.N.length
section
variable {X : Cx} {pins : List (Addr × Obj)} {σ : List (Option V)} {H H' : Hp} {s : Shared} {h' : Heap}
theorem Cx.Ok.nofr (ok : X.Ok) {b : Addr} {o : Obj} (e : X.base.get? b = some o) : b ∉ X.fs := fun hb => by
  have := (ok.funs.mem hb).1
  rw [e] at this; cases this
theorem Inv.bs (I : Inv X pins σ H s) : ∀ b o, X.base.get? b = some o → s.heap.get? b = some o ∧ H b = none := fun b o e =>
  ⟨I.base.keep b o (I.ok.bs b o e).1 (I.ok.bs b o e).2 (I.ok.nofr e) (I.ok.noex b o e), I.base.free b o (I.ok.bs b o e).1 (I.ok.bs b o e).2 (I.ok.noex b o e)⟩
theorem Inv.bk (I : Inv X pins σ H s) : ∀ b o, X.base.get? b = some o → s.heap.get? b = some o := fun b o e => (I.bs b o e).1
theorem Inv.mod (I : Inv X pins σ H s) : Mod X.K X.mg X.base := I.ok.mod
theorem Inv.kIn (I : Inv X pins σ H s) : X.K.In s.heap := I.ok.mod.kin.keeps I.bk
theorem Inv.nolimit (I : Inv X pins σ H s) : s.heap.NoLimit := I.ok.mod.nolimit.keeps I.bk
theorem Inv.fr (I : Inv X pins σ H s) : ∃ m, Fr X.base X.env.locals s.heap m :=
  let ⟨m, hn, _⟩ := I.loc
  ⟨m, hn, I.bk, Nat.le_trans I.ok.bsz I.ok.above⟩
theorem Inv.lt (I : Inv X pins σ H s) : X.env.locals < s.heap.objs.size := let ⟨_, hn, _⟩ := I.loc; hn.lt
theorem Inv.sz (I : Inv X pins σ H s) : X.s₀.heap.objs.size ≤ s.heap.objs.size := Nat.le_trans I.ok.above (Nat.le_of_lt I.lt)
theorem Inv.nofs (I : Inv X pins σ H s) {a : Addr} (h : s.heap.objs.size ≤ a) : a ∉ X.fs := fun hb => by
  obtain ⟨_, o, ho, _⟩ := I.ok.funs.mem hb
  exact absurd (Nat.lt_of_lt_of_le (Heap.lt_size ho) (Nat.le_trans I.sz h)) (Nat.lt_irrefl _)
theorem Inv.cne (I : Inv X pins σ H s) : ∀ x c, X.env.cells.lookup x = some c → c ≠ X.env.locals := fun x c e z => by
  obtain ⟨v, o, ho, hd⟩ := I.cell x c e
  obtain ⟨m, ⟨o', es, ep, ho', hd', _⟩, _⟩ := I.loc
  rw [z, ho'] at ho; cases ho; rw [hd'] at hd; cases hd
theorem Inv.funs (I : Inv X pins σ H s) : s.heap.FunFrames X.base X.outer := by
  have all : ∀ (l : List Env), (∀ b ∈ frs l, b ∈ X.fs) → X.s₀.heap.FunFrames X.base l → s.heap.FunFrames X.base l := by
    intro l
    induction l with
    | nil => intro _ _; trivial
    | cons env r ih =>
      intro hs hl
      obtain ⟨hk, ⟨L, o, hf, hn, ho, hd⟩, hr⟩ := hl
      have hL : L ∈ X.fs := hs L (by unfold frs; rw [List.filterMap_cons, hf]; exact List.mem_cons_self)
      obtain ⟨sl, e⟩ := I.base.slot L o ho (I.ok.frf L hL) hL fun z => I.ok.exfs L z hL
      exact ⟨hk, ⟨L, _, hf, hn, e, hd⟩, ih (fun b hb => hs b (by unfold frs; rw [List.filterMap_cons, hf]; exact List.mem_cons_of_mem _ hb)) hr⟩
  exact all X.outer (fun _ hb => hb) I.ok.funs
theorem Inv.stack (I : Inv X pins σ H s) : s.heap.FunFrames X.base X.stack := by
  rcases I.ok.stk with e | ⟨e, hf⟩
  · rw [e]; exact I.funs
  · rw [e]
    obtain ⟨m, hn, _⟩ := I.loc
    refine .cons (by rw [I.ok.kind]; decide) hf hn ?_ I.funs
    exact Heap.get?_none_of_le (Nat.le_trans I.ok.bsz I.ok.above)
theorem Inv.stkSub (I : Inv X pins σ H s) : ∀ b ∈ frs X.stack, b ∈ X.env.locals :: X.fs := fun b hb => by
  rcases I.ok.stk with e | ⟨e, hf⟩
  · rw [e] at hb; exact List.mem_cons_of_mem _ hb
  · rw [e] at hb
    unfold frs at hb
    rw [List.filterMap_cons, hf] at hb
    exact hb
theorem Inv.stkFree (I : Inv X pins σ H s) : ∀ b ∈ frs X.stack, H b = none := fun b hb => by
  rcases List.mem_cons.mp (I.stkSub b hb) with e | hb
  · rw [e]; exact I.free
  · obtain ⟨_, o, ho, _⟩ := I.ok.funs.mem hb
    exact I.base.free b o ho (I.ok.frf b hb) fun z => I.ok.exfs b z hb
theorem Inv.step {g' : Array GenState} {t' : Nat} {d' : Drawn} {ch : List Addr} (I : Inv X pins σ H s)
    (hch : ∀ b ∈ ch, (b ∈ X.ex ∨ X.s₀.heap.objs.size ≤ b) ∧ b ≠ X.env.locals ∧ (∀ x c, X.env.cells.lookup x = some c → c ≠ b) ∧ ∀ p ∈ X.pn ++ pins, p.1 ≠ b)
    (keep : ∀ b o, b ≠ X.env.locals → b ∉ X.fs → b ∉ ch → s.heap.get? b = some o → H b = none → h'.get? b = some o)
    (slot : ∀ b o, b ≠ X.env.locals → b ∈ X.fs → b ∉ ch → s.heap.get? b = some o → H b = none → ∃ sl, h'.get? b = some { o with slots := sl }) (free : ∀ b o, b ∉ ch → s.heap.get? b = some o → H b = none → H' b = none)
    (there : ∀ b o, b ∉ ch → s.heap.get? b = some o → ∃ o', h'.get? b = some o')
    (tups : ∀ b xs, H b = some (.tup xs) → H' b = some (.tup xs)) (frzs : ∀ b o u, H b = some (.frz o u) → H' b = some (.frz o u)) (tbls : ∀ b ps, H b = some (.tbl ps) → ∃ more, H' b = some (.tbl (ps ++ more)))
    (ns : ∀ m, s.heap.Ns X.env.locals m → h'.Ns X.env.locals m) (hok : HOk X.prog X.w H' h') (hg : AllBare g') :
    Inv X pins σ H' { s with heap := h', gens := g', drawn := d', toks := t' } := by
  have neL : ∀ b o, X.s₀.heap.get? b = some o → b ≠ X.env.locals := fun b o e => Nat.ne_of_lt (Nat.lt_of_lt_of_le (Heap.lt_size e) I.ok.above)
  have neC : ∀ b o, X.s₀.heap.get? b = some o → b ∉ X.ex → b ∉ ch := fun b o e hx hb => by
    rcases (hch b hb).1 with z | z
    · exact hx z
    · exact absurd (Nat.lt_of_lt_of_le (Heap.lt_size e) z) (Nat.lt_irrefl _)
  have cellK : ∀ x c, X.env.cells.lookup x = some c → ∀ v, s.heap.IsCell c v → h'.IsCell c v := fun x c e v ⟨o, ho, hd⟩ => by
    have nch : c ∉ ch := fun z => (hch c z).2.2.1 x c e rfl
    by_cases hc : c ∈ X.fs
    · obtain ⟨sl, q⟩ := slot c o (I.cne x c e) hc nch ho (I.freeC x c e)
      exact ⟨_, q, hd⟩
    · exact ⟨o, keep c o (I.cne x c e) hc nch ho (I.freeC x c e), hd⟩
  refine ⟨I.ok, I.os, hg, ⟨fun b o e n hb hx => ?_, fun b o e n hb hx => ?_, fun b o e n hx => ?_, fun b o e hx => ?_, fun b xs e => tups b xs (I.base.tups b xs e), fun b o xs e => frzs b o xs (I.base.frzs b o xs e), fun b ps e => ?_⟩, ?_, fun x c e => ?_, ?_, fun x c e => ?_, fun p hp => ?_, hok, I.len⟩
  · exact keep b o (neL b o e) hb (neC b o e hx) (I.base.keep b o e n hb hx) (I.base.free b o e n hx)
  · obtain ⟨sl, e1⟩ := I.base.slot b o e n hb hx
    obtain ⟨sl', e2⟩ := slot b _ (neL b o e) hb (neC b o e hx) e1 (I.base.free b o e n hx)
    exact ⟨sl', e2⟩
  · obtain ⟨o', e1⟩ := I.base.there b o e hx
    exact free b o' (neC b o e hx) e1 (I.base.free b o e n hx)
  · obtain ⟨o', e1⟩ := I.base.there b o e hx
    exact there b o' (neC b o e hx) e1
  · obtain ⟨m1, e1⟩ := I.base.tbls b ps e
    obtain ⟨m2, e2⟩ := tbls b _ e1
    exact ⟨m1 ++ m2, by rw [e2, Array.append_assoc]⟩
  · obtain ⟨m, hn, hl⟩ := I.loc
    refine ⟨m, ns m hn, fun i x v e1 e2 e3 => ?_⟩
    obtain ⟨u, r, l⟩ := hl i x v e1 e2 e3
    refine ⟨u, r, ?_⟩
    rcases l with l | ⟨k, c, e, z⟩
    · exact .inl l
    · exact .inr ⟨k, c, e, cellK x c e _ z⟩
  · obtain ⟨v, z⟩ := I.cell x c e
    exact ⟨v, cellK x c e v z⟩
  · obtain ⟨m, ⟨o, _, _, ho, _⟩, _⟩ := I.loc
    exact free _ o (fun z => (hch _ z).2.1 rfl) ho I.free
  · obtain ⟨v, o, ho, hd⟩ := I.cell x c e
    exact free c o (fun z => (hch c z).2.2.1 x c e rfl) ho (I.freeC x c e)
  · obtain ⟨e, n, ne, nf, d⟩ := I.pin p hp
    have nch : p.1 ∉ ch := fun z => (hch p.1 z).2.2.2 p hp rfl
    exact ⟨keep p.1 p.2 ne nf nch e n, free p.1 p.2 nch e n, ne, nf, d⟩
theorem Inv.un {t' : Nat} (I : Inv X pins σ H s) (u : Un X.fs [] H H' s.heap h') (hok : HOk X.prog X.w H' h') : Inv X pins σ H' { s with heap := h', toks := t' } := by
  obtain ⟨m, ⟨o, es, ep, ho, r⟩, _⟩ := id I.loc
  obtain ⟨sl, hL⟩ := u.any ho I.free (by simp)
  exact I.step (g' := s.gens) (d' := s.drawn) (ch := []) (fun _ z => nomatch z) (fun b o _ hb _ e n => u.keep b o e n hb (by simp)) (fun b o _ hb _ e n => u.slot b o e n hb (by simp)) (fun b o _ e n => u.free b o e n (by simp)) (fun b o _ e => u.there b o e (by simp)) u.tups u.frzs u.tbls (fun m' hm => by
    obtain ⟨o', es', ep', ho', r'⟩ := hm
    rw [ho] at ho'; cases ho'
    exact ⟨_, es', ep', hL, r'⟩) hok I.bare
theorem Inv.call {g' : Array GenState} {t' : Nat} {d' : Drawn} {ch : List Addr} (I : Inv X pins σ H s) (u : Un (frs X.stack) ch H H' s.heap h') (hok : HOk X.prog X.w H' h') (hg : AllBare g')
    (hch : ∀ b ∈ ch, (b ∈ X.ex ∨ X.s₀.heap.objs.size ≤ b) ∧ b ≠ X.env.locals ∧ (∀ x c, X.env.cells.lookup x = some c → c ≠ b) ∧ ∀ p ∈ X.pn ++ pins, p.1 ≠ b) :
    Inv X pins σ H' { s with heap := h', gens := g', drawn := d', toks := t' } := by
  obtain ⟨m, ⟨o, es, ep, ho, r⟩, _⟩ := id I.loc
  obtain ⟨sl, hL⟩ := u.any ho I.free fun z => (hch _ z).2.1 rfl
  exact I.step (ch := ch) hch (fun b o hL hb hc e n => u.keep b o e n (fun z => (List.mem_cons.mp (I.stkSub b z)).elim hL hb) hc) (fun b o _ _ hc e n => u.any e n hc) (fun b o hc e n => u.free b o e n hc) (fun b o hc e => u.there b o e hc) u.tups u.frzs u.tbls (fun m' hm => by
    obtain ⟨o', es', ep', ho', r'⟩ := hm
    rw [ho] at ho'; cases ho'
    exact ⟨_, es', ep', hL, r'⟩) hok hg
theorem Inv.turned {t' : Nat} {it : Addr} (I : Inv X pins σ H s) (k : ∀ b o, b ≠ it → s.heap.get? b = some o → h'.get? b = some o) (hn : H it = none) (hL : it ≠ X.env.locals)
    (h1 : it ∈ X.ex ∨ X.s₀.heap.objs.size ≤ it) (h2 : ∀ x c, X.env.cells.lookup x = some c → c ≠ it) (h3 : ∀ p ∈ X.pn ++ pins, p.1 ≠ it) : Inv X pins σ H { s with heap := h', toks := t' } := by
  have nit : ∀ b u, H b = some u → b ≠ it := fun b u e z => by rw [z, hn] at e; cases e
  refine I.step (g' := s.gens) (d' := s.drawn) (ch := [it]) (fun b hb => ?_) (fun b o _ _ hc e _ => k b o (fun z => hc (by simp [z])) e) (fun b o _ _ hc e _ => ⟨o.slots, k b o (fun z => hc (by simp [z])) e⟩) (fun _ _ _ _ n => n)
    (fun b o hc e => ⟨o, k b o (fun z => hc (by simp [z])) e⟩) (fun _ _ e => e) (fun _ _ _ e => e) (fun b ps e => ⟨#[], by rw [e]; simp⟩) (fun m hm => ?_) (fun b u e => ?_) I.bare
  · have e : b = it := by simpa using hb
    subst e
    exact ⟨h1, hL, h2, h3⟩
  · obtain ⟨o, es, ep, ho, r⟩ := hm
    exact ⟨o, es, ep, k _ o (Ne.symm hL) ho, r⟩
  · refine (I.hok b u e).stay (fun c v hc q => k c v ?_ q) (fun _ q => q) fun _ _ q => q
    rcases hc with z | z
    · rw [z]; exact nit b u e
    · exact nit c _ z
theorem Inv.tok (I : Inv X pins σ H s) (t : Nat) : Inv X pins σ H { s with toks := t } := I.un (h' := s.heap) (t' := t) Un.refl I.hok
theorem Inv.kept {t' : Nat} (I : Inv X pins σ H s) (k : ∀ b u, s.heap.get? b = some u → h'.get? b = some u) : Inv X pins σ H { s with heap := h', toks := t' } := I.un (Un.kept k) (I.hok.kept k)
theorem Inv.laid {a : Addr} {o : HO} {t' : Nat} (I : Inv X pins σ H s) (k : ∀ b u, s.heap.get? b = some u → h'.get? b = some u) (hp : s.heap.objs.size ≤ a) (new : ObjOk X.prog X.w (upd H a o) h' a o) :
    Inv X pins σ (upd H a o) { s with heap := h', toks := t' } := I.un (Un.laid k hp (I.hok.fresh hp)) (I.hok.laid k hp new)
theorem Inv.write {x e : Addr} {o : HO} {t' : Nat} (I : Inv X pins σ H s) (mu : Mut (H x)) (he : e = x ∨ H e = some (.own x)) (k : ∀ b u, b ≠ e → s.heap.get? b = some u → h'.get? b = some u) (heo : ∃ u, h'.get? e = some u)
    (new : ObjOk X.prog X.w (upd H x o) h' x o) : Inv X pins σ (upd H x o) { s with heap := h', toks := t' } := I.un (Un.write mu he k heo) (I.hok.write mu he k heo new)
theorem Inv.weak {σ' : List (Option V)} (I : Inv X pins σ H s) (hl : σ'.length = σ.length) (w : ∀ (i : Nat) v, σ'[i]? = some (some v) → σ[i]? = some (some v)) : Inv X pins σ' H s :=
  ⟨I.ok, I.os, I.bare, I.base, let ⟨m, hn, hl'⟩ := I.loc; ⟨m, hn, fun i x v e1 e2 e3 => hl' i x v e1 (w i v e2) e3⟩, I.cell, I.free, I.freeC, I.pin, I.hok, hl.trans I.len⟩
theorem Inv.pins_of {pins' : List (Addr × Obj)} (I : Inv X pins σ H s) (h : ∀ p ∈ pins', s.heap.get? p.1 = some p.2 ∧ H p.1 = none ∧ p.1 ≠ X.env.locals ∧ p.1 ∉ X.fs ∧ ∀ v, p.2.data ≠ .cell v) : Inv X pins' σ H s :=
  ⟨I.ok, I.os, I.bare, I.base, I.loc, I.cell, I.free, I.freeC, fun p hp => (List.mem_append.mp hp).elim (fun z => I.pin p (List.mem_append_left _ z)) (h p), I.hok, I.len⟩
theorem nodup_ix {N : List Str} (hN : N.Nodup) {i j : Nat} {x : Str} (a : N[i]? = some x) (b : N[j]? = some x) : i = j := by
  obtain ⟨h1, e1⟩ := List.getElem?_eq_some_iff.mp a
  obtain ⟨h2, e2⟩ := List.getElem?_eq_some_iff.mp b
  exact (List.getElem_inj hN).mp (e1.trans e2.symm)
theorem store_ok2 {M : Model} {A : Around} {E : Value → Shared → Prop} {i : Nat} {x : Str} {v : V} {u : Value} {Q : Unit → Shared → Prop} (I : Inv X pins σ H s) (hN : X.N.Nodup) (hi : X.N[i]? = some x) (hx : Loc X.env.scope x) (r : RelV v u)
    (h : ∀ s', Inv X pins (σ.set i (some v)) H s' → (∃ a, Heap.SameBut a s.heap s'.heap ∧ (a = X.env.locals ∨ X.env.cells.lookup x = some a)) → Q () s') (hf : X.fn x = true ∨ X.env.scope.names.lookup x = some .local := by first | exact .inl rfl | exact .inr rfl | assumption) : wpAny M A (storeName X.env x u) Q E s := by
  obtain ⟨m, hn, hl⟩ := id I.loc
  have hcls : (X.env.scope.kind == .class || (X.env.scope.kind == .module && X.env.locals != X.env.globals)) = false := by rw [I.ok.kind]; rfl
  have hiσ : i < σ.length := by rw [I.len]; exact (List.getElem?_eq_some_iff.mp hi).1
  have cne := I.cne
  have tracked : ∀ {a : Addr} {h' : Heap}, (∃ o, s.heap.get? a = some o ∧ H a = none) → Heap.SameBut a s.heap h' → HOk X.prog X.w H h' := fun {a h'} ha hs b ob e => by
    obtain ⟨_, _, hfree⟩ := ha
    refine (I.hok b ob e).stay (fun c w' hc q => (hs.2 c ?_).trans q) (fun _ q => q) fun _ _ q => q
    rintro rfl
    rcases hc with rfl | hc
    · rw [hfree] at e; cases e
    · rw [hfree] at hc; cases hc
  rcases hx with hk | hk
  · refine wpAny_storeName_local hk hn (fun h' hn' hs => ?_) hcls
    obtain ⟨oL, _, _, hoL, _⟩ := id hn
    refine h _ ⟨I.ok, I.os, I.bare, ⟨fun b o e n hb hx => ?_, fun b o e n hb hx => ?_, I.base.free, fun b o e hx => ?_, I.base.tups, I.base.frzs, I.base.tbls⟩, ⟨_, hn', fun j y v' e1 e2 e3 => ?_⟩, fun y c e => ?_, I.free, I.freeC, fun p hp => ?_, tracked ⟨oL, hoL, I.free⟩ hs, by simpa using I.len⟩ ⟨_, hs, .inl rfl⟩
    · exact (hs.2 b (Nat.ne_of_lt (Nat.lt_of_lt_of_le (Heap.lt_size e) I.ok.above))).trans (I.base.keep b o e n hb hx)
    · obtain ⟨sl, e1⟩ := I.base.slot b o e n hb hx
      exact ⟨sl, (hs.2 b (Nat.ne_of_lt (Nat.lt_of_lt_of_le (Heap.lt_size e) I.ok.above))).trans e1⟩
    · obtain ⟨o', e1⟩ := I.base.there b o e hx
      exact ⟨o', (hs.2 b (Nat.ne_of_lt (Nat.lt_of_lt_of_le (Heap.lt_size e) I.ok.above))).trans e1⟩
    · by_cases hj : j = i
      · subst hj
        rw [hi] at e1; cases e1
        rw [List.getElem?_set_self hiσ] at e2
        cases e2
        exact ⟨u, r, .inl ⟨hk, by simp⟩⟩
      · rw [List.getElem?_set_ne (Ne.symm hj)] at e2
        obtain ⟨u', r', q⟩ := hl j y v' e1 e2 e3
        refine ⟨u', r', ?_⟩
        rcases q with ⟨k, e⟩ | ⟨k, c, e, z⟩
        · refine .inl ⟨k, ?_⟩
          have : y ≠ x := fun e => hj (nodup_ix hN e1 (e ▸ hi))
          simp [this, e]
        · exact .inr ⟨k, c, e, z.sameBut hs (cne y c e)⟩
    · obtain ⟨w', z⟩ := I.cell y c e
      exact ⟨w', z.sameBut hs (cne y c e)⟩
    · obtain ⟨e, n, ne, nf, d⟩ := I.pin p hp
      exact ⟨(hs.2 p.1 ne).trans e, n, ne, nf, d⟩
  · have hfn : X.fn x = true := by
      rcases hf with z | z
      · exact z
      · rw [z] at hk; cases hk
    obtain ⟨c, hc⟩ := I.ok.has x (.inl hk)
    obtain ⟨w', z⟩ := I.cell x c hc
    refine wpAny_storeName_cell I.ok.kind hk hc z (fun h' hc' hs => ?_)
    obtain ⟨oc, hoc, hocd⟩ := id z
    refine h { s with heap := h' } ⟨I.ok, I.os, I.bare, ⟨fun b o e n hb hx => ?_, fun b o e n hb hx => ?_, I.base.free, fun b o e hx => ?_, I.base.tups, I.base.frzs, I.base.tbls⟩, ⟨m, hn.sameBut hs (Ne.symm (cne x c hc)), fun j y v' e1 e2 e3 => ?_⟩, fun y c' e => ?_, I.free, I.freeC, fun p hp => ?_, tracked ⟨oc, hoc, I.freeC x c hc⟩ hs, by simpa using I.len⟩ ⟨c, hs, .inr hc⟩
    · exact (hs.2 b (Nat.ne_of_lt (Nat.lt_of_lt_of_le (Heap.lt_size e) (I.ok.cab x c hfn hc)))).trans (I.base.keep b o e n hb hx)
    · obtain ⟨sl, e1⟩ := I.base.slot b o e n hb hx
      exact ⟨sl, (hs.2 b (Nat.ne_of_lt (Nat.lt_of_lt_of_le (Heap.lt_size e) (I.ok.cab x c hfn hc)))).trans e1⟩
    · obtain ⟨o', e1⟩ := I.base.there b o e hx
      exact ⟨o', (hs.2 b (Nat.ne_of_lt (Nat.lt_of_lt_of_le (Heap.lt_size e) (I.ok.cab x c hfn hc)))).trans e1⟩
    · by_cases hj : j = i
      · subst hj
        rw [hi] at e1; cases e1
        rw [List.getElem?_set_self hiσ] at e2
        cases e2
        exact ⟨u, r, .inr ⟨.inl hk, c, hc, hc'⟩⟩
      · rw [List.getElem?_set_ne (Ne.symm hj)] at e2
        obtain ⟨u', r', q⟩ := hl j y v' e1 e2 e3
        refine ⟨u', r', ?_⟩
        rcases q with q | ⟨k, c', e, z'⟩
        · exact .inl q
        · refine .inr ⟨k, c', e, z'.sameBut hs ?_⟩
          rintro rfl
          exact hj (nodup_ix hN e1 (I.ok.inj _ _ _ e hc ▸ hi))
    · by_cases hcc : c' = c
      · subst hcc; exact ⟨_, hc'⟩
      · obtain ⟨w2, z2⟩ := I.cell y c' e
        exact ⟨w2, z2.sameBut hs hcc⟩
    · obtain ⟨e, n, ne, nf, d⟩ := I.pin p hp
      refine ⟨(hs.2 p.1 ?_).trans e, n, ne, nf, d⟩
      intro q
      rw [q, hoc] at e
      have q' : oc = p.2 := Option.some.inj e
      exact d w' (by rw [← q']; exact hocd)
theorem store_ok {M : Model} {A : Around} {E : Value → Shared → Prop} {i : Nat} {x : Str} {v : V} {u : Value} {Q : Unit → Shared → Prop} (I : Inv X pins σ H s) (hN : X.N.Nodup) (hi : X.N[i]? = some x) (hx : Loc X.env.scope x) (r : RelV v u)
    (h : ∀ s', Inv X pins (σ.set i (some v)) H s' → Q () s') (hf : X.fn x = true ∨ X.env.scope.names.lookup x = some .local := by first | exact .inl rfl | exact .inr rfl | assumption) : wpAny M A (storeName X.env x u) Q E s :=
  store_ok2 I hN hi hx r (fun s' I' _ => h s' I') hf
theorem Inv.call' {s' : Shared} {ch : List Addr} (I : Inv X pins σ H s) (ho : s'.os = s.os) (u : Un (frs X.stack) ch H H' s.heap s'.heap) (hok : HOk X.prog X.w H' s'.heap) (hg : AllBare s'.gens)
    (hch : ∀ b ∈ ch, (b ∈ X.ex ∨ X.s₀.heap.objs.size ≤ b) ∧ b ≠ X.env.locals ∧ (∀ x c, X.env.cells.lookup x = some c → c ≠ b) ∧ ∀ p ∈ X.pn ++ pins, p.1 ≠ b) : Inv X pins σ H' s' := by
  obtain ⟨h', g', d', t', o'⟩ := s'
  have e : o' = s.os := ho
  subst e
  exact I.call (g' := g') (t' := t') (d' := d') u hok hg hch
end
noncomputable abbrev XK := Value → Option Addr → Hp → Prop
noncomputable abbrev St := List (Option V)
noncomputable abbrev VK := V → Hp → Prop
noncomputable abbrev TE := St → Hp → VK → Prop
noncomputable abbrev TT := St → Hp → (Bool → Hp → Prop) → Prop
noncomputable abbrev TA := St → Hp → (List V → Hp → Prop) → Prop
structure Ends where
  nx : St → Hp → Prop
  rt : VK
  bk : St → Hp → Prop := fun _ _ => False
  ct : St → Hp → Prop := fun _ _ => False
noncomputable abbrev TS := Ends → St → Hp → Prop
noncomputable def EP (X : Cx) (pins : List (Addr × Obj)) (σ : St) (Q : VK) (u : Value) (s' : Shared) : Prop := ∃ v H', Inv X pins σ H' s' ∧ RelV v u ∧ Q v H'
noncomputable def TP (X : Cx) (pins : List (Addr × Obj)) (σ : St) (Q : Bool → Hp → Prop) (b : Bool) (s' : Shared) : Prop := ∃ H', Inv X pins σ H' s' ∧ Q b H'
noncomputable def AP (X : Cx) (pins : List (Addr × Obj)) (σ : St) (Q : List V → Hp → Prop) (us : List Value) (s' : Shared) : Prop := ∃ vs H', Inv X pins σ H' s' ∧ Vals vs us ∧ Q vs H'
noncomputable def SP (X : Cx) (pins : List (Addr × Obj)) (D : Ends) (f : Flow) (s' : Shared) : Prop :=
  match f with
  | .next => ∃ σ' H', Inv X pins σ' H' s' ∧ D.nx σ' H'
  | .brk => ∃ σ' H', Inv X pins σ' H' s' ∧ D.bk σ' H'
  | .cont => ∃ σ' H', Inv X pins σ' H' s' ∧ D.ct σ' H'
  | .ret u => ∃ v σ' H', Inv X pins σ' H' s' ∧ RelV v u ∧ D.rt v H'
noncomputable def PE (X : Cx) (e : Expr) (t : TE) : Prop :=
  ∀ (pins : List (Addr × Obj)) (s : Shared) (σ : St) (H : Hp) (Q : VK), Inv X pins σ H s → t σ H Q → wpAny (model X.prog X.w) X.A (eval e X.env) (EP X pins σ Q) X.xe s
noncomputable def PT (X : Cx) (e : Expr) (t : TT) : Prop :=
  ∀ (pins : List (Addr × Obj)) (s : Shared) (σ : St) (H : Hp) (Q : Bool → Hp → Prop), Inv X pins σ H s → t σ H Q → wpAny (model X.prog X.w) X.A (isTrue e X.env (eval e X.env)) (TP X pins σ Q) X.xe s
noncomputable def PW (X : Cx) (e : Expr) (t : TT) : Prop :=
  ∀ (whole : Sem Value) (pins : List (Addr × Obj)) (s : Shared) (σ : St) (H : Hp) (Q : Bool → Hp → Prop), Inv X pins σ H s → t σ H Q → wpAny (model X.prog X.w) X.A (isTrue e X.env whole) (TP X pins σ Q) X.xe s
theorem PW.pt {X : Cx} {e : Expr} {t : TT} (h : PW X e t) : PT X e t := h _
noncomputable def PA (X : Cx) (es : List Expr) (t : TA) : Prop :=
  ∀ (pos : Pos) (pins : List (Addr × Obj)) (s : Shared) (σ : St) (H : Hp) (Q : List V → Hp → Prop), Inv X pins σ H s → t σ H Q → wpAny (model X.prog X.w) X.A (spliced (backTo pos (starEach es X.env))) (AP X pins σ Q) X.xe s
noncomputable def PS (X : Cx) (st : Stmt) (t : TS) : Prop :=
  ∀ (pins : List (Addr × Obj)) (s : Shared) (σ : St) (H : Hp) (D : Ends), Inv X pins σ H s → t D σ H → wpAny (model X.prog X.w) X.A (exec st X.env) (SP X pins D) X.xe s
noncomputable def PSs (X : Cx) (st : List Stmt) (t : TS) : Prop :=
  ∀ (pins : List (Addr × Obj)) (s : Shared) (σ : St) (H : Hp) (D : Ends), Inv X pins σ H s → t D σ H → wpAny (model X.prog X.w) X.A (execs st X.env) (SP X pins D) X.xe s
theorem thn {α : Type} {t : Sem α} {Q Q' : α → Shared → Prop} {M : Model} {A : Around} {E : Value → Shared → Prop} {s : Shared} (h : wpAny M A t Q E s) (hQ : ∀ a s, Q a s → Q' a s) : wpAny M A t Q' E s := wpAny_mono h hQ fun _ _ x => x
end L2
namespace L2
open PySem PySem.Spec PyProof.Rows
section
variable {X : Cx}
noncomputable def tVar (i : Nat) : TE := fun σ H Q => ∃ v, σ[i]? = some (some v) ∧ Q v H
noncomputable def tC (v : V) : TE := fun _ H Q => Q v H
theorem pe_var {i : Nat} {x : Str} {pos : Pos} (hN : X.N[i]? = some x) (hv : Vis X.env.scope x) (hd : (x == ("__debug__" : Str)) = false := by decide) (hcd : (x == ("__classdict__" : Str)) = false := by decide) : PE X (.Name x pos) (tVar i) := by
  intro pins s σ H Q I h
  obtain ⟨v, e, h⟩ := h
  obtain ⟨m, hn, hl⟩ := I.loc
  obtain ⟨u, r, l⟩ := hl i x v hN e hv
  have fin : EP X pins σ Q u s := ⟨v, H, I, r, h⟩
  rcases l with ⟨hk, hm⟩ | ⟨hk, c, hc, hcell⟩
  · exact wpAny_Name (wpAny_loadName_local I.ok.kind hk hn hm fin) hd
  · rcases hk with hk | hk
    · exact wpAny_Name (wpAny_loadName_cell I.ok.kind hk hc hcell fin) hd
    · exact wpAny_Name (wpAny_loadName_free I.ok.kind hk hc hcell fin hcd) hd
theorem pe_int {i j pos} : PE X (.Constant (.int i) j pos) (tC (.int i)) := fun _ _ _ H _ I h => wpAny_Constant_int ⟨.int i, H, I.tok _, ⟨_, rfl⟩, h⟩
theorem pe_bl {b j pos} : PE X (.Constant (.bool b) j pos) (tC (.bl b)) := fun _ _ _ H _ I h => Constant_bool ⟨.bl b, H, I, rfl, h⟩
theorem pe_non {j pos} : PE X (.Constant .none j pos) (tC .non) := fun _ _ _ H _ I h => Constant_none ⟨.non, H, I, rfl, h⟩
theorem pe_str {x j pos} : PE X (.Constant (.str x) j pos) (tC (.str x)) := fun _ _ _ H _ I h => Calls.Constant_str ⟨.str x, H, I.tok _, ⟨_, rfl⟩, h⟩
noncomputable def Gl (X : Cx) (x : Str) : Prop := X.env.kindOf x = some .globalImplicit
theorem ld_glob {E : Value → Shared → Prop} {pins : List (Addr × Obj)} {s : Shared} {σ : St} {H : Hp} {x : Str} {u : Value} {pos : Pos} {Q : Value → Shared → Prop} (I : Inv X pins σ H s) (hg : Gl X x) (hm : X.mg x = some u) (h : Q u s)
    (hd : (x == ("__debug__" : Str)) = false := by decide) : wpAny (model X.prog X.w) X.A (eval (.Name x pos) X.env) Q E s :=
  Calls.Name_function_global I.ok.kind hg (Calls.loadGlobal_global (by rw [I.ok.glob]; exact I.mod.glob.keeps I.bk) hm h) hd
theorem ld_blt {E : Value → Shared → Prop} {pins : List (Addr × Obj)} {s : Shared} {σ : St} {H : Hp} {x : Str} {u : Value} {pos : Pos} {Q : Value → Shared → Prop} (I : Inv X pins σ H s) (hg : Gl X x) (hm : X.mg x = none) (hv : bootBuiltins x = some u) (h : Q u s)
    (hn : x ≠ "__name__" := by decide) (hd : (x == ("__debug__" : Str)) = false := by decide) : wpAny (model X.prog X.w) X.A (eval (.Name x pos) X.env) Q E s := by
  obtain ⟨mb, h1, h2⟩ := I.mod.blt
  exact Calls.Name_function_global I.ok.kind hg (Calls.loadGlobal_builtin (by rw [I.ok.glob]; exact I.mod.glob.keeps I.bk) hm (by rw [I.ok.blt]; exact h1.keeps I.bk) ((h2 x hn).trans hv) h) hd
theorem pe_glob {x : Str} {v : V} {u : Value} {pos : Pos} (hg : Gl X x) (hm : X.mg x = some u) (r : RelV v u) (hd : (x == ("__debug__" : Str)) = false := by decide) : PE X (.Name x pos) (tC v) :=
  fun _ _ _ H _ I h => ld_glob I hg hm ⟨v, H, I, r, h⟩ hd
theorem pe_bltn {x : Str} {v : V} {u : Value} {pos : Pos} (hg : Gl X x) (hm : X.mg x = none) (hv : bootBuiltins x = some u) (r : RelV v u) (hn : x ≠ "__name__" := by decide) (hd : (x == ("__debug__" : Str)) = false := by decide) : PE X (.Name x pos) (tC v) :=
  fun _ _ _ H _ I h => ld_blt I hg hm hv ⟨v, H, I, r, h⟩ hn hd
variable {a b : Expr} {ta tb : TE} {pos : Pos}
noncomputable def PC (X : Cx) (op : CmpOp) (a b : Expr) (t : TE) : Prop :=
  ∀ (pins : List (Addr × Obj)) (s : Shared) (σ : St) (H : Hp) (Q : VK), Inv X pins σ H s → t σ H Q →
    wpAny (model X.prog X.w) X.A (eval a X.env) (fun v s₁ => wpAny (model X.prog X.w) X.A (eval b X.env) (fun u s₂ => wpAny (model X.prog X.w) X.A (compareOp op v u) (EP X pins σ Q) X.xe s₂) X.xe s₁) X.xe s
theorem nobehind (b : Expr) {op : CmpOp} (h : op ≠ .In) (h2 : op ≠ .NotIn) : behindInMarks op b = false := by
  have e1 : (op == CmpOp.In) = false := by cases op <;> first | rfl | exact absurd rfl h
  have e2 : (op == CmpOp.NotIn) = false := by cases op <;> first | rfl | exact absurd rfl h2
  cases b <;> simp [behindInMarks, e1, e2]
noncomputable def tNotN (ta : TE) : TE := fun σ H Q => ta σ H fun x H1 => Q (.bl (!decide (x = .non))) H1
theorem RelV.none_iff {x : V} {v : Value} (r : RelV x v) : (v == Value.none) = decide (x = .non) := by
  cases x with
  | non => cases r; rfl
  | bl _ => cases r; rfl
  | int _ => obtain ⟨t, rfl⟩ := r; rfl
  | str _ => obtain ⟨t, rfl⟩ := r; rfl
  | byt _ => obtain ⟨t, rfl⟩ := r; rfl
  | flt _ => obtain ⟨t, rfl⟩ := r; rfl
  | ref _ => cases r; rfl
  | ty _ => cases r; rfl
theorem pc_notN {j pos'} (ha : PE X a ta) : PC X .IsNot a (.Constant .none j pos') (tNotN ta) := by
  intro pins s σ H Q I h
  refine thn (ha pins s σ H _ I h) fun v s1 ⟨x, H1, I1, r1, q1⟩ => ?_
  exact Constant_none (isnot_none_gen ⟨.bl _, H1, I1, by rw [r1.none_iff]; rfl, q1⟩)
noncomputable def tB (t : TE) : TT := fun σ H Q => t σ H fun x H1 => ∃ c, x = .bl c ∧ Q c H1
theorem pt_cmp {op : CmpOp} {t : TE} (h : PC X op a b t) (h1 : behindInMarks op b = false := by first | exact nobehind _ (by decide) (by decide) | rfl) : PT X (.Compare a [op] [b] pos) (tB t) := by
  intro pins s σ H Q I hw
  refine wpAny_isTrue_Compare1 (thn (h pins s σ H _ I hw) fun v s1 h1 => thn h1 fun u s2 h2 => thn h2 fun c s3 ⟨x, H1, I1, r1, q1⟩ => ?_) h1
  obtain ⟨d, rfl, q⟩ := q1
  cases r1
  exact wpAny_truthy_bool ⟨H1, I1, q⟩
theorem pt_val {e : Expr} {t : TE} (h : PE X e t) (he : ∀ whole, isTrue e X.env whole = (do let v ← whole; standAt e.pos; holding [v] (truthy v)) := by intro _; rfl) : PT X e (tB t) := by
  intro pins s σ H Q I hw
  refine isTrue_plain (thn (h pins s σ H _ I hw) fun v s1 ⟨x, H1, I1, r1, q1⟩ => ?_) (he _)
  obtain ⟨d, rfl, q⟩ := q1
  cases r1
  exact wpAny_truthy_bool ⟨H1, I1, q⟩
variable {tA tB' : TT} {rest : List Expr}
noncomputable def tAnd (t u : TT) : TT := fun σ H Q => t σ H fun c H1 => if c = true then u σ H1 Q else Q false H1
noncomputable def tOr (t u : TT) : TT := fun σ H Q => t σ H fun c H1 => if c = true then Q true H1 else u σ H1 Q
noncomputable def tNot (t : TT) : TT := fun σ H Q => t σ H fun c H1 => Q (!c) H1
theorem pw_and1 (ha : PT X a tA) : PW X (.BoolOp .And [a] pos) tA := by
  intro wh pins s σ H Q I h
  refine isTrue_and (thn (ha pins s σ H Q I h) fun c s1 e => ?_)
  cases c with
  | true => exact isTrue_and_nil e
  | false => exact e
theorem pw_or1 (ha : PT X a tA) : PW X (.BoolOp .Or [a] pos) tA := by
  intro wh pins s σ H Q I h
  refine isTrue_or (thn (ha pins s σ H Q I h) fun c s1 e => ?_)
  cases c with
  | false => exact isTrue_or_nil e
  | true => exact e
theorem pw_and (ha : PT X a tA) (hb : PW X (.BoolOp .And (b :: rest) pos) tB') : PW X (.BoolOp .And (a :: b :: rest) pos) (tAnd tA tB') := by
  intro wh pins s σ H Q I h
  refine isTrue_and (thn (ha pins s σ H _ I h) fun c s1 ⟨H1, I1, q1⟩ => ?_)
  cases c with
  | true => exact hb wh pins s1 σ H1 Q I1 q1
  | false => exact ⟨H1, I1, q1⟩
theorem pw_or (ha : PT X a tA) (hb : PW X (.BoolOp .Or (b :: rest) pos) tB') : PW X (.BoolOp .Or (a :: b :: rest) pos) (tOr tA tB') := by
  intro wh pins s σ H Q I h
  refine isTrue_or (thn (ha pins s σ H _ I h) fun c s1 ⟨H1, I1, q1⟩ => ?_)
  cases c with
  | true => exact ⟨H1, I1, q1⟩
  | false => exact hb wh pins s1 σ H1 Q I1 q1
theorem pt_not (ha : PT X a tA) : PT X (.UnaryOp .Not a pos) (tNot tA) := by
  intro pins s σ H Q I h
  exact isTrue_not (ha pins s σ H (fun c H1 => Q (!c) H1) I h)
noncomputable def tAndV (ta tb : TE) : TE := fun σ H Q => ta σ H fun x H1 => ∃ c, x = .bl c ∧ if c = true then tb σ H1 Q else Q (.bl false) H1
noncomputable def tNotV (ta : TE) : TE := fun σ H Q => ta σ H fun x H1 => ∃ c, x = .bl c ∧ Q (.bl (!c)) H1
theorem pe_one {op} {t : TE} (h : PE X a t) : PE X (.BoolOp op [a] pos) t := fun pins s σ H Q I hw => BoolOp_one (h pins s σ H Q I hw)
theorem pe_and (ha : PE X a ta) (hb : PE X (.BoolOp .And (b :: rest) pos) tb) : PE X (.BoolOp .And (a :: b :: rest) pos) (tAndV ta tb) := by
  intro pins s σ H Q I h
  refine BoolOp_and (thn (ha pins s σ H _ I h) fun v s1 ⟨x, H1, I1, r1, q1⟩ => ?_)
  obtain ⟨c, rfl, q1⟩ := q1
  cases r1
  refine wpAny_truthy_bool ?_
  cases c with
  | true => exact hb pins s1 σ H1 Q I1 q1
  | false => exact ⟨.bl false, H1, I1, rfl, q1⟩
theorem pe_not (ha : PE X a ta) : PE X (.UnaryOp .Not a pos) (tNotV ta) := by
  intro pins s σ H Q I h
  refine UnaryOp_ (thn (ha pins s σ H _ I h) fun v s1 ⟨x, H1, I1, r1, q1⟩ => ?_)
  obtain ⟨c, rfl, q1⟩ := q1
  cases r1
  exact not_of (wpAny_truthy_bool ⟨.bl (!c), H1, I1, rfl, q1⟩)
end
end L2
namespace L2
open PySem PySem.Spec PyProof.Rows
noncomputable def SqL (K : PySem.W.Frag) (H : Hp) (a : Addr) (xs : List V) : Prop :=
  Rd H a (.lst xs) ∨
    ∃ (o : Obj) (its : Array Value) (n : Nat), K.lookup a = some o ∧ o.cls = .type "list" ∧ o.dict = none ∧ o.data = .seq its n ∧ its.size ≤ sizeLine ∧ Vals xs its.toList
noncomputable def SqT (K : PySem.W.Frag) (H : Hp) (a : Addr) (xs : List V) : Prop :=
  Rd H a (.tup xs) ∨
    ∃ (o : Obj) (its : Array Value) (n : Nat), K.lookup a = some o ∧ o.cls = .type "tuple" ∧ o.data = .seq its n ∧ its.size ≤ sizeLine ∧ Vals xs its.toList
noncomputable def absV : Value → Option V
  | .none => some .non
  | .bool b => some (.bl b)
  | .int i _ => some (.int i)
  | .str x _ => some (.str x)
  | .bytes b _ => some (.byt b)
  | .float b _ => some (.flt b)
  | .ref a => some (.ref a)
  | .type n => some (.ty n)
  | _ => none
theorem RelV.abs {x : V} {u : Value} (r : RelV x u) : absV u = some x := by
  cases x with
  | non => cases r; rfl
  | bl _ => cases r; rfl
  | int _ => obtain ⟨t, rfl⟩ := r; rfl
  | str _ => obtain ⟨t, rfl⟩ := r; rfl
  | byt _ => obtain ⟨t, rfl⟩ := r; rfl
  | flt _ => obtain ⟨t, rfl⟩ := r; rfl
  | ref _ => cases r; rfl
  | ty _ => cases r; rfl
theorem RelV.inj {x y : V} {u : Value} (r : RelV x u) (q : RelV y u) : x = y := Option.some.inj (r.abs.symm.trans q.abs)
theorem Vals.inj : ∀ {xs ys : List V} {us : List Value}, Vals xs us → Vals ys us → xs = ys
  | _, _, _, .nil, .nil => rfl
  | _, _, _, .cons r t, .cons r' t' => by rw [r.inj r', Vals.inj t t']
section
variable {X : Cx} {pins : List (Addr × Obj)} {σ : St} {H : Hp} {s : Shared} {a : Addr} {xs ys : List V}
theorem SqL.of {K : PySem.W.Frag} (h : H a = some (.lst xs)) : SqL K H a xs := .inl (.inl h)
theorem SqT.of {K : PySem.W.Frag} (h : H a = some (.tup xs)) : SqT K H a xs := .inl (.inl h)
theorem Inv.list (I : Inv X pins σ H s) (h : SqL X.K H a xs) : ∃ its : List Value, Vals xs its ∧ PlainL s.heap a its.toArray ∧ xs.length ≤ sizeLine := by
  rcases h with h | ⟨o, its, n, hk, hc, hd, hs, hz, r⟩
  · obtain ⟨z, its, n, r, e⟩ := h.ok I.hok
    exact ⟨its, r, ⟨_, n, e, rfl, rfl, rfl⟩, z⟩
  · refine ⟨its.toList, r, ⟨o, n, I.kIn a o hk, hc, hd, by simpa using hs⟩, ?_⟩
    have e := r.length
    simp only [Array.length_toList] at e
    omega
theorem Inv.tuple (I : Inv X pins σ H s) (h : SqT X.K H a xs) : ∃ its : List Value, Vals xs its ∧ IsTup s.heap a its.toArray ∧ xs.length ≤ sizeLine := by
  rcases h with h | ⟨o, its, n, hk, hc, hs, hz, r⟩
  · obtain ⟨z, its, r, p⟩ := h.ok I.hok
    exact ⟨its, r, p, z⟩
  · refine ⟨its.toList, r, ⟨o, I.kIn a o hk, hc, n, by simpa using hs⟩, ?_⟩
    have e := r.length
    simp only [Array.length_toList] at e
    omega
theorem Inv.list_inj (I : Inv X pins σ H s) (h : SqL X.K H a xs) (h' : SqL X.K H a ys) : xs = ys := by
  obtain ⟨its, r, ⟨o, n, e, _, _, d⟩, _⟩ := I.list h
  obtain ⟨its', r', ⟨o', n', e', _, _, d'⟩, _⟩ := I.list h'
  rw [e] at e'; cases e'
  rw [d] at d'
  injection d' with d1 _
  have : its = its' := by simpa using congrArg Array.toList d1
  subst this
  exact r.inj r'
theorem Inv.tuple_inj (I : Inv X pins σ H s) (h : SqT X.K H a xs) (h' : SqT X.K H a ys) : xs = ys := by
  obtain ⟨its, r, ⟨o, e, _, n, d⟩, _⟩ := I.tuple h
  obtain ⟨its', r', ⟨o', e', _, n', d'⟩, _⟩ := I.tuple h'
  rw [e] at e'; cases e'
  rw [d] at d'
  injection d' with d1 _
  have : its = its' := by simpa using congrArg Array.toList d1
  subst this
  exact r.inj r'
end
noncomputable abbrev Cx.wish (X : Cx) (E : Value → Shared → Prop) : Cx := { X with xe := E }
noncomputable abbrev Cx.nox (X : Cx) : Cx := X.wish fun _ _ => False
theorem Cx.Ok.wish {X : Cx} (ok : X.Ok) (E : Value → Shared → Prop) : (X.wish E).Ok :=
  ⟨ok.mod, ok.kind, ok.glob, ok.blt, ok.above, ok.inj, ok.has, ok.cab, ok.hd, ok.frames, ok.stk, ok.exf, ok.bs, ok.bsz, ok.noex, ok.exfs, ok.funs, ok.frf⟩
theorem Cx.Ok.unwish {X : Cx} {E : Value → Shared → Prop} (ok : (X.wish E).Ok) : X.Ok :=
  ⟨ok.mod, ok.kind, ok.glob, ok.blt, ok.above, ok.inj, ok.has, ok.cab, ok.hd, ok.frames, ok.stk, ok.exf, ok.bs, ok.bsz, ok.noex, ok.exfs, ok.funs, ok.frf⟩
section
variable {X : Cx} {pins : List (Addr × Obj)} {σ : St} {H : Hp} {s : Shared} {E : Value → Shared → Prop}
theorem Inv.wish (I : Inv X pins σ H s) (E : Value → Shared → Prop) : Inv (X.wish E) pins σ H s := ⟨I.ok.wish E, I.os, I.bare, I.base, I.loc, I.cell, I.free, I.freeC, I.pin, I.hok, I.len⟩
theorem Inv.unwish (I : Inv (X.wish E) pins σ H s) : Inv X pins σ H s := ⟨I.ok.unwish, I.os, I.bare, I.base, I.loc, I.cell, I.free, I.freeC, I.pin, I.hok, I.len⟩
theorem SP.unwish {D : Ends} {f : Flow} {s' : Shared} (h : SP (X.wish E) pins D f s') : SP X pins D f s' := by
  cases f with
  | next => obtain ⟨σ', H', I, q⟩ := h; exact ⟨σ', H', I.unwish, q⟩
  | brk => obtain ⟨σ', H', I, q⟩ := h; exact ⟨σ', H', I.unwish, q⟩
  | cont => obtain ⟨σ', H', I, q⟩ := h; exact ⟨σ', H', I.unwish, q⟩
  | ret u => obtain ⟨v, σ', H', I, r, q⟩ := h; exact ⟨v, σ', H', I.unwish, r, q⟩
theorem PE.nox {e : Expr} {t : TE} (h : PE X.nox e t) : PE X e t := fun pins s σ H Q I hw =>
  wpAny_mono (h pins s σ H Q (I.wish _) hw) (fun _ _ ⟨v, H', I', r, q⟩ => ⟨v, H', I'.unwish, r, q⟩) fun _ _ z => False.elim z
theorem PT.nox {e : Expr} {t : TT} (h : PT X.nox e t) : PT X e t := fun pins s σ H Q I hw =>
  wpAny_mono (h pins s σ H Q (I.wish _) hw) (fun _ _ ⟨H', I', q⟩ => ⟨H', I'.unwish, q⟩) fun _ _ z => False.elim z
theorem PSs.nox {st : List Stmt} {t : TS} (h : PSs X.nox st t) : PSs X st t := fun pins s σ H D I hw =>
  wpAny_mono (h pins s σ H D (I.wish _) hw) (fun _ _ q => q.unwish) fun _ _ z => False.elim z
end
section
variable {X : Cx} {st : Stmt} {rest : List Stmt} {t u : TS} {e : Expr} {te : TE} {pos : Pos}
noncomputable def tNext : TS := fun D σ H => D.nx σ H
noncomputable def tSeq (t u : TS) : TS := fun D σ H => t { D with nx := u D } σ H
theorem pss_nil : PSs X [] tNext := fun _ _ σ H _ I h => wpAny_execs_nil ⟨σ, H, I, h⟩
theorem pss_cons (h1 : PS X st t) (h2 : PSs X rest u) : PSs X (st :: rest) (tSeq t u) := by
  intro pins s σ H D I h
  refine wpAny_execs_cons (thn (h1 pins s σ H { D with nx := u D } I h) fun f s1 q => ?_)
  cases f with
  | next =>
    obtain ⟨σ', H', I', q⟩ := q
    exact h2 pins s1 σ' H' D I' q
  | ret v => exact q
  | brk => exact q
  | cont => exact q
theorem pss_one (h1 : PS X st t) : PSs X [st] t := by
  intro pins s σ H D I h
  refine wpAny_execs_cons (thn (h1 pins s σ H D I h) fun f s1 q => ?_)
  cases f with
  | next => exact wpAny_execs_nil q
  | ret v => exact q
  | brk => exact q
  | cont => exact q
theorem Inv.quiet {pins : List (Addr × Obj)} {σ : St} {H : Hp} {s : Shared} (I : Inv X pins σ H s) : interactive X.env = false := by simp [interactive, I.ok.kind]
noncomputable def tDrop (te : TE) : TS := fun D σ H => te σ H fun _ H1 => D.nx σ H1
theorem ps_expr (he : PE X e te) (hs : swapsWith e none pos.line X.env = pure false := by rfl) : PS X (.Expr e pos) (tDrop te) := by
  intro pins s σ H D I h
  exact wpAny_Expr_any (thn (he pins s σ H _ I h) fun v s1 ⟨x, H1, I1, r1, q1⟩ => ⟨σ, H1, I1, q1⟩) I.quiet hs
noncomputable def tRet (te : TE) : TS := fun D σ H => te σ H D.rt
theorem ps_ret (he : PE X e te) : PS X (.Return (some e) pos) (tRet te) := by
  intro pins s σ H D I h
  exact wpAny_Return_some (thn (he pins s σ H _ I h) fun v s1 ⟨x, H1, I1, r1, q1⟩ => ⟨x, σ, H1, I1, r1, q1⟩)
noncomputable def tIfS (c : TT) (t u : TS) : TS := fun D σ H => c σ H fun b H1 => if b = true then t D σ H1 else u D σ H1
theorem ps_if {c : Expr} {a b : List Stmt} {tc : TT} (hc : PT X c tc) (ha : PSs X a t) (hb : PSs X b u) : PS X (.If c a b pos) (tIfS tc t u) := by
  intro pins s σ H D I h
  refine wpAny_If (thn (hc pins s σ H _ I h) fun d s1 ⟨H1, I1, q1⟩ => ?_)
  cases d with
  | true => exact ha pins s1 σ H1 D I1 q1
  | false => exact hb pins s1 σ H1 D I1 q1
end
noncomputable abbrev TG := V → St → Hp → (St → Hp → Prop) → Prop
noncomputable abbrev TGs := List V → St → Hp → (St → Hp → Prop) → Prop
noncomputable def PG (X : Cx) (target : Expr) (t : TG) : Prop :=
  ∀ (pins : List (Addr × Obj)) (s : Shared) (σ : St) (H : Hp) (v : V) (u : Value) (Q : St → Hp → Prop), Inv X pins σ H s → RelV v u → t v σ H Q →
    wpAny (model X.prog X.w) X.A (assign target X.env u) (fun _ s' => ∃ σ' H', Inv X pins σ' H' s' ∧ Q σ' H') X.xe s
noncomputable def PGs (X : Cx) (ts : List Expr) (t : TGs) : Prop :=
  ∀ (pins : List (Addr × Obj)) (s : Shared) (σ : St) (H : Hp) (vs : List V) (us : List Value) (Q : St → Hp → Prop), Inv X pins σ H s → Vals vs us → t vs σ H Q →
    wpAny (model X.prog X.w) X.A (assignInOrder ((assignEach ts X.env).map (·.2)) us) (fun _ s' => ∃ σ' H', Inv X pins σ' H' s' ∧ Q σ' H') X.xe s
noncomputable abbrev TSet := V → V → V → Hp → (Hp → Prop) → Prop
noncomputable def PSet (X : Cx) (t : TSet) : Prop :=
  ∀ (pins : List (Addr × Obj)) (s : Shared) (σ : St) (H : Hp) (o i v : V) (ov iv u : Value) (Q : Hp → Prop), Inv X pins σ H s → RelV o ov → RelV i iv → RelV v u → t o i v H Q →
    wpAny (model X.prog X.w) X.A (setItem ov iv u) (fun _ s' => ∃ H', Inv X pins σ H' s' ∧ Q H') X.xe s
section
variable {X : Cx} {pos : Pos}
noncomputable def gName (i : Nat) : TG := fun v σ H Q => Q (σ.set i (some v)) H
theorem pg_name {i : Nat} {x : Str} (hN : X.N.Nodup) (hi : X.N[i]? = some x) (hx : Loc X.env.scope x) (hf : X.fn x = true ∨ X.env.scope.names.lookup x = some .local := by first | exact .inl rfl | exact .inr rfl | assumption) : PG X (.Name x pos) (gName i) := by
  intro pins s σ H v u Q I r h
  exact wpAny_assign_Name (store_ok I hN hi hx r (fun s' I' => ⟨_, H, I', h⟩) hf)
noncomputable def gNil : TGs := fun vs σ H Q => vs = [] ∧ Q σ H
noncomputable def gCons (t : TG) (u : TGs) : TGs := fun vs σ H Q => ∃ v r, vs = v :: r ∧ t v σ H fun σ' H' => u r σ' H' Q
theorem pgs_nil : PGs X [] gNil := by
  intro pins s σ H vs us Q I r h
  obtain ⟨e, h⟩ := h
  subst e
  cases r
  exact assignInOrder_nil ⟨σ, H, I, h⟩
theorem pgs_cons {e : Expr} {es : List Expr} {t : TG} {u : TGs} (h1 : PG X e t) (h2 : PGs X es u)
    (hs : (assignEach (e :: es) X.env).map (·.2) = assign e X.env :: (assignEach es X.env).map (·.2) := by rfl) : PGs X (e :: es) (gCons t u) := by
  intro pins s σ H vs us Q I r h
  obtain ⟨v, vr, e1, h⟩ := h
  subst e1
  cases r with
  | cons r rr =>
    rw [hs]
    refine assignInOrder_cons (thn (h1 pins s σ H _ _ _ I r h) fun _ s1 ⟨σ1, H1, I1, q1⟩ => ?_)
    exact h2 pins s1 σ1 H1 _ _ Q I1 rr q1
noncomputable def gTup (K : PySem.W.Frag) (n : Nat) (t : TGs) : TG := fun v σ H Q => ∃ a xs, v = .ref a ∧ SqT K H a xs ∧ xs.length = n ∧ t xs σ H Q
theorem pg_tup {es : List Expr} {k : Nat} {t : TGs} {n : Nat} (hc : X.calm = true) (h : PGs X es t)
    (hn : (assignEach es X.env).length = n := by rfl) (hst : (assignEach es X.env).findIdx? (·.1) = none := by rfl) : PG X (.Tuple es k pos) (gTup X.K n t) := by
  intro pins s σ H v u Q I r hw
  obtain ⟨a, xs, e1, hq, hl, hw⟩ := hw
  subst e1
  cases r
  obtain ⟨its, rv, ht, hz⟩ := I.tuple hq
  refine assign_Tuple_tuple (I.ok.hd hc) ht (by simp [hn, ← hl, rv.length]) hst fun h' hx => ?_
  have I1 : Inv X pins σ H { s with heap := h' } := I.kept (t' := s.toks) fun b o e => hx b o (Nat.ne_of_lt (Heap.lt_size e)) e
  exact h pins _ σ H xs _ Q I1 (by simpa using rv) hw
noncomputable def gSub (to ti : TE) (t : TSet) : TG := fun v σ H Q => to σ H fun o H1 => ti σ H1 fun i H2 => t o i v H2 fun H3 => Q σ H3
theorem pg_sub {o i : Expr} {to ti : TE} {t : TSet} (ho : PE X o to) (hi : PE X i ti) (hs : PSet X t)
    (ha : ∀ v, assign (.Subscript o i pos) X.env v = (do
      let ov ← holding [v] (eval o X.env)
      let iv ← holding [v, ov] (eval i X.env)
      standAt pos
      holding [v, ov, iv] (setItem ov iv v)
      release [v, ov, iv] []) := by intro _; rfl) : PG X (.Subscript o i pos) (gSub to ti t) := by
  intro pins s σ H v u Q I r h
  rw [ha]
  refine wpAny_bind (wpAny_holding (thn (ho pins s σ H _ I h) fun ov s1 ⟨x, H1, I1, r1, q1⟩ => ?_))
  refine wpAny_bind (wpAny_holding (thn (hi pins s1 σ H1 _ I1 q1) fun iv s2 ⟨y, H2, I2, r2, q2⟩ => ?_))
  refine wpAny_bind (wpAny_standAt (wpAny_bind (wpAny_holding (thn (hs pins s2 σ H2 x y v ov iv u _ I2 r1 r2 r q2) fun _ s3 ⟨H3, I3, q3⟩ => ?_))))
  exact wpAny_release ⟨σ, H3, I3, q3⟩
noncomputable def tAsg (te : TE) (g : TG) : TS := fun D σ H => te σ H fun x H1 => g x σ H1 D.nx
theorem ps_asg {tg e : Expr} {te : TE} {g : TG} (he : PE X e te) (hg : PG X tg g) (hs : swapsWithSole [tg] e pos.line X.env = pure false := by rfl) (hw : swappedStores [tg] e X.env = pure none := by rfl)
    (h1 : (assignEach [tg] X.env).map (·.2) = [assign tg X.env] := by rfl) : PS X (.Assign [tg] e pos) (tAsg te g) := by
  intro pins s σ H D I h
  refine wpAny_Assign_stores (thn (he pins s σ H _ I h) fun v s1 ⟨x, H1, I1, r1, q1⟩ => ?_) hs hw
  rw [h1]
  exact thn (hg pins s1 σ H1 x v _ I1 r1 q1) fun _ s2 q => q
theorem ps_set {i : Nat} {x : Str} {e : Expr} {te : TE} {pos' : Pos} (hN : X.N.Nodup) (hi : X.N[i]? = some x) (hx : Loc X.env.scope x) (he : PE X e te) (hs : swapsWith e (some (.Name x pos')) pos.line X.env = pure false := by rfl) (hf : X.fn x = true ∨ X.env.scope.names.lookup x = some .local := by first | exact .inl rfl | exact .inr rfl | assumption) :
    PS X (.Assign [.Name x pos'] e pos) (tAsg te (gName i)) := by
  intro pins s σ H D I h
  refine wpAny_Assign_Name (thn (he pins s σ H _ I h) fun v s1 ⟨y, H1, I1, r1, q1⟩ => ?_) hs
  exact store_ok I1 hN hi hx r1 (fun s2 I2 => ⟨_, H1, I2, q1⟩) hf
noncomputable def tPar (i j : Nat) (ta : TA) : TS := fun D σ H => ta σ H fun vs H1 => ∃ v w, vs = [v, w] ∧ D.nx ((σ.set i (some v)).set j (some w)) H1
theorem ps_par {i j : Nat} {x y : Str} {a b : Expr} {ta : TA} {px py pt : Pos} {kt k2 pt2} (hc : X.calm = true) (hN : X.N.Nodup) (hi : X.N[i]? = some x) (hj : X.N[j]? = some y) (hij : i ≠ j)
    (hx : X.env.scope.names.lookup x = some .local) (hy : X.env.scope.names.lookup y = some .local) (ha : PA X [a, b] ta)
    (hw : swappedStores [.Tuple [.Name x px, .Name y py] kt pt] (.Tuple [a, b] k2 pt2) X.env = pure (some [x, y]))
    (hs : swapsWithSole [.Tuple [.Name x px, .Name y py] kt pt] (.Tuple [a, b] k2 pt2) pos.line X.env = pure false := by rfl) :
    PS X (.Assign [.Tuple [.Name x px, .Name y py] kt pt] (.Tuple [a, b] k2 pt2) pos) (tPar i j ta) := by
  intro pins s σ H D I h
  rw [exec_Assign_arm]
  refine wpAny_bind (wpAny_standAt ?_)
  rw [hs]
  refine wpAny_bind (wpAny_pure ?_)
  rw [if_neg (by decide)]
  refine wpAny_bind (Tuple_ (thn (ha _ pins s σ H _ I h) fun us s1 ⟨vs, H1, I1, r1, q1⟩ => ?_))
  obtain ⟨v, w, e1, q1⟩ := q1
  subst e1
  obtain ⟨u1, u2, rfl, rv, rw'⟩ : ∃ u1 u2, us = [u1, u2] ∧ RelV v u1 ∧ RelV w u2 := by
    cases r1 with
    | cons p q =>
      cases q with
      | cons p' q' =>
        cases q'
        exact ⟨_, _, rfl, p, p'⟩
  refine wpAny_newObj_type ?_ (by show 2 ≤ sizeLine; decide)
  have I2 : Inv X pins σ H1 { s1 with heap := s1.heap.push { cls := .type "tuple", data := .seq [u1, u2].toArray } } := I1.kept (t' := s1.toks) fun b o e => Heap.get?_push_of_some _ e
  rw [hw]
  refine wpAny_bind (wpAny_pure ?_)
  show wpAny (model X.prog X.w) X.A (do rule "assign.swapped-stores"; let items ← unpackItems (.ref s1.heap.objs.size) 2 none; assignInOrder [fun v => bindName X.env y v, fun v => bindName X.env x v] items.reverse; pure Flow.next) _ _ _
  refine wpAny_bind (wpAny_rule (wpAny_bind (unpackItems_tuple (items := #[u1, u2]) (I.ok.hd hc) (IsTup.new s1.heap _) fun h' hx' => ?_)))
  have I3 := I2.kept (h' := h') (t' := s1.toks) fun b o e => hx' b o (Nat.ne_of_lt (Heap.lt_size e)) e
  show wpAny _ _ (assignInOrder [fun v => bindName X.env y v, fun v => bindName X.env x v] [u2, u1] >>= fun _ => pure Flow.next) _ _ _
  refine wpAny_bind (assignInOrder_cons (wpAny_bindName (store_ok I3 hN hj (.inl hy) rw' (fun s2 I4 => ?_) (.inr hy))))
  refine assignInOrder_cons (wpAny_bindName (store_ok I4 hN hi (.inl hx) rv (fun s3 I5 => assignInOrder_nil (wpAny_pure ?_)) (.inr hx)))
  rw [List.set_comm _ _ (Ne.symm hij)] at I5
  exact ⟨_, H1, I5, q1⟩
end
section
variable {X : Cx} {pos : Pos}
noncomputable def tWhile (c : TT) (tb : TS) : TS := fun D σ H => ∃ W : Nat → St → Hp → Prop, (∃ m, W m σ H) ∧ ∀ m σ H, W m σ H →
  c σ H fun b H1 => if b = true then ∃ N : St → Hp → Prop, (∀ σ' H', N σ' H' → ∃ m', m' < m ∧ W m' σ' H') ∧ tb { D with nx := N, ct := N, bk := D.nx } σ H1 else D.nx σ H1
theorem ps_while {c : Expr} {body : List Stmt} {tc : TT} {tb : TS} (hp : PassesOwn (model X.prog X.w) X.A X.env X.xe) (hc : PT X c tc) (hb : PSs X body tb) : PS X (.While c body [] pos) (tWhile tc tb) := by
  intro pins s σ H D I h
  obtain ⟨W, ⟨m0, w0⟩, turn⟩ := h
  refine wpAny_While (codeAny_whileLoop (fun n s' => ∃ σ' H', Inv X pins σ' H' s' ∧ W n σ' H') ?_ m0 ⟨σ, H, I, w0⟩)
  rintro n s1 ⟨σ1, H1, I1, w1⟩
  refine wpAny_passesOwn hp (thn (hc pins s1 σ1 H1 _ I1 (turn n σ1 H1 w1)) fun b s2 ⟨H2, I2, q2⟩ => ?_)
  cases b with
  | true =>
    obtain ⟨N, hN, q2⟩ := q2
    rw [if_pos rfl]
    refine wpAny_passesOwn hp (thn (hb pins s2 σ1 H2 _ I2 q2) fun f s3 q3 => ?_)
    cases f with
    | next =>
      obtain ⟨σ3, H3, I3, n3⟩ := q3
      obtain ⟨m', hm, w3⟩ := hN σ3 H3 n3
      exact ⟨m', hm, σ3, H3, I3, w3⟩
    | cont =>
      obtain ⟨σ3, H3, I3, n3⟩ := q3
      obtain ⟨m', hm, w3⟩ := hN σ3 H3 n3
      exact ⟨m', hm, σ3, H3, I3, w3⟩
    | brk => exact q3
    | ret v => exact q3
  | false =>
    rw [if_neg Bool.false_ne_true]
    exact wpAny_execs_nil ⟨σ1, H2, I2, q2⟩
end
structure It where
  go : Nat → Hp → Prop
  yld : Nat → Hp → V → Hp → Prop
  stop : Nat → Hp → Prop
noncomputable def FpOk (X : Cx) (pins : List (Addr × Obj)) (H : Hp) (b : Addr) : Prop :=
  H b = none ∧ b ≠ X.env.locals ∧ b ∉ X.fs ∧ (b ∈ X.ex ∨ X.s₀.heap.objs.size ≤ b) ∧ (∀ x c, X.env.cells.lookup x = some c → c ≠ b) ∧ ∀ p ∈ X.pn ++ pins, p.1 ≠ b
theorem Inv.fpOk {X : Cx} {pins : List (Addr × Obj)} {σ : St} {H H' : Hp} {s : Shared} {b : Addr} (I : Inv X pins σ H s) (hb : s.heap.objs.size ≤ b) (hn : H' b = none) : FpOk X pins H' b := by
  refine ⟨hn, Nat.ne_of_gt (Nat.lt_of_lt_of_le I.lt hb), I.nofs hb, .inr (Nat.le_trans I.sz hb), fun x c e z => ?_, fun p hp z => ?_⟩
  · obtain ⟨v, q⟩ := I.cell x c e
    exact absurd (Nat.lt_of_lt_of_le q.lt (by rw [z]; exact hb)) (Nat.lt_irrefl _)
  · exact absurd (Nat.lt_of_lt_of_le (Heap.lt_size (I.pin p hp).1) (by rw [z]; exact hb)) (Nat.lt_irrefl _)
structure Turn (P : Program) (w : World) (K : PySem.W.Frag) (tg : Expr) (J : It) (fp : List Addr) (it : Addr) (tn : Nat → Heap → Prop) : Prop where
  mem : it ∈ fp
  obj : ∀ i h, tn i h → ∀ b ∈ fp, ∃ o, h.get? b = some o ∧ ∀ v, o.data ≠ .cell v
  keep : ∀ i h h', tn i h → (∀ b ∈ fp, ∀ o, h.get? b = some o → h'.get? b = some o) → tn i h'
  item : ∀ (X : Cx), X.prog = P → X.w = w → X.K = K → X.calm = true → ∀ (i : Nat) (pins : List (Addr × Obj)) (s : Shared) (σ : St) (H : Hp) (E : Value → Shared → Prop), Inv X pins σ H s → (∀ b ∈ fp, FpOk X pins H b) → tn i s.heap → J.go i H →
    wpAny (model P w) X.A (pyNext (.ref it)) (fun r s1 => ∃ u, r = some u ∧
      wpAny (model P w) X.A (letOwnedTupleGo tg (.ref it) u) (fun _ s2 => ∃ x H', Inv X pins σ H' s2 ∧ RelV x u ∧ J.yld i H x H' ∧ tn (i + 1) s2.heap ∧ ∀ b ∈ fp, H' b = none) E s1) E s
  done : ∀ (X : Cx), X.prog = P → X.w = w → X.K = K → X.calm = true → ∀ (i : Nat) (pins : List (Addr × Obj)) (s : Shared) (σ : St) (H : Hp) (E : Value → Shared → Prop), Inv X pins σ H s → (∀ b ∈ fp, FpOk X pins H b) → tn i s.heap → J.stop i H →
    wpAny (model P w) X.A (pyNext (.ref it)) (fun r s1 => r = none ∧ Inv X pins σ H s1) E s
  self : ∀ (A : Around) (i : Nat) (s : Shared) (Q : Value → Shared → Prop) (E : Value → Shared → Prop), tn i s.heap → Q (.ref it) s → wpAny (model P w) A (pyIter (.ref it)) Q E s
noncomputable abbrev TI := St → Hp → (It → Hp → Prop) → Prop
noncomputable def PIE (X : Cx) (pins : List (Addr × Obj)) (σ : St) (tg : Expr) (R : It → Hp → Prop) (itv : Value) (s2 : Shared) : Prop :=
  ∃ (it : Addr) (fp : List Addr) (tn : Nat → Heap → Prop) (J : It) (H' : Hp), itv = .ref it ∧ Inv X pins σ H' s2 ∧ Turn X.prog X.w X.K tg J fp it tn ∧ tn 0 s2.heap ∧ (∀ b ∈ fp, FpOk X pins H' b) ∧ R J H'
noncomputable def PI (X : Cx) (tg iter : Expr) (wi : TI) : Prop :=
  ∀ (pins : List (Addr × Obj)) (s : Shared) (σ : St) (H : Hp) (R : It → Hp → Prop), Inv X pins σ H s → wi σ H R →
    wpAny (model X.prog X.w) X.A (eval iter X.env) (fun v s1 => wpAny (model X.prog X.w) X.A (pyIter v) (PIE X pins σ tg R) X.xe s1) X.xe s
theorem go_of {M : Model} {A : Around} {E : Value → Shared → Prop} {s : Shared} {tg : Expr} {it : Addr} {u : Value} {o : Obj} {n : String} {vs : Array Value} {Q : Unit → Shared → Prop} (ho : s.heap.get? it = some o) (hc : o.cls = .type n) (hd : o.data = .fields vs)
    (hn : ["enumerate", "zip", "dict_itemiterator", "dict_reverseitemiterator", "odict_iterator", "itertools.zip_longest", "itertools.pairwise"].contains n = false) (hQ : Q () s) : wpAny M A (letOwnedTupleGo tg (.ref it) u) Q E s := by
  unfold letOwnedTupleGo
  cases tg <;> first
    | exact wpAny_pure hQ
    | (cases u <;> first
        | exact wpAny_pure hQ
        | (refine wpAny_bind (wpAny_load ho ?_)
           rw [hc, hd]
           show wpAny M A (if (["enumerate", "zip", "dict_itemiterator", "dict_reverseitemiterator", "odict_iterator", "itertools.zip_longest", "itertools.pairwise"].contains n && vs[0]? == some (rawInt _)) = true then _ else _) Q E s
           rw [if_neg (by intro h; rw [hn, Bool.false_and] at h; cases h)]
           exact wpAny_pure hQ))
noncomputable def Itl (K : PySem.W.Frag) (a : Addr) : It :=
  ⟨fun i H => ∃ xs x, SqL K H a xs ∧ xs[i]? = some x, fun i H x H' => H' = H ∧ ∀ xs, SqL K H a xs → xs[i]? = some x, fun i H => ∃ xs, SqL K H a xs ∧ xs.length ≤ i⟩
noncomputable def Itt (K : PySem.W.Frag) (a : Addr) : It :=
  ⟨fun i H => ∃ xs x, SqT K H a xs ∧ xs[i]? = some x, fun i H x H' => H' = H ∧ ∀ xs, SqT K H a xs → xs[i]? = some x, fun i H => ∃ xs, SqT K H a xs ∧ xs.length ≤ i⟩
noncomputable def Itr (lo : Int) (n : Nat) : It := ⟨fun i _ => i < n, fun i H x H' => H' = H ∧ x = .int (lo + i), fun i _ => n ≤ i⟩
theorem turn_list {P : Program} {w : World} {K : PySem.W.Frag} {tg : Expr} (a it : Addr) : Turn P w K tg (Itl K a) [it] it (fun i h => h.IsListIter it a i) where
  mem := by simp
  obj := fun i h st b hb => by
    have e : b = it := by simpa using hb
    subst e
    obtain ⟨o, e, c, d⟩ := st
    exact ⟨o, e, fun v z => by rw [d] at z; cases z⟩
  keep := fun i h h' st k => st.at fun o e => k it (by simp) o e
  item := by
    intro X hP hw hK hc i pins s σ H E I hf st hg
    subst hP hw hK
    obtain ⟨xs, x, hq, hx⟩ := hg
    obtain ⟨its, rv, p, hz⟩ := I.list hq
    obtain ⟨u, hu, ru⟩ := rv.get hx
    obtain ⟨f0, f1, f2, f3, f4, f5⟩ := hf it (by simp)
    refine wpAny_pyNext_list_item st p.isList (x := u) (by simpa using hu) fun h' st' sb => ?_
    have I1 : Inv X pins σ H { s with heap := h' } := I.turned (t' := s.toks) (fun b o hb e => (sb.2 b hb).trans e) f0 f1 f3 f4 f5
    obtain ⟨o, e, c, d⟩ := id st'
    exact ⟨u, rfl, go_of (s := { s with heap := h' }) e c d (by decide) ⟨x, H, I1, ru, ⟨rfl, fun ys hy => by rw [I.list_inj hy hq]; exact hx⟩, st', fun b hb => (hf b hb).1⟩⟩
  done := by
    intro X hP hw hK hc i pins s σ H E I hf st hg
    subst hP hw hK
    obtain ⟨xs, hq, hx⟩ := hg
    obtain ⟨its, rv, p, hz⟩ := I.list hq
    obtain ⟨f0, f1, f2, f3, f4, f5⟩ := hf it (by simp)
    have hl := rv.length
    exact wpAny_pyNext_list_end (I.ok.hd hc) st p.isList (by simp; omega) fun h' eb => ⟨rfl, I.turned (t' := s.toks) (fun b o hb e => eb b o hb e) f0 f1 f3 f4 f5⟩
  self := fun _ _ _ _ _ st h => wpAny_pyIter_listiter st h
theorem turn_tuple {P : Program} {w : World} {K : PySem.W.Frag} {tg : Expr} (a it : Addr) : Turn P w K tg (Itt K a) [it] it (fun i h => h.IsTupleIter it a i) where
  mem := by simp
  obj := fun i h st b hb => by
    have e : b = it := by simpa using hb
    subst e
    obtain ⟨o, e, c, d⟩ := st
    exact ⟨o, e, fun v z => by rw [d] at z; cases z⟩
  keep := fun i h h' st k => st.at fun o e => k it (by simp) o e
  item := by
    intro X hP hw hK hc i pins s σ H E I hf st hg
    subst hP hw hK
    obtain ⟨xs, x, hq, hx⟩ := hg
    obtain ⟨its, rv, p, hz⟩ := I.tuple hq
    obtain ⟨u, hu, ru⟩ := rv.get hx
    obtain ⟨f0, f1, f2, f3, f4, f5⟩ := hf it (by simp)
    refine wpAny_pyNext_tuple_item st (show s.heap.IsTuple a its.toArray from p) (x := u) (by simpa using hu) fun h' st' sb => ?_
    have I1 : Inv X pins σ H { s with heap := h' } := I.turned (t' := s.toks) (fun b o hb e => (sb.2 b hb).trans e) f0 f1 f3 f4 f5
    obtain ⟨o, e, c, d⟩ := id st'
    exact ⟨u, rfl, go_of (s := { s with heap := h' }) e c d (by decide) ⟨x, H, I1, ru, ⟨rfl, fun ys hy => by rw [I.tuple_inj hy hq]; exact hx⟩, st', fun b hb => (hf b hb).1⟩⟩
  done := by
    intro X hP hw hK hc i pins s σ H E I hf st hg
    subst hP hw hK
    obtain ⟨xs, hq, hx⟩ := hg
    obtain ⟨its, rv, p, hz⟩ := I.tuple hq
    obtain ⟨f0, f1, f2, f3, f4, f5⟩ := hf it (by simp)
    have hl := rv.length
    exact wpAny_pyNext_tuple_end (I.ok.hd hc) st (show s.heap.IsTuple a its.toArray from p) (by simp; omega) fun h' eb => ⟨rfl, I.turned (t' := s.toks) (fun b o hb e => eb b o hb e) f0 f1 f3 f4 f5⟩
  self := fun _ _ _ _ _ st h => wpAny_pyIter_tupleiter st h
theorem turn_range {P : Program} {w : World} {K : PySem.W.Frag} {tg : Expr} (it : Addr) (lo : Int) (n : Nat) : Turn P w K tg (Itr lo n) [it] it (fun i h => IsRangeIter h it (lo + (i : Nat) * 1) ((n : Int) - (i : Nat)) 1) where
  mem := by simp
  obj := fun i h st b hb => by
    have e : b = it := by simpa using hb
    subst e
    exact ⟨_, st, fun v z => by
      have z' : Data.fields _ = Data.cell v := z
      cases z'⟩
  keep := fun i h h' st k => k it (by simp) _ st
  item := by
    intro X hP hw hK hc i pins s σ H E I hf st hg
    subst hP hw hK
    obtain ⟨f0, f1, f2, f3, f4, f5⟩ := hf it (by simp)
    have W := Walks.range (prog := X.prog) (w := X.w) (I.ok.hd hc) it lo 1 n
    refine W.item i s _ _ hg st fun v h' tk hv st' kk => ?_
    obtain ⟨t, rfl⟩ := hv
    have I1 : Inv X pins σ H { s with heap := h', toks := tk } := I.turned (fun b o hb e => kk b o (by simpa using hb) e) f0 f1 f3 f4 f5
    refine ⟨_, rfl, go_of (s := { s with heap := h', toks := tk }) (n := "range_iterator") st' rfl rfl (by decide) ⟨.int (lo + i), H, I1, ⟨t, ?_⟩, ⟨rfl, rfl⟩, st', fun b hb => (hf b hb).1⟩⟩
    rw [Int.mul_one]
  done := by
    intro X hP hw hK hc i pins s σ H E I hf st hg
    subst hP hw hK
    obtain ⟨f0, f1, f2, f3, f4, f5⟩ := hf it (by simp)
    exact wpAny_pyNext_range_end (I.ok.hd hc) st (by have : n ≤ i := hg; omega) fun h' eb => ⟨rfl, I.turned (t' := s.toks) (fun b o hb e => eb b o hb e) f0 f1 f3 f4 f5⟩
  self := fun _ _ _ _ _ st h => wpAny_pyIter_rangeiter st h
end L2
namespace L2
open PySem PySem.Spec PyProof.Rows
section
variable {X : Cx} {tg : Expr}
noncomputable def iList (K : PySem.W.Frag) (tl : TE) : TI := fun σ H R => tl σ H fun x H1 => ∃ a, x = .ref a ∧ (∃ xs, SqL K H1 a xs) ∧ R (Itl K a) H1
noncomputable def iTup (K : PySem.W.Frag) (tl : TE) : TI := fun σ H R => tl σ H fun x H1 => ∃ a, x = .ref a ∧ (∃ xs, SqT K H1 a xs) ∧ R (Itt K a) H1
theorem pi_list {l : Expr} {tl : TE} (hl : PE X l tl) : PI X tg l (iList X.K tl) := by
  intro pins s σ H R I h
  refine thn (hl pins s σ H _ I h) fun v s1 ⟨x, H1, I1, r1, q1⟩ => ?_
  obtain ⟨a, e, ⟨xs, hq⟩, q⟩ := q1
  subst e
  cases r1
  obtain ⟨its, rv, p, hz⟩ := I1.list hq
  refine wpAny_pyIter_list p.isList ?_
  refine ⟨s1.heap.objs.size, [s1.heap.objs.size], _, _, H1, rfl, I1.kept (t' := s1.toks) fun b o e => Heap.get?_push_of_some _ e, turn_list a _, ⟨_, Heap.get?_push_size _ rfl, rfl, rfl⟩, fun b hb => ?_, q⟩
  have e : b = s1.heap.objs.size := by simpa using hb
  subst e
  exact I1.fpOk (Nat.le_refl _) (I1.hok.fresh (Nat.le_refl _))
theorem pi_tup {l : Expr} {tl : TE} (hl : PE X l tl) : PI X tg l (iTup X.K tl) := by
  intro pins s σ H R I h
  refine thn (hl pins s σ H _ I h) fun v s1 ⟨x, H1, I1, r1, q1⟩ => ?_
  obtain ⟨a, e, ⟨xs, hq⟩, q⟩ := q1
  subst e
  cases r1
  obtain ⟨its, rv, p, hz⟩ := I1.tuple hq
  refine wpAny_pyIter_tuple (show s1.heap.IsTuple a its.toArray from p) ?_
  refine ⟨s1.heap.objs.size, [s1.heap.objs.size], _, _, H1, rfl, I1.kept (t' := s1.toks) fun b o e => Heap.get?_push_of_some _ e, turn_tuple a _, ⟨_, Heap.get?_push_size _ rfl, rfl, rfl⟩, fun b hb => ?_, q⟩
  have e : b = s1.heap.objs.size := by simpa using hb
  subst e
  exact I1.fpOk (Nat.le_refl _) (I1.hok.fresh (Nat.le_refl _))
theorem range_it {pins : List (Addr × Obj)} {σ : St} {H : Hp} {s : Shared} {R : It → Hp → Prop} {E : Value → Shared → Prop} {lo hi : Int} {t u v : Tok} {tk : Nat} (I : Inv X pins σ H s) (h1 : -(2 ^ 62) ≤ lo) (h2 : lo < 2 ^ 62) (h3 : -(2 ^ 62) ≤ hi) (h4 : hi < 2 ^ 62)
    (q : R (Itr lo (hi - lo).toNat) H) : wpAny (model X.prog X.w) X.A (pyIter (.ref s.heap.objs.size)) (PIE X pins σ tg R) E { s with heap := s.heap.push { cls := .type "range", data := .fields #[.int lo t, .int hi u, .int 1 v] }, toks := tk } := by
  refine wpAny_pyIter_range (IsRange.new ..) (small_one h1 h2 h3 h4) ?_
  have I1 : Inv X pins σ H { s with heap := s.heap.push { cls := .type "range", data := .fields #[.int lo t, .int hi u, .int 1 v] }, toks := tk } := I.kept fun b o e => Heap.get?_push_of_some _ e
  refine ⟨(s.heap.push { cls := .type "range", data := .fields #[.int lo t, .int hi u, .int 1 v] }).objs.size, [(s.heap.push { cls := .type "range", data := .fields #[.int lo t, .int hi u, .int 1 v] }).objs.size], _, _, H, rfl,
    I1.kept (t' := tk) fun b o e => Heap.get?_push_of_some _ e, turn_range _ lo (hi - lo).toNat, ?_, fun b hb => ?_, q⟩
  · have e1 : lo + ((0 : Nat) : Int) * 1 = lo := by simp
    have e2 : (((hi - lo).toNat : Nat) : Int) - ((0 : Nat) : Int) = Builtin.Range.rangeSize lo hi 1 := by rw [rangeSize_one]; split <;> omega
    show IsRangeIter _ _ (lo + ((0 : Nat) : Int) * 1) ((((hi - lo).toNat : Nat) : Int) - ((0 : Nat) : Int)) 1
    rw [e1, e2]
    exact Heap.get?_push_size _ rfl
  · have e : b = (s.heap.push { cls := .type "range", data := .fields #[.int lo t, .int hi u, .int 1 v] }).objs.size := by simpa using hb
    subst e
    exact I1.fpOk (Nat.le_refl _) (I1.hok.fresh (Nat.le_refl _))
noncomputable def iRng1 (ta : TA) : TI := fun σ H R => ta σ H fun vs H1 => ∃ j : Int, vs = [.int j] ∧ -(2 ^ 62) ≤ j ∧ j < 2 ^ 62 ∧ R (Itr 0 j.toNat) H1
theorem pi_range1 {a : Expr} {ta : TA} {p pos : Pos} (hg : Gl X "range") (hm : X.mg "range" = none) (ha : PA X [a] ta) (hs : starEach [a] X.env = [(false, eval a X.env)] := by rfl) : PI X tg (.Call (.Name "range" p) [a] [] pos) (iRng1 ta) := by
  intro pins s σ H R I h
  refine Call_ (ld_blt I hg hm boot_range (PyProof.Rows.callWith_type1 (thn (ha pos pins s σ H _ I h) fun us s1 ⟨vs, H1, I1, r1, q1⟩ => ?_) hs rfl))
  obtain ⟨j, e, q1, q2, q⟩ := q1
  subst e
  cases r1 with
  | cons r rr =>
    cases rr
    obtain ⟨t, rfl⟩ := r
    exact call_range_1 (range_it I1 (by omega) (by omega) q1 q2 (by simpa using q))
noncomputable def tFor (wi : TI) (g : TG) (tb : TS) : TS := fun D σ H => wi σ H fun J H1 => ∃ W : Nat → Nat → St → Hp → Prop, (∃ m, W 0 m σ H1) ∧ ∀ i m σ H, W i m σ H →
  (J.stop i H ∧ D.nx σ H) ∨ (J.go i H ∧ ∃ N : St → Hp → Prop, (∀ σ' H', N σ' H' → ∃ m', m' < m ∧ W (i + 1) m' σ' H') ∧ ∀ x H', J.yld i H x H' → g x σ H' fun σ2 H2 => tb { D with nx := N, ct := N, bk := D.nx } σ2 H2)
noncomputable def pinsAt (fp : List Addr) (h : Heap) : List (Addr × Obj) := fp.filterMap fun b => (h.get? b).map fun o => (b, o)
theorem mem_pinsAt {fp : List Addr} {h : Heap} {b : Addr} {o : Obj} (hb : b ∈ fp) (e : h.get? b = some o) : (b, o) ∈ pinsAt fp h := List.mem_filterMap.mpr ⟨b, hb, by rw [e]; rfl⟩
theorem of_pinsAt {fp : List Addr} {h : Heap} {p : Addr × Obj} (hp : p ∈ pinsAt fp h) : p.1 ∈ fp ∧ h.get? p.1 = some p.2 := by
  obtain ⟨b, hb, e⟩ := List.mem_filterMap.mp hp
  cases q : h.get? b with
  | none => rw [q] at e; cases e
  | some o =>
    rw [q] at e
    have e' : (b, o) = p := Option.some.inj e
    subst e'
    exact ⟨hb, q⟩
theorem Inv.pinned {pins : List (Addr × Obj)} {σ : St} {H : Hp} {s : Shared} {fp : List Addr} (I : Inv X pins σ H s) (hf : ∀ b ∈ fp, FpOk X pins H b) (ho : ∀ b ∈ fp, ∃ o, s.heap.get? b = some o ∧ ∀ v, o.data ≠ .cell v) : Inv X (pins ++ pinsAt fp s.heap) σ H s :=
  I.pins_of fun p hp => (List.mem_append.mp hp).elim (fun z => I.pin p (List.mem_append_right _ z)) fun z => by
    obtain ⟨hb, e⟩ := of_pinsAt z
    obtain ⟨f0, f1, f2, _⟩ := hf p.1 hb
    obtain ⟨o, e', d⟩ := ho p.1 hb
    rw [e] at e'; cases e'
    exact ⟨e, f0, f1, f2, d⟩
theorem Inv.unpinned {pins pl : List (Addr × Obj)} {σ : St} {H : Hp} {s : Shared} (I : Inv X (pins ++ pl) σ H s) : Inv X pins σ H s := I.pins_of fun p hp => I.pin p (List.mem_append_right _ (List.mem_append_left _ hp))
theorem ps_for {iter : Expr} {body : List Stmt} {wi : TI} {g : TG} {tb : TS} {pos : Pos} (hp : PassesOwn (model X.prog X.w) X.A X.env X.xe) (hc : X.calm = true) (hi : PI X tg iter wi) (hg : PG X tg g) (hb : PSs X body tb)
    (hs : ∀ x, foldedSetIterable iter X.env x = pure x := by intro _; rfl) : PS X (.For tg iter body [] pos) (tFor wi g tb) := by
  intro pins s σ H D I h
  refine wpAny_For (thn (hi pins s σ H _ I h) fun v s1 h1 => thn h1 fun itv s2 h2 => ?_) hs
  obtain ⟨it, fp, tn, J, H2, e, I2, T, st2, f2, W, ⟨m0, w0⟩, turn⟩ := h2
  subst e
  have stat : ∀ {H' : Hp}, (∀ b ∈ fp, H' b = none) → ∀ b ∈ fp, FpOk X pins H' b := fun hn b hb => ⟨hn b hb, (f2 b hb).2⟩
  refine codeAny_forLoop_any (fun n s' => ∃ i σ' H', Inv X pins σ' H' s' ∧ tn i s'.heap ∧ (∀ b ∈ fp, H' b = none) ∧ W i n σ' H') ?_ m0 ⟨0, σ, H2, I2, st2, fun b hb => (f2 b hb).1, w0⟩
  rintro n s3 ⟨i, σ3, H3, I3, st3, fr3, w3⟩
  rcases turn i n σ3 H3 w3 with ⟨stop, qn⟩ | ⟨go, N, hN, step⟩
  · refine wpAny_passesOwn hp (thn (T.done X rfl rfl rfl hc i pins s3 σ3 H3 X.xe I3 (stat fr3) st3 stop) fun r s4 ⟨hr, I4⟩ => ?_)
    subst hr
    exact wpAny_execs_nil ⟨σ3, H3, I4, qn⟩
  · refine wpAny_passesOwn hp (thn (T.item X rfl rfl rfl hc i pins s3 σ3 H3 X.xe I3 (stat fr3) st3 go) fun r s4 ⟨u, hr, h4⟩ => ?_)
    subst hr
    refine wpAny_passesOwn hp (thn h4 fun _ s5 ⟨x, H5, I5, r5, y5, st5, fr5⟩ => ?_)
    have I5' := I5.pinned (stat fr5) (T.obj _ _ st5)
    refine wpAny_passesOwn hp (thn (hg _ s5 σ3 H5 x u _ I5' r5 (step x H5 y5)) fun _ s6 ⟨σ6, H6, I6, q6⟩ => ?_)
    refine wpAny_passesOwn hp (thn (hb _ s6 σ6 H6 _ I6 q6) fun f s7 q7 => ?_)
    have again : ∀ {σ7 : St} {H7 : Hp}, Inv X (pins ++ pinsAt fp s5.heap) σ7 H7 s7 → N σ7 H7 → ∃ m, m < n ∧ ∃ i σ' H', Inv X pins σ' H' s7 ∧ tn i s7.heap ∧ (∀ b ∈ fp, H' b = none) ∧ W i m σ' H' := fun {σ7 H7} I7 n7 => by
      obtain ⟨m', hm, w7⟩ := hN σ7 H7 n7
      refine ⟨m', hm, i + 1, σ7, H7, I7.unpinned, T.keep _ _ _ st5 fun b hb o e => (I7.pin (b, o) (List.mem_append_right _ (List.mem_append_right _ (mem_pinsAt hb e)))).1, fun b hb => ?_, w7⟩
      obtain ⟨o, e, d⟩ := T.obj _ _ st5 b hb
      exact (I7.pin (b, o) (List.mem_append_right _ (List.mem_append_right _ (mem_pinsAt hb e)))).2.1
    cases f with
    | next => obtain ⟨σ7, H7, I7, n7⟩ := q7; exact again I7 n7
    | cont => obtain ⟨σ7, H7, I7, n7⟩ := q7; exact again I7 n7
    | brk => obtain ⟨σ7, H7, I7, q7⟩ := q7; exact ⟨σ7, H7, I7.unpinned, q7⟩
    | ret v => obtain ⟨x7, σ7, H7, I7, r7, q7⟩ := q7; exact ⟨x7, σ7, H7, I7.unpinned, r7, q7⟩
end
theorem for_list {K : PySem.W.Frag} {a : Addr} {xs : List V} {g : TG} {tb : TS} {D : Ends} {σ : St} {H : Hp} (Pv : Nat → St → Hp → Prop) (h0 : Pv 0 σ H) (hl : ∀ i σ H, i ≤ xs.length → Pv i σ H → SqL K H a xs)
    (hs : ∀ i x σ H, xs[i]? = some x → Pv i σ H → g x σ H fun σ2 H2 => tb { D with nx := Pv (i + 1), ct := Pv (i + 1), bk := D.nx } σ2 H2) (hd : ∀ σ H, Pv xs.length σ H → D.nx σ H) :
    ∃ W : Nat → Nat → St → Hp → Prop, (∃ m, W 0 m σ H) ∧ ∀ i m σ H, W i m σ H →
      ((Itl K a).stop i H ∧ D.nx σ H) ∨ ((Itl K a).go i H ∧ ∃ N : St → Hp → Prop, (∀ σ' H', N σ' H' → ∃ m', m' < m ∧ W (i + 1) m' σ' H') ∧ ∀ x H', (Itl K a).yld i H x H' → g x σ H' fun σ2 H2 => tb { D with nx := N, ct := N, bk := D.nx } σ2 H2) := by
  refine ⟨fun i m σ H => m = xs.length - i ∧ i ≤ xs.length ∧ Pv i σ H, ⟨xs.length, by simp, Nat.zero_le _, h0⟩, ?_⟩
  rintro i m σ H ⟨rfl, hi, p⟩
  have q := hl i σ H hi p
  by_cases hlt : i < xs.length
  · refine .inr ⟨⟨xs, xs[i], q, by simp [hlt]⟩, Pv (i + 1), fun σ' H' p' => ⟨xs.length - (i + 1), by omega, rfl, hlt, p'⟩, fun x H' y => ?_⟩
    obtain ⟨e, y⟩ := y
    subst e
    exact hs i x σ _ (y xs q) p
  · have e : i = xs.length := by omega
    subst e
    exact .inl ⟨⟨xs, q, Nat.le_refl _⟩, hd σ H p⟩
theorem for_range {lo : Int} {n : Nat} {g : TG} {tb : TS} {D : Ends} {σ : St} {H : Hp} (Pv : Nat → St → Hp → Prop) (h0 : Pv 0 σ H)
    (hs : ∀ i σ H, i < n → Pv i σ H → g (.int (lo + i)) σ H fun σ2 H2 => tb { D with nx := Pv (i + 1), ct := Pv (i + 1), bk := D.nx } σ2 H2) (hd : ∀ σ H, Pv n σ H → D.nx σ H) :
    ∃ W : Nat → Nat → St → Hp → Prop, (∃ m, W 0 m σ H) ∧ ∀ i m σ H, W i m σ H →
      ((Itr lo n).stop i H ∧ D.nx σ H) ∨ ((Itr lo n).go i H ∧ ∃ N : St → Hp → Prop, (∀ σ' H', N σ' H' → ∃ m', m' < m ∧ W (i + 1) m' σ' H') ∧ ∀ x H', (Itr lo n).yld i H x H' → g x σ H' fun σ2 H2 => tb { D with nx := N, ct := N, bk := D.nx } σ2 H2) := by
  refine ⟨fun i m σ H => m = n - i ∧ i ≤ n ∧ Pv i σ H, ⟨n, by simp, Nat.zero_le _, h0⟩, ?_⟩
  rintro i m σ H ⟨rfl, hi, p⟩
  by_cases hlt : i < n
  · refine .inr ⟨hlt, Pv (i + 1), fun σ' H' p' => ⟨n - (i + 1), by omega, rfl, hlt, p'⟩, fun x H' y => ?_⟩
    obtain ⟨e, y⟩ := y
    subst e y
    exact hs i σ _ hlt p
  · have e : i = n := by omega
    subst e
    exact .inl ⟨Nat.le_refl _, hd σ H p⟩
theorem while_by {c : TT} {tb : TS} {D : Ends} {σ : St} {H : Hp} (Pv : St → Hp → Prop) (μ : St → Hp → Nat) (h0 : Pv σ H)
    (hs : ∀ σ H, Pv σ H → c σ H fun b H1 => if b = true then tb { D with nx := fun σ' H' => Pv σ' H' ∧ μ σ' H' < μ σ H, ct := fun σ' H' => Pv σ' H' ∧ μ σ' H' < μ σ H, bk := D.nx } σ H1 else D.nx σ H1)
    (mono : ∀ σ H Q Q', (∀ b H1, Q b H1 → Q' b H1) → c σ H Q → c σ H Q') : tWhile c tb D σ H := by
  refine ⟨fun m σ H => m = μ σ H ∧ Pv σ H, ⟨_, rfl, h0⟩, ?_⟩
  rintro m σ H ⟨rfl, p⟩
  refine mono σ H _ _ (fun b H1 q => ?_) (hs σ H p)
  cases b with
  | true => exact ⟨_, fun σ' H' ⟨p', l⟩ => ⟨_, l, rfl, p'⟩, q⟩
  | false => exact q
end L2
namespace L2
open PySem PySem.Spec PyProof.Rows
noncomputable abbrev R2 := V → V → Hp → VK → Prop
noncomputable def OpR (X : Cx) (f : Value → Value → Sem Value) (r : R2) : Prop :=
  ∀ (pins : List (Addr × Obj)) (s : Shared) (σ : St) (H : Hp) (x y : V) (v u : Value) (Q : VK), Inv X pins σ H s → RelV x v → RelV y u → r x y H Q →
    wpAny (model X.prog X.w) X.A (f v u) (EP X pins σ Q) X.xe s
noncomputable def UnR (X : Cx) (f : Value → Sem Value) (r : V → Hp → VK → Prop) : Prop :=
  ∀ (pins : List (Addr × Obj)) (s : Shared) (σ : St) (H : Hp) (x : V) (v : Value) (Q : VK), Inv X pins σ H s → RelV x v → r x H Q →
    wpAny (model X.prog X.w) X.A (f v) (EP X pins σ Q) X.xe s
noncomputable def CallR (X : Cx) (f : Value) (r : List V → Hp → VK → Prop) : Prop :=
  ∀ (pins : List (Addr × Obj)) (s : Shared) (σ : St) (H : Hp) (xs : List V) (us : List Value) (Q : VK), Inv X pins σ H s → Vals xs us → r xs H Q →
    wpAny (model X.prog X.w) X.A (call f us) (EP X pins σ Q) X.xe s
noncomputable def tOp (r : R2) (ta tb : TE) : TE := fun σ H Q => ta σ H fun x H1 => tb σ H1 fun y H2 => r x y H2 Q
noncomputable def tUn (r : V → Hp → VK → Prop) (ta : TE) : TE := fun σ H Q => ta σ H fun x H1 => r x H1 Q
noncomputable def rI (C : Int → Int → Prop) (g : Int → Int → V) : R2 := fun x y H Q => ∃ i j, x = .int i ∧ y = .int j ∧ C i j ∧ Q (g i j) H
noncomputable def rI0 (g : Int → Int → V) : R2 := fun x y H Q => ∃ i j, x = .int i ∧ y = .int j ∧ Q (g i j) H
noncomputable def rU (g : Int → V) : V → Hp → VK → Prop := fun x H Q => ∃ i, x = .int i ∧ Q (g i) H
section
variable {X : Cx} {a b c : Expr} {ta tb tc : TE} {pos : Pos}
theorem binT (ha : PE X a ta) (hb : PE X b tb) {pins : List (Addr × Obj)} {s : Shared} {σ : St} {H : Hp} {R : V → V → Hp → Prop} (I : Inv X pins σ H s)
    (h : ta σ H fun x H1 => tb σ H1 fun y H2 => R x y H2) {Q : Value → Shared → Prop} {f : Value → Value → Sem Value}
    (hf : ∀ v u s2 x y H2, Inv X pins σ H2 s2 → RelV x v → RelV y u → R x y H2 → wpAny (model X.prog X.w) X.A (f v u) Q X.xe s2) :
    wpAny (model X.prog X.w) X.A (eval a X.env) (fun v s₁ => wpAny (model X.prog X.w) X.A (eval b X.env) (fun u s₂ => wpAny (model X.prog X.w) X.A (f v u) Q X.xe s₂) X.xe s₁) X.xe s := by
  refine thn (ha pins s σ H _ I h) fun v s1 ⟨x, H1, I1, r1, q1⟩ => ?_
  refine thn (hb pins s1 σ H1 _ I1 q1) fun u s2 ⟨y, H2, I2, r2, q2⟩ => ?_
  exact hf v u s2 x y H2 I2 r1 r2 q2
theorem pe_op {op : Operator} {r : R2} (ho : OpR X (binaryOp op) r) (ha : PE X a ta) (hb : PE X b tb) : PE X (.BinOp a op b pos) (tOp r ta tb) := by
  intro pins s σ H Q I h
  exact wpAny_BinOp (binT ha hb I h fun v u s2 x y H2 I2 rx ry q => ho pins s2 σ H2 x y v u Q I2 rx ry q)
theorem pe_un {op : UnaryOp} {r : V → Hp → VK → Prop} (ho : UnR X (unaryOp op) r) (ha : PE X a ta) : PE X (.UnaryOp op a pos) (tUn r ta) := by
  intro pins s σ H Q I h
  exact UnaryOp_ (thn (ha pins s σ H _ I h) fun v s1 ⟨x, H1, I1, r1, q1⟩ => ho pins s1 σ H1 x v Q I1 r1 q1)
theorem opI {f : Value → Value → Sem Value} {C : Int → Int → Prop} {g : Int → Int → Int}
    (rule : ∀ (i j : Int) (t u : Tok) (s : Shared) (Q : Value → Shared → Prop) (E : Value → Shared → Prop), C i j → Q (.int (g i j) s.toks) { s with toks := s.toks + 1 } → wpAny (model X.prog X.w) X.A (f (.int i t) (.int j u)) Q E s) :
    OpR X f (rI C fun i j => .int (g i j)) := by
  intro pins s σ H x y v u Q I rx ry h
  obtain ⟨i, j, rfl, rfl, hc, q⟩ := h
  obtain ⟨t, rfl⟩ := rx
  obtain ⟨t', rfl⟩ := ry
  exact rule i j t t' s _ _ hc ⟨.int (g i j), H, I.tok _, ⟨_, rfl⟩, q⟩
theorem opI0 {f : Value → Value → Sem Value} {g : Int → Int → Int}
    (rule : ∀ (i j : Int) (t u : Tok) (s : Shared) (Q : Value → Shared → Prop) (E : Value → Shared → Prop), Q (.int (g i j) s.toks) { s with toks := s.toks + 1 } → wpAny (model X.prog X.w) X.A (f (.int i t) (.int j u)) Q E s) :
    OpR X f (rI0 fun i j => .int (g i j)) := by
  intro pins s σ H x y v u Q I rx ry h
  obtain ⟨i, j, rfl, rfl, q⟩ := h
  obtain ⟨t, rfl⟩ := rx
  obtain ⟨t', rfl⟩ := ry
  exact rule i j t t' s _ _ ⟨.int (g i j), H, I.tok _, ⟨_, rfl⟩, q⟩
theorem opB0 {f : Value → Value → Sem Value} {g : Int → Int → Bool}
    (rule : ∀ (i j : Int) (t u : Tok) (s : Shared) (Q : Value → Shared → Prop) (E : Value → Shared → Prop), Q (.bool (g i j)) s → wpAny (model X.prog X.w) X.A (f (.int i t) (.int j u)) Q E s) :
    OpR X f (rI0 fun i j => .bl (g i j)) := by
  intro pins s σ H x y v u Q I rx ry h
  obtain ⟨i, j, rfl, rfl, q⟩ := h
  obtain ⟨t, rfl⟩ := rx
  obtain ⟨t', rfl⟩ := ry
  exact rule i j t t' s _ _ ⟨.bl (g i j), H, I, rfl, q⟩
noncomputable def CDiv (i j : Int) : Prop := 0 < j ∧ j < 1073741824
noncomputable def CPow (i j : Int) : Prop := 0 ≤ j ∧ j ≤ 1000000 ∧ i.natAbs < 2 ^ 64
noncomputable def CMul (i j : Int) : Prop := (-(2 ^ 64) < i ∧ i < 2 ^ 64) ∨ (-(2 ^ 64) < j ∧ j < 2 ^ 64)
theorem CMul.ok {i j : Int} (h : CMul i j) : IntMulOk i j := by
  rcases h with ⟨h1, h2⟩ | ⟨h1, h2⟩
  · exact .of_left (intBits_le_64 h1 h2)
  · exact .of_right (intBits_le_64 h1 h2)
theorem op_add : OpR X (binaryOp .Add) (rI0 fun i j => .int (i + j)) := opI0 fun _ _ _ _ _ _ _ q => add_int q
theorem op_sub : OpR X (binaryOp .Sub) (rI0 fun i j => .int (i - j)) := opI0 fun _ _ _ _ _ _ _ q => sub_int q
theorem op_mul : OpR X (binaryOp .Mult) (rI CMul fun i j => .int (i * j)) := opI fun _ _ _ _ _ _ _ hc q => mul_int q hc.ok
theorem op_fdiv : OpR X (binaryOp .FloorDiv) (rI CDiv fun i j => .int (i / j)) := opI fun i j _ _ _ _ _ hc q => by
  have h1 : (0 : Int) < j := hc.1
  have h2 : j < 1073741824 := hc.2
  exact floordiv_int (by omega) (by rw [Int.fdiv_eq_ediv_of_nonneg i (by omega)]; exact q) (.inl (PyProof.noPylong_small (by omega)))
theorem op_mod : OpR X (binaryOp .Mod) (rI (fun _ j => 0 < j) fun i j => .int (i % j)) := opI fun i j _ _ _ _ _ hc q => by
  have h1 : (0 : Int) < j := hc
  exact mod_int' (by omega) (by rw [Int.fmod_eq_emod_of_nonneg i (by omega)]; exact q)
theorem op_pow : OpR X (binaryOp .Pow) (rI CPow fun i j => .int (i ^ j.toNat)) := opI fun _ _ _ _ _ _ _ hc q => pow_int_small hc.1 hc.2.1 hc.2.2 q
theorem unI {f : Value → Sem Value} {g : Int → Int}
    (rule : ∀ (i : Int) (t : Tok) (s : Shared) (Q : Value → Shared → Prop) (E : Value → Shared → Prop), Q (.int (g i) s.toks) { s with toks := s.toks + 1 } → wpAny (model X.prog X.w) X.A (f (.int i t)) Q E s) :
    UnR X f (rU fun i => .int (g i)) := by
  intro pins s σ H x v Q I rx h
  obtain ⟨i, rfl, q⟩ := h
  obtain ⟨t, rfl⟩ := rx
  exact rule i t s _ _ ⟨.int (g i), H, I.tok _, ⟨_, rfl⟩, q⟩
theorem un_neg : UnR X (unaryOp .USub) (rU fun i => .int (-i)) := unI fun _ _ _ _ _ q => neg_int q
end
noncomputable def scal : V → V → Bool
  | .non, .non => true | .non, .int _ => true | .int _, .non => true | .non, .bl _ => true | .bl _, .non => true | .non, .str _ => true | .str _, .non => true
  | .int _, .int _ => true | .bl _, .bl _ => true | .str _, .str _ => true | .byt _, .byt _ => true
  | .int _, .str _ => true | .str _, .int _ => true | .bl _, .str _ => true | .str _, .bl _ => true
  | _, _ => false
noncomputable def rEq : R2 := fun x y H Q => scal x y = true ∧ Q (.bl (decide (x = y))) H
noncomputable def rNe : R2 := fun x y H Q => scal x y = true ∧ Q (.bl (!decide (x = y))) H
theorem dec_int {i j : Int} : decide (V.int i = V.int j) = (i == j) := by
  rw [Bool.eq_iff_iff]
  simp
theorem dec_bl {i j : Bool} : decide (V.bl i = V.bl j) = (i == j) := by
  rw [Bool.eq_iff_iff]
  simp
theorem dec_str {i j : Str} : decide (V.str i = V.str j) = (i == j) := by
  rw [Bool.eq_iff_iff]
  simp
theorem dec_byt {i j : Array UInt8} : decide (V.byt i = V.byt j) = (i.toList == j.toList) := by
  rw [Bool.eq_iff_iff]
  cases i
  cases j
  simp
section
variable {X : Cx} {a b c : Expr} {ta tb tc : TE} {pos : Pos}
theorem fin_bl {pins : List (Addr × Obj)} {σ : St} {H : Hp} {s : Shared} {Q : VK} {k k' : Bool} (I : Inv X pins σ H s) (q : Q (.bl k) H) (e : k = k') : EP X pins σ Q (.bool k') s := by
  subst e
  exact ⟨.bl k, H, I, rfl, q⟩
theorem op_eq : OpR X (compareOp .Eq) rEq := by
  intro pins s σ H x y v u Q I rx ry h
  obtain ⟨hs, q⟩ := h
  cases x with
  | non =>
    cases rx
    cases y with
    | non => cases ry; exact PySem.EqNone.eq_none_none (fin_bl I q (by simp))
    | bl j => cases ry; exact PySem.EqNone.eq_none_bool (fin_bl I q (by simp))
    | int j => obtain ⟨t', rfl⟩ := ry; exact PySem.EqNone.eq_none_int (fin_bl I q (by simp))
    | str j => obtain ⟨t', rfl⟩ := ry; exact PySem.EqNone.eq_none_str (fin_bl I q (by simp))
    | _ => exact absurd (show false = true from hs) Bool.false_ne_true
  | bl i =>
    cases rx
    cases y with
    | non => cases ry; exact PySem.EqNone.eq_bool_none (fin_bl I q (by simp))
    | bl j => cases ry; exact eq_bool (fin_bl I q dec_bl)
    | str j => obtain ⟨t', rfl⟩ := ry; exact PySem.EqMixed.eq_bool_str (fin_bl I q (by simp))
    | _ => exact absurd (show false = true from hs) Bool.false_ne_true
  | int i =>
    obtain ⟨t, rfl⟩ := rx
    cases y with
    | non => cases ry; exact PySem.EqNone.eq_int_none (fin_bl I q (by simp))
    | int j => obtain ⟨t', rfl⟩ := ry; exact eq_int (fin_bl I q dec_int)
    | str j => obtain ⟨t', rfl⟩ := ry; exact PySem.EqMixed.eq_int_str (fin_bl I q (by simp))
    | _ => exact absurd (show false = true from hs) Bool.false_ne_true
  | str i =>
    obtain ⟨t, rfl⟩ := rx
    cases y with
    | non => cases ry; exact PySem.EqNone.eq_str_none (fin_bl I q (by simp))
    | bl j => cases ry; exact PySem.EqMixed.eq_str_bool (fin_bl I q (by simp))
    | int j => obtain ⟨t', rfl⟩ := ry; exact PySem.EqMixed.eq_str_int (fin_bl I q (by simp))
    | str j => obtain ⟨t', rfl⟩ := ry; exact eq_str (fin_bl I q dec_str)
    | _ => exact absurd (show false = true from hs) Bool.false_ne_true
  | byt i =>
    obtain ⟨t, rfl⟩ := rx
    cases y with
    | byt j => obtain ⟨t', rfl⟩ := ry; exact PySem.W.eq_bytes (fin_bl I q dec_byt)
    | _ => exact absurd (show false = true from hs) Bool.false_ne_true
  | _ => cases y <;> exact absurd (show false = true from hs) Bool.false_ne_true
theorem op_ne : OpR X (compareOp .NotEq) rNe := by
  intro pins s σ H x y v u Q I rx ry h
  obtain ⟨hs, q⟩ := h
  cases x with
  | non =>
    cases rx
    cases y with
    | non => cases ry; exact PySem.EqNone.ne_none_none (fin_bl I q (by simp))
    | bl j => cases ry; exact PySem.EqNone.ne_none_bool (fin_bl I q (by simp))
    | int j => obtain ⟨t', rfl⟩ := ry; exact PySem.EqNone.ne_none_int (fin_bl I q (by simp))
    | str j => obtain ⟨t', rfl⟩ := ry; exact PySem.EqNone.ne_none_str (fin_bl I q (by simp))
    | _ => exact absurd (show false = true from hs) Bool.false_ne_true
  | bl i =>
    cases rx
    cases y with
    | non => cases ry; exact PySem.EqNone.ne_bool_none (fin_bl I q (by simp))
    | bl j => cases ry; exact ne_bool (fin_bl I q (congrArg not dec_bl))
    | str j => obtain ⟨t', rfl⟩ := ry; exact PySem.EqMixed.ne_bool_str (fin_bl I q (by simp))
    | _ => exact absurd (show false = true from hs) Bool.false_ne_true
  | int i =>
    obtain ⟨t, rfl⟩ := rx
    cases y with
    | non => cases ry; exact PySem.EqNone.ne_int_none (fin_bl I q (by simp))
    | int j => obtain ⟨t', rfl⟩ := ry; exact ne_int (fin_bl I q (congrArg not dec_int))
    | str j => obtain ⟨t', rfl⟩ := ry; exact PySem.EqMixed.ne_int_str (fin_bl I q (by simp))
    | _ => exact absurd (show false = true from hs) Bool.false_ne_true
  | str i =>
    obtain ⟨t, rfl⟩ := rx
    cases y with
    | non => cases ry; exact PySem.EqNone.ne_str_none (fin_bl I q (by simp))
    | bl j => cases ry; exact PySem.EqMixed.ne_str_bool (fin_bl I q (by simp))
    | int j => obtain ⟨t', rfl⟩ := ry; exact PySem.EqMixed.ne_str_int (fin_bl I q (by simp))
    | str j => obtain ⟨t', rfl⟩ := ry; exact ne_str (fin_bl I q (congrArg not dec_str))
    | _ => exact absurd (show false = true from hs) Bool.false_ne_true
  | byt i =>
    obtain ⟨t, rfl⟩ := rx
    cases y with
    | byt j => obtain ⟨t', rfl⟩ := ry; exact PySem.W.ne_bytes (fin_bl I q (congrArg not dec_byt))
    | _ => exact absurd (show false = true from hs) Bool.false_ne_true
  | _ => cases y <;> exact absurd (show false = true from hs) Bool.false_ne_true
theorem op_lt : OpR X (compareOp .Lt) (rI0 fun i j => .bl (decide (i < j))) := opB0 fun _ _ _ _ _ _ _ q => lt_int q
theorem op_gt : OpR X (compareOp .Gt) (rI0 fun i j => .bl (decide (j < i))) := opB0 fun _ _ _ _ _ _ _ q => gt_int q
theorem op_ge : OpR X (compareOp .GtE) (rI0 fun i j => .bl (decide (j ≤ i))) := opB0 fun _ _ _ _ _ _ _ q => ge_int q
theorem nomark (b : Expr) {op : CmpOp} (h : op ≠ .In := by decide) (h2 : op ≠ .NotIn := by decide) : behindInMarks op b = false := by
  have e1 : (op == CmpOp.In) = false := by cases op <;> first | rfl | exact absurd rfl h
  have e2 : (op == CmpOp.NotIn) = false := by cases op <;> first | rfl | exact absurd rfl h2
  cases b <;> simp [behindInMarks, e1, e2]
theorem pe_cmpR {op : CmpOp} {r : R2} (ho : OpR X (compareOp op) r) (ha : PE X a ta) (hb : PE X b tb) (hm : behindInMarks op b = false) : PE X (.Compare a [op] [b] pos) (tOp r ta tb) := by
  intro pins s σ H Q I h
  exact wpAny_Compare1 (binT ha hb I h fun v u s2 x y H2 I2 rx ry q => ho pins s2 σ H2 x y v u Q I2 rx ry q) hm
noncomputable def tTest (t : TE) : TT := fun σ H Q => t σ H fun x H' => ∃ k, x = .bl k ∧ Q k H'
theorem pt_cmpR {op : CmpOp} {r : R2} (ho : OpR X (compareOp op) r) (ha : PE X a ta) (hb : PE X b tb) (hm : behindInMarks op b = false) : PT X (.Compare a [op] [b] pos) (tTest (tOp r ta tb)) := by
  intro pins s σ H Q I h
  refine wpAny_isTrue_Compare1 (thn (ha pins s σ H _ I h) fun v s1 ⟨x, H1, I1, r1, q1⟩ => thn (hb pins s1 σ H1 _ I1 q1) fun u s2 ⟨y, H2, I2, r2, q2⟩ =>
    thn (ho pins s2 σ H2 x y v u _ I2 r1 r2 q2) fun c s3 ⟨z, H3, I3, r3, k, e, q3⟩ => ?_) hm
  subst e
  cases r3
  exact wpAny_truthy_bool ⟨H3, I3, q3⟩
theorem line63 : (sizeLine : Nat) < 2 ^ 63 := by rw [sizeLine_eq]; decide
theorem vals1 {x : V} {us : List Value} (r : Vals [x] us) : ∃ u, us = [u] ∧ RelV x u := by
  cases r with
  | cons r1 r2 => cases r2; exact ⟨_, rfl, r1⟩
theorem vals2 {x y : V} {us : List Value} (r : Vals [x, y] us) : ∃ u w', us = [u, w'] ∧ RelV x u ∧ RelV y w' := by
  cases r with
  | cons r1 r2 =>
    cases r2 with
    | cons r3 r4 => cases r4; exact ⟨_, _, rfl, r1, r3⟩
theorem call_abs : CallR X (.builtin "abs") (fun xs H Q => ∃ i, xs = [.int i] ∧ Q (.int (if i < 0 then -i else i)) H) := by
  intro pins s σ H xs us Q I r h
  obtain ⟨i, rfl, q⟩ := h
  obtain ⟨u, rfl, t, rfl⟩ := vals1 r
  exact call_abs_int fun u tk => ⟨.int (if i < 0 then -i else i), H, I.tok _, ⟨_, rfl⟩, q⟩
theorem call_min2 (hc : X.calm = true) : CallR X (.builtin "min") (fun xs H Q => ∃ i j, xs = [.int i, .int j] ∧ Q (.int (if j < i then j else i)) H) := by
  intro pins s σ H xs us Q I r h
  obtain ⟨i, j, rfl, q⟩ := h
  obtain ⟨u, w', rfl, ⟨t, rfl⟩, ⟨t', rfl⟩⟩ := vals2 r
  refine min_two_ints (I.ok.hd hc) fun h' tk k => ⟨_, H, I.kept k, ?_, q⟩
  by_cases hj : j < i
  · rw [if_pos hj, if_pos hj]; exact ⟨_, rfl⟩
  · rw [if_neg hj, if_neg hj]; exact ⟨_, rfl⟩
theorem call_int1 : CallR X (.type "int") (fun xs H Q => (∃ i, xs = [.int i] ∧ Q (.int i) H) ∨ ∃ k, xs = [.bl k] ∧ Q (.int (if k then 1 else 0)) H) := by
  intro pins s σ H xs us Q I r h
  rcases h with ⟨i, rfl, q⟩ | ⟨k, rfl, q⟩
  · obtain ⟨u, rfl, t, rfl⟩ := vals1 r
    exact call_int_int ⟨.int i, H, I, ⟨_, rfl⟩, q⟩
  · obtain ⟨u, rfl, r1⟩ := vals1 r
    cases r1
    exact call_int_bool ⟨.int (if k then 1 else 0), H, I.tok _, ⟨_, rfl⟩, q⟩
end
end L2
namespace L2
open PySem PySem.Spec PyProof.Rows
structure ObjM (h : Heap) (x dx C : Addr) (mA : Str → Option Value) : Prop where
  obj : h.get? x = some (PySem.W.instObj C dx)
  ns : h.Ns1 dx mA
  ne : dx ≠ x
theorem lookIn_ns {h : Heap} {dx : Addr} {mA : Str → Option Value} (n : h.Ns1 dx mA) : ∃ od, h.get? dx = some od ∧ ∀ name, PySem.W.lookIn name od = some (mA name) := by
  obtain ⟨o, es, ep, ho, hd, hk, _, hm⟩ := n
  refine ⟨o, ho, fun name => ?_⟩
  have e := hm name
  unfold nsFind findBy at e
  rw [← Array.find?_toList] at e
  unfold PySem.W.lookIn
  rw [hd]
  dsimp only
  split
  · rename_i y q
    rw [q] at e
    exact congrArg some e
  · rename_i q
    rw [q] at e
    have a : es.toList.any (·.refKey) = false := by
      rw [List.any_eq_false]
      intro y hy
      obtain ⟨z, t, hkey⟩ := hk y (Array.mem_toList_iff.mp hy)
      simp [DictEntry.refKey, hkey]
    have a' : ¬ es.toList.any (·.refKey) = true := by rw [a]; exact Bool.false_ne_true
    rw [if_neg a']
    exact congrArg some e
theorem ObjM.look {h : Heap} {x dx C : Addr} {mA : Str → Option Value} (I : ObjM h x dx C mA) : ∃ od, PySem.W.InstAt h x (PySem.W.instObj C dx) C (some od) ∧ ∀ name, PySem.W.lookIn name od = some (mA name) :=
  let ⟨od, ho, hl⟩ := lookIn_ns I.ns
  ⟨od, ⟨I.obj, rfl, rfl, ho⟩, hl⟩
section
variable {prog : Program} {w : World} {A : Around} {E : Value → Shared → Prop} {s : Shared} {K : PySem.W.Frag} {x dx C f : Addr} {mA : Str → Option Value} {name : Str} {v : Value}
end
section
variable {P : Program} {w : World} {H H' : Hp} {h h' : Heap} {a C dx : Addr} {fs fs' : List (Str × V)}
theorem ins_get (hok : HOk P w H h) (e : H a = some (.ins C dx fs)) : ∃ mA, ObjM h a dx C mA ∧ (∀ f, RelO (fs.lookup f) (mA f)) ∧ PySem.Within mA (fs.map (·.1)) ∧ fs.length ≤ 1000 ∧ H dx = some (.own a) := by
  obtain ⟨d, z, ne, ob, mA, n, r, q⟩ := (show ObjOk P w H h a (.ins C dx fs) from hok a _ e)
  exact ⟨mA, ⟨ob, n, ne⟩, r, q, z, d⟩
end
structure Cls (K : PySem.W.Frag) (C : Addr) : Prop where
  pg : PySem.W.plainGet K C Str.empty = true
  hd : PySem.W.hasDictIn K C = true
  po : PySem.W.plainOver K C = true
  sa : PySem.W.findIn K (.ref C) "__setattr__" = some (some (.builtin "object.__setattr__"))
theorem Cls.get {K : PySem.W.Frag} {C : Addr} (c : Cls K C) (f : Str) : PySem.W.plainGet K C f = true := c.pg
section
variable {X : Cx} {pins : List (Addr × Obj)} {σ : St} {H : Hp} {s : Shared} {a C dx : Addr} {fs : List (Str × V)} {f : Str} {v : V} {A : Around} {E : Value → Shared → Prop}
end
section
variable {X : Cx} {o e value : Expr} {f : Str} {pos pos' tpos : Pos} {ta tv : TE}
end
section
variable {X : Cx} {pins : List (Addr × Obj)} {σ : St} {H : Hp} {s : Shared} {A : Around} {E : Value → Shared → Prop} {Q : Value → Shared → Prop} {c : Value} {b : Bool}
inductive TyOf (K : PySem.W.Frag) (H : Hp) : V → Value → Prop where
  | non : TyOf K H .non (.type "NoneType")
  | bl (x : Bool) : TyOf K H (.bl x) (.type "bool")
  | int (i : Int) : TyOf K H (.int i) (.type "int")
  | str (x : Str) : TyOf K H (.str x) (.type "str")
  | flt (x : UInt64) : TyOf K H (.flt x) (.type "float")
  | lst {a : Addr} {xs : List V} (e : H a = some (.lst xs)) : TyOf K H (.ref a) (.type "list")
  | frz {a : Addr} {o : Obj} {xs : List V} (e : H a = some (.frz o (.lst xs))) : TyOf K H (.ref a) (.type "list")
  | tup {a : Addr} {xs : List V} (e : H a = some (.tup xs)) : TyOf K H (.ref a) (.type "tuple")
  | dK {a : Addr} {kvs : List (Key × V)} (e : H a = some (.dK kvs)) : TyOf K H (.ref a) (.type "dict")
  | dT {a : Addr} {kvs : List (List Key × V)} (e : H a = some (.dT kvs)) : TyOf K H (.ref a) (.type "dict")
  | ins {a C dx : Addr} {fs : List (Str × V)} (e : H a = some (.ins C dx fs)) (cl : Cls K C) (ha : PySem.W.findIn K (.ref C) "__class__" = some (some (.builtin "object.__class__")))
      (hn : PySem.W.specialIn K (.builtin "object.__class__") "__get__" = some (some (.builtin "getset_descriptor.__get__"))) (htk : PySem.W.takesIn K (.builtin "object.__class__") = some true)
      (hm : PySem.W.mroIn K C (.type "object") = some true) : TyOf K H (.ref a) (.ref C)
theorem isinst_ok {x : V} {u t : Value} (I : Inv X pins σ H s) (rx : RelV x u) (ty : TyOf X.K H x t) (e : PySem.W.kitOne X.K t c = some b) (h : ∀ tk, Q (.bool b) { s with toks := tk }) :
    wpAny (model X.prog X.w) A (call (.builtin "isinstance") [u, c]) Q E s := by
  cases ty with
  | non => cases (show u = Value.none from rx); exact PySem.W.kia_one PySem.W.kitx_none I.kIn True.intro e (fun z => nomatch z) h
  | bl y => cases (show u = Value.bool y from rx); exact PySem.W.kia_one PySem.W.kitx_bool I.kIn True.intro e (fun z => nomatch z) h
  | int i => obtain ⟨t, q⟩ := (show ∃ t, u = Value.int i t from rx); cases q; exact PySem.W.kia_one PySem.W.kitx_int I.kIn True.intro e (fun z => nomatch z) h
  | str y => obtain ⟨t, q⟩ := (show ∃ t, u = Value.str y t from rx); cases q; exact PySem.W.kia_one PySem.W.kitx_str I.kIn True.intro e (fun z => nomatch z) h
  | flt y => obtain ⟨t, q⟩ := (show ∃ t, u = Value.float y t from rx); cases q; exact PySem.W.kia_one PySem.W.kitx_float I.kIn True.intro e (fun z => nomatch z) h
  | @lst a xs ea =>
    cases (show u = Value.ref a from rx)
    obtain ⟨_, _, n, _, h1⟩ := (show ObjOk X.prog X.w H s.heap a (.lst xs) from I.hok a _ ea)
    exact PySem.W.kia_one PySem.W.kitx_list I.kIn ⟨_, h1, rfl⟩ e (fun z => nomatch z) h
  | @frz a ob xs ea =>
    cases (show u = Value.ref a from rx)
    obtain ⟨_, _, _, n, _, h1⟩ := (show ObjOk X.prog X.w H s.heap a (.frz ob (.lst xs)) from I.hok a _ ea)
    exact PySem.W.kia_one PySem.W.kitx_list I.kIn ⟨_, h1, rfl⟩ e (fun z => nomatch z) h
  | @tup a xs ea =>
    cases (show u = Value.ref a from rx)
    obtain ⟨_, _, _, p⟩ := (show ObjOk X.prog X.w H s.heap a (.tup xs) from I.hok a _ ea)
    obtain ⟨o, h1, h2, _⟩ := p
    exact PySem.W.kia_one PySem.W.kitx_tuple I.kIn ⟨o, h1, h2⟩ e (fun z => nomatch z) h
  | @dK a kvs ea =>
    cases (show u = Value.ref a from rx)
    obtain ⟨_, _, vs, _, p⟩ := (show ObjOk X.prog X.w H s.heap a (.dK kvs) from I.hok a _ ea)
    obtain ⟨o, es, ep, h1, h2, _⟩ := p
    exact PySem.W.kia_one PySem.W.kitx_dict I.kIn ⟨o, h1, h2.1⟩ e (fun z => nomatch z) h
  | @dT a kvs ea =>
    cases (show u = Value.ref a from rx)
    obtain ⟨_, _, xs, _, o, es, ep, h1, h2, _⟩ := (show ObjOk X.prog X.w H s.heap a (.dT kvs) from I.hok a _ ea)
    exact PySem.W.kia_one PySem.W.kitx_dict I.kIn ⟨o, h1, h2.1⟩ e (fun z => nomatch z) h
  | @ins a C dx fs ea cl ha hn htk hm =>
    cases (show u = Value.ref a from rx)
    obtain ⟨mA, O, _⟩ := ins_get I.hok ea
    obtain ⟨od, J, _⟩ := O.look
    exact PySem.W.kia_one (PySem.W.kitx_own (cl.get _) cl.hd ha hn htk hm) I.kIn J e (fun z => nomatch z) h
end
end L2
namespace L2
open PySem PySem.Spec PyProof.Rows
structure Room (k : Nat) (A : Around) : Prop where
  hd : A.handled = none
  dp : A.depth + 3 * k + 5 < recursionLimit
  un : A.units + 16 * k + 200 < cLine
theorem Room.mono {j k : Nat} {A : Around} (r : Room k A) (h : j ≤ k) : Room j A := ⟨r.hd, by have := r.dp; omega, by have := r.un; omega⟩
theorem Room.deeper {k : Nat} {A : Around} (r : Room (k + 1) A) (env : Env) : Room k (A.deeper env) :=
  ⟨r.hd, by have := r.dp; show A.depth + 1 + 3 * k + 5 < _; omega, by have := r.un; show A.units + 3 + 16 * k + 200 < _; omega⟩
theorem Room.in1 {k : Nat} {A : Around} (r : Room (k + 1) A) : Room k A.in1 :=
  ⟨r.hd, by have := r.dp; show A.depth + 3 * k + 5 < _; omega, by have := r.un; show A.units + 1 + 16 * k + 200 < _; omega⟩
theorem Room.depth {k : Nat} {A : Around} (r : Room k A) : A.depth < recursionLimit := by have := r.dp; omega
theorem Room.units {k : Nat} {A : Around} (r : Room k A) : A.units + 64 < cLine := by have := r.un; omega
noncomputable def tNil : TA := fun _ H Q => Q [] H
noncomputable def tCons (ta : TE) (tr : TA) : TA := fun σ H Q => ta σ H fun x H1 => tr σ H1 fun xs H2 => Q (x :: xs) H2
section
variable {X : Cx} {e : Expr} {es : List Expr} {te : TE} {t : TA} {pos : Pos}
theorem pa_nil : PA X [] tNil := fun _ _ _ _ H Q I h => Calls.spliced_nil ⟨[], H, I, .nil, h⟩
theorem pa_cons (ha : PE X e te) (hr : PA X es t) (hs : starEach (e :: es) X.env = (false, eval e X.env) :: starEach es X.env := by rfl) : PA X (e :: es) (tCons te t) := by
  intro pos pins s σ H Q I h
  rw [hs]
  show wpAny _ _ (spliced ((false, eval e X.env) :: backTo pos (starEach es X.env))) _ _ s
  refine Calls.spliced_cons (thn (ha pins s σ H _ I h) fun u s1 ⟨x, H1, I1, r1, q1⟩ => ?_)
  exact thn (hr pos pins s1 σ H1 _ I1 q1) fun us s2 ⟨xs, H2, I2, r2, q2⟩ => ⟨x :: xs, H2, I2, .cons r1 r2, q2⟩
noncomputable def tTup (t : TA) : TE := fun σ H Q => t σ H fun xs H1 => xs.length ≤ sizeLine ∧ ∀ p, H1 p = none → Q (.ref p) (upd H1 p (.tup xs))
noncomputable def tLst (t : TA) : TE := fun σ H Q => t σ H fun xs H1 => xs.length ≤ sizeLine ∧ ∀ p, H1 p = none → Q (.ref p) (upd H1 p (.lst xs))
theorem pe_tup {x1} (h : PA X es t) : PE X (.Tuple es x1 pos) (tTup t) := by
  intro pins s σ H Q I hq
  refine wpAny_Tuple_spliced (thn (h pos pins s σ H _ I hq) fun us s1 ⟨xs, H1, I1, r, z, q⟩ => ⟨by rw [← r.length]; exact z, ?_⟩)
  have hf : H1 s1.heap.objs.size = none := I1.hok.fresh (Nat.le_refl _)
  refine ⟨.ref s1.heap.objs.size, upd H1 s1.heap.objs.size (.tup xs), I1.laid (t' := s1.toks) (fun b u e => Heap.get?_push_of_some _ e) (Nat.le_refl _) ?_, rfl, q _ hf⟩
  exact ⟨z, us, r, ⟨_, Heap.get?_push_size _ rfl, rfl, _, rfl⟩⟩
theorem pe_lst (h : PA X es t) : PE X (.List es pos) (tLst t) := by
  intro pins s σ H Q I hq
  refine wpAny_List_spliced (thn (h pos pins s σ H _ I hq) fun us s1 ⟨xs, H1, I1, r, z, q⟩ => ⟨by rw [← r.length]; exact z, ?_⟩)
  have hf : H1 s1.heap.objs.size = none := I1.hok.fresh (Nat.le_refl _)
  refine ⟨.ref s1.heap.objs.size, upd H1 s1.heap.objs.size (.lst xs), I1.laid (t' := s1.toks) (fun b u e => Heap.get?_push_of_some _ e) (Nat.le_refl _) ?_, rfl, q _ hf⟩
  exact ⟨z, us, 0, r, Heap.get?_push_size _ rfl⟩
end
noncomputable abbrev Sp := List V → Hp → VK → XK → Prop
noncomputable abbrev CXT := List Env → Hp → Shared → XK → Value → Shared → Prop
structure Env0 (P : Program) (w : World) (K : PySem.W.Frag) (mg : Str → Option Value) (base : Heap) (A : Around) (outer : List Env) (s : Shared) (H : Hp) : Prop where
  frames : A.frames = some outer
  mod : Mod K mg base
  bs : ∀ b o, base.get? b = some o → s.heap.get? b = some o ∧ H b = none
  bsz : base.objs.size ≤ s.heap.objs.size
  funs : s.heap.FunFrames base outer
  frf : ∀ b ∈ frs outer, H b = none
  hok : HOk P w H s.heap
  bare : AllBare s.gens
noncomputable def CE (outer : List Env) (P : Program) (w : World) (H : Hp) (s : Shared) (Q : VK) (u : Value) (s' : Shared) : Prop :=
  ∃ v H', s'.os = s.os ∧ AllBare s'.gens ∧ Un (frs outer) [] H H' s.heap s'.heap ∧ HOk P w H' s'.heap ∧ RelV v u ∧ Q v H'
noncomputable def CR (CX : CXT) (outer : List Env) (P : Program) (w : World) (H : Hp) (s : Shared) (Q : VK) (E : XK) (r : Result) (s' : Shared) : Prop :=
  match r with
  | .ok (.ret u) => CE outer P w H s Q u s'
  | .ok _ => False
  | .error e => CX outer H s E e s'
structure FnOk (P : Program) (w : World) (K : PySem.W.Frag) (mg : Str → Option Value) (base : Heap) (CX : CXT) (k : Nat) (f : Addr) (fd : FuncData) (ps : List Str) (sp : Sp) : Prop where
  len : ∀ vs H Q E, sp vs H Q E → vs.length = ps.length
  run : ∀ (A : Around) (outer : List Env) (s : Shared) (H : Hp) (args : Args) (us : List Value) (vs : List V) (Q : VK) (E : XK), Room k A → Env0 P w K mg base A outer s H → BindsTo s fd args (ps.zip us) → Vals vs us → sp vs H Q E →
    codeAny (model P w) A (.call (.ref f) args) (CR CX outer P w H s Q E) s
theorem FnOk.mono {P : Program} {w : World} {K : PySem.W.Frag} {mg : Str → Option Value} {base : Heap} {CX : CXT} {j k : Nat} {f : Addr} {fd : FuncData} {ps : List Str} {sp : Sp} (F : FnOk P w K mg base CX j f fd ps sp) (h : j ≤ k) :
    FnOk P w K mg base CX k f fd ps sp := ⟨F.len, fun A outer s H args us vs Q E hr => F.run A outer s H args us vs Q E (hr.mono h)⟩
theorem Env0.in1 {P : Program} {w : World} {K : PySem.W.Frag} {mg : Str → Option Value} {base : Heap} {A : Around} {outer : List Env} {s : Shared} {H : Hp} (e : Env0 P w K mg base A outer s H) :
    Env0 P w K mg base A.in1 outer s H := ⟨e.frames, e.mod, e.bs, e.bsz, e.funs, e.frf, e.hok, e.bare⟩
section
variable {X : Cx} {pins : List (Addr × Obj)} {σ : St} {H : Hp} {s s' : Shared}
theorem Inv.env0 (I : Inv X pins σ H s) : Env0 X.prog X.w X.K X.mg X.base X.A X.stack s H :=
  ⟨I.ok.frames, I.ok.mod, I.bs, Nat.le_trans I.ok.bsz I.sz, I.stack, I.stkFree, I.hok, I.bare⟩
theorem Inv.after {Q : VK} {u : Value} (I : Inv X pins σ H s) (h : CE X.stack X.prog X.w H s Q u s') : EP X pins σ Q u s' := by
  obtain ⟨v, H', os, bare, un, hok, r, q⟩ := h
  obtain ⟨hh, g, d, t, os'⟩ := s'
  obtain rfl : os' = s.os := os
  exact ⟨v, H', I.call (h' := hh) (g' := g) (d' := d) (t' := t) (ch := []) un hok bare (fun b z => absurd z (by simp)), r, q⟩
end
noncomputable def tCall (sp : Sp) (dvs : List V) (E : XK) (t : TA) : TE := fun σ H Q => t σ H fun vs H1 => sp (vs ++ dvs) H1 Q E
noncomputable def Binds (K : PySem.W.Frag) (fd : FuncData) (ps : List Str) (ds : List Value) : Prop :=
  ∀ (s : Shared) (us : List Value), K.In s.heap → (us ++ ds).length = ps.length → BindsTo s fd ⟨us, []⟩ (ps.zip (us ++ ds))
theorem Binds.all {K : PySem.W.Frag} {fd : FuncData} {ps : List Str} (h : ∀ us : List Value, us.length = ps.length → bindArgs fd ⟨us, []⟩ = pure (ps.zip us)) : Binds K fd ps [] := fun s us _ hl => by
  rw [List.append_nil] at hl ⊢
  exact .of_eq (h us hl)
noncomputable def Passes (CX : CXT) (X : Cx) (E : XK) : Prop := ∀ (pins : List (Addr × Obj)) (σ : St) (H : Hp) (s : Shared) (e : Value) (s' : Shared), Inv X pins σ H s → CX X.stack H s E e s' → X.xe e s'
section
variable {X : Cx} {CX : CXT} {k : Nat} {f C : Addr} {fd : FuncData} {ps : List Str} {sp : Sp} {dvs : List V} {ds : List Value} {E : XK} {x m : Str} {p pos apos : Pos} {e o : Expr} {es : List Expr} {ta : TE} {t : TA}
theorem run_fn {pins : List (Addr × Obj)} {σ : St} {H : Hp} {s : Shared} {Q : VK} {us : List Value} {vs : List V} (F : FnOk X.prog X.w X.K X.mg X.base CX k f fd ps sp) (hr : Room k X.A) (hb : Binds X.K fd ps ds) (hd : Vals dvs ds) (hx : Passes CX X E)
    (I : Inv X pins σ H s) (r : Vals vs us) (h : sp (vs ++ dvs) H Q E) : wpAny (model X.prog X.w) X.A (call (.ref f) us) (EP X pins σ Q) X.xe s := by
  have r2 : Vals (vs ++ dvs) (us ++ ds) := r.append hd
  have hl : (us ++ ds).length = ps.length := by rw [← r2.length]; exact F.len _ _ _ _ h
  refine wpAny_call (codeAny_mono (F.run X.A X.stack s H ⟨us, []⟩ (us ++ ds) (vs ++ dvs) Q E hr I.env0 (hb s us I.kIn hl) r2 h) fun r s' hq => ?_)
  cases r with
  | error e => exact hx pins σ H s e s' I hq
  | ok fl =>
    cases fl with
    | ret u => exact I.after hq
    | next => exact False.elim hq
    | brk => exact False.elim hq
    | cont => exact False.elim hq
theorem pe_call (F : FnOk X.prog X.w X.K X.mg X.base CX k f fd ps sp) (hr : Room k X.A) (hg : Gl X x) (hm : X.mg x = some (.ref f)) (hk : PySem.W.keepIn X.K (.ref f) = true) (hb : Binds X.K fd ps ds) (hd : Vals dvs ds) (hx : Passes CX X E)
    (ha : PA X (e :: es) t) (hdb : (x == ("__debug__" : Str)) = false := by decide) (he : starEach (e :: es) X.env = (false, eval e X.env) :: starEach es X.env := by rfl) (hpl : (backTo pos (starEach es X.env)).any (·.1) = false := by rfl) :
    PE X (.Call (.Name x p) (e :: es) [] pos) (tCall sp dvs E t) := by
  intro pins s σ H Q I h
  refine wpAny_Call_Name_kw (ld_glob I hg hm ?_ hdb)
  refine PySem.W.callWith_K (h₀ := X.base) I.ok.mod.kin hk (thn (ha pos pins s σ H _ I h) fun us s1 ⟨vs, H1, I1, r, q⟩ => ⟨I1.kIn, ?_⟩) he hpl
  exact run_fn F hr hb hd hx I1 r q
end
section
variable {X : Cx} {CX : CXT} {k : Nat} {f C : Addr} {fd : FuncData} {ps ks : List Str} {sp : Sp} {E : XK} {x m : Str} {p pos apos kpos : Pos} {e o : Expr} {es : List Expr} {kws : List Keyword} {te ta : TE} {t tk : TA} {nm : Option Str}
variable {g : List Value → List Value → List Value} {gV : List V → List V → List V}
end
structure FnScope (N P : List Str) (sc : Scope) : Prop where
  kind : sc.kind = .function
  co : sc.isCoroutine = false
  gen : sc.isGenerator = false
  nd : N.Nodup
  pre : N.take P.length = P
  par : ∀ x ∈ P, sc.names.lookup x = some .local ∨ sc.names.lookup x = some .cell
  nofree : ∀ y ∈ sc.names, y.2 ≠ .free
theorem bindL_out {kindOf : Str → Option NameKind} {x : Str} : ∀ {binds : List (Str × Value)} {m : Str → Option Value}, (∀ v, (x, v) ∉ binds) → bindL kindOf binds m x = m x
  | [], _, _ => rfl
  | (n, v) :: r, m, h => by
    unfold bindL
    rw [bindL_out fun w hw => h w (List.mem_cons_of_mem _ hw)]
    split
    · have : x ≠ n := by rintro rfl; exact h v List.mem_cons_self
      simp [this]
    · rfl
theorem bindC_out {kindOf : Str → Option NameKind} {x : Str} : ∀ {binds : List (Str × Value)} {m : Str → Option Value}, (∀ v, (x, v) ∉ binds) → bindC kindOf binds m x = m x
  | [], _, _ => rfl
  | (n, v) :: r, m, h => by
    unfold bindC
    rw [bindC_out fun w hw => h w (List.mem_cons_of_mem _ hw)]
    split
    · rfl
    · have : x ≠ n := by rintro rfl; exact h v List.mem_cons_self
      simp [this]
theorem bindL_get {kindOf : Str → Option NameKind} {x : Str} {v : Value} : ∀ {P : List Str} {vs : List Value} {i : Nat} {m : Str → Option Value}, P.Nodup → P[i]? = some x → vs[i]? = some v → kindOf x = some .local →
    bindL kindOf (P.zip vs) m x = some v
  | [], _, _, _, _, h, _, _ => by simp at h
  | _ :: _, [], _, _, _, _, h, _ => by simp at h
  | p :: P, w :: vs, 0, m, nd, h1, h2, hk => by
    simp at h1 h2; subst h1; subst h2
    show bindL kindOf ((p, w) :: P.zip vs) m p = _
    unfold bindL
    rw [bindL_out fun v hv => (List.nodup_cons.mp nd).1 (List.of_mem_zip hv).1, if_pos hk]
    simp
  | p :: P, w :: vs, i + 1, m, nd, h1, h2, hk => by
    show bindL kindOf ((p, w) :: P.zip vs) m x = _
    unfold bindL
    exact bindL_get (i := i) (List.nodup_cons.mp nd).2 (by simpa using h1) (by simpa using h2) hk
theorem bindC_get {kindOf : Str → Option NameKind} {x : Str} {v : Value} : ∀ {P : List Str} {vs : List Value} {i : Nat} {m : Str → Option Value}, P.Nodup → P[i]? = some x → vs[i]? = some v → kindOf x ≠ some .local →
    bindC kindOf (P.zip vs) m x = some v
  | [], _, _, _, _, h, _, _ => by simp at h
  | _ :: _, [], _, _, _, _, h, _ => by simp at h
  | p :: P, w :: vs, 0, m, nd, h1, h2, hk => by
    simp at h1 h2; subst h1; subst h2
    show bindC kindOf ((p, w) :: P.zip vs) m p = _
    unfold bindC
    rw [bindC_out fun v hv => (List.nodup_cons.mp nd).1 (List.of_mem_zip hv).1, if_neg hk]
    simp
  | p :: P, w :: vs, i + 1, m, nd, h1, h2, hk => by
    show bindC kindOf ((p, w) :: P.zip vs) m x = _
    unfold bindC
    exact bindC_get (i := i) (List.nodup_cons.mp nd).2 (by simpa using h1) (by simpa using h2) hk
noncomputable def start (N : List Str) (vs : List V) : St := vs.map some ++ List.replicate (N.length - vs.length) none
noncomputable def cxOf (CX : CXT) (P : Program) (w : World) (K : PySem.W.Frag) (mg : Str → Option Value) (base : Heap) (N : List Str) (qual : Str) (scope : Scope) (f : Addr) (cd : Value) (A : Around) (outer : List Env) (s : Shared) (H : Hp) (E : XK) : Cx where
  prog := P
  w := w
  K := K
  mg := mg
  base := base
  A := A.deeper (envOfC qual scope s.heap.objs.size f cd)
  N := N
  s₀ := s
  H₀ := H
  env := envOfC qual scope s.heap.objs.size f cd
  outer := outer
  stack := envOfC qual scope s.heap.objs.size f cd :: outer
  ex := []
  calm := true
  fn := fun _ => true
  pn := []
  xe := fun e s' => wpAny (model P w) (A.deeper (envOfC qual scope s.heap.objs.size f cd)) (leaving (envOfC qual scope s.heap.objs.size f cd) e) (fun _ s'' => CX outer H s E e s'') (fun e' s'' => CX outer H s E e' s'') s'
theorem cell_has {sc : Scope} {n : Nat} {x : Str} (h : sc.names.lookup x = some .cell) : ∃ c, (cellsFrom n sc.names []).lookup x = some c := by
  have q := PySem.W.cellsFrom_some sc.names n [] (.inl h)
  exact Option.isSome_iff_exists.mp q
theorem inv_start {CX : CXT} {P : Program} {w : World} {K : PySem.W.Frag} {mg : Str → Option Value} {base : Heap} {N ps : List Str} {qual : Str} {scope : Scope} {f : Addr} {cd : Value} {A : Around} {outer : List Env} {s s1 : Shared} {H : Hp} {E : XK} {us : List Value} {vs : List V}
    (S : FnScope N ps scope) (hd : A.handled = none) (e0 : Env0 P w K mg base A outer s H) (hl : vs.length = ps.length) (r : Vals vs us)
    (x : InCallC s s.heap.objs.size (bindL (envOfC qual scope s.heap.objs.size f cd).kindOf (ps.zip us) fun _ => none) (cellsFrom (s.heap.objs.size + 1) scope.names []) (bindC (envOfC qual scope s.heap.objs.size f cd).kindOf (ps.zip us) fun _ => none) s1) :
    Inv (cxOf CX P w K mg base N qual scope f cd A outer s H E) [] (start N vs) H s1 := by
  have hpl : ps.length ≤ N.length := by have := congrArg List.length S.pre; rw [List.length_take] at this; omega
  obtain ⟨h1, tk, rfl, hk⟩ := x.done
  have noA : ∀ b : Addr, b ∉ (cxOf CX P w K mg base N qual scope f cd A outer s H E).ex := fun b z => absurd (show b ∈ ([] : List Addr) from z) (by simp)
  refine ⟨⟨e0.mod, S.kind, rfl, rfl, Nat.le_refl _, fun y z c h1 h2 => ?_, fun y hy => ?_, fun y c _ h => ?_, fun _ => hd, Around.frames_deeper e0.frames, .inr ⟨rfl, rfl⟩, fun b z => absurd z (noA b), e0.bs, e0.bsz, fun b _ _ => noA b, fun b z => absurd z (noA b), e0.funs, e0.frf⟩,
    rfl, e0.bare, Un.kept hk, ⟨_, x.toInCall.ns, fun i y v h1 h2 h3 => ?_⟩, fun y c h => ⟨_, x.cell y c h⟩, e0.hok.fresh (Nat.le_refl _), fun y c h => ?_, fun p hp => absurd (show p ∈ ([] : List (Addr × Obj)) from hp) (by simp), e0.hok.kept hk, ?_⟩
  · exact name_of_addr x.apart (PySem.mem_of_lookup h1) (PySem.mem_of_lookup h2)
  · have hy : scope.names.lookup y = some .cell ∨ scope.names.lookup y = some .free := hy
    rcases hy with hy | hy
    · exact cell_has hy
    · exact absurd rfl (S.nofree _ (PySem.mem_of_lookup hy))
  · exact Nat.le_of_lt (x.above y c (PySem.mem_of_lookup h))
  · have hi : i < vs.length := by
      unfold start at h2
      by_cases hi : i < vs.length
      · exact hi
      · rw [List.getElem?_append_right (by simpa using hi)] at h2
        rw [List.getElem?_replicate] at h2
        split at h2 <;> cases h2
    have ha : vs[i]? = some v := by
      unfold start at h2
      rw [List.getElem?_append_left (by simpa using hi), List.getElem?_map] at h2
      cases e : vs[i]? with
      | none => rw [e] at h2; cases h2
      | some a => rw [e] at h2; cases h2; rfl
    obtain ⟨u, hu, rv⟩ := r.get ha
    have hp : ps[i]? = some y := by
      rw [← S.pre, List.getElem?_take_of_lt (by omega)]; exact h1
    have ndP : ps.Nodup := by rw [← S.pre]; exact S.nd.sublist (List.take_sublist _ _)
    refine ⟨u, rv, ?_⟩
    rcases S.par y (List.mem_of_getElem? hp) with k | k
    · exact .inl ⟨k, bindL_get ndP hp hu k⟩
    · obtain ⟨c, e⟩ := cell_has (n := s.heap.objs.size + 1) k
      refine .inr ⟨.inl k, c, e, ?_⟩
      have q := x.cell y c e
      rw [bindC_get ndP hp hu (by show scope.names.lookup y ≠ _; rw [k]; decide)] at q
      exact q
  · exact e0.hok.fresh (Nat.le_of_lt (x.above y c (PySem.mem_of_lookup h)))
  · unfold start
    show _ = N.length
    rw [List.length_append, List.length_map, List.length_replicate]
    omega
theorem fn_of {CX : CXT} {P : Program} {w : World} {K : PySem.W.Frag} {mg : Str → Option Value} {base : Heap} {k : Nat} {f : Addr} {name qual : Str} {params : Arguments} {body : List Stmt} {scope : Scope} {dV kV doc pm cdv ct oc : Value} {an od : Option Addr}
    {osl : Array (Option Value)} {N ps : List Str} {sp : Sp} (lk : K.lookup f = some ⟨oc, od, .func (PySem.W.fnOf name qual params body scope dV kV doc pm an cdv ct), osl⟩) (hcd : PySem.W.codeIn K cdv qual = true) (S : FnScope N ps scope)
    (len : ∀ vs H Q E, sp vs H Q E → vs.length = ps.length)
    (hbody : ∀ (A : Around) (outer : List Env) (s : Shared) (H : Hp) (vs : List V) (Q : VK) (E : XK), Room k (A.deeper (envOfC qual scope s.heap.objs.size f cdv)) → sp vs H Q E →
      ∃ t, PSs (cxOf CX P w K mg base N qual scope f cdv A outer s H E) body t ∧ t { nx := fun _ H' => Q .non H', rt := Q } (start N vs) H) :
    FnOk P w K mg base CX (k + 1) f (PySem.W.fnOf name qual params body scope dV kV doc pm an cdv ct) ps sp := by
  refine ⟨len, fun A outer s H args us vs Q E hr e0 hb r hsp => ?_⟩
  have hl := len _ _ _ _ hsp
  have KX : K.In s.heap := e0.mod.kin.keeps fun b o e => (e0.bs b o e).1
  have lim : s.heap.NoLimit := e0.mod.nolimit.keeps fun b o e => (e0.bs b o e).1
  have hkind : ∀ y ∈ ps.zip us, scope.names.lookup y.1 = some .local ∨ (scope.names.lookup y.1 = some .cell ∧ ((cellsFrom (s.heap.objs.size + 1) scope.names []).lookup y.1).isSome = true) := fun ⟨n, v⟩ hy => by
    rcases S.par n (List.of_mem_zip hy).1 with q | q
    · exact .inl q
    · exact .inr ⟨q, PySem.W.cellsFrom_some _ _ _ (.inl q)⟩
  refine codeAny_call_function hr.depth (KX _ _ lk) rfl S.co S.gen rfl (PySem.W.codeRec_of KX hcd) (hb _ _ _ _ ?_)
  refine wpAny_newFunctionEnv_cells S.kind hkind fun env he s1 x => ?_
  subst he
  refine ⟨lim.keeps x.toInCall.keep, codeAny_func ?_⟩
  obtain ⟨t, ht, hq⟩ := hbody A outer s H vs Q E (hr.deeper _) hsp
  have I : Inv (cxOf CX P w K mg base N qual scope f cdv A outer s H E) [] (start N vs) H s1 := inv_start S hr.hd e0 hl r x
  refine wpAny_mono (ht [] s1 (start N vs) H _ I hq) (fun fl s' hs => ?_) fun e s' hs => hs
  have fin : ∀ {σ' : St} {H' : Hp} {v : V} {u : Value}, Inv (cxOf CX P w K mg base N qual scope f cdv A outer s H E) [] σ' H' s' → RelV v u → Q v H' → CE outer P w H s Q u s' :=
    fun {σ' H' v u} J rv q => ⟨v, H', J.os, J.bare, J.base, J.hok, rv, q⟩
  cases fl with
  | ret u =>
    obtain ⟨v, σ', H', J, rv, q⟩ := hs
    exact fin J rv q
  | next =>
    obtain ⟨σ', H', J, q⟩ := hs
    exact fin (v := V.non) (u := Value.none) J rfl q
  | brk =>
    obtain ⟨_, _, _, q⟩ := hs
    exact False.elim q
  | cont =>
    obtain ⟨_, _, _, q⟩ := hs
    exact False.elim q
end L2
namespace L2
open PySem PySem.Spec PyProof.Rows
section
variable {X : Cx} {x : Str} {p pos : Pos} {e : Expr} {es : List Expr} {t : TA} {id T : String} {r : List V → Hp → VK → Prop}
noncomputable def tCB (r : List V → Hp → VK → Prop) (t : TA) : TE := fun σ H Q => t σ H fun vs H1 => r vs H1 Q
theorem pe_callB (hc : CallR X (.builtin id) r) (hg : Gl X x) (hm : X.mg x = none) (hv : bootBuiltins x = some (.builtin id)) (ha : PA X (e :: es) t) (hn : x ≠ "__name__" := by decide) (hdb : (x == ("__debug__" : Str)) = false := by decide)
    (he : starEach (e :: es) X.env = (false, eval e X.env) :: starEach es X.env := by rfl) (hpl : (backTo pos (starEach es X.env)).any (·.1) = false := by rfl) : PE X (.Call (.Name x p) (e :: es) [] pos) (tCB r t) := by
  intro pins s σ H Q I h
  refine wpAny_Call_Name_kw (ld_blt I hg hm hv ?_ hn hdb)
  exact PyProof.Rows.callWith_builtin1 (thn (ha pos pins s σ H _ I h) fun us s1 ⟨vs, H1, I1, r1, q1⟩ => hc pins s1 σ H1 vs us Q I1 r1 q1) he hpl
theorem pe_callTy (hc : CallR X (.type T) r) (hg : Gl X x) (hm : X.mg x = none) (hv : bootBuiltins x = some (.type T)) (ha : PA X (e :: es) t) (hn : x ≠ "__name__" := by decide) (hdb : (x == ("__debug__" : Str)) = false := by decide)
    (he : starEach (e :: es) X.env = (false, eval e X.env) :: starEach es X.env := by rfl) (hpl : (backTo pos (starEach es X.env)).any (·.1) = false := by rfl) : PE X (.Call (.Name x p) (e :: es) [] pos) (tCB r t) := by
  intro pins s σ H Q I h
  refine wpAny_Call_Name_kw (ld_blt I hg hm hv ?_ hn hdb)
  exact PyProof.Rows.callWith_type1 (thn (ha pos pins s σ H _ I h) fun us s1 ⟨vs, H1, I1, r1, q1⟩ => hc pins s1 σ H1 vs us Q I1 r1 q1) he hpl
end
end L2
namespace HT
open PySem PyProof.Rows
section
open PySem.SeqAt
open PySem.AutoSeq1 (wpAny_loadPart')
open PySem.MeetsSeq PySem.MeetsSeq2 PySem.MeetsSeq3
end
section
variable {prog : Program} {w : World} {A : Around} {E : Value → Shared → Prop} {s : Shared}
end
end HT
namespace L2
open PySem PySem.Spec PyProof.Rows
noncomputable abbrev TO := St → Hp → (Option Int → Hp → Prop) → Prop
section
variable {X : Cx} {e : Expr} {te : TE} {lo hi : Option Expr} {tl th : TO} {pos p2 : Pos}
end
end L2
namespace L2
open PySem PySem.Spec PyProof.Rows
noncomputable def ixN (n : Nat) (i : Int) : Option Nat := if 0 ≤ i then (if i < n then some i.toNat else none) else if -(n : Int) ≤ i then some (i + n).toNat else none
noncomputable def atI {α : Type} (xs : List α) (i : Int) : Option α := (ixN xs.length i).bind fun j => xs[j]?
theorem ixN_seq {n : Nat} {i : Int} {j : Nat} (h : ixN n i = some j) : seqIndex? i n = some j ∧ j < n ∧ -(n : Int) ≤ i ∧ i < n := by
  unfold ixN at h
  by_cases h0 : 0 ≤ i
  · rw [if_pos h0] at h
    by_cases h1 : i < n
    · rw [if_pos h1] at h
      have e : i.toNat = j := Option.some.inj h
      exact ⟨by rw [seqIndex_of h0 h1, e], by omega, by omega, h1⟩
    · rw [if_neg h1] at h; cases h
  · rw [if_neg h0] at h
    by_cases h1 : -(n : Int) ≤ i
    · rw [if_pos h1] at h
      have e : (i + n).toNat = j := Option.some.inj h
      exact ⟨by rw [seqIndex_neg (by omega) h1, e], by omega, h1, by omega⟩
    · rw [if_neg h1] at h; cases h
theorem atI_get {α : Type} {xs : List α} {i : Int} {v : α} (h : atI xs i = some v) : ∃ j, seqIndex? i xs.length = some j ∧ xs[j]? = some v ∧ j < xs.length ∧ -(xs.length : Int) ≤ i ∧ i < xs.length := by
  unfold atI at h
  cases e : ixN xs.length i with
  | none => rw [e] at h; cases h
  | some j =>
    rw [e] at h
    obtain ⟨h1, h2, h3, h4⟩ := ixN_seq e
    exact ⟨j, h1, h, h2, h3, h4⟩
theorem atI_nat {α : Type} {xs : List α} {j : Nat} {v : α} (h : xs[j]? = some v) : atI xs (j : Int) = some v := by
  have hj : j < xs.length := (List.getElem?_eq_some_iff.mp h).1
  have e : ixN xs.length (j : Int) = some j := by
    unfold ixN
    rw [if_pos (by omega), if_pos (by omega)]; simp
  unfold atI; rw [e]; exact h
noncomputable def PlainIx (b : Expr) : Prop := ∀ o i, subscripted b false o i = operate [o, i] (getItem o i)
noncomputable def IxR (X : Cx) (r : R2) : Prop :=
  ∀ (value slice : Expr) (pins : List (Addr × Obj)) (s : Shared) (σ : St) (H : Hp) (x y : V) (v u : Value) (Q : VK), Inv X pins σ H s → RelV x v → RelV y u → r x y H Q →
    subscripted slice false v u = operate [v, u] (getItem v u) → wpAny (model X.prog X.w) X.A (subscriptTail value slice v u) (EP X pins σ Q) X.xe s
noncomputable def MtR (X : Cx) (id : String) (r : V → List V → Hp → VK → Prop) : Prop :=
  ∀ (pins : List (Addr × Obj)) (s : Shared) (σ : St) (H : Hp) (x : V) (xs : List V) (v : Value) (us : List Value) (Q : VK), Inv X pins σ H s → RelV x v → Vals xs us → r x xs H Q →
    wpAny (model X.prog X.w) X.A (call (.builtin id) (v :: us)) (EP X pins σ Q) X.xe s
section
variable {X : Cx} {a b : Expr} {ta tb : TE} {pos : Pos}
theorem pe_ix {r : R2} (hr : IxR X r) (ha : PE X a ta) (hb : PE X b tb) (hs : PlainIx b) : PE X (.Subscript a b pos) (tOp r ta tb) := by
  intro pins s σ H Q I h
  exact Subscript_ (binT ha hb I h fun v u s2 x y H2 I2 rx ry q => hr a b pins s2 σ H2 x y v u Q I2 rx ry q (hs _ _))
noncomputable def rIxL (K : PySem.W.Frag) : R2 := fun x y H Q => ∃ p xs i v, x = .ref p ∧ y = .int i ∧ SqL K H p xs ∧ atI xs i = some v ∧ Q v H
noncomputable def rIxT (K : PySem.W.Frag) : R2 := fun x y H Q => ∃ p xs i v, x = .ref p ∧ y = .int i ∧ SqT K H p xs ∧ atI xs i = some v ∧ Q v H
theorem ix_list : IxR X (rIxL X.K) := by
  intro value slice pins s σ H x y v u Q I rx ry h hs
  obtain ⟨p, xs, i, z, rfl, rfl, hq, he, q⟩ := h
  cases rx
  obtain ⟨t, rfl⟩ := ry
  obtain ⟨its, r, pl, hz⟩ := I.list hq
  obtain ⟨j, h1, h2, h3, h4, h5⟩ := atI_get he
  obtain ⟨w, ew, rw'⟩ := r.get h2
  have hl := r.length
  have hn := line63
  have fin : EP X pins σ Q w s := ⟨z, H, I, rw', q⟩
  by_cases h0 : 0 ≤ i
  · have hj : i.toNat = j := by
      rw [seqIndex_of h0 h5] at h1
      exact Option.some.inj h1
    exact item_listR pl.isList h0 (by omega) (by rw [hj]; simpa using ew) fin hs
  · have hj : (i + (its.toArray.size : Int)).toNat = j := by
      rw [seqIndex_neg (by omega) h4] at h1
      rw [List.size_toArray, ← hl]
      exact Option.some.inj h1
    exact subscriptTail_builtinR (x := w) pl.isList.typeIs slot_list_getitem.lookup
      (wpAny_getItem_list_neg (Q := fun r s' => r = w ∧ EP X pins σ Q r s') pl.isList (by omega) (by rw [List.size_toArray] <;> omega) (by omega) (by rw [hj]; simpa using ew) ⟨rfl, fin⟩) hs
theorem ix_tup : IxR X (rIxT X.K) := by
  intro value slice pins s σ H x y v u Q I rx ry h hs
  obtain ⟨p, xs, i, z, rfl, rfl, hq, he, q⟩ := h
  cases rx
  obtain ⟨t, rfl⟩ := ry
  obtain ⟨its, r, pl, hz⟩ := I.tuple hq
  obtain ⟨j, h1, h2, h3, h4, h5⟩ := atI_get he
  obtain ⟨w, ew, rw'⟩ := r.get h2
  have hl := r.length
  have hn := line63
  have fin : EP X pins σ Q w s := ⟨z, H, I, rw', q⟩
  exact subscriptTail_builtinR (x := w) pl.typeIs slot_tuple_getitem.lookup
    (getItem_tuple (j := j) (Q := fun r s' => r = w ∧ EP X pins σ Q r s') pl (by omega) (by omega) (by rw [List.size_toArray, ← hl]; exact h1) (by simpa using ew) ⟨rfl, fin⟩) hs
theorem mapSeq_set (its : List Value) (n j : Nat) (u : Value) : Obj.mapSeq (·.setIfInBounds j u) { cls := .type "list", data := .seq its.toArray n } = { cls := .type "list", data := .seq (its.set j u).toArray n } := by
  simp [Obj.mapSeq]
theorem Inv.lst {pins : List (Addr × Obj)} {σ : St} {H : Hp} {s : Shared} {p : Addr} {xs : List V} (I : Inv X pins σ H s) (h : H p = some (.lst xs)) :
    ∃ (its : List Value) (n : Nat), Vals xs its ∧ s.heap.get? p = some { cls := .type "list", data := .seq its.toArray n } ∧ xs.length ≤ sizeLine := by
  obtain ⟨z, its, n, r, e⟩ := I.hok p _ h
  exact ⟨its, n, r, e, z⟩
theorem Inv.lstUpd {pins : List (Addr × Obj)} {σ : St} {H : Hp} {s : Shared} {p : Addr} {xs ys : List V} {its its' : List Value} {n n' : Nat} {f : Obj → Obj} (I : Inv X pins σ H s) (h : H p = some (.lst xs))
    (ho : s.heap.get? p = some { cls := .type "list", data := .seq its.toArray n }) (hf : f { cls := .type "list", data := .seq its.toArray n } = { cls := .type "list", data := .seq its'.toArray n' }) (r : Vals ys its') (hz : ys.length ≤ sizeLine) (t : Nat) :
    Inv X pins σ (upd H p (.lst ys)) { s with heap := s.heap.update p f, toks := t } := by
  have e : (s.heap.update p f).get? p = some { cls := .type "list", data := .seq its'.toArray n' } := by
    rw [Heap.get?_update_self f ho (by rw [hf] <;> rfl), hf]
  refine I.write (x := p) (e := p) (by rw [h]; trivial) (.inl rfl) (fun b u hb q => (Heap.get?_update_other _ _ (Ne.symm hb)).trans q) ⟨_, e⟩ ?_
  exact ⟨hz, its', n', r, e⟩
noncomputable def rSetL : V → V → V → Hp → (Hp → Prop) → Prop := fun o i v H Q => ∃ p xs k j, o = .ref p ∧ i = .int k ∧ H p = some (.lst xs) ∧ ixN xs.length k = some j ∧ Q (upd H p (.lst (xs.set j v)))
theorem set_list : PSet X rSetL := by
  intro pins s σ H o i v ov iv u Q I ro ri rv h
  obtain ⟨p, xs, k, j, rfl, rfl, hp, hj, q⟩ := h
  cases ro
  obtain ⟨t, rfl⟩ := ri
  obtain ⟨its, n, r, ho, hz⟩ := I.lst hp
  obtain ⟨h1, h2, h3, h4⟩ := ixN_seq hj
  have hl := r.length
  have hn := line63
  have I' : Inv X pins σ (upd H p (.lst (xs.set j v))) { s with heap := s.heap.update p (Obj.mapSeq (·.setIfInBounds j u)) } :=
    I.lstUpd hp ho (mapSeq_set its n j u) (r.set rv j) (by rw [List.length_set]; exact hz) s.toks
  by_cases h0 : 0 ≤ k
  · have hk : k.toNat = j := by
      rw [seqIndex_of h0 h4] at h1
      exact Option.some.inj h1
    exact PySem.W.ki_setAt ho h0 (by omega) (by rw [List.size_toArray, ← hl]; exact h4) (by rw [hk]; exact ⟨_, I', q⟩)
  · have hk : (k + (its.toArray.size : Int)).toNat = j := by
      rw [seqIndex_neg (by omega) h3] at h1
      rw [List.size_toArray, ← hl]
      exact Option.some.inj h1
    exact PySem.W.ki_setBack ho (by omega) (by rw [List.size_toArray, ← hl]; exact h3) (by omega) (by rw [hk]; exact ⟨_, I', q⟩)
theorem call_len_seq : CallR X (.builtin "len") (fun xs H Q => ∃ p ys, xs = [.ref p] ∧ (SqL X.K H p ys ∨ SqT X.K H p ys) ∧ Q (.int ys.length) H) := by
  intro pins s σ H xs us Q I r h
  obtain ⟨p, ys, rfl, hq, q⟩ := h
  obtain ⟨u, rfl, rx⟩ := vals1 r
  cases rx
  have hn := line63
  rcases hq with hq | hq
  · obtain ⟨its, r', pl, hz⟩ := I.list hq
    have hlen := r'.length
    exact Calls.call_len_list pl.isList (by simp only [List.size_toArray] <;> omega) ⟨.int ys.length, H, I.tok _, ⟨s.toks + 1, by rw [List.size_toArray, hlen]⟩, q⟩
  · obtain ⟨its, r', pl, hz⟩ := I.tuple hq
    have hlen := r'.length
    exact len_tuple pl (by simp only [List.size_toArray] <;> omega) ⟨.int ys.length, H, I.tok _, ⟨s.toks + 1, by rw [List.size_toArray, hlen]⟩, q⟩
theorem call_list_of : CallR X (.type "list") (fun xs H Q => ∃ p ys, xs = [.ref p] ∧ (SqL X.K H p ys ∨ SqT X.K H p ys) ∧ ∀ l, H l = none → Q (.ref l) (upd H l (.lst ys))) := by
  intro pins s σ H xs us Q I r h
  obtain ⟨p, ys, rfl, hq, q⟩ := h
  obtain ⟨u, rfl, rx⟩ := vals1 r
  cases rx
  have fin : ∀ (its : List Value), Vals ys its → ys.length ≤ sizeLine → ∀ (h' : Heap) (c' : Nat), (∀ b o', s.heap.get? b = some o' → h'.get? b = some o') →
      h'.get? s.heap.objs.size = some { cls := .type "list", dict := none, data := .seq its.toArray c', slots := #[] } → EP X pins σ Q (.ref s.heap.objs.size) { s with heap := h' } := fun its r' hz h' c' kp e =>
    ⟨.ref s.heap.objs.size, _, I.laid (t' := s.toks) kp (Nat.le_refl _) (show ObjOk X.prog X.w _ h' _ (.lst ys) from ⟨hz, its, c', r', e⟩), rfl, q _ (I.hok.fresh (Nat.le_refl _))⟩
  rcases hq with hq | hq
  · obtain ⟨its, r', pl, hz⟩ := I.list hq
    have hlen := r'.length
    obtain ⟨o, ho, hc, n, hd⟩ := pl.isList
    exact call_list_seq p (.inl rfl) ho hc hd (fun h' c' kp e => fin its r' hz h' c' kp e) (by simp only [List.size_toArray] <;> omega)
  · obtain ⟨its, r', pl, hz⟩ := I.tuple hq
    have hlen := r'.length
    obtain ⟨o, ho, hc, n, hd⟩ := pl
    exact call_list_seq p (.inr rfl) ho hc hd (fun h' c' kp e => fin its r' hz h' c' kp e) (by simp only [List.size_toArray] <;> omega)
noncomputable def tyV (K : PySem.W.Frag) (T : String) (x : V) (H : Hp) : Prop := match x with
  | .str _ => T = "str"
  | .int _ => T = "int"
  | .ref p => (T = "list" ∧ ∃ xs, SqL K H p xs) ∨ (T = "tuple" ∧ ∃ o, K.lookup p = some o ∧ o.cls = .type "tuple" ∧ o.dict = none) ∨
      (T = "dict" ∧ ((∃ kvs, H p = some (.dK kvs)) ∨ ∃ kvs, H p = some (.dT kvs))) ∨ (T = "set" ∧ ∃ S n, H p = some (.set S n))
  | _ => False
theorem tyV_is {pins : List (Addr × Obj)} {σ : St} {H : Hp} {s : Shared} {T : String} {x : V} {v : Value} (I : Inv X pins σ H s) (r : RelV x v) (ty : tyV X.K T x H) :
    s.TypeIs v T ∧ ∀ a, v = .ref a → ∃ ob, s.heap.get? a = some ob ∧ ob.dict = none := by
  cases x with
  | str z =>
    obtain ⟨t, rfl⟩ := r
    cases (show T = "str" from ty)
    exact ⟨typeIs_str s z t, fun _ e => nomatch e⟩
  | int i =>
    obtain ⟨t, rfl⟩ := r
    cases (show T = "int" from ty)
    exact ⟨typeIs_int s i t, fun _ e => nomatch e⟩
  | ref p =>
    cases r
    rcases ty with ⟨rfl, xs, hq⟩ | ⟨rfl, o, hk, hc, hd⟩ | ⟨rfl, hk⟩ | ⟨rfl, S, n, hk⟩
    · obtain ⟨its, _, pl, _⟩ := I.list hq
      refine ⟨pl.isList.typeIs, fun a e => ?_⟩
      cases e
      obtain ⟨o, n, e, c, hd, _⟩ := pl
      exact ⟨o, e, hd⟩
    · refine ⟨⟨o, I.kIn p o hk, hc⟩, fun a e => ?_⟩
      cases e
      exact ⟨o, I.kIn _ o hk, hd⟩
    · have z : ∃ o, s.heap.get? p = some o ∧ o.ExactDict := by
        rcases hk with ⟨kvs, hk⟩ | ⟨kvs, hk⟩
        · obtain ⟨_, _, _, _, o, _, _, e, ex, _⟩ := I.hok p _ hk
          exact ⟨o, e, ex⟩
        · obtain ⟨_, _, _, _, o, _, _, e, ex, _⟩ := I.hok p _ hk
          exact ⟨o, e, ex⟩
      obtain ⟨o, e, ex⟩ := z
      refine ⟨⟨o, e, ex.1⟩, fun a e2 => ?_⟩
      cases e2
      exact ⟨o, e, ex.2.1⟩
    · obtain ⟨o, _, _, _, e, ex, _⟩ := I.hok p _ hk
      refine ⟨⟨o, e, ex.1⟩, fun a e2 => ?_⟩
      cases e2
      exact ⟨o, e, ex.2.1⟩
  | _ => exact False.elim ty
noncomputable def tBM (K : PySem.W.Frag) (T : String) (r : V → List V → Hp → VK → Prop) (to : TE) (t : TA) : TE := fun σ H Q => to σ H fun x H1 => tyV K T x H1 ∧ t σ H1 fun xs H2 => r x xs H2 Q
variable {o e : Expr} {es : List Expr} {to : TE} {t : TA} {name : Str} {apos cpos : Pos} {T id : String} {r : V → List V → Hp → VK → Prop}
theorem pe_bm (pa : PlainAttrs T) (slot : Slot T name id) (hty : typeOf (.builtin id) = pure (.type "method_descriptor")) (hm : MtR X id r) (ho : PE X o to) (ha : PA X (e :: es) t)
    (hbase : attributeBase o name X.env (eval o X.env) = eval o X.env := by rfl)
    (hfew : ((backTo cpos (starEach (e :: es) X.env)).all (fun x => !x.1) && (backToKw cpos (keywordEach [] X.env)).all (fun x => x.1.isSome)
      && decide ((e :: es).length + ([] : List Keyword).length + (if ([] : List Keyword).isEmpty then 0 else 1) < 30)) = true := by rfl)
    (hline : (apos.endLine == cpos.line) = true := by rfl) (hs : starEach (e :: es) X.env = (false, eval e X.env) :: starEach es X.env := by rfl) (hplain : (backTo cpos (starEach es X.env)).any (·.1) = false := by rfl) :
    PE X (.Call (.Attribute o name apos) (e :: es) [] cpos) (tBM X.K T r to t) := by
  intro pins s σ H Q I h
  refine wpAny_Call_method_late hbase hfew hline rfl (thn (ho pins s σ H _ I h) fun v s1 ⟨x, H1, I1, r1, ty, q1⟩ => ?_)
  obtain ⟨h1, h2⟩ := tyV_is I1 r1 ty
  refine ⟨T, id, pa, slot, hty, h1, h2, ?_⟩
  have hA := ha cpos pins s1 σ H1 _ I1 q1
  rw [hs] at hA ⊢
  refine Calls.callWith_builtin (by show (false || (backTo cpos (starEach es X.env)).any (·.1)) = false; rw [hplain] <;> rfl) (Calls.evalArgs_plain ?_)
  exact thn hA fun us s2 ⟨vs, H2, I2, r2, q2⟩ => hm pins s2 σ H2 x vs v us Q I2 r1 r2 q2
end
end L2
namespace L2
open PySem PySem.Spec PyProof.Rows
noncomputable def MtM (X : Cx) (id : String) (r : V → List V → Hp → VK → Prop) : Prop :=
  ∀ (pins : List (Addr × Obj)) (s : Shared) (σ : St) (H : Hp) (x : V) (xs : List V) (v : Value) (us : List Value) (Q : VK), Inv X pins σ H s → RelV x v → Vals xs us → r x xs H Q →
    wpAny (model X.prog X.w) X.A (call (.builtin id) (v :: us)) (EP X pins σ Q) X.xe s
theorem Vals.one : ∀ {x : V} {us : List Value}, Vals [x] us → ∃ u, us = [u] ∧ RelV x u
  | _, _, .cons r .nil => ⟨_, rfl, r⟩
theorem Vals.two : ∀ {x y : V} {us : List Value}, Vals [x, y] us → ∃ u v, us = [u, v] ∧ RelV x u ∧ RelV y v
  | _, _, _, .cons r (.cons q .nil) => ⟨_, _, rfl, r, q⟩
theorem Vals.zero : ∀ {us : List Value}, Vals [] us → us = []
  | _, .nil => rfl
theorem Vals.reverse {xs : List V} {us : List Value} (h : Vals xs us) : Vals xs.reverse us.reverse := by
  induction h with
  | nil => exact .nil
  | cons r t ih => rw [List.reverse_cons, List.reverse_cons]; exact Vals.append ih (.cons r .nil)
theorem Vals.rep {xs : List V} {us : List Value} (h : Vals xs us) : ∀ k : Nat, Vals (List.replicate k xs).flatten (List.replicate k us).flatten
  | 0 => .nil
  | k + 1 => by
    rw [List.replicate_succ, List.replicate_succ, List.flatten_cons, List.flatten_cons]
    exact Vals.append h (Vals.rep h k)
theorem foldl_rep (its : List Value) : ∀ (k : Nat) (acc : List Value),
    List.foldl (fun x1 x2 => x1 ++ x2) acc.toArray (List.replicate k its.toArray) = (acc ++ (List.replicate k its).flatten).toArray
  | 0, acc => by simp
  | k + 1, acc => by
    have e : acc.toArray ++ its.toArray = (acc ++ its).toArray := by simp
    have e2 : (acc ++ its) ++ (List.replicate k its).flatten = acc ++ (List.replicate (k + 1) its).flatten := by
      rw [List.replicate_succ, List.flatten_cons, List.append_assoc]
    rw [← e2, ← foldl_rep its k (acc ++ its), ← e, List.replicate_succ, List.foldl_cons]
section
variable {X : Cx} {pins : List (Addr × Obj)} {σ : St} {H : Hp} {s : Shared} {l b : Addr} {xs ys zs : List V}
theorem Inv.lset {its its' : List Value} {n : Nat} {f : Array Value → Array Value} {t' : Nat} (I : Inv X pins σ H s) (hH : H l = some (.lst xs))
    (e : s.heap.get? l = some { cls := .type "list", data := .seq its.toArray n }) (hf : f its.toArray = its'.toArray) (hv : Vals ys its') (hz : ys.length ≤ sizeLine) :
    Inv X pins σ (upd H l (.lst ys)) { s with heap := s.heap.update l (Obj.mapSeq f), toks := t' } := by
  have q := PySem.IsL.update e f
  rw [hf] at q
  refine I.write (x := l) (e := l) (by rw [hH]; exact trivial) (.inl rfl) (fun b' u hb hu => (Heap.get?_update_other s.heap (Obj.mapSeq f) (Ne.symm hb)).trans hu) ⟨_, q⟩ ?_
  exact ⟨hz, its', _, hv, q⟩
theorem Inv.lnew {its : List Value} {t' : Nat} (I : Inv X pins σ H s) (hv : Vals ys its) (hz : ys.length ≤ sizeLine) :
    Inv X pins σ (upd H s.heap.objs.size (.lst ys)) { s with heap := s.heap.push { cls := .type "list", data := .seq its.toArray }, toks := t' } :=
  I.laid (fun _ _ q => Heap.get?_push_of_some _ q) (Nat.le_refl _) ⟨hz, its, 0, hv, Heap.get?_push_size _ rfl⟩
theorem Inv.fresh (I : Inv X pins σ H s) : H s.heap.objs.size = none := I.hok.fresh (Nat.le_refl _)
theorem Inv.lstM (I : Inv X pins σ H s) (hH : H l = some (.lst xs)) : xs.length ≤ sizeLine ∧ ∃ (its : List Value) (n : Nat), Vals xs its ∧ xs.length = its.length ∧ s.heap.get? l = some { cls := .type "list", data := .seq its.toArray n } := by
  obtain ⟨z, its, n, r, e⟩ := I.hok l _ hH
  exact ⟨z, its, n, r, r.length, e⟩
theorem notLongL {n : Nat} (h : n ≤ sizeLine) : Builtin.List.listTooLong n = false := by
  unfold Builtin.List.listTooLong
  exact decide_eq_false (by omega)
end
section
variable {X : Cx}
noncomputable def rAppend : V → List V → Hp → VK → Prop := fun x vs H Q => ∃ l xs y, x = .ref l ∧ vs = [y] ∧ H l = some (.lst xs) ∧ xs.length < sizeLine ∧ Q .non (upd H l (.lst (xs ++ [y])))
theorem mt_append : MtM X "list.append" rAppend := by
  intro pins s σ H x vs v us Q I rx rv h
  obtain ⟨l, xs, y, rfl, rfl, hH, hz, q⟩ := h
  cases rx
  obtain ⟨u, rfl, ru⟩ := rv.one
  obtain ⟨z, its, n, r, hl, e⟩ := I.lstM hH
  refine call_meets F.slot_list_append ⟨_, e, rfl⟩ F.entry_list_append (F.args_list_append_2 _ _) (PySem.list_append l its.toArray n u (by rw [List.size_toArray]; omega)) ⟨e, ?_⟩
  refine ⟨.non, _, I.lset (its' := its ++ [u]) hH e (by simp) (r.append (.cons ru .nil)) ?_, rfl, q⟩
  rw [List.length_append, List.length_singleton]
  omega
noncomputable def rCat : R2 := fun x y H Q => ∃ l b xs zs, x = .ref l ∧ y = .ref b ∧ H l = some (.lst xs) ∧ H b = some (.lst zs) ∧ xs.length + zs.length ≤ sizeLine ∧ ∀ p, H p = none → Q (.ref p) (upd H p (.lst (xs ++ zs)))
theorem op_cat : OpR X (binaryOp .Add) rCat := by
  intro pins s σ H x y v u Q I rx ry h
  obtain ⟨l, b, xs, zs, rfl, rfl, hH, hB, hz, q⟩ := h
  cases rx
  cases ry
  obtain ⟨z, its, n, r, hl, e⟩ := I.lstM hH
  obtain ⟨z2, its2, n2, r2, hl2, e2⟩ := I.lstM hB
  refine PySem.P.add_list e e2 ?_ (by rw [List.size_toArray, List.size_toArray]; omega)
  have ea : its.toArray ++ its2.toArray = (its ++ its2).toArray := by simp
  rw [ea]
  exact ⟨.ref _, _, I.lnew (t' := s.toks) (r.append r2) (by rw [List.length_append]; omega), rfl, q _ I.fresh⟩
noncomputable def rRep : R2 := fun x y H Q => ∃ l k xs, x = .ref l ∧ y = .int k ∧ H l = some (.lst xs) ∧ -(2 ^ 63) ≤ k ∧ k < 2 ^ 63 ∧ xs.length * k.toNat ≤ sizeLine ∧
  ∀ p, H p = none → Q (.ref p) (upd H p (.lst (List.replicate k.toNat xs).flatten))
theorem len_rep {α : Type} (xs : List α) (k : Nat) : (List.replicate k xs).flatten.length = k * xs.length := by
  induction k with
  | zero => simp
  | succ k ih => rw [List.replicate_succ, List.flatten_cons, List.length_append, ih, Nat.succ_mul, Nat.add_comm]
theorem op_rep : OpR X (binaryOp .Mult) rRep := by
  intro pins s σ H x y v u Q I rx ry h
  obtain ⟨l, k, xs, rfl, rfl, hH, h1, h2, hz, q⟩ := h
  cases rx
  obtain ⟨t, rfl⟩ := ry
  obtain ⟨z, its, n, r, hl, e⟩ := I.lstM hH
  have hlen : its.toArray.size * k.toNat ≤ sizeLine := by rw [List.size_toArray, ← hl]; exact hz
  have hcap : ¬ its.toArray.size * k.toNat > (2 ^ 63 - 1) / 8 := by
    have : (sizeLine : Nat) ≤ (2 ^ 63 - 1) / 8 := by decide
    omega
  have hfit : ¬ (!Builtin.List.listFitsIndex k) = true := by
    rw [fitsIndex_both h1 h2]
    exact Bool.false_ne_true
  have hlong : ¬ Builtin.List.listTooLong (its.toArray.size * k.toNat) = true := by
    rw [notLongL hlen]
    exact Bool.false_ne_true
  have hnew : List.foldl (fun x1 x2 => x1 ++ x2) #[] (List.replicate (if its.toArray.isEmpty = true then 0 else k.toNat) its.toArray) = (List.replicate k.toNat its).flatten.toArray := by
    have f0 : ∀ m : Nat, List.foldl (fun x1 x2 => x1 ++ x2) #[] (List.replicate m its.toArray) = (List.replicate m its).flatten.toArray := fun m => by
      have := foldl_rep its m []
      rw [List.nil_append] at this
      exact this
    rw [f0]
    cases its with
    | nil => simp
    | cons a r' => rw [if_neg (by simp)]
  refine wpAny_binaryOp_repeat_ref (T := "list") (U := "int") (by decide) ⟨_, e, rfl⟩ (fun s' => typeIs_int s' k t) noFill_list_mul F.fills_int_mul F.slot_int_rmul repeat_list F.slot_int_index.lookup
    (call_meets F.slot_int_rmul (typeIs_int s k t) F.entry_int_rmul (F.args_int_rmul_2 _ _) (int___rmul___int_list k t l its.toArray n)
      ⟨e, rfl, ⟨_, e, rfl⟩, call_meets F.slot_list_mul ⟨_, e, rfl⟩ F.entry_list_mul (F.args_list_mul_2 _ _) (AutoListH.list___mul___list_int_3 l its.toArray n k t hfit hcap hlong) ⟨e, ?_⟩⟩)
  rw [hnew]
  exact ⟨.ref _, _, I.lnew (t' := s.toks) (r.rep k.toNat) (by rw [len_rep, Nat.mul_comm]; exact hz), rfl, q _ I.fresh⟩
end
section
variable {prog : Program} {w : World} {A : Around} {E : Value → Shared → Prop} {s : Shared}
end
section
variable {X : Cx}
end
end L2
namespace Att
open PySem PySem.W PySem.Calls PyProof.Rows
theorem ints_of_wellAll {P : Params} {h : Heap} : ∀ (ns : List Int) (vs : List Value), WellAll P h vs (ns.map WData.int) → IntsAre vs ns := by
  intro ns
  induction ns with
  | nil =>
    intro vs w
    rw [List.map_nil] at w
    cases w
    exact .nil
  | cons n ns ih =>
    intro vs w
    rw [List.map_cons] at w
    cases w with
    | cons a b =>
      cases a
      exact .cons _ _ (ih _ b)
theorem script_of {l : OpenLaw} {n : Nat} (hn : l.most = some n) {P : Params} {h : Heap} {args : List WData} {vals : List Value}
    (hpre : l.row.toRowW.claim.pre args = true) (hwl : WellAll P h vals args) :
    ∃ a vs ns, vals = [Value.ref a] ∧ args = [WData.list (ns.map WData.int)] ∧ h.get? a = some { cls := .type "list", data := .seq vs.toArray } ∧ IntsAre vs ns ∧ ns.length ≤ n := by
  have hsh : WShape.hasAll [] args [.list .int] = true := (pre_splitW hpre).1
  have hc : l.pre.holds [] { args := args } = true := (pre_splitW hpre).2
  obtain ⟨d, r, rfl, h1, h2⟩ := hasAllW_cons hsh
  obtain rfl := hasAllW_nil h2
  obtain ⟨xs, rfl, h3⟩ := hasW_list h1
  obtain ⟨ns, rfl⟩ := items_int h3
  have hlen : ns.length ≤ n := by
    unfold OpenLaw.pre at hc
    have h4 : (WTm.not (.lt (.lit (.int (n : Int))) (.len (.arg 0)))).holds [] { args := [.list (ns.map .int)] } = true := by
      have h4 := (holds_andW hc).1
      rw [hn] at h4
      exact h4
    have h5 := condW_of h4 (w_not (w_lt w_lit (w_len_list (w_arg rfl))))
    rw [List.length_map] at h5
    refine Nat.le_of_not_lt fun q => ?_
    have q' : (n : Int) < ((ns.length : Nat) : Int) := by omega
    first
      | (rw [decide_eq_true q'] at h5; exact absurd h5 (by decide))
      | (simp at h5; omega)
  cases hwl with
  | cons w1 w2 =>
    cases w2
    cases w1 with
    | list ho hall => exact ⟨_, _, ns, rfl, rfl, ho, ints_of_wellAll ns _ hall, hlen⟩
theorem post_true (l : OpenLaw) (args : List WData) : l.row.toRowW.claim.post args (.bool true) args = true :=
  postW_of (r := l.row.toRowW) (X := (true == true))
    (show WShape.has [] (.bool true) .bool = true by first | rfl | decide | simp [WShape.has, WShape.arms, WShape.armsAll])
    (show (WTm.eq .res (.lit (.bool true))).value [] { args := args, res := some (.bool true), after := args } = some (.bool (true == true)) from w_eq_bool (w_res rfl) w_lit) rfl
theorem attach_call {l : OpenLaw} {n : Nat} {q : Program} {loose : List Str} {XP : (Str → Option Value) → Heap → Prop} {YP : World → Heap → Prop} {d : DefRec}
    (hn : l.most = some n) (hdf : d.params.defaults = [])
    (call : ∀ (w : World) (s₀ s₁ : Shared) (mg mb : Str → Option Value) (fa : Addr) (o : Obj) (pm cd doc : Value) (a : Addr) (vs : List Value) (ns : List Int),
      Ground q loose [] XP w s₀ mg mb s₁.heap → YP w s₁.heap →
      s₁.heap.get? fa = some o → o.data = .func (docDef d.name d.params d.body d.scope pm cd doc) → s₁.heap.CodeRec cd d.name → mg d.name = some (.ref fa) →
      s₁.heap.get? a = some { cls := .type "list", data := .seq vs.toArray } → IntsAre vs ns → ns.length ≤ n → s₁.gens = #[] →
      codeAny (model l.prog w) callerA (.call (.ref fa) ⟨[.ref a], []⟩) (fun r s' => r = .ok (.ret (.bool true)) ∧ OldK s₁.heap s'.heap ∧ s'.os = s₁.os ∧ AllBare s'.gens) s₁) :
    WalkO q loose XP YP l.row.toRowW d [] (fun f vs => PySem.call f vs) := by
  intro w s₀ s₁ mg mb G Y fa o pm cd doc dV kV ho hd hcd hD hmg hg args vals as hpre hlay hrd hwl hlo
  obtain rfl : dV = .none := Dflts.none hD hdf
  obtain rfl : kV = .none := Dflts.noKw hD
  obtain ⟨a, vs, ns, rfl, rfl, hobj, hints, hlen⟩ := script_of hn hpre hwl
  refine enter_call (codeAny_mono (call w s₀ s₁ mg mb fa o pm cd doc a vs ns G Y ho (fd_plain hd) hcd hmg hobj hints hlen hg) fun r s' hq => ?_)
  obtain ⟨rfl, h2, h3, h4⟩ := hq
  exact ⟨.inl ⟨.bool true, .bool true, [], rfl, fun _ => rfl, .bool true, post_true l _, fun _ => ⟨List.Pairwise.nil, fun _ hm => (nomatch hm)⟩⟩, h2, h3, h4⟩
section
variable {prog : Program} {w : World} {A : Around} {E : Value → Shared → Prop} {s : Shared} {K : Frag}
end
end Att
namespace L2
open PySem PySem.Spec PyProof.Rows
theorem vals_ints : ∀ {vs : List Value} {ns : List Int}, IntsAre vs ns → Vals (ns.map V.int) vs
  | _, _, .nil => .nil
  | _, _, .cons n t h => .cons ⟨t, rfl⟩ (vals_ints h)
noncomputable def Only (H : Hp) : Prop := ∀ b, H b = none ∨ ∃ o xs, H b = some (.frz o (.lst xs))
theorem law_call {P : Program} {w : World} {K : PySem.W.Frag} {mg mb : Str → Option Value} {CX : CXT} {k : Nat} {fa a : Addr} {fd : FuncData} {x : Str} {sp : Sp} {s₁ : Shared} {vs : List Value} {ns : List Int}
    (KX : K.In s₁.heap) (hns : s₁.heap.Ns mainGlobals mg) (hb : s₁.heap.Ns builtinsNs mb) (hbb : ∀ x : Str, x ≠ "__name__" → mb x = bootBuiltins x) (hlim : s₁.heap.NoLimit) (hg : s₁.gens = #[])
    (ha : s₁.heap.get? a = some { cls := .type "list", data := .seq vs.toArray }) (hi : IntsAre vs ns) (hl : ns.length ≤ sizeLine) (hr : Room k callerA)
    (F : ∀ base : Heap, K.In base → base.Ns mainGlobals mg → FnOk P w K mg base CX k fa fd [x] sp) (hbind : ∀ (s : Shared) (u : Value), BindsTo s fd ⟨[u], []⟩ [(x, u)])
    (hsp : ∀ H : Hp, Only H → SqL K H a (ns.map V.int) → sp [.ref a] H (fun v _ => v = .bl true) fun _ _ _ => False)
    (hCX : ∀ H e s', CX [] H s₁ (fun _ _ _ => False) e s' → False) :
    codeAny (model P w) callerA (.call (.ref fa) ⟨[.ref a], []⟩) (fun r s' => r = .ok (.ret (.bool true)) ∧ OldK s₁.heap s'.heap ∧ s'.os = s₁.os ∧ AllBare s'.gens) s₁ := by
  have rv := vals_ints hi
  have lenV := hi.length
  have core : ∀ H : Hp, Only H → SqL K H a (ns.map V.int) → HOk P w H s₁.heap → (∀ b, H b ≠ none → b = a) → (H a ≠ none → K.lookup a = none) →
      codeAny (model P w) callerA (.call (.ref fa) ⟨[.ref a], []⟩) (fun r s' => r = .ok (.ret (.bool true)) ∧ OldK s₁.heap s'.heap ∧ s'.os = s₁.os ∧ AllBare s'.gens) s₁ := by
    intro H hO hS hok hA hK
    have base_of : ∀ {b : Addr} {o : Obj}, s₁.heap.get? b = some o → H b = none → (hidT s₁.heap H).get? b = some o := fun e n => hidT_get e n
    have noA : ∀ {b : Addr} {o : Obj} {es : Array DictEntry} {ep : Nat}, s₁.heap.get? b = some o → o.data = .dict es ep → H b = none := fun {b o es ep} e d => by
      cases q : H b with
      | none => rfl
      | some u =>
        have e' : b = a := hA b (by rw [q]; simp)
        subst e'
        rw [ha] at e; cases e
        have d' : Data.seq vs.toArray _ = Data.dict es ep := d
        cases d'
    have nsK : ∀ {b : Addr} {m : Str → Option Value}, s₁.heap.Ns b m → (hidT s₁.heap H).Ns b m := fun {b m} ⟨o, es, ep, e, d, r⟩ => ⟨o, es, ep, base_of e (noA e d), d, r⟩
    have hKb : K.In (hidT s₁.heap H) := fun b o e => base_of (KX b o e) (by
      cases q : H b with
      | none => rfl
      | some u =>
        have e' : b = a := hA b (by rw [q]; simp)
        subst e'
        rw [hK (by rw [q]; simp)] at e; cases e)
    have hM : Mod K mg (hidT s₁.heap H) := ⟨hKb, nsK hns, ⟨mb, nsK hb, hbb⟩, let ⟨mc, h1, h2⟩ := hlim; ⟨mc, nsK h1, h2⟩⟩
    have e0 : Env0 P w K mg (hidT s₁.heap H) callerA [] s₁ H := ⟨rfl, hM, fun b o e => of_hidT e, Nat.le_of_eq (hidT_size _ _), trivial, fun b hb => absurd (show b ∈ ([] : List Addr) from hb) (by simp), hok, .of_eq hg⟩
    refine codeAny_mono ((F _ hKb (nsK hns)).run callerA [] s₁ H ⟨[.ref a], []⟩ [.ref a] [.ref a] _ _ hr e0 (hbind s₁ (.ref a)) (.cons rfl .nil) (hsp H hO hS)) fun r s' h => ?_
    cases r with
    | error e => exact (hCX H e s' h).elim
    | ok fl =>
      cases fl with
      | next => exact False.elim h
      | brk => exact False.elim h
      | cont => exact False.elim h
      | ret u =>
        obtain ⟨v, H', os, bare, un, hok', r', q⟩ := h
        have q' : v = .bl true := q
        subst q'
        obtain rfl : u = Value.bool true := r'
        refine ⟨rfl, OldK.of_keep fun b o e => ?_, os, bare⟩
        cases q : H b with
        | none => exact un.keep b o e q (by intro z; exact absurd (show b ∈ ([] : List Addr) from z) (by simp)) (by simp)
        | some u =>
          rcases hO b with z | ⟨ob, xs, z⟩
          · rw [q] at z; cases z
          · have z2 := un.frzs b ob _ z
            obtain ⟨e1, _⟩ := hok b _ z
            obtain ⟨e2, _⟩ := hok' b _ z2
            rw [e] at e1; cases e1
            exact e2
  cases hk : K.lookup a with
  | some o =>
    have e := KX a o hk
    rw [ha] at e
    cases e
    refine core (fun _ => none) (fun _ => .inl rfl) (.inr ⟨_, vs.toArray, _, hk, rfl, rfl, rfl, by rw [List.size_toArray, lenV]; exact hl, by simpa using rv⟩) (fun b u z => by have z' : (none : Option HO) = some u := z; cases z') (fun b z => absurd rfl z) fun z => absurd rfl z
  | none =>
    refine core (fun b => if b = a then some (.frz { cls := .type "list", data := .seq vs.toArray } (.lst (ns.map V.int))) else none) (fun b => ?_) (.inl (.inr ⟨{ cls := .type "list", data := .seq vs.toArray }, if_pos rfl⟩)) (fun b u z => ?_) (fun b z => ?_) fun _ => hk
    · by_cases hb : b = a
      · exact .inr ⟨_, _, if_pos hb⟩
      · exact .inl (if_neg hb)
    · by_cases hb : b = a
      · have z' := (if_pos hb).symm.trans z
        cases z'
        subst hb
        exact ⟨ha, by rw [List.length_map]; exact hl, vs, _, rv, ha⟩
      · have z' := (if_neg hb).symm.trans z
        cases z'
    · by_cases hb : b = a
      · exact hb
      · exact absurd (if_neg hb) z
end L2
namespace L2
open PySem PySem.Spec PyProof.Rows
noncomputable abbrev KOf {K : PySem.W.Frag} {h : Heap} (_ : K.In h) : PySem.W.Frag := K
theorem walk_of {l : PySem.W.OpenLaw} {n k : Nat} {q : Program} {loose : List Str} {XP : (Str → Option Value) → Heap → Prop} {YP : World → Heap → Prop} {d : DefRec} {K : Params → PySem.W.Frag} {CX : World → CXT} {sp : World → Sp} {x : Str}
    (hn : l.most = some n) (hn2 : n ≤ sizeLine) (hdf : d.params.defaults = []) (hr : Room k callerA)
    (hY : ∀ (w : World) (h : Heap), YP w h → (K w.params).In h)
    (F : ∀ (w : World) (mg : Str → Option Value) (fa : Addr) (h : Heap), (K w.params).In h → h.Ns mainGlobals mg → mg d.name = some (.ref fa) →
      ∃ fd : FuncData, (∀ (s : Shared) (u : Value), BindsTo s fd ⟨[u], []⟩ [(x, u)]) ∧
        ∀ base : Heap, (K w.params).In base → base.Ns mainGlobals mg → FnOk l.prog w (K w.params) mg base (CX w) k fa fd [x] (sp w))
    (hsp : ∀ (w : World) (H : Hp) (a : Addr) (ns : List Int), ns.length ≤ n → Only H → SqL (K w.params) H a (ns.map V.int) → sp w [.ref a] H (fun v _ => v = .bl true) fun _ _ _ => False)
    (hCX : ∀ (w : World) (H : Hp) (s : Shared) (e : Value) (s' : Shared), CX w [] H s (fun _ _ _ => False) e s' → False) :
    PySem.W.WalkO q loose XP YP l.row.toRowW d [] (fun f vs => PySem.call f vs) := by
  refine Att.attach_call hn hdf fun w s₀ s₁ mg mb fa o pm cd doc a vs ns G Y ho hd hcd hmg hobj hints hlen hg => ?_
  have KX := hY w _ Y
  obtain ⟨fd, hb, hF⟩ := F w mg fa _ KX G.T.g hmg
  exact law_call KX G.T.g G.T.b G.T.builtins G.T.nolimit hg hobj hints (Nat.le_trans hlen hn2) hr hF hb (fun H hO hS => hsp w H a ns hlen hO hS) fun H e s' => hCX w H s₁ e s'
end L2
namespace L2
open PySem PySem.Spec PyProof.Rows
noncomputable def defArgs (s : Stmt) : Arguments := match s with
  | .FunctionDef _ a _ _ _ _ _ _ _ _ => a
  | _ => { posonlyargs := [], args := [], vararg := none, kwonlyargs := [], kw_defaults := [], kwarg := none, defaults := [] }
noncomputable def defBody (s : Stmt) : List Stmt := match s with
  | .FunctionDef _ _ b _ _ _ _ _ _ _ => b
  | _ => []
noncomputable def defScope (s : Stmt) : Scope := match s with
  | .FunctionDef _ _ _ _ _ _ sc _ _ _ => sc
  | _ => { kind := .function, names := [], isGenerator := false, isCoroutine := false }
noncomputable abbrev CX0 : CXT := fun _ _ _ _ _ _ => False
noncomputable abbrev E0 : XK := fun _ _ _ => False
theorem pass0 {X : Cx} : Passes CX0 X E0 := fun _ _ _ _ _ _ _ h => h.elim
structure Fun (K : PySem.W.Frag) (x qual : Str) (st : Stmt) (f : Addr) (fd : FuncData) : Prop where
  ex : ∃ (oc : Value) (od : Option Addr) (kV doc pm : Value) (an : Option Addr) (cdv ct : Value) (osl : Array (Option Value)),
    fd = PySem.W.fnOf x qual (defArgs st) (defBody st) (defScope st) .none kV doc pm an cdv ct ∧ K.lookup f = some ⟨oc, od, .func fd, osl⟩ ∧ PySem.W.codeIn K cdv qual = true
  kp : PySem.W.keepIn K (.ref f) = true
section
variable {P : Program} {w : World} {K : PySem.W.Frag} {mg : Str → Option Value} {base : Heap}
theorem Fun.ok {x qual : Str} {st : Stmt} {f : Addr} {fd : FuncData} {N ps : List Str} {k : Nat} {sp : Sp} (F : Fun K x qual st f fd) (S : FnScope N ps (defScope st)) (len : ∀ vs H Q E, sp vs H Q E → vs.length = ps.length)
    (hbody : ∀ (cdv : Value) (A : Around) (outer : List Env) (s : Shared) (H : Hp) (vs : List V) (Q : VK) (E : XK), Room k (A.deeper (envOfC qual (defScope st) s.heap.objs.size f cdv)) → sp vs H Q E →
      ∃ t, PSs (cxOf CX0 P w K mg base N qual (defScope st) f cdv A outer s H E).nox (defBody st) t ∧ t { nx := fun _ H' => Q .non H', rt := Q } (start N vs) H) : FnOk P w K mg base CX0 (k + 1) f fd ps sp := by
  obtain ⟨oc, od, kV, doc, pm, an, cdv, ct, osl, rfl, lk, hcd⟩ := F.ex
  refine fn_of lk hcd S len fun A outer s H vs Q E hr hsp => ?_
  obtain ⟨t, h, q⟩ := hbody cdv A outer s H vs Q E hr hsp
  exact ⟨t, h.nox, q⟩
theorem Fun.binds {x qual : Str} {st : Stmt} {f : Addr} {fd : FuncData} {ps : List Str} (F : Fun K x qual st f fd)
    (h : ∀ (kV doc pm : Value) (an : Option Addr) (cdv ct : Value) (us : List Value), us.length = ps.length → bindArgs (PySem.W.fnOf x qual (defArgs st) (defBody st) (defScope st) .none kV doc pm an cdv ct) ⟨us, []⟩ = pure (ps.zip us)) : Binds K fd ps [] := by
  obtain ⟨oc, od, kV, doc, pm, an, cdv, ct, osl, rfl, lk, hcd⟩ := F.ex
  exact .all (h kV doc pm an cdv ct)
theorem fun_mk {x qual : Str} {st : Stmt} {f : Addr} {oc : Value} {od an : Option Addr} {osl : Array (Option Value)} {kV doc pm cdv ct : Value} (l : K.lookup f = some ⟨oc, od, .func (PySem.W.fnOf x qual (defArgs st) (defBody st) (defScope st) .none kV doc pm an cdv ct), osl⟩)
    (c : PySem.W.codeIn K cdv qual = true) (k : PySem.W.keepIn K (.ref f) = true) : Fun K x qual st f (PySem.W.fnOf x qual (defArgs st) (defBody st) (defScope st) .none kV doc pm an cdv ct) := ⟨⟨oc, od, kV, doc, pm, an, cdv, ct, osl, rfl, l, c⟩, k⟩
end
section
variable {X : Cx}
theorem pv (i : Nat) {x : Str} {pos : Pos} (hN : X.N[i]? = some x := by rfl) (hv : Vis X.env.scope x := by first | exact Or.inl rfl | exact Or.inr (Or.inl rfl) | exact Or.inr (Or.inr rfl)) (hd : (x == ("__debug__" : Str)) = false := by decide)
    (hcd : (x == ("__classdict__" : Str)) = false := by decide) : PE X (.Name x pos) (tVar i) := pe_var hN hv hd hcd
end
theorem iteF {A B : Prop} (h : B) : if false = true then A else B := by
  rw [if_neg Bool.false_ne_true]
  exact h
theorem iteT {A B : Prop} (h : A) : if true = true then A else B := by
  rw [if_pos rfl]
  exact h
theorem ite2 {c A B : Prop} [Decidable c] (h1 : c → A) (h2 : ¬ c → B) : if c then A else B := by
  by_cases h : c
  · rw [if_pos h]
    exact h1 h
  · rw [if_neg h]
    exact h2 h
noncomputable def Same (H H' : Hp) : Prop := ∀ b o, H b = some o → H' b = some o
theorem Same.refl (H : Hp) : Same H H := fun _ _ h => h
theorem Same.trans {H H1 H2 : Hp} (a : Same H H1) (b : Same H1 H2) : Same H H2 := fun c o h => b c o (a c o h)
theorem Same.free {H H' : Hp} (e : Same H H') {l : Addr} (h : H' l = Option.none) : H l = Option.none := by
  cases q : H l with
  | none => rfl
  | some o =>
    rw [e l o q] at h
    cases h
theorem Same.seq {K : PySem.W.Frag} {H H' : Hp} {a : Addr} {xs : List V} (e : Same H H') (h : SqL K H a xs) : SqL K H' a xs := by
  rcases h with (h | ⟨o, h⟩) | h
  · exact .inl (.inl (e _ _ h))
  · exact .inl (.inr ⟨o, e _ _ h⟩)
  · exact .inr h
end L2
set_option Elab.async false
set_option linter.all false
set_option maxRecDepth 100000
set_option maxHeartbeats 4000000
namespace L2
open PySem PySem.Spec PyProof.Rows
section
variable {X : Cx}
mutual
inductive DtV (K : PySem.W.Frag) (H : Hp) : V → PyData → Prop
  | non : DtV K H .non .none
  | bl (b : Bool) : DtV K H (.bl b) (.bool b)
  | int (i : Int) : DtV K H (.int i) (.int i)
  | str (x : Str) : DtV K H (.str x) (.str x)
  | lst {a : Addr} {xs : List V} {ds : List PyData} : SqL K H a xs → DtVs K H xs ds → DtV K H (.ref a) (.list ds)
  | tup {a : Addr} {xs : List V} {ds : List PyData} : SqT K H a xs → DtVs K H xs ds → DtV K H (.ref a) (.tuple ds)
inductive DtVs (K : PySem.W.Frag) (H : Hp) : List V → List PyData → Prop
  | nil : DtVs K H [] []
  | cons {x : V} {xs : List V} {d : PyData} {ds : List PyData} : DtV K H x d → DtVs K H xs ds → DtVs K H (x :: xs) (d :: ds)
end
mutual
theorem DtV.reads {pins : List (Addr × Obj)} {σ : St} {H : Hp} {s : Shared} (I : Inv X pins σ H s) : ∀ {x : V} {d : PyData} {u : Value}, DtV X.K H x d → RelV x u → ∃ as, Reads s.heap u d as
  | _, _, _, .non, r => by cases r; exact ⟨_, .none⟩
  | _, _, _, .bl b, r => by cases r; exact ⟨_, .bool b⟩
  | _, _, _, .int i, r => by obtain ⟨t, rfl⟩ := r; exact ⟨_, .int i t⟩
  | _, _, _, .str x, r => by obtain ⟨t, rfl⟩ := r; exact ⟨_, .str x t⟩
  | _, _, _, .lst hq hs, r => by
    cases r
    obtain ⟨its, rv, ⟨o, n, e, c, _, d⟩, _⟩ := I.list hq
    obtain ⟨as, ra⟩ := DtVs.reads I hs rv
    exact ⟨_, .list e c d (by simpa using ra)⟩
  | _, _, _, .tup hq hs, r => by
    cases r
    obtain ⟨its, rv, ⟨o, e, c, n, d⟩, _⟩ := I.tuple hq
    obtain ⟨as, ra⟩ := DtVs.reads I hs rv
    exact ⟨_, .tuple e c d (by simpa using ra)⟩
theorem DtVs.reads {pins : List (Addr × Obj)} {σ : St} {H : Hp} {s : Shared} (I : Inv X pins σ H s) : ∀ {xs : List V} {ds : List PyData} {us : List Value}, DtVs X.K H xs ds → Vals xs us → ∃ as, ReadsAll s.heap us ds as
  | _, _, _, .nil, .nil => ⟨_, .nil⟩
  | _, _, _, .cons h hs, .cons r rs => by
    obtain ⟨as, ra⟩ := DtV.reads I h r
    obtain ⟨bs, rb⟩ := DtVs.reads I hs rs
    exact ⟨_, .cons ra rb⟩
end
noncomputable def rEqD (X : Cx) : R2 := fun x y H Q => ∃ dx dy, DtV X.K H x dx ∧ DtV X.K H y dy ∧ dx.canLay0 = true ∧ dy.canLay0 = true ∧ min dx.depth dy.depth ≤ 100 ∧ Q (.bl (PyData.eqv dx dy)) H
noncomputable def rNeD (X : Cx) : R2 := fun x y H Q => ∃ dx dy, DtV X.K H x dx ∧ DtV X.K H y dy ∧ dx.canLay0 = true ∧ dy.canLay0 = true ∧ min dx.depth dy.depth ≤ 100 ∧ Q (.bl (!PyData.eqv dx dy)) H
theorem op_eqD (hu : X.A.units + 100 < cLine) : OpR X (compareOp .Eq) (rEqD X) := by
  intro pins s σ H x y v u Q I rx ry h
  obtain ⟨dx, dy, hx, hy, lx, ly, hd, q⟩ := h
  obtain ⟨as, ra⟩ := hx.reads I rx
  obtain ⟨bs, rb⟩ := hy.reads I ry
  exact SeqAt.compareEq_reads ra rb lx ly (by (clear ly lx; omega)) ⟨.bl _, H, I, rfl, q⟩
theorem op_neD (hu : X.A.units + 100 < cLine) : OpR X (compareOp .NotEq) (rNeD X) := by
  intro pins s σ H x y v u Q I rx ry h
  obtain ⟨dx, dy, hx, hy, lx, ly, hd, q⟩ := h
  obtain ⟨as, ra⟩ := hx.reads I rx
  obtain ⟨bs, rb⟩ := hy.reads I ry
  exact SeqAt.compareNe_reads ra rb lx ly (by (clear ly lx; omega)) ⟨.bl _, H, I, rfl, q⟩
theorem boolsAre_get : ∀ {bs : List Bool} {us : List Value}, Vals (bs.map V.bl) us → ∀ (i : Nat) (v : Value), us[i]? = some v → ∃ b, bs[i]? = some b ∧ v = .bool b
  | [], _, .nil, i, v, h => by simp at h
  | b :: bs, _, .cons r t, 0, v, h => by
    have r' : _ = Value.bool b := r
    subst r'
    simp at h
    exact ⟨b, by simp, h.symm⟩
  | b :: bs, _, .cons r t, i + 1, v, h => by
    obtain ⟨c, e1, e2⟩ := boolsAre_get t i v (by simpa using h)
    exact ⟨c, by simpa using e1, e2⟩
theorem call_all_bools (hc : X.calm = true) : CallR X (.builtin "all") (fun xs H Q => ∃ (p : Addr) (bs : List Bool), xs = [.ref p] ∧ SqL X.K H p (bs.map V.bl) ∧ Q (.bl (bs.all id)) H) := by
  intro pins s σ H xs us Q I r h
  obtain ⟨p, bs, rfl, hq, q⟩ := h
  obtain ⟨u, rfl, rx⟩ := vals1 r
  cases rx
  obtain ⟨its, rv, pl, hz⟩ := I.list hq
  have hl := pl.isList
  have hlen := rv.length
  rw [List.length_map] at hlen
  have hlt : p < s.heap.objs.size := by obtain ⟨_, e, _⟩ := hl; exact Heap.lt_size e
  refine call_all_walk (wpAny_pyIter_list hl ?_)
  refine ⟨s.heap.objs.size, [s.heap.objs.size, p], [s.heap.objs.size], its.toArray.size, _, _, fun i => (bs[i]?).getD true, rfl, Walks.list (A := X.A.in1) (I.ok.hd hc) _ p (Nat.ne_of_lt hlt) its.toArray,
    ⟨⟨_, Heap.get?_push_size _ rfl, rfl, rfl⟩, hl.push _⟩, fun i v s' Q' E' hP hQ => ?_, fun h' tk hk => ?_⟩
  · obtain ⟨b, e, rfl⟩ := boolsAre_get rv i v (by simpa using hP)
    simp only [e, Option.getD_some] at hQ
    exact wpAny_truthy_bool hQ
  · have e : ((List.range its.toArray.size).all fun i => (bs[i]?).getD true) = bs.all id := by
      rw [List.size_toArray, ← hlen]; exact LSm.range_all bs
    rw [e]
    exact ⟨.bl _, H, I.kept (LSm.kept_iter hk), rfl, q⟩
theorem call_isi : CallR X (.builtin "isinstance") (fun xs H Q => ∃ x c t b, xs = [x, c] ∧ TyOf X.K H x t ∧
    ((∃ n, c = .ty n ∧ PySem.W.kitOne X.K t (.type n) = some b) ∨ (∃ C, c = .ref C ∧ PySem.W.kitOne X.K t (.ref C) = some b)) ∧ Q (.bl b) H) := by
  intro pins s σ H xs us Q I r h
  obtain ⟨x, c, t, b, rfl, ty, hc, q⟩ := h
  obtain ⟨u, w', rfl, rx, rc⟩ := vals2 r
  rcases hc with ⟨n, rfl, e⟩ | ⟨C, rfl, e⟩
  · cases rc
    exact isinst_ok I rx ty e fun tk => ⟨.bl b, H, I.tok tk, rfl, q⟩
  · cases rc
    exact isinst_ok I rx ty e fun tk => ⟨.bl b, H, I.tok tk, rfl, q⟩
end
end L2
set_option Elab.async false
set_option linter.all false
set_option maxRecDepth 100000
set_option maxHeartbeats 4000000
namespace L2
open PySem PySem.Spec PyProof.Rows
section
variable {X : Cx} {pins : List (Addr × Obj)} {σ : St} {H H' : Hp} {s : Shared} {h' : Heap}
theorem Inv.track {a : Addr} {o : HO} (I : Inv X pins σ H s) (hs : X.s₀.heap.get? a = none ∨ a ∈ X.ex) (hn : H a = none) (hL : a ≠ X.env.locals) (hC : ∀ x c, X.env.cells.lookup x = some c → c ≠ a) (hp : ∀ p ∈ X.pn ++ pins, p.1 ≠ a)
    (new : ObjOk X.prog X.w (upd H a o) s.heap a o) : Inv X pins σ (upd H a o) s := by
  refine ⟨I.ok, I.os, I.bare, ⟨I.base.keep, I.base.slot, fun b ob e n hx => ?_, I.base.there, fun b xs e => ?_, fun b ob u e => ?_, fun b ps e => ?_⟩, I.loc, I.cell, ?_, fun x c e => ?_, fun p hp' => ?_, fun b u e => ?_, I.len⟩
  · have hb : b ≠ a := by
      rintro rfl
      rcases hs with z | z
      · rw [z] at e; cases e
      · exact hx z
    rw [upd_ne hb]
    exact I.base.free b ob e n hx
  · have q := I.base.tups b xs e
    rw [upd_ne (ne_of_none q hn)]; exact q
  · have q := I.base.frzs b ob u e
    rw [upd_ne (ne_of_none q hn)]; exact q
  · obtain ⟨m, q⟩ := I.base.tbls b ps e
    exact ⟨m, by rw [upd_ne (ne_of_none q hn)]; exact q⟩
  · rw [upd_ne (Ne.symm hL)]; exact I.free
  · rw [upd_ne (hC x c e)]; exact I.freeC x c e
  · obtain ⟨e, n, r⟩ := I.pin p hp'
    exact ⟨e, by rw [upd_ne (hp p hp')]; exact n, r⟩
  · by_cases hb : b = a
    · subst hb; rw [upd_same] at e; cases e; exact new
    · rw [upd_ne hb] at e
      exact (I.hok b u e).stay (fun c v _ q => q) (fun c q => by rw [upd_ne (ne_of_none q hn)]; exact q) fun c xs q => by rw [upd_ne (ne_of_none q hn)]; exact q
theorem Inv.turnedL {t' : Nat} {fp : List Addr} (I : Inv X pins σ H s) (k : ∀ b o, b ∉ fp → s.heap.get? b = some o → h'.get? b = some o) (hf : ∀ b ∈ fp, FpOk X pins H b) : Inv X pins σ H { s with heap := h', toks := t' } := by
  have nit : ∀ b u, H b = some u → b ∉ fp := fun b u e z => by rw [(hf b z).1] at e; cases e
  refine I.step (g' := s.gens) (d' := s.drawn) (ch := fp) (fun b hb => ?_) (fun b o _ _ hc e _ => k b o hc e) (fun b o _ _ hc e _ => ⟨o.slots, k b o hc e⟩) (fun _ _ _ _ n => n)
    (fun b o hc e => ⟨o, k b o hc e⟩) (fun _ _ e => e) (fun _ _ _ e => e) (fun b ps e => ⟨#[], by rw [e]; simp⟩) (fun m hm => ?_) (fun b u e => ?_) I.bare
  · obtain ⟨f0, f1, f2, f3, f4, f5⟩ := hf b hb
    exact ⟨f3, f1, f4, f5⟩
  · obtain ⟨o, es, ep, ho, r⟩ := hm
    exact ⟨o, es, ep, k _ o (fun z => (hf _ z).2.1 rfl) ho, r⟩
  · refine (I.hok b u e).stay (fun c v hc q => k c v ?_ q) (fun _ q => q) fun _ _ q => q
    rcases hc with z | z
    · rw [z]; exact nit b u e
    · exact nit c _ z
end
section
variable {X : Cx} {tg : Expr}
end
section
variable {X : Cx}
end
end L2
set_option Elab.async false
set_option linter.all false
set_option maxRecDepth 100000
set_option maxHeartbeats 4000000
namespace L2
open PySem
noncomputable def closL (env : Env) : List (Str × NameKind) → List (Str × Addr) → List (Str × Addr)
  | [], cs => cs
  | (n, k) :: r, cs => closL env r (if (k == NameKind.free) = true then (n, (env.cells.lookup n).getD 0) :: cs else cs)
theorem closureFor_eq {scope : Scope} {env : Env} (h : ∀ x ∈ scope.names, x.2 = .free → ∃ c, env.cells.lookup x.1 = some c) : closureFor scope env = pure (closL env scope.names []) := by
  unfold closureFor
  have go : ∀ (names : List (Str × NameKind)) (cs : List (Str × Addr)), (∀ x ∈ names, x.2 = .free → ∃ c, env.cells.lookup x.1 = some c) →
      (forIn names cs fun (x : Str × NameKind) (r : List (Str × Addr)) => (match x with
        | (name, kind) => if (kind == NameKind.free) = true then do let a ← cellOf env name; pure (ForInStep.yield ((name, a) :: r)) else pure (ForInStep.yield r) : Sem (ForInStep (List (Str × Addr))))) = pure (closL env names cs) := by
    intro names
    induction names with
    | nil => intro cs _; rfl
    | cons x r ih =>
      intro cs h
      obtain ⟨n, k⟩ := x
      rw [List.forIn_cons]
      have hr := fun y hy => h y (List.mem_cons_of_mem _ hy)
      cases hk : (k == NameKind.free) with
      | false =>
        simp only [hk, Bool.false_eq_true, if_false]
        show (pure (ForInStep.yield cs) >>= _ : Sem _) = _
        simp only [pure_bind]
        rw [ih cs hr]
        simp only [closL, hk, Bool.false_eq_true, if_false]
      | true =>
        obtain ⟨c, hc⟩ := h (n, k) List.mem_cons_self (by simpa using hk)
        have e : cellOf env n = pure c := by unfold cellOf; rw [show env.cells.lookup n = some c from hc]
        simp only [hk, if_true, e, pure_bind]
        rw [ih _ hr]
        simp only [closL, hk, if_true]
        rw [show env.cells.lookup n = some c from hc]
        rfl
  exact congrArg (fun m : Sem (List (Str × Addr)) => m >>= fun r => pure r) (go scope.names [] h)
theorem closL_some {env : Env} {x : Str} {c : Addr} : ∀ {names : List (Str × NameKind)} {cs : List (Str × Addr)}, (closL env names cs).lookup x = some c → cs.lookup x = some c ∨ ((x, NameKind.free) ∈ names ∧ c = (env.cells.lookup x).getD 0)
  | [], _, h => .inl h
  | (n, k) :: r, cs, h => by
    rcases closL_some (names := r) h with q | ⟨q, e⟩
    · cases hk : (k == NameKind.free) with
      | false => rw [hk] at q; exact .inl q
      | true =>
        rw [hk, if_pos rfl] at q
        have hk' : k = NameKind.free := by simpa using hk
        subst hk'
        cases hx : x == n with
        | true =>
          rw [List.lookup_cons, hx] at q
          have e : x = n := by simpa using hx
          subst e
          exact .inr ⟨List.mem_cons_self, (Option.some.inj q).symm⟩
        | false =>
          rw [List.lookup_cons, hx] at q
          exact .inl q
    · exact .inr ⟨List.mem_cons_of_mem _ q, e⟩
theorem closL_has {env : Env} {x : Str} : ∀ {names : List (Str × NameKind)} {cs : List (Str × Addr)}, (x, NameKind.free) ∈ names ∨ (∃ c, cs.lookup x = some c) → ∃ c, (closL env names cs).lookup x = some c
  | [], _, h => by
    rcases h with h | h
    · cases h
    · exact h
  | (n, k) :: r, cs, h => by
    refine closL_has (names := r) ?_
    rcases h with h | ⟨c, h⟩
    · rcases List.mem_cons.mp h with e | e
      · cases e
        refine .inr ⟨(env.cells.lookup x).getD 0, ?_⟩
        rw [if_pos (by rfl), List.lookup_cons]
        simp
      · exact .inl e
    · refine .inr ?_
      cases hk : (k == NameKind.free) with
      | false => exact ⟨c, h⟩
      | true =>
        rw [if_pos rfl, List.lookup_cons]
        cases hx : x == n with
        | true => exact ⟨_, rfl⟩
        | false => exact ⟨c, h⟩
theorem relabel_free {env : Env} (hf : env.scope.kind = .function) : ∀ {names : List (Str × NameKind)} {x : Str}, names.lookup x = some .free → env.kindOf x = some .cell →
    (names.map fun (n, k) => if (k == NameKind.free && env.scope.kind == .function && env.kindOf n == some .cell) then (n, NameKind.cell) else (n, k)).lookup x = some .cell
  | [], _, h, _ => by simp at h
  | (n, k) :: r, x, h, hc => by
    have ih := @relabel_free env hf r x
    show List.lookup x ((if (k == NameKind.free && env.scope.kind == .function && env.kindOf n == some .cell) = true then (n, NameKind.cell) else (n, k)) :: _) = _
    cases hx : x == n with
    | true =>
      have e : x = n := by simpa using hx
      subst e
      simp only [List.lookup_cons, hx] at h
      cases h
      rw [if_pos (by rw [hf, hc]; rfl)]
      simp [List.lookup_cons]
    | false =>
      simp only [List.lookup_cons, hx] at h
      by_cases hc' : (k == NameKind.free && env.scope.kind == .function && env.kindOf n == some .cell) = true
      · rw [if_pos hc']; simp only [List.lookup_cons, hx]; exact ih h hc
      · rw [if_neg hc']; simp only [List.lookup_cons, hx]; exact ih h hc
theorem relabel_back {env : Env} : ∀ {names : List (Str × NameKind)} {x : Str} {k' : NameKind}, (∀ y ∈ names, y.2 ≠ .cell) → (k' = .cell ∨ k' = .free) →
    (names.map fun (n, k) => if (k == NameKind.free && env.scope.kind == .function && env.kindOf n == some .cell) then (n, NameKind.cell) else (n, k)).lookup x = some k' → (x, NameKind.free) ∈ names
  | [], _, _, _, _, h => by simp at h
  | (n, k) :: r, x, k', hn, hk, h => by
    have ih := @relabel_back env r x k' (fun y hy => hn y (List.mem_cons_of_mem _ hy)) hk
    have h' : List.lookup x ((if (k == NameKind.free && env.scope.kind == .function && env.kindOf n == some .cell) = true then (n, NameKind.cell) else (n, k)) :: r.map fun (n, k) => if (k == NameKind.free && env.scope.kind == .function && env.kindOf n == some .cell) then (n, NameKind.cell) else (n, k)) = some k' := h
    have hn0 : k ≠ .cell := hn (n, k) List.mem_cons_self
    by_cases hc' : (k == NameKind.free && env.scope.kind == .function && env.kindOf n == some .cell) = true
    · rw [if_pos hc', List.lookup_cons] at h'
      have hkf : k = .free := by
        rw [Bool.and_eq_true, Bool.and_eq_true] at hc'
        simpa using hc'.1.1
      cases hx : x == n with
      | true =>
        have e : x = n := by simpa using hx
        subst e
        rw [hkf]
        exact List.mem_cons_self
      | false => rw [hx] at h'; exact List.mem_cons_of_mem _ (ih h')
    · rw [if_neg hc', List.lookup_cons] at h'
      cases hx : x == n with
      | true =>
        rw [hx] at h'
        have e : x = n := by simpa using hx
        subst e
        have e2 : k = k' := Option.some.inj h'
        subst e2
        rcases hk with z | z
        · exact absurd z hn0
        · rw [z]; exact List.mem_cons_self
      | false => rw [hx] at h'; exact List.mem_cons_of_mem _ (ih h')
section
variable {prog : Program} {w : World} {A : Around} {R : Result → Shared → Prop} {s : Shared}
theorem compLoop_any {elt target iter : Expr} {ifs : List Expr} {scope : Scope} {pos : Pos} {it acc : Value} {env : Env} (I : Nat → Shared → Prop)
    (turn : ∀ n s, I n s → wpAny (model prog w) A (pyNext it) (fun r s₁ => match r with
      | none => R (.ok .next) s₁
      | some v => wpAny (model prog w) A (letOwnedTupleGo target it v) (fun _ s₀ => wpAny (model prog w) A (assign target env v) (fun _ s₂ =>
          wpAny (model prog w) A (forIn ifs true fun c r => if r = true then do let ok ← isTrue c env (eval c env); pure (ForInStep.yield ok) else pure (ForInStep.yield r)) (fun ok s₃ =>
            if ok = true then wpAny (model prog w) A (eval elt env) (fun x s₄ =>
              wpAny (model prog w) A (call (.builtin "list.append") [acc, x]) (fun _ s₅ => ∃ m, m < n ∧ I m s₅) (fun _ _ => False) s₄) (fun _ _ => False) s₃
            else ∃ m, m < n ∧ I m s₃) (fun _ _ => False) s₂) (fun _ _ => False) s₀) (fun _ _ => False) s₁) (fun _ _ => False) s)
    (n : Nat) (h : I n s) :
    codeAny (model prog w) A (.compLoop (.ListComp elt [⟨target, iter, ifs, 0⟩] scope pos) 0 it acc env) R s := by
  refine codeAny_loop rfl I (fun n s hI => ?_) n h
  show wpAny _ A ((compTurn (.ListComp elt [⟨target, iter, ifs, 0⟩] scope pos) 0 it acc env).onRaise (fun x => do noteFrame x env; theTreesLotGoes x)) _ _ s
  refine wpAny_noted ?_
  rw [compTurn_list]
  refine wpAny_bind (wpAny_standAt (wpAny_bind (wpAny_mono (turn n s hI) (fun r s₁ h₁ => ?_) fun _ _ h' => h'.elim)))
  cases r with
  | none => exact wpAny_pure h₁
  | some v =>
    refine wpAny_bind (wpAny_mono h₁ (fun _ s₀ h₀ => ?_) fun _ _ h' => h'.elim)
    refine wpAny_bind (wpAny_mono h₀ (fun _ s₂ h₂ => wpAny_bind (wpAny_mono h₂ (fun ok s₃ h₃ => ?_) fun _ _ h' => h'.elim)) fun _ _ h' => h'.elim)
    cases ok with
    | false => exact wpAny_pure ⟨rfl, h₃⟩
    | true =>
      exact wpAny_bind (wpAny_bind (wpAny_mono h₃ (fun x s₄ h₄ => wpAny_bind (wpAny_mono h₄ (fun _ s₅ h₅ => wpAny_pure (wpAny_pure ⟨rfl, h₅⟩)) fun _ _ h' => h'.elim)) fun _ _ h' => h'.elim))
end
end L2
namespace L2
open PySem PySem.Spec PyProof.Rows
noncomputable def cxB (X : Cx) (scope : Scope) (N : List Str) (s₀ : Shared) (H₀ : Hp) (ex : List Addr) : Cx :=
  { X with N := N, s₀ := s₀, H₀ := H₀, env := compEnvC scope (closL X.env scope.names []) s₀.heap.objs.size X.env, outer := X.stack, ex := ex, fn := fun _ => false, pn := [], xe := fun _ _ => False }
section
variable {X : Cx} {c : Expr} {t : TT}
noncomputable def PIfs (X : Cx) (ifs : List Expr) (t : TT) : Prop := ∀ (pins : List (Addr × Obj)) (s : Shared) (σ : St) (H : Hp) (Q : Bool → Hp → Prop), Inv X pins σ H s → t σ H Q →
  wpAny (model X.prog X.w) X.A (forIn ifs true fun c r => if r = true then do let ok ← isTrue c X.env (eval c X.env); pure (ForInStep.yield ok) else pure (ForInStep.yield r)) (TP X pins σ Q) X.xe s
noncomputable def tNoIf : TT := fun _ H Q => Q true H
theorem pf_none : PIfs X [] tNoIf := fun _ _ _ H _ I h => wpAny_tests_nil ⟨H, I, h⟩
theorem pf_one (h : PT X c t) : PIfs X [c] t := fun pins s σ H Q I hq => wpAny_tests_one (h pins s σ H Q I hq)
end
noncomputable def GKeep (own : Nat) (g : TG) : Prop := ∀ x σ H Q Q', g x σ H Q → (∀ σ' H', Q σ' H' → σ'.length = σ.length → (∀ j v, own ≤ j → σ[j]? = some (some v) → σ'[j]? = some (some v)) → Q' σ' H') → g x σ H Q'
theorem gk_name {own i : Nat} (hi : i < own) : GKeep own (gName i) := fun x σ H Q Q' h k => k _ H h (by simp) fun j v hj e => by rw [List.getElem?_set_ne (by (clear e; omega))]; exact e
noncomputable def st0 (own : Nat) (caps : List Nat) (σ : St) : St := List.replicate own none ++ caps.map fun j => (σ[j]?).join
noncomputable def CompR (J : It) (g : TG) (tc : TT) (te : TE) (σ0 : St) (Q : VK) (H : Hp) : Prop :=
    ∃ W : Nat → Nat → List V → Hp → Prop, (∃ m, W 0 m [] H) ∧ ∀ i m ys H, W i m ys H →
      (J.stop i H ∧ ys.length ≤ sizeLine ∧ ∀ p, H p = none → Q (.ref p) (upd H p (.lst ys))) ∨
      (J.go i H ∧ ys.length < sizeLine ∧ ∀ x H', J.yld i H x H' → g x σ0 H' fun σ2 H2 => tc σ2 H2 fun b H3 =>
        if b = true then te σ2 H3 fun y H4 => ∃ m', m' < m ∧ W (i + 1) m' (ys ++ [y]) H4 else ∃ m', m' < m ∧ W (i + 1) m' ys H3)
noncomputable def tComp (own : Nat) (caps : List Nat) (wi : TI) (g : TG) (tc : TT) (te : TE) : TE := fun σ H Q => wi σ H fun J H1 => CompR J g tc te (st0 own caps σ) Q H1
theorem mem1 {a : Addr} {o : Obj} : ∀ p ∈ [(a, o)], p.1 = a := fun p hp => by rw [List.mem_singleton.mp hp]
section
variable {X : Cx}
theorem comp_end {scope : Scope} {N : List Str} {pins : List (Addr × Obj)} {σ σ' : St} {H2 He : Hp} {s2 s1 : Shared} {hp h' : Heap} {fp : List Addr} {ys : List V} {its : List Value} {na : Nat} {lo : Obj}
    (I2 : Inv X pins σ H2 s2) (f2 : ∀ b ∈ fp, FpOk X pins H2 b) (ehp : hp = s2.heap.push lo)
    (J : Inv (cxB X scope N { s2 with heap := hp } H2 (s2.heap.objs.size :: fp)) [(s2.heap.objs.size, { cls := .type "list", data := .seq its.toArray na })] σ' He s1)
    (hsb : Heap.SameBut hp.objs.size s1.heap h') (hv : Vals ys its) (hz : ys.length ≤ sizeLine) :
    Inv X pins σ (upd He s2.heap.objs.size (.lst ys)) { s1 with heap := h' } := by
  have hC : hp.objs.size = s2.heap.objs.size + 1 := by rw [ehp, Heap.size_push]
  have below : ∀ {b : Addr} {o : Obj}, s2.heap.get? b = some o → b ≠ hp.objs.size ∧ b ≠ s2.heap.objs.size := fun {b o} e => by
    have q := Heap.lt_size e
    exact ⟨by rw [hC]; exact Nat.ne_of_lt (Nat.lt_succ_of_lt q), Nat.ne_of_lt q⟩
  have up : ∀ {b : Addr} {o : Obj}, s2.heap.get? b = some o → hp.get? b = some o := fun e => by rw [ehp]; exact Heap.get?_push_of_some _ e
  have un : Un (frs X.stack) (s2.heap.objs.size :: fp) H2 He hp s1.heap := J.base
  have nD : ∀ {b : Addr} {o : Obj}, s2.heap.get? b = some o → b ∉ fp → b ∉ s2.heap.objs.size :: fp := fun e hx z => (List.mem_cons.mp z).elim (below e).2 hx
  have hfree : He hp.objs.size = none := J.free
  have u2 : Un (frs X.stack) fp H2 He s2.heap h' := by
    refine ⟨fun b o e n hb hx => ?_, fun b o e n hb hx => ?_, fun b o e n hx => ?_, fun b o e hx => ?_, un.tups, un.frzs, un.tbls⟩
    · exact (hsb.2 b (below e).1).trans (un.keep b o (up e) n hb (nD e hx))
    · obtain ⟨sl, q⟩ := un.slot b o (up e) n hb (nD e hx)
      exact ⟨sl, (hsb.2 b (below e).1).trans q⟩
    · exact un.free b o (up e) n (nD e hx)
    · obtain ⟨o', q⟩ := un.there b o (up e) (nD e hx)
      exact ⟨o', (hsb.2 b (below e).1).trans q⟩
  have hok : HOk X.prog X.w He h' := fun b u e => by
    refine (J.hok b u e).stay (fun c v hc q => (hsb.2 c ?_).trans q) (fun _ q => q) fun _ _ q => q
    rintro rfl
    rcases hc with z | z
    · rw [← z, hfree] at e; cases e
    · rw [hfree] at z; cases z
  have I3 : Inv X pins σ He { s1 with heap := h' } := I2.call' (s' := { s1 with heap := h' }) (ch := fp) J.os u2 hok J.bare fun b hb => by
    obtain ⟨f0, f1, f3, f4, f5, f6⟩ := f2 b hb
    exact ⟨f4, f1, f5, f6⟩
  obtain ⟨pe, pn, _⟩ := J.pin _ (List.mem_append_right _ List.mem_cons_self)
  refine I3.track (.inl (Heap.get?_none_of_le I2.sz)) pn (Nat.ne_of_gt I2.lt) (fun y c' q z => ?_) (fun p hp' z => ?_) ?_
  · obtain ⟨v, q'⟩ := I2.cell y c' q
    exact absurd q'.lt (by rw [z]; exact Nat.lt_irrefl _)
  · exact absurd (Heap.lt_size (I2.pin p hp').1) (by rw [z]; exact Nat.lt_irrefl _)
  · exact ⟨hz, its, na, hv, (hsb.2 _ (by rw [hC]; exact Nat.ne_of_lt (Nat.lt_succ_self _))).trans pe⟩
theorem comp_core {elt target iter : Expr} {ifs : List Expr} {scope sc0 : Scope} {pos : Pos} {N N0 : List Str} {own : Nat} {caps : List Nat} {wi : TI} {g : TG} {tc : TT} {te : TE}
    (hcalm : X.calm = true) (hi : PI X target iter wi)
    (hg : ∀ s₀ H₀ ex, PG (cxB X scope N s₀ H₀ ex) target g) (hc : ∀ s₀ H₀ ex, PIfs (cxB X scope N s₀ H₀ ex) ifs tc) (he : ∀ s₀ H₀ ex, PE (cxB X scope N s₀ H₀ ex) elt te) (hk : GKeep own g)
    (hX : X.N = N0) (hsc : X.env.scope = sc0)
    (hcell : ∀ y ∈ scope.names, y.2 ≠ .cell) (hkind : scope.kind = .function) (hnames : ∀ y ∈ scope.names, y.2 = .local → scope.names.lookup y.1 = some .local)
    (hfree : ∀ y ∈ scope.names, y.2 = .free → sc0.names.lookup y.1 = some .cell) (hN : N.length = own + caps.length)
    (hcap : ∀ p ∈ caps.zip (N.drop own), N0[p.1]? = some p.2 ∧ scope.names.lookup p.2 = some .free)
    (hs : ∀ x, foldedSetIterable iter X.env x = pure x)
    {use : Option (Value → Sem Unit)} {Qf : Value → Shared → Prop} {pins : List (Addr × Obj)} {s : Shared} {σ : St} {H : Hp} {Q : VK} {cpos : Pos} (I : Inv X pins σ H s) (h : tComp own caps wi g tc te σ H Q)
    (hR : ∀ (D C : Addr) (s' : Shared) (He : Hp) (ys : List V) (m : Str → Option Value) (f : Flow), s'.heap.Ns C m → (∀ h', Heap.SameBut C s'.heap h' → Inv X pins σ (upd He D (.lst ys)) { s' with heap := h' }) →
      FpOk X pins (upd He D (.lst ys)) C → Q (.ref D) (upd He D (.lst ys)) → compPost (model X.prog X.w) X.A X.xe use Qf (.ref D) C (.ok f) s') :
    wpAny (model X.prog X.w) X.A (comprehension (.ListComp elt [⟨target, iter, ifs, 0⟩] scope pos) scope X.env cpos (newList []) false (eval iter X.env) use) Qf X.xe s := by
  have hcellOf : ∀ y ∈ scope.names, y.2 = .free → X.env.kindOf y.1 = some .cell := fun y hy e => by
    show X.env.scope.names.lookup y.1 = some .cell
    rw [hsc]; exact hfree y hy e
  refine wpAny_comprehension_free (use := use) rfl hs (closureFor_eq fun y hy e => I.ok.has y.1 (.inl (hcellOf y hy e))) hkind hnames ?_
  refine thn (hi pins s σ H _ I h) fun v s1 h1 => thn h1 fun itv s2 h2 => ?_
  obtain ⟨it, fp, tn, J, H2, e, I2, T, st2, f2, W, ⟨m0, w0⟩, turn⟩ := h2
  subst e
  refine wpAny_newObj_type (wpAny_newFunctionEnv hcell (by intro y hy; simp at hy) (fun h₁ hns₁ hsb₁ => ?_) hkind)
  dsimp only at hns₁ hsb₁ ⊢
  generalize ehp : s2.heap.push { cls := .type "list", dict := none, data := .seq ([] : List Value).toArray } = hp at hns₁ hsb₁ ⊢
  have hC : hp.objs.size = s2.heap.objs.size + 1 := by rw [← ehp, Heap.size_push]
  have hDC : s2.heap.objs.size ≠ hp.objs.size := by rw [hC]; exact Nat.ne_of_lt (Nat.lt_succ_self _)
  have hD0 : hp.get? s2.heap.objs.size = some { cls := .type "list", data := .seq ([] : List Value).toArray } := by rw [← ehp]; exact Heap.get?_push_size _ rfl
  have up : ∀ {b : Addr} {o : Obj}, s2.heap.get? b = some o → hp.get? b = some o := fun e => by rw [← ehp]; exact Heap.get?_push_of_some _ e
  have up1 : ∀ {b : Addr} {o : Obj}, hp.get? b = some o → h₁.get? b = some o := fun {b o} e => hsb₁.extBut b o (Nat.ne_of_lt (Heap.lt_size e)) (Heap.get?_push_of_some _ e)
  have hlt2 : ∀ {b : Addr} {o : Obj}, s2.heap.get? b = some o → b < s2.heap.objs.size := fun e => Heap.lt_size e
  have fpo : ∀ b ∈ fp, ∃ o, s2.heap.get? b = some o := fun b hb => by obtain ⟨o, e, _⟩ := T.obj 0 _ st2 b hb; exact ⟨o, e⟩
  have fpC : ∀ b ∈ fp, b ≠ hp.objs.size ∧ b ≠ s2.heap.objs.size := fun b hb => by
    obtain ⟨o, e⟩ := fpo b hb
    have q := hlt2 e
    exact ⟨by rw [hC]; exact Nat.ne_of_lt (Nat.lt_succ_of_lt q), Nat.ne_of_lt q⟩
  have clos : ∀ {x : Str} {c : Addr}, (closL X.env scope.names []).lookup x = some c → X.env.cells.lookup x = some c ∧ X.env.kindOf x = some .cell := fun {x c} q => by
    rcases closL_some q with z | ⟨z, e⟩
    · cases z
    · have k := hcellOf _ z rfl
      obtain ⟨c', hc'⟩ := I2.ok.has x (.inl k)
      rw [hc'] at e
      have e' : c = c' := e
      subst e'
      exact ⟨hc', k⟩
  have cellLt : ∀ {x : Str} {c : Addr}, (closL X.env scope.names []).lookup x = some c → c < s2.heap.objs.size := fun q => by
    obtain ⟨v, z⟩ := I2.cell _ _ (clos q).1
    exact z.lt
  have stkLt : ∀ b ∈ frs X.stack, b < s2.heap.objs.size := fun b hb => by
    obtain ⟨_, o, ho, _⟩ := I2.stack.mem hb
    exact Heap.lt_size ho
  have ok' : (cxB X scope N { s2 with heap := hp } H2 (s2.heap.objs.size :: fp)).Ok := by
    refine ⟨I2.ok.mod, hkind, I2.ok.glob, I2.ok.blt, Nat.le_refl _, fun x y c q1 q2 => I2.ok.inj x y c (clos q1).1 (clos q2).1, fun x hx => ?_, (fun x c z => by cases z), I2.ok.hd, I2.ok.frames, .inl rfl, fun b hb => ?_, fun b o q => ⟨up (I2.bs b o q).1, (I2.bs b o q).2⟩, ?_, fun b o q hb => ?_, fun b hb => ?_, ?_, fun b hb => I2.stkFree b hb⟩
    · rcases hx with hx | hx
      · exact closL_has (.inl (relabel_back (env := X.env) hcell (.inl rfl) hx))
      · exact closL_has (.inl (relabel_back (env := X.env) hcell (.inr rfl) hx))
    · rcases List.mem_cons.mp hb with rfl | hb
      · exact ⟨by show s2.heap.objs.size ≠ hp.objs.size; exact hDC, fun x c q => Nat.ne_of_lt (cellLt q)⟩
      · exact ⟨(fpC b hb).1, fun x c q => (f2 b hb).2.2.2.2.1 x c (clos q).1⟩
    · show X.base.objs.size ≤ hp.objs.size
      rw [hC]
      exact Nat.le_succ_of_le (Nat.le_trans I2.ok.bsz I2.sz)
    · rcases List.mem_cons.mp hb with rfl | hb
      · exact Nat.lt_irrefl _ (hlt2 (I2.bs _ o q).1)
      · rcases (f2 b hb).2.2.2.1 with z | z
        · exact I2.ok.noex b o q z
        · exact Nat.lt_irrefl _ (Nat.lt_of_lt_of_le (Heap.lt_size (I2.ok.bs b o q).1) z)
    · intro z
      rcases List.mem_cons.mp hb with rfl | hb
      · exact Nat.lt_irrefl _ (stkLt _ z)
      · rcases List.mem_cons.mp (I2.stkSub b z) with q | q
        · exact (f2 b hb).2.1 q
        · exact (f2 b hb).2.2.1 q
    · show hp.FunFrames X.base X.stack
      exact I2.stack.of_keeps fun b o q _ => ⟨o, up q, rfl⟩
  have len0 : (st0 own caps σ).length = N.length := by unfold st0; rw [List.length_append, List.length_replicate, List.length_map, hN]
  have I0 : Inv (cxB X scope N { s2 with heap := hp } H2 (s2.heap.objs.size :: fp)) [] (st0 own caps σ) H2 { s2 with heap := h₁, toks := s2.toks + ([] : List (Str × Value)).length } := by
    refine ⟨ok', rfl, I2.bare, Un.kept fun b o q => up1 q, ⟨_, hns₁, fun i x v e1 e2 e3 => ?_⟩, fun x c q => ?_, I2.hok.fresh (by show s2.heap.objs.size ≤ hp.objs.size; rw [hC]; exact Nat.le_succ _), fun x c q => I2.freeC x c (clos q).1, fun p hp' => absurd (show p ∈ ([] : List (Addr × Obj)) from hp') (by simp), I2.hok.kept fun b o q => up1 (up q), len0⟩
    ·
      unfold st0 at e2
      by_cases hi' : i < own
      · rw [List.getElem?_append_left (by simpa using hi'), List.getElem?_replicate] at e2
        split at e2 <;> cases e2
      · rw [List.getElem?_append_right (by simpa using hi'), List.length_replicate, List.getElem?_map] at e2
        cases ec : caps[i - own]? with
        | none => rw [ec] at e2; cases e2
        | some j =>
          rw [ec] at e2
          have e2' : (σ[j]?).join = some v := Option.some.inj e2
          have hσ : σ[j]? = some (some v) := by
            cases q : σ[j]? with
            | none => rw [q] at e2'; cases e2'
            | some z => rw [q] at e2'; exact congrArg some e2'
          have hx : (N.drop own)[i - own]? = some x := by
            rw [List.getElem?_drop]
            have : own + (i - own) = i := by (clear hσ e2' ec e2 e1 len0 hD0 hDC hC ehp hN hkind hsc hX hcalm; omega)
            rw [this]; exact e1
          have hz : (caps.zip (N.drop own))[i - own]? = some (j, x) := by
            rw [List.getElem?_zip_eq_some]; exact ⟨ec, hx⟩
          obtain ⟨hj, hf⟩ := hcap _ (List.mem_of_getElem? hz)
          rw [← hX] at hj
          have hfm : (x, NameKind.free) ∈ scope.names := PySem.mem_of_lookup hf
          have hk1 := hcellOf _ hfm rfl
          obtain ⟨m, hn, hl⟩ := I2.loc
          obtain ⟨u, ru, lk⟩ := hl j x v hj hσ (.inr (.inl hk1))
          refine ⟨u, ru, .inr ⟨.inl (relabel_free I2.ok.kind hf hk1), ?_⟩⟩
          obtain ⟨c, hc'⟩ := closL_has (env := X.env) (cs := []) (.inl hfm)
          have hc2 := (clos hc').1
          rcases lk with ⟨z, _⟩ | ⟨_, c2, hc3, hcell'⟩
          · rw [hk1] at z; cases z
          · rw [hc2] at hc3
            cases hc3
            obtain ⟨oc, hoc, hod⟩ := hcell'
            exact ⟨c, hc', oc, up1 (up hoc), hod⟩
    · obtain ⟨v, oc, hoc, hod⟩ := I2.cell x c (clos q).1
      exact ⟨v, oc, up1 (up hoc), hod⟩
  have pinD : ∀ {σ' : St} {H' : Hp} {s' : Shared} {its : List Value} {na : Nat}, Inv (cxB X scope N { s2 with heap := hp } H2 (s2.heap.objs.size :: fp)) [] σ' H' s' → H' s2.heap.objs.size = none →
      s'.heap.get? s2.heap.objs.size = some { cls := .type "list", data := .seq its.toArray na } →
      Inv (cxB X scope N { s2 with heap := hp } H2 (s2.heap.objs.size :: fp)) [(s2.heap.objs.size, { cls := .type "list", data := .seq its.toArray na })] σ' H' s' := fun {σ' H' s' its na} I' hn hd => I'.pins_of fun p hp' => by
    have e : p = (s2.heap.objs.size, { cls := .type "list", data := .seq its.toArray na }) := by simpa using hp'
    subst e
    exact ⟨hd, hn, hDC, fun z => Nat.lt_irrefl _ (stkLt _ z), fun v z => nomatch z⟩
  have fpD : ∀ {H' : Hp} {pl : List (Addr × Obj)}, (∀ b ∈ fp, H' b = none) → (∀ p ∈ pl, p.1 = s2.heap.objs.size) → ∀ b ∈ fp, FpOk (cxB X scope N { s2 with heap := hp } H2 (s2.heap.objs.size :: fp)) pl H' b := fun hn hpl b hb => by
    refine ⟨hn b hb, (fpC b hb).1, fun z => ?_, .inl (List.mem_cons_of_mem _ hb), fun x c q => (f2 b hb).2.2.2.2.1 x c (clos q).1, fun p hp' z => ?_⟩
    · rcases List.mem_cons.mp (I2.stkSub b z) with q | q
      · exact (f2 b hb).2.1 q
      · exact (f2 b hb).2.2.1 q
    · exact (fpC b hb).2 (z.symm.trans (hpl p hp'))
  have loop : ∀ s₃ : Shared, s₃ = { s2 with heap := h₁, toks := s2.toks + ([] : List (Str × Value)).length } →
      codeAny (model X.prog X.w) X.A (.compLoop (.ListComp elt [⟨target, iter, ifs, 0⟩] scope pos) 0 (.ref it) (.ref s2.heap.objs.size) (compEnvC scope (closL X.env scope.names []) hp.objs.size X.env))
        (compPost (model X.prog X.w) X.A X.xe use Qf (.ref s2.heap.objs.size) hp.objs.size) s₃ := by
    rintro s₃ rfl
    refine compLoop_any (fun n s' => ∃ i ys its na H', Inv (cxB X scope N { s2 with heap := hp } H2 (s2.heap.objs.size :: fp)) [] (st0 own caps σ) H' s' ∧ tn i s'.heap ∧ (∀ b ∈ fp, H' b = none) ∧ H' s2.heap.objs.size = none ∧
      Vals ys its ∧ s'.heap.get? s2.heap.objs.size = some { cls := .type "list", data := .seq its.toArray na } ∧ W i n ys H') ?_ m0
      ⟨0, [], [], 0, H2, I0, T.keep _ _ _ st2 fun b _ o q => up1 (up q), fun b hb => (f2 b hb).1, I2.hok.fresh (Nat.le_refl _), .nil, up1 hD0, w0⟩
    rintro n s3 ⟨i, ys, its, na, H3, I3, st3, fr3, nD3, rv3, hd3, w3⟩
    have Ip := pinD I3 nD3 hd3
    have f3 := fpD (H' := H3) (pl := [(s2.heap.objs.size, { cls := .type "list", data := .seq its.toArray na })]) fr3 mem1
    rcases turn i n ys H3 w3 with ⟨stop, hz, fin⟩ | ⟨go, hz, step⟩
    · refine thn (T.done (cxB X scope N { s2 with heap := hp } H2 (s2.heap.objs.size :: fp)) rfl rfl rfl hcalm i _ s3 _ H3 _ Ip f3 st3 stop) fun r s4 ⟨hr, I4⟩ => ?_
      subst hr
      obtain ⟨m, hn, _⟩ := I4.loc
      exact hR _ _ _ _ ys m _ hn (fun h' hsb => comp_end I2 f2 ehp.symm I4 hsb rv3 hz) (I2.fpOk (by rw [hC]; exact Nat.le_succ _) (by rw [upd_ne (Ne.symm hDC)]; exact I4.free)) (fin _ (I4.pin _ (List.mem_append_right _ List.mem_cons_self)).2.1)
    · refine thn (T.item (cxB X scope N { s2 with heap := hp } H2 (s2.heap.objs.size :: fp)) rfl rfl rfl hcalm i _ s3 _ H3 _ Ip f3 st3 go) fun r s4 ⟨u, hr, h4⟩ => ?_
      subst hr
      refine thn h4 fun _ s5 ⟨x, H5, I5, r5, y5, st5, fr5⟩ => ?_
      have I5' := I5.pinned (fpD (H' := H5) (pl := [(s2.heap.objs.size, { cls := .type "list", data := .seq its.toArray na })]) fr5 mem1) (T.obj _ _ st5)
      refine thn (hg _ _ _ _ s5 _ H5 x u _ I5' r5 (hk x _ H5 _ _ (step x H5 y5) fun σ' H' q l k => (⟨q, l, k⟩ : _ ∧ _ ∧ _))) fun _ s6 ⟨σ6, H6, I6, q6, l6, k6⟩ => ?_
      refine thn (hc _ _ _ _ s6 σ6 H6 _ I6 q6) fun ok s7 ⟨H7, I7, q7⟩ => ?_
      have weak : ∀ {H' : Hp} {s' : Shared} {pl : List (Addr × Obj)}, Inv (cxB X scope N { s2 with heap := hp } H2 (s2.heap.objs.size :: fp)) pl σ6 H' s' → Inv (cxB X scope N { s2 with heap := hp } H2 (s2.heap.objs.size :: fp)) pl (st0 own caps σ) H' s' := fun I' =>
        I'.weak l6.symm fun j v e => k6 j v (by
          by_cases hj : j < own
          · unfold st0 at e
            rw [List.getElem?_append_left (by simpa using hj), List.getElem?_replicate] at e
            split at e <;> cases e
          · (clear e l6 hz hd3 nD3 len0 hD0 hDC hC ehp hN hkind hsc hX hcalm; omega)) e
      have after : ∀ {H' : Hp} {s' : Shared}, Inv (cxB X scope N { s2 with heap := hp } H2 (s2.heap.objs.size :: fp)) ([(s2.heap.objs.size, { cls := .type "list", data := .seq its.toArray na })] ++ pinsAt fp s5.heap) σ6 H' s' →
          tn (i + 1) s'.heap ∧ (∀ b ∈ fp, H' b = none) ∧ H' s2.heap.objs.size = none ∧ s'.heap.get? s2.heap.objs.size = some { cls := .type "list", data := .seq its.toArray na } := fun I' => by
        refine ⟨T.keep _ _ _ st5 fun b hb o e => (I'.pin (b, o) (List.mem_append_right _ (List.mem_append_right _ (mem_pinsAt hb e)))).1, fun b hb => ?_, ?_, ?_⟩
        · obtain ⟨o, e, d⟩ := T.obj _ _ st5 b hb
          exact (I'.pin (b, o) (List.mem_append_right _ (List.mem_append_right _ (mem_pinsAt hb e)))).2.1
        · exact (I'.pin _ (List.mem_append_right _ (List.mem_append_left _ List.mem_cons_self))).2.1
        · exact (I'.pin _ (List.mem_append_right _ (List.mem_append_left _ List.mem_cons_self))).1
      cases ok with
      | false =>
        rw [if_neg Bool.false_ne_true]
        obtain ⟨m', hm, w7⟩ := (show ∃ m', m' < n ∧ W (i + 1) m' ys H7 by rw [if_neg Bool.false_ne_true] at q7; exact q7)
        obtain ⟨a1, a2, a3, a4⟩ := after I7
        exact ⟨m', hm, i + 1, ys, its, na, H7, (weak I7).pins_of (fun p hp' => absurd hp' (by simp)), a1, a2, a3, rv3, a4, w7⟩
      | true =>
        rw [if_pos rfl]
        rw [if_pos rfl] at q7
        refine thn (he _ _ _ _ s7 σ6 H7 _ I7 q7) fun yv s8 ⟨y, H8, I8, r8, m', hm, w8⟩ => ?_
        obtain ⟨a1, a2, a3, a4⟩ := after I8
        have hl := rv3.length
        refine call_meets F.slot_list_append ⟨_, a4, rfl⟩ F.entry_list_append (F.args_list_append_2 _ _) (PySem.list_append s2.heap.objs.size its.toArray na yv (by rw [List.size_toArray]; (clear a4 a3 hm l6 hd3 nD3 len0 hD0 hDC hC ehp hN hkind hsc hX hcalm; omega))) ⟨a4, ?_⟩
        have I9 : Inv (cxB X scope N { s2 with heap := hp } H2 (s2.heap.objs.size :: fp)) [] (st0 own caps σ) H8 s8 := (weak I8).pins_of (fun p hp' => absurd hp' (by simp))
        have q : (s8.heap.update s2.heap.objs.size (Obj.mapSeq (·.push yv))).get? s2.heap.objs.size = some { cls := .type "list", data := .seq (its ++ [yv]).toArray (na + 1) } := by
          have q := PySem.IsL.update a4 (·.push yv)
          simpa using q
        refine ⟨m', hm, i + 1, ys ++ [y], its ++ [yv], na + 1, H8, I9.turned (it := s2.heap.objs.size) (t' := s8.toks) (fun b o hb e => ?_) a3 (hDC) (.inl List.mem_cons_self) (fun x c z => Nat.ne_of_lt (cellLt z)) (fun p hp' => absurd (show p ∈ ([] : List (Addr × Obj)) from hp') (by simp)), ?_, a2, a3, rv3.append (.cons r8 .nil), q, w8⟩
        · rw [Heap.get?_update_other _ _ (Ne.symm hb)]; exact e
        · exact T.keep _ _ _ a1 fun b hb o e => by rw [Heap.get?_update_other _ _ (Ne.symm (fpC b hb).2)]; exact e
  exact codeAny_compStart_list (loop _ rfl) (T.self _ 0 _ _ _ (T.keep _ _ _ st2 fun b _ o q => up1 (up q)) (loop _ rfl))
theorem pe_comp {elt target iter : Expr} {ifs : List Expr} {scope sc0 : Scope} {pos : Pos} {N N0 : List Str} {own : Nat} {caps : List Nat} {wi : TI} {g : TG} {tc : TT} {te : TE}
    (hcalm : X.calm = true) (hi : PI X target iter wi)
    (hg : ∀ s₀ H₀ ex, PG (cxB X scope N s₀ H₀ ex) target g) (hc : ∀ s₀ H₀ ex, PIfs (cxB X scope N s₀ H₀ ex) ifs tc) (he : ∀ s₀ H₀ ex, PE (cxB X scope N s₀ H₀ ex) elt te) (hk : GKeep own g)
    (hX : X.N = N0) (hsc : X.env.scope = sc0)
    (hcell : ∀ y ∈ scope.names, y.2 ≠ .cell) (hkind : scope.kind = .function) (hnames : ∀ y ∈ scope.names, y.2 = .local → scope.names.lookup y.1 = some .local)
    (hfree : ∀ y ∈ scope.names, y.2 = .free → sc0.names.lookup y.1 = some .cell) (hN : N.length = own + caps.length)
    (hcap : ∀ p ∈ caps.zip (N.drop own), N0[p.1]? = some p.2 ∧ scope.names.lookup p.2 = some .free)
    (hs : ∀ x, foldedSetIterable iter X.env x = pure x := by intro _; rfl) :
    PE X (.ListComp elt [⟨target, iter, ifs, 0⟩] scope pos) (tComp own caps wi g tc te) := by
  intro pins s σ H Q I h
  rw [eval_ListComp]
  exact comp_core hcalm hi hg hc he hk hX hsc hcell hkind hnames hfree hN hcap hs I h fun D C s' He ys m f hn hI _ q => ⟨m, hn, fun h' hsb => ⟨.ref D, _, hI h' hsb, rfl, q⟩⟩
end
end L2
set_option Elab.async false
set_option linter.all false
set_option maxRecDepth 100000
set_option maxHeartbeats 4000000
namespace L2
open PySem PySem.Spec PyProof.Rows
theorem ObjOk.at {P : Program} {w : World} {H : Hp} {h : Heap} {a : Addr} {o : HO} (x : ObjOk P w H h a o) : ∃ ob, h.get? a = some ob := by
  cases o with
  | lst xs => obtain ⟨_, _, _, _, e⟩ := x; exact ⟨_, e⟩
  | tup xs => obtain ⟨_, _, _, ob, e, _⟩ := x; exact ⟨_, e⟩
  | dK kvs => obtain ⟨_, _, _, _, o, _, _, e, _⟩ := x; exact ⟨_, e⟩
  | dT kvs => obtain ⟨_, _, _, _, o, _, _, e, _⟩ := x; exact ⟨_, e⟩
  | set S n => obtain ⟨o, _, _, _, e, _⟩ := x; exact ⟨_, e⟩
  | ins C dx fs => obtain ⟨_, _, _, e, _⟩ := x; exact ⟨_, e⟩
  | own y => obtain ⟨_, e⟩ := x; exact ⟨_, e⟩
  | xd fs => obtain ⟨_, ⟨_, _, _, e, _⟩, _⟩ := x; exact ⟨_, e⟩
  | rng lo hi => obtain ⟨_, _, _, e⟩ := x; exact ⟨_, e⟩
  | frz ob u => obtain ⟨e, _⟩ := x; exact ⟨_, e⟩
  | tbl ps => exact ⟨_, show h.get? a = some _ from x⟩
  | met f y => exact ⟨_, show h.get? a = some _ from x⟩
  | ext φ => obtain ⟨_, ⟨_, e⟩, _⟩ := x; exact ⟨_, e⟩
noncomputable def CX1 (P : Program) (w : World) : CXT := fun outer H s E e s' => ∃ (ea : Addr) (cls a0 : Value) (B : Heap) (H' : Hp),
  e = .ref ea ∧ s'.os = s.os ∧ AllBare s'.gens ∧ Un (frs outer) [] H H' s.heap s'.heap ∧ HOk P w H' s'.heap ∧ Heap.FlyingW B outer ea cls a0 s'.heap ∧
  (∀ b o, s.heap.get? b = some o → H b = none → b ∉ frs outer → B.get? b = some o) ∧ (∀ b o, s.heap.get? b = some o → b ∉ frs outer → ∃ o', B.get? b = some o') ∧
  (∀ b u, H' b = some u → ∃ o, B.get? b = some o) ∧ E cls none H'
theorem CX1.no {P : Program} {w : World} {outer : List Env} {H : Hp} {s s' : Shared} {e : Value} (h : CX1 P w outer H s (fun _ _ _ => False) e s') : False := by
  obtain ⟨_, _, _, _, _, _, _, _, _, _, _, _, _, _, z⟩ := h
  exact z
theorem un_fly {fs : List Addr} {H H' : Hp} {h h1 h2 B base : Heap} {outer : List Env} (hfs : fs = frs outer) (u : Un fs [] H H' h h1) (k1 : ∀ b o, h.get? b = some o → H b = none → b ∉ fs → B.get? b = some o)
    (k3 : ∀ b o, h.get? b = some o → b ∉ fs → ∃ o', B.get? b = some o') (ff : h1.FunFrames base outer) (st : B.StaysIn h2) (up : h1.UpToSlots h2) : Un fs [] H H' h h2 := by
  have fr : ∀ b ∈ fs, ∀ o, h1.get? b = some o → ∃ sl, h2.get? b = some { o with slots := sl } := fun b hb o e => by
    rw [hfs] at hb
    obtain ⟨_, o', e', nf⟩ := ff.mem hb
    rw [e] at e'; cases e'
    exact up b o e nf
  refine ⟨fun b o e n hb _ => st b o (k1 b o e n hb), fun b o e n hb hx => ?_, u.free, fun b o e hx => ?_, u.tups, u.frzs, u.tbls⟩
  · obtain ⟨sl, e1⟩ := u.slot b o e n hb hx
    obtain ⟨sl', e2⟩ := fr b hb _ e1
    exact ⟨sl', e2⟩
  · by_cases hb : b ∈ fs
    · obtain ⟨o1, e1⟩ := u.there b o e hx
      obtain ⟨sl, e2⟩ := fr b hb _ e1
      exact ⟨_, e2⟩
    · obtain ⟨o', e'⟩ := k3 b o e hb
      exact ⟨o', st b o' e'⟩
theorem hok_fly {P : Program} {w : World} {H : Hp} {h1 h2 B : Heap} (x : HOk P w H h1) (k2 : ∀ b u, H b = some u → ∃ o, B.get? b = some o) (s1 : B.StaysIn h1) (s2 : B.StaysIn h2) : HOk P w H h2 := fun b u e => by
  refine (x b u e).stay (fun c v hc q => ?_) (fun _ q => q) fun _ _ q => q
  have ht : ∃ z, H c = some z := by
    rcases hc with z | z
    · subst z; exact ⟨u, e⟩
    · exact ⟨_, z⟩
  obtain ⟨z, ez⟩ := ht
  obtain ⟨o, eo⟩ := k2 c z ez
  have := s1 c o eo
  rw [q] at this; cases this
  exact s2 c v eo
section
variable {P : Program} {w : World} {K : PySem.W.Frag} {mg : Str → Option Value} {base : Heap} {N : List Str} {qual : Str} {scope : Scope} {f : Addr} {cdv : Value} {A : Around} {outer : List Env} {s₀ : Shared} {H₀ : Hp} {E E' : XK}
noncomputable def Raises (X : Cx) (E : XK) : Prop := ∀ (pins : List (Addr × Obj)) (σ : St) (H : Hp) (s : Shared) (h' : Heap) (ea : Addr) (cls : Value) (args : List Value), Inv X pins σ H s → Heap.MadeExcOf s.heap h' ea cls args → E cls none H → X.xe (.ref ea) { s with heap := h' }
theorem raise_out : Raises (cxOf (CX1 P w) P w K mg base N qual scope f cdv A outer s₀ H₀ E) E := by
  intro pins σ H s h' ea cls args I hx hE
  have stk := I.stack
  have hin : ∀ env ∈ (cxOf (CX1 P w) P w K mg base N qual scope f cdv A outer s₀ H₀ E).stack, ∀ b, env.frame = some b → b ∈ frs (cxOf (CX1 P w) P w K mg base N qual scope f cdv A outer s₀ H₀ E).stack := fun env he b hb => List.mem_filterMap.mpr ⟨env, he, hb⟩
  have inB : ∀ {b : Addr} {o : Obj}, s.heap.get? b = some o → b ∉ frs (cxOf (CX1 P w) P w K mg base N qual scope f cdv A outer s₀ H₀ E).stack → (PySem.W.hideAll s.heap (frs (cxOf (CX1 P w) P w K mg base N qual scope f cdv A outer s₀ H₀ E).stack)).get? b = some o := fun e hb => PySem.W.hideAll_get _ e hb
  have hL : ∀ {b : Addr} {o : Obj}, s₀.heap.get? b = some o → b ∉ frs outer → b ∉ frs (cxOf (CX1 P w) P w K mg base N qual scope f cdv A outer s₀ H₀ E).stack := fun {b o} e hb z => by
    rcases List.mem_cons.mp (I.stkSub b z) with q | q
    · have h1 := Heap.lt_size e
      have h2 : s₀.heap.objs.size ≤ (cxOf (CX1 P w) P w K mg base N qual scope f cdv A outer s₀ H₀ E).env.locals := I.ok.above
      rw [q] at h1
      exact Nat.lt_irrefl _ (Nat.lt_of_lt_of_le h1 h2)
    · exact hb q
  show wpAny (model P w) (A.deeper (envOfC qual scope s₀.heap.objs.size f cdv)) (leaving (envOfC qual scope s₀.heap.objs.size f cdv) (.ref ea)) _ _ _
  refine wpAny_leaves_madeW (s := { s with heap := h' }) (h := s.heap) (base := PySem.W.hideAll s.heap (frs (cxOf (CX1 P w) P w K mg base N qual scope f cdv A outer s₀ H₀ E).stack)) I.ok.frames rfl (fun b o q => PySem.W.of_hideAll _ q) (PySem.W.funFrames_hide stk hin) hx fun h'' t fl _ _ up => ?_
  have u0 : Un (frs outer) [] H₀ H s₀.heap s.heap := I.base
  have tr : ∀ b u, H b = some u → b ∉ frs (cxOf (CX1 P w) P w K mg base N qual scope f cdv A outer s₀ H₀ E).stack := fun b u e z => by rw [I.stkFree b z] at e; cases e
  have k1 : ∀ b o, s₀.heap.get? b = some o → H₀ b = none → b ∉ frs outer → (PySem.W.hideAll s.heap (frs (cxOf (CX1 P w) P w K mg base N qual scope f cdv A outer s₀ H₀ E).stack)).get? b = some o := fun b o e n hb => inB (u0.keep b o e n hb (by simp)) (hL e hb)
  have k3 : ∀ b o, s₀.heap.get? b = some o → b ∉ frs outer → ∃ o', (PySem.W.hideAll s.heap (frs (cxOf (CX1 P w) P w K mg base N qual scope f cdv A outer s₀ H₀ E).stack)).get? b = some o' := fun b o e hb => by
    obtain ⟨o', e'⟩ := u0.there b o e (by simp)
    exact ⟨o', inB e' (hL e hb)⟩
  have k2 : ∀ b u, H b = some u → ∃ o, (PySem.W.hideAll s.heap (frs (cxOf (CX1 P w) P w K mg base N qual scope f cdv A outer s₀ H₀ E).stack)).get? b = some o := fun b u e => by
    obtain ⟨o, eo⟩ := (I.hok b u e).at
    exact ⟨o, inB eo (tr b u e)⟩
  exact ⟨ea, cls, .ref t, _, H, rfl, I.os, I.bare, un_fly rfl u0 k1 k3 I.funs fl.1 ((Heap.UpToSlots.of_keeps hx.keeps).trans up), hok_fly I.hok k2 (fun b o q => PySem.W.of_hideAll _ q) fl.1, fl, k1, k3, k2, hE⟩
theorem pass_out (hE : ∀ cls od H', E' cls od H' → E cls od H') : Passes (CX1 P w) (cxOf (CX1 P w) P w K mg base N qual scope f cdv A outer s₀ H₀ E) E' := by
  intro pins σ H s e s' I h
  obtain ⟨ea, cls, a0, B, H', rfl, os, bare, un, hok, fl, k1, k3, k2, hx⟩ := h
  have stk : (cxOf (CX1 P w) P w K mg base N qual scope f cdv A outer s₀ H₀ E).stack = envOfC qual scope s₀.heap.objs.size f cdv :: outer := rfl
  have hfrs : frs (cxOf (CX1 P w) P w K mg base N qual scope f cdv A outer s₀ H₀ E).stack = s₀.heap.objs.size :: frs outer := rfl
  have u0 : Un (frs outer) [] H₀ H s₀.heap s.heap := I.base
  have notL : ∀ {b : Addr} {o : Obj}, s₀.heap.get? b = some o → b ∉ frs outer → b ∉ frs (cxOf (CX1 P w) P w K mg base N qual scope f cdv A outer s₀ H₀ E).stack := fun {b o} e hb z => by
    rw [hfrs] at z
    rcases List.mem_cons.mp z with q | q
    · have h1 := Heap.lt_size e
      rw [q] at h1
      exact Nat.lt_irrefl _ h1
    · exact hb q
  show wpAny (model P w) (A.deeper (envOfC qual scope s₀.heap.objs.size f cdv)) (leaving (envOfC qual scope s₀.heap.objs.size f cdv) (.ref ea)) _ _ _
  refine wpAny_leaves_onW I.ok.frames rfl fl fun h'' fl2 up => ?_
  have u1 : Un (frs outer) [] H₀ H' s₀.heap s'.heap := by
    refine ⟨fun b o e n hb hx => ?_, fun b o e n hb hx => ?_, fun b o e n hx => ?_, fun b o e hx => ?_, fun b xs q => un.tups b xs (u0.tups b xs q), fun b ob u q => un.frzs b ob u (u0.frzs b ob u q), fun b ps q => ?_⟩
    · exact un.keep b o (u0.keep b o e n hb hx) (u0.free b o e n hx) (notL e hb) (by simp)
    · obtain ⟨sl, e1⟩ := u0.slot b o e n hb hx
      obtain ⟨sl', e2⟩ := un.any e1 (u0.free b o e n hx) (by simp)
      exact ⟨sl', e2⟩
    · obtain ⟨o', e1⟩ := u0.there b o e hx
      exact un.free b o' e1 (u0.free b o e n hx) (by simp)
    · obtain ⟨o', e1⟩ := u0.there b o e hx
      exact un.there b o' e1 (by simp)
    · obtain ⟨m1, e1⟩ := u0.tbls b ps q
      obtain ⟨m2, e2⟩ := un.tbls b _ e1
      exact ⟨m1 ++ m2, by rw [e2, Array.append_assoc]⟩
  have K1 : ∀ b o, s₀.heap.get? b = some o → H₀ b = none → b ∉ frs outer → B.get? b = some o := fun b o e n hb => k1 b o (u0.keep b o e n hb (by simp)) (u0.free b o e n (by simp)) (notL e hb)
  have K3 : ∀ b o, s₀.heap.get? b = some o → b ∉ frs outer → ∃ o', B.get? b = some o' := fun b o e hb => by
    obtain ⟨o', e1⟩ := u0.there b o e (by simp)
    exact k3 b o' e1 (notL e hb)
  have ff : s'.heap.FunFrames B outer := by
    obtain ⟨_, _, ⟨_, _, r⟩, _⟩ := fl
    exact r
  exact ⟨ea, cls, a0, B, H', rfl, os.trans I.os, bare, un_fly rfl u1 K1 K3 ff fl2.1 up, hok_fly hok k2 fl.1 fl2.1, fl2, K1, K3, k2, hE _ _ _ hx⟩
end
theorem exc_obj {K : PySem.W.Frag} {h : Heap} {C : Addr} {bmB : List Value} {newId : String} (X : K.In h) (q : PySem.W.excIn K C bmB newId = true) :
    ∃ bm N nm qn bs hdct sn sub ab col dd k0 k1 k2 k3 k5 mN, h.get? C = some (excClassObj nm qn C N bs bm hdct sn sub ab col dd k0 k1 k2 k3 k5 newId) ∧ h.Ns N mN ∧ mN "__init__" = none ∧ OwnTail h bmB bm := by
  unfold PySem.W.excIn at q
  split at q
  · rename_i dd cd sl ho
    split at q
    · rename_i C' bm k0 k1 k2 k3 n k5 hm hs
      simp only [Bool.and_eq_true, beq_iff_eq, Bool.not_eq_true'] at q
      obtain ⟨⟨⟨⟨⟨rfl, rfl⟩, hdel⟩, ht⟩, hok⟩, hni⟩ := q
      obtain ⟨nm, bs, mro, ns, qn, hd, sn, sub, ab, col, del⟩ := cd
      dsimp only at hm hdel hok hni
      subst hm hdel
      have hsl : sl = #[k0, k1, k2, k3, some (.builtin n), k5] := by
        obtain ⟨l⟩ := sl
        simp only at hs
        rw [hs]
      subst hsl
      exact ⟨bm, ns, nm, qn, bs, hd, sn, sub, ab, col, dd, k0, k1, k2, k3, k5, _, X _ _ ho, .of_isNs (PySem.W.isNs_of_in X hok), PySem.W.nsMap_none_of_in X hok hni, PySem.W.tail_of_in X ht⟩
    · cases q
  · cases q
section
variable {X : Cx} {E : XK}
noncomputable def tRaise (C : Addr) (E : XK) (t : TA) : TS := fun _ σ H => t σ H fun vs H1 => vs.length ≤ sizeLine ∧ E (.ref C) none H1
theorem ps_raise {x : Str} {C : Addr} {e : Expr} {es : List Expr} {t : TA} {np cpos pos : Pos} {B Bn newId nid initId inN : String} {bmB bmN : List Value} (hcalm : X.calm = true) (hq : PySem.W.excIn X.K C bmB newId = true)
    (Fn : ExcBaseFacts Bn newId inN bmN) (hBn : bmB.contains (.type Bn) = true) (FB : ExcBaseFacts B nid initId bmB) (hg : Gl X x) (hm : X.mg x = some (.ref C)) (ha : PA X (e :: es) t) (hR : Raises X E)
    (hdb : (x == ("__debug__" : Str)) = false := by decide) (he : starEach (e :: es) X.env = (false, eval e X.env) :: starEach es X.env := by rfl) (hpl : (backTo cpos (starEach es X.env)).any (·.1) = false := by rfl) :
    PS X (.Raise (some (.Call (.Name x np) (e :: es) [] cpos)) none pos) (tRaise C E t) := by
  intro pins s σ H D I h
  obtain ⟨tl, N, nm, qn, bs, hdct, sn, sub, ab, col, dd, k0, k1, k2, k3, k5, mN, hC, hN, hni, T⟩ := exc_obj I.ok.mod.kin hq
  refine wpAny_Raise_call_subU (C := C) (nm := nm) (q := qn) (N := N) (bs := bs) (bm := tl) (hdct := hdct) (sn := sn) (sub := sub) (ab := ab) (col := col) (dd := dd) (k0 := k0) (k1 := k1) (k2 := k2) (k3 := k3) (k5 := k5)
    Fn hBn FB (mN := mN) (T.hasType FB.hasBase) (I.ok.hd hcalm) (by rw [he]; show (false || (backTo cpos (starEach es X.env)).any (·.1)) = false; rw [hpl]; rfl) hni (ld_glob I hg hm ⟨rfl, ?_⟩ hdb)
  have hA := ha cpos pins s σ H _ I h
  rw [he] at hA ⊢
  exact Calls.evalArgs_plain (thn hA fun us s2 ⟨vs, H2, I2, r, hz, hE⟩ => ⟨rfl, by rw [← r.length]; exact hz, I2.bk _ _ hC, hN.keeps I2.bk, T.keeps I2.bk, fun h' ea mk => hR pins σ H2 s2 h' ea (.ref C) us I2 mk hE⟩)
end
section
variable {P : Program} {w : World} {K : PySem.W.Frag} {mg : Str → Option Value} {base : Heap}
theorem Fun.ok1 {x qual : Str} {st : Stmt} {f : Addr} {fd : FuncData} {N ps : List Str} {k : Nat} {sp : Sp} (F : Fun K x qual st f fd) (S : FnScope N ps (defScope st)) (len : ∀ vs H Q E, sp vs H Q E → vs.length = ps.length)
    (hbody : ∀ (cdv : Value) (A : Around) (outer : List Env) (s : Shared) (H : Hp) (vs : List V) (Q : VK) (E : XK), Room k (A.deeper (envOfC qual (defScope st) s.heap.objs.size f cdv)) → sp vs H Q E →
      ∃ t, PSs (cxOf (CX1 P w) P w K mg base N qual (defScope st) f cdv A outer s H E) (defBody st) t ∧ t { nx := fun _ H' => Q .non H', rt := Q } (start N vs) H) : FnOk P w K mg base (CX1 P w) (k + 1) f fd ps sp := by
  obtain ⟨oc, od, kV, doc, pm, an, cdv, ct, osl, rfl, lk, hcd⟩ := F.ex
  exact fn_of lk hcd S len fun A outer s H vs Q E hr hsp => hbody cdv A outer s H vs Q E hr hsp
end
end L2
set_option Elab.async false
set_option linter.all false
set_option maxRecDepth 100000
set_option maxHeartbeats 4000000
namespace L2
open PySem PySem.Spec PyProof.Rows
noncomputable def ExcO (ea C : Addr) : HO := .ext fun h => ∃ o vs, h.get? ea = some o ∧ o.cls = .ref C ∧ o.data = .fields vs
noncomputable abbrev Cx.tr (X : Cx) (p : List (Addr × Obj)) (E : Value → Shared → Prop) : Cx := { X with pn := p, xe := E }
noncomputable def cxH (X : Cx) (ea : Addr) (p : List (Addr × Obj)) : Cx := { X with A := X.A.mark (some (.ref ea)), calm := false, xe := fun _ _ => False, pn := p }
noncomputable def PassS (CX : CXT) (X : Cx) (E : St → XK) : Prop := ∀ (pins : List (Addr × Obj)) (σ : St) (H : Hp) (s : Shared) (e : Value) (s' : Shared), Inv X pins σ H s → CX X.stack H s (E σ) e s' → X.xe e s'
noncomputable def tCallS (sp : Sp) (dvs : List V) (E : St → XK) (t : TA) : TE := fun σ H Q => t σ H fun vs H1 => sp (vs ++ dvs) H1 Q (E σ)
section
variable {X : Cx} {CX : CXT} {k : Nat} {f C : Addr} {fd : FuncData} {ps : List Str} {sp : Sp} {dvs : List V} {ds : List Value} {E : St → XK} {x m : Str} {p pos apos : Pos} {e o : Expr} {es : List Expr} {ta : TE} {t : TA}
theorem run_fnS {pins : List (Addr × Obj)} {σ : St} {H : Hp} {s : Shared} {Q : VK} {us : List Value} {vs : List V} (F : FnOk X.prog X.w X.K X.mg X.base CX k f fd ps sp) (hr : Room k X.A) (hb : Binds X.K fd ps ds) (hd : Vals dvs ds) (hx : PassS CX X E)
    (I : Inv X pins σ H s) (r : Vals vs us) (h : sp (vs ++ dvs) H Q (E σ)) : wpAny (model X.prog X.w) X.A (call (.ref f) us) (EP X pins σ Q) X.xe s := by
  have r2 : Vals (vs ++ dvs) (us ++ ds) := r.append hd
  have hl : (us ++ ds).length = ps.length := by rw [← r2.length]; exact F.len _ _ _ _ h
  refine wpAny_call (codeAny_mono (F.run X.A X.stack s H ⟨us, []⟩ (us ++ ds) (vs ++ dvs) Q (E σ) hr I.env0 (hb s us I.kIn hl) r2 h) fun r s' hq => ?_)
  cases r with
  | error e => exact hx pins σ H s e s' I hq
  | ok fl =>
    cases fl with
    | ret u => exact I.after hq
    | next => exact False.elim hq
    | brk => exact False.elim hq
    | cont => exact False.elim hq
theorem pe_callS (F : FnOk X.prog X.w X.K X.mg X.base CX k f fd ps sp) (hr : Room k X.A) (hg : Gl X x) (hm : X.mg x = some (.ref f)) (hk : PySem.W.keepIn X.K (.ref f) = true) (hb : Binds X.K fd ps ds) (hd : Vals dvs ds) (hx : PassS CX X E)
    (ha : PA X (e :: es) t) (hdb : (x == ("__debug__" : Str)) = false := by decide) (he : starEach (e :: es) X.env = (false, eval e X.env) :: starEach es X.env := by rfl) (hpl : (backTo pos (starEach es X.env)).any (·.1) = false := by rfl) :
    PE X (.Call (.Name x p) (e :: es) [] pos) (tCallS sp dvs E t) := by
  intro pins s σ H Q I h
  refine wpAny_Call_Name_kw (ld_glob I hg hm ?_ hdb)
  refine PySem.W.callWith_K (h₀ := X.base) I.ok.mod.kin hk (thn (ha pos pins s σ H _ I h) fun us s1 ⟨vs, H1, I1, r, q⟩ => ⟨I1.kIn, ?_⟩) he hpl
  exact run_fnS F hr hb hd hx I1 r q
end
section
variable {X : Cx} {pins : List (Addr × Obj)} {σ : St} {H : Hp} {s : Shared}
theorem Inv.unset {n : Str} {i : Nat} {m : Str → Option Value} {u : Option Value} {h' : Heap} (I : Inv X pins σ H s) (hN : X.N.Nodup) (hi : X.N[i]? = some n)
    (hl : ∀ (i : Nat) (x : Str) (v : V), X.N[i]? = some x → σ[i]? = some (some v) → Vis X.env.scope x → ∃ u, RelV v u ∧ Look X.env s.heap m x u)
    (hn' : h'.Ns X.env.locals (fun x => if x = n then u else m x)) (hs : Heap.SameBut X.env.locals s.heap h') : Inv X pins (σ.set i none) H { s with heap := h' } := by
  have cne := I.cne
  obtain ⟨m0, ⟨oL, _, _, hoL, _⟩, _⟩ := id I.loc
  have tracked : HOk X.prog X.w H h' := fun b ob e => by
    refine (I.hok b ob e).stay (fun c w' hc q => (hs.2 c ?_).trans q) (fun _ q => q) fun _ _ q => q
    rintro rfl
    have hf := I.free
    rcases hc with hc | hc
    · rw [← hc, hf] at e; cases e
    · rw [hf] at hc; cases hc
  refine ⟨I.ok, I.os, I.bare, ⟨fun b o e n hb hx => ?_, fun b o e n hb hx => ?_, I.base.free, fun b o e hx => ?_, I.base.tups, I.base.frzs, I.base.tbls⟩, ⟨_, hn', fun j y v' e1 e2 e3 => ?_⟩, fun y c e => ?_, I.free, I.freeC, fun p hp => ?_, tracked, by simpa using I.len⟩
  · exact (hs.2 b (Nat.ne_of_lt (Nat.lt_of_lt_of_le (Heap.lt_size e) I.ok.above))).trans (I.base.keep b o e n hb hx)
  · obtain ⟨sl, e1⟩ := I.base.slot b o e n hb hx
    exact ⟨sl, (hs.2 b (Nat.ne_of_lt (Nat.lt_of_lt_of_le (Heap.lt_size e) I.ok.above))).trans e1⟩
  · obtain ⟨o', e1⟩ := I.base.there b o e hx
    exact ⟨o', (hs.2 b (Nat.ne_of_lt (Nat.lt_of_lt_of_le (Heap.lt_size e) I.ok.above))).trans e1⟩
  · by_cases hj : j = i
    · subst hj
      rw [List.getElem?_set] at e2
      rw [if_pos rfl] at e2
      split at e2 <;> cases e2
    · rw [List.getElem?_set_ne (Ne.symm hj)] at e2
      obtain ⟨u', r', q⟩ := hl j y v' e1 e2 e3
      refine ⟨u', r', ?_⟩
      rcases q with ⟨k, e⟩ | ⟨k, c, e, z⟩
      · refine .inl ⟨k, ?_⟩
        have : y ≠ n := fun e => hj (nodup_ix hN e1 (e ▸ hi))
        simp [this, e]
      · exact .inr ⟨k, c, e, z.sameBut hs (cne y c e)⟩
  · obtain ⟨w', z⟩ := I.cell y c e
    exact ⟨w', z.sameBut hs (cne y c e)⟩
  · obtain ⟨e, n, ne, nf, d⟩ := I.pin p hp
    exact ⟨(hs.2 p.1 ne).trans e, n, ne, nf, d⟩
theorem let_go {n : Str} {i : Nat} {pos : Pos} {Q : Unit → Shared → Prop} (I : Inv X pins σ H s) (hN : X.N.Nodup) (hi : X.N[i]? = some n) (hk : X.env.scope.names.lookup n = some .local)
    (h : ∀ s', Inv X pins (σ.set i none) H s' → Q () s') : wpAny (model X.prog X.w) X.A (do bindName X.env n .none; unbindBehindTheSuite X.env n pos) Q X.xe s := by
  have hcls : (X.env.scope.kind == .class || (X.env.scope.kind == .module && X.env.locals != X.env.globals)) = false := by rw [I.ok.kind]; rfl
  refine wpAny_bind (wpAny_bindName (store_ok I hN hi (.inl hk) (show RelV .non .none from rfl) (fun s1 I1 => ?_) (.inr hk)))
  obtain ⟨m, hn, hl⟩ := id I1.loc
  have hiσ : i < σ.length := by rw [I.len]; exact (List.getElem?_eq_some_iff.mp hi).1
  obtain ⟨u, ru, lk⟩ := hl i n .non hi (by rw [List.getElem?_set_self hiσ]) (.inl hk)
  have hm : m n = some u := by
    rcases lk with ⟨_, e⟩ | ⟨z, _⟩
    · exact e
    · have hk' : X.env.kindOf n = some .local := hk
      rw [hk'] at z
      rcases z with z | z <;> cases z
  unfold unbindBehindTheSuite
  refine wpAny_onRaise (wpAny_unbindName_local hk hn hm hcls fun h' u' hn' hs' => ?_)
  have I2 := I1.unset hN hi hl hn' hs'
  rw [List.set_set] at I2
  exact h _ I2
end
section
variable {X : Cx}
noncomputable def tTry (K : PySem.W.Frag) (CH : Addr) (i : Nat) (E : St → XK) (tb ts : TS) : TS := fun D σ H => tb D σ H ∧ ∀ σ' cls H' ea, E σ' cls none H' → H' ea = none →
  ∃ C, cls = .ref C ∧ PySem.W.exmOne K (.ref C) (.ref CH) = some true ∧
    ts { nx := fun σ2 H2 => D.nx (σ2.set i none) H2, rt := D.rt, bk := fun σ2 H2 => D.bk (σ2.set i none) H2, ct := fun σ2 H2 => D.ct (σ2.set i none) H2 } (σ'.set i (some (.ref ea))) (upd H' ea (ExcO ea C))
theorem try_pass {pins : List (Addr × Obj)} {D : Ends} {CH : Addr} {i : Nat} {E : St → XK} {x n : Str} {np pos : Pos} {b₀ : Stmt} {suite : List Stmt} {ts : TS}
    (hstk : X.stack = X.env :: X.outer) (hfr : X.env.frame = some X.env.locals) (hN : X.N.Nodup) (hi : X.N[i]? = some n) (hk : X.env.scope.names.lookup n = some .local) (hg : Gl X x) (hm : X.mg x = some (.ref CH))
    (hs : ∀ ea p, PSs (cxH X ea p) (b₀ :: suite) ts)
    (hc : ∀ σ' cls H' ea, E σ' cls none H' → H' ea = none → ∃ C, cls = .ref C ∧ PySem.W.exmOne X.K (.ref C) (.ref CH) = some true ∧
      ts { nx := fun σ2 H2 => D.nx (σ2.set i none) H2, rt := D.rt, bk := fun σ2 H2 => D.bk (σ2.set i none) H2, ct := fun σ2 H2 => D.ct (σ2.set i none) H2 } (σ'.set i (some (.ref ea))) (upd H' ea (ExcO ea C)))
    (hdb : (x == ("__debug__" : Str)) = false := by decide) :
    PassS (CX1 X.prog X.w) (X.tr (X.pn ++ pins) fun e s₁ => wpAny (model X.prog X.w) X.A (noteFrame e X.env) (fun _ s₂ => wpAny (model X.prog X.w) X.A (setFlight e none) (fun _ s₃ =>
      wpAny (model X.prog X.w) X.A (handleBy e X.env [.ExceptHandler (some (.Name x np)) (some n) (b₀ :: suite) pos]) (SP X pins D) X.xe s₃) X.xe s₂) X.xe s₁) E := by
  intro pins' σ' H1 s1 e s' I1 hx
  obtain ⟨ea, cls, a0, B, H', rfl, os, bare, un, hok, fl, k1, k3, k2, hE⟩ := hx
  have fl' : Heap.FlyingW B (X.env :: X.outer) ea cls a0 s'.heap := hstk ▸ fl
  have hfrm : X.A.frames = some (X.env :: X.outer) := hstk ▸ I1.ok.frames
  have nfr : ea ∉ frs X.stack := fun z => by
    obtain ⟨_, o, ho, nf⟩ := fl.2.2.1.mem z
    obtain ⟨oe, vs, _, _, _, he, _, hd, _⟩ := fl.2.2.2
    rw [he] at ho; cases ho
    exact nf vs hd
  have nE : ∀ {b : Addr} {o : Obj}, s1.heap.get? b = some o → b ≠ ea := fun {b o} q z => by
    subst z
    obtain ⟨o', e'⟩ := k3 b o q nfr
    rw [fl.2.1] at e'; cases e'
  have nH : H' ea = none := by
    cases q : H' ea with
    | none => rfl
    | some u =>
      obtain ⟨o, e'⟩ := k2 ea u q
      rw [fl.2.1] at e'; cases e'
  have go : ∀ {h2 : Heap}, Heap.FlyingW B (X.env :: X.outer) ea cls a0 h2 → s'.heap.UpToSlots h2 → Inv (X.tr (X.pn ++ pins) fun e s₁ => wpAny (model X.prog X.w) X.A (noteFrame e X.env) (fun _ s₂ => wpAny (model X.prog X.w) X.A (setFlight e none) (fun _ s₃ =>
      wpAny (model X.prog X.w) X.A (handleBy e X.env [.ExceptHandler (some (.Name x np)) (some n) (b₀ :: suite) pos]) (SP X pins D) X.xe s₃) X.xe s₂) X.xe s₁) pins' σ' H' { s' with heap := h2 } := fun {h2} fl2 up =>
    I1.call' (s' := { s' with heap := h2 }) (ch := []) os (un_fly rfl un k1 k3 fl.2.2.1 fl2.1 up) (hok_fly hok k2 fl.1 fl2.1) bare fun b z => absurd z (by simp)
  have toH : ∀ {s2 : Shared} {H2 : Hp}, Inv (X.tr (X.pn ++ pins) fun e s₁ => wpAny (model X.prog X.w) X.A (noteFrame e X.env) (fun _ s₂ => wpAny (model X.prog X.w) X.A (setFlight e none) (fun _ s₃ =>
      wpAny (model X.prog X.w) X.A (handleBy e X.env [.ExceptHandler (some (.Name x np)) (some n) (b₀ :: suite) pos]) (SP X pins D) X.xe s₃) X.xe s₂) X.xe s₁) pins' σ' H2 s2 → Inv (cxH X ea (X.pn ++ pins)) [] σ' H2 s2 := fun I =>
    ⟨⟨I.ok.mod, I.ok.kind, I.ok.glob, I.ok.blt, I.ok.above, I.ok.inj, I.ok.has, I.ok.cab, (fun z => by cases z), I.ok.frames, I.ok.stk, I.ok.exf, I.ok.bs, I.ok.bsz, I.ok.noex, I.ok.exfs, I.ok.funs, I.ok.frf⟩,
      I.os, I.bare, I.base, I.loc, I.cell, I.free, I.freeC, fun p hp => I.pin p (List.mem_append_left _ (by have hp' : p ∈ (X.pn ++ pins) ++ [] := hp; rw [List.append_nil] at hp'; exact hp')), I.hok, I.len⟩
  refine wpAny_looks_onW hfrm hfr fl' fun h4 held up4 => ?_
  refine wpAny_landsW held fun h5 fl5 up5 => ?_
  obtain ⟨C, rfl, hexm, hts⟩ := hc σ' cls H' ea hE nH
  have I5 := toH (go fl5 (up4.trans up5))
  refine wpAny_handleBy_cons (codeAny_handlers_test ?_) (by intro q; cases q)
  refine ld_glob I5 hg hm ?_ hdb
  obtain ⟨ob, hob, hobc⟩ := fl5.there
  have LT : PySem.W.Looks (model X.prog X.w) h5 (typeOf (.ref ea)) (.ref C) := by
    rw [← hobc]
    exact (PySem.W.Looks.ld hob).andThen .now
  refine PySem.W.exm_one I5.kIn LT hexm _ _ _ _ (fun _ _ q => q) ?_
  refine codeAny_handlers_suite_as (lands_againW fl5 fun h6 fl6 up6 => ?_)
  have I6 := toH (go fl6 ((up4.trans up5).trans up6))
  have I7 : Inv (cxH X ea (X.pn ++ pins)) [] σ' (upd H' ea (ExcO ea C)) { s' with heap := h6 } := by
    refine I6.track ?_ nH (fun z => ?_) (fun y c q z => ?_) (fun p hp z => ?_) ?_
    · by_cases hx : ea ∈ X.ex
      · exact .inr hx
      · refine .inl ?_
        cases q : X.s₀.heap.get? ea with
        | none => exact q
        | some o =>
          obtain ⟨o', e'⟩ := I1.base.there ea o q hx
          exact absurd rfl (nE e')
    · exact nfr (by rw [hstk]; exact List.mem_filterMap.mpr ⟨X.env, List.mem_cons_self, by rw [hfr]; exact congrArg some z.symm⟩)
    · obtain ⟨v, oc, hoc, _⟩ := I1.cell y c q
      exact nE hoc z
    · exact nE (I1.pin p (List.mem_append_left _ (by have hp' : p ∈ (X.pn ++ pins) ++ [] := hp; rw [List.append_nil] at hp'; exact hp'))).1 z
    · obtain ⟨oe, vs, _, _, _, he, ⟨hcl, _⟩, hd, _⟩ := fl6.2.2.2
      exact ⟨⟨oe, vs, he, hcl, hd⟩, ⟨oe, he⟩, fun h1 h2 ⟨o, ws, q1, q2, q3⟩ k => ⟨o, ws, k o q1, q2, q3⟩⟩
  refine store_ok (X := cxH X ea (X.pn ++ pins)) I7 hN hi (.inl hk) (show RelV (.ref ea) (.ref ea) from rfl) (fun s8 I8 => ?_) (.inr hk)
  refine wpAny_mono (hs ea (X.pn ++ pins) [] s8 _ _ _ I8 hts) (fun fl9 s9 h9 => ?_) fun _ _ z => False.elim z
  have back : ∀ {σ2 : St} {H2 : Hp}, Inv (cxH X ea (X.pn ++ pins)) [] σ2 H2 s9 → Inv X pins σ2 H2 s9 := fun I =>
    ⟨⟨I1.ok.mod, I1.ok.kind, I1.ok.glob, I1.ok.blt, I1.ok.above, I1.ok.inj, I1.ok.has, I1.ok.cab, I1.ok.hd, I1.ok.frames, I1.ok.stk, I1.ok.exf, I1.ok.bs, I1.ok.bsz, I1.ok.noex, I1.ok.exfs, I1.ok.funs, I1.ok.frf⟩,
      I.os, I.bare, I.base, I.loc, I.cell, I.free, I.freeC, fun p hp => I.pin p (List.mem_append_left _ hp), I.hok, I.len⟩
  show wpAny (model X.prog X.w) X.A (do bindName X.env n .none; unbindBehindTheSuite X.env n pos) (fun _ s₃ => SP X pins D fl9 s₃) X.xe s9
  cases fl9 with
  | next =>
    obtain ⟨σ2, H2, I9, q9⟩ := h9
    exact let_go (back I9) hN hi hk fun s10 I10 => ⟨_, H2, I10, q9⟩
  | brk =>
    obtain ⟨σ2, H2, I9, q9⟩ := h9
    exact let_go (back I9) hN hi hk fun s10 I10 => ⟨_, H2, I10, q9⟩
  | cont =>
    obtain ⟨σ2, H2, I9, q9⟩ := h9
    exact let_go (back I9) hN hi hk fun s10 I10 => ⟨_, H2, I10, q9⟩
  | ret u =>
    obtain ⟨v, σ2, H2, I9, rv, q9⟩ := h9
    exact let_go (back I9) hN hi hk fun s10 I10 => ⟨v, _, H2, I10, rv, q9⟩
theorem ps_try {CH : Addr} {i : Nat} (E : St → XK) {x n : Str} {np hpos pos : Pos} {b₀ : Stmt} {suite body : List Stmt} {tb ts : TS}
    (hstk : X.stack = X.env :: X.outer) (hfr : X.env.frame = some X.env.locals) (hN : X.N.Nodup) (hi : X.N[i]? = some n) (hk : X.env.scope.names.lookup n = some .local) (hg : Gl X x) (hm : X.mg x = some (.ref CH))
    (hb : ∀ p xe, PassS (CX1 X.prog X.w) (X.tr p xe) E → PSs (X.tr p xe) body tb) (hs : ∀ ea p, PSs (cxH X ea p) (b₀ :: suite) ts)
    (hdb : (x == ("__debug__" : Str)) = false := by decide) : PS X (.Try body [.ExceptHandler (some (.Name x np)) (some n) (b₀ :: suite) hpos] [] [] pos) (tTry X.K CH i E tb ts) := by
  intro pins s σ H D I h
  obtain ⟨h1, h2⟩ := h
  refine wpAny_Try_except ?_
  have I' : Inv (X.tr (X.pn ++ pins) fun e s₁ => wpAny (model X.prog X.w) X.A (noteFrame e X.env) (fun _ s₂ => wpAny (model X.prog X.w) X.A (setFlight e none) (fun _ s₃ =>
      wpAny (model X.prog X.w) X.A (handleBy e X.env [.ExceptHandler (some (.Name x np)) (some n) (b₀ :: suite) hpos]) (SP X pins D) X.xe s₃) X.xe s₂) X.xe s₁) [] σ H s :=
    ⟨⟨I.ok.mod, I.ok.kind, I.ok.glob, I.ok.blt, I.ok.above, I.ok.inj, I.ok.has, I.ok.cab, I.ok.hd, I.ok.frames, I.ok.stk, I.ok.exf, I.ok.bs, I.ok.bsz, I.ok.noex, I.ok.exfs, I.ok.funs, I.ok.frf⟩,
      I.os, I.bare, I.base, I.loc, I.cell, I.free, I.freeC, fun p hp => I.pin p (by simpa using hp), I.hok, I.len⟩
  have back : ∀ {σ2 : St} {H2 : Hp} {s2 : Shared}, Inv (X.tr (X.pn ++ pins) fun e s₁ => wpAny (model X.prog X.w) X.A (noteFrame e X.env) (fun _ s₂ => wpAny (model X.prog X.w) X.A (setFlight e none) (fun _ s₃ =>
      wpAny (model X.prog X.w) X.A (handleBy e X.env [.ExceptHandler (some (.Name x np)) (some n) (b₀ :: suite) hpos]) (SP X pins D) X.xe s₃) X.xe s₂) X.xe s₁) [] σ2 H2 s2 → Inv X pins σ2 H2 s2 := fun J =>
    ⟨I.ok, J.os, J.bare, J.base, J.loc, J.cell, J.free, J.freeC, fun p hp => J.pin p (List.mem_append_left _ hp), J.hok, J.len⟩
  refine wpAny_mono (hb _ _ (try_pass hstk hfr hN hi hk hg hm hs h2 hdb) [] s σ H D I' h1) (fun f s1 q => ?_) fun e s1 q => q
  cases f with
  | next =>
    obtain ⟨σ2, H2, J, q⟩ := q
    exact wpAny_execs_nil ⟨σ2, H2, back J, q⟩
  | brk => obtain ⟨σ2, H2, J, q⟩ := q; exact ⟨σ2, H2, back J, q⟩
  | cont => obtain ⟨σ2, H2, J, q⟩ := q; exact ⟨σ2, H2, back J, q⟩
  | ret u => obtain ⟨v, σ2, H2, J, r, q⟩ := q; exact ⟨v, σ2, H2, back J, r, q⟩
end
end L2
set_option Elab.async false
set_option linter.all false
set_option maxRecDepth 100000
set_option maxHeartbeats 4000000
namespace L2
open PySem PySem.Spec PyProof.Rows
structure RoomN (k : Nat) (A : Around) : Prop where
  dp : A.depth + 3 * k + 5 < recursionLimit
  un : A.units + 16 * k + 200 < cLine
theorem Room.toN {k : Nat} {A : Around} (r : Room k A) : RoomN k A := ⟨r.dp, r.un⟩
theorem RoomN.mono {j k : Nat} {A : Around} (r : RoomN k A) (h : j ≤ k) : RoomN j A := ⟨by have := r.dp; omega, by have := r.un; omega⟩
theorem RoomN.deeper {k : Nat} {A : Around} (r : RoomN (k + 1) A) (env : Env) : RoomN k (A.deeper env) :=
  ⟨by have := r.dp; show A.depth + 1 + 3 * k + 5 < _; omega, by have := r.un; show A.units + 3 + 16 * k + 200 < _; omega⟩
theorem RoomN.mark {k : Nat} {A : Around} (r : RoomN k A) (e : Option Value) : RoomN k (A.mark e) := ⟨r.dp, r.un⟩
theorem RoomN.depth {k : Nat} {A : Around} (r : RoomN k A) : A.depth < recursionLimit := by have := r.dp; omega
theorem RoomN.units {k : Nat} {A : Around} (r : RoomN k A) : A.units + 100 < cLine := by have := r.un; omega
theorem Room.units100 {k : Nat} {A : Around} (r : Room k A) : A.units + 100 < cLine := r.toN.units
section
variable {X : Cx} {k : Nat} {f C : Addr} {fd : FuncData} {ps : List Str} {sp : List V → Hp → VK → Prop} {dvs : List V} {ds : List Value} {x m : Str} {p pos apos : Pos} {e o : Expr} {es : List Expr} {ta : TE} {t : TA}
end
end L2
namespace PySem.W
open PySem PySem.Spec PySem.Calls PyProof.Rows PySem.Builtin.ObjectAttr PySem.Builtin.Getset_descriptor PySem.Builtin
structure ExcCls (K : Frag) (C : Addr) : Prop where
  cl : (clsIn K C).isSome = true
  ga : findIn K (.ref C) "__getattribute__" = some (some (.builtin "BaseException.__getattribute__"))
  hk : findIn K (.ref C) "__getattr__" = some none
  ha : findIn K (.ref C) "__class__" = some (some (.builtin "object.__class__"))
  hn : specialIn K (.builtin "object.__class__") "__get__" = some (some (.builtin "getset_descriptor.__get__"))
  ht : takesIn K (.builtin "object.__class__") = some true
  hm : mroIn K C (.type "object") = some true
  hb : mroIn K C (.type "BaseException") = some true
section
variable {prog : Program} {w : World} {A : Around} {E : Value → Shared → Prop} {K : Frag} {x C : Addr} {ox : Obj}
theorem class_getE {R : Result → Shared → Prop} {h : Heap} {g : Array GenState} {d : Drawn} {t : Nat} {os : OsState} {tp : Value} (X : K.In h) (L0 : Looks (model prog w) h (typeOf (.ref x)) (.ref C)) (hm : mroIn K C (.type "object") = some true)
    (hq : R (.ok (.ret (.ref C))) ⟨h, g, d, t, os⟩) : codeAny (model prog w) A (.call (.builtin "getset_descriptor.__get__") ⟨[.builtin "object.__class__", .ref x, tp], []⟩) R ⟨h, g, d, t, os⟩ := by
  have L1 := looks_mroIn (M := model prog w) X hm
  refine codeAny_call_builtin KF.slot_gs.plain KF.entry_gs (KF.slot_gs.check _ _ _ _ _ _ _ _ KF.type_class (KF.args_gs _ _ _) ?_)
  unfold Builtin.«getset_descriptor.__get__» descrGet
  rw [dga_obj]
  refine wpAny_bind (wpAny_pure ?_)
  unfold descrGetter descrCheckInstance descrNameAndClass isInstance
  simp only [KF.owner_class]
  repeat lk
  refine ⟨Code.quiet_builtin _ (by decide +kernel), codeAny_builtin KF.entry_class ?_⟩
  unfold Builtin.«object.__class__» shownTypeOf
  repeat lk
  exact hq
theorem exc_class {h : Heap} {g : Array GenState} {d : Drawn} {t : Nat} {os : OsState} {vs : Array Value} {Q : Option Value → Shared → Prop} (X : K.In h) (T : ExcCls K C) (hx : h.get? x = some ox) (hc : ox.cls = .ref C) (hd : ox.data = .fields vs)
    (hq : Q (some (.ref C)) ⟨h, g, d, t + 1, os⟩) : wpAny (model prog w) A (getAttr? (.ref x) "__class__") Q E ⟨h, g, d, t, os⟩ := by
  have L0 : Looks (model prog w) h (typeOf (.ref x)) (.ref C) := hc ▸ (Looks.ld hx).andThen .now
  have L1 := looks_findIn (M := model prog w) X T.ga
  unfold getAttr? getAttrBy? getAttrBy
  refine wpAny_bind (wpAny_mkText (wpAny_bind (wpAny_attempt (wpAny_holding (wpAny_bind (L0.at (wpAny_bind (L1.at ?_))))))))
  show wpAny _ _ (getAttrByItsOwn (.ref x) (.str "__class__" t) (.ref C) (.builtin "BaseException.__getattribute__") false false) _ _ _
  have LH := looks_findIn (M := model prog w) X T.hk
  unfold getAttrByItsOwn callGetattribute boundAndCalled hookBefore
  refine wpAny_bind (LH.at (wpAny_bind (wpAny_attempt (wpAny_holding ?_))))
  rw [if_neg (by simp)]
  refine wpAny_bind (wpAny_of_eq (F.excAttr_ValueError.ga.bind _) ?_)
  refine wpAny_call ?_
  refine codeAny_call_builtin F.excAttr_ValueError.ga.plain F.entry_bexc_ga ?_
  have hsub : Looks (model prog w) h (isSubtype (.ref C) (.type "BaseException")) true := looks_mroIn X T.hb
  have chk : ∀ {A' : Around} {Q' : Unit → Shared → Prop} {E' : Value → Shared → Prop} {t' : Nat}, Q' () ⟨h, g, d, t', os⟩ → wpAny (model prog w) A' (checkBuiltinCall "BaseException.__getattribute__" ⟨[.ref x, .str "__class__" t], []⟩) Q' E' ⟨h, g, d, t', os⟩ := fun hq' => by
    have hkd : builtinKind "BaseException.__getattribute__" = some .slot := by kernel_rfl
    have hsp : splitId "BaseException.__getattribute__" = some ("BaseException", "__getattribute__") := by kernel_rfl
    simp only [checkBuiltinCall, hkd, hsp]
    have LI : Looks (model prog w) h (isInstance (.ref x) (.type "BaseException")) true := L0.andThen hsub
    refine wpAny_bind (LI.at ?_)
    simp only [Bool.not_true, Bool.false_eq_true, if_false]
    have ha := F.args_bexc_ga (.ref x) (.str "__class__" t)
    cases hsig : Manifest.signature? "BaseException.__getattribute__" with
    | none => exact wpAny_pure hq'
    | some sig =>
      simp only [argsOk, hsig] at ha
      have h2 : Bind.checkArgs "BaseException.__getattribute__" sig ⟨[.ref x, .str "__class__" t], []⟩ = pure () := ha
      show wpAny _ _ (Bind.checkArgs "BaseException.__getattribute__" sig ⟨[.ref x, .str "__class__" t], []⟩) _ _ _
      rw [h2]; exact wpAny_pure hq'
  refine chk ?_
  have LF : Looks (model prog w) h (Builtin.ObjectAttr.find (.ref x) (.ref C) "__class__") (Found.bind (.builtin "getset_descriptor.__get__") (.builtin "object.__class__")) := by
    have L1 := looks_findIn (M := model prog w) X T.ha
    have L2 : Looks (model prog w) h (getOf (some (.builtin "object.__class__"))) (some (.builtin "getset_descriptor.__get__")) := looks_specialIn X T.hn
    have L3 := looks_takesIn (M := model prog w) X T.ht
    unfold Builtin.ObjectAttr.find
    exact L1.andThen (L2.andThen ((show Looks (model prog w) h (dataDescriptor? (some (.builtin "object.__class__")) (some (.builtin "getset_descriptor.__get__"))) (some (.builtin "getset_descriptor.__get__", .builtin "object.__class__")) from L3.andThen .now).andThen (Looks.tag .now)))
  show wpAny _ _ (Builtin.«object.__getattribute__» ⟨[.ref x, .str "__class__" t], []⟩) _ _ _
  unfold Builtin.«object.__getattribute__»
  refine wpAny_bind (wpAny_pure (wpAny_bind (wpAny_pure (wpAny_bind (L0.at (wpAny_bind (LF.at ?_)))))))
  show wpAny _ _ (bindTo (.builtin "getset_descriptor.__get__") (.builtin "object.__class__") (.ref x) (.ref C)) _ _ _
  show wpAny _ _ (holding [Value.builtin "object.__class__"] (call (.builtin "getset_descriptor.__get__") [.builtin "object.__class__", .ref x, .ref C]) >>= ret) _ _ _
  refine wpAny_bind (wpAny_holding (wpAny_call (class_getE X L0 T.hm ?_)))
  refine wpAny_pure ?_
  exact handed_on rfl (wpAny_pure hq)
noncomputable def ExcAtH (x C : Addr) (h : Heap) : Prop := ∃ o vs, h.get? x = some o ∧ o.cls = .ref C ∧ o.data = .fields vs
theorem kitx_exc (T : ExcCls K C) : KitX K (.ref x) (.ref C) (ExcAtH x C) where
  ty := fun M h _ ⟨o, vs, e, c, d⟩ => c ▸ (Looks.ld e).andThen .now
  it := fun _ _ X _ => by
    obtain ⟨cdD, hcD⟩ := Option.isSome_iff_exists.mp T.cl
    unfold clsIn at hcD
    split at hcD
    · rename_i c' d' cd' sl' ho
      intro A' Q' E' s' k q
      unfold isType loadHead
      exact wpAny_bind (wpAny_loadPart (k _ _ (X _ _ ho)) (wpAny_pure q))
    · cases hcD
  ne := fun h tp dd its n sl X htp => by
    obtain ⟨cdD, hcD⟩ := Option.isSome_iff_exists.mp T.cl
    refine Bool.eq_false_iff.mpr fun q => ?_
    have e : C = tp := Value.ref.inj (beq_iff_eq.mp q)
    subst e
    unfold clsIn at hcD
    split at hcD
    · rename_i c' d' cd' sl' ho
      have z := (X _ _ ho).symm.trans htp
      cases z
    · cases hcD
  ca := fun {prog w A E Q s} X ⟨o, vs, e, c, d⟩ k => by
    obtain ⟨hh, g, dd, t, os⟩ := s
    exact exc_class X T e c d k
end
end PySem.W
namespace L2
open PySem PySem.Spec PyProof.Rows
theorem vals_refs : ∀ {Cs : List Addr} {its : List Value}, Vals (Cs.map V.ref) its → its = Cs.map Value.ref
  | [], _, .nil => rfl
  | _ :: _, _, .cons r1 r2 => by cases r1; rw [vals_refs r2, List.map_cons]
section
variable {X : Cx}
theorem call_isiE : CallR X (.builtin "isinstance") (fun xs H Q => ∃ ea D c b, xs = [.ref ea, c] ∧ H ea = some (ExcO ea D) ∧ PySem.W.ExcCls X.K D ∧
    ((∃ n, c = .ty n ∧ PySem.W.kitOne X.K (.ref D) (.type n) = some b) ∨ (∃ C, c = .ref C ∧ PySem.W.kitOne X.K (.ref D) (.ref C) = some b) ∨
      (∃ (p : Addr) (Cs : List Addr), c = .ref p ∧ H p = some (.tup (Cs.map V.ref)) ∧ PySem.W.kitAny X.K (.ref D) (Cs.map Value.ref) = some b)) ∧ Q (.bl b) H) := by
  intro pins s σ H xs us Q I r h
  obtain ⟨ea, D, c, b, rfl, hH, T, hc, q⟩ := h
  obtain ⟨u, w', rfl, rx, rc⟩ := vals2 r
  cases rx
  have hE : PySem.W.ExcAtH ea D s.heap := (I.hok ea _ hH).1
  have fin : ∀ tk, EP X pins σ Q (.bool b) { s with toks := tk } := fun tk => ⟨.bl b, H, I.tok tk, rfl, q⟩
  rcases hc with ⟨n, rfl, e⟩ | ⟨C, rfl, e⟩ | ⟨p, Cs, rfl, hp, e⟩
  · cases rc
    exact PySem.W.kia_one (PySem.W.kitx_exc T) I.kIn hE e (fun z => nomatch z) fin
  · cases rc
    exact PySem.W.kia_one (PySem.W.kitx_exc T) I.kIn hE e (fun z => nomatch z) fin
  · cases rc
    obtain ⟨_, its, rv, o, ho, hcl, n, hd⟩ := (show ObjOk X.prog X.w H s.heap p (.tup (Cs.map V.ref)) from I.hok p _ hp)
    have ei : its = Cs.map Value.ref := vals_refs rv
    obtain ⟨cls, dd, data, sl⟩ := o
    have hcl' : cls = .type "tuple" := hcl
    have hd' : data = .seq its.toArray n := hd
    subst hcl' hd'
    exact PySem.W.kia_tup (PySem.W.kitx_exc T) I.kIn hE ho (by rw [ei]; exact e) (fun z => nomatch z) fin
end
end L2
set_option Elab.async false
set_option linter.all false
set_option maxRecDepth 100000
set_option maxHeartbeats 4000000
namespace L2
open PySem PySem.Spec PyProof.Rows
theorem comp_by {J : It} {g : TG} {tc : TT} {te : TE} {σ0 : St} {H : Hp} {Q : VK} (n : Nat) (Pv : Nat → List V → Hp → Prop) (hz : n < sizeLine) (hgo : ∀ i ys H, i < n → Pv i ys H → J.go i H) (hstop : ∀ ys H, Pv n ys H → J.stop n H) (h0 : Pv 0 [] H)
    (hs : ∀ i ys H x H' (N : List V → Hp → Prop), i < n → Pv i ys H → J.yld i H x H' → (∀ ys' H2, Pv (i + 1) ys' H2 → N ys' H2) →
      g x σ0 H' fun σ2 H2 => tc σ2 H2 fun b H3 => if b = true then te σ2 H3 fun y H4 => N (ys ++ [y]) H4 else N ys H3)
    (hd : ∀ ys H, Pv n ys H → ys.length ≤ n → ∀ p, H p = none → Q (.ref p) (upd H p (.lst ys))) :
    CompR J g tc te σ0 Q H := by
  refine ⟨fun i m ys H => m = n - i ∧ i ≤ n ∧ ys.length ≤ i ∧ Pv i ys H, ⟨n, by simp, Nat.zero_le _, Nat.le_refl _, h0⟩, ?_⟩
  rintro i m ys H ⟨rfl, hi, hl, p⟩
  by_cases hlt : i < n
  · refine .inr ⟨hgo i ys H hlt p, by (clear hlt; omega), fun x H' y => ?_⟩
    have key := hs i ys H x H' (fun ys' H2 => (ys'.length ≤ ys.length + 1 → ∃ m', m' < n - i ∧ m' = n - (i + 1) ∧ i + 1 ≤ n ∧ ys'.length ≤ i + 1 ∧ Pv (i + 1) ys' H2)) hlt p y (fun ys' H2 q hle => ⟨n - (i + 1), by (clear hle hl hi hz; omega), rfl, hlt, by (clear hlt hi hz; omega), q⟩)
    have e : (fun σ2 H2 => tc σ2 H2 fun b H3 => if b = true then te σ2 H3 fun y H4 => ((ys ++ [y]).length ≤ ys.length + 1 → ∃ m', m' < n - i ∧ m' = n - (i + 1) ∧ i + 1 ≤ n ∧ (ys ++ [y]).length ≤ i + 1 ∧ Pv (i + 1) (ys ++ [y]) H4)
        else (ys.length ≤ ys.length + 1 → ∃ m', m' < n - i ∧ m' = n - (i + 1) ∧ i + 1 ≤ n ∧ ys.length ≤ i + 1 ∧ Pv (i + 1) ys H3)) =
      (fun σ2 H2 => tc σ2 H2 fun b H3 => if b = true then te σ2 H3 fun y H4 => ∃ m', m' < n - i ∧ m' = n - (i + 1) ∧ i + 1 ≤ n ∧ (ys ++ [y]).length ≤ i + 1 ∧ Pv (i + 1) (ys ++ [y]) H4
        else ∃ m', m' < n - i ∧ m' = n - (i + 1) ∧ i + 1 ≤ n ∧ ys.length ≤ i + 1 ∧ Pv (i + 1) ys H3) := by
      funext σ2 H2
      congr 1
      funext b H3
      have e1 : ∀ (y : V) (H4 : Hp), ((ys ++ [y]).length ≤ ys.length + 1 → ∃ m', m' < n - i ∧ m' = n - (i + 1) ∧ i + 1 ≤ n ∧ (ys ++ [y]).length ≤ i + 1 ∧ Pv (i + 1) (ys ++ [y]) H4) = (∃ m', m' < n - i ∧ m' = n - (i + 1) ∧ i + 1 ≤ n ∧ (ys ++ [y]).length ≤ i + 1 ∧ Pv (i + 1) (ys ++ [y]) H4) := fun y H4 =>
        propext ⟨fun q => q (by simp), fun q _ => q⟩
      have e2 : (ys.length ≤ ys.length + 1 → ∃ m', m' < n - i ∧ m' = n - (i + 1) ∧ i + 1 ≤ n ∧ ys.length ≤ i + 1 ∧ Pv (i + 1) ys H3) = (∃ m', m' < n - i ∧ m' = n - (i + 1) ∧ i + 1 ≤ n ∧ ys.length ≤ i + 1 ∧ Pv (i + 1) ys H3) := propext ⟨fun q => q (by (clear hlt hl hi hz; omega)), fun q _ => q⟩
      simp only [e1, e2]
    rw [e] at key
    exact key
  · have e : i = n := by (clear hl hz; omega)
    subst e
    exact .inl ⟨hstop ys H p, by (clear hlt hi; omega), hd ys H p hl⟩
theorem comp_itr {lo : Int} {n : Nat} {g : TG} {tc : TT} {te : TE} {σ0 : St} {H : Hp} {Q : VK} (Pv : Nat → List V → Hp → Prop) (hz : n < sizeLine) (h0 : Pv 0 [] H)
    (hs : ∀ i ys H (N : List V → Hp → Prop), i < n → Pv i ys H → (∀ ys' H2, Pv (i + 1) ys' H2 → N ys' H2) →
      g (.int (lo + i)) σ0 H fun σ2 H2 => tc σ2 H2 fun b H3 => if b = true then te σ2 H3 fun y H4 => N (ys ++ [y]) H4 else N ys H3)
    (hd : ∀ ys H, Pv n ys H → ys.length ≤ n → ∀ p, H p = none → Q (.ref p) (upd H p (.lst ys))) : CompR (Itr lo n) g tc te σ0 Q H := comp_by n Pv hz (fun i ys H hi _ => hi) (fun ys H _ => Nat.le_refl _) h0
  (fun i ys H v H' N hi p y hN => by
    obtain ⟨e, e2⟩ := y
    subst e e2
    exact hs i ys _ N hi p hN) hd
@[elab_as_elim] theorem us1 {α : Type} {p : List α → Prop} (h : ∀ a, p [a]) (us : List α) (hl : us.length = 1) : p us := by
  obtain ⟨a, rfl⟩ := List.length_eq_one_iff.mp hl
  exact h a
@[elab_as_elim] theorem us2 {α : Type} {p : List α → Prop} (h : ∀ a b, p [a, b]) (us : List α) (hl : us.length = 2) : p us := by
  cases us with
  | nil => cases hl
  | cons a r => exact @us1 _ (fun r => p (a :: r)) (fun b => h a b) r (Nat.succ.inj hl)
@[elab_as_elim] theorem us3 {α : Type} {p : List α → Prop} (h : ∀ a b c, p [a, b, c]) (us : List α) (hl : us.length = 3) : p us := by
  cases us with
  | nil => cases hl
  | cons a r => exact @us2 _ (fun r => p (a :: r)) (fun b c => h a b c) r (Nat.succ.inj hl)
@[elab_as_elim] theorem us4 {α : Type} {p : List α → Prop} (h : ∀ a b c d, p [a, b, c, d]) (us : List α) (hl : us.length = 4) : p us := by
  cases us with
  | nil => cases hl
  | cons a r => exact @us3 _ (fun r => p (a :: r)) (fun b c d => h a b c d) r (Nat.succ.inj hl)
end L2
set_option Elab.async false
set_option linter.all false
set_option maxRecDepth 100000
set_option maxHeartbeats 4000000
namespace L2
open PySem PySem.Spec PyProof.Rows
section
variable {X : Cx}
end
end L2
set_option Elab.async false
set_option linter.all false
set_option maxRecDepth 100000
set_option maxHeartbeats 4000000
namespace L2
open PySem PySem.Spec PyProof.Rows
section
variable {X : Cx}
end
end L2
set_option Elab.async false
set_option linter.all false
set_option maxRecDepth 100000
set_option maxHeartbeats 4000000
namespace L2
open PySem PySem.Spec PyProof.Rows
section
variable {X : Cx}
end
end L2
set_option Elab.async false
set_option linter.all false
set_option maxRecDepth 100000
set_option maxHeartbeats 4000000
namespace L2
open PySem PySem.Spec PyProof.Rows
section
variable {X : Cx}
end
end L2
set_option Elab.async false
set_option linter.all false
set_option maxRecDepth 100000
set_option maxHeartbeats 4000000
namespace L2
open PySem PySem.Spec PyProof.Rows
section
variable {X : Cx} {CX : CXT} {k : Nat} {f C : Addr} {fd : FuncData} {ps : List Str} {ds : List Value} {dvs : List V} {sp : Sp} {m : Str} {pos apos : Pos} {e o : Expr} {es : List Expr} {ta : TE} {t : TA} {E : St → XK}
end
end L2
set_option Elab.async false
set_option linter.all false
set_option maxRecDepth 100000
set_option maxHeartbeats 4000000
namespace L2
open PySem PySem.Spec PyProof.Rows
section
variable {X : Cx}
noncomputable def tRev (K : PySem.W.Frag) (te ts : TE) : TE := fun σ H Q => te σ H fun x H1 => ts σ H1 fun y H2 => ∃ a xs, x = .ref a ∧ y = .int (-1) ∧ SqL K H2 a xs ∧ ∀ p, H2 p = none → Q (.ref p) (upd H2 p (.lst xs.reverse))
theorem Vals.rev : ∀ {xs : List V} {us : List Value}, Vals xs us → Vals xs.reverse us.reverse
  | _, _, .nil => .nil
  | _, _, .cons r t => by
    rw [List.reverse_cons, List.reverse_cons]
    exact (Vals.rev t).append (.cons r .nil)
theorem pe_rev {e se : Expr} {te ts : TE} {p2 pos : Pos} (he : PE X e te) (hs : PE X se ts) : PE X (.Subscript e (.Slice none none (some se) p2) pos) (tRev X.K te ts) := by
  intro pins s σ H Q I h
  refine Subscript_ (thn (he pins s σ H _ I h) fun v s1 ⟨x, H1, I1, r1, q1⟩ => ?_)
  refine wpAny_Slice ?_
  rw [evalPart_none]
  refine wpAny_pure ?_
  refine wpAny_pure ?_
  rw [evalPart_some]
  refine thn (hs pins s1 σ H1 _ I1 q1) fun u s2 ⟨y, H2, I2, r2, q2⟩ => ?_
  obtain ⟨a, xs, rfl, rfl, hx, q⟩ := q2
  cases r1
  obtain ⟨t, rfl⟩ := r2
  have I3 : Inv X pins σ H2 { s2 with heap := s2.heap.push { cls := .type "slice", data := .fields #[.none, .none, .int (-1) t] } } := I2.kept (t' := s2.toks) fun b ob q => Heap.get?_push_of_some _ q
  obtain ⟨its, r, ht, hz⟩ := I3.list hx
  have hlen := r.length
  refine tail_any (T := "list") (ops := [.ref a, .ref s2.heap.objs.size]) ht.isList.typeIs slot_list_getitem.lookup ?_ (by with_unfolding_all rfl)
  refine wpAny_getItem_list_slice ht.isList (Heap.IsSliceOf.new ..) .none .none (.int (-1) t) (by simp) ?_ (by rw [List.size_toArray] <;> omega)
  rw [PySem.W.krv_pick]
  refine ⟨.ref _, _, I3.laid (t' := s2.toks) (o := .lst xs.reverse) (fun b ob q => Heap.get?_push_of_some _ q) (Nat.le_refl _) ?_, rfl, q _ (I3.hok.fresh (Nat.le_refl _))⟩
  exact ⟨by rw [List.length_reverse]; exact hz, _, 0, Vals.rev r, Heap.get?_push_size _ rfl⟩
end
end L2
set_option Elab.async false
set_option linter.all false
set_option maxRecDepth 100000
set_option maxHeartbeats 4000000
namespace L2
open PySem PySem.Spec PyProof.Rows
noncomputable def Izl (a b : Addr) : It := ⟨fun i H => ∃ xs ys x y, H a = some (.lst xs) ∧ H b = some (.lst ys) ∧ xs[i]? = some x ∧ ys[i]? = some y,
  fun i H v H' => ∃ T x y, H T = none ∧ (∀ xs, H a = some (.lst xs) → xs[i]? = some x) ∧ (∀ ys, H b = some (.lst ys) → ys[i]? = some y) ∧ v = .ref T ∧ H' = upd H T (.tup [x, y]),
  fun i H => ∃ xs ys, H a = some (.lst xs) ∧ H b = some (.lst ys) ∧ i = min xs.length ys.length⟩
theorem zap {H : Hp} {a b z TI TO i1 i2 : Addr} {xs ys : List V} (ha : H a = some (.lst xs)) (hb : H b = some (.lst ys)) (hf : ∀ c ∈ [z, TI, TO, i1, i2], H c = none) (hd : [z, TI, TO, i1, i2].Nodup) : ZipApart z TI TO i1 i2 a b := by
  have f : ∀ c ∈ [z, TI, TO, i1, i2], a ≠ c ∧ b ≠ c := fun c hc => ⟨fun e => (by rw [e, hf c hc] at ha; cases ha), fun e => (by rw [e, hf c hc] at hb; cases hb)⟩
  simp at hd f
  obtain ⟨⟨d1, d2, d3, d4⟩, ⟨d5, d6, d7⟩, ⟨d8, d9⟩, d10⟩ := hd
  obtain ⟨⟨f1, g1⟩, ⟨f2, g2⟩, ⟨f3, g3⟩, ⟨f4, g4⟩, f5, g5⟩ := f
  exact ⟨Ne.symm d1, Ne.symm d2, Ne.symm d3, Ne.symm d4, d5, d6, d7, d8, d9, d10, f1, f3, f4, f5, g1, g3, g4, g5⟩
theorem turn_zip {P : Program} {w : World} {K : PySem.W.Frag} {elts : List Expr} {k : Nat} {pos : Pos} (a b z TI TO i1 i2 : Addr) (hd : [z, TI, TO, i1, i2].Nodup) :
    Turn P w K (.Tuple elts k pos) (Izl a b) [z, TI, TO, i1, i2] z (fun i h => IsZip h z TI TO .none ∧ IsPair h TI (.ref i1) (.ref i2) ∧ (∃ a b, IsPair h TO a b) ∧ h.IsListIter i1 a i ∧ h.IsListIter i2 b i) where
  mem := by simp
  obj := fun i h st c hc => by
    obtain ⟨hz, hTI, ⟨u, v, hTO⟩, ⟨o1, ho1, c1, d1⟩, o2, ho2, c2, d2⟩ := st
    simp at hc
    rcases hc with rfl | rfl | rfl | rfl | rfl
    · exact ⟨_, hz, fun v z => nomatch z⟩
    · exact ⟨_, hTI, fun v z => nomatch z⟩
    · exact ⟨_, hTO, fun v z => nomatch z⟩
    · exact ⟨o1, ho1, fun v z => by rw [d1] at z; cases z⟩
    · exact ⟨o2, ho2, fun v z => by rw [d2] at z; cases z⟩
  keep := fun i h h' st kk => by
    obtain ⟨hz, hTI, ⟨u, v, hTO⟩, h1, h2⟩ := st
    exact ⟨kk z (by simp) _ hz, kk TI (by simp) _ hTI, ⟨u, v, kk TO (by simp) _ hTO⟩, h1.at fun o e => kk i1 (by simp) o e, h2.at fun o e => kk i2 (by simp) o e⟩
  item := by
    intro X hP hw hK hc i pins s σ H E I hf st hg
    subst hP hw hK
    obtain ⟨xs, ys, x, y, hA, hB, hx, hy⟩ := hg
    obtain ⟨its, rv, p, hz⟩ := I.list (SqL.of hA)
    obtain ⟨its2, rv2, p2, hz2⟩ := I.list (SqL.of hB)
    obtain ⟨u, hu, ru⟩ := rv.get hx
    obtain ⟨u2, hu2, ru2⟩ := rv2.get hy
    have hap := zap hA hB (fun c hc => (hf c hc).1) hd
    have hil : i < min its.toArray.size its2.toArray.size := by
      have h1 := (List.getElem?_eq_some_iff.mp hu).1
      have h2 := (List.getElem?_eq_some_iff.mp hu2).1
      simp
      omega
    have W := WalksT.zip2 (prog := X.prog) (w := X.w) (A := X.A) (I.ok.hd hc) z TI TO i1 i2 a b hap its.toArray its2.toArray
    refine W.item i s _ _ hil ⟨st.1, st.2.1, st.2.2.1, st.2.2.2.1, st.2.2.2.2, p.isList, p2.isList⟩ fun T vals h' tk hv hT ht mid kk => ⟨_, rfl, ?_⟩
    obtain ⟨q, q2, hq, hq2, rfl⟩ := hv
    have e1 : q = u := by
      have h1 : its[i]? = some q := by simpa using hq
      rw [hu] at h1
      exact (Option.some.inj h1).symm
    have e2 : q2 = u2 := by
      have h1 : its2[i]? = some q2 := by simpa using hq2
      rw [hu2] at h1
      exact (Option.some.inj h1).symm
    subst e1 e2
    refine W.go elts k pos i T _ _ _ mid fun h'' st'' kk2 => ?_
    have sub : ∀ c, c ∉ [z, TI, TO, i1, i2] → c ∉ [z, TO, i1, i2] := fun c hc hm => hc (by simp at hm ⊢; rcases hm with r | r | r | r <;> simp [r])
    have keep : ∀ c o, c ∉ [z, TI, TO, i1, i2] → s.heap.get? c = some o → h''.get? c = some o := fun c o hc q => kk2 c o (sub c hc) (kk c o (sub c hc) q)
    have I1 : Inv X pins σ H { s with heap := h'', toks := tk } := I.turnedL keep hf
    have hn : H T = none := I.hok.fresh hT
    have hTn : T ∉ [z, TO, i1, i2] := W.apart i T h' mid
    have hTI : T ≠ TI := fun e => by
      have := Heap.lt_size st.2.1
      rw [← e] at this
      exact absurd (Nat.lt_of_lt_of_le this hT) (Nat.lt_irrefl _)
    obtain ⟨ot, hot, hct, n, hdt⟩ := ht
    have I2 : Inv X pins σ (upd H T (.tup [x, y])) { s with heap := h'', toks := tk } := by
      refine I1.track (.inl (Heap.get?_none_of_le (Nat.le_trans I.sz hT))) hn (Nat.ne_of_gt (Nat.lt_of_lt_of_le I.lt hT)) (fun y c' q z => ?_) (fun p hp z => ?_) ?_
      · obtain ⟨v, q'⟩ := I.cell y c' q
        exact absurd (Nat.lt_of_lt_of_le q'.lt (by rw [z]; exact hT)) (Nat.lt_irrefl _)
      · exact absurd (Nat.lt_of_lt_of_le (Heap.lt_size (I.pin p hp).1) (by rw [z]; exact hT)) (Nat.lt_irrefl _)
      · exact ⟨by show 2 ≤ sizeLine; decide, [q, q2], .cons ru (.cons ru2 .nil), ot, kk2 T ot hTn hot, hct, n, hdt⟩
    refine ⟨.ref T, _, I2, rfl, ⟨T, x, y, hn, (fun zs hy' => ?_), (fun zs hy' => ?_), rfl, rfl⟩, ⟨st''.1, st''.2.1, st''.2.2.1, st''.2.2.2.1, st''.2.2.2.2.1⟩, fun b hb => ?_⟩
    · rw [hA] at hy'
      cases hy'
      exact hx
    · rw [hB] at hy'
      cases hy'
      exact hy
    · have hbT : b ≠ T := fun e => by
        subst e
        simp at hb hTn
        rcases hb with r | r | r | r | r
        · exact hTn.1 r
        · exact hTI r
        · exact hTn.2.1 r
        · exact hTn.2.2.1 r
        · exact hTn.2.2.2 r
      rw [upd_ne hbT]
      exact (hf b hb).1
  done := by
    intro X hP hw hK hc i pins s σ H E I hf st hg
    subst hP hw hK
    obtain ⟨xs, ys, hA, hB, hx⟩ := hg
    obtain ⟨its, rv, p, hz⟩ := I.list (SqL.of hA)
    obtain ⟨its2, rv2, p2, hz2⟩ := I.list (SqL.of hB)
    have hl := rv.length
    have hl2 := rv2.length
    have hap := zap hA hB (fun c hc => (hf c hc).1) hd
    have W := WalksT.zip2 (prog := X.prog) (w := X.w) (A := X.A) (I.ok.hd hc) z TI TO i1 i2 a b hap its.toArray its2.toArray
    have hi : i = min its.toArray.size its2.toArray.size := by rw [hx, hl, hl2]; simp
    subst hi
    have sub : ∀ c, c ∉ [z, TI, TO, i1, i2] → c ∉ [z, TO, i1, i2] := fun c hc hm => hc (by simp at hm ⊢; rcases hm with r | r | r | r <;> simp [r])
    exact W.done s _ _ ⟨st.1, st.2.1, st.2.2.1, st.2.2.2.1, st.2.2.2.2, p.isList, p2.isList⟩ fun h' tk kk => ⟨rfl, I.turnedL (fun c o hc q => kk c o (sub c hc) q) hf⟩
  self := fun A i s Q E st h => wpAny_pyIter_zip st.1 h
noncomputable def iZip (ta : TA) : TI := fun σ H R => ta σ H fun vs H1 => ∃ (a b : Addr) (xs ys : List V), vs = [.ref a, .ref b] ∧ H1 a = some (.lst xs) ∧ H1 b = some (.lst ys) ∧ R (Izl a b) H1
section
variable {X : Cx}
theorem b_zipT : bootBuiltins "zip" = some (.type "zip") := by decide +kernel
theorem pi_zip {elts : List Expr} {k : Nat} {tpos p pos : Pos} {a b : Expr} {ta : TA} (hg : Gl X "zip") (hm : X.mg "zip" = none) (ha : PA X [a, b] ta) (hs : starEach [a, b] X.env = (false, eval a X.env) :: starEach [b] X.env := by rfl) (hs2 : (backTo pos (starEach [b] X.env)).any (·.1) = false := by rfl) :
    PI X (.Tuple elts k tpos) (.Call (.Name "zip" p) [a, b] [] pos) (iZip ta) := by
  intro pins s σ H R I h
  refine Call_ (ld_blt I hg hm b_zipT (PyProof.Rows.callWith_type1 (thn (ha pos pins s σ H _ I h) fun us s1 ⟨vs, H1, I1, r1, q1⟩ => ?_) hs hs2))
  obtain ⟨l1, l2, xs, ys, e, hA, hB, q⟩ := q1
  subst e
  obtain ⟨u1, u2, rfl, ru1, ru2⟩ := r1.two
  cases ru1
  cases ru2
  obtain ⟨its, rv, pl, hz⟩ := I1.list (SqL.of hA)
  obtain ⟨its2, rv2, pl2, hz2⟩ := I1.list (SqL.of hB)
  refine call_zip_2 pl.isList pl2.isList fun h' hz' hTI hTO h1 h2 hsz hk => ?_
  refine wpAny_pyIter_zip hz' ?_
  refine ⟨s1.heap.objs.size + 4, [s1.heap.objs.size + 4, s1.heap.objs.size + 2, s1.heap.objs.size + 3, s1.heap.objs.size, s1.heap.objs.size + 1], _, _, H1, rfl, I1.kept (t' := s1.toks) hk, turn_zip l1 l2 _ _ _ _ _ (by simp), ⟨hz', hTI, ⟨_, _, hTO⟩, h1, h2⟩, fun b hb => ?_, q⟩
  simp at hb
  have hge : s1.heap.objs.size ≤ b := by
    rcases hb with r | r | r | r | r <;> rw [r] <;> first | exact Nat.le_refl _ | exact Nat.le_add_right _ _
  exact I1.fpOk hge (I1.hok.fresh hge)
end
theorem for_izl {a b : Addr} {xs ys : List V} {g : TG} {tb : TS} {D : Ends} {σ : St} {H : Hp} (Pv : Nat → St → Hp → Prop) (he : xs.length = ys.length) (h0 : Pv 0 σ H) (hl : ∀ i σ H, i ≤ xs.length → Pv i σ H → H a = some (.lst xs) ∧ H b = some (.lst ys))
    (hs : ∀ i x y σ H T, xs[i]? = some x → ys[i]? = some y → Pv i σ H → H T = none → g (.ref T) σ (upd H T (.tup [x, y])) fun σ2 H2 => tb { D with nx := Pv (i + 1), ct := Pv (i + 1), bk := D.nx } σ2 H2) (hd : ∀ σ H, Pv xs.length σ H → D.nx σ H) :
    ∃ W : Nat → Nat → St → Hp → Prop, (∃ m, W 0 m σ H) ∧ ∀ i m σ H, W i m σ H →
      ((Izl a b).stop i H ∧ D.nx σ H) ∨ ((Izl a b).go i H ∧ ∃ N : St → Hp → Prop, (∀ σ' H', N σ' H' → ∃ m', m' < m ∧ W (i + 1) m' σ' H') ∧ ∀ x H', (Izl a b).yld i H x H' → g x σ H' fun σ2 H2 => tb { D with nx := N, ct := N, bk := D.nx } σ2 H2) := by
  refine ⟨fun i m σ H => m = xs.length - i ∧ i ≤ xs.length ∧ Pv i σ H, ⟨xs.length, by simp, Nat.zero_le _, h0⟩, ?_⟩
  rintro i m σ H ⟨rfl, hi, p⟩
  have q := hl i σ H hi p
  by_cases hlt : i < xs.length
  · refine .inr ⟨⟨xs, ys, xs[i], ys[i]'(by omega), q.1, q.2, by simp [hlt], by simp [show i < ys.length by omega]⟩, Pv (i + 1), fun σ' H' p' => ⟨xs.length - (i + 1), by omega, rfl, hlt, p'⟩, fun x H' y => ?_⟩
    obtain ⟨T, z, z2, hT, hz, hz2, rfl, rfl⟩ := y
    exact hs i z z2 σ H T (hz xs q.1) (hz2 ys q.2) p hT
  · have e : i = xs.length := by omega
    subst e
    exact .inl ⟨⟨xs, ys, q.1, q.2, by omega⟩, hd σ H p⟩
end L2
set_option Elab.async false
set_option linter.all false
set_option maxRecDepth 100000
set_option maxHeartbeats 4000000
namespace Gn
open PySem L2 PyProof.Rows PySem.Spec
section
variable {P : Program} {w : World} {K : PySem.W.Frag} {mg : Str → Option Value} {base h : Heap}
noncomputable def isIntV : V → Bool
  | .int _ => true
  | .bl _ => true
  | _ => false
noncomputable def isBlV : V → Bool
  | .bl _ => true
  | _ => false
noncomputable def Known (K : PySem.W.Frag) (H : Hp) (x : V) : Prop := ∃ n, TyOf K H x (.type n)
theorem kit_int {K : PySem.W.Frag} {H : Hp} {x : V} {n : String} (h : TyOf K H x (.type n)) : PySem.W.kitOne K (.type n) (.type "int") = some (isIntV x) := by
  cases h <;> kernel_rfl
theorem kit_bool {K : PySem.W.Frag} {H : Hp} {x : V} {n : String} (h : TyOf K H x (.type n)) : PySem.W.kitOne K (.type n) (.type "bool") = some (isBlV x) := by
  cases h <;> kernel_rfl
theorem Known.same {K : PySem.W.Frag} {H H' : Hp} {x : V} (h : Known K H x) (e : Same H H') : Known K H' x := by
  obtain ⟨n, h⟩ := h
  cases h with
  | non => exact ⟨_, .non⟩
  | bl b => exact ⟨_, .bl b⟩
  | int i => exact ⟨_, .int i⟩
  | str z => exact ⟨_, .str z⟩
  | flt z => exact ⟨_, .flt z⟩
  | lst q => exact ⟨_, .lst (e _ _ q)⟩
  | frz q => exact ⟨_, .frz (e _ _ q)⟩
  | tup q => exact ⟨_, .tup (e _ _ q)⟩
  | dK q => exact ⟨_, .dK (e _ _ q)⟩
  | dT q => exact ⟨_, .dT (e _ _ q)⟩
theorem same_upd {H : Hp} {a : Addr} {o : HO} (h : H a = none) : Same H (upd H a o) := fun b u e => by rw [upd_ne (ne_of_none e h)]; exact e
theorem Same.upd {H H' : Hp} {a : Addr} {o : HO} (s : Same H H') (h : H' a = none) : Same H (upd H' a o) := s.trans (same_upd h)
structure Df (K : PySem.W.Frag) (mg : Str → Option Value) (x : Str) (st : Stmt) (f : Addr) (fd : FuncData) : Prop where
  F : Fun K x x st f fd
  m : mg x = some (.ref f)
theorem b_isi : bootBuiltins "isinstance" = some (.builtin "isinstance") := by decide +kernel
theorem b_int : bootBuiltins "int" = some (.type "int") := by decide +kernel
theorem b_bool : bootBuiltins "bool" = some (.type "bool") := by decide +kernel
theorem b_list : bootBuiltins "list" = some (.type "list") := by decide +kernel
theorem b_tuple : bootBuiltins "tuple" = some (.type "tuple") := by decide +kernel
theorem b_len : bootBuiltins "len" = some (.builtin "len") := by decide +kernel
theorem b_all : bootBuiltins "all" = some (.builtin "all") := by decide +kernel
theorem b_val : bootBuiltins "ValueError" = some (.type "ValueError") := by decide +kernel
theorem binds1 {x p : Str} {st : Stmt} {f : Addr} {fd : FuncData} (F : Fun K x x st f fd)
    (h : ∀ (kV doc pm : Value) (an : Option Addr) (cdv ct : Value) (u : Value), bindArgs (PySem.W.fnOf x x (defArgs st) (defBody st) (defScope st) .none kV doc pm an cdv ct) ⟨[u], []⟩ = pure ([p].zip [u])) : Binds K fd [p] [] :=
  F.binds fun kV doc pm an cdv ct us hl => match us, hl with | [u], _ => h kV doc pm an cdv ct u
theorem g1 {i : Nat} {v : V} {σ : L2.St} {H : Hp} {te : TE} {M : V → Hp → Prop} {N0 : Hp → Prop} (h : te (σ.set i (some v)) H M) : gName i v σ H fun σ2 H2 => tNoIf σ2 H2 fun b H3 => if b = true then te σ2 H3 M else N0 H3 := by
  show if true = true then te (σ.set i (some v)) H M else N0 H
  exact iteT h
structure Ex (K : PySem.W.Frag) (mg : Str → Option Value) (x : Str) (C : Addr) : Prop where
  m : mg x = some (.ref C)
  q : PySem.W.excIn K C [.type "ValueError", .type "Exception", .type "BaseException", .type "object"] "ValueError.__new__" = true
structure DfD (K : PySem.W.Frag) (mg : Str → Option Value) (x : Str) (st : Stmt) (f : Addr) (fd : FuncData) (items : Array Value) : Prop where
  ex : ∃ (oc : Value) (od : Option Addr) (kV doc pm : Value) (an : Option Addr) (cdv ct : Value) (osl : Array (Option Value)) (T : Addr) (o : Obj) (n : Nat),
    fd = PySem.W.fnOf x x (defArgs st) (defBody st) (defScope st) (.ref T) kV doc pm an cdv ct ∧ K.lookup f = some ⟨oc, od, .func fd, osl⟩ ∧ PySem.W.codeIn K cdv x = true ∧ K.lookup T = some o ∧ o.data = .seq items n
  kp : PySem.W.keepIn K (.ref f) = true
  m : mg x = some (.ref f)
theorem DfD.ok1 {x : Str} {st : Stmt} {f : Addr} {fd : FuncData} {items : Array Value} {N ps : List Str} {k : Nat} {sp : Sp} (F : DfD K mg x st f fd items) (S : FnScope N ps (defScope st)) (len : ∀ vs H Q E, sp vs H Q E → vs.length = ps.length)
    (hbody : ∀ (cdv : Value) (A : Around) (outer : List Env) (s : Shared) (H : Hp) (vs : List V) (Q : VK) (E : XK), Room k (A.deeper (envOfC x (defScope st) s.heap.objs.size f cdv)) → sp vs H Q E →
      ∃ t, PSs (cxOf (CX1 P w) P w K mg base N x (defScope st) f cdv A outer s H E) (defBody st) t ∧ t { nx := fun _ H' => Q .non H', rt := Q } (L2.start N vs) H) : FnOk P w K mg base (CX1 P w) (k + 1) f fd ps sp := by
  obtain ⟨oc, od, kV, doc, pm, an, cdv, ct, osl, T, o, n, rfl, lk, hcd, _⟩ := F.ex
  exact fn_of lk hcd S len fun A outer s H vs Q E hr hsp => hbody cdv A outer s H vs Q E hr hsp
theorem DfD.binds {x : Str} {st : Stmt} {f : Addr} {fd : FuncData} {items : Array Value} {ps : List Str} {ds : List Value} (F : DfD K mg x st f fd items)
    (h : ∀ (T : Addr) (kV doc pm : Value) (an : Option Addr) (cdv ct : Value) (us : List Value), (us ++ ds).length = ps.length → ∃ k : Option (Array Value) → Sem (List (Str × Value)),
      bindArgs (PySem.W.fnOf x x (defArgs st) (defBody st) (defScope st) (.ref T) kV doc pm an cdv ct) ⟨us, []⟩ = seqItems? (.ref T) >>= k ∧ k (some items) = pure (ps.zip (us ++ ds))) : Binds K fd ps ds := by
  obtain ⟨oc, od, kV, doc, pm, an, cdv, ct, osl, T, o, n, rfl, lk, hcd, lT, hd⟩ := F.ex
  intro s us X hl
  obtain ⟨k, h1, h2⟩ := h T kV doc pm an cdv ct us hl
  exact BindsTo.of_defaults (T := T) rfl (X _ _ lT) hd h1 h2
noncomputable def goodN (x : V) (least : Int) (most : Option Int) : Bool := match x with
  | .int i => decide (least ≤ i) && (match most with | none => true | some m => decide (i ≤ m))
  | _ => false
noncomputable def mostV : Option Int → V
  | none => .non
  | some m => .int m
noncomputable def spNNum (K : PySem.W.Frag) (C : Addr) : Sp := fun vs H Q E => ∃ (x : V) (l : Int) (m : Option Int), vs = [x, .int l, mostV m] ∧ Known K H x ∧ (goodN x l m = true → Q x H) ∧ (goodN x l m = false → E (.ref C) none H)
theorem dt_ints {K : PySem.W.Frag} {H : Hp} : ∀ (ns : List Int), DtVs K H (ns.map V.int) (ns.map PyData.int)
  | [] => .nil
  | n :: ns => .cons (.int n) (dt_ints ns)
theorem lay_ints : ∀ (ns : List Int), (PyData.list (ns.map PyData.int)).canLay0 = true := by
  intro ns
  induction ns with
  | nil => rfl
  | cons n ns ih => exact ih
theorem Paired.len {α β : Type} {F : α → β → Prop} : ∀ {l : List α} {m : List β}, Paired F l m → l.length = m.length
  | _, _, .nil => rfl
  | _, _, .cons _ t => by simp [Paired.len t]
theorem PS.nox {X : Cx} {st : Stmt} {t : TS} (h : PS X.nox st t) : PS X st t := fun pins s σ H D I hw =>
  wpAny_mono (h pins s σ H D (I.wish _) hw) (fun _ _ q => q.unwish) fun _ _ z => False.elim z
theorem mod_ix {r n : Int} (hn : 0 < n) : ∃ j : Nat, (j : Int) = r % n ∧ (j : Int) < n := by
  have h1 := Int.emod_nonneg r (show n ≠ 0 by omega)
  have h2 := Int.emod_lt_of_pos r hn
  exact ⟨(r % n).toNat, by omega, by omega⟩
noncomputable def tIfJ (c : TT) (t u : TS) : TS := fun D σ H => ∃ J : L2.St → Hp → Prop, (c σ H fun b H1 => if b = true then t { D with nx := J } σ H1 else u { D with nx := J } σ H1) ∧ ∀ σ' H', J σ' H' → D.nx σ' H'
theorem ps_ifJ {X : Cx} {c : Expr} {a b : List Stmt} {tc : TT} {t u : TS} {pos : Pos} (hc : PT X c tc) (ha : PSs X a t) (hb : PSs X b u) : PS X (.If c a b pos) (tIfJ tc t u) := by
  intro pins s σ H D I h
  obtain ⟨J, h1, h2⟩ := h
  refine thn (ps_if hc ha hb pins s σ H { D with nx := J } I h1) fun f s1 q => ?_
  cases f with
  | next => obtain ⟨σ', H', I', q⟩ := q; exact ⟨σ', H', I', h2 _ _ q⟩
  | brk => exact q
  | cont => exact q
  | ret u => exact q
theorem pickV {xs : List V} {n L : Int} (h0 : 0 < xs.length) (hL : L = (xs.length : Nat)) : ∃ v ∈ xs, atI xs (n % L) = some v := by
  obtain ⟨j, hj, hjl⟩ := mod_ix (r := n) (n := L) (by omega)
  have hj' : j < xs.length := by omega
  refine ⟨xs[j], List.getElem_mem hj', ?_⟩
  rw [← hj]
  exact atI_nat (List.getElem?_eq_getElem hj')
theorem ixPick {K : PySem.W.Frag} {H : Hp} {p : Addr} {xs : List V} {n L : Int} {Q : VK} (hp : H p = some (.lst xs)) (h0 : 0 < xs.length) (hL : L = (xs.length : Nat)) (h : ∀ v ∈ xs, Q v H) : rIxL K (.ref p) (.int (n % L)) H Q := by
  obtain ⟨v, hv, e⟩ := pickV (n := n) h0 hL
  exact ⟨p, xs, _, v, rfl, rfl, SqL.of hp, e, h v hv⟩
theorem dec_i {a b : Int} (h : a = b) : decide (V.int a = V.int b) = true := by subst h; exact decide_eq_true rfl
theorem dec_n {a b : Int} (h : a ≠ b) : decide (V.int a = V.int b) = false := decide_eq_false fun z => h (by injection z)
theorem ixPickP {K : PySem.W.Frag} {H : Hp} {p : Addr} {xs : List V} {n L : Int} {Q : VK} (R : V → Hp → Prop) (hp : H p = some (.lst xs)) (h0 : 0 < xs.length) (hL : L = (xs.length : Nat)) (hR : ∀ v ∈ xs, R v H) (h : ∀ v, R v H → Q v H) : rIxL K (.ref p) (.int (n % L)) H Q :=
  ixPick hp h0 hL fun v hv => h v (hR v hv)
theorem eqv_same {d : PyData} (h : d.canLay0 = true) : PyData.eqv d d = true := SeqAt.eqv_refl d h
noncomputable def rIsi (K : PySem.W.Frag) : List V → Hp → VK → Prop := fun xs H Q => ∃ x c t b, xs = [x, c] ∧ TyOf K H x t ∧
    ((∃ n, c = .ty n ∧ PySem.W.kitOne K t (.type n) = some b) ∨ (∃ C, c = .ref C ∧ PySem.W.kitOne K t (.ref C) = some b)) ∧ Q (.bl b) H
theorem call_isiK {X : Cx} {K : PySem.W.Frag} (h : X.K = K) : CallR X (.builtin "isinstance") (rIsi K) := by subst h; exact call_isi
theorem ix_listK {X : Cx} {K : PySem.W.Frag} (h : X.K = K) : IxR X (rIxL K) := by subst h; exact ix_list
theorem comp_itt {K : PySem.W.Frag} {a : Addr} {xs : List V} {g : TG} {tc : TT} {te : TE} {σ0 : L2.St} {H : Hp} {Q : VK} (Pv : Nat → List V → Hp → Prop) (hz : xs.length < sizeLine) (hl : ∀ i ys H, Pv i ys H → SqT K H a xs) (h0 : Pv 0 [] H)
    (hs : ∀ i x ys H (N : List V → Hp → Prop), xs[i]? = some x → Pv i ys H → (∀ ys' H2, Pv (i + 1) ys' H2 → N ys' H2) →
      g x σ0 H fun σ2 H2 => tc σ2 H2 fun b H3 => if b = true then te σ2 H3 fun y H4 => N (ys ++ [y]) H4 else N ys H3)
    (hd : ∀ ys H, Pv xs.length ys H → ys.length ≤ xs.length → ∀ p, H p = none → Q (.ref p) (upd H p (.lst ys))) : CompR (Itt K a) g tc te σ0 Q H := comp_by xs.length Pv hz
  (fun i ys H hi p => ⟨xs, xs[i], hl i ys H p, by simp [hi]⟩) (fun ys H p => ⟨xs, hl _ ys H p, Nat.le_refl _⟩) h0
  (fun i ys H v H' N hi p y hN => by
    obtain ⟨e, y⟩ := y
    subst e
    exact hs i v ys _ N (y xs (hl i ys _ p)) p hN) hd
theorem kit_tt {K : PySem.W.Frag} : PySem.W.kitOne K (.type "tuple") (.type "tuple") = some true := by kernel_rfl
theorem passN {P : Program} {w : World} {X : Cx} : Passes (CX1 P w) X E0 := fun _ _ _ _ _ _ _ h => (CX1.no h).elim
theorem df_mk {x : Str} {st : Stmt} {f : Addr} {oc kV doc pm cd ct : Value} {od an : Option Addr} {sl : Array (Option Value)} (X : K.In h) (G : h.Ns mainGlobals mg) (a : PySem.W.nsIn K mainGlobals x = some (some (.ref f)))
    (l : K.lookup f = some ⟨oc, od, .func (PySem.W.fnOf x x (defArgs st) (defBody st) (defScope st) .none kV doc pm an cd ct), sl⟩) (c : PySem.W.codeIn K cd x = true) (k : PySem.W.keepIn K (.ref f) = true) : ∃ f fd, Df K mg x st f fd :=
  ⟨f, _, fun_mk l c k, PySem.W.mg_of X G a⟩
theorem dfd_mk {x : Str} {st : Stmt} {f T : Addr} {oc kV doc pm cd ct tc : Value} {od an td : Option Addr} {sl tsl : Array (Option Value)} {items : Array Value} {tn : Nat} (X : K.In h) (G : h.Ns mainGlobals mg) (a : PySem.W.nsIn K mainGlobals x = some (some (.ref f)))
    (l : K.lookup f = some ⟨oc, od, .func (PySem.W.fnOf x x (defArgs st) (defBody st) (defScope st) (.ref T) kV doc pm an cd ct), sl⟩) (c : PySem.W.codeIn K cd x = true) (k : PySem.W.keepIn K (.ref f) = true)
    (t : K.lookup T = some ⟨tc, td, .seq items tn, tsl⟩) : ∃ f fd, DfD K mg x st f fd items :=
  ⟨f, _, ⟨oc, od, kV, doc, pm, an, cd, ct, sl, T, _, tn, rfl, l, c, t, rfl⟩, k, PySem.W.mg_of X G a⟩
end
end Gn
set_option Elab.async false
set_option linter.all false
set_option maxRecDepth 100000
set_option maxHeartbeats 4000000
namespace Gn
open PySem PySem.W PySem.Calls PyProof.Rows
end Gn
namespace Gn
open PySem L2 PyProof.Rows PySem.Spec
end Gn
set_option Elab.async false
set_option linter.all false
set_option maxRecDepth 100000
set_option maxHeartbeats 4000000
namespace Gn
open PySem L2 PyProof.Rows PySem.Spec
section
variable {X : Cx}
theorem op_mulB : OpR X (binaryOp .Mult) (rI IntMulOk fun i j => .int (i * j)) := opI fun _ _ _ _ _ _ _ hc q => mul_int q hc
noncomputable def rIsiE (K : PySem.W.Frag) : List V → Hp → VK → Prop := fun xs H Q => ∃ ea D c b, xs = [.ref ea, c] ∧ H ea = some (ExcO ea D) ∧ PySem.W.ExcCls K D ∧
    ((∃ n, c = .ty n ∧ PySem.W.kitOne K (.ref D) (.type n) = some b) ∨ (∃ C, c = .ref C ∧ PySem.W.kitOne K (.ref D) (.ref C) = some b) ∨
      (∃ (p : Addr) (Cs : List Addr), c = .ref p ∧ H p = some (.tup (Cs.map V.ref)) ∧ PySem.W.kitAny K (.ref D) (Cs.map Value.ref) = some b)) ∧ Q (.bl b) H
theorem call_isiEK {X : Cx} {K : PySem.W.Frag} (h : X.K = K) : CallR X (.builtin "isinstance") (rIsiE K) := by subst h; exact call_isiE
end
theorem Paired.tk {α β : Type} {F : α → β → Prop} : ∀ (n : Nat) {l : List α} {m : List β}, Paired F l m → Paired F (l.take n) (m.take n)
  | 0, _, _, _ => .nil
  | _ + 1, _, _, .nil => .nil
  | n + 1, _, _, .cons r t => .cons r (Paired.tk n t)
theorem Paired.dp {α β : Type} {F : α → β → Prop} : ∀ (n : Nat) {l : List α} {m : List β}, Paired F l m → Paired F (l.drop n) (m.drop n)
  | 0, _, _, h => h
  | _ + 1, _, _, .nil => .nil
  | n + 1, _, _, .cons _ t => Paired.dp n t
theorem Paired.at {α β : Type} {F : α → β → Prop} : ∀ {l : List α} {m : List β}, Paired F l m → ∀ {i : Nat} {b : β}, m[i]? = some b → ∃ a, l[i]? = some a ∧ F a b
  | _, _, .nil, i, b, h => by cases i <;> cases h
  | _, _, .cons r t, 0, b, h => by
    have e := Option.some.inj h
    subst e
    exact ⟨_, rfl, r⟩
  | _, _, .cons r t, i + 1, b, h => Paired.at t h
end Gn
set_option linter.all false
namespace K03
noncomputable abbrev Fr := Int × Nat
noncomputable def less (x y : Fr) : Bool := decide (x.1 * y.2 < y.1 * x.2)
noncomputable def mkF (a : Int) (b : Nat) : Fr := (a / (Nat.gcd a.natAbs b : Nat), b / Nat.gcd a.natAbs b)
theorem gcd_pos' {a : Int} {b : Nat} (h : 0 < b) : 0 < Nat.gcd a.natAbs b := Nat.gcd_pos_of_pos_right _ h
theorem mkF_up {a : Int} {b : Nat} (h : 0 < b) : (mkF a b).1 * (Nat.gcd a.natAbs b : Nat) = a := by
  have h1 : ((Nat.gcd a.natAbs b : Nat) : Int) ∣ a := Int.ofNat_dvd_left.mpr (Nat.gcd_dvd_left _ _)
  exact Int.ediv_mul_cancel h1
theorem mkF_dn {a : Int} {b : Nat} : (mkF a b).2 * Nat.gcd a.natAbs b = b := Nat.div_mul_cancel (Nat.gcd_dvd_right _ _)
theorem mkF_pos {a : Int} {b : Nat} (h : 0 < b) : 0 < (mkF a b).2 := by
  have := mkF_dn (a := a) (b := b)
  rcases Nat.eq_zero_or_pos (mkF a b).2 with z | z
  · rw [z, Nat.zero_mul] at this; omega
  · exact z
theorem mkF_le {a : Int} {b : Nat} (h : 0 < b) : (mkF a b).2 ≤ b := Nat.div_le_self _ _
theorem mkF_abs {a : Int} {b : Nat} (h : 0 < b) : (mkF a b).1.natAbs ≤ a.natAbs := by
  have h1 := mkF_up (a := a) h
  have h2 : (mkF a b).1.natAbs * Nat.gcd a.natAbs b = a.natAbs := by
    have := congrArg Int.natAbs h1
    rwa [Int.natAbs_mul, Int.natAbs_natCast] at this
  have h3 := gcd_pos' (a := a) h
  exact Nat.le_of_mul_le_mul_right (by rw [h2]; exact Nat.le_mul_of_pos_right _ h3) h3
theorem mkF_lt {a c : Int} {b d : Nat} (hb : 0 < b) (hd : 0 < d) : less (mkF a b) (mkF c d) = decide (a * d < c * b) := by
  unfold less
  have a1 := mkF_up (a := a) hb
  have a2 := mkF_dn (a := a) (b := b)
  have c1 := mkF_up (a := c) hd
  have c2 := mkF_dn (a := c) (b := d)
  have g1 := gcd_pos' (a := a) hb
  have g2 := gcd_pos' (a := c) hd
  generalize (mkF a b).1 = x at *
  generalize (mkF a b).2 = y at *
  generalize (mkF c d).1 = z at *
  generalize (mkF c d).2 = u at *
  generalize Nat.gcd a.natAbs b = g at *
  generalize Nat.gcd c.natAbs d = k at *
  subst a1 a2 c1 c2
  have e1 : x * (g : Int) * ((u * k : Nat) : Int) = (x * (u : Int)) * ((g : Int) * (k : Int)) := by rw [Int.natCast_mul]; grind
  have e2 : z * (k : Int) * ((y * g : Nat) : Int) = (z * (y : Int)) * ((g : Int) * (k : Int)) := by rw [Int.natCast_mul]; grind
  rw [e1, e2]
  have hp : (0 : Int) < (g : Int) * (k : Int) := Int.mul_pos (by omega) (by omega)
  rw [decide_eq_decide]
  exact (Int.mul_lt_mul_right hp).symm
noncomputable def sumF (x y : Fr) : Fr := mkF (x.1 * y.2 + y.1 * x.2) (x.2 * y.2)
noncomputable def size (W : Nat) (x : Fr) : Int := x.1 * ((W / x.2 : Nat) : Int)
noncomputable def ins (x : Fr) (l : List Fr) (k : Nat) : List Fr := l.take k ++ x :: l.drop k
end K03
set_option linter.all false
namespace WO
open K03 (Fr mkF mkF_up mkF_dn mkF_pos mkF_le mkF_abs mkF_lt gcd_pos' less)
theorem mkF_one {a : Int} {b : Nat} (h : 0 < b) : Nat.gcd (mkF a b).1.natAbs (mkF a b).2 = 1 := by
  have h1 : (mkF a b).1.natAbs = a.natAbs / Nat.gcd a.natAbs b := by
    have e := mkF_up (a := a) h
    have e2 : (mkF a b).1.natAbs * Nat.gcd a.natAbs b = a.natAbs := by
      have := congrArg Int.natAbs e
      rwa [Int.natAbs_mul, Int.natAbs_natCast] at this
    exact (Nat.div_eq_of_eq_mul_left (gcd_pos' h) e2.symm).symm
  rw [h1]
  exact Nat.gcd_div_gcd_div_gcd_of_pos_right h
theorem mkF_cross {a : Int} {b : Nat} (h : 0 < b) : (mkF a b).1 * (b : Int) = a * ((mkF a b).2 : Int) := by
  have h1 := mkF_up (a := a) h
  have h2 : ((mkF a b).2 : Int) * (Nat.gcd a.natAbs b : Int) = (b : Int) := by rw [← Int.natCast_mul, mkF_dn]
  generalize (Nat.gcd a.natAbs b : Nat) = g at *
  generalize (mkF a b).1 = x at *
  generalize (mkF a b).2 = y at *
  rw [← h1, ← h2]
  grind
theorem fr_uniq {x y : Fr} (px : 0 < x.2) (py : 0 < y.2) (gx : Nat.gcd x.1.natAbs x.2 = 1) (gy : Nat.gcd y.1.natAbs y.2 = 1) (e : x.1 * (y.2 : Int) = y.1 * (x.2 : Int)) : x = y := by
  have n : x.1.natAbs * y.2 = y.1.natAbs * x.2 := by
    have := congrArg Int.natAbs e
    rwa [Int.natAbs_mul, Int.natAbs_mul, Int.natAbs_natCast, Int.natAbs_natCast] at this
  have d1 : x.2 ∣ y.2 := by
    have c : Nat.Coprime x.2 x.1.natAbs := by rw [Nat.coprime_comm]; exact gx
    exact c.dvd_of_dvd_mul_left (by rw [n]; exact Nat.dvd_mul_left _ _)
  have d2 : y.2 ∣ x.2 := by
    have c : Nat.Coprime y.2 y.1.natAbs := by rw [Nat.coprime_comm]; exact gy
    exact c.dvd_of_dvd_mul_left (by rw [← n]; exact Nat.dvd_mul_left _ _)
  have e2 : x.2 = y.2 := Nat.dvd_antisymm d1 d2
  have e1 : x.1 = y.1 := by
    rw [e2] at e
    exact Int.eq_of_mul_eq_mul_right (by omega) e
  exact Prod.ext e1 e2
theorem mkF_eq {a c : Int} {b d : Nat} (hb : 0 < b) (hd : 0 < d) (e : a * (d : Int) = c * (b : Int)) : mkF a b = mkF c d := by
  refine fr_uniq (mkF_pos hb) (mkF_pos hd) (mkF_one hb) (mkF_one hd) ?_
  have h1 := mkF_cross (a := a) hb
  have h2 := mkF_cross (a := c) hd
  generalize mkF a b = x at *
  generalize mkF c d = y at *
  have hp : (0 : Int) < (b : Int) * (d : Int) := Int.mul_pos (by omega) (by omega)
  refine Int.eq_of_mul_eq_mul_right (Int.ne_of_gt hp) ?_
  have l : x.1 * (y.2 : Int) * ((b : Int) * (d : Int)) = (x.1 * (b : Int)) * (y.2 : Int) * (d : Int) := by grind
  have r : y.1 * (x.2 : Int) * ((b : Int) * (d : Int)) = (y.1 * (d : Int)) * (x.2 : Int) * (b : Int) := by grind
  rw [l, r, h1, h2]
  have l2 : a * (x.2 : Int) * (y.2 : Int) * (d : Int) = (a * (d : Int)) * ((x.2 : Int) * (y.2 : Int)) := by grind
  have r2 : c * (y.2 : Int) * (x.2 : Int) * (b : Int) = (c * (b : Int)) * ((x.2 : Int) * (y.2 : Int)) := by grind
  rw [l2, r2, e]
noncomputable def sumA (x y : Fr) : Int := x.1 * (y.2 : Int) + y.1 * (x.2 : Int)
noncomputable def sumF (x y : Fr) : Fr := mkF (sumA x y) (x.2 * y.2)
noncomputable def prodF (x y : Fr) : Fr := mkF (x.1 * y.1) (x.2 * y.2)
theorem sum_mk {a c : Int} {b d : Nat} (hb : 0 < b) (hd : 0 < d) : sumF (mkF a b) (mkF c d) = mkF (a * d + c * b) (b * d) := by
  refine mkF_eq (Nat.mul_pos (mkF_pos hb) (mkF_pos hd)) (Nat.mul_pos hb hd) ?_
  have h1 := mkF_cross (a := a) hb
  have h2 := mkF_cross (a := c) hd
  unfold sumA
  generalize mkF a b = x at *
  generalize mkF c d = y at *
  rw [Int.natCast_mul, Int.natCast_mul]
  have l : (x.1 * (y.2 : Int) + y.1 * (x.2 : Int)) * ((b : Int) * (d : Int)) = (x.1 * (b : Int)) * ((y.2 : Int) * (d : Int)) + (y.1 * (d : Int)) * ((x.2 : Int) * (b : Int)) := by grind
  rw [l, h1, h2]
  grind
theorem prod_mk {a c : Int} {b d : Nat} (hb : 0 < b) (hd : 0 < d) : prodF (mkF a b) (mkF c d) = mkF (a * c) (b * d) := by
  refine mkF_eq (Nat.mul_pos (mkF_pos hb) (mkF_pos hd)) (Nat.mul_pos hb hd) ?_
  have h1 := mkF_cross (a := a) hb
  have h2 := mkF_cross (a := c) hd
  generalize mkF a b = x at *
  generalize mkF c d = y at *
  rw [Int.natCast_mul, Int.natCast_mul]
  have l : x.1 * y.1 * ((b : Int) * (d : Int)) = (x.1 * (b : Int)) * (y.1 * (d : Int)) := by grind
  rw [l, h1, h2]
  grind
noncomputable def ush (s m t c : Nat) : Nat × Nat := if c = 0 then (0, 1) else (2 * c * t, (c + 1) * t + s * m)
noncomputable def trm (s m t : Nat) (p : Nat × Nat) : Nat × Nat := ((ush s m t p.1).1 * (m + 1), (ush s m t p.1).2 * (p.2 + 1))
noncomputable def stp (x y : Nat × Nat) : Nat × Nat := (x.1 * y.2 + y.1 * x.2, x.2 * y.2)
noncomputable def usum (l : List (Nat × Nat)) : Nat × Nat := l.foldl stp (0, 1)
theorem usum_app (l : List (Nat × Nat)) (x : Nat × Nat) : usum (l ++ [x]) = stp (usum l) x := by unfold usum; rw [List.foldl_append]; rfl
theorem stp_comm (z x y : Nat × Nat) : stp (stp z x) y = stp (stp z y) x := by
  unfold stp
  refine Prod.ext ?_ ?_
  · show (z.1 * x.2 + x.1 * z.2) * y.2 + y.1 * (z.2 * x.2) = (z.1 * y.2 + y.1 * z.2) * x.2 + x.1 * (z.2 * y.2)
    grind
  · show z.2 * x.2 * y.2 = z.2 * y.2 * x.2
    grind
theorem usum_stp (l : List (Nat × Nat)) : ∀ z x, l.foldl stp (stp z x) = stp (l.foldl stp z) x := by
  induction l with
  | nil => intro z x; rfl
  | cons y l ih => intro z x; show l.foldl stp (stp (stp z x) y) = _; rw [stp_comm, ih]; rfl
theorem usum_rev (l : List (Nat × Nat)) : usum l.reverse = usum l := by
  induction l with
  | nil => rfl
  | cons x l ih =>
    rw [List.reverse_cons, usum_app, ih]
    show _ = l.foldl stp (stp (0, 1) x)
    rw [usum_stp]
    rfl
structure Bd (s m t c : Nat) : Prop where
  lc : c ≤ 1000000001
  ls : s ≤ 1000000001
  lm : m ≤ 1000000001
  lt : t ≤ 2000000001
  z : c ≠ 0 → 0 < s ∧ 0 < m ∧ 0 < t
theorem ush_pos {s m t c : Nat} (h : Bd s m t c) : 0 < (ush s m t c).2 := by
  unfold ush
  split
  · exact Nat.one_pos
  · rename_i hc
    obtain ⟨_, _, h3⟩ := h.z hc
    have := Nat.mul_pos (show 0 < c + 1 by omega) h3
    show 0 < (c + 1) * t + s * m
    omega
theorem ush_le {s m t c : Nat} (h : Bd s m t c) : (ush s m t c).1 ≤ 10 ^ 19 ∧ (ush s m t c).2 ≤ 10 ^ 19 := by
  unfold ush
  split
  · exact ⟨by decide, by decide⟩
  · have h1 := Nat.mul_le_mul (Nat.mul_le_mul (Nat.le_refl 2) h.lc) h.lt
    have h2 := Nat.mul_le_mul (Nat.succ_le_succ h.lc) h.lt
    have h3 := Nat.mul_le_mul h.ls h.lm
    refine ⟨Nat.le_trans h1 (by decide), ?_⟩
    show (c + 1) * t + s * m ≤ _
    have h2' : (c + 1) * t ≤ (1000000001 + 1) * 2000000001 := h2
    omega
theorem trm_pos {s m t : Nat} {p : Nat × Nat} (h : Bd s m t p.1) : 0 < (trm s m t p).2 := Nat.mul_pos (ush_pos h) (Nat.succ_pos _)
theorem trm_le {s m t : Nat} {p : Nat × Nat} (h : Bd s m t p.1) (hf : p.2 ≤ 1000000001) : (trm s m t p).1 ≤ 10 ^ 29 ∧ (trm s m t p).2 ≤ 10 ^ 29 := by
  obtain ⟨h1, h2⟩ := ush_le h
  have hm := h.lm
  constructor
  · exact Nat.le_trans (Nat.mul_le_mul h1 (show m + 1 ≤ 1000000002 by omega)) (by decide)
  · exact Nat.le_trans (Nat.mul_le_mul h2 (show p.2 + 1 ≤ 1000000002 by omega)) (by decide)
noncomputable def Trs (l : List (Nat × Nat)) : Prop := ∀ x ∈ l, 0 < x.2 ∧ x.1 ≤ 10 ^ 29 ∧ x.2 ≤ 10 ^ 29
theorem fold_ok : ∀ (l : List (Nat × Nat)) (z : Nat × Nat) (k : Nat), Trs l → 0 < z.2 → z.1 ≤ 10 ^ (30 * k) → z.2 ≤ 10 ^ (30 * k) → 0 < (l.foldl stp z).2 ∧ (l.foldl stp z).1 ≤ 10 ^ (30 * (k + l.length)) ∧ (l.foldl stp z).2 ≤ 10 ^ (30 * (k + l.length))
  | [], z, k, _, h1, h2, h3 => ⟨h1, h2, h3⟩
  | x :: l, z, k, h, i1, i2, i3 => by
    obtain ⟨x1, x2, x3⟩ := h x List.mem_cons_self
    have e : 10 ^ (30 * (k + 1)) = 10 ^ (30 * k) * 10 ^ 29 * 10 := by
      rw [Nat.mul_assoc, ← Nat.pow_succ, ← Nat.pow_add]
      rfl
    have a1 := Nat.mul_le_mul i2 x3
    have a2 := Nat.mul_le_mul x2 i3
    have a3 := Nat.mul_le_mul i3 x3
    rw [Nat.mul_comm (10 ^ 29)] at a2
    have b1 : (stp z x).1 ≤ 10 ^ (30 * (k + 1)) := by
      rw [e]
      generalize 10 ^ (30 * k) * 10 ^ 29 = W at *
      show z.1 * x.2 + x.1 * z.2 ≤ W * 10
      omega
    have b2 : (stp z x).2 ≤ 10 ^ (30 * (k + 1)) := by
      rw [e]
      generalize 10 ^ (30 * k) * 10 ^ 29 = W at *
      show z.2 * x.2 ≤ W * 10
      omega
    have r := fold_ok l (stp z x) (k + 1) (fun y hy => h y (List.mem_cons_of_mem _ hy)) (Nat.mul_pos i1 x1) b1 b2
    have el : k + (x :: l).length = k + 1 + l.length := by rw [List.length_cons]; omega
    rw [el]
    exact r
theorem usum_ok {l : List (Nat × Nat)} (h : Trs l) : 0 < (usum l).2 ∧ (usum l).1 ≤ 10 ^ (30 * l.length) ∧ (usum l).2 ≤ 10 ^ (30 * l.length) := by
  have := fold_ok l (0, 1) 0 h Nat.one_pos (by decide) (by decide)
  rw [Nat.zero_add] at this
  exact this
noncomputable def nat2 (x : Nat × Nat) : Fr := mkF (x.1 : Int) x.2
theorem nat2_stp {x y : Nat × Nat} (hx : 0 < x.2) (hy : 0 < y.2) : sumF (nat2 x) (nat2 y) = nat2 (stp x y) := by
  unfold nat2
  rw [sum_mk hx hy]
  show mkF _ _ = mkF ((x.1 * y.2 + y.1 * x.2 : Nat) : Int) _
  rw [Int.natCast_add, Int.natCast_mul, Int.natCast_mul]
  rfl
theorem nat2_trm {s m t : Nat} {p : Nat × Nat} (h : Bd s m t p.1) : prodF (nat2 (ush s m t p.1)) (nat2 (m + 1, p.2 + 1)) = nat2 (trm s m t p) := by
  unfold nat2
  rw [prod_mk (ush_pos h) (Nat.succ_pos _)]
  show mkF _ _ = mkF (((ush s m t p.1).1 * (m + 1) : Nat) : Int) _
  rw [Int.natCast_mul]
  rfl
theorem nat2_zero {x : Nat × Nat} {w : Nat} (hx : 0 < x.2) (hw : 0 < w) : nat2 (stp x (0, w)) = nat2 x := by
  refine mkF_eq (Nat.mul_pos hx hw) hx ?_
  show ((x.1 * w + 0 * x.2 : Nat) : Int) * (x.2 : Int) = (x.1 : Int) * ((x.2 * w : Nat) : Int)
  rw [Nat.zero_mul, Nat.add_zero, Int.natCast_mul, Int.natCast_mul]
  grind
theorem nat2_cross (x : Nat × Nat) (h : 0 < x.2) : (nat2 x).1 * (x.2 : Int) = (x.1 : Int) * ((nat2 x).2 : Int) := mkF_cross h
theorem sh_two {s m t c : Nat} (h : Bd s m t c) : (nat2 (ush s m t c)).1 < 2 * ((nat2 (ush s m t c)).2 : Int) := by
  have e := mkF_lt (a := ((ush s m t c).1 : Int)) (c := 2) (d := 1) (ush_pos h) Nat.one_pos
  have e1 : mkF 2 1 = (2, 1) := by decide
  rw [e1] at e
  unfold less at e
  have r : decide (((ush s m t c).1 : Int) * ((1 : Nat) : Int) < 2 * ((ush s m t c).2 : Int)) = true := by
    refine decide_eq_true ?_
    unfold ush
    split
    · decide
    · rename_i hc
      show ((2 * c * t : Nat) : Int) * 1 < 2 * (((c + 1) * t + s * m : Nat) : Int)
      obtain ⟨_, _, h3⟩ := h.z hc
      have e2 : (c + 1) * t = c * t + t := Nat.succ_mul c t
      have e3 : 2 * c * t = 2 * (c * t) := Nat.mul_assoc 2 c t
      rw [e2, e3]
      generalize c * t = u
      generalize s * m = v
      omega
  rw [r] at e
  have := of_decide_eq_true e
  show (mkF ((ush s m t c).1 : Int) (ush s m t c).2).1 < _
  have q : (mkF ((ush s m t c).1 : Int) (ush s m t c).2).1 * ((1 : Nat) : Int) < 2 * ((mkF ((ush s m t c).1 : Int) (ush s m t c).2).2 : Int) := this
  unfold nat2
  omega
theorem lt_of {x y : Nat × Nat} (hx : 0 < x.2) (hy : 0 < y.2) (h : x.1 * y.2 < y.1 * x.2) : (nat2 x).1 * ((nat2 y).2 : Int) < (nat2 y).1 * ((nat2 x).2 : Int) := by
  have e := mkF_lt (a := (x.1 : Int)) (c := (y.1 : Int)) hx hy
  rw [decide_eq_true (by rw [← Int.natCast_mul, ← Int.natCast_mul]; exact Int.ofNat_lt.mpr h)] at e
  exact of_decide_eq_true e
theorem sh_more {s m t c : Nat} (h : Bd s m t c) (h' : Bd s m t (c + 1)) : (nat2 (ush s m t c)).1 * ((nat2 (ush s m t (c + 1))).2 : Int) < (nat2 (ush s m t (c + 1))).1 * ((nat2 (ush s m t c)).2 : Int) := by
  refine lt_of (ush_pos h) (ush_pos h') ?_
  obtain ⟨_, _, h3⟩ := h'.z (Nat.succ_ne_zero c)
  unfold ush
  rw [if_neg (Nat.succ_ne_zero c)]
  split
  · rename_i hc
    subst hc
    show 0 * _ < 2 * (0 + 1) * t * 1
    omega
  · show 2 * c * t * ((c + 1 + 1) * t + s * m) < 2 * (c + 1) * t * ((c + 1) * t + s * m)
    have l : 2 * c * t * ((c + 1 + 1) * t + s * m) + 2 * t * (t + s * m) = 2 * (c + 1) * t * ((c + 1) * t + s * m) := by grind
    have p : 0 < 2 * t * (t + s * m) := Nat.mul_pos (by omega) (by omega)
    omega
theorem sh_less {s m t c : Nat} (h : Bd s m t c) (h' : Bd (s + 1) m t c) (hc : 0 < c) : (nat2 (ush (s + 1) m t c)).1 * ((nat2 (ush s m t c)).2 : Int) < (nat2 (ush s m t c)).1 * ((nat2 (ush (s + 1) m t c)).2 : Int) := by
  refine lt_of (ush_pos h') (ush_pos h) ?_
  obtain ⟨h1, h2, h3⟩ := h.z (by omega)
  unfold ush
  rw [if_neg (by omega), if_neg (by omega)]
  show 2 * c * t * ((c + 1) * t + s * m) < 2 * c * t * ((c + 1) * t + (s + 1) * m)
  refine Nat.mul_lt_mul_of_pos_left ?_ (Nat.mul_pos (by omega) h3)
  have : (s + 1) * m = s * m + m := Nat.succ_mul s m
  omega
end WO
set_option Elab.async false
set_option linter.all false
set_option maxRecDepth 100000
set_option maxHeartbeats 4000000
namespace K19
open PySem L2 PyProof.Rows PySem.Spec Gn WO
open K03 (Fr mkF mkF_up mkF_dn mkF_pos mkF_le mkF_abs mkF_lt gcd_pos' less)
theorem op_fdivB {X : Cx} : OpR X (binaryOp .FloorDiv) (rI (fun _ j => 0 < j ∧ j.natAbs.log2 < 9000) fun i j => .int (i / j)) := opI fun i j _ _ _ _ _ hc q => by
  have h1 : (0 : Int) < j := hc.1
  exact floordiv_int (by omega) (by rw [Int.fdiv_eq_ediv_of_nonneg i (by omega)]; exact q) (.inl (PyProof.noPylong_of_log2 hc.2))
theorem log2_lt {j : Int} {m : Nat} (h : j.natAbs < 2 ^ m) (hm : 0 < m) : j.natAbs.log2 < m := by
  by_cases h0 : j.natAbs = 0
  · rw [h0]; simpa using hm
  · exact (Nat.log2_lt h0).mpr h
noncomputable def top (i : Nat) : Stmt := PySem.Challenge.pw_findhall_k19_shares_and_worths.main.body.getD i (.Pass ⟨0, 0, 0, 0⟩)
noncomputable abbrev sWhole : Stmt := top 5
noncomputable abbrev sNNum : Stmt := top 6
noncomputable abbrev sGcd : Stmt := top 8
noncomputable abbrev sFr : Stmt := top 9
noncomputable abbrev sSum : Stmt := top 10
noncomputable abbrev sProd : Stmt := top 11
noncomputable abbrev sNNs : Stmt := top 13
noncomputable abbrev sShare : Stmt := top 14
noncomputable abbrev sRar : Stmt := top 15
noncomputable abbrev sWorth : Stmt := top 16
noncomputable abbrev lMixed : Stmt := top 18
noncomputable abbrev lNumber : Stmt := top 19
noncomputable abbrev lCommon : Stmt := top 20
noncomputable abbrev lIs : Stmt := top 21
noncomputable abbrev lGreat : Stmt := top 22
noncomputable abbrev lMade : Stmt := top 23
noncomputable abbrev lShare : Stmt := top 24
noncomputable abbrev lSum : Stmt := top 25
noncomputable abbrev lRight : Stmt := top 26
noncomputable abbrev lRef : Stmt := top 27
noncomputable abbrev lNou : Stmt := top 28
noncomputable abbrev lLaw : Stmt := top 29
structure Txt (mg : Str → Option Value) : Prop where
  isi : mg "isinstance" = none
  int : mg "int" = none
  bool : mg "bool" = none
  list : mg "list" = none
  tuple : mg "tuple" = none
  len : mg "len" = none
  all : mg "all" = none
  abs : mg "abs" = none
  range : mg "range" = none
  val : mg "ValueError" = none
  zip : mg "zip" = none
  min : mg "min" = none
noncomputable def nl (ns : List Nat) : List V := ns.map fun (n : Nat) => V.int (n : Int)
theorem nl_app (a b : List Nat) : nl (a ++ b) = nl a ++ nl b := List.map_append
theorem nl_len (a : List Nat) : (nl a).length = a.length := List.length_map ..
theorem b_abs : bootBuiltins "abs" = some (.builtin "abs") := by decide +kernel
noncomputable def Lim : Nat := 2 ^ 1000
theorem lim_log {x : Int} (h : x.natAbs < Lim) : x.natAbs.log2 < 1000 := by
  by_cases h0 : x.natAbs = 0
  · rw [h0]; decide
  · exact (Nat.log2_lt h0).mpr h
theorem lim_bits {x : Int} (h : x.natAbs < Lim) : Builtin.Int.intBits x ≤ 2 ^ 20 := by
  have h1 := lim_log h
  unfold Builtin.Int.intBits
  split
  · exact Nat.zero_le _
  · exact Nat.le_trans (Nat.succ_le_of_lt h1) (by decide)
theorem lim_mul {x y : Int} (hx : x.natAbs < Lim) (hy : y.natAbs < Lim) : IntMulOk x y := IntMulOk.of_bits (lim_bits hx) (lim_bits hy)
theorem ten_lim {n x : Nat} (h : x ≤ 10 ^ n) (hn : n ≤ 300) : x < Lim :=
  Nat.lt_of_le_of_lt (Nat.le_trans h (Nat.pow_le_pow_right (by decide) hn)) (by decide +kernel)
structure Sz (n : Nat) (x : Fr) : Prop where
  p : 0 < x.2
  a : x.1.natAbs ≤ 10 ^ n
  b : x.2 ≤ 10 ^ n
  c : Nat.gcd x.1.natAbs x.2 = 1
theorem sz_mk {n : Nat} {a : Int} {b : Nat} (hb : 0 < b) (h1 : a.natAbs ≤ 10 ^ n) (h2 : b ≤ 10 ^ n) : Sz n (mkF a b) := ⟨mkF_pos hb, Nat.le_trans (mkF_abs hb) h1, Nat.le_trans (mkF_le hb) h2, mkF_one hb⟩
theorem Sz.mono {n m : Nat} {x : Fr} (h : Sz n x) (hm : n ≤ m) : Sz m x := ⟨h.p, Nat.le_trans h.a (Nat.pow_le_pow_right (by decide) hm), Nat.le_trans h.b (Nat.pow_le_pow_right (by decide) hm), h.c⟩
theorem Sz.la {n : Nat} {x : Fr} (h : Sz n x) (hn : n ≤ 300) : x.1.natAbs < Lim := ten_lim h.a hn
theorem Sz.lb {n : Nat} {x : Fr} (h : Sz n x) (hn : n ≤ 300) : ((x.2 : Nat) : Int).natAbs < Lim := by rw [Int.natAbs_natCast]; exact ten_lim h.b hn
theorem mul_le10 {n m a b : Nat} (ha : a ≤ 10 ^ n) (hb : b ≤ 10 ^ m) : a * b ≤ 10 ^ (n + m) := by rw [Nat.pow_add]; exact Nat.mul_le_mul ha hb
section
variable {P : Program} {w : World} {K : PySem.W.Frag} {mg : Str → Option Value} {base : Heap}
noncomputable def spWhole (K : PySem.W.Frag) : Sp := fun vs H Q _ => ∃ x, vs = [x] ∧ Known K H x ∧ Q (.bl (isIntV x && !isBlV x)) H
theorem scWhole : FnScope ["thing"] ["thing"] (defScope sWhole) := ⟨rfl, rfl, rfl, by decide +kernel, rfl, by decide +kernel, by decide +kernel⟩
seal PSs PS PE PT PA PG PI PGs PIfs in
theorem ok_whole {f : Addr} {fd : FuncData} (D : Df K mg "is_whole" sWhole f fd) (T : Txt mg) : FnOk P w K mg base CX0 1 f fd ["thing"] (spWhole K) := by
  refine D.F.ok scWhole (fun vs H Q E h => ?_) (fun cdv A outer s H vs Q E hr h => ?_)
  · obtain ⟨x, rfl, _⟩ := h
    rfl
  · obtain ⟨x, rfl, ⟨n, hty⟩, k⟩ := h
    refine ⟨_, pss_one (ps_ret (pe_and (pe_callB call_isi rfl T.isi b_isi (pa_cons (pv 0) (pa_cons (pe_bltn (v := .ty "int") rfl T.int b_int rfl) pa_nil)))
      (pe_one (pe_not (pe_callB call_isi rfl T.isi b_isi (pa_cons (pv 0) (pa_cons (pe_bltn (v := .ty "bool") rfl T.bool b_bool rfl) pa_nil))))))), ?_⟩
    refine ⟨_, rfl, x, .ty "int", _, _, rfl, hty, .inl ⟨_, rfl, kit_int hty⟩, _, rfl, ?_⟩
    cases hi : isIntV x with
    | false =>
      rw [hi] at k
      exact iteF k
    | true =>
      rw [hi] at k
      refine iteT ?_
      exact ⟨_, rfl, x, .ty "bool", _, _, rfl, hty, .inl ⟨_, rfl, kit_bool hty⟩, _, rfl, k⟩
theorem scNNum : FnScope ["thing", "least", "most"] ["thing", "least", "most"] (defScope sNNum) := ⟨rfl, rfl, rfl, by decide +kernel, rfl, by decide +kernel, by decide +kernel⟩
seal PSs PS PE PT PA PG PI PGs PIfs in
theorem ok_nnum {f fw C : Addr} {fd fdw : FuncData} (D : DfD K mg "need_number" sNNum f fd #[.none]) (DW : Df K mg "is_whole" sWhole fw fdw) (X : Ex K mg "BadNumber" C) (T : Txt mg) : FnOk P w K mg base (CX1 P w) 2 f fd ["thing", "least", "most"] (spNNum K C) := by
  have GW : FnOk P w K mg base CX0 1 fw fdw ["thing"] (spWhole K) := ok_whole DW T
  have bW := binds1 (p := "thing") DW.F fun _ _ _ _ _ _ _ => rfl
  refine D.ok1 scNNum (fun vs H Q E h => ?_) (fun cdv A outer s H vs Q E hr h => ?_)
  · obtain ⟨x, l, m, rfl, _⟩ := h
    rfl
  · obtain ⟨x, l, m, rfl, hk, k1, k2⟩ := h
    refine ⟨_, pss_cons (ps_if (pt_not (pt_val (pe_call GW hr rfl DW.m DW.F.kp bW .nil pass0 (pa_cons (pv 0) pa_nil)))) (pss_one (ps_raise rfl X.q PySem.F.excBase_ValueError (by decide +kernel) PySem.F.excBase_ValueError rfl X.m (pa_cons pe_str pa_nil) raise_out)) pss_nil)
      (pss_cons (ps_if (pt_cmpR op_lt (pv 0) (pv 1) (nomark _)) (pss_one (ps_raise rfl X.q PySem.F.excBase_ValueError (by decide +kernel) PySem.F.excBase_ValueError rfl X.m (pa_cons pe_str pa_nil) raise_out)) pss_nil)
      (pss_cons (ps_if (PW.pt (pw_and (pt_cmp (pc_notN (pv 2))) (pw_and1 (pt_cmpR op_gt (pv 0) (pv 2) (nomark _))))) (pss_one (ps_raise rfl X.q PySem.F.excBase_ValueError (by decide +kernel) PySem.F.excBase_ValueError rfl X.m (pa_cons pe_str pa_nil) raise_out)) pss_nil)
      (pss_one (ps_ret (pv 0))))), ?_⟩
    refine ⟨_, rfl, x, rfl, hk, _, rfl, ?_⟩
    cases hx : isIntV x && !isBlV x with
    | false =>
      refine iteT ⟨by show 1 ≤ sizeLine; decide, k2 ?_⟩
      cases x <;> first | rfl | cases hx
    | true =>
      obtain ⟨i, rfl⟩ : ∃ i, x = .int i := by cases x <;> first | exact ⟨_, rfl⟩ | cases hx
      refine iteF ?_
      refine ⟨_, rfl, _, rfl, _, _, rfl, rfl, _, rfl, ?_⟩
      by_cases hl : i < l
      · rw [decide_eq_true hl]
        refine iteT ⟨by show 1 ≤ sizeLine; decide, k2 ?_⟩
        show (decide (l ≤ i) && _) = false
        rw [decide_eq_false (by omega), Bool.false_and]
      · rw [decide_eq_false hl]
        refine iteF ⟨_, rfl, _, rfl, ?_⟩
        cases m with
        | none =>
          refine iteF (iteF ⟨_, rfl, k1 ?_⟩)
          show (decide (l ≤ i) && true) = true
          rw [decide_eq_true (by omega)]; rfl
        | some m =>
          refine iteT ⟨_, rfl, _, rfl, _, _, rfl, rfl, _, rfl, ?_⟩
          by_cases hm : m < i
          · rw [decide_eq_true hm]
            refine iteT ⟨by show 1 ≤ sizeLine; decide, k2 ?_⟩
            show (decide (l ≤ i) && decide (i ≤ m)) = false
            rw [decide_eq_false (show ¬ i ≤ m by omega), Bool.and_false]
          · rw [decide_eq_false hm]
            refine iteF ⟨_, rfl, k1 ?_⟩
            show (decide (l ≤ i) && decide (i ≤ m)) = true
            rw [decide_eq_true (by omega), decide_eq_true (by omega)]; rfl
noncomputable def spMixed : Sp := fun vs H Q _ => ∃ n k : Int, vs = [.int n, .int k] ∧ 0 ≤ k ∧ k ≤ 1000000 ∧ ∀ r : Int, 0 ≤ r → r < 2147483629 → Q (.int r) H
theorem scMixed : FnScope ["_law_number_here", "_law_k"] ["_law_number_here", "_law_k"] (defScope lMixed) := ⟨rfl, rfl, rfl, by decide +kernel, rfl, by decide +kernel, by decide +kernel⟩
seal PSs PS PE PT PA PG PI PGs PIfs in
theorem ok_mixed {f : Addr} {fd : FuncData} (D : Df K mg "_law_mixed" lMixed f fd) : FnOk P w K mg base CX0 1 f fd ["_law_number_here", "_law_k"] spMixed := by
  refine D.F.ok scMixed (fun vs H Q E h => ?_) (fun cdv A outer s H vs Q E hr h => ?_)
  · obtain ⟨n, k, rfl, _⟩ := h
    rfl
  · obtain ⟨n, k, rfl, h0, h1, kk⟩ := h
    refine ⟨_, pss_cons (ps_set (i := 0) scMixed.nd rfl (Or.inl rfl) (pe_op op_mod (pe_op op_mul (pe_op op_add (pe_op op_add (pe_op op_mod (pv 0) pe_int) (pe_op op_mul (pe_op op_mul pe_int (pv 1)) (pv 1))) (pe_op op_mul pe_int (pv 1))) pe_int) pe_int))
      (pss_one (ps_ret (pe_op op_mod (pe_op op_mul (pv 0) (pe_op op_add pe_int (pe_op op_mul pe_int (pv 1)))) pe_int))), ?_⟩
    refine ⟨_, rfl, _, _, rfl, rfl, (by show (0 : Int) < 2147483647; decide), _, rfl, _, _, rfl, rfl, .inl ⟨by decide, by decide⟩, _, rfl, _, _, rfl, rfl, .inr ⟨by omega, by omega⟩, _, _, rfl, rfl, _, rfl, _, _, rfl, rfl, .inl ⟨by decide, by decide⟩, _, _, rfl, rfl,
      _, _, rfl, rfl, .inr ⟨by decide, by decide⟩, _, _, rfl, rfl, (by show (0 : Int) < 2147483647; decide), ?_⟩
    have b1 := Int.emod_nonneg ((n % 2147483647 + 7919 * k * k + 31 * k) * 48271) (show (2147483647 : Int) ≠ 0 by decide)
    have b2 := Int.emod_lt_of_pos ((n % 2147483647 + 7919 * k * k + 31 * k) * 48271) (show (0 : Int) < 2147483647 by decide)
    refine ⟨_, rfl, _, rfl, _, _, rfl, rfl, .inl ⟨by decide, by decide⟩, _, _, rfl, rfl, _, _, rfl, rfl, .inl ⟨by omega, by omega⟩, _, _, rfl, rfl, (by show (0 : Int) < 2147483629; decide), ?_⟩
    exact kk _ (Int.emod_nonneg _ (by decide)) (Int.emod_lt_of_pos _ (by decide))
noncomputable def spNumber (K : PySem.W.Frag) : Sp := fun vs H Q _ => ∃ (a : Addr) (ns : List Int) (k : Nat), vs = [.ref a, .int k] ∧ SqL K H a (ns.map V.int) ∧ ns.length ≤ 63 ∧ k ≤ 1000 ∧ ∀ (r : Int) H', 0 ≤ r → r < 2147483629 → Same H H' → Q (.int r) H'
theorem scNumber : FnScope ["_law_script", "_law_k"] ["_law_script", "_law_k"] (defScope lNumber) := ⟨rfl, rfl, rfl, by decide +kernel, rfl, by decide +kernel, by decide +kernel⟩
seal PSs PS PE PT PA PG PI PGs PIfs in
theorem ok_number {f fm : Addr} {fd fdm : FuncData} (D : Df K mg "_law_number" lNumber f fd) (DM : Df K mg "_law_mixed" lMixed fm fdm) (T : Txt mg) : FnOk P w K mg base CX0 2 f fd ["_law_script", "_law_k"] (spNumber K) := by
  have GM : FnOk P w K mg base CX0 1 fm fdm ["_law_number_here", "_law_k"] spMixed := ok_mixed DM
  have bM := DM.F.binds (ps := ["_law_number_here", "_law_k"]) fun _ _ _ _ _ _ us hl => match us, hl with | [_, _], _ => rfl
  refine D.F.ok scNumber (fun vs H Q E h => ?_) (fun cdv A outer s H vs Q E hr h => ?_)
  · obtain ⟨a, ns, k, rfl, _⟩ := h
    rfl
  · obtain ⟨a, ns, k, rfl, hS, hl, hk, kk⟩ := h
    refine ⟨_, pss_cons (ps_if (pt_cmpR (op_eqD hr.units100) (pv 0) (pe_lst pa_nil) (nomark _)) (pss_one (ps_ret (pe_call GM hr rfl DM.m DM.F.kp bM .nil pass0 (pa_cons pe_int (pa_cons (pv 1) pa_nil))))) pss_nil)
      (pss_one (ps_ret (pe_call GM hr rfl DM.m DM.F.kp bM .nil pass0 (pa_cons (pe_ix ix_list (pv 0) (pe_op op_mod (pv 1) (pe_callB call_len_seq rfl T.len b_len (pa_cons (pv 0) pa_nil))) (fun _ _ => rfl)) (pa_cons (pv 1) pa_nil))))), ?_⟩
    refine ⟨_, rfl, Nat.zero_le _, fun p hp => ?_⟩
    have sm : Same H (upd H p (.lst [])) := same_upd hp
    refine ⟨.list (ns.map .int), .list [], .lst (sm.seq hS) (dt_ints ns), .lst (SqL.of upd_same) .nil, lay_ints ns, rfl, Nat.le_trans (Nat.min_le_right _ _) (by decide), _, rfl, ?_⟩
    cases ns with
    | nil =>
      refine iteT ?_
      exact ⟨_, rfl, 17, k, rfl, by omega, by omega, fun r r0 r1 => kk r _ r0 r1 sm⟩
    | cons n ns =>
      refine iteF ?_
      have hn : (0 : Int) < (((n :: ns).map V.int).length : Nat) := by simp
      refine ⟨_, rfl, _, rfl, _, rfl, _, _, rfl, .inl (sm.seq hS), _, _, rfl, rfl, hn, ?_⟩
      have hlt : k % (n :: ns).length < (n :: ns).length := Nat.mod_lt _ (by simp)
      have ei : ((k : Nat) : Int) % ((((n :: ns).map V.int).length : Nat) : Int) = ((k % (n :: ns).length : Nat) : Int) := by rw [List.length_map]; omega
      refine ⟨a, _, _, .int ((n :: ns)[k % (n :: ns).length]), rfl, rfl, sm.seq hS, ?_, _, rfl, _, k, rfl, by omega, by omega, fun r r0 r1 => kk r _ r0 r1 sm⟩
      rw [ei]
      exact atI_nat (by rw [List.getElem?_map, List.getElem?_eq_getElem hlt]; rfl)
noncomputable def spGcd : Sp := fun vs H Q _ => ∃ a b : Nat, vs = [.int a, .int b] ∧ Q (.int (Nat.gcd a b : Nat)) H
theorem scGcd : FnScope ["one", "other", "rest"] ["one", "other"] (defScope sGcd) := ⟨rfl, rfl, rfl, by decide +kernel, rfl, by decide +kernel, by decide +kernel⟩
seal PSs PS PE PT PA PG PI PGs PIfs in
theorem ok_gcd {f : Addr} {fd : FuncData} (D : Df K mg "common_divisor" sGcd f fd) : FnOk P w K mg base CX0 1 f fd ["one", "other"] spGcd := by
  refine D.F.ok scGcd (fun vs H Q E h => ?_) (fun cdv A outer s H vs Q E hr h => ?_)
  · obtain ⟨a, b, rfl, _⟩ := h
    rfl
  · obtain ⟨a, b, rfl, k⟩ := h
    refine ⟨_, pss_cons (ps_while PassesOwn.never (pt_cmpR op_gt (pv 1) pe_int (nomark _))
        (pss_cons (ps_set (i := 2) scGcd.nd rfl (Or.inl rfl) (pe_op op_mod (pv 0) (pv 1)))
        (pss_cons (ps_set (i := 0) scGcd.nd rfl (Or.inl rfl) (pv 1))
        (pss_one (ps_set (i := 1) scGcd.nd rfl (Or.inl rfl) (pv 2))))))
      (pss_one (ps_ret (pv 0))), ?_⟩
    refine while_by (fun σ H' => ∃ (x y : Nat) (o : Option V), σ = [some (.int x), some (.int y), o] ∧ H' = H ∧ Nat.gcd x y = Nat.gcd a b) (fun σ _ => match σ with | [_, some (.int r), _] => r.toNat | _ => 0) ⟨a, b, none, rfl, rfl, rfl⟩ ?_ ?_
    · rintro σ H' ⟨x, y, o, rfl, rfl, he⟩
      refine ⟨_, rfl, _, _, rfl, rfl, _, rfl, ?_⟩
      by_cases hy : (0 : Int) < y
      · rw [decide_eq_true hy]
        refine iteT ?_
        refine ⟨_, rfl, _, rfl, _, _, rfl, rfl, hy, _, rfl, _, rfl, ?_⟩
        have e : ((x : Int) % (y : Int)) = ((x % y : Nat) : Int) := by omega
        refine ⟨⟨y, x % y, some (.int (x % y : Nat)), ?_, rfl, ?_⟩, ?_⟩
        · simp only [List.set]
          rw [e]
        · rw [← he, Nat.gcd_comm x y, Nat.gcd_rec y x, Nat.gcd_comm]
        · show ((x : Int) % (y : Int)).toNat < (y : Int).toNat
          rw [e]
          have := Nat.mod_lt x (show 0 < y by omega)
          omega
      · rw [decide_eq_false hy]
        refine iteF ⟨_, rfl, ?_⟩
        have : y = 0 := by omega
        subst this
        rw [← he, Nat.gcd_zero_right] at k
        exact k
    · intro σ H' Q1 Q2 hq h
      obtain ⟨x, h1, i, j, e1, e2, h2⟩ := h
      exact ⟨x, h1, i, j, e1, e2, let ⟨b, e, z⟩ := h2; ⟨b, e, hq _ _ z⟩⟩
noncomputable abbrev FrA (H : Hp) (p : Addr) (x : Fr) : Prop := H p = some (.tup [.int x.1, .int (x.2 : Nat)])
noncomputable def spFr (K : PySem.W.Frag) (C : Addr) : Sp := fun vs H Q E => ∃ x y : V, vs = [x, y] ∧ Known K H x ∧ Known K H y ∧
  ((∃ (a : Int) (b : Nat), x = .int a ∧ y = .int b ∧ 0 < b ∧ b < Lim ∧ ∀ p H', Same H H' → H p = none → FrA H' p (mkF a b) → Q (.ref p) H') ∨
   (((isIntV x && !isBlV x) = false ∨ goodN y 1 none = false) ∧ ∀ H', Same H H' → E (.ref C) none H'))
theorem scFr : FnScope ["above", "below", "divisor"] ["above", "below"] (defScope sFr) := ⟨rfl, rfl, rfl, by decide +kernel, rfl, by decide +kernel, by decide +kernel⟩
seal PSs PS PE PT PA PG PI PGs PIfs in
theorem ok_fr {f fw fn fg C : Addr} {fd fdw fdn fdg : FuncData} {tk : Tok} (D : DfD K mg "fraction" sFr f fd #[.int 1 tk]) (X : Ex K mg "BadNumber" C) (DW : Df K mg "is_whole" sWhole fw fdw) (DN : DfD K mg "need_number" sNNum fn fdn #[.none]) (GN : FnOk P w K mg base (CX1 P w) 2 fn fdn ["thing", "least", "most"] (spNNum K C))
    (DG : Df K mg "common_divisor" sGcd fg fdg) (GG : FnOk P w K mg base CX0 1 fg fdg ["one", "other"] spGcd) (T : Txt mg) : FnOk P w K mg base (CX1 P w) 3 f fd ["above", "below"] (spFr K C) := by
  have GW : FnOk P w K mg base CX0 1 fw fdw ["thing"] (spWhole K) := ok_whole DW T
  have bW := binds1 (p := "thing") DW.F fun _ _ _ _ _ _ _ => rfl
  have bN2 := DN.binds (ps := ["thing", "least", "most"]) (ds := [.none]) fun T kV doc pm an cdv ct us hl => match us, (show us.length = 2 by simpa using hl) with | [_, _], _ => ⟨_, rfl, rfl⟩
  have bG := DG.F.binds (ps := ["one", "other"]) fun _ _ _ _ _ _ us hl => match us, hl with | [_, _], _ => rfl
  refine D.ok1 scFr (fun vs H Q E h => ?_) (fun cdv A outer s H vs Q E hr h => ?_)
  · obtain ⟨x, y, rfl, _⟩ := h
    rfl
  · obtain ⟨x, y, rfl, kx, ky, h⟩ := h
    refine ⟨_, pss_cons (ps_if (pt_not (pt_val (pe_call (GW.mono (by decide)) hr rfl DW.m DW.F.kp bW .nil pass0 (pa_cons (pv 0) pa_nil)))) (pss_one (ps_raise rfl X.q PySem.F.excBase_ValueError (by decide +kernel) PySem.F.excBase_ValueError rfl X.m (pa_cons pe_str pa_nil) raise_out)) pss_nil)
      (pss_cons (ps_expr (pe_call GN hr rfl DN.m DN.kp bN2 (dvs := [.non]) (.cons rfl .nil) (pass_out (E' := E) fun _ _ _ h => h) (pa_cons (pv 1) (pa_cons pe_int pa_nil))))
      (pss_cons (ps_set (i := 2) scFr.nd rfl (Or.inl rfl) (pe_call (GG.mono (by decide)) hr rfl DG.m DG.F.kp bG .nil pass0 (pa_cons (pe_callB call_abs rfl T.abs b_abs (pa_cons (pv 0) pa_nil)) (pa_cons (pv 1) pa_nil))))
      (pss_one (ps_ret (pe_tup (pa_cons (pe_op op_fdivB (pv 0) (pv 2)) (pa_cons (pe_op op_fdivB (pv 1) (pv 2)) pa_nil))))))), ?_⟩
    refine ⟨_, rfl, x, rfl, kx, _, rfl, ?_⟩
    rcases h with ⟨a, b, rfl, rfl, hb, hb2, k⟩ | ⟨hbad, k⟩
    · refine iteF ?_
      refine ⟨_, rfl, .int b, 1, none, rfl, ky, fun _ => ?_, fun hg => ?_⟩
      · have ea : (if a < 0 then -a else a) = ((a.natAbs : Nat) : Int) := by split <;> omega
        refine ⟨_, rfl, a, rfl, _, rfl, a.natAbs, b, (by show [V.int (if a < 0 then -a else a), V.int b] = _; rw [ea]), ?_⟩
        have g0 := gcd_pos' (a := a) hb
        have gle : Nat.gcd a.natAbs b ≤ b := Nat.gcd_le_right _ hb
        have c : (0 : Int) < ((Nat.gcd a.natAbs b : Nat) : Int) ∧ ((Nat.gcd a.natAbs b : Nat) : Int).natAbs.log2 < 9000 := ⟨by omega, Nat.lt_trans (lim_log (by rw [Int.natAbs_natCast]; exact Nat.lt_of_le_of_lt gle hb2)) (by decide)⟩
        refine ⟨_, rfl, _, rfl, _, _, rfl, rfl, c, _, rfl, _, rfl, _, _, rfl, rfl, c, (by show 2 ≤ sizeLine; decide), fun p hp => k p _ (same_upd hp) hp ?_⟩
        rw [FrA, upd_same]
        show some (HO.tup [.int (a / (Nat.gcd a.natAbs b : Nat)), .int ((b : Int) / (Nat.gcd a.natAbs b : Nat))]) = some (HO.tup [.int (a / (Nat.gcd a.natAbs b : Nat)), .int ((b / Nat.gcd a.natAbs b : Nat) : Int)])
        rw [Int.natCast_ediv]
      · have : (decide ((1 : Int) ≤ (b : Int)) && true) = false := hg
        rw [decide_eq_true (by omega)] at this
        cases this
    · cases hx : isIntV x && !isBlV x with
      | false => exact iteT ⟨by show 1 ≤ sizeLine; decide, k H (Same.refl H)⟩
      | true =>
        refine iteF ?_
        have hy : goodN y 1 none = false := by
          rcases hbad with z | z
          · rw [hx] at z; cases z
          · exact z
        refine ⟨_, rfl, y, 1, none, rfl, ky, (fun hg => ?_), fun _ => k H (Same.refl H)⟩
        rw [hy] at hg
        cases hg
noncomputable def spTwo (g : Fr → Fr → Fr) : Sp := fun vs H Q _ => ∃ (p q : Addr) (x y : Fr) (n : Nat), vs = [.ref p, .ref q] ∧ FrA H p x ∧ FrA H q y ∧ Sz n x ∧ Sz 30 y ∧ n ≤ 240 ∧ ∀ r H', Same H H' → H r = none → FrA H' r (g x y) → Q (.ref r) H'
theorem scSum : FnScope ["one", "other"] ["one", "other"] (defScope sSum) := ⟨rfl, rfl, rfl, by decide +kernel, rfl, by decide +kernel, by decide +kernel⟩
theorem scProd : FnScope ["one", "other"] ["one", "other"] (defScope sProd) := ⟨rfl, rfl, rfl, by decide +kernel, rfl, by decide +kernel, by decide +kernel⟩
theorem below_lim {n : Nat} {x y : Fr} (hx : Sz n x) (hy : Sz 30 y) (hn : n ≤ 240) : x.2 * y.2 < Lim := ten_lim (mul_le10 hx.b hy.b) (by omega)
seal PSs PS PE PT PA PG PI PGs PIfs in
theorem ok_sum {f ff C : Addr} {fd fdf : FuncData} {tk : Tok} (D : Df K mg "sum_of" sSum f fd) (DF : DfD K mg "fraction" sFr ff fdf #[.int 1 tk]) (GF : FnOk P w K mg base (CX1 P w) 3 ff fdf ["above", "below"] (spFr K C)) : FnOk P w K mg base CX0 4 f fd ["one", "other"] (spTwo sumF) := by
  have bF := DF.binds (ps := ["above", "below"]) (ds := []) fun T kV doc pm an cdv ct us hl => match us, (show us.length = 2 by simpa using hl) with | [_, _], _ => ⟨_, rfl, rfl⟩
  refine D.F.ok scSum (fun vs H Q E h => ?_) (fun cdv A outer s H vs Q E hr h => ?_)
  · obtain ⟨p, q, x, y, n, rfl, _⟩ := h
    rfl
  · obtain ⟨p, q, x, y, n, rfl, hp, hq, sx, sy, hn, k⟩ := h
    have x1 := sx.la (by omega)
    have x2 := sx.lb (by omega)
    have y1 := sy.la (by decide)
    have y2 := sy.lb (by decide)
    refine ⟨_, pss_one (ps_ret (pe_call GF hr rfl DF.m DF.kp bF .nil passN (pa_cons (pe_op op_add (pe_op op_mulB (pe_ix ix_tup (pv 0) pe_int (fun _ _ => rfl)) (pe_ix ix_tup (pv 1) pe_int (fun _ _ => rfl))) (pe_op op_mulB (pe_ix ix_tup (pv 1) pe_int (fun _ _ => rfl)) (pe_ix ix_tup (pv 0) pe_int (fun _ _ => rfl))))
      (pa_cons (pe_op op_mulB (pe_ix ix_tup (pv 0) pe_int (fun _ _ => rfl)) (pe_ix ix_tup (pv 1) pe_int (fun _ _ => rfl))) pa_nil)))), ?_⟩
    refine ⟨_, rfl, p, _, _, _, rfl, rfl, SqT.of hp, atI_nat (j := 0) rfl, _, rfl, q, _, _, _, rfl, rfl, SqT.of hq, atI_nat (j := 1) rfl, _, _, rfl, rfl, lim_mul x1 y2, ?_⟩
    refine ⟨_, rfl, q, _, _, _, rfl, rfl, SqT.of hq, atI_nat (j := 0) rfl, _, rfl, p, _, _, _, rfl, rfl, SqT.of hp, atI_nat (j := 1) rfl, _, _, rfl, rfl, lim_mul y1 x2, _, _, rfl, rfl, ?_⟩
    refine ⟨_, rfl, p, _, _, _, rfl, rfl, SqT.of hp, atI_nat (j := 1) rfl, _, rfl, q, _, _, _, rfl, rfl, SqT.of hq, atI_nat (j := 1) rfl, _, _, rfl, rfl, lim_mul x2 y2, ?_⟩
    have e : ((x.2 : Nat) : Int) * ((y.2 : Nat) : Int) = ((x.2 * y.2 : Nat) : Int) := (Int.natCast_mul _ _).symm
    refine ⟨_, _, rfl, ⟨_, .int _⟩, ⟨_, .int _⟩, .inl ⟨sumA x y, x.2 * y.2, rfl, congrArg V.int e, Nat.mul_pos sx.p sy.p, below_lim sx sy hn, k⟩⟩
seal PSs PS PE PT PA PG PI PGs PIfs in
theorem ok_prod {f ff C : Addr} {fd fdf : FuncData} {tk : Tok} (D : Df K mg "product_of" sProd f fd) (DF : DfD K mg "fraction" sFr ff fdf #[.int 1 tk]) (GF : FnOk P w K mg base (CX1 P w) 3 ff fdf ["above", "below"] (spFr K C)) : FnOk P w K mg base CX0 4 f fd ["one", "other"] (spTwo prodF) := by
  have bF := DF.binds (ps := ["above", "below"]) (ds := []) fun T kV doc pm an cdv ct us hl => match us, (show us.length = 2 by simpa using hl) with | [_, _], _ => ⟨_, rfl, rfl⟩
  refine D.F.ok scProd (fun vs H Q E h => ?_) (fun cdv A outer s H vs Q E hr h => ?_)
  · obtain ⟨p, q, x, y, n, rfl, _⟩ := h
    rfl
  · obtain ⟨p, q, x, y, n, rfl, hp, hq, sx, sy, hn, k⟩ := h
    refine ⟨_, pss_one (ps_ret (pe_call GF hr rfl DF.m DF.kp bF .nil passN (pa_cons (pe_op op_mulB (pe_ix ix_tup (pv 0) pe_int (fun _ _ => rfl)) (pe_ix ix_tup (pv 1) pe_int (fun _ _ => rfl)))
      (pa_cons (pe_op op_mulB (pe_ix ix_tup (pv 0) pe_int (fun _ _ => rfl)) (pe_ix ix_tup (pv 1) pe_int (fun _ _ => rfl))) pa_nil)))), ?_⟩
    refine ⟨_, rfl, p, _, _, _, rfl, rfl, SqT.of hp, atI_nat (j := 0) rfl, _, rfl, q, _, _, _, rfl, rfl, SqT.of hq, atI_nat (j := 0) rfl, _, _, rfl, rfl, lim_mul (sx.la (by omega)) (sy.la (by decide)), ?_⟩
    refine ⟨_, rfl, p, _, _, _, rfl, rfl, SqT.of hp, atI_nat (j := 1) rfl, _, rfl, q, _, _, _, rfl, rfl, SqT.of hq, atI_nat (j := 1) rfl, _, _, rfl, rfl, lim_mul (sx.lb (by omega)) (sy.lb (by decide)), ?_⟩
    have e : ((x.2 : Nat) : Int) * ((y.2 : Nat) : Int) = ((x.2 * y.2 : Nat) : Int) := (Int.natCast_mul _ _).symm
    exact ⟨_, _, rfl, ⟨_, .int _⟩, ⟨_, .int _⟩, .inl ⟨x.1 * y.1, x.2 * y.2, rfl, congrArg V.int e, Nat.mul_pos sx.p sy.p, below_lim sx sy hn, k⟩⟩
noncomputable def spNNs (K : PySem.W.Frag) (C : Addr) : Sp := fun vs H Q E => ∃ (a : Addr) (xs : List V), vs = [.ref a] ∧ H a = some (.lst xs) ∧ (∀ x ∈ xs, Known K H x) ∧ ((∀ x ∈ xs, goodN x 0 none = true) → Q .non H) ∧ ((∃ x ∈ xs, goodN x 0 none = false) → E (.ref C) none H)
theorem scNNs : FnScope ["numbers", "number"] ["numbers"] (defScope sNNs) := ⟨rfl, rfl, rfl, by decide +kernel, rfl, by decide +kernel, by decide +kernel⟩
seal PSs PS PE PT PA PG PI PGs PIfs in
theorem ok_nns {f fn C : Addr} {fd fdn : FuncData} (D : Df K mg "need_numbers" sNNs f fd) (DN : DfD K mg "need_number" sNNum fn fdn #[.none]) (GN : FnOk P w K mg base (CX1 P w) 2 fn fdn ["thing", "least", "most"] (spNNum K C)) : FnOk P w K mg base (CX1 P w) 3 f fd ["numbers"] (spNNs K C) := by
  have bN2 := DN.binds (ps := ["thing", "least", "most"]) (ds := [.none]) fun T kV doc pm an cdv ct us hl => match us, (show us.length = 2 by simpa using hl) with | [_, _], _ => ⟨_, rfl, rfl⟩
  refine D.F.ok1 scNNs (fun vs H Q E h => ?_) (fun cdv A outer s H vs Q E hr h => ?_)
  · obtain ⟨a, xs, rfl, _⟩ := h
    rfl
  · obtain ⟨a, xs, rfl, hA, hK, k1, k2⟩ := h
    refine ⟨_, (pss_one (ps_for PassesOwn.leaving rfl (pi_list (pv 0)) (pg_name (i := 1) scNNs.nd rfl (Or.inl rfl)) (pss_one (ps_expr (pe_call GN hr rfl DN.m DN.kp bN2 (dvs := [.non]) (.cons rfl .nil) (pass_out (E' := E) fun _ _ _ h => h) (pa_cons (pv 1) (pa_cons pe_int pa_nil))))))), ?_⟩
    refine ⟨_, rfl, a, rfl, ⟨_, SqL.of hA⟩, ?_⟩
    refine for_list (xs := xs) (fun i σ H' => H' = H ∧ (∃ o, σ = [some (.ref a), o]) ∧ ∀ x ∈ xs.take i, goodN x 0 none = true) ⟨rfl, ⟨none, rfl⟩, fun x hx => nomatch hx⟩ (fun i σ H' _ q => by rw [q.1]; exact SqL.of hA) ?_ ?_
    · rintro i x σ H' hxi ⟨rfl, ⟨o, rfl⟩, hg⟩
      have hm := List.mem_of_getElem? hxi
      refine ⟨_, rfl, x, 0, none, rfl, hK x hm, fun h1 => ⟨rfl, ⟨_, rfl⟩, fun y hy => ?_⟩, fun h1 => k2 ⟨x, hm, h1⟩⟩
      rw [List.take_add_one, hxi] at hy
      rcases List.mem_append.mp hy with q | q
      · exact hg y q
      · have e : y = x := List.mem_singleton.mp q
        rw [e]; exact h1
    · rintro σ H' ⟨rfl, _, hg⟩
      rw [List.take_of_length_le (Nat.le_refl _)] at hg
      exact k1 hg
theorem good_n {n : Nat} : goodN (.int (n : Int)) 0 none = true := by
  show (decide ((0 : Int) ≤ (n : Int)) && true) = true
  rw [decide_eq_true (by omega)]; rfl
noncomputable def spShare (K : PySem.W.Frag) (C : Addr) : Sp := fun vs H Q E => ∃ x0 x1 x2 x3 : V, vs = [x0, x1, x2, x3] ∧ (∀ x ∈ [x0, x1, x2, x3], Known K H x) ∧
  ((∃ c s m t : Nat, x0 = .int c ∧ x1 = .int s ∧ x2 = .int m ∧ x3 = .int t ∧ Bd s m t c ∧ ∀ p H', Same H H' → H p = none → FrA H' p (nat2 (ush s m t c)) → Q (.ref p) H') ∨
   ((∃ x ∈ [x0, x1, x2, x3], goodN x 0 none = false) ∧ ∀ H', Same H H' → E (.ref C) none H'))
theorem all4n {c s m t : Nat} : ∀ x ∈ [V.int (c : Int), .int (s : Int), .int (m : Int), .int (t : Int)], goodN x 0 none = true :=
  List.forall_mem_cons.mpr ⟨good_n, List.forall_mem_cons.mpr ⟨good_n, List.forall_mem_cons.mpr ⟨good_n, List.forall_mem_cons.mpr ⟨good_n, fun v hv => nomatch hv⟩⟩⟩⟩
theorem no_bad {xs : List V} (h : ∀ x ∈ xs, goodN x 0 none = true) (z : ∃ x ∈ xs, goodN x 0 none = false) : False := by
  obtain ⟨x, hx, e⟩ := z
  rw [h x hx] at e
  cases e
theorem no_good {xs : List V} (z : ∃ x ∈ xs, goodN x 0 none = false) (h : ∀ x ∈ xs, goodN x 0 none = true) : False := no_bad h z
theorem scShare : FnScope ["count", "size", "many", "total"] ["count", "size", "many", "total"] (defScope sShare) := ⟨rfl, rfl, rfl, by decide +kernel, rfl, by decide +kernel, by decide +kernel⟩
seal PSs PS PE PT PA PG PI PGs PIfs in
theorem ok_share {f ff fs_ C : Addr} {fd fdf fds : FuncData} {tk : Tok} (D : Df K mg "share_of" sShare f fd) (DF : DfD K mg "fraction" sFr ff fdf #[.int 1 tk]) (GF : FnOk P w K mg base (CX1 P w) 3 ff fdf ["above", "below"] (spFr K C)) (DS : Df K mg "need_numbers" sNNs fs_ fds) (GS : FnOk P w K mg base (CX1 P w) 3 fs_ fds ["numbers"] (spNNs K C)) : FnOk P w K mg base (CX1 P w) 4 f fd ["count", "size", "many", "total"] (spShare K C) := by
  have bF := DF.binds (ps := ["above", "below"]) (ds := []) fun T kV doc pm an cdv ct us hl => match us, (show us.length = 2 by simpa using hl) with | [_, _], _ => ⟨_, rfl, rfl⟩
  have bF1 := DF.binds (ps := ["above", "below"]) (ds := [.int 1 tk]) fun T kV doc pm an cdv ct us hl => match us, (show us.length = 1 by simpa using hl) with | [_], _ => ⟨_, rfl, rfl⟩
  have bS := binds1 (p := "numbers") DS.F fun _ _ _ _ _ _ _ => rfl
  refine D.F.ok1 scShare (fun vs H Q E h => ?_) (fun cdv A outer s H vs Q E hr h => ?_)
  · obtain ⟨x0, x1, x2, x3, rfl, _⟩ := h
    rfl
  · obtain ⟨x0, x1, x2, x3, rfl, hK, h⟩ := h
    refine ⟨_, (pss_cons (ps_expr (pe_call GS hr rfl DS.m DS.F.kp bS .nil (pass_out (E' := E) fun _ _ _ h => h) (pa_cons (pe_lst (pa_cons (pv 0) (pa_cons (pv 1) (pa_cons (pv 2) (pa_cons (pv 3) pa_nil))))) pa_nil)))
      (pss_cons (ps_if (pt_cmpR op_eq (pv 0) pe_int (nomark _)) (pss_one (ps_ret (pe_call (GF.mono (by decide)) hr rfl DF.m DF.kp bF1 (dvs := [.int 1]) (.cons ⟨tk, rfl⟩ .nil) passN (pa_cons pe_int pa_nil)))) pss_nil)
      (pss_one (ps_ret (pe_call (GF.mono (by decide)) hr rfl DF.m DF.kp bF .nil passN (pa_cons (pe_op op_mul (pe_op op_mul pe_int (pv 0)) (pv 3)) (pa_cons (pe_op op_add (pe_op op_mul (pe_op op_add (pv 0) pe_int) (pv 3)) (pe_op op_mul (pv 1) (pv 2))) pa_nil))))))), ?_⟩
    refine ⟨_, rfl, _, rfl, _, rfl, _, rfl, (by show 4 ≤ sizeLine; decide), fun l hl => ?_⟩
    have s1 := same_upd (o := .lst [x0, x1, x2, x3]) hl
    refine ⟨l, _, rfl, upd_same, (fun x hx => (hK x hx).same s1), fun hg => ?_, fun hb => ?_⟩
    · rcases h with ⟨c, s, m, t, rfl, rfl, rfl, rfl, B, k⟩ | ⟨hb, _⟩
      · generalize upd H l (.lst [V.int (c : Int), .int (s : Int), .int (m : Int), .int (t : Int)]) = H1 at s1
        have lc := B.lc
        have ls := B.ls
        have lm := B.lm
        have lt := B.lt
        refine ⟨_, rfl, rfl, _, rfl, ?_⟩
        by_cases hc : c = 0
        · subst hc
          refine iteT ?_
          exact ⟨_, _, rfl, ⟨_, .int _⟩, ⟨_, .int _⟩, .inl ⟨0, 1, rfl, rfl, by decide, by decide, fun p H' s' hp hF => k p H' (s1.trans s') (s1.free hp) hF⟩⟩
        · rw [dec_n (show (c : Int) ≠ 0 by omega)]
          refine iteF ?_
          refine ⟨_, rfl, _, _, rfl, rfl, .inl ⟨by decide, by decide⟩, _, rfl, _, _, rfl, rfl, .inr ⟨by omega, by omega⟩, _, rfl, _, _, rfl, rfl, _, rfl, _, _, rfl, rfl, .inr ⟨by omega, by omega⟩, _, rfl, _, rfl, _, _, rfl, rfl, .inr ⟨by omega, by omega⟩, _, _, rfl, rfl, ?_⟩
          have e1 : 2 * (c : Int) * (t : Int) = (((ush s m t c).1 : Nat) : Int) := by unfold ush; rw [if_neg hc]; show _ = ((2 * c * t : Nat) : Int); rw [Int.natCast_mul, Int.natCast_mul]; rfl
          have e2 : ((c : Int) + 1) * (t : Int) + (s : Int) * (m : Int) = (((ush s m t c).2 : Nat) : Int) := by unfold ush; rw [if_neg hc]; show _ = (((c + 1) * t + s * m : Nat) : Int); rw [Int.natCast_add, Int.natCast_mul, Int.natCast_mul]; rfl
          refine ⟨_, _, rfl, ⟨_, .int _⟩, ⟨_, .int _⟩, .inl ⟨_, _, congrArg V.int e1, congrArg V.int e2, ush_pos B, ten_lim (ush_le B).2 (by decide), fun p H' s' hp hF => k p H' (s1.trans s') (s1.free hp) hF⟩⟩
      · exact (no_good hb hg).elim
    · rcases h with ⟨c, s, m, t, rfl, rfl, rfl, rfl, B, k⟩ | ⟨_, k⟩
      · exact (no_bad all4n hb).elim
      · exact k _ s1
noncomputable def spRar (K : PySem.W.Frag) (C : Addr) : Sp := fun vs H Q E => ∃ x0 x1 : V, vs = [x0, x1] ∧ (∀ x ∈ [x0, x1], Known K H x) ∧
  ((∃ m f : Nat, x0 = .int m ∧ x1 = .int f ∧ f ≤ 1000000001 ∧ ∀ p H', Same H H' → H p = none → FrA H' p (nat2 (m + 1, f + 1)) → Q (.ref p) H') ∨
   ((∃ x ∈ [x0, x1], goodN x 0 none = false) ∧ ∀ H', Same H H' → E (.ref C) none H'))
theorem all2n {c s : Nat} : ∀ x ∈ [V.int (c : Int), .int (s : Int)], goodN x 0 none = true :=
  List.forall_mem_cons.mpr ⟨good_n, List.forall_mem_cons.mpr ⟨good_n, fun v hv => nomatch hv⟩⟩
theorem scRar : FnScope ["many", "found"] ["many", "found"] (defScope sRar) := ⟨rfl, rfl, rfl, by decide +kernel, rfl, by decide +kernel, by decide +kernel⟩
seal PSs PS PE PT PA PG PI PGs PIfs in
theorem ok_rar {f ff fs_ C : Addr} {fd fdf fds : FuncData} {tk : Tok} (D : Df K mg "rarity_of" sRar f fd) (DF : DfD K mg "fraction" sFr ff fdf #[.int 1 tk]) (GF : FnOk P w K mg base (CX1 P w) 3 ff fdf ["above", "below"] (spFr K C)) (DS : Df K mg "need_numbers" sNNs fs_ fds) (GS : FnOk P w K mg base (CX1 P w) 3 fs_ fds ["numbers"] (spNNs K C)) : FnOk P w K mg base (CX1 P w) 4 f fd ["many", "found"] (spRar K C) := by
  have bF := DF.binds (ps := ["above", "below"]) (ds := []) fun T kV doc pm an cdv ct us hl => match us, (show us.length = 2 by simpa using hl) with | [_, _], _ => ⟨_, rfl, rfl⟩
  have bF1 := DF.binds (ps := ["above", "below"]) (ds := [.int 1 tk]) fun T kV doc pm an cdv ct us hl => match us, (show us.length = 1 by simpa using hl) with | [_], _ => ⟨_, rfl, rfl⟩
  have bS := binds1 (p := "numbers") DS.F fun _ _ _ _ _ _ _ => rfl
  refine D.F.ok1 scRar (fun vs H Q E h => ?_) (fun cdv A outer s H vs Q E hr h => ?_)
  · obtain ⟨x0, x1, rfl, _⟩ := h
    rfl
  · obtain ⟨x0, x1, rfl, hK, h⟩ := h
    refine ⟨_, (pss_cons (ps_expr (pe_call GS hr rfl DS.m DS.F.kp bS .nil (pass_out (E' := E) fun _ _ _ h => h) (pa_cons (pe_lst (pa_cons (pv 0) (pa_cons (pv 1) pa_nil))) pa_nil)))
      (pss_one (ps_ret (pe_call (GF.mono (by decide)) hr rfl DF.m DF.kp bF .nil passN (pa_cons (pe_op op_add (pv 0) pe_int) (pa_cons (pe_op op_add (pv 1) pe_int) pa_nil)))))), ?_⟩
    refine ⟨_, rfl, _, rfl, (by show 2 ≤ sizeLine; decide), fun l hl => ?_⟩
    have s1 := same_upd (o := .lst [x0, x1]) hl
    refine ⟨l, _, rfl, upd_same, (fun x hx => (hK x hx).same s1), fun hg => ?_, fun hb => ?_⟩
    · rcases h with ⟨m, f, rfl, rfl, hf, k⟩ | ⟨hb, _⟩
      · refine ⟨_, rfl, _, _, rfl, rfl, _, rfl, _, _, rfl, rfl, ?_⟩
        exact ⟨_, _, rfl, ⟨_, .int _⟩, ⟨_, .int _⟩, .inl ⟨((m + 1 : Nat) : Int), f + 1, rfl, rfl, Nat.succ_pos _, ten_lim (n := 10) (by omega) (by decide), fun p H' s' hp hF => k p H' (s1.trans s') (s1.free hp) hF⟩⟩
      · exact (no_good hb hg).elim
    · rcases h with ⟨m, f, rfl, rfl, hf, k⟩ | ⟨_, k⟩
      · exact (no_bad all2n hb).elim
      · exact k _ s1
noncomputable def spWorth (K : PySem.W.Frag) (C : Addr) : Sp := fun vs H Q E => ∃ (a b : Addr) (xs ys : List V) (x2 x3 x4 : V), vs = [.ref a, .ref b, x2, x3, x4] ∧ H a = some (.lst xs) ∧ H b = some (.lst ys) ∧ xs.length = ys.length ∧ xs.length ≤ 8 ∧
  (∀ x ∈ xs, Known K H x) ∧ (∀ y ∈ ys, Known K H y) ∧ (∀ x ∈ [x2, x3, x4], Known K H x) ∧
  (((∃ x ∈ [x2, x3, x4], goodN x 0 none = false) ∧ ∀ H', Same H H' → E (.ref C) none H') ∨
   ∃ s m t : Nat, x2 = .int s ∧ x3 = .int m ∧ x4 = .int t ∧ (∀ x ∈ xs, goodN x 0 none = true → ∃ c : Nat, x = .int c ∧ Bd s m t c) ∧ (∀ y ∈ ys, goodN y 0 none = true → ∃ f : Nat, y = .int f ∧ f ≤ 1000000001) ∧
    (∀ cs fs : List Nat, xs = nl cs → ys = nl fs → ∀ p H', Same H H' → H p = none → FrA H' p (nat2 (usum ((cs.zip fs).map (trm s m t)))) → Q (.ref p) H') ∧
    ((∃ x ∈ xs ++ ys, goodN x 0 none = false) → ∀ H', Same H H' → E (.ref C) none H'))
theorem all3n {c s m : Nat} : ∀ x ∈ [V.int (c : Int), .int (s : Int), .int (m : Int)], goodN x 0 none = true :=
  List.forall_mem_cons.mpr ⟨good_n, List.forall_mem_cons.mpr ⟨good_n, List.forall_mem_cons.mpr ⟨good_n, fun v hv => nomatch hv⟩⟩⟩
theorem nat2_sz {x : Nat × Nat} {n : Nat} (h : 0 < x.2) (h1 : x.1 ≤ 10 ^ n) (h2 : x.2 ≤ 10 ^ n) : Sz n (nat2 x) := sz_mk h (by rw [Int.natAbs_natCast]; exact h1) h2
theorem known4 {H : Hp} {x : V} {s m t : Int} (h : Known K H x) : ∀ y ∈ [x, .int s, .int m, .int t], Known K H y :=
  List.forall_mem_cons.mpr ⟨h, List.forall_mem_cons.mpr ⟨⟨_, .int _⟩, List.forall_mem_cons.mpr ⟨⟨_, .int _⟩, List.forall_mem_cons.mpr ⟨⟨_, .int _⟩, fun v hv => nomatch hv⟩⟩⟩⟩
theorem known2 {H : Hp} {x : V} {m : Int} (h : Known K H x) : ∀ y ∈ [.int m, x], Known K H y :=
  List.forall_mem_cons.mpr ⟨⟨_, .int _⟩, List.forall_mem_cons.mpr ⟨h, fun v hv => nomatch hv⟩⟩
theorem scWorth : FnScope ["counts", "founds", "size", "many", "total", "worth", "count", "found", "share"] ["counts", "founds", "size", "many", "total"] (defScope sWorth) := ⟨rfl, rfl, rfl, by decide +kernel, rfl, by decide +kernel, by decide +kernel⟩
seal PSs PS PE PT PA PG PI PGs PIfs in
theorem ok_worth {f ff fs_ fh fr fsu fp C : Addr} {fd fdf fds fdh fdr fdsu fdp : FuncData} {tk : Tok} (D : Df K mg "worth_of" sWorth f fd) (DF : DfD K mg "fraction" sFr ff fdf #[.int 1 tk]) (GF : FnOk P w K mg base (CX1 P w) 3 ff fdf ["above", "below"] (spFr K C)) (DS : Df K mg "need_numbers" sNNs fs_ fds) (GS : FnOk P w K mg base (CX1 P w) 3 fs_ fds ["numbers"] (spNNs K C))
    (DH : Df K mg "share_of" sShare fh fdh) (DR : Df K mg "rarity_of" sRar fr fdr) (DSu : Df K mg "sum_of" sSum fsu fdsu) (DPr : Df K mg "product_of" sProd fp fdp) (T : Txt mg) : FnOk P w K mg base (CX1 P w) 5 f fd ["counts", "founds", "size", "many", "total"] (spWorth K C) := by
  have bF := DF.binds (ps := ["above", "below"]) (ds := []) fun T kV doc pm an cdv ct us hl => match us, (show us.length = 2 by simpa using hl) with | [_, _], _ => ⟨_, rfl, rfl⟩
  have bF1 := DF.binds (ps := ["above", "below"]) (ds := [.int 1 tk]) fun T kV doc pm an cdv ct us hl => match us, (show us.length = 1 by simpa using hl) with | [_], _ => ⟨_, rfl, rfl⟩
  have bS := binds1 (p := "numbers") DS.F fun _ _ _ _ _ _ _ => rfl
  have GH : FnOk P w K mg base (CX1 P w) 4 fh fdh ["count", "size", "many", "total"] (spShare K C) := ok_share DH DF GF DS GS
  have bH := DH.F.binds (ps := ["count", "size", "many", "total"]) fun _ _ _ _ _ _ us hl => us4 (fun _ _ _ _ => rfl) us hl
  have GR : FnOk P w K mg base (CX1 P w) 4 fr fdr ["many", "found"] (spRar K C) := ok_rar DR DF GF DS GS
  have bR := DR.F.binds (ps := ["many", "found"]) fun _ _ _ _ _ _ us hl => us2 (fun _ _ => rfl) us hl
  have GSu : FnOk P w K mg base CX0 4 fsu fdsu ["one", "other"] (spTwo sumF) := ok_sum DSu DF GF
  have bSu := DSu.F.binds (ps := ["one", "other"]) fun _ _ _ _ _ _ us hl => us2 (fun _ _ => rfl) us hl
  have GPr : FnOk P w K mg base CX0 4 fp fdp ["one", "other"] (spTwo prodF) := ok_prod DPr DF GF
  have bPr := DPr.F.binds (ps := ["one", "other"]) fun _ _ _ _ _ _ us hl => us2 (fun _ _ => rfl) us hl
  refine D.F.ok1 scWorth (fun vs H Q E h => ?_) (fun cdv A outer s H vs Q E hr h => ?_)
  · obtain ⟨a, b, xs, ys, x2, x3, x4, rfl, _⟩ := h
    rfl
  · obtain ⟨a, b, xs, ys, x2, x3, x4, rfl, hA, hB, hlen, h8, kX, kY, k3, h⟩ := h
    refine ⟨_, (pss_cons (ps_expr (pe_call (GS.mono (by decide)) hr rfl DS.m DS.F.kp bS .nil (pass_out (E' := E) fun _ _ _ h => h) (pa_cons (pe_lst (pa_cons (pv 2) (pa_cons (pv 3) (pa_cons (pv 4) pa_nil)))) pa_nil)))
      (pss_cons (ps_set (i := 5) scWorth.nd rfl (Or.inl rfl) (pe_call (GF.mono (by decide)) hr rfl DF.m DF.kp bF1 (dvs := [.int 1]) (.cons ⟨tk, rfl⟩ .nil) passN (pa_cons pe_int pa_nil)))
      (pss_cons (ps_for PassesOwn.leaving rfl (pi_zip rfl T.zip (pa_cons (pv 0) (pa_cons (pv 1) pa_nil))) (pg_tup (n := 2) rfl (pgs_cons (pg_name (i := 6) scWorth.nd rfl (Or.inl rfl)) (pgs_cons (pg_name (i := 7) scWorth.nd rfl (Or.inl rfl)) pgs_nil))) (pss_cons (ps_set (i := 8) scWorth.nd rfl (Or.inl rfl) (pe_call GH hr rfl DH.m DH.F.kp bH .nil (pass_out (E' := E) fun _ _ _ h => h) (pa_cons (pv 6) (pa_cons (pv 2) (pa_cons (pv 3) (pa_cons (pv 4) pa_nil))))))
      (pss_one (ps_set (i := 5) scWorth.nd rfl (Or.inl rfl) (pe_call GSu hr rfl DSu.m DSu.F.kp bSu .nil pass0 (pa_cons (pv 5) (pa_cons (pe_call GPr hr rfl DPr.m DPr.F.kp bPr .nil pass0 (pa_cons (pv 8) (pa_cons (pe_call GR hr rfl DR.m DR.F.kp bR .nil (pass_out (E' := E) fun _ _ _ h => h) (pa_cons (pv 3) (pa_cons (pv 7) pa_nil))) pa_nil))) pa_nil)))))))
      (pss_one (ps_ret (pv 5)))))), ?_⟩
    refine ⟨_, rfl, _, rfl, _, rfl, (by show 3 ≤ sizeLine; decide), fun l hl => ?_⟩
    have s1 := same_upd (o := .lst [x2, x3, x4]) hl
    refine ⟨l, _, rfl, upd_same, (fun x hx => (k3 x hx).same s1), fun hg => ?_, fun hb => ?_⟩
    · rcases h with ⟨hb, _⟩ | ⟨s, m, t, rfl, rfl, rfl, gX, gY, k1, k2⟩
      · exact (no_good hb hg).elim
      · generalize upd H l (.lst [V.int (s : Int), .int (m : Int), .int (t : Int)]) = H1 at s1
        refine ⟨_, _, rfl, ⟨_, .int _⟩, ⟨_, .int _⟩, .inl ⟨0, 1, rfl, rfl, by decide, by decide, fun w0 H2 s2 hw0 hF0 => ?_⟩⟩
        have t2 := s1.trans s2
        refine ⟨_, rfl, _, rfl, a, b, xs, ys, rfl, t2 _ _ hA, t2 _ _ hB, ?_⟩
        refine for_izl (xs := xs) (ys := ys) (fun i σ H' => ∃ (cs fs : List Nat) (w : Addr) (o6 o7 o8 : Option V), σ = [some (.ref a), some (.ref b), some (.int (s : Int)), some (.int (m : Int)), some (.int (t : Int)), some (.ref w), o6, o7, o8] ∧ Same H H' ∧ xs.take i = nl cs ∧ ys.take i = nl fs ∧ cs.length = i ∧ fs.length = i ∧
          H w = none ∧ FrA H' w (nat2 (usum ((cs.zip fs).map (trm s m t)))) ∧ Trs ((cs.zip fs).map (trm s m t))) hlen ⟨[], [], w0, none, none, none, rfl, t2, rfl, rfl, rfl, rfl, s1.free hw0, hF0, fun x hx => nomatch hx⟩ ?_ ?_ ?_
        · rintro i σ H' _ ⟨_, _, _, _, _, _, _, sm, _⟩
          exact ⟨sm _ _ hA, sm _ _ hB⟩
        · rintro i x y σ H' Tt hx hy ⟨cs, fs, w, o6, o7, o8, rfl, sm, eX, eY, lX, lY, hw, hF, hT⟩ hTn
          have s3 := same_upd (o := .tup [x, y]) hTn
          refine ⟨Tt, _, rfl, SqT.of upd_same, rfl, _, _, rfl, _, _, rfl, rfl, ?_⟩
          generalize upd H' Tt (.tup [x, y]) = H3 at s3
          have t3 := sm.trans s3
          have mx := List.mem_of_getElem? hx
          have my := List.mem_of_getElem? hy
          refine ⟨_, rfl, _, rfl, _, rfl, _, rfl, x, .int s, .int m, .int t, rfl, known4 ((kX x mx).same t3), ?_⟩
          cases gx : goodN x 0 none with
          | false => exact .inr ⟨⟨x, List.mem_cons_self, gx⟩, fun H4 s4 => k2 ⟨x, List.mem_append_left _ mx, gx⟩ H4 (t3.trans s4)⟩
          | true =>
            obtain ⟨c, rfl, B⟩ := gX x mx gx
            refine .inl ⟨c, s, m, t, rfl, rfl, rfl, rfl, B, fun p4 H4 s4 hp4 hF4 => ?_⟩
            have t4 := t3.trans s4
            refine ⟨_, rfl, _, rfl, _, rfl, _, rfl, .int m, y, rfl, known2 ((kY y my).same t4), ?_⟩
            cases gy : goodN y 0 none with
            | false => exact .inr ⟨⟨y, List.mem_cons_of_mem _ List.mem_cons_self, gy⟩, fun H5 s5 => k2 ⟨y, List.mem_append_right _ my, gy⟩ H5 (t4.trans s5)⟩
            | true =>
              obtain ⟨f, rfl, hf⟩ := gY y my gy
              have lm := B.lm
              refine .inl ⟨m, f, rfl, rfl, hf, fun p5 H5 s5 hp5 hF5 => ?_⟩
              refine ⟨p4, p5, _, _, 19, rfl, s5 _ _ hF4, hF5, nat2_sz (ush_pos B) (ush_le B).1 (ush_le B).2, (nat2_sz (n := 10) (Nat.succ_pos _) (by show m + 1 ≤ 10 ^ 10; omega) (by show f + 1 ≤ 10 ^ 10; omega)).mono (by decide), by decide, fun p6 H6 s6 hp6 hF6 => ?_⟩
              rw [nat2_trm (p := (c, f)) B] at hF6
              have t6 : Same H' H6 := ((s3.trans s4).trans s5).trans s6
              obtain ⟨u1, u2, u3⟩ := usum_ok hT
              have tp := trm_pos (p := (c, f)) B
              have tl := trm_le (p := (c, f)) B hf
              have ll : 30 * ((cs.zip fs).map (trm s m t)).length ≤ 240 := by
                have hi : i < xs.length := (List.getElem?_eq_some_iff.mp hx).1
                rw [List.length_map, List.length_zip, lX, lY]
                omega
              refine ⟨w, p6, _, _, _, rfl, t6 _ _ hF, hF6, nat2_sz u1 u2 u3, (nat2_sz (n := 29) tp tl.1 tl.2).mono (by decide), ll, fun p7 H7 s7 hp7 hF7 => ?_⟩
              rw [nat2_stp u1 tp, ← usum_app] at hF7
              have ez : ((cs ++ [c]).zip (fs ++ [f])).map (trm s m t) = (cs.zip fs).map (trm s m t) ++ [trm s m t (c, f)] := by rw [List.zip_append (by omega), List.map_append]; rfl
              refine ⟨cs ++ [c], fs ++ [f], p7, _, _, _, rfl, (sm.trans t6).trans s7, ?_, ?_, by rw [List.length_append, lX]; rfl, by rw [List.length_append, lY]; rfl, (sm.trans t6).free hp7, ?_, ?_⟩
              · rw [List.take_add_one, hx, eX, nl_app]; rfl
              · rw [List.take_add_one, hy, eY, nl_app]; rfl
              · rw [ez]; exact hF7
              · rw [ez]
                intro z hz
                rcases List.mem_append.mp hz with q | q
                · exact hT z q
                · rw [List.mem_singleton.mp q]; exact ⟨tp, tl.1, tl.2⟩
        · rintro σ H' ⟨cs, fs, w, o6, o7, o8, rfl, sm, eX, eY, lX, lY, hw, hF, hT⟩
          rw [List.take_of_length_le (Nat.le_refl _)] at eX
          rw [List.take_of_length_le (by omega)] at eY
          exact ⟨_, rfl, k1 cs fs eX eY w H' sm hw hF⟩
    · rcases h with ⟨_, k⟩ | ⟨s, m, t, rfl, rfl, rfl, _⟩
      · exact k _ s1
      · exact (no_bad all3n hb).elim
end
end K19
set_option Elab.async false
set_option linter.all false
set_option maxRecDepth 100000
set_option maxHeartbeats 4000000
namespace K19
open PySem L2 PyProof.Rows PySem.Spec Gn WO
open K03 (Fr mkF mkF_up mkF_dn mkF_pos mkF_le mkF_abs mkF_lt gcd_pos' less)
section
variable {P : Program} {w : World} {K : PySem.W.Frag} {mg : Str → Option Value} {base : Heap}
noncomputable def spGcdL : Sp := fun vs H Q _ => ∃ a b : Nat, vs = [.int a, .int b] ∧ a < Lim ∧ b < Lim ∧ Q (.int (Nat.gcd a b : Nat)) H
theorem scCommon : FnScope ["_law_one", "_law_other"] ["_law_one", "_law_other"] (defScope lCommon) := ⟨rfl, rfl, rfl, by decide +kernel, rfl, by decide +kernel, by decide +kernel⟩
seal PSs PS PE PT PA PG PI PGs PIfs in
theorem ok_common {f : Addr} {fd : FuncData} (D : Df K mg "_law_common" lCommon f fd) : FnOk P w K mg base CX0 1 f fd ["_law_one", "_law_other"] spGcdL := by
  refine D.F.ok scCommon (fun vs H Q E h => ?_) (fun cdv A outer s H vs Q E hr h => ?_)
  · obtain ⟨a, b, rfl, _⟩ := h
    rfl
  · obtain ⟨a, b, rfl, ha, hb, k⟩ := h
    refine ⟨_, (pss_cons (ps_while PassesOwn.never (pt_cmpR op_gt (pv 1) pe_int (nomark _)) (pss_one (ps_par (i := 0) (j := 1) rfl scCommon.nd rfl rfl (by decide) rfl rfl (pa_cons (pv 1) (pa_cons (pe_op op_sub (pv 0) (pe_op op_mulB (pe_op op_fdivB (pv 0) (pv 1)) (pv 1))) pa_nil)) rfl)))
      (pss_one (ps_ret (pv 0)))), ?_⟩
    refine while_by (fun σ H' => ∃ (x y : Nat), σ = [some (.int x), some (.int y)] ∧ H' = H ∧ Nat.gcd x y = Nat.gcd a b ∧ x < Lim ∧ y < Lim) (fun σ _ => match σ with | [_, some (.int r)] => r.toNat | _ => 0) ⟨a, b, rfl, rfl, rfl, ha, hb⟩ ?_ ?_
    · rintro σ H' ⟨x, y, rfl, rfl, he, xl, yl⟩
      refine ⟨_, rfl, _, _, rfl, rfl, _, rfl, ?_⟩
      by_cases hy : (0 : Int) < y
      · rw [decide_eq_true hy]
        refine iteT ?_
        have e0 : (x : Int) / (y : Int) = ((x / y : Nat) : Int) := by rw [Int.natCast_ediv]
        have ql : ((x : Int) / (y : Int)).natAbs < Lim := by rw [e0, Int.natAbs_natCast]; exact Nat.lt_of_le_of_lt (Nat.div_le_self _ _) xl
        refine ⟨_, rfl, _, rfl, _, rfl, _, rfl, _, _, rfl, rfl, ⟨hy, Nat.lt_trans (lim_log (by rw [Int.natAbs_natCast]; exact yl)) (by decide)⟩, _, rfl, _, _, rfl, rfl, lim_mul ql (by rw [Int.natAbs_natCast]; exact yl), _, _, rfl, rfl, _, _, rfl, ?_⟩
        have e : (x : Int) - (x : Int) / (y : Int) * (y : Int) = ((x % y : Nat) : Int) := by
          rw [Int.natCast_emod, Int.emod_def, Int.mul_comm]
        have ml := Nat.mod_lt x (show 0 < y by omega)
        refine ⟨⟨y, x % y, ?_, rfl, ?_, yl, Nat.lt_trans ml yl⟩, ?_⟩
        · simp only [List.set]
          rw [e]
        · rw [← he, Nat.gcd_comm x y, Nat.gcd_rec y x, Nat.gcd_comm]
        · show ((x : Int) - (x : Int) / (y : Int) * (y : Int)).toNat < (y : Int).toNat
          rw [e]
          omega
      · rw [decide_eq_false hy]
        have y0 : y = 0 := by omega
        subst y0
        rw [Nat.gcd_zero_right] at he
        subst he
        exact iteF ⟨_, rfl, k⟩
    · intro σ H2 Q1 Q2 hq h
      obtain ⟨x1, h1, i, j, e1, e2, b, e3, h3⟩ := h
      exact ⟨x1, h1, i, j, e1, e2, b, e3, hq _ _ h3⟩
theorem ndPart : (["_law_part"] : List Str).Nodup := by decide +kernel
theorem int_at {xs : List V} {i : Nat} {y : V} {j k : Int} (hx : xs = [.int j, .int k]) (h : xs[i]? = some y) : ∃ l, y = .int l := by
  subst hx
  match i, h with
  | 0, h => exact ⟨j, (Option.some.inj h).symm⟩
  | 1, h => exact ⟨k, (Option.some.inj h).symm⟩
structure IsF (x : Fr) (A B : Nat) : Prop where
  z : Sz 300 x
  a : A < Lim
  b : B < Lim
  e : x.1 * (B : Int) = (A : Int) * (x.2 : Int)
noncomputable def spIs : Sp := fun vs H Q _ => ∃ (p : Addr) (x : Fr) (A B : Nat), vs = [.ref p, .int A, .int B] ∧ FrA H p x ∧ IsF x A B ∧ ∀ H', Same H H' → Q (.bl true) H'
theorem scIs : FnScope ["_law_found", "_law_above", "_law_below"] ["_law_found", "_law_above", "_law_below"] (defScope lIs) := ⟨rfl, rfl, rfl, by decide +kernel, rfl, by decide +kernel, by decide +kernel⟩
seal PSs PS PE PT PA PG PI PGs PIfs in
theorem ok_is {f fc : Addr} {fd fdc : FuncData} (D : Df K mg "_law_is" lIs f fd) (DC : Df K mg "_law_common" lCommon fc fdc) (T : Txt mg) : FnOk P w K mg base CX0 2 f fd ["_law_found", "_law_above", "_law_below"] spIs := by
  have GC : FnOk P w K mg base CX0 1 fc fdc ["_law_one", "_law_other"] spGcdL := ok_common DC
  have bC := DC.F.binds (ps := ["_law_one", "_law_other"]) fun _ _ _ _ _ _ us hl => us2 (fun _ _ => rfl) us hl
  refine D.F.ok scIs (fun vs H Q E h => ?_) (fun cdv A outer s H vs Q E hr h => ?_)
  · obtain ⟨p, x, A, B, rfl, _⟩ := h
    rfl
  · obtain ⟨p, x, A, B, rfl, hp, hI, k⟩ := h
    have sx := hI.z
    refine ⟨_, (pss_cons (ps_if (PW.pt (pw_or (pt_not (pt_val (pe_callB (call_isiK (K := K) rfl) rfl T.isi b_isi (pa_cons (pv 0) (pa_cons (pe_bltn (v := .ty "tuple") rfl T.tuple b_tuple rfl) pa_nil))))) (pw_or1 (pt_cmpR op_ne (pe_callB call_len_seq rfl T.len b_len (pa_cons (pv 0) pa_nil)) pe_int (nomark _))))) (pss_one (ps_ret pe_bl)) pss_nil)
      (pss_cons (ps_if (pt_cmpR (op_neD hr.units100) (pe_comp (own := 1) (caps := []) (N := ["_law_part"]) (N0 := ["_law_found", "_law_above", "_law_below"]) (sc0 := defScope lIs) rfl (pi_tup (pv 0)) (fun _ _ _ => pg_name (i := 0) ndPart rfl (Or.inl rfl)) (fun _ _ _ => pf_one (PW.pt (pw_or (pt_val (pe_callB (call_isiK (K := K) rfl) rfl T.isi b_isi (pa_cons (pv 0) (pa_cons (pe_bltn (v := .ty "bool") rfl T.bool b_bool rfl) pa_nil)))) (pw_or1 (pt_not (pt_val (pe_callB (call_isiK (K := K) rfl) rfl T.isi b_isi (pa_cons (pv 0) (pa_cons (pe_bltn (v := .ty "int") rfl T.int b_int rfl) pa_nil))))))))) (fun _ _ _ => pv 0) (gk_name (by decide)) rfl rfl
        (by decide +kernel) rfl (by decide +kernel) (by decide +kernel) rfl (by decide +kernel)) (pe_lst pa_nil) (nomark _)) (pss_one (ps_ret pe_bl)) pss_nil)
      (pss_cons (ps_if (PW.pt (pw_or (pt_cmpR op_lt (pe_ix ix_tup (pv 0) pe_int (fun _ _ => rfl)) pe_int (nomark _)) (pw_or1 (pt_cmpR op_ne (pe_call GC hr rfl DC.m DC.F.kp bC .nil pass0 (pa_cons (pe_callB call_abs rfl T.abs b_abs (pa_cons (pe_ix ix_tup (pv 0) pe_int (fun _ _ => rfl)) pa_nil)) (pa_cons (pe_ix ix_tup (pv 0) pe_int (fun _ _ => rfl)) pa_nil))) pe_int (nomark _))))) (pss_one (ps_ret pe_bl)) pss_nil)
      (pss_one (ps_ret (pe_cmpR op_eq (pe_op op_mulB (pe_ix ix_tup (pv 0) pe_int (fun _ _ => rfl)) (pv 2)) (pe_op op_mulB (pv 1) (pe_ix ix_tup (pv 0) pe_int (fun _ _ => rfl))) (nomark _))))))), ?_⟩
    refine ⟨_, rfl, .ref p, .ty "tuple", _, _, rfl, .tup hp, .inl ⟨_, rfl, kit_tt⟩, _, rfl, iteF ?_⟩
    refine ⟨_, rfl, p, _, rfl, .inr (SqT.of hp), rfl, _, rfl, iteF ?_⟩
    refine ⟨_, rfl, p, rfl, ⟨_, SqT.of hp⟩, ?_⟩
    refine comp_itt (xs := [.int x.1, .int (x.2 : Nat)]) (fun i ys H3 => H3 = H ∧ ys = []) (by show 2 < sizeLine; decide) (fun i ys H3 q => by rw [q.1]; exact SqT.of hp) ⟨rfl, rfl⟩ ?_ ?_
    · rintro i z ys H3 N hz ⟨rfl, rfl⟩ hN
      obtain ⟨l, rfl⟩ := int_at rfl hz
      refine ⟨_, rfl, .int l, .ty "bool", _, false, rfl, .int l, .inl ⟨_, rfl, kit_bool (H := H3) (.int l)⟩, _, rfl, iteF ?_⟩
      exact ⟨_, rfl, .int l, .ty "int", _, true, rfl, .int l, .inl ⟨_, rfl, kit_int (H := H3) (.int l)⟩, _, rfl, iteF (hN _ _ ⟨rfl, rfl⟩)⟩
    · rintro ys H3 ⟨rfl, rfl⟩ _ q hq
      refine ⟨Nat.zero_le _, fun r hr' => ?_⟩
      refine ⟨.list [], .list [], .lst (SqL.of (same_upd hr' _ _ upd_same)) .nil, .lst (SqL.of upd_same) .nil, rfl, rfl, by decide, _, rfl, iteF ?_⟩
      have s2 := Same.upd (o := .lst []) (same_upd (o := .lst ([] : List V)) hq) hr'
      have hp2 := s2 _ _ hp
      have h0 := sx.p
      refine ⟨_, rfl, p, _, _, _, rfl, rfl, SqT.of hp2, atI_nat (j := 1) rfl, _, _, rfl, rfl, _, rfl, ?_⟩
      rw [decide_eq_false (show ¬ ((x.2 : Nat) : Int) < 1 by omega)]
      refine iteF ?_
      have ea : (if x.1 < 0 then -x.1 else x.1) = ((x.1.natAbs : Nat) : Int) := by split <;> omega
      have lb := sx.lb (by decide)
      refine ⟨_, rfl, p, _, _, _, rfl, rfl, SqT.of hp2, atI_nat (j := 0) rfl, x.1, rfl, _, rfl, p, _, _, _, rfl, rfl, SqT.of hp2, atI_nat (j := 1) rfl, x.1.natAbs, x.2, (by show [V.int (if x.1 < 0 then -x.1 else x.1), V.int (x.2 : Nat)] = _; rw [ea]), sx.la (by decide), (by rwa [Int.natAbs_natCast] at lb), rfl, _, rfl, ?_⟩
      rw [sx.c]
      refine iteF ?_
      refine ⟨_, rfl, p, _, _, _, rfl, rfl, SqT.of hp2, atI_nat (j := 0) rfl, _, rfl, _, _, rfl, rfl, lim_mul (sx.la (by decide)) (by rw [Int.natAbs_natCast]; exact hI.b), _, rfl, _, rfl, p, _, _, _, rfl, rfl, SqT.of hp2, atI_nat (j := 1) rfl, _, _, rfl, rfl, lim_mul (by rw [Int.natAbs_natCast]; exact hI.a) lb, rfl, ?_⟩
      show Q (.bl (decide (V.int (x.1 * (B : Int)) = V.int ((A : Int) * (x.2 : Int))))) _
      rw [dec_i hI.e]
      exact k _ s2
noncomputable def spGreat : Sp := fun vs H Q _ => ∃ (n : Int) (l : Nat), vs = [.int n, .int l] ∧ l ≤ 1 ∧ ∀ (r : Nat) H', l ≤ r → r ≤ 1000000000 → Same H H' → Q (.int (r : Int)) H'
noncomputable def Md (v : V) (_ : Hp) : Prop := ∃ m : Int, v = .int m ∧ 0 < m ∧ m ≤ 1000000000
theorem md4 (H : Hp) : ∀ v ∈ [V.int 4, .int 30, .int 1000, .int (10 ^ (9 : Int).toNat)], Md v H :=
  List.forall_mem_cons.mpr ⟨⟨_, rfl, by decide, by decide⟩, List.forall_mem_cons.mpr ⟨⟨_, rfl, by decide, by decide⟩, List.forall_mem_cons.mpr ⟨⟨_, rfl, by decide, by decide⟩, List.forall_mem_cons.mpr ⟨⟨_, rfl, by decide, by decide⟩, fun v hv => nomatch hv⟩⟩⟩⟩
theorem scGreat : FnScope ["_law_number_here", "_law_least"] ["_law_number_here", "_law_least"] (defScope lGreat) := ⟨rfl, rfl, rfl, by decide +kernel, rfl, by decide +kernel, by decide +kernel⟩
seal PSs PS PE PT PA PG PI PGs PIfs in
theorem ok_great {f : Addr} {fd : FuncData} (D : Df K mg "_law_great" lGreat f fd) : FnOk P w K mg base CX0 1 f fd ["_law_number_here", "_law_least"] spGreat := by
  refine D.F.ok scGreat (fun vs H Q E h => ?_) (fun cdv A outer s H vs Q E hr h => ?_)
  · obtain ⟨n, l, rfl, _⟩ := h
    rfl
  · obtain ⟨n, l, rfl, hl, k⟩ := h
    refine ⟨_, (pss_one (ps_ret (pe_op op_add (pv 1) (pe_op op_mod (pe_op op_fdiv (pv 0) pe_int) (pe_ix (ix_listK (K := K) rfl) (pe_lst (pa_cons pe_int (pa_cons pe_int (pa_cons pe_int (pa_cons (pe_op op_pow pe_int pe_int) pa_nil))))) (pe_op op_mod (pv 0) pe_int) (fun _ _ => rfl)))))), ?_⟩
    refine ⟨_, rfl, _, rfl, _, _, rfl, rfl, ⟨by decide, by decide⟩, _, _, rfl, rfl, ⟨by decide, by decide, by decide⟩, (by show 4 ≤ sizeLine; decide), fun p hp => ?_⟩
    refine ⟨_, rfl, _, _, rfl, rfl, (by show (0 : Int) < 4; decide), ?_⟩
    refine ixPickP Md upd_same (by show 0 < 4; decide) rfl (md4 _) ?_
    rintro v ⟨m, rfl, m0, m1⟩
    have a1 := Int.emod_nonneg (n / 4) (show m ≠ 0 by omega)
    have a2 := Int.emod_lt_of_pos (n / 4) m0
    refine ⟨_, _, rfl, rfl, m0, _, _, rfl, rfl, ?_⟩
    show Q (.int ((l : Int) + n / 4 % m)) _
    obtain ⟨r, hr⟩ : ∃ r : Nat, (l : Int) + n / 4 % m = (r : Int) := ⟨((l : Int) + n / 4 % m).toNat, (Int.toNat_of_nonneg (by omega)).symm⟩
    rw [hr]
    exact k r _ (by omega) (by omega) (same_upd hp)
theorem b_min : bootBuiltins "min" = some (.builtin "min") := by decide +kernel
theorem at_last (xs : List V) (v : V) : atI (xs ++ [v]) (-1) = some v := by
  have e : ixN (xs ++ [v]).length (-1) = some xs.length := by
    unfold ixN
    rw [List.length_append, List.length_singleton]
    rw [if_neg (by decide), if_pos (by omega)]
    congr 1
    omega
  unfold atI
  rw [e]
  simp
theorem same_put {H H' : Hp} {p : Addr} {o : HO} (s : Same H H') (hp : H p = none) : Same H (upd H' p o) := fun b u e => by
  rw [upd_ne (ne_of_none e hp)]; exact s b u e
structure Mad (cs fs : List Nat) (s m t : Nat) : Prop where
  l : cs.length = fs.length
  n : cs.length ≤ 6
  s0 : 1 ≤ s
  s1 : s ≤ 1000000000
  m0 : 1 ≤ m
  m1 : m ≤ 1000000000
  t0 : 1 ≤ t
  t1 : t ≤ 2000000001
  c : ∀ c ∈ cs, c ≤ 1000000000
  f : ∀ f ∈ fs, f ≤ 1000000000
theorem Mad.bd {cs fs : List Nat} {s m t : Nat} (h : Mad cs fs s m t) {c : Nat} (hc : c ≤ 1000000001) : Bd s m t c :=
  ⟨hc, Nat.le_succ_of_le h.s1, Nat.le_succ_of_le h.m1, h.t1, fun _ => ⟨h.s0, h.m0, h.t0⟩⟩
noncomputable def Cn (v : V) (_ : Hp) : Prop := ∃ c : Nat, v = .int c ∧ c ≤ 1000000000
noncomputable def spMade (K : PySem.W.Frag) : Sp := fun vs H Q _ => ∃ (a : Addr) (ns : List Int), vs = [.ref a] ∧ SqL K H a (ns.map V.int) ∧ ns.length ≤ 63 ∧ ∀ (z p q : Addr) H' cs fs s m t, Same H H' → H' z = some (.tup [.ref p, .ref q, .int (s : Nat), .int (m : Nat), .int (t : Nat)]) → H' p = some (.lst (nl cs)) → H' q = some (.lst (nl fs)) → Mad cs fs s m t → Q (.ref z) H'
theorem scMade : FnScope ["_law_script", "_law_size", "_law_many", "_law_total", "_law_counts", "_law_founds", "_law_k", "_law_number_here"] ["_law_script"] (defScope lMade) := ⟨rfl, rfl, rfl, by decide +kernel, rfl, by decide +kernel, by decide +kernel⟩
seal PSs PS PE PT PA PG PI PGs PIfs in
theorem ok_made {f fnu fm fg : Addr} {fd fdnu fdm fdg : FuncData} (D : Df K mg "_law_made" lMade f fd) (DNu : Df K mg "_law_number" lNumber fnu fdnu) (DM : Df K mg "_law_mixed" lMixed fm fdm) (DG : Df K mg "_law_great" lGreat fg fdg) (T : Txt mg) : FnOk P w K mg base CX0 3 f fd ["_law_script"] (spMade K) := by
  have GNu : FnOk P w K mg base CX0 2 fnu fdnu ["_law_script", "_law_k"] (spNumber K) := ok_number DNu DM T
  have bNu := DNu.F.binds (ps := ["_law_script", "_law_k"]) fun _ _ _ _ _ _ us hl => us2 (fun _ _ => rfl) us hl
  have GG : FnOk P w K mg base CX0 1 fg fdg ["_law_number_here", "_law_least"] spGreat := ok_great DG
  have bG := DG.F.binds (ps := ["_law_number_here", "_law_least"]) fun _ _ _ _ _ _ us hl => us2 (fun _ _ => rfl) us hl
  refine D.F.ok scMade (fun vs H Q E h => ?_) (fun cdv A outer s H vs Q E hr h => ?_)
  · obtain ⟨a, ns, rfl, _⟩ := h
    rfl
  · obtain ⟨a, ns, rfl, hS, hlen, kk⟩ := h
    have hz : (sizeLine : Nat) = 16777216 := sizeLine_eq
    refine ⟨_, (pss_cons (ps_set (i := 1) scMade.nd rfl (Or.inl rfl) (pe_call (GG.mono (by decide)) hr rfl DG.m DG.F.kp bG .nil pass0 (pa_cons (pe_call (GNu.mono (by decide)) hr rfl DNu.m DNu.F.kp bNu .nil pass0 (pa_cons (pv 0) (pa_cons pe_int pa_nil))) (pa_cons pe_int pa_nil))))
      (pss_cons (ps_set (i := 2) scMade.nd rfl (Or.inl rfl) (pe_call (GG.mono (by decide)) hr rfl DG.m DG.F.kp bG .nil pass0 (pa_cons (pe_call (GNu.mono (by decide)) hr rfl DNu.m DNu.F.kp bNu .nil pass0 (pa_cons (pv 0) (pa_cons pe_int pa_nil))) (pa_cons pe_int pa_nil))))
      (pss_cons (ps_set (i := 3) scMade.nd rfl (Or.inl rfl) (pe_op op_add (pe_op op_add (pv 1) pe_int) (pe_call (GG.mono (by decide)) hr rfl DG.m DG.F.kp bG .nil pass0 (pa_cons (pe_call (GNu.mono (by decide)) hr rfl DNu.m DNu.F.kp bNu .nil pass0 (pa_cons (pv 0) (pa_cons pe_int pa_nil))) (pa_cons pe_int pa_nil)))))
      (pss_cons (ps_par (i := 4) (j := 5) rfl scMade.nd rfl rfl (by decide) rfl rfl (pa_cons (pe_lst pa_nil) (pa_cons (pe_lst pa_nil) pa_nil)) rfl)
      (pss_cons (ps_for PassesOwn.never rfl (pi_range1 rfl T.range (pa_cons (pe_op op_mod (pe_call (GNu.mono (by decide)) hr rfl DNu.m DNu.F.kp bNu .nil pass0 (pa_cons (pv 0) (pa_cons pe_int pa_nil))) pe_int) pa_nil)) (pg_name (i := 6) scMade.nd rfl (Or.inl rfl)) (pss_cons (ps_set (i := 7) scMade.nd rfl (Or.inl rfl) (pe_call (GNu.mono (by decide)) hr rfl DNu.m DNu.F.kp bNu .nil pass0 (pa_cons (pv 0) (pa_cons (pe_op op_add pe_int (pv 6)) pa_nil))))
      (pss_cons (ps_expr (pe_bm PySem.F.plainAttrs_list PySem.F.slot_list_append PySem.F.type_list_append mt_append (pv 4) (pa_cons (pe_ix (ix_listK (K := K) rfl) (pe_lst (pa_cons pe_int (pa_cons (pe_op op_add pe_int (pe_op op_mod (pe_op op_fdiv (pv 7) pe_int) pe_int)) (pa_cons (pe_call (GG.mono (by decide)) hr rfl DG.m DG.F.kp bG .nil pass0 (pa_cons (pe_op op_fdiv (pv 7) pe_int) (pa_cons pe_int pa_nil))) pa_nil)))) (pe_op op_mod (pv 7) pe_int) (fun _ _ => rfl)) pa_nil)))
      (pss_one (ps_expr (pe_bm PySem.F.plainAttrs_list PySem.F.slot_list_append PySem.F.type_list_append mt_append (pv 5) (pa_cons (pe_callB (call_min2 rfl) rfl T.min b_min (pa_cons (pv 2) (pa_cons (pe_call (GG.mono (by decide)) hr rfl DG.m DG.F.kp bG .nil pass0 (pa_cons (pe_op op_fdiv (pv 7) pe_int) (pa_cons (pe_callTy call_int1 rfl T.int b_int (pa_cons (pe_cmpR op_gt (pe_ix ix_list (pv 4) (pe_un un_neg pe_int) (fun _ _ => rfl)) pe_int (nomark _)) pa_nil)) pa_nil))) pa_nil))) pa_nil)))))))
      (pss_one (ps_ret (pe_tup (pa_cons (pv 4) (pa_cons (pv 5) (pa_cons (pv 1) (pa_cons (pv 2) (pa_cons (pv 3) pa_nil))))))))))))), ?_⟩
    refine ⟨_, rfl, a, ns, 1, rfl, hS, hlen, by decide, fun n1 H1 _ _ s1 => ⟨n1, 1, rfl, by decide, fun sz H2 z0 z1 s2 => ?_⟩⟩
    have t2 := s1.trans s2
    refine ⟨_, rfl, a, ns, 2, rfl, t2.seq hS, hlen, by decide, fun n2 H3 _ _ s3 => ⟨n2, 1, rfl, by decide, fun mn H4 m0 m1 s4 => ?_⟩⟩
    have t4 := (t2.trans s3).trans s4
    refine ⟨_, rfl, _, _, rfl, rfl, _, rfl, a, ns, 3, rfl, t4.seq hS, hlen, by decide, fun n3 H5 _ _ s5 => ⟨n3, 0, rfl, by decide, fun tt H6 _ q1 s6 => ?_⟩⟩
    have t6 := (t4.trans s5).trans s6
    refine ⟨_, _, rfl, rfl, Nat.zero_le _, fun p hp => ⟨Nat.zero_le _, fun q hq => ?_⟩⟩
    have npq : p ≠ q := ne_of_none upd_same hq
    have hp0 : H p = none := t6.free hp
    have hq0 : H q = none := t6.free ((same_upd hp).free hq)
    have t8 : Same H (upd (upd H6 p (.lst [])) q (.lst [])) := Same.upd (Same.upd t6 hp) hq
    have eP : (upd (upd H6 p (.lst [])) q (.lst [])) p = some (.lst []) := by rw [upd_ne npq]; exact upd_same
    have eQ : (upd (upd H6 p (.lst [])) q (.lst [])) q = some (.lst []) := upd_same
    generalize upd (upd H6 p (.lst [])) q (.lst []) = H8 at t8 eP eQ
    refine ⟨_, _, rfl, _, rfl, a, ns, 0, rfl, t8.seq hS, hlen, by decide, fun n0 H9 _ _ s9 => ?_⟩
    obtain ⟨many, hm, hm7⟩ := mod_ix (r := n0) (n := 7) (by decide)
    refine ⟨_, _, rfl, rfl, (by show (0 : Int) < 7; decide), many, (by show [V.int (n0 % 7)] = _; rw [← hm]), by omega, by omega, ?_⟩
    refine for_range (fun i σ H' => ∃ (cs fs : List Nat) (o6 o7 : Option V), σ = [some (.ref a), some (.int (sz : Int)), some (.int (mn : Int)), some (.int ((sz : Int) + 1 + (tt : Int))), some (.ref p), some (.ref q), o6, o7] ∧ Same H H' ∧ H' p = some (.lst (nl cs)) ∧ H' q = some (.lst (nl fs)) ∧ cs.length = i ∧ fs.length = i ∧ (∀ c ∈ cs, c ≤ 1000000000) ∧ ∀ f ∈ fs, f ≤ 1000000000) ?_ ?_ ?_
    · exact ⟨[], [], none, none, rfl, t8.trans s9, s9 _ _ eP, s9 _ _ eQ, rfl, rfl, (fun c hc => nomatch hc), fun c hc => nomatch hc⟩
    · rintro i σ H' hi ⟨cs, fs, o6, o7, rfl, sm, hP, hQ, lc, lf, bc, bf⟩
      have hi' : i < 7 := by have h : i < (many : Int).toNat := hi; omega
      refine ⟨_, rfl, _, rfl, _, _, rfl, rfl, a, ns, 4 + i, (by show [V.ref a, V.int (4 + (0 + (i : Int)))] = _; rw [Int.zero_add]; rfl), sm.seq hS, hlen, by omega, fun n H1 n0' n1' s1 => ?_⟩
      refine ⟨_, rfl, .inl ⟨rfl, _, SqL.of (s1 _ _ hP)⟩, _, rfl, _, _, rfl, rfl, ⟨by decide, by decide⟩, _, _, rfl, rfl, (by show (0 : Int) < 5; decide), _, _, rfl, rfl, _, rfl, _, _, rfl, rfl, ⟨by decide, by decide⟩, n / 9, 1, rfl, by decide, fun g H2 g0 g1 s2 => ?_⟩
      refine ⟨(by show 3 ≤ sizeLine; omega), fun u hu => ⟨_, rfl, _, _, rfl, rfl, (by show (0 : Int) < 3; decide), ?_⟩⟩
      have b5 := Int.emod_nonneg (n / 9) (show (5 : Int) ≠ 0 by decide)
      have b6 := Int.emod_lt_of_pos (n / 9) (show (0 : Int) < 5 by decide)
      refine ixPickP Cn upd_same (by show 0 < 3; decide) rfl (List.forall_mem_cons.mpr ⟨⟨0, rfl, by decide⟩, List.forall_mem_cons.mpr ⟨⟨(1 + n / 9 % 5).toNat, by rw [Int.toNat_of_nonneg (by omega)], by omega⟩, List.forall_mem_cons.mpr ⟨⟨g, rfl, g1⟩, fun v hv => nomatch hv⟩⟩⟩) ?_
      rintro v ⟨c, rfl, hc⟩
      have t3 : Same H1 (upd H2 u (.lst [.int 0, .int (1 + n / 9 % 5), .int (g : Int)])) := s2.trans (same_upd hu)
      generalize upd H2 u (.lst [.int 0, .int (1 + n / 9 % 5), .int (g : Int)]) = H3 at t3
      have hP3 := t3 _ _ (s1 _ _ hP)
      have hQ3 := t3 _ _ (s1 _ _ hQ)
      have sm3 := (sm.trans s1).trans t3
      refine ⟨p, _, _, rfl, rfl, hP3, by rw [nl_len]; omega, ?_⟩
      have sm4 : Same H (upd H3 p (.lst (nl cs ++ [.int (c : Int)]))) := same_put sm3 hp0
      have hP4 : (upd H3 p (.lst (nl cs ++ [.int (c : Int)]))) p = some (.lst (nl cs ++ [.int (c : Int)])) := upd_same
      have hQ4 : (upd H3 p (.lst (nl cs ++ [.int (c : Int)]))) q = some (.lst (nl fs)) := by rw [upd_ne (Ne.symm npq)]; exact hQ3
      generalize upd H3 p (.lst (nl cs ++ [.int (c : Int)])) = H4 at sm4 hP4 hQ4
      refine ⟨_, rfl, .inl ⟨rfl, _, SqL.of hQ4⟩, _, rfl, _, rfl, _, _, rfl, rfl, ⟨by decide, by decide⟩, _, rfl, _, rfl, p, _, _, _, rfl, rfl, SqL.of hP4, at_last _ _, _, _, rfl, rfl, .inr ⟨_, rfl, ?_⟩⟩
      refine ⟨n / 3, if decide ((0 : Int) < (c : Int)) = true then 1 else 0, (by split <;> rfl), (by split <;> decide), fun g2 H5 _ g3 s5 => ⟨_, _, rfl, ?_⟩⟩
      obtain ⟨f, hf, hf1⟩ : ∃ f : Nat, (if (g2 : Int) < (mn : Int) then (g2 : Int) else (mn : Int)) = (f : Int) ∧ f ≤ 1000000000 := by
        split
        · exact ⟨g2, rfl, g3⟩
        · exact ⟨mn, rfl, m1⟩
      rw [hf]
      refine ⟨q, _, _, rfl, rfl, s5 _ _ hQ4, by rw [nl_len]; omega, ?_⟩
      refine ⟨cs ++ [c], fs ++ [f], _, _, rfl, same_put (sm4.trans s5) hq0, ?_, ?_, by rw [List.length_append, lc]; rfl, by rw [List.length_append, lf]; rfl, fun x hx => ?_, fun x hx => ?_⟩
      · rw [upd_ne npq, nl_app]; exact s5 _ _ hP4
      · rw [upd_same, nl_app]; rfl
      · rcases List.mem_append.mp hx with y | y
        · exact bc x y
        · rw [List.mem_singleton.mp y]; exact hc
      · rcases List.mem_append.mp hx with y | y
        · exact bf x y
        · rw [List.mem_singleton.mp y]; exact hf1
    · rintro σ H' ⟨cs, fs, o6, o7, rfl, sm, hP, hQ, lc, lf, bc, bf⟩
      refine ⟨_, rfl, _, rfl, _, rfl, _, rfl, _, rfl, (by show 5 ≤ sizeLine; omega), fun z hzz => ?_⟩
      have lm : cs.length ≤ 6 := by rw [lc]; show (many : Int).toNat ≤ 6; omega
      exact kk z p q _ cs fs sz mn (sz + 1 + tt) (sm.trans (same_upd hzz)) (by rw [upd_same]; rfl) (same_upd hzz _ _ hP) (same_upd hzz _ _ hQ) ⟨by rw [lc, lf], lm, z0, z1, m0, m1, by omega, by omega, bc, bf⟩
noncomputable abbrev PrA (H : Hp) (p : Addr) (x : Nat × Nat) : Prop := H p = some (.tup [.int (x.1 : Int), .int (x.2 : Int)])
noncomputable def spLSh : Sp := fun vs H Q _ => ∃ c s m t : Nat, vs = [.int c, .int s, .int m, .int t] ∧ Bd s m t c ∧ ∀ p H', Same H H' → H p = none → PrA H' p (ush s m t c) → Q (.ref p) H'
theorem scLSh : FnScope ["_law_count", "_law_size", "_law_many", "_law_total"] ["_law_count", "_law_size", "_law_many", "_law_total"] (defScope lShare) := ⟨rfl, rfl, rfl, by decide +kernel, rfl, by decide +kernel, by decide +kernel⟩
seal PSs PS PE PT PA PG PI PGs PIfs in
theorem ok_lsh {f : Addr} {fd : FuncData} (D : Df K mg "_law_share" lShare f fd) : FnOk P w K mg base CX0 1 f fd ["_law_count", "_law_size", "_law_many", "_law_total"] spLSh := by
  refine D.F.ok scLSh (fun vs H Q E h => ?_) (fun cdv A outer s H vs Q E hr h => ?_)
  · obtain ⟨c, s, m, t, rfl, _⟩ := h
    rfl
  · obtain ⟨c, s, m, t, rfl, B, k⟩ := h
    have lc := B.lc
    have ls := B.ls
    have lm := B.lm
    have lt := B.lt
    refine ⟨_, (pss_cons (ps_if (pt_cmpR op_eq (pv 0) pe_int (nomark _)) (pss_one (ps_ret (pe_tup (pa_cons pe_int (pa_cons pe_int pa_nil))))) pss_nil)
      (pss_one (ps_ret (pe_tup (pa_cons (pe_op op_mul (pe_op op_mul pe_int (pv 0)) (pv 3)) (pa_cons (pe_op op_add (pe_op op_mul (pe_op op_add (pv 0) pe_int) (pv 3)) (pe_op op_mul (pv 1) (pv 2))) pa_nil)))))), ?_⟩
    refine ⟨_, rfl, rfl, _, rfl, ?_⟩
    by_cases hc : c = 0
    · subst hc
      exact iteT ⟨(by show 2 ≤ sizeLine; decide), fun p hp => k p _ (same_upd hp) hp upd_same⟩
    · rw [dec_n (show (c : Int) ≠ 0 by omega)]
      refine iteF ?_
      have e1 : 2 * (c : Int) * (t : Int) = (((ush s m t c).1 : Nat) : Int) := by unfold ush; rw [if_neg hc]; show _ = ((2 * c * t : Nat) : Int); rw [Int.natCast_mul, Int.natCast_mul]; rfl
      have e2 : ((c : Int) + 1) * (t : Int) + (s : Int) * (m : Int) = (((ush s m t c).2 : Nat) : Int) := by unfold ush; rw [if_neg hc]; show _ = (((c + 1) * t + s * m : Nat) : Int); rw [Int.natCast_add, Int.natCast_mul, Int.natCast_mul]; rfl
      refine ⟨_, rfl, _, _, rfl, rfl, .inl ⟨by decide, by decide⟩, _, rfl, _, _, rfl, rfl, .inr ⟨by omega, by omega⟩, _, rfl, _, _, rfl, rfl, _, rfl, _, _, rfl, rfl, .inr ⟨by omega, by omega⟩, _, rfl, _, rfl, _, _, rfl, rfl, .inr ⟨by omega, by omega⟩, _, _, rfl, rfl, (by show 2 ≤ sizeLine; decide), fun p hp => k p _ (same_upd hp) hp ?_⟩
      rw [PrA, upd_same, ← e1, ← e2]
theorem nlim {n x : Nat} (h : x ≤ 10 ^ n) (hn : n ≤ 300) : ((x : Nat) : Int).natAbs < Lim := by rw [Int.natAbs_natCast]; exact ten_lim h hn
theorem nl_get {ns : List Nat} {i : Nat} {x : V} (h : (nl ns)[i]? = some x) : ∃ c, ns[i]? = some c ∧ x = .int (c : Int) := by
  unfold nl at h
  rw [List.getElem?_map] at h
  cases hp : ns[i]? with
  | none => rw [hp] at h; cases h
  | some c => rw [hp] at h; exact ⟨c, rfl, (Option.some.inj h).symm⟩
structure Ls (cs fs : List Nat) (s m t : Nat) : Prop where
  l : cs.length = fs.length
  n : cs.length ≤ 8
  c : ∀ c ∈ cs, Bd s m t c
  f : ∀ f ∈ fs, f ≤ 1000000001
theorem Ls.trs {cs fs : List Nat} {s m t : Nat} (h : Ls cs fs s m t) : Trs ((cs.zip fs).map (trm s m t)) := by
  intro x hx
  obtain ⟨⟨c, f⟩, hp, rfl⟩ := List.mem_map.mp hx
  have h1 := (List.of_mem_zip hp).1
  have h2 := (List.of_mem_zip hp).2
  exact ⟨trm_pos (p := (c, f)) (h.c c h1), (trm_le (p := (c, f)) (h.c c h1) (h.f f h2)).1, (trm_le (p := (c, f)) (h.c c h1) (h.f f h2)).2⟩
theorem Ls.take {cs fs : List Nat} {s m t : Nat} (h : Ls cs fs s m t) (i : Nat) : Ls (cs.take i) (fs.take i) s m t :=
  ⟨by rw [List.length_take, List.length_take, h.l], by rw [List.length_take]; have := h.n; omega, fun c hc => h.c c (List.mem_of_mem_take hc), fun f hf => h.f f (List.mem_of_mem_take hf)⟩
theorem Ls.len {cs fs : List Nat} {s m t : Nat} (h : Ls cs fs s m t) : 30 * ((cs.zip fs).map (trm s m t)).length ≤ 240 := by
  have := h.n
  have := h.l
  rw [List.length_map, List.length_zip]
  omega
theorem zip_step {cs fs : List Nat} {s m t i c f : Nat} (h : cs.length = fs.length) (hc : cs[i]? = some c) (hf : fs[i]? = some f) : ((cs.take (i + 1)).zip (fs.take (i + 1))).map (trm s m t) = ((cs.take i).zip (fs.take i)).map (trm s m t) ++ [trm s m t (c, f)] := by
  rw [List.take_add_one, List.take_add_one, hc, hf]
  show ((cs.take i ++ [c]).zip (fs.take i ++ [f])).map _ = _
  rw [List.zip_append (by rw [List.length_take, List.length_take, h]), List.map_append]
  rfl
noncomputable def spLSum : Sp := fun vs H Q _ => ∃ (a b : Addr) (cs fs : List Nat) (s m t : Nat), vs = [.ref a, .ref b, .int s, .int m, .int t] ∧ H a = some (.lst (nl cs)) ∧ H b = some (.lst (nl fs)) ∧ Ls cs fs s m t ∧ ∀ p H', Same H H' → H p = none → PrA H' p (usum ((cs.zip fs).map (trm s m t))) → Q (.ref p) H'
theorem scLSum : FnScope ["_law_counts", "_law_founds", "_law_size", "_law_many", "_law_total", "_law_above", "_law_below", "_law_count", "_law_found", "_law_one", "_law_whole"] ["_law_counts", "_law_founds", "_law_size", "_law_many", "_law_total"] (defScope lSum) := ⟨rfl, rfl, rfl, by decide +kernel, rfl, by decide +kernel, by decide +kernel⟩
seal PSs PS PE PT PA PG PI PGs PIfs in
theorem ok_lsum {f fl : Addr} {fd fdl : FuncData} (D : Df K mg "_law_sum" lSum f fd) (DL : Df K mg "_law_share" lShare fl fdl) (T : Txt mg) : FnOk P w K mg base CX0 2 f fd ["_law_counts", "_law_founds", "_law_size", "_law_many", "_law_total"] spLSum := by
  have GL : FnOk P w K mg base CX0 1 fl fdl ["_law_count", "_law_size", "_law_many", "_law_total"] spLSh := ok_lsh DL
  have bL := DL.F.binds (ps := ["_law_count", "_law_size", "_law_many", "_law_total"]) fun _ _ _ _ _ _ us hl => us4 (fun _ _ _ _ => rfl) us hl
  refine D.F.ok scLSum (fun vs H Q E h => ?_) (fun cdv A outer s H vs Q E hr h => ?_)
  · obtain ⟨a, b, cs, fs, s, m, t, rfl, _⟩ := h
    rfl
  · obtain ⟨a, b, cs, fs, s, m, t, rfl, hA, hB, hL, k⟩ := h
    have hn := hL.n
    have hll := hL.l
    refine ⟨_, (pss_cons (ps_asg (pe_tup (pa_cons pe_int (pa_cons pe_int pa_nil))) (pg_tup (n := 2) rfl (pgs_cons (pg_name (i := 5) scLSum.nd rfl (Or.inl rfl)) (pgs_cons (pg_name (i := 6) scLSum.nd rfl (Or.inl rfl)) pgs_nil))))
      (pss_cons (ps_for PassesOwn.never rfl (pi_zip rfl T.zip (pa_cons (pv 0) (pa_cons (pv 1) pa_nil))) (pg_tup (n := 2) rfl (pgs_cons (pg_name (i := 7) scLSum.nd rfl (Or.inl rfl)) (pgs_cons (pg_name (i := 8) scLSum.nd rfl (Or.inl rfl)) pgs_nil))) (pss_cons (ps_asg (pe_call GL hr rfl DL.m DL.F.kp bL .nil pass0 (pa_cons (pv 7) (pa_cons (pv 2) (pa_cons (pv 3) (pa_cons (pv 4) pa_nil))))) (pg_tup (n := 2) rfl (pgs_cons (pg_name (i := 9) scLSum.nd rfl (Or.inl rfl)) (pgs_cons (pg_name (i := 10) scLSum.nd rfl (Or.inl rfl)) pgs_nil))))
      (pss_cons (ps_par (i := 9) (j := 10) rfl scLSum.nd rfl rfl (by decide) rfl rfl (pa_cons (pe_op op_mulB (pv 9) (pe_op op_add (pv 3) pe_int)) (pa_cons (pe_op op_mulB (pv 10) (pe_op op_add (pv 8) pe_int)) pa_nil)) rfl)
      (pss_one (ps_par (i := 5) (j := 6) rfl scLSum.nd rfl rfl (by decide) rfl rfl (pa_cons (pe_op op_add (pe_op op_mulB (pv 5) (pv 10)) (pe_op op_mulB (pv 9) (pv 6))) (pa_cons (pe_op op_mulB (pv 6) (pv 10)) pa_nil)) rfl)))))
      (pss_one (ps_ret (pe_tup (pa_cons (pv 5) (pa_cons (pv 6) pa_nil))))))), ?_⟩
    refine ⟨(by show 2 ≤ sizeLine; decide), fun u hu => ⟨u, _, rfl, SqT.of upd_same, rfl, _, _, rfl, _, _, rfl, rfl, ?_⟩⟩
    have s1 := same_upd (o := .tup [.int 0, .int 1]) hu
    generalize upd H u (.tup [.int 0, .int 1]) = H1 at s1
    refine ⟨_, rfl, _, rfl, a, b, _, _, rfl, s1 _ _ hA, s1 _ _ hB, ?_⟩
    refine for_izl (xs := nl cs) (ys := nl fs) (fun i σ H' => ∃ (o7 o8 o9 o10 : Option V), σ = [some (.ref a), some (.ref b), some (.int (s : Int)), some (.int (m : Int)), some (.int (t : Int)), some (.int ((usum (((cs.take i).zip (fs.take i)).map (trm s m t))).1 : Int)), some (.int ((usum (((cs.take i).zip (fs.take i)).map (trm s m t))).2 : Int)), o7, o8, o9, o10] ∧ Same H H') (by rw [nl_len, nl_len]; exact hll) ⟨none, none, none, none, rfl, s1⟩ ?_ ?_ ?_
    · rintro i σ H' _ ⟨_, _, _, _, _, sm⟩
      exact ⟨sm _ _ hA, sm _ _ hB⟩
    · rintro i x y σ H' Tt hx hy ⟨o7, o8, o9, o10, rfl, sm⟩ hTn
      obtain ⟨c, hc, rfl⟩ := nl_get hx
      obtain ⟨f, hf, rfl⟩ := nl_get hy
      have B := hL.c c (List.mem_of_getElem? hc)
      have bf := hL.f f (List.mem_of_getElem? hf)
      have lm := B.lm
      have s3 := same_upd (o := .tup [.int (c : Int), .int (f : Int)]) hTn
      refine ⟨Tt, _, rfl, SqT.of upd_same, rfl, _, _, rfl, _, _, rfl, rfl, ?_⟩
      generalize upd H' Tt (.tup [.int (c : Int), .int (f : Int)]) = H3 at s3
      refine ⟨_, rfl, _, rfl, _, rfl, _, rfl, c, s, m, t, rfl, B, fun p4 H4 s4 hp4 hP4 => ?_⟩
      refine ⟨p4, _, rfl, SqT.of hP4, rfl, _, _, rfl, _, _, rfl, rfl, ?_⟩
      obtain ⟨q1, q2⟩ := ush_le B
      obtain ⟨r1, r2⟩ := trm_le (p := (c, f)) B bf
      obtain ⟨u1, u2, u3⟩ := usum_ok (hL.take i).trs
      have ul := (hL.take i).len
      have e1 : ((ush s m t c).1 : Int) * ((m : Int) + 1) = (((trm s m t (c, f)).1 : Nat) : Int) := by show _ = (((ush s m t c).1 * (m + 1) : Nat) : Int); rw [Int.natCast_mul]; rfl
      have e2 : ((ush s m t c).2 : Int) * ((f : Int) + 1) = (((trm s m t (c, f)).2 : Nat) : Int) := by show _ = (((ush s m t c).2 * (f + 1) : Nat) : Int); rw [Int.natCast_mul]; rfl
      refine ⟨_, rfl, _, rfl, _, _, rfl, rfl, _, _, rfl, rfl, lim_mul (nlim q1 (by decide)) (nlim (x := m + 1) (n := 10) (by omega) (by decide)), _, rfl, _, rfl, _, _, rfl, rfl, _, _, rfl, rfl, lim_mul (nlim q2 (by decide)) (nlim (x := f + 1) (n := 10) (by omega) (by decide)), _, _, rfl, ?_⟩
      simp only [List.set]
      rw [e1, e2]
      refine ⟨_, rfl, _, rfl, _, _, rfl, rfl, lim_mul (nlim u2 (by omega)) (nlim r2 (by decide)), _, rfl, _, rfl, _, _, rfl, rfl, lim_mul (nlim r1 (by decide)) (nlim u3 (by omega)), _, _, rfl, rfl, _, rfl, _, rfl, _, _, rfl, rfl, lim_mul (nlim u3 (by omega)) (nlim r2 (by decide)), _, _, rfl, ?_⟩
      refine ⟨some (.int (c : Int)), some (.int (f : Int)), some (.int ((trm s m t (c, f)).1 : Int)), some (.int ((trm s m t (c, f)).2 : Int)), ?_, (sm.trans s3).trans s4⟩
      simp only [List.set]
      rw [zip_step hll hc hf, usum_app]
      rfl
    · rintro σ H' ⟨o7, o8, o9, o10, rfl, sm⟩
      rw [nl_len, List.take_of_length_le (Nat.le_refl _), List.take_of_length_le (by omega)]
      exact ⟨_, rfl, _, rfl, (by show 2 ≤ sizeLine; decide), fun p hp => k p _ (sm.trans (same_upd hp)) (sm.free hp) upd_same⟩
end
end K19
set_option Elab.async false
set_option linter.all false
set_option maxRecDepth 100000
set_option maxHeartbeats 4000000
namespace K19
open PySem L2 PyProof.Rows PySem.Spec Gn WO
open K03 (Fr mkF mkF_up mkF_dn mkF_pos mkF_le mkF_abs mkF_lt gcd_pos' less)
section
variable {P : Program} {w : World} {K : PySem.W.Frag} {mg : Str → Option Value} {base : Heap}
theorem k4 {H : Hp} {a b c d : Int} : ∀ y ∈ [V.int a, .int b, .int c, .int d], Known K H y := known4 ⟨_, .int _⟩
theorem k2 {H : Hp} {a b : Int} : ∀ y ∈ [V.int a, .int b], Known K H y := known2 ⟨_, .int _⟩
theorem tnil_ {σ : L2.St} {H : Hp} {F : List V → Hp → Prop} (h : F [] H) : tNil σ H F := h
theorem nat2_is {x : Nat × Nat} {n : Nat} (h : 0 < x.2) (h1 : x.1 ≤ 10 ^ n) (h2 : x.2 ≤ 10 ^ n) (hn : n ≤ 300) : IsF (nat2 x) x.1 x.2 := ⟨(nat2_sz h h1 h2).mono hn, ten_lim h1 hn, ten_lim h2 hn, nat2_cross x h⟩
theorem ge_f {a b : Int} (h : a < b) : decide (b ≤ a) = false := decide_eq_false (by omega)
noncomputable def spRight : Sp := fun vs H Q _ => ∃ (a b : Addr) (cs fs : List Nat) (s m t : Nat), vs = [.ref a, .ref b, .int s, .int m, .int t] ∧ H a = some (.lst (nl cs)) ∧ H b = some (.lst (nl fs)) ∧ Mad cs fs s m t ∧ ∀ H', Same H H' → Q (.bl true) H'
theorem scRight : FnScope ["_law_counts", "_law_founds", "_law_size", "_law_many", "_law_total", "_law_count", "_law_found", "_law_above", "_law_below", "_law_share_here", "_law_more", "_law_less"] ["_law_counts", "_law_founds", "_law_size", "_law_many", "_law_total"] (defScope lRight) := ⟨rfl, rfl, rfl, by decide +kernel, rfl, by decide +kernel, by decide +kernel⟩
seal PSs PS PE PT PA PG PI PGs PIfs in
theorem ok_right {f fl fh fr fi fc C : Addr} {fd fdl fdh fdr fdi fdc : FuncData} (D : Df K mg "_law_shares_right" lRight f fd) (DL : Df K mg "_law_share" lShare fl fdl) (DH : Df K mg "share_of" sShare fh fdh) (GH : FnOk P w K mg base (CX1 P w) 4 fh fdh ["count", "size", "many", "total"] (spShare K C)) (DR : Df K mg "rarity_of" sRar fr fdr) (GR : FnOk P w K mg base (CX1 P w) 4 fr fdr ["many", "found"] (spRar K C)) (DI : Df K mg "_law_is" lIs fi fdi) (DC : Df K mg "_law_common" lCommon fc fdc) (T : Txt mg) : FnOk P w K mg base CX0 5 f fd ["_law_counts", "_law_founds", "_law_size", "_law_many", "_law_total"] spRight := by
  have GL : FnOk P w K mg base CX0 1 fl fdl ["_law_count", "_law_size", "_law_many", "_law_total"] spLSh := ok_lsh DL
  have bL := DL.F.binds (ps := ["_law_count", "_law_size", "_law_many", "_law_total"]) fun _ _ _ _ _ _ us hl => us4 (fun _ _ _ _ => rfl) us hl
  have bH := DH.F.binds (ps := ["count", "size", "many", "total"]) fun _ _ _ _ _ _ us hl => us4 (fun _ _ _ _ => rfl) us hl
  have bR := DR.F.binds (ps := ["many", "found"]) fun _ _ _ _ _ _ us hl => us2 (fun _ _ => rfl) us hl
  have GI : FnOk P w K mg base CX0 2 fi fdi ["_law_found", "_law_above", "_law_below"] spIs := ok_is DI DC T
  have bI := DI.F.binds (ps := ["_law_found", "_law_above", "_law_below"]) fun _ _ _ _ _ _ us hl => us3 (fun _ _ _ => rfl) us hl
  refine D.F.ok scRight (fun vs H Q E h => ?_) (fun cdv A outer s H vs Q E hr h => ?_)
  · obtain ⟨a, b, cs, fs, s, m, t, rfl, _⟩ := h
    rfl
  · obtain ⟨a, b, cs, fs, s, m, t, rfl, hA, hB, hM, k⟩ := h
    have hn := hM.n
    have hll := hM.l
    have m1 := hM.m1
    have s1' := hM.s1
    refine ⟨_, (pss_cons (ps_for PassesOwn.never rfl (pi_zip rfl T.zip (pa_cons (pv 0) (pa_cons (pv 1) pa_nil))) (pg_tup (n := 2) rfl (pgs_cons (pg_name (i := 5) scRight.nd rfl (Or.inl rfl)) (pgs_cons (pg_name (i := 6) scRight.nd rfl (Or.inl rfl)) pgs_nil))) (pss_cons (ps_asg (pe_call (GL.mono (by decide)) hr rfl DL.m DL.F.kp bL .nil pass0 (pa_cons (pv 5) (pa_cons (pv 2) (pa_cons (pv 3) (pa_cons (pv 4) pa_nil))))) (pg_tup (n := 2) rfl (pgs_cons (pg_name (i := 7) scRight.nd rfl (Or.inl rfl)) (pgs_cons (pg_name (i := 8) scRight.nd rfl (Or.inl rfl)) pgs_nil))))
      (pss_cons (ps_set (i := 9) scRight.nd rfl (Or.inl rfl) (pe_call (GH.mono (by decide)) hr rfl DH.m DH.F.kp bH .nil passN (pa_cons (pv 5) (pa_cons (pv 2) (pa_cons (pv 3) (pa_cons (pv 4) pa_nil))))))
      (pss_cons (ps_if (PW.pt (pw_or (pt_not (pt_val (pe_call (GI.mono (by decide)) hr rfl DI.m DI.F.kp bI .nil pass0 (pa_cons (pv 9) (pa_cons (pv 7) (pa_cons (pv 8) pa_nil)))))) (pw_or1 (pt_not (pt_val (pe_call (GI.mono (by decide)) hr rfl DI.m DI.F.kp bI .nil pass0 (pa_cons (pe_call (GR.mono (by decide)) hr rfl DR.m DR.F.kp bR .nil passN (pa_cons (pv 3) (pa_cons (pv 6) pa_nil))) (pa_cons (pe_op op_add (pv 3) pe_int) (pa_cons (pe_op op_add (pv 6) pe_int) pa_nil))))))))) (pss_one (ps_ret pe_bl)) pss_nil)
      (pss_cons (ps_set (i := 10) scRight.nd rfl (Or.inl rfl) (pe_call (GH.mono (by decide)) hr rfl DH.m DH.F.kp bH .nil passN (pa_cons (pe_op op_add (pv 5) pe_int) (pa_cons (pv 2) (pa_cons (pv 3) (pa_cons (pv 4) pa_nil))))))
      (pss_cons (ps_set (i := 11) scRight.nd rfl (Or.inl rfl) (pe_call (GH.mono (by decide)) hr rfl DH.m DH.F.kp bH .nil passN (pa_cons (pv 5) (pa_cons (pe_op op_add (pv 2) pe_int) (pa_cons (pv 3) (pa_cons (pv 4) pa_nil))))))
      (pss_cons (ps_if (PW.pt (pw_or (pt_cmpR op_ge (pe_ix ix_tup (pv 9) pe_int (fun _ _ => rfl)) (pe_op op_mul pe_int (pe_ix ix_tup (pv 9) pe_int (fun _ _ => rfl))) (nomark _)) (pw_or1 (pt_cmpR op_ge (pe_op op_mulB (pe_ix ix_tup (pv 9) pe_int (fun _ _ => rfl)) (pe_ix ix_tup (pv 10) pe_int (fun _ _ => rfl))) (pe_op op_mulB (pe_ix ix_tup (pv 10) pe_int (fun _ _ => rfl)) (pe_ix ix_tup (pv 9) pe_int (fun _ _ => rfl))) (nomark _))))) (pss_one (ps_ret pe_bl)) pss_nil)
      (pss_one (ps_if (PW.pt (pw_and (pt_cmpR op_gt (pv 5) pe_int (nomark _)) (pw_and1 (pt_cmpR op_ge (pe_op op_mulB (pe_ix ix_tup (pv 11) pe_int (fun _ _ => rfl)) (pe_ix ix_tup (pv 9) pe_int (fun _ _ => rfl))) (pe_op op_mulB (pe_ix ix_tup (pv 9) pe_int (fun _ _ => rfl)) (pe_ix ix_tup (pv 11) pe_int (fun _ _ => rfl))) (nomark _))))) (pss_one (ps_ret pe_bl)) pss_nil)))))))))
      (pss_one (ps_ret pe_bl))), ?_⟩
    refine ⟨_, rfl, _, rfl, a, b, _, _, rfl, hA, hB, ?_⟩
    refine for_izl (xs := nl cs) (ys := nl fs) (fun i σ H' => ∃ (o5 o6 o7 o8 o9 o10 o11 : Option V), σ = [some (.ref a), some (.ref b), some (.int (s : Int)), some (.int (m : Int)), some (.int (t : Int)), o5, o6, o7, o8, o9, o10, o11] ∧ Same H H') (by rw [nl_len, nl_len]; exact hll) ⟨none, none, none, none, none, none, none, rfl, Same.refl _⟩ ?_ ?_ ?_
    · rintro i σ H' _ ⟨_, _, _, _, _, _, _, _, sm⟩
      exact ⟨sm _ _ hA, sm _ _ hB⟩
    · rintro i x y σ H' Tt hx hy ⟨o5, o6, o7, o8, o9, o10, o11, rfl, sm⟩ hTn
      obtain ⟨c, hc, rfl⟩ := nl_get hx
      obtain ⟨f, hf, rfl⟩ := nl_get hy
      have cl := hM.c c (List.mem_of_getElem? hc)
      have bf := hM.f f (List.mem_of_getElem? hf)
      have B : Bd s m t c := hM.bd (by omega)
      have B1 : Bd s m t (c + 1) := hM.bd (by omega)
      have B2 : Bd (s + 1) m t c := ⟨B.lc, by omega, B.lm, B.lt, fun _ => ⟨Nat.succ_pos _, hM.m0, hM.t0⟩⟩
      have s3 := same_upd (o := .tup [.int (c : Int), .int (f : Int)]) hTn
      refine ⟨Tt, _, rfl, SqT.of upd_same, rfl, _, _, rfl, _, _, rfl, rfl, ?_⟩
      generalize upd H' Tt (.tup [.int (c : Int), .int (f : Int)]) = H3 at s3
      refine ⟨_, rfl, _, rfl, _, rfl, _, rfl, c, s, m, t, rfl, B, fun p4 H4 s4 hp4 hP4 => ?_⟩
      refine ⟨p4, _, rfl, SqT.of hP4, rfl, _, _, rfl, _, _, rfl, rfl, ?_⟩
      refine ⟨_, rfl, _, rfl, _, rfl, _, rfl, _, _, _, _, rfl, k4, .inl ⟨c, s, m, t, rfl, rfl, rfl, rfl, B, fun p5 H5 s5 hp5 hF5 => ?_⟩⟩
      obtain ⟨q1, q2⟩ := ush_le B
      obtain ⟨q3, q4⟩ := ush_le B1
      obtain ⟨q5, q6⟩ := ush_le B2
      have z0 := nat2_sz (ush_pos B) q1 q2
      have z1 := nat2_sz (ush_pos B1) q3 q4
      have z2 := nat2_sz (ush_pos B2) q5 q6
      refine ⟨_, rfl, _, rfl, _, rfl, p5, _, _, _, rfl, hF5, nat2_is (ush_pos B) q1 q2 (by decide), fun H6 s6 => ⟨_, rfl, iteF ?_⟩⟩
      refine ⟨_, rfl, _, rfl, _, _, rfl, k2, .inl ⟨m, f, rfl, rfl, by omega, fun p7 H7 s7 hp7 hF7 => ?_⟩⟩
      refine ⟨_, rfl, _, _, rfl, rfl, _, rfl, _, _, rfl, rfl, p7, _, m + 1, f + 1, rfl, hF7, nat2_is (x := (m + 1, f + 1)) (n := 10) (Nat.succ_pos _) (by show m + 1 ≤ 10 ^ 10; omega) (by show f + 1 ≤ 10 ^ 10; omega) (by decide), fun H8 s8 => ⟨_, rfl, iteF ?_⟩⟩
      refine ⟨_, rfl, _, _, rfl, rfl, _, rfl, _, rfl, _, rfl, _, _, _, _, rfl, k4, .inl ⟨c + 1, s, m, t, rfl, rfl, rfl, rfl, B1, fun p9 H9 s9 hp9 hF9 => ?_⟩⟩
      refine ⟨_, rfl, _, rfl, _, _, rfl, rfl, _, rfl, _, rfl, _, _, _, _, rfl, k4, .inl ⟨c, s + 1, m, t, rfl, rfl, rfl, rfl, B2, fun p10 H10 s10 hp10 hF10 => ?_⟩⟩
      have t10 : Same H5 H10 := (((s6.trans s7).trans s8).trans s9).trans s10
      have f5 := t10 _ _ hF5
      have f9 := s10 _ _ hF9
      generalize hx0 : nat2 (ush s m t c) = x0 at *
      generalize hx1 : nat2 (ush s m t (c + 1)) = x1 at *
      generalize hx2 : nat2 (ush (s + 1) m t c) = x2 at *
      have c1 : x0.1 < 2 * (x0.2 : Int) := by rw [← hx0]; exact sh_two B
      have c2 : x0.1 * (x1.2 : Int) < x1.1 * (x0.2 : Int) := by rw [← hx0, ← hx1]; exact sh_more B B1
      refine ⟨_, rfl, p5, _, _, _, rfl, rfl, SqT.of f5, atI_nat (j := 0) rfl, _, rfl, p5, _, _, _, rfl, rfl, SqT.of f5, atI_nat (j := 1) rfl, _, _, rfl, rfl, .inl ⟨by decide, by decide⟩, _, _, rfl, rfl, _, rfl, ?_⟩
      rw [ge_f c1]
      refine iteF ⟨_, rfl, p5, _, _, _, rfl, rfl, SqT.of f5, atI_nat (j := 0) rfl, _, rfl, p9, _, _, _, rfl, rfl, SqT.of f9, atI_nat (j := 1) rfl, _, _, rfl, rfl, lim_mul (z0.la (by decide)) (z1.lb (by decide)), _, rfl, p9, _, _, _, rfl, rfl, SqT.of f9, atI_nat (j := 0) rfl, _, rfl, p5, _, _, _, rfl, rfl, SqT.of f5, atI_nat (j := 1) rfl, _, _, rfl, rfl, lim_mul (z1.la (by decide)) (z0.lb (by decide)), _, _, rfl, rfl, _, rfl, ?_⟩
      rw [ge_f c2]
      refine iteF ⟨_, rfl, _, _, rfl, rfl, _, rfl, ?_⟩
      have tE : Same H H10 := ((((sm.trans s3).trans s4).trans s5)).trans t10
      by_cases h0 : (0 : Int) < (c : Int)
      · rw [decide_eq_true h0]
        have c3 : x2.1 * (x0.2 : Int) < x0.1 * (x2.2 : Int) := by rw [← hx0, ← hx2]; exact sh_less B B2 (by omega)
        refine iteT ⟨_, rfl, p10, _, _, _, rfl, rfl, SqT.of hF10, atI_nat (j := 0) rfl, _, rfl, p5, _, _, _, rfl, rfl, SqT.of f5, atI_nat (j := 1) rfl, _, _, rfl, rfl, lim_mul (z2.la (by decide)) (z0.lb (by decide)), _, rfl, p5, _, _, _, rfl, rfl, SqT.of f5, atI_nat (j := 0) rfl, _, rfl, p10, _, _, _, rfl, rfl, SqT.of hF10, atI_nat (j := 1) rfl, _, _, rfl, rfl, lim_mul (z0.la (by decide)) (z2.lb (by decide)), _, _, rfl, rfl, _, rfl, ?_⟩
        rw [ge_f c3]
        exact iteF ⟨_, _, _, _, _, _, _, rfl, tE⟩
      · rw [decide_eq_false h0]
        exact iteF (iteF ⟨_, _, _, _, _, _, _, rfl, tE⟩)
    · rintro σ H' ⟨_, _, _, _, _, _, _, rfl, sm⟩
      exact k H' sm
@[elab_as_elim] theorem us5 {α : Type} {p : List α → Prop} (h : ∀ a b c d e, p [a, b, c, d, e]) (us : List α) (hl : us.length = 5) : p us := by
  match us, hl with
  | [a, b, c, d, e], _ => exact h a b c d e
noncomputable def Sm (v : V) (_ : Hp) : Prop := ∃ c : Nat, v = .int c ∧ c ≤ 8
theorem sm_of {i : Int} (h0 : 0 ≤ i) (h1 : i ≤ 8) (H : Hp) : Sm (.int i) H := ⟨i.toNat, by rw [Int.toNat_of_nonneg h0], by omega⟩
theorem min_nat {a : Nat} {j : Int} (hj : 0 ≤ j) : ∃ f : Nat, (if j < (a : Int) then j else (a : Int)) = (f : Int) ∧ f ≤ a := by
  split
  · exact ⟨j.toNat, (Int.toNat_of_nonneg hj).symm, by omega⟩
  · exact ⟨a, rfl, Nat.le_refl _⟩
theorem nl_rep (c n : Nat) : (List.replicate n [V.int (c : Int)]).flatten = nl (List.replicate n c) := by
  induction n with
  | zero => rfl
  | succ n ih => rw [List.replicate_succ, List.flatten_cons, ih, List.replicate_succ]; rfl
theorem usum_zero {s m t : Nat} : ∀ (l : List (Nat × Nat)) (z : Nat × Nat), (∀ x ∈ l, x.1 = 0) → z.1 = 0 → (l.foldl stp z).1 = 0
  | [], z, _, h => h
  | x :: l, z, h, hz => usum_zero (s := s) (m := m) (t := t) l (stp z x) (fun y hy => h y (List.mem_cons_of_mem _ hy)) (by show z.1 * x.2 + x.1 * z.2 = 0; rw [hz, h x List.mem_cons_self]; omega)
theorem nat2_nought {x : Nat × Nat} (h : 0 < x.2) (e : x.1 = 0) : nat2 x = (0, 1) := by
  have : nat2 x = mkF 0 1 := mkF_eq h Nat.one_pos (by rw [e]; simp)
  rw [this]
  rfl
theorem dt_fr {H : Hp} {q : Addr} {x : Fr} (h : FrA H q x) : DtV K H (.ref q) (.tuple [.int x.1, .int (x.2 : Nat)]) := .tup (SqT.of h) (.cons (.int _) (.cons (.int _) .nil))
theorem known_nl {H : Hp} (ns : List Nat) : ∀ x ∈ nl ns, Known K H x := fun x hx => by
  obtain ⟨c, _, rfl⟩ := List.mem_map.mp hx
  exact ⟨_, .int _⟩
theorem k3 {H : Hp} {a b c : Int} : ∀ y ∈ [V.int a, .int b, .int c], Known K H y := List.forall_mem_cons.mpr ⟨⟨_, .int _⟩, k2⟩
theorem good_nl (ns : List Nat) : ∀ x ∈ nl ns, goodN x 0 none = true := fun x hx => by
  obtain ⟨c, _, rfl⟩ := List.mem_map.mp hx
  exact good_n
theorem worth_good {H : Hp} {C a b : Addr} {cs fs : List Nat} {s m t : Nat} {Q : VK} {E : XK} (hA : H a = some (.lst (nl cs))) (hB : H b = some (.lst (nl fs))) (L : Ls cs fs s m t) (k : ∀ p H', Same H H' → H p = none → FrA H' p (nat2 (usum ((cs.zip fs).map (trm s m t)))) → Q (.ref p) H') :
    spWorth K C [.ref a, .ref b, .int (s : Int), .int (m : Int), .int (t : Int)] H Q E := by
  refine ⟨a, b, _, _, _, _, _, rfl, hA, hB, by rw [nl_len, nl_len]; exact L.l, by rw [nl_len]; exact L.n, known_nl _, known_nl _, k3, .inr ⟨s, m, t, rfl, rfl, rfl, fun x hx _ => ?_, fun x hx _ => ?_, fun cs' fs' e1 e2 => ?_, fun z => ?_⟩⟩
  · obtain ⟨c, hc, rfl⟩ := List.mem_map.mp hx
    exact ⟨c, rfl, L.c c hc⟩
  · obtain ⟨c, hc, rfl⟩ := List.mem_map.mp hx
    exact ⟨c, rfl, L.f c hc⟩
  · have inj : ∀ {a b : List Nat}, nl a = nl b → a = b := fun {a b} h => by
      refine List.map_inj_right (f := fun (n : Nat) => V.int (n : Int)) (fun x y hxy => ?_) |>.mp h
      injection hxy with hxy
      exact Int.ofNat.inj hxy
    rw [← inj e1, ← inj e2]
    exact k
  · refine (no_bad (fun x hx => ?_) z).elim
    rcases List.mem_append.mp hx with q | q
    · exact good_nl _ x q
    · exact good_nl _ x q
noncomputable def spNou (K : PySem.W.Frag) : Sp := fun vs H Q _ => ∃ (a : Addr) (ns : List Int), vs = [.ref a] ∧ SqL K H a (ns.map V.int) ∧ ns.length ≤ 63 ∧ ∀ H', Same H H' → Q (.bl true) H'
theorem scNou : FnScope ["_law_script", "_law_number_here", "_law_many", "_law_total", "_law_size", "_law_founds", "_law_found"] ["_law_script"] (defScope lNou) := ⟨rfl, rfl, rfl, by decide +kernel, rfl, by decide +kernel, by decide +kernel⟩
seal PSs PS PE PT PA PG PI PGs PIfs in
theorem ok_nou {f fnu fm fh fr fw fi fc C : Addr} {fd fdnu fdm fdh fdr fdw fdi fdc : FuncData} (D : Df K mg "_law_noughts_right" lNou f fd) (DNu : Df K mg "_law_number" lNumber fnu fdnu) (DM : Df K mg "_law_mixed" lMixed fm fdm) (DH : Df K mg "share_of" sShare fh fdh) (GH : FnOk P w K mg base (CX1 P w) 4 fh fdh ["count", "size", "many", "total"] (spShare K C)) (DR : Df K mg "rarity_of" sRar fr fdr) (GR : FnOk P w K mg base (CX1 P w) 4 fr fdr ["many", "found"] (spRar K C)) (DW : Df K mg "worth_of" sWorth fw fdw) (GW : FnOk P w K mg base (CX1 P w) 5 fw fdw ["counts", "founds", "size", "many", "total"] (spWorth K C)) (DI : Df K mg "_law_is" lIs fi fdi) (DC : Df K mg "_law_common" lCommon fc fdc) (T : Txt mg) : FnOk P w K mg base CX0 6 f fd ["_law_script"] (spNou K) := by
  have GNu : FnOk P w K mg base CX0 2 fnu fdnu ["_law_script", "_law_k"] (spNumber K) := ok_number DNu DM T
  have bNu := DNu.F.binds (ps := ["_law_script", "_law_k"]) fun _ _ _ _ _ _ us hl => us2 (fun _ _ => rfl) us hl
  have bH := DH.F.binds (ps := ["count", "size", "many", "total"]) fun _ _ _ _ _ _ us hl => us4 (fun _ _ _ _ => rfl) us hl
  have bR := DR.F.binds (ps := ["many", "found"]) fun _ _ _ _ _ _ us hl => us2 (fun _ _ => rfl) us hl
  have GI : FnOk P w K mg base CX0 2 fi fdi ["_law_found", "_law_above", "_law_below"] spIs := ok_is DI DC T
  have bI := DI.F.binds (ps := ["_law_found", "_law_above", "_law_below"]) fun _ _ _ _ _ _ us hl => us3 (fun _ _ _ => rfl) us hl
  have bW := DW.F.binds (ps := ["counts", "founds", "size", "many", "total"]) fun _ _ _ _ _ _ us hl => us5 (fun _ _ _ _ _ => rfl) us hl
  refine D.F.ok scNou (fun vs H Q E h => ?_) (fun cdv A outer s H vs Q E hr h => ?_)
  · obtain ⟨a, ns, rfl, _⟩ := h
    rfl
  · obtain ⟨a, ns, rfl, hS, hlen, kk⟩ := h
    have hz : (sizeLine : Nat) = 16777216 := sizeLine_eq
    refine ⟨_, (pss_cons (ps_set (i := 1) scNou.nd rfl (Or.inl rfl) (pe_call (GNu.mono (by decide)) hr rfl DNu.m DNu.F.kp bNu .nil pass0 (pa_cons (pv 0) (pa_cons pe_int pa_nil))))
      (pss_cons (ps_set (i := 2) scNou.nd rfl (Or.inl rfl) (pe_ix (ix_listK (K := K) rfl) (pe_lst (pa_cons pe_int (pa_cons (pe_op op_mod (pe_op op_fdiv (pv 1) pe_int) pe_int) pa_nil))) (pe_op op_mod (pv 1) pe_int) (fun _ _ => rfl)))
      (pss_cons (ps_set (i := 3) scNou.nd rfl (Or.inl rfl) (pe_ix (ix_listK (K := K) rfl) (pe_lst (pa_cons pe_int (pa_cons (pv 2) pa_nil))) (pe_op op_mod (pe_op op_fdiv (pv 1) pe_int) pe_int) (fun _ _ => rfl)))
      (pss_cons (ps_set (i := 4) scNou.nd rfl (Or.inl rfl) (pe_callB (call_min2 rfl) rfl T.min b_min (pa_cons (pv 3) (pa_cons (pe_op op_mod (pe_op op_fdiv (pv 1) pe_int) pe_int) pa_nil))))
      (pss_cons (ps_set (i := 5) scNou.nd rfl (Or.inl rfl) (pe_op op_rep (pe_lst (pa_cons (pe_callB (call_min2 rfl) rfl T.min b_min (pa_cons (pv 2) (pa_cons (pe_op op_mod (pe_op op_fdiv (pv 1) pe_int) pe_int) pa_nil))) pa_nil)) (pe_op op_mod (pe_op op_fdiv (pv 1) pe_int) pe_int)))
      (pss_cons (ps_if (PW.pt (pw_or (pt_cmpR (op_neD hr.units100) (pe_call (GH.mono (by decide)) hr rfl DH.m DH.F.kp bH .nil passN (pa_cons pe_int (pa_cons (pv 4) (pa_cons (pv 2) (pa_cons (pv 3) pa_nil))))) (pe_tup (pa_cons pe_int (pa_cons pe_int pa_nil))) (nomark _)) (pw_or1 (pt_cmpR (op_neD hr.units100) (pe_call (GW.mono (by decide)) hr rfl DW.m DW.F.kp bW .nil passN (pa_cons (pe_op op_rep (pe_lst (pa_cons pe_int pa_nil)) (pe_callB call_len_seq rfl T.len b_len (pa_cons (pv 5) pa_nil))) (pa_cons (pv 5) (pa_cons (pv 4) (pa_cons (pv 2) (pa_cons (pv 3) pa_nil)))))) (pe_tup (pa_cons pe_int (pa_cons pe_int pa_nil))) (nomark _))))) (pss_one (ps_ret pe_bl)) pss_nil)
      (pss_cons (ps_set (i := 6) scNou.nd rfl (Or.inl rfl) (pe_callB (call_min2 rfl) rfl T.min b_min (pa_cons (pv 2) (pa_cons (pe_op op_mod (pe_op op_fdiv (pv 1) pe_int) pe_int) pa_nil))))
      (pss_one (ps_ret (pe_call (GI.mono (by decide)) hr rfl DI.m DI.F.kp bI .nil pass0 (pa_cons (pe_call (GR.mono (by decide)) hr rfl DR.m DR.F.kp bR .nil passN (pa_cons (pv 2) (pa_cons (pv 6) pa_nil))) (pa_cons (pe_op op_add (pv 2) pe_int) (pa_cons (pe_op op_add (pv 6) pe_int) pa_nil))))))))))))), ?_⟩
    refine ⟨_, rfl, a, ns, 23, rfl, hS, hlen, by decide, fun n H1 n0 _ s1 => ?_⟩
    have md := fun (i : Int) {m : Int} (hm : 0 < m) => And.intro (Int.emod_nonneg i (show m ≠ 0 by omega)) (Int.emod_lt_of_pos i hm)
    have m9 := md (n / 4) (m := 9) (by decide)
    have m3 := md (n / 36) (m := 3) (by decide)
    have m4 := md (n / 108) (m := 4) (by decide)
    have m44 := md (n / 432) (m := 4) (by decide)
    refine ⟨_, rfl, _, _, rfl, rfl, ⟨by decide, by decide⟩, _, _, rfl, rfl, (by show (0 : Int) < 9; decide), (by show 2 ≤ sizeLine; omega), fun u1 hu1 => ⟨_, rfl, _, _, rfl, rfl, (by show (0 : Int) < 2; decide), ?_⟩⟩
    refine ixPickP Sm upd_same (by show 0 < 2; decide) rfl (List.forall_mem_cons.mpr ⟨⟨0, rfl, by decide⟩, List.forall_mem_cons.mpr ⟨sm_of m9.1 (by omega) _, fun v hv => nomatch hv⟩⟩) ?_
    rintro v ⟨m, rfl, hm⟩
    have s2 := s1.trans (same_upd (o := .lst [.int 0, .int (n / 4 % 9)]) hu1)
    generalize upd H1 u1 (.lst [.int 0, .int (n / 4 % 9)]) = H2 at s2
    refine ⟨_, rfl, (by show 2 ≤ sizeLine; omega), fun u2 hu2 => ⟨_, rfl, _, _, rfl, rfl, ⟨by decide, by decide⟩, _, _, rfl, rfl, (by show (0 : Int) < 2; decide), ?_⟩⟩
    refine ixPickP Sm upd_same (by show 0 < 2; decide) rfl (List.forall_mem_cons.mpr ⟨⟨0, rfl, by decide⟩, List.forall_mem_cons.mpr ⟨⟨m, rfl, hm⟩, fun v hv => nomatch hv⟩⟩) ?_
    rintro v ⟨t, rfl, ht⟩
    have s3 := s2.trans (same_upd (o := .lst [.int 0, .int (m : Int)]) hu2)
    generalize upd H2 u2 (.lst [.int 0, .int (m : Int)]) = H3 at s3
    obtain ⟨sz, hsz, lsz⟩ := min_nat (a := t) m3.1
    obtain ⟨f, hf, lf⟩ := min_nat (a := m) m4.1
    refine ⟨_, rfl, _, rfl, _, _, rfl, rfl, ⟨by decide, by decide⟩, _, _, rfl, rfl, (by show (0 : Int) < 3; decide), _, _, rfl, ?_⟩
    rw [hsz]
    refine ⟨_, rfl, _, rfl, _, _, rfl, rfl, ⟨by decide, by decide⟩, _, _, rfl, rfl, (by show (0 : Int) < 4; decide), _, _, rfl, ?_⟩
    rw [hf]
    obtain ⟨j, hj, hj4⟩ := mod_ix (r := n / 432) (n := 4) (by decide)
    refine ⟨(by show 1 ≤ sizeLine; omega), fun u3 hu3 => ⟨_, rfl, _, _, rfl, rfl, ⟨by decide, by decide⟩, _, _, rfl, rfl, (by show (0 : Int) < 4; decide), u3, _, _, rfl, rfl, upd_same, by show -(2 ^ 63) ≤ n / 432 % 4; omega, by show n / 432 % 4 < 2 ^ 63; omega, by show 1 * (n / 432 % 4).toNat ≤ _; omega, fun u4 hu4 => ?_⟩⟩
    have s4 : Same H (upd (upd H3 u3 (.lst [.int (f : Int)])) u4 (.lst (List.replicate (n / 432 % 4).toNat [V.int (f : Int)]).flatten)) := s3.trans (Same.upd (same_upd hu3) hu4)
    have e4 : (upd (upd H3 u3 (.lst [.int (f : Int)])) u4 (.lst (List.replicate (n / 432 % 4).toNat [V.int (f : Int)]).flatten)) u4 = some (.lst (nl (List.replicate (n / 432 % 4).toNat f))) := by rw [upd_same, nl_rep]
    generalize upd (upd H3 u3 (.lst [.int (f : Int)])) u4 (.lst (List.replicate (n / 432 % 4).toNat [V.int (f : Int)]).flatten) = H4 at s4 e4
    have k4l : (n / 432 % 4).toNat ≤ 3 := by omega
    generalize (n / 432 % 4).toNat = r at k4l e4
    have B : Bd sz m t 0 := ⟨by decide, by omega, by omega, by omega, fun z => absurd rfl z⟩
    refine ⟨_, rfl, _, rfl, _, rfl, _, _, _, _, rfl, k4, .inl ⟨0, sz, m, t, rfl, rfl, rfl, rfl, B, fun p5 H5 s5 hp5 hF5 => ?_⟩⟩
    refine ⟨(by show 2 ≤ sizeLine; omega), fun u6 hu6 => ?_⟩
    have e0 : nat2 (ush sz m t 0) = (0, 1) := nat2_nought (ush_pos B) rfl
    rw [e0] at hF5
    refine ⟨_, _, dt_fr (x := (0, 1)) (same_upd hu6 _ _ hF5), dt_fr (x := (0, 1)) upd_same, rfl, rfl, by decide, _, rfl, iteF ?_⟩
    have s6 := s4.trans (s5.trans (same_upd (o := .tup [.int 0, .int 1]) hu6))
    have e6 := same_upd (o := .tup [.int 0, .int 1]) hu6 _ _ (s5 _ _ e4)
    generalize upd H5 u6 (.tup [.int 0, .int 1]) = H6 at s6 e6
    refine ⟨(by show 1 ≤ sizeLine; omega), fun u7 hu7 => ?_⟩
    have e7 := same_upd (o := .lst [.int 0]) hu7 _ _ e6
    have s7 := s6.trans (same_upd (o := .lst [.int 0]) hu7)
    have z7 : (upd H6 u7 (.lst [.int 0])) u7 = some (.lst [.int 0]) := upd_same
    generalize upd H6 u7 (.lst [.int 0]) = H7 at s7 e7 z7
    have lr : ((nl (List.replicate r f)).length : Int) = (r : Int) := by rw [nl_len, List.length_replicate]
    refine ⟨_, rfl, u4, _, rfl, .inl (SqL.of e7), u7, _, _, rfl, rfl, z7, by rw [lr]; omega, by rw [lr]; omega, by rw [lr]; show 1 * (r : Int).toNat ≤ _; omega, fun u8 hu8 => ?_⟩
    have lr' : (((nl (List.replicate r f)).length : Nat) : Int).toNat = r := by rw [lr]; omega
    have s8 := same_upd (o := .lst (List.replicate (((nl (List.replicate r f)).length : Nat) : Int).toNat [V.int 0]).flatten) hu8
    have e8 : (upd H7 u8 (.lst (List.replicate (((nl (List.replicate r f)).length : Nat) : Int).toNat [V.int 0]).flatten)) u8 = some (.lst (nl (List.replicate r 0))) := by rw [upd_same, lr']; exact congrArg (fun z => some (HO.lst z)) (nl_rep 0 r)
    generalize upd H7 u8 (.lst (List.replicate (((nl (List.replicate r f)).length : Nat) : Int).toNat [V.int 0]).flatten) = H8 at s8 e8
    have L : Ls (List.replicate r 0) (List.replicate r f) sz m t := ⟨by rw [List.length_replicate, List.length_replicate], by rw [List.length_replicate]; omega, fun c hc => by rw [(List.mem_replicate.mp hc).2]; exact B, fun c hc => by rw [(List.mem_replicate.mp hc).2]; omega⟩
    refine ⟨_, rfl, _, rfl, _, rfl, _, rfl, tnil_ (worth_good e8 (s8 _ _ e7) L fun p9 H9 s9 hp9 hF9 => ?_)⟩
    obtain ⟨u1, _, _⟩ := usum_ok L.trs
    have e9 : nat2 (usum (((List.replicate r 0).zip (List.replicate r f)).map (trm sz m t))) = (0, 1) := by
      refine nat2_nought u1 (usum_zero (s := sz) (m := m) (t := t) _ _ (fun x hx => ?_) rfl)
      obtain ⟨⟨c, g⟩, hp, rfl⟩ := List.mem_map.mp hx
      have hc := (List.mem_replicate.mp (List.of_mem_zip hp).1).2
      subst hc
      show 0 * (m + 1) = 0
      omega
    rw [e9] at hF9
    refine ⟨(by show 2 ≤ sizeLine; omega), fun u10 hu10 => ?_⟩
    refine ⟨_, _, dt_fr (x := (0, 1)) (same_upd hu10 _ _ hF9), dt_fr (x := (0, 1)) upd_same, rfl, rfl, by decide, _, rfl, iteF ?_⟩
    have s10 : Same H (upd H9 u10 (.tup [.int 0, .int 1])) := ((s7.trans s8).trans s9).trans (same_upd hu10)
    generalize upd H9 u10 (.tup [.int 0, .int 1]) = H10 at s10
    refine ⟨_, rfl, _, rfl, _, _, rfl, rfl, ⟨by decide, by decide⟩, _, _, rfl, rfl, (by show (0 : Int) < 4; decide), _, _, rfl, ?_⟩
    rw [hf]
    refine ⟨_, rfl, _, rfl, _, _, rfl, k2, .inl ⟨m, f, rfl, rfl, by omega, fun p11 H11 s11 hp11 hF11 => ?_⟩⟩
    exact ⟨_, rfl, _, _, rfl, rfl, _, rfl, _, _, rfl, rfl, p11, _, m + 1, f + 1, rfl, hF11, nat2_is (x := (m + 1, f + 1)) (n := 10) (Nat.succ_pos _) (by show m + 1 ≤ 10 ^ 10; omega) (by show f + 1 ≤ 10 ^ 10; omega) (by decide), fun H12 s12 => kk _ ((s10.trans s11).trans s12)⟩
end
end K19
set_option Elab.async false
set_option linter.all false
set_option maxRecDepth 100000
set_option maxHeartbeats 4000000
namespace K19
open PySem L2 PyProof.Rows PySem.Spec Gn WO
open K03 (Fr mkF mkF_up mkF_dn mkF_pos mkF_le mkF_abs mkF_lt gcd_pos' less)
structure Cl (mg : Str → Option Value) (CH CN CT : Addr) : Prop where
  h : mg "HallError" = some (.ref CH)
  n : mg "BadNumber" = some (.ref CN)
  t : mg "BadText" = some (.ref CT)
structure CF (K : PySem.W.Frag) (CH CN CT : Addr) : Prop where
  x : PySem.W.ExcCls K CN
  n : PySem.W.kitOne K (.ref CN) (.ref CN) = some true
  t : PySem.W.kitOne K (.ref CN) (.ref CT) = some false
  v : PySem.W.kitOne K (.ref CN) (.type "ValueError") = some true
  e : PySem.W.exmOne K (.ref CN) (.ref CH) = some true
section
variable {P : Program} {w : World} {K : PySem.W.Frag} {mg : Str → Option Value} {base : Heap} {CH CN CT : Addr}
noncomputable def Od (K : PySem.W.Frag) (v : V) (H : Hp) : Prop := Known K H v ∧ goodN v 0 none = false
theorem odd8 {H : Hp} {l t : Addr} {i : Int} (hl : H l = some (.lst [.int 1])) (ht : H t = some (.tup [.int 1])) (hi : i < 0) : ∀ v ∈ [V.int (-1), .bl true, .non, .str (Str.ofString "3"), .ref l, .ref t, .int i, .bl false], Od K v H := by
  refine List.forall_mem_cons.mpr ⟨⟨⟨_, .int _⟩, rfl⟩, List.forall_mem_cons.mpr ⟨⟨⟨_, .bl _⟩, rfl⟩, List.forall_mem_cons.mpr ⟨⟨⟨_, .non⟩, rfl⟩, List.forall_mem_cons.mpr ⟨⟨⟨_, .str _⟩, rfl⟩, List.forall_mem_cons.mpr ⟨⟨⟨_, .lst hl⟩, rfl⟩, List.forall_mem_cons.mpr ⟨⟨⟨_, .tup ht⟩, rfl⟩, List.forall_mem_cons.mpr ⟨⟨⟨_, .int _⟩, ?_⟩, List.forall_mem_cons.mpr ⟨⟨⟨_, .bl _⟩, rfl⟩, fun v hv => nomatch hv⟩⟩⟩⟩⟩⟩⟩⟩
  show (decide ((0 : Int) ≤ i) && true) = false
  rw [decide_eq_false (by omega)]
  rfl
structure Rf (K : PySem.W.Frag) (H : Hp) (xs ys : List V) (x2 x3 x4 : V) : Prop where
  l : xs.length = ys.length
  n : xs.length ≤ 8
  x : ∀ x ∈ xs, Known K H x
  y : ∀ x ∈ ys, Known K H x
  k : ∀ x ∈ [x2, x3, x4], Known K H x
  b : (∃ x ∈ [x2, x3, x4], goodN x 0 none = false) ∨ (x2 = .int 2 ∧ x3 = .int 3 ∧ x4 = .int 5 ∧ (∀ x ∈ xs, goodN x 0 none = true → ∃ c : Nat, x = .int c ∧ c ≤ 2) ∧ (∀ x ∈ ys, goodN x 0 none = true → ∃ c : Nat, x = .int c ∧ c ≤ 2) ∧ ∃ x ∈ xs ++ ys, goodN x 0 none = false)
theorem bd2 {c : Nat} (h : c ≤ 2) : Bd 2 3 5 c := ⟨by omega, by decide, by decide, by decide, fun _ => ⟨by decide, by decide, by decide⟩⟩
theorem Rf.bad {H : Hp} {C a b : Addr} {xs ys : List V} {x2 x3 x4 : V} {Q : VK} {E : XK} (h : Rf K H xs ys x2 x3 x4) (hA : H a = some (.lst xs)) (hB : H b = some (.lst ys)) (k : ∀ H', Same H H' → E (.ref C) none H') : spWorth K C [.ref a, .ref b, x2, x3, x4] H Q E := by
  refine ⟨a, b, xs, ys, x2, x3, x4, rfl, hA, hB, h.l, h.n, h.x, h.y, h.k, ?_⟩
  rcases h.b with q | ⟨rfl, rfl, rfl, q1, q2, q3⟩
  · exact .inl ⟨q, k⟩
  · refine .inr ⟨2, 3, 5, rfl, rfl, rfl, fun x hx g => ?_, fun x hx g => ?_, fun cs fs e1 e2 => ?_, fun _ => k⟩
    · obtain ⟨c, e, hc⟩ := q1 x hx g
      exact ⟨c, e, bd2 hc⟩
    · obtain ⟨c, e, hc⟩ := q2 x hx g
      exact ⟨c, e, by omega⟩
    · subst e1 e2
      refine (no_good q3 fun x hx => ?_).elim
      rcases List.mem_append.mp hx with q | q
      · exact good_nl _ x q
      · exact good_nl _ x q
theorem ixN_of {n i : Nat} (h : i < n) : ixN n (i : Int) = some i := by
  unfold ixN
  rw [if_pos (by omega)]
  simp [h]
theorem known_put {H : Hp} {a : Addr} {xs ys : List V} {x : V} (h : Known K H x) (ha : H a = some (.lst xs)) : Known K (upd H a (.lst ys)) x := by
  obtain ⟨n, h⟩ := h
  have go : ∀ {b : Addr} {o : HO}, H b = some o → (∀ zs, o ≠ .lst zs) → upd H a (.lst ys) b = some o := fun {b o} e hne => by
    by_cases z : b = a
    · subst z; rw [ha] at e; injection e with e; exact absurd e.symm (hne _)
    · rw [upd_ne z]; exact e
  cases h with
  | non => exact ⟨_, .non⟩
  | bl b => exact ⟨_, .bl b⟩
  | int i => exact ⟨_, .int i⟩
  | str z => exact ⟨_, .str z⟩
  | flt z => exact ⟨_, .flt z⟩
  | lst q =>
    rename_i b zs
    by_cases z : b = a
    · subst z; exact ⟨_, .lst upd_same⟩
    · exact ⟨_, .lst (by rw [upd_ne z]; exact q)⟩
  | frz q => exact ⟨_, .frz (go q fun _ z => by cases z)⟩
  | tup q => exact ⟨_, .tup (go q fun _ z => by cases z)⟩
  | dK q => exact ⟨_, .dK (go q fun _ z => by cases z)⟩
  | dT q => exact ⟨_, .dT (go q fun _ z => by cases z)⟩
theorem two_ok {a b : Nat} (ha : a ≤ 2) (hb : b ≤ 2) : ∀ x ∈ nl [a, b], goodN x 0 none = true → ∃ c : Nat, x = .int c ∧ c ≤ 2 :=
  List.forall_mem_cons.mpr ⟨fun _ => ⟨a, rfl, ha⟩, List.forall_mem_cons.mpr ⟨fun _ => ⟨b, rfl, hb⟩, fun v hv => nomatch hv⟩⟩
theorem two_set {od : V} {a b j : Nat} (bod : goodN od 0 none = false) (ha : a ≤ 2) (hb : b ≤ 2) (hj : j < 2) : ((nl [a, b]).set j od).length = 2 ∧ (∀ H : Hp, Known K H od → ∀ x ∈ (nl [a, b]).set j od, Known K H x) ∧ (∀ x ∈ (nl [a, b]).set j od, goodN x 0 none = true → ∃ c : Nat, x = .int c ∧ c ≤ 2) ∧ ∃ x ∈ (nl [a, b]).set j od, goodN x 0 none = false := by
  have bad : ∀ {A : Prop}, goodN od 0 none = true → A := fun h => by rw [bod] at h; cases h
  rcases (show j = 0 ∨ j = 1 by omega) with rfl | rfl
  · exact ⟨rfl, fun H k => List.forall_mem_cons.mpr ⟨k, List.forall_mem_cons.mpr ⟨⟨_, .int _⟩, fun v hv => nomatch hv⟩⟩, List.forall_mem_cons.mpr ⟨fun h => bad h, List.forall_mem_cons.mpr ⟨fun _ => ⟨b, rfl, hb⟩, fun v hv => nomatch hv⟩⟩, od, List.mem_cons_self, bod⟩
  · exact ⟨rfl, fun H k => List.forall_mem_cons.mpr ⟨⟨_, .int _⟩, List.forall_mem_cons.mpr ⟨k, fun v hv => nomatch hv⟩⟩, List.forall_mem_cons.mpr ⟨fun _ => ⟨a, rfl, ha⟩, List.forall_mem_cons.mpr ⟨fun h => bad h, fun v hv => nomatch hv⟩⟩, od, List.mem_cons_of_mem _ List.mem_cons_self, bod⟩
theorem rf_x {H : Hp} {od : V} {a b c d j : Nat} (ko : Known K H od) (bod : goodN od 0 none = false) (ha : a ≤ 2) (hb : b ≤ 2) (hc : c ≤ 2) (hd : d ≤ 2) (hj : j < 2) : Rf K H ((nl [a, b]).set j od) (nl [c, d]) (.int 2) (.int 3) (.int 5) := by
  obtain ⟨h1, h2, h3, x, h4, h5⟩ := two_set (K := K) bod ha hb hj
  exact ⟨by rw [h1]; rfl, by rw [h1]; decide, h2 H ko, known_nl _, k3, .inr ⟨rfl, rfl, rfl, h3, two_ok hc hd, x, List.mem_append_left _ h4, h5⟩⟩
theorem rf_y {H : Hp} {od : V} {a b c d j : Nat} (ko : Known K H od) (bod : goodN od 0 none = false) (ha : a ≤ 2) (hb : b ≤ 2) (hc : c ≤ 2) (hd : d ≤ 2) (hj : j < 2) : Rf K H (nl [a, b]) ((nl [c, d]).set j od) (.int 2) (.int 3) (.int 5) := by
  obtain ⟨h1, h2, h3, x, h4, h5⟩ := two_set (K := K) bod hc hd hj
  exact ⟨by rw [h1]; rfl, by show 2 ≤ 8; decide, known_nl _, h2 H ko, k3, .inr ⟨rfl, rfl, rfl, two_ok ha hb, h3, x, List.mem_append_right _ h4, h5⟩⟩
noncomputable def spRef : Sp := fun vs H Q _ => ∃ (wy : Nat) (n : Int), vs = [.int wy, .int n] ∧ wy < 3 ∧ ∀ H', Same H H' → Q (.bl true) H'
theorem scRef : FnScope ["_law_way", "_law_number_here", "_law_odd", "_law_good", "_law_at", "_law_whole", "_law_lists", "e"] ["_law_way", "_law_number_here"] (defScope lRef) := ⟨rfl, rfl, rfl, by decide +kernel, rfl, by decide +kernel, by decide +kernel⟩
seal PSs PS PE PT PA PG PI PGs PIfs in
theorem ok_ref {f fh fr fw : Addr} {fd fdh fdr fdw : FuncData} (D : Df K mg "_law_refused" lRef f fd) (C : Cl mg CH CN CT) (F : CF K CH CN CT) (DH : Df K mg "share_of" sShare fh fdh) (GH : FnOk P w K mg base (CX1 P w) 4 fh fdh ["count", "size", "many", "total"] (spShare K CN)) (DR : Df K mg "rarity_of" sRar fr fdr) (GR : FnOk P w K mg base (CX1 P w) 4 fr fdr ["many", "found"] (spRar K CN)) (DW : Df K mg "worth_of" sWorth fw fdw) (GW : FnOk P w K mg base (CX1 P w) 5 fw fdw ["counts", "founds", "size", "many", "total"] (spWorth K CN)) (T : Txt mg) : FnOk P w K mg base CX0 6 f fd ["_law_way", "_law_number_here"] spRef := by
  have bH := DH.F.binds (ps := ["count", "size", "many", "total"]) fun _ _ _ _ _ _ us hl => us4 (fun _ _ _ _ => rfl) us hl
  have bR := DR.F.binds (ps := ["many", "found"]) fun _ _ _ _ _ _ us hl => us2 (fun _ _ => rfl) us hl
  have bW := DW.F.binds (ps := ["counts", "founds", "size", "many", "total"]) fun _ _ _ _ _ _ us hl => us5 (fun _ _ _ _ _ => rfl) us hl
  refine D.F.ok scRef (fun vs H Q E h => ?_) (fun cdv A outer s H vs Q E hr h => ?_)
  · obtain ⟨wy, n, rfl, _⟩ := h
    rfl
  · obtain ⟨wy, n, rfl, hwy, kk⟩ := h
    have hz : (sizeLine : Nat) = 16777216 := sizeLine_eq
    refine ⟨_, (pss_cons (ps_set (i := 2) scRef.nd rfl (Or.inl rfl) (pe_ix (ix_listK (K := K) rfl) (pe_lst (pa_cons (pe_un un_neg pe_int) (pa_cons pe_bl (pa_cons pe_non (pa_cons pe_str (pa_cons (pe_lst (pa_cons pe_int pa_nil)) (pa_cons (pe_tup (pa_cons pe_int pa_nil)) (pa_cons (pe_op op_sub pe_int (pe_op op_pow pe_int pe_int)) (pa_cons pe_bl pa_nil))))))))) (pe_op op_mod (pv 1) pe_int) (fun _ _ => rfl)))
      (pss_cons (ps_set (i := 3) scRef.nd rfl (Or.inl rfl) (pe_lst (pa_cons (pe_op op_mul (pe_op op_mod (pe_op op_fdiv (pv 1) pe_int) pe_int) (pe_op op_add pe_int (pe_op op_mod (pe_op op_fdiv (pv 1) pe_int) pe_int))) (pa_cons (pe_op op_add pe_int (pe_op op_mod (pe_op op_fdiv (pv 1) pe_int) pe_int)) (pa_cons pe_int (pa_cons (pe_op op_add pe_int (pe_op op_mod (pe_op op_fdiv (pv 1) pe_int) pe_int)) pa_nil))))))
      (pss_cons (ps_set (i := 4) scRef.nd rfl (Or.inl rfl) (pe_op op_mod (pe_op op_fdiv (pv 1) pe_int) (pe_ix (ix_listK (K := K) rfl) (pe_lst (pa_cons pe_int (pa_cons pe_int (pa_cons pe_int pa_nil)))) (pv 0) (fun _ _ => rfl))))
      (pss_cons (ps_set (i := 5) scRef.nd rfl (Or.inl rfl) (pe_lst (pa_cons pe_int (pa_cons pe_int (pa_cons pe_int pa_nil)))))
      (pss_cons (ps_set (i := 6) scRef.nd rfl (Or.inl rfl) (pe_lst (pa_cons (pe_lst (pa_cons (pe_op op_mod (pe_op op_fdiv (pv 1) pe_int) pe_int) (pa_cons (pe_op op_mod (pe_op op_fdiv (pv 1) pe_int) pe_int) pa_nil))) (pa_cons (pe_lst (pa_cons pe_int (pa_cons pe_int pa_nil))) pa_nil))))
      (pss_cons (ps_ifJ (PW.pt (pw_and (pt_cmpR op_eq (pe_op op_mod (pe_op op_fdiv (pv 1) pe_int) pe_int) pe_int (nomark _)) (pw_and1 (pt_cmpR op_lt (pv 4) pe_int (nomark _))))) (pss_one (ps_set (i := 6) scRef.nd rfl (Or.inl rfl) (pe_lst (pa_cons (pe_lst pa_nil) (pa_cons (pe_lst pa_nil) pa_nil))))) pss_nil)
      (pss_cons (ps_ifJ (pt_cmpR op_lt (pv 4) pe_int (nomark _)) (pss_one (ps_asg (pv 2) (pg_sub (pv 5) (pv 4) set_list))) (pss_one (ps_asg (pv 2) (pg_sub (pe_ix (ix_listK (K := K) rfl) (pv 6) (pe_op op_sub (pv 4) pe_int) (fun _ _ => rfl)) (pe_op op_mod (pe_op op_fdiv (pv 1) pe_int) pe_int) set_list))))
      (pss_cons (ps_try (CH := CH) (i := 7) (fun σ cls _ H' => (∃ (od : V) (g wl L : Addr) (i : Int), σ = [some (.int (wy : Int)), some (.int n), some od, some (.ref g), some (.int i), some (.ref wl), some (.ref L), none]) ∧ Same H H' ∧ cls = .ref CN) rfl rfl scRef.nd rfl rfl rfl C.h
        (fun p xe hx => (pss_one (ps_if (pt_cmpR op_eq (pv 0) pe_int (nomark _)) (pss_cons (ps_asg (pv 2) (pg_sub (pv 3) (pv 4) set_list))
      (pss_one (ps_expr (pe_callS (GH.mono (by decide)) hr rfl DH.m DH.F.kp bH .nil hx (pa_cons (pe_ix (ix_listK (K := K) rfl) (pv 3) pe_int (fun _ _ => rfl)) (pa_cons (pe_ix (ix_listK (K := K) rfl) (pv 3) pe_int (fun _ _ => rfl)) (pa_cons (pe_ix (ix_listK (K := K) rfl) (pv 3) pe_int (fun _ _ => rfl)) (pa_cons (pe_ix (ix_listK (K := K) rfl) (pv 3) pe_int (fun _ _ => rfl)) pa_nil)))))))) (pss_one (ps_if (pt_cmpR op_eq (pv 0) pe_int (nomark _)) (pss_one (ps_expr (pe_callS (GR.mono (by decide)) hr rfl DR.m DR.F.kp bR .nil hx (pa_cons (pe_ix (ix_listK (K := K) rfl) (pe_lst (pa_cons (pv 2) (pa_cons (pe_ix (ix_listK (K := K) rfl) (pv 3) pe_int (fun _ _ => rfl)) pa_nil))) (pv 4) (fun _ _ => rfl)) (pa_cons (pe_ix (ix_listK (K := K) rfl) (pe_lst (pa_cons (pe_ix (ix_listK (K := K) rfl) (pv 3) pe_int (fun _ _ => rfl)) (pa_cons (pv 2) pa_nil))) (pv 4) (fun _ _ => rfl)) pa_nil))))) (pss_one (ps_expr (pe_callS GW hr rfl DW.m DW.F.kp bW .nil hx (pa_cons (pe_ix (ix_listK (K := K) rfl) (pv 6) pe_int (fun _ _ => rfl)) (pa_cons (pe_ix (ix_listK (K := K) rfl) (pv 6) pe_int (fun _ _ => rfl)) (pa_cons (pe_ix (ix_listK (K := K) rfl) (pv 5) pe_int (fun _ _ => rfl)) (pa_cons (pe_ix (ix_listK (K := K) rfl) (pv 5) pe_int (fun _ _ => rfl)) (pa_cons (pe_ix (ix_listK (K := K) rfl) (pv 5) pe_int (fun _ _ => rfl)) pa_nil)))))))))))))
        (fun ea p => (pss_one (ps_ret (pe_and (pe_callB (call_isiEK (K := K) rfl) rfl T.isi b_isi (pa_cons (pv 7) (pa_cons (pe_glob (v := .ref CN) rfl C.n rfl) pa_nil))) (pe_and (pe_callB (call_isiEK (K := K) rfl) rfl T.isi b_isi (pa_cons (pv 7) (pa_cons (pe_bltn (v := .ty "ValueError") rfl T.val b_val rfl) pa_nil))) (pe_one (pe_not (pe_callB (call_isiEK (K := K) rfl) rfl T.isi b_isi (pa_cons (pv 7) (pa_cons (pe_glob (v := .ref CT) rfl C.t rfl) pa_nil)))))))))))
      (pss_one (ps_ret pe_bl)))))))))), ?_⟩
    have md := fun (i : Int) {m : Int} (hm : 0 < m) => And.intro (Int.emod_nonneg i (show m ≠ 0 by omega)) (Int.emod_lt_of_pos i hm)
    refine ⟨_, rfl, (by show 1 ≤ sizeLine; omega), fun u1 hu1 => ⟨(by show 1 ≤ sizeLine; omega), fun u2 hu2 => ⟨_, _, rfl, rfl, ⟨by decide, by decide, by decide⟩, _, _, rfl, rfl, (by show 8 ≤ sizeLine; omega), fun u3 hu3 => ⟨_, rfl, _, _, rfl, rfl, (by show (0 : Int) < 8; decide), ?_⟩⟩⟩⟩
    have s3 := Same.upd (o := .lst [V.int (-1), .bl true, .non, .str (Str.ofString "3"), .ref u1, .ref u2, .int (0 - 10 ^ (20 : Int).toNat), .bl false]) (Same.upd (o := .tup [.int 1]) (same_upd (o := .lst [.int 1]) hu1) hu2) hu3
    have h1 := same_upd (o := .lst [V.int (-1), .bl true, .non, .str (Str.ofString "3"), .ref u1, .ref u2, .int (0 - 10 ^ (20 : Int).toNat), .bl false]) hu3 _ _ (same_upd (o := .tup [.int 1]) hu2 _ _ (upd_same (H := H) (a := u1) (o := .lst [.int 1])))
    have h2 := same_upd (o := .lst [V.int (-1), .bl true, .non, .str (Str.ofString "3"), .ref u1, .ref u2, .int (0 - 10 ^ (20 : Int).toNat), .bl false]) hu3 _ _ (upd_same (H := upd H u1 (.lst [.int 1])) (a := u2) (o := .tup [.int 1]))
    refine ixPickP (Od K) upd_same (by show 0 < 8; decide) rfl (odd8 h1 h2 (by decide)) ?_
    rintro od ⟨kod, bod⟩
    replace kod := kod
    generalize upd (upd (upd H u1 (.lst [.int 1])) u2 (.tup [.int 1])) u3 (.lst [V.int (-1), .bl true, .non, .str (Str.ofString "3"), .ref u1, .ref u2, .int (0 - 10 ^ (20 : Int).toNat), .bl false]) = H3 at s3 kod
    have a9 := md (n / 8) (m := 9) (by decide)
    refine ⟨_, rfl, _, _, rfl, rfl, ⟨by decide, by decide⟩, _, _, rfl, rfl, (by show (0 : Int) < 2; decide), _, rfl, _, _, rfl, rfl, ⟨by decide, by decide⟩, _, _, rfl, rfl, (by show (0 : Int) < 9; decide), _, _, rfl, rfl, _, _, rfl, rfl, .inr ⟨by omega, by omega⟩, _, rfl, _, _, rfl, rfl, ⟨by decide, by decide⟩, _, _, rfl, rfl, (by show (0 : Int) < 9; decide), _, _, rfl, rfl, _, rfl, _, _, rfl, rfl, ⟨by decide, by decide⟩, _, _, rfl, rfl, (by show (0 : Int) < 9; decide), _, _, rfl, rfl, (by show 4 ≤ sizeLine; omega), fun g hg => ?_⟩
    have hg0 : H g = none := s3.free hg
    have s4 := s3.trans (same_upd (o := .lst [V.int (n / 3 % 2 * (1 + n / 8 % 9)), .int (2 + n / 72 % 9), .int 3, .int (12 + n / 648 % 9)]) hg)
    have k4' := kod.same (same_upd (o := .lst [V.int (n / 3 % 2 * (1 + n / 8 % 9)), .int (2 + n / 72 % 9), .int 3, .int (12 + n / 648 % 9)]) hg)
    have eG : (upd H3 g (.lst [V.int (n / 3 % 2 * (1 + n / 8 % 9)), .int (2 + n / 72 % 9), .int 3, .int (12 + n / 648 % 9)])) g = some (.lst [V.int (n / 3 % 2 * (1 + n / 8 % 9)), .int (2 + n / 72 % 9), .int 3, .int (12 + n / 648 % 9)]) := upd_same
    generalize upd H3 g (.lst [V.int (n / 3 % 2 * (1 + n / 8 % 9)), .int (2 + n / 72 % 9), .int 3, .int (12 + n / 648 % 9)]) = H4 at s4 k4' eG
    generalize n / 3 % 2 * (1 + n / 8 % 9) = g0 at eG
    generalize 2 + n / 72 % 9 = g1 at eG
    generalize 12 + n / 648 % 9 = g3 at eG
    refine ⟨_, rfl, _, _, rfl, rfl, ⟨by decide, by decide⟩, (by show 3 ≤ sizeLine; omega), fun u5 hu5 => ⟨_, rfl, u5, _, _, .int ([4, 2, 5][wy] : Int), rfl, rfl, SqL.of upd_same, ?_, _, _, rfl, rfl, ?_, ?_⟩⟩
    · rcases (show wy = 0 ∨ wy = 1 ∨ wy = 2 by omega) with rfl | rfl | rfl
      · exact atI_nat (j := 0) rfl
      · exact atI_nat (j := 1) rfl
      · exact atI_nat (j := 2) rfl
    · rcases (show wy = 0 ∨ wy = 1 ∨ wy = 2 by omega) with rfl | rfl | rfl
      · show (0 : Int) < 4; decide
      · show (0 : Int) < 2; decide
      · show (0 : Int) < 5; decide
    obtain ⟨i, hi, hi4, hi2, hi5⟩ : ∃ i : Nat, (i : Int) = n / 8 % ([4, 2, 5][wy] : Int) ∧ (wy = 0 → i < 4) ∧ (wy = 1 → i < 2) ∧ i < 5 := by
      rcases (show wy = 0 ∨ wy = 1 ∨ wy = 2 by omega) with rfl | rfl | rfl
      · obtain ⟨j, h1, h2⟩ := mod_ix (r := n / 8) (n := 4) (by decide)
        exact ⟨j, h1, fun _ => by omega, (fun z => by cases z), by omega⟩
      · obtain ⟨j, h1, h2⟩ := mod_ix (r := n / 8) (n := 2) (by decide)
        exact ⟨j, h1, (fun z => by cases z), fun _ => by omega, by omega⟩
      · obtain ⟨j, h1, h2⟩ := mod_ix (r := n / 8) (n := 5) (by decide)
        exact ⟨j, h1, (fun z => by cases z), (fun z => by cases z), by omega⟩
    have s5 := s4.trans (same_upd (o := .lst [.int 4, .int 2, .int 5]) hu5)
    have k5 := k4'.same (same_upd (o := .lst [.int 4, .int 2, .int 5]) hu5)
    have eG5 := same_upd (o := .lst [.int 4, .int 2, .int 5]) hu5 _ _ eG
    generalize upd H4 u5 (.lst [.int 4, .int 2, .int 5]) = H5 at s5 k5 eG5
    refine ⟨(by show 3 ≤ sizeLine; omega), fun wl hwl => ?_⟩
    have s6 := s5.trans (same_upd (o := .lst [.int 2, .int 3, .int 5]) hwl)
    have k6 := k5.same (same_upd (o := .lst [.int 2, .int 3, .int 5]) hwl)
    have eG6 := same_upd (o := .lst [.int 2, .int 3, .int 5]) hwl _ _ eG5
    have eW6 : (upd H5 wl (.lst [.int 2, .int 3, .int 5])) wl = some (.lst [.int 2, .int 3, .int 5]) := upd_same
    have hwl0 : H wl = none := s5.free hwl
    have nGW : g ≠ wl := ne_of_none eG5 hwl
    generalize upd H5 wl (.lst [.int 2, .int 3, .int 5]) = H6 at s6 k6 eG6 eW6
    refine ⟨_, rfl, _, _, rfl, rfl, ⟨by decide, by decide⟩, _, _, rfl, rfl, (by show (0 : Int) < 2; decide), _, rfl, _, _, rfl, rfl, ⟨by decide, by decide⟩, _, _, rfl, rfl, (by show (0 : Int) < 3; decide), (by show 2 ≤ sizeLine; omega), fun l1 hl1 => ⟨(by show 2 ≤ sizeLine; omega), fun l2 hl2 => ⟨(by show 2 ≤ sizeLine; omega), fun L hL => ?_⟩⟩⟩
    obtain ⟨c1, hc1, lc1⟩ := mod_ix (r := n / 120) (n := 2) (by decide)
    obtain ⟨c2, hc2, lc2⟩ := mod_ix (r := n / 240) (n := 3) (by decide)
    have t7 := Same.upd (o := .lst [.ref l1, .ref l2]) (Same.upd (o := .lst [.int 1, .int 1]) (same_upd (o := .lst [.int (n / 120 % 2), .int (n / 240 % 3)]) hl1) hl2) hL
    have n12 : l1 ≠ l2 := ne_of_none upd_same hl2
    have f1 : H l1 = none := s6.free hl1
    have f2 : H l2 = none := s6.free ((same_upd hl1).free hl2)
    have e1 := same_upd (o := .lst [.ref l1, .ref l2]) hL _ _ (same_upd (o := .lst [.int 1, .int 1]) hl2 _ _ (upd_same (H := H6) (a := l1) (o := .lst [.int (n / 120 % 2), .int (n / 240 % 3)])))
    have e2 := same_upd (o := .lst [.ref l1, .ref l2]) hL _ _ (upd_same (H := upd H6 l1 (.lst [.int (n / 120 % 2), .int (n / 240 % 3)])) (a := l2) (o := .lst [.int 1, .int 1]))
    have e3 : (upd (upd (upd H6 l1 (.lst [.int (n / 120 % 2), .int (n / 240 % 3)])) l2 (.lst [.int 1, .int 1])) L (.lst [.ref l1, .ref l2])) L = some (.lst [.ref l1, .ref l2]) := upd_same
    change (upd (upd (upd H6 l1 (.lst [.int (n / 120 % 2), .int (n / 240 % 3)])) l2 (.lst [.int 1, .int 1])) L (.lst [.ref l1, .ref l2])) l1 = _ at e1
    change (upd (upd (upd H6 l1 (.lst [.int (n / 120 % 2), .int (n / 240 % 3)])) l2 (.lst [.int 1, .int 1])) L (.lst [.ref l1, .ref l2])) l2 = _ at e2
    have s7 := s6.trans t7
    have k7 := k6.same t7
    have eG7 := t7 _ _ eG6
    have eW7 := t7 _ _ eW6
    have nW1 : wl ≠ l1 := ne_of_none eW6 hl1
    have nW2 : wl ≠ l2 := ne_of_none eW6 ((same_upd hl1).free hl2)
    have nG1 : g ≠ l1 := ne_of_none eG6 hl1
    have nG2 : g ≠ l2 := ne_of_none eG6 ((same_upd hl1).free hl2)
    generalize upd (upd (upd H6 l1 (.lst [.int (n / 120 % 2), .int (n / 240 % 3)])) l2 (.lst [.int 1, .int 1])) L (.lst [.ref l1, .ref l2]) = H7 at e1 e2 e3 s7 k7 eG7 eW7
    rw [← hc1, ← hc2] at e1
    have hσ : (fun i j : Int => V.int (i % j)) (n / 8) ([4, 2, 5][wy] : Int) = V.int (i : Int) := by show V.int (n / 8 % ([4, 2, 5][wy] : Int)) = _; rw [← hi]
    rw [hσ]
    refine ⟨fun σ' H' => ∃ (L l1 l2 : Addr) (cs fs : List Nat), σ' = [some (.int (wy : Int)), some (.int n), some od, some (.ref g), some (.int (i : Int)), some (.ref wl), some (.ref L), none] ∧ Same H H' ∧ Known K H' od ∧ H' g = some (.lst [.int g0, .int g1, .int 3, .int g3]) ∧ H' wl = some (.lst [.int 2, .int 3, .int 5]) ∧ H' L = some (.lst [.ref l1, .ref l2]) ∧ H' l1 = some (.lst (nl cs)) ∧ H' l2 = some (.lst (nl fs)) ∧
      l1 ≠ l2 ∧ H l1 = none ∧ H l2 = none ∧ g ≠ l1 ∧ g ≠ l2 ∧ wl ≠ l1 ∧ wl ≠ l2 ∧ L ≠ wl ∧ L ≠ l1 ∧ L ≠ l2 ∧ cs.length = fs.length ∧ (3 ≤ i → cs.length = 2) ∧ cs.length ≤ 2 ∧ (∀ c ∈ cs, c ≤ 2) ∧ ∀ c ∈ fs, c ≤ 2, ?_, ?_⟩
    · have base : ∃ (L' l1' l2' : Addr) (cs fs : List Nat), [some (.int (wy : Int)), some (.int n), some od, some (.ref g), some (.int (i : Int)), some (.ref wl), some (.ref L), none] = [some (.int (wy : Int)), some (.int n), some od, some (.ref g), some (.int (i : Int)), some (.ref wl), some (.ref L'), none] ∧ Same H H7 ∧ Known K H7 od ∧ H7 g = some (.lst [.int g0, .int g1, .int 3, .int g3]) ∧ H7 wl = some (.lst [.int 2, .int 3, .int 5]) ∧ H7 L' = some (.lst [.ref l1', .ref l2']) ∧ H7 l1' = some (.lst (nl cs)) ∧ H7 l2' = some (.lst (nl fs)) ∧
          l1' ≠ l2' ∧ H l1' = none ∧ H l2' = none ∧ g ≠ l1' ∧ g ≠ l2' ∧ wl ≠ l1' ∧ wl ≠ l2' ∧ L' ≠ wl ∧ L' ≠ l1' ∧ L' ≠ l2' ∧ cs.length = fs.length ∧ (3 ≤ i → cs.length = 2) ∧ cs.length ≤ 2 ∧ (∀ c ∈ cs, c ≤ 2) ∧ ∀ c ∈ fs, c ≤ 2 := by
        refine ⟨L, l1, l2, [c1, c2], [1, 1], rfl, s7, k7, eG7, eW7, e3, e1, e2, n12, f1, f2, nG1, nG2, nW1, nW2, ?_, ?_, ?_, rfl, fun _ => rfl, by show 2 ≤ 2; decide, ?_, ?_⟩
        · intro z; rw [z, eW7] at e3; injection e3 with e3; injection e3 with e3; injection e3 with e3; cases e3
        · intro z; rw [z, e1] at e3; injection e3 with e3; injection e3 with e3; injection e3 with e3; cases e3
        · intro z; rw [z, e2] at e3; injection e3 with e3; injection e3 with e3; injection e3 with e3; cases e3
        · exact List.forall_mem_cons.mpr ⟨by omega, List.forall_mem_cons.mpr ⟨by omega, fun v hv => nomatch hv⟩⟩
        · exact List.forall_mem_cons.mpr ⟨by decide, List.forall_mem_cons.mpr ⟨by decide, fun v hv => nomatch hv⟩⟩
      refine ⟨_, rfl, _, _, rfl, rfl, ⟨by decide, by decide⟩, _, _, rfl, rfl, (by show (0 : Int) < 3; decide), rfl, _, rfl, ite2 (fun _ => ?_) fun _ => iteF base⟩
      refine ⟨_, rfl, _, _, rfl, rfl, _, rfl, ?_⟩
      by_cases h3 : (i : Int) < 3
      · rw [decide_eq_true h3]
        refine iteT ⟨Nat.zero_le _, fun p1 hp1 => ⟨Nat.zero_le _, fun p2 hp2 => ⟨(by show 2 ≤ sizeLine; omega), fun L' hL' => ?_⟩⟩⟩
        have q12 : p1 ≠ p2 := ne_of_none upd_same hp2
        have hp2' := (same_upd (o := .lst ([] : List V)) hp1).free hp2
        have tt := Same.upd (o := .lst [.ref p1, .ref p2]) (Same.upd (o := .lst []) (same_upd (o := .lst ([] : List V)) hp1) hp2) hL'
        have a1 := same_upd (o := .lst [.ref p1, .ref p2]) hL' _ _ (same_upd (o := .lst []) hp2 _ _ (upd_same (H := H7) (a := p1) (o := .lst [])))
        have a2 := same_upd (o := .lst [.ref p1, .ref p2]) hL' _ _ (upd_same (H := upd H7 p1 (.lst [])) (a := p2) (o := .lst []))
        have hL7 : H7 L' = none := (same_upd (o := .lst ([] : List V)) hp1).free ((same_upd (o := .lst ([] : List V)) hp2).free hL')
        refine ⟨L', p1, p2, [], [], rfl, s7.trans tt, k7.same tt, tt _ _ eG7, tt _ _ eW7, upd_same, a1, a2, q12, s7.free hp1, s7.free hp2', ne_of_none eG7 hp1, ne_of_none eG7 hp2', ne_of_none eW7 hp1, ne_of_none eW7 hp2', ?_, ?_, ?_, rfl, fun z => absurd z (by omega), by decide, (fun c hc => nomatch hc), fun c hc => nomatch hc⟩
        · intro z; rw [z, eW7] at hL7; cases hL7
        · intro z; rw [z] at hL'; exact absurd hL' (by rw [upd_ne q12, upd_same]; intro z; cases z)
        · intro z; rw [z, upd_same] at hL'; cases hL'
      · rw [decide_eq_false h3]
        exact iteF base
    · rintro σ' H8 ⟨L, l1, l2, cs, fs, rfl, s8, k8, eG8, eW8, eL8, e1, e2, n12, f1, f2, nG1, nG2, nW1, nW2, nL0, nL1, nL2, cl, c2l, cl2, bc, bf⟩
      refine ⟨fun σ' H' => ∃ (xs ys : List V) (x2 x3 x4 : V), σ' = [some (.int (wy : Int)), some (.int n), some od, some (.ref g), some (.int (i : Int)), some (.ref wl), some (.ref L), none] ∧ Same H H' ∧ Known K H' od ∧ H' g = some (.lst [.int g0, .int g1, .int 3, .int g3]) ∧ H' wl = some (.lst [x2, x3, x4]) ∧ H' L = some (.lst [.ref l1, .ref l2]) ∧ H' l1 = some (.lst xs) ∧ H' l2 = some (.lst ys) ∧ Rf K H' xs ys x2 x3 x4, ?_, ?_⟩
      · refine ⟨_, rfl, _, _, rfl, rfl, _, rfl, ?_⟩
        by_cases h3 : (i : Int) < 3
        · rw [decide_eq_true h3]
          have hi3 : i < 3 := by omega
          refine iteT ⟨_, rfl, _, rfl, _, rfl, wl, _, _, i, rfl, rfl, eW8, ixN_of (show i < 3 by omega), ?_⟩
          have sm : Same H (upd H8 wl (.lst ([V.int 2, .int 3, .int 5].set i od))) := same_put s8 hwl0
          have ko := known_put (xs := [V.int 2, .int 3, .int 5]) (ys := [V.int 2, .int 3, .int 5].set i od) k8 eW8
          have kn : ∀ {m : Int}, Known K (upd H8 wl (.lst ([V.int 2, .int 3, .int 5].set i od))) (.int m) := ⟨_, .int _⟩
          obtain ⟨x2, x3, x4, e, h1, h2⟩ : ∃ x2 x3 x4, [V.int 2, .int 3, .int 5].set i od = [x2, x3, x4] ∧ (∀ x ∈ [x2, x3, x4], Known K (upd H8 wl (.lst ([V.int 2, .int 3, .int 5].set i od))) x) ∧ ∃ x ∈ [x2, x3, x4], goodN x 0 none = false := by
            rcases (show i = 0 ∨ i = 1 ∨ i = 2 by omega) with rfl | rfl | rfl
            · exact ⟨_, _, _, rfl, List.forall_mem_cons.mpr ⟨ko, k2⟩, od, List.mem_cons_self, bod⟩
            · exact ⟨_, _, _, rfl, List.forall_mem_cons.mpr ⟨kn, List.forall_mem_cons.mpr ⟨ko, List.forall_mem_cons.mpr ⟨kn, fun v hv => nomatch hv⟩⟩⟩, od, List.mem_cons_of_mem _ List.mem_cons_self, bod⟩
            · exact ⟨_, _, _, rfl, List.forall_mem_cons.mpr ⟨kn, List.forall_mem_cons.mpr ⟨kn, List.forall_mem_cons.mpr ⟨ko, fun v hv => nomatch hv⟩⟩⟩, od, List.mem_cons_of_mem _ (List.mem_cons_of_mem _ List.mem_cons_self), bod⟩
          exact ⟨nl cs, nl fs, x2, x3, x4, rfl, sm, ko, by rw [upd_ne nGW]; exact eG8, by rw [upd_same, e], by rw [upd_ne nL0]; exact eL8, by rw [upd_ne (Ne.symm nW1)]; exact e1, by rw [upd_ne (Ne.symm nW2)]; exact e2, by rw [nl_len, nl_len]; exact cl, by rw [nl_len]; omega, known_nl _, known_nl _, h1, .inl h2⟩
        · rw [decide_eq_false h3]
          have cl2' := c2l (by omega)
          obtain ⟨a1, a2, rfl⟩ : ∃ a1 a2, cs = [a1, a2] := by
            match cs, cl2' with
            | [a1, a2], _ => exact ⟨a1, a2, rfl⟩
          obtain ⟨b1, b2, rfl⟩ : ∃ a1 a2, fs = [a1, a2] := by
            match fs, cl with
            | [a1, a2], _ => exact ⟨a1, a2, rfl⟩
          obtain ⟨j, hj, hj2⟩ := mod_ix (r := n / 40) (n := 2) (by decide)
          have ba1 := bc a1 List.mem_cons_self
          have ba2 := bc a2 (List.mem_cons_of_mem _ List.mem_cons_self)
          have bb1 := bf b1 List.mem_cons_self
          have bb2 := bf b2 (List.mem_cons_of_mem _ List.mem_cons_self)
          rcases (show i = 3 ∨ i = 4 by omega) with rfl | rfl
          · refine iteF ⟨_, rfl, _, rfl, _, rfl, _, _, rfl, rfl, L, _, _, .ref l1, rfl, rfl, SqL.of eL8, atI_nat (j := 0) rfl, _, rfl, _, _, rfl, rfl, ⟨by decide, by decide⟩, _, _, rfl, rfl, (by show (0 : Int) < 2; decide), l1, _, _, j, rfl, (by show V.int (n / 40 % 2) = _; rw [← hj]), e1, ixN_of (show j < 2 by omega), ?_⟩
            have ko := known_put (xs := nl [a1, a2]) (ys := (nl [a1, a2]).set j od) k8 e1
            exact ⟨_, _, .int 2, .int 3, .int 5, rfl, same_put s8 f1, ko, by rw [upd_ne nG1]; exact eG8, by rw [upd_ne nW1]; exact eW8, by rw [upd_ne nL1]; exact eL8, upd_same, by rw [upd_ne (Ne.symm n12)]; exact e2, rf_x ko bod ba1 ba2 bb1 bb2 (by omega)⟩
          · refine iteF ⟨_, rfl, _, rfl, _, rfl, _, _, rfl, rfl, L, _, _, .ref l2, rfl, rfl, SqL.of eL8, atI_nat (j := 1) rfl, _, rfl, _, _, rfl, rfl, ⟨by decide, by decide⟩, _, _, rfl, rfl, (by show (0 : Int) < 2; decide), l2, _, _, j, rfl, (by show V.int (n / 40 % 2) = _; rw [← hj]), e2, ixN_of (show j < 2 by omega), ?_⟩
            have ko := known_put (xs := nl [b1, b2]) (ys := (nl [b1, b2]).set j od) k8 e2
            exact ⟨_, _, .int 2, .int 3, .int 5, rfl, same_put s8 f2, ko, by rw [upd_ne nG2]; exact eG8, by rw [upd_ne nW2]; exact eW8, by rw [upd_ne nL2]; exact eL8, by rw [upd_ne n12]; exact e1, upd_same, rf_y ko bod ba1 ba2 bb1 bb2 (by omega)⟩
      · rintro σ' H9 ⟨xs, ys, x2, x3, x4, rfl, s9, k9, eG9, eW9, eL9, e91, e92, R⟩
        refine ⟨?_, ?_⟩
        · have kn : ∀ {H' : Hp} {m : Int}, Known K H' (.int m) := ⟨_, .int _⟩
          rcases (show wy = 0 ∨ wy = 1 ∨ wy = 2 by omega) with rfl | rfl | rfl
          · have h4 := hi4 rfl
            refine ⟨_, rfl, rfl, _, rfl, iteT ?_⟩
            refine ⟨_, rfl, _, rfl, _, rfl, g, _, _, i, rfl, rfl, eG9, ixN_of (show i < 4 by omega), ?_⟩
            have ko := known_put (xs := [V.int g0, .int g1, .int 3, .int g3]) (ys := [V.int g0, .int g1, .int 3, .int g3].set i od) k9 eG9
            have sm : Same H (upd H9 g (.lst ([V.int g0, .int g1, .int 3, .int g3].set i od))) := same_put s9 hg0
            have eN : (upd H9 g (.lst ([V.int g0, .int g1, .int 3, .int g3].set i od))) g = some (.lst ([V.int g0, .int g1, .int 3, .int g3].set i od)) := upd_same
            generalize upd H9 g (.lst ([V.int g0, .int g1, .int 3, .int g3].set i od)) = H10 at ko sm eN
            rcases (show i = 0 ∨ i = 1 ∨ i = 2 ∨ i = 3 by omega) with rfl | rfl | rfl | rfl
            · exact ⟨_, rfl, g, _, _, od, rfl, rfl, SqL.of eN, atI_nat (j := 0) rfl, _, rfl, g, _, _, .int g1, rfl, rfl, SqL.of eN, atI_nat (j := 1) rfl, _, rfl, g, _, _, .int 3, rfl, rfl, SqL.of eN, atI_nat (j := 2) rfl, _, rfl, g, _, _, .int g3, rfl, rfl, SqL.of eN, atI_nat (j := 3) rfl, _, _, _, _, rfl, List.forall_mem_cons.mpr ⟨ko, List.forall_mem_cons.mpr ⟨kn, List.forall_mem_cons.mpr ⟨kn, List.forall_mem_cons.mpr ⟨kn, fun v hv => nomatch hv⟩⟩⟩⟩, .inr ⟨⟨od, List.mem_cons_self, bod⟩, fun H' s' => ⟨⟨od, g, wl, L, _, rfl⟩, sm.trans s', rfl⟩⟩⟩
            · exact ⟨_, rfl, g, _, _, .int g0, rfl, rfl, SqL.of eN, atI_nat (j := 0) rfl, _, rfl, g, _, _, od, rfl, rfl, SqL.of eN, atI_nat (j := 1) rfl, _, rfl, g, _, _, .int 3, rfl, rfl, SqL.of eN, atI_nat (j := 2) rfl, _, rfl, g, _, _, .int g3, rfl, rfl, SqL.of eN, atI_nat (j := 3) rfl, _, _, _, _, rfl, List.forall_mem_cons.mpr ⟨kn, List.forall_mem_cons.mpr ⟨ko, List.forall_mem_cons.mpr ⟨kn, List.forall_mem_cons.mpr ⟨kn, fun v hv => nomatch hv⟩⟩⟩⟩, .inr ⟨⟨od, List.mem_cons_of_mem _ (List.mem_cons_self), bod⟩, fun H' s' => ⟨⟨od, g, wl, L, _, rfl⟩, sm.trans s', rfl⟩⟩⟩
            · exact ⟨_, rfl, g, _, _, .int g0, rfl, rfl, SqL.of eN, atI_nat (j := 0) rfl, _, rfl, g, _, _, .int g1, rfl, rfl, SqL.of eN, atI_nat (j := 1) rfl, _, rfl, g, _, _, od, rfl, rfl, SqL.of eN, atI_nat (j := 2) rfl, _, rfl, g, _, _, .int g3, rfl, rfl, SqL.of eN, atI_nat (j := 3) rfl, _, _, _, _, rfl, List.forall_mem_cons.mpr ⟨kn, List.forall_mem_cons.mpr ⟨kn, List.forall_mem_cons.mpr ⟨ko, List.forall_mem_cons.mpr ⟨kn, fun v hv => nomatch hv⟩⟩⟩⟩, .inr ⟨⟨od, List.mem_cons_of_mem _ (List.mem_cons_of_mem _ (List.mem_cons_self)), bod⟩, fun H' s' => ⟨⟨od, g, wl, L, _, rfl⟩, sm.trans s', rfl⟩⟩⟩
            · exact ⟨_, rfl, g, _, _, .int g0, rfl, rfl, SqL.of eN, atI_nat (j := 0) rfl, _, rfl, g, _, _, .int g1, rfl, rfl, SqL.of eN, atI_nat (j := 1) rfl, _, rfl, g, _, _, .int 3, rfl, rfl, SqL.of eN, atI_nat (j := 2) rfl, _, rfl, g, _, _, od, rfl, rfl, SqL.of eN, atI_nat (j := 3) rfl, _, _, _, _, rfl, List.forall_mem_cons.mpr ⟨kn, List.forall_mem_cons.mpr ⟨kn, List.forall_mem_cons.mpr ⟨kn, List.forall_mem_cons.mpr ⟨ko, fun v hv => nomatch hv⟩⟩⟩⟩, .inr ⟨⟨od, List.mem_cons_of_mem _ (List.mem_cons_of_mem _ (List.mem_cons_of_mem _ (List.mem_cons_self))), bod⟩, fun H' s' => ⟨⟨od, g, wl, L, _, rfl⟩, sm.trans s', rfl⟩⟩⟩
          · have h2 := hi2 rfl
            refine ⟨_, rfl, rfl, _, rfl, iteF ⟨_, rfl, rfl, _, rfl, iteT ?_⟩⟩
            refine ⟨_, rfl, _, rfl, g, _, _, _, rfl, rfl, SqL.of eG9, atI_nat (j := 0) rfl, (by show 2 ≤ sizeLine; omega), fun v1 hv1 => ?_⟩
            have w1 := same_upd (o := .lst [od, .int g0]) hv1
            rcases (show i = 0 ∨ i = 1 by omega) with rfl | rfl
            · refine ⟨_, rfl, v1, _, _, od, rfl, rfl, SqL.of upd_same, atI_nat (j := 0) rfl, _, rfl, g, _, _, _, rfl, rfl, SqL.of (w1 _ _ eG9), atI_nat (j := 1) rfl, _, rfl, (by show 2 ≤ sizeLine; omega), fun v2 hv2 => ?_⟩
              have w2 := w1.trans (same_upd (o := .lst [.int g1, od]) hv2)
              exact ⟨_, rfl, v2, _, _, .int g1, rfl, rfl, SqL.of upd_same, atI_nat (j := 0) rfl, _, _, rfl, List.forall_mem_cons.mpr ⟨k9.same w2, List.forall_mem_cons.mpr ⟨kn, fun v hv => nomatch hv⟩⟩, .inr ⟨⟨od, List.mem_cons_self, bod⟩, fun H' s' => ⟨⟨od, g, wl, L, _, rfl⟩, (s9.trans w2).trans s', rfl⟩⟩⟩
            · refine ⟨_, rfl, v1, _, _, .int g0, rfl, rfl, SqL.of upd_same, atI_nat (j := 1) rfl, _, rfl, g, _, _, _, rfl, rfl, SqL.of (w1 _ _ eG9), atI_nat (j := 1) rfl, _, rfl, (by show 2 ≤ sizeLine; omega), fun v2 hv2 => ?_⟩
              have w2 := w1.trans (same_upd (o := .lst [.int g1, od]) hv2)
              exact ⟨_, rfl, v2, _, _, od, rfl, rfl, SqL.of upd_same, atI_nat (j := 1) rfl, _, _, rfl, List.forall_mem_cons.mpr ⟨kn, List.forall_mem_cons.mpr ⟨k9.same w2, fun v hv => nomatch hv⟩⟩, .inr ⟨⟨od, List.mem_cons_of_mem _ List.mem_cons_self, bod⟩, fun H' s' => ⟨⟨od, g, wl, L, _, rfl⟩, (s9.trans w2).trans s', rfl⟩⟩⟩
          · refine ⟨_, rfl, rfl, _, rfl, iteF ⟨_, rfl, rfl, _, rfl, iteF ?_⟩⟩
            refine ⟨_, rfl, L, _, _, .ref l1, rfl, rfl, SqL.of eL9, atI_nat (j := 0) rfl, _, rfl, L, _, _, .ref l2, rfl, rfl, SqL.of eL9, atI_nat (j := 1) rfl, _, rfl, wl, _, _, x2, rfl, rfl, SqL.of eW9, atI_nat (j := 0) rfl, _, rfl, wl, _, _, x3, rfl, rfl, SqL.of eW9, atI_nat (j := 1) rfl, _, rfl, wl, _, _, x4, rfl, rfl, SqL.of eW9, atI_nat (j := 2) rfl, tnil_ (R.bad e91 e92 fun H' s' => ⟨⟨od, g, wl, L, _, rfl⟩, s9.trans s', rfl⟩)⟩
        · rintro σ' cls H' ea ⟨⟨od', g', wl', L', i', rfl⟩, sm, rfl⟩ hn
          refine ⟨_, rfl, F.e, _, rfl, ea, CN, _, true, rfl, upd_same, F.x, .inr (.inl ⟨_, rfl, F.n⟩), _, rfl, iteT ?_⟩
          refine ⟨_, rfl, ea, CN, _, true, rfl, upd_same, F.x, .inl ⟨_, rfl, F.v⟩, _, rfl, iteT ?_⟩
          exact ⟨_, rfl, ea, CN, _, false, rfl, upd_same, F.x, .inr (.inl ⟨_, rfl, F.t⟩), _, rfl, kk _ (Same.upd sm hn)⟩
end
end K19
set_option Elab.async false
set_option linter.all false
set_option maxRecDepth 100000
set_option maxHeartbeats 4000000
namespace K19
open PySem L2 PyProof.Rows PySem.Spec Gn WO
open K03 (Fr mkF mkF_up mkF_dn mkF_pos mkF_le mkF_abs mkF_lt gcd_pos' less)
section
variable {P : Program} {w : World} {K : PySem.W.Frag} {mg : Str → Option Value} {base : Heap} {CH CN CT : Addr}
theorem ndWay : (["_law_way", "_law_script"] : List Str).Nodup := by decide +kernel
theorem all_rep : ∀ n : Nat, (List.replicate n true).all id = true
  | 0 => rfl
  | n + 1 => by rw [List.replicate_succ, List.all_cons, all_rep n]; rfl
theorem Mad.ls {cs fs : List Nat} {s m t : Nat} (h : Mad cs fs s m t) : Ls cs fs s m t := ⟨h.l, by have := h.n; omega, fun c hc => h.bd (by have := h.c c hc; omega), fun f hf => by have := h.f f hf; omega⟩
theorem Ls.rev {cs fs : List Nat} {s m t : Nat} (h : Ls cs fs s m t) : Ls cs.reverse fs.reverse s m t := ⟨by rw [List.length_reverse, List.length_reverse]; exact h.l, by rw [List.length_reverse]; exact h.n, fun c hc => h.c c (List.mem_reverse.mp hc), fun f hf => h.f f (List.mem_reverse.mp hf)⟩
theorem Mad.more {cs fs : List Nat} {s m t c f : Nat} (h : Mad cs fs s m t) (hc : c ≤ 1000000000) (hf : f ≤ 1000000000) : Ls (cs ++ [c]) (fs ++ [f]) s m t := by
  refine ⟨by rw [List.length_append, List.length_append, h.l]; rfl, by rw [List.length_append]; have := h.n; show _ + 1 ≤ 8; omega, fun x hx => ?_, fun x hx => ?_⟩
  · rcases List.mem_append.mp hx with q | q
    · exact h.ls.c x q
    · rw [List.mem_singleton.mp q]; exact h.bd (by omega)
  · rcases List.mem_append.mp hx with q | q
    · exact h.ls.f x q
    · rw [List.mem_singleton.mp q]; omega
theorem zip_rev {cs fs : List Nat} {s m t : Nat} (h : cs.length = fs.length) : (cs.reverse.zip fs.reverse).map (trm s m t) = ((cs.zip fs).map (trm s m t)).reverse := by
  rw [← List.map_reverse]
  congr 1
  exact (List.reverse_zipWith h).symm
theorem zip_more {cs fs : List Nat} {s m t c f : Nat} (h : cs.length = fs.length) : ((cs ++ [c]).zip (fs ++ [f])).map (trm s m t) = (cs.zip fs).map (trm s m t) ++ [trm s m t (c, f)] := by
  rw [List.zip_append h, List.map_append]
  rfl
theorem nl_rev (a : List Nat) : (nl a).reverse = nl a.reverse := (List.map_reverse ..).symm
theorem dt_nl {H : Hp} : ∀ (ns : List Nat), DtVs K H (nl ns) (ns.map fun (n : Nat) => PyData.int (n : Int))
  | [] => .nil
  | n :: ns => .cons (.int _) (dt_nl ns)
theorem lay_nl : ∀ ns : List Nat, (PyData.list (ns.map fun (n : Nat) => PyData.int (n : Int))).canLay0 = true
  | [] => rfl
  | n :: ns => lay_nl ns
theorem dep_nl : ∀ ns : List Nat, (PyData.list (ns.map fun (n : Nat) => PyData.int (n : Int))).depth ≤ 1
  | [] => by decide
  | n :: ns => by
    have := dep_nl ns
    simp only [List.map_cons, PyData.depth, PyData.depthAll] at this ⊢
    omega
noncomputable def dLs (cs fs : List Nat) : PyData := .list [.list (cs.map fun (n : Nat) => PyData.int (n : Int)), .list (fs.map fun (n : Nat) => PyData.int (n : Int))]
theorem dt_ls {H : Hp} {h a b : Addr} {cs fs : List Nat} (e : H h = some (.lst [.ref a, .ref b])) (ea : H a = some (.lst (nl cs))) (eb : H b = some (.lst (nl fs))) : DtV K H (.ref h) (dLs cs fs) := .lst (SqL.of e) (.cons (.lst (SqL.of ea) (dt_nl cs)) (.cons (.lst (SqL.of eb) (dt_nl fs)) .nil))
theorem lay_ls (cs fs : List Nat) : (dLs cs fs).canLay0 = true := by
  show ((PyData.list _).canLay0 && ((PyData.list _).canLay0 && true)) = true
  rw [lay_nl, lay_nl]
  rfl
theorem dep_ls (cs fs : List Nat) (d : PyData) : min (dLs cs fs).depth d.depth ≤ 100 := by
  have h1 := dep_nl cs
  have h2 := dep_nl fs
  have : (dLs cs fs).depth ≤ 3 := by
    unfold dLs
    rw [PyData.depth, PyData.depthAll, PyData.depthAll, PyData.depthAll]
    omega
  omega
noncomputable def spLaw (K : PySem.W.Frag) : Sp := fun vs H Q _ => ∃ (a : Addr) (ns : List Int), vs = [.ref a] ∧ SqL K H a (ns.map V.int) ∧ ns.length ≤ 63 ∧ ∀ H', Q (.bl true) H'
theorem scLaw : FnScope ["_law_script", "_law_counts", "_law_founds", "_law_size", "_law_many", "_law_total", "_law_handed", "_law_above", "_law_below", "_law_found"] ["_law_script"] (defScope lLaw) := ⟨rfl, rfl, rfl, by decide +kernel, rfl, by decide +kernel, by decide +kernel⟩
seal PSs PS PE PT PA PG PI PGs PIfs in
theorem ok_law {f fWh fNN fGc fFr fNs fSh fRa fWo fSu fPr fMi fNu fCo fIs fGr fMd fLs fSm fRi fRf fNo : Addr} {fd fdWh fdNN fdGc fdFr fdNs fdSh fdRa fdWo fdSu fdPr fdMi fdNu fdCo fdIs fdGr fdMd fdLs fdSm fdRi fdRf fdNo : FuncData} {tk : Tok} (D : Df K mg "law" lLaw f fd) (T : Txt mg) (C : Cl mg CH CN CT) (F : CF K CH CN CT) (X : Ex K mg "BadNumber" CN)
    (DWh : Df K mg "is_whole" sWhole fWh fdWh) (DGc : Df K mg "common_divisor" sGcd fGc fdGc) (DSu : Df K mg "sum_of" sSum fSu fdSu) (DPr : Df K mg "product_of" sProd fPr fdPr) (DNs : Df K mg "need_numbers" sNNs fNs fdNs) (DH : Df K mg "share_of" sShare fSh fdSh) (DR : Df K mg "rarity_of" sRar fRa fdRa) (DW : Df K mg "worth_of" sWorth fWo fdWo)
    (DMi : Df K mg "_law_mixed" lMixed fMi fdMi) (DNu : Df K mg "_law_number" lNumber fNu fdNu) (DCo : Df K mg "_law_common" lCommon fCo fdCo) (DI : Df K mg "_law_is" lIs fIs fdIs) (DGr : Df K mg "_law_great" lGreat fGr fdGr) (DMd : Df K mg "_law_made" lMade fMd fdMd) (DLs : Df K mg "_law_share" lShare fLs fdLs) (DSm : Df K mg "_law_sum" lSum fSm fdSm)
    (DRi : Df K mg "_law_shares_right" lRight fRi fdRi) (DRf : Df K mg "_law_refused" lRef fRf fdRf) (DNo : Df K mg "_law_noughts_right" lNou fNo fdNo) (DNN : DfD K mg "need_number" sNNum fNN fdNN #[.none]) (DFr : DfD K mg "fraction" sFr fFr fdFr #[.int 1 tk]) :
    FnOk P w K mg base CX0 7 f fd ["_law_script"] (spLaw K) := by
  have GN : FnOk P w K mg base (CX1 P w) 2 fNN fdNN ["thing", "least", "most"] (spNNum K CN) := ok_nnum DNN DWh X T
  have GF : FnOk P w K mg base (CX1 P w) 3 fFr fdFr ["above", "below"] (spFr K CN) := ok_fr DFr X DWh DNN GN DGc (ok_gcd DGc) T
  have GS : FnOk P w K mg base (CX1 P w) 3 fNs fdNs ["numbers"] (spNNs K CN) := ok_nns DNs DNN GN
  have GH : FnOk P w K mg base (CX1 P w) 4 fSh fdSh ["count", "size", "many", "total"] (spShare K CN) := ok_share DH DFr GF DNs GS
  have GR : FnOk P w K mg base (CX1 P w) 4 fRa fdRa ["many", "found"] (spRar K CN) := ok_rar DR DFr GF DNs GS
  have GW : FnOk P w K mg base (CX1 P w) 5 fWo fdWo ["counts", "founds", "size", "many", "total"] (spWorth K CN) := ok_worth DW DFr GF DNs GS DH DR DSu DPr T
  have GNu : FnOk P w K mg base CX0 2 fNu fdNu ["_law_script", "_law_k"] (spNumber K) := ok_number DNu DMi T
  have GI : FnOk P w K mg base CX0 2 fIs fdIs ["_law_found", "_law_above", "_law_below"] spIs := ok_is DI DCo T
  have GMd : FnOk P w K mg base CX0 3 fMd fdMd ["_law_script"] (spMade K) := ok_made DMd DNu DMi DGr T
  have GSm : FnOk P w K mg base CX0 2 fSm fdSm ["_law_counts", "_law_founds", "_law_size", "_law_many", "_law_total"] spLSum := ok_lsum DSm DLs T
  have GRi : FnOk P w K mg base CX0 5 fRi fdRi ["_law_counts", "_law_founds", "_law_size", "_law_many", "_law_total"] spRight := ok_right DRi DLs DH GH DR GR DI DCo T
  have GNo : FnOk P w K mg base CX0 6 fNo fdNo ["_law_script"] (spNou K) := ok_nou DNo DNu DMi DH GH DR GR DW GW DI DCo T
  have GRf : FnOk P w K mg base CX0 6 fRf fdRf ["_law_way", "_law_number_here"] spRef := ok_ref DRf C F DH GH DR GR DW GW T
  have bW := DW.F.binds (ps := ["counts", "founds", "size", "many", "total"]) fun _ _ _ _ _ _ us hl => us5 (fun _ _ _ _ _ => rfl) us hl
  have bNu := DNu.F.binds (ps := ["_law_script", "_law_k"]) fun _ _ _ _ _ _ us hl => us2 (fun _ _ => rfl) us hl
  have bI := DI.F.binds (ps := ["_law_found", "_law_above", "_law_below"]) fun _ _ _ _ _ _ us hl => us3 (fun _ _ _ => rfl) us hl
  have bMd := binds1 (p := "_law_script") DMd.F fun _ _ _ _ _ _ _ => rfl
  have bSm := DSm.F.binds (ps := ["_law_counts", "_law_founds", "_law_size", "_law_many", "_law_total"]) fun _ _ _ _ _ _ us hl => us5 (fun _ _ _ _ _ => rfl) us hl
  have bRi := DRi.F.binds (ps := ["_law_counts", "_law_founds", "_law_size", "_law_many", "_law_total"]) fun _ _ _ _ _ _ us hl => us5 (fun _ _ _ _ _ => rfl) us hl
  have bNo := binds1 (p := "_law_script") DNo.F fun _ _ _ _ _ _ _ => rfl
  have bRf := DRf.F.binds (ps := ["_law_way", "_law_number_here"]) fun _ _ _ _ _ _ us hl => us2 (fun _ _ => rfl) us hl
  refine D.F.ok scLaw (fun vs H Q E h => ?_) (fun cdv A outer s H vs Q E hr h => ?_)
  · obtain ⟨a, ns, rfl, _⟩ := h
    rfl
  · obtain ⟨a, ns, rfl, hS, hlen, kk⟩ := h
    have hz : (sizeLine : Nat) = 16777216 := sizeLine_eq
    refine ⟨_, (pss_cons (ps_asg (pe_call (GMd.mono (by decide)) hr rfl DMd.m DMd.F.kp bMd .nil pass0 (pa_cons (pv 0) pa_nil)) (pg_tup (n := 5) rfl (pgs_cons (pg_name (i := 1) scLaw.nd rfl (Or.inl rfl)) (pgs_cons (pg_name (i := 2) scLaw.nd rfl (Or.inl rfl)) (pgs_cons (pg_name (i := 3) scLaw.nd rfl (Or.inl rfl)) (pgs_cons (pg_name (i := 4) scLaw.nd rfl (Or.inl rfl)) (pgs_cons (pg_name (i := 5) scLaw.nd rfl (Or.inl rfl)) pgs_nil)))))))
      (pss_cons (ps_if (PW.pt (pw_or (pt_not (pt_val (pe_call (GRi.mono (by decide)) hr rfl DRi.m DRi.F.kp bRi .nil pass0 (pa_cons (pv 1) (pa_cons (pv 2) (pa_cons (pv 3) (pa_cons (pv 4) (pa_cons (pv 5) pa_nil)))))))) (pw_or1 (pt_not (pt_val (pe_call GNo hr rfl DNo.m DNo.F.kp bNo .nil pass0 (pa_cons (pv 0) pa_nil))))))) (pss_one (ps_ret pe_bl)) pss_nil)
      (pss_cons (ps_set (i := 6) scLaw.nd rfl (Or.inl rfl) (pe_lst (pa_cons (pe_callTy call_list_of rfl T.list b_list (pa_cons (pv 1) pa_nil)) (pa_cons (pe_callTy call_list_of rfl T.list b_list (pa_cons (pv 2) pa_nil)) pa_nil))))
      (pss_cons (ps_asg (pe_call (GSm.mono (by decide)) hr rfl DSm.m DSm.F.kp bSm .nil pass0 (pa_cons (pv 1) (pa_cons (pv 2) (pa_cons (pv 3) (pa_cons (pv 4) (pa_cons (pv 5) pa_nil)))))) (pg_tup (n := 2) rfl (pgs_cons (pg_name (i := 7) scLaw.nd rfl (Or.inl rfl)) (pgs_cons (pg_name (i := 8) scLaw.nd rfl (Or.inl rfl)) pgs_nil))))
      (pss_cons (ps_set (i := 9) scLaw.nd rfl (Or.inl rfl) (pe_call (GW.mono (by decide)) hr rfl DW.m DW.F.kp bW .nil passN (pa_cons (pe_ix ix_list (pv 6) pe_int (fun _ _ => rfl)) (pa_cons (pe_ix ix_list (pv 6) pe_int (fun _ _ => rfl)) (pa_cons (pv 3) (pa_cons (pv 4) (pa_cons (pv 5) pa_nil)))))))
      (pss_cons (ps_if (PW.pt (pw_or (pt_not (pt_val (pe_call (GI.mono (by decide)) hr rfl DI.m DI.F.kp bI .nil pass0 (pa_cons (pv 9) (pa_cons (pv 7) (pa_cons (pv 8) pa_nil)))))) (pw_or1 (pt_cmpR (op_neD hr.units100) (pv 6) (pe_lst (pa_cons (pv 1) (pa_cons (pv 2) pa_nil))) (nomark _))))) (pss_one (ps_ret pe_bl)) pss_nil)
      (pss_cons (ps_if (pt_cmpR (op_neD hr.units100) (pe_call (GW.mono (by decide)) hr rfl DW.m DW.F.kp bW .nil passN (pa_cons (pe_rev (pv 1) (pe_un un_neg pe_int)) (pa_cons (pe_rev (pv 2) (pe_un un_neg pe_int)) (pa_cons (pv 3) (pa_cons (pv 4) (pa_cons (pv 5) pa_nil)))))) (pv 9) (nomark _)) (pss_one (ps_ret pe_bl)) pss_nil)
      (pss_cons (ps_if (pt_cmpR (op_neD hr.units100) (pe_call (GW.mono (by decide)) hr rfl DW.m DW.F.kp bW .nil passN (pa_cons (pe_op op_cat (pv 1) (pe_lst (pa_cons pe_int pa_nil))) (pa_cons (pe_op op_cat (pv 2) (pe_lst (pa_cons (pv 4) pa_nil))) (pa_cons (pv 3) (pa_cons (pv 4) (pa_cons (pv 5) pa_nil)))))) (pv 9) (nomark _)) (pss_one (ps_ret pe_bl)) pss_nil)
      (pss_cons (ps_expr (pe_bm PySem.F.plainAttrs_list PySem.F.slot_list_append PySem.F.type_list_append mt_append (pe_ix ix_list (pv 6) pe_int (fun _ _ => rfl)) (pa_cons pe_int pa_nil)))
      (pss_cons (ps_expr (pe_bm PySem.F.plainAttrs_list PySem.F.slot_list_append PySem.F.type_list_append mt_append (pe_ix ix_list (pv 6) pe_int (fun _ _ => rfl)) (pa_cons pe_int pa_nil)))
      (pss_cons (ps_asg (pe_call (GSm.mono (by decide)) hr rfl DSm.m DSm.F.kp bSm .nil pass0 (pa_cons (pe_ix ix_list (pv 6) pe_int (fun _ _ => rfl)) (pa_cons (pe_ix ix_list (pv 6) pe_int (fun _ _ => rfl)) (pa_cons (pv 3) (pa_cons (pv 4) (pa_cons (pv 5) pa_nil)))))) (pg_tup (n := 2) rfl (pgs_cons (pg_name (i := 7) scLaw.nd rfl (Or.inl rfl)) (pgs_cons (pg_name (i := 8) scLaw.nd rfl (Or.inl rfl)) pgs_nil))))
      (pss_cons (ps_if (pt_not (pt_val (pe_call (GI.mono (by decide)) hr rfl DI.m DI.F.kp bI .nil pass0 (pa_cons (pe_call (GW.mono (by decide)) hr rfl DW.m DW.F.kp bW .nil passN (pa_cons (pe_ix ix_list (pv 6) pe_int (fun _ _ => rfl)) (pa_cons (pe_ix ix_list (pv 6) pe_int (fun _ _ => rfl)) (pa_cons (pv 3) (pa_cons (pv 4) (pa_cons (pv 5) pa_nil)))))) (pa_cons (pv 7) (pa_cons (pv 8) pa_nil)))))) (pss_one (ps_ret pe_bl)) pss_nil)
      (pss_one (ps_ret (pe_callB (call_all_bools rfl) rfl T.all b_all (pa_cons (pe_comp (own := 1) (caps := [0]) (N := ["_law_way", "_law_script"]) (N0 := ["_law_script", "_law_counts", "_law_founds", "_law_size", "_law_many", "_law_total", "_law_handed", "_law_above", "_law_below", "_law_found"]) (sc0 := defScope lLaw) rfl (pi_range1 rfl T.range (pa_cons pe_int pa_nil)) (fun _ _ _ => pg_name (i := 0) ndWay rfl (Or.inl rfl)) (fun _ _ _ => pf_none) (fun _ _ _ => pe_call GRf hr rfl DRf.m DRf.F.kp bRf .nil pass0 (pa_cons (pv 0) (pa_cons (pe_call (GNu.mono (by decide)) hr rfl DNu.m DNu.F.kp bNu .nil pass0 (pa_cons (pv 1) (pa_cons (pe_op op_add pe_int (pv 0)) pa_nil))) pa_nil))) (gk_name (by decide)) rfl rfl
        (by decide +kernel) rfl (by decide +kernel) (by decide +kernel) rfl (by decide +kernel)) pa_nil)))))))))))))))), ?_⟩
    refine ⟨_, rfl, a, ns, rfl, hS, hlen, fun z p q H1 cs fs s m t s1 eZ eP eQ M => ?_⟩
    have L := M.ls
    have ml := M.m1
    have cl := M.l
    have cn := M.n
    refine ⟨z, _, rfl, SqT.of eZ, rfl, _, _, rfl, _, _, rfl, _, _, rfl, _, _, rfl, _, _, rfl, rfl, ?_⟩
    refine ⟨_, rfl, _, rfl, _, rfl, _, rfl, _, rfl, p, q, cs, fs, s, m, t, rfl, eP, eQ, M, fun H2 s2 => ⟨_, rfl, iteF ?_⟩⟩
    refine ⟨_, rfl, a, ns, rfl, (s1.trans s2).seq hS, hlen, fun H3 s3 => ⟨_, rfl, iteF ?_⟩⟩
    have t3 := s2.trans s3
    have eP3 := t3 _ _ eP
    have eQ3 := t3 _ _ eQ
    have h3 := (s1.trans t3)
    refine ⟨_, rfl, p, _, rfl, .inl (SqL.of eP3), fun l1 hl1 => ?_⟩
    have eQ4 := same_upd (o := .lst (nl cs)) hl1 _ _ eQ3
    refine ⟨_, rfl, q, _, rfl, .inl (SqL.of eQ4), fun l2 hl2 => ⟨(by show 2 ≤ sizeLine; omega), fun h hh => ?_⟩⟩
    have n12 : l1 ≠ l2 := ne_of_none upd_same hl2
    have hl2' := (same_upd (o := .lst (nl cs)) hl1).free hl2
    have t6 := Same.upd (o := .lst [.ref l1, .ref l2]) (Same.upd (o := .lst (nl fs)) (same_upd (o := .lst (nl cs)) hl1) hl2) hh
    have e1 := same_upd (o := .lst [.ref l1, .ref l2]) hh _ _ (same_upd (o := .lst (nl fs)) hl2 _ _ (upd_same (H := H3) (a := l1) (o := .lst (nl cs))))
    have e2 := same_upd (o := .lst [.ref l1, .ref l2]) hh _ _ (upd_same (H := upd H3 l1 (.lst (nl cs))) (a := l2) (o := .lst (nl fs)))
    have e3 : (upd (upd (upd H3 l1 (.lst (nl cs))) l2 (.lst (nl fs))) h (.lst [.ref l1, .ref l2])) h = some (.lst [.ref l1, .ref l2]) := upd_same
    have nh1 : h ≠ l1 := fun z => by rw [z] at hh; rw [upd_ne n12, upd_same] at hh; cases hh
    have nh2 : h ≠ l2 := fun z => by rw [z, upd_same] at hh; cases hh
    have nh : H3 h = none := (same_upd hl1).free ((same_upd hl2).free hh)
    change (upd (upd (upd H3 l1 (.lst (nl cs))) l2 (.lst (nl fs))) h (.lst [.ref l1, .ref l2])) l1 = _ at e1
    change (upd (upd (upd H3 l1 (.lst (nl cs))) l2 (.lst (nl fs))) h (.lst [.ref l1, .ref l2])) l2 = _ at e2
    generalize upd (upd (upd H3 l1 (.lst (nl cs))) l2 (.lst (nl fs))) h (.lst [.ref l1, .ref l2]) = H6 at t6 e1 e2 e3
    refine ⟨_, rfl, _, rfl, _, rfl, _, rfl, _, rfl, p, q, cs, fs, s, m, t, rfl, t6 _ _ eP3, t6 _ _ eQ3, L, fun p7 H7 s7 hp7 hP7 => ?_⟩
    refine ⟨p7, _, rfl, SqT.of hP7, rfl, _, _, rfl, _, _, rfl, rfl, ?_⟩
    obtain ⟨u1, u2, u3⟩ := usum_ok L.trs
    have ul := L.len
    refine ⟨_, rfl, h, _, _, _, rfl, rfl, SqL.of (s7 _ _ e3), atI_nat (j := 0) rfl, _, rfl, h, _, _, _, rfl, rfl, SqL.of (s7 _ _ e3), atI_nat (j := 1) rfl, _, rfl, _, rfl, _, rfl, tnil_ (worth_good (s7 _ _ e1) (s7 _ _ e2) L fun p8 H8 s8 hp8 hF8 => ?_)⟩
    have t8 := s7.trans s8
    refine ⟨_, rfl, _, rfl, _, rfl, p8, _, _, _, rfl, hF8, nat2_is u1 u2 u3 (by omega), fun H9 s9 => ⟨_, rfl, iteF ?_⟩⟩
    have t9 := t8.trans s9
    refine ⟨_, rfl, _, rfl, _, rfl, (by show 2 ≤ sizeLine; omega), fun h' hh' => ?_⟩
    have t10 := t9.trans (same_upd (o := .lst [.ref p, .ref q]) hh')
    have F10 := same_upd (o := .lst [.ref p, .ref q]) hh' _ _ (s9 _ _ hF8)
    have r10 : (upd H9 h' (.lst [.ref p, .ref q])) h' = some (.lst [.ref p, .ref q]) := upd_same
    generalize upd H9 h' (.lst [.ref p, .ref q]) = H10 at t10 r10 F10
    refine ⟨dLs cs fs, dLs cs fs, dt_ls (t10 _ _ e3) (t10 _ _ e1) (t10 _ _ e2), dt_ls r10 (t10 _ _ (t6 _ _ eP3)) (t10 _ _ (t6 _ _ eQ3)), lay_ls _ _, lay_ls _ _, dep_ls _ _ _, _, rfl, ?_⟩
    rw [eqv_same (lay_ls _ _)]
    refine iteF ?_
    have P10 := t10 _ _ (t6 _ _ eP3)
    have Q10 := t10 _ _ (t6 _ _ eQ3)
    refine ⟨_, rfl, _, rfl, p, _, rfl, rfl, SqL.of P10, fun v1 hv1 => ?_⟩
    have w1 := same_upd (o := .lst (nl cs).reverse) hv1
    refine ⟨_, rfl, _, rfl, q, _, rfl, rfl, SqL.of (w1 _ _ Q10), fun v2 hv2 => ?_⟩
    have w2 := same_upd (o := .lst (nl fs).reverse) hv2
    have V1 : (upd (upd H10 v1 (.lst (nl cs).reverse)) v2 (.lst (nl fs).reverse)) v1 = some (.lst (nl cs.reverse)) := by rw [w2 _ _ upd_same, nl_rev]
    have V2 : (upd (upd H10 v1 (.lst (nl cs).reverse)) v2 (.lst (nl fs).reverse)) v2 = some (.lst (nl fs.reverse)) := by rw [upd_same, nl_rev]
    have t12 := w1.trans w2
    generalize upd (upd H10 v1 (.lst (nl cs).reverse)) v2 (.lst (nl fs).reverse) = H12 at V1 V2 t12
    refine ⟨_, rfl, _, rfl, _, rfl, tnil_ (worth_good V1 V2 L.rev fun p13 H13 s13 hp13 hF13 => ?_)⟩
    rw [zip_rev cl, usum_rev] at hF13
    have t13 := t12.trans s13
    refine ⟨_, rfl, _, _, dt_fr hF13, dt_fr (t13 _ _ F10), rfl, rfl, Nat.le_trans (Nat.min_le_left _ _) (show 1 ≤ 100 by decide), _, rfl, ?_⟩
    rw [eqv_same rfl]
    refine iteF ?_
    have P13 := t13 _ _ P10
    have Q13 := t13 _ _ Q10
    refine ⟨_, rfl, (by show 1 ≤ sizeLine; omega), fun v3 hv3 => ⟨p, v3, _, _, rfl, rfl, same_upd hv3 _ _ P13, upd_same, (by rw [nl_len]; show _ + 1 ≤ _; omega), fun v4 hv4 => ?_⟩⟩
    have w4 := Same.upd (o := .lst (nl cs ++ [.int 0])) (same_upd (o := .lst [.int 0]) hv3) hv4
    have V4 : (upd (upd H13 v3 (.lst [.int 0])) v4 (.lst (nl cs ++ [.int 0]))) v4 = some (.lst (nl (cs ++ [0]))) := by rw [upd_same, nl_app]; rfl
    generalize upd (upd H13 v3 (.lst [.int 0])) v4 (.lst (nl cs ++ [.int 0])) = H14 at w4 V4
    refine ⟨_, rfl, _, rfl, (by show 1 ≤ sizeLine; omega), fun v5 hv5 => ⟨q, v5, _, _, rfl, rfl, same_upd hv5 _ _ (w4 _ _ Q13), upd_same, (by rw [nl_len]; show _ + 1 ≤ _; omega), fun v6 hv6 => ?_⟩⟩
    have w6 := Same.upd (o := .lst (nl fs ++ [.int (m : Int)])) (same_upd (o := .lst [.int (m : Int)]) hv5) hv6
    have V6 : (upd (upd H14 v5 (.lst [.int (m : Int)])) v6 (.lst (nl fs ++ [.int (m : Int)]))) v6 = some (.lst (nl (fs ++ [m]))) := by rw [upd_same, nl_app]; rfl
    generalize upd (upd H14 v5 (.lst [.int (m : Int)])) v6 (.lst (nl fs ++ [.int (m : Int)])) = H15 at w6 V6
    refine ⟨_, rfl, _, rfl, _, rfl, tnil_ (worth_good (w6 _ _ V4) V6 (M.more (Nat.zero_le _) ml) fun p16 H16 s16 hp16 hF16 => ?_)⟩
    have ez : trm s m t (0, m) = (0, 1 * (m + 1)) := by show (0 * (m + 1), 1 * (m + 1)) = _; rw [Nat.zero_mul]
    rw [zip_more cl, usum_app, ez, nat2_zero u1 (by omega)] at hF16
    have t16 : Same H10 H16 := ((t13.trans w4).trans w6).trans s16
    refine ⟨_, rfl, _, _, dt_fr hF16, dt_fr (t16 _ _ F10), rfl, rfl, Nat.le_trans (Nat.min_le_left _ _) (show 1 ≤ 100 by decide), _, rfl, ?_⟩
    rw [eqv_same rfl]
    refine iteF ?_
    have T16 : Same H6 H16 := t10.trans t16
    have E3 := T16 _ _ e3
    have E1 := T16 _ _ e1
    have E2 := T16 _ _ e2
    refine ⟨_, rfl, h, _, _, .ref l1, rfl, rfl, SqL.of E3, atI_nat (j := 0) rfl, .inl ⟨rfl, _, SqL.of E1⟩, l1, _, _, rfl, rfl, E1, (by rw [nl_len]; omega), ?_⟩
    have Y1 : Same H3 (upd H16 l1 (.lst (nl cs ++ [.int 2]))) := same_put (t6.trans T16) hl1
    have D3 : (upd H16 l1 (.lst (nl cs ++ [.int 2]))) h = some (.lst [.ref l1, .ref l2]) := by rw [upd_ne nh1]; exact E3
    have D1 : (upd H16 l1 (.lst (nl cs ++ [.int 2]))) l1 = some (.lst (nl (cs ++ [2]))) := by rw [upd_same, nl_app]; rfl
    have D2 : (upd H16 l1 (.lst (nl cs ++ [.int 2]))) l2 = some (.lst (nl fs)) := by rw [upd_ne (Ne.symm n12)]; exact E2
    generalize upd H16 l1 (.lst (nl cs ++ [.int 2])) = H17 at Y1 D3 D1 D2
    refine ⟨_, rfl, h, _, _, .ref l2, rfl, rfl, SqL.of D3, atI_nat (j := 1) rfl, .inl ⟨rfl, _, SqL.of D2⟩, l2, _, _, rfl, rfl, D2, (by rw [nl_len]; omega), ?_⟩
    have Y2 : Same H3 (upd H17 l2 (.lst (nl fs ++ [.int 1]))) := same_put Y1 hl2'
    have G3 : (upd H17 l2 (.lst (nl fs ++ [.int 1]))) h = some (.lst [.ref l1, .ref l2]) := by rw [upd_ne nh2]; exact D3
    have G1 : (upd H17 l2 (.lst (nl fs ++ [.int 1]))) l1 = some (.lst (nl (cs ++ [2]))) := by rw [upd_ne n12]; exact D1
    have G2 : (upd H17 l2 (.lst (nl fs ++ [.int 1]))) l2 = some (.lst (nl (fs ++ [1]))) := by rw [upd_same, nl_app]; rfl
    generalize upd H17 l2 (.lst (nl fs ++ [.int 1])) = H18 at Y2 G3 G1 G2
    have L2' := M.more (c := 2) (f := 1) (by decide) (by decide)
    refine ⟨_, rfl, h, _, _, _, rfl, rfl, SqL.of G3, atI_nat (j := 0) rfl, _, rfl, h, _, _, _, rfl, rfl, SqL.of G3, atI_nat (j := 1) rfl, _, rfl, _, rfl, _, rfl, l1, l2, _, _, s, m, t, rfl, G1, G2, L2', fun p19 H19 s19 hp19 hP19 => ?_⟩
    refine ⟨p19, _, rfl, SqT.of hP19, rfl, _, _, rfl, _, _, rfl, rfl, ?_⟩
    obtain ⟨y1, y2, y3⟩ := usum_ok L2'.trs
    have yl := L2'.len
    refine ⟨_, rfl, h, _, _, _, rfl, rfl, SqL.of (s19 _ _ G3), atI_nat (j := 0) rfl, _, rfl, h, _, _, _, rfl, rfl, SqL.of (s19 _ _ G3), atI_nat (j := 1) rfl, _, rfl, _, rfl, _, rfl, tnil_ (worth_good (s19 _ _ G1) (s19 _ _ G2) L2' fun p20 H20 s20 hp20 hF20 => ?_)⟩
    refine ⟨_, rfl, _, rfl, p20, _, _, _, rfl, hF20, nat2_is y1 y2 y3 (by omega), fun H21 s21 => ⟨_, rfl, iteF ?_⟩⟩
    have Y21 : Same H H21 := (h3.trans Y2).trans ((s19.trans s20).trans s21)
    refine ⟨3, rfl, by decide, by decide, comp_itr (fun i ys H' => Same H H' ∧ ys = (List.replicate i true).map V.bl) (by rw [hz]; decide) ⟨Y21, rfl⟩ ?_ ?_⟩
    · rintro i ys H' N hi ⟨sm, rfl⟩ hN
      have hi3 : i < 3 := hi
      refine g1 ?_
      refine ⟨_, rfl, _, rfl, _, rfl, _, _, rfl, rfl, a, ns, 20 + i, (by show [V.ref a, V.int (20 + (0 + (i : Int)))] = _; rw [Int.zero_add]; rfl), sm.seq hS, hlen, by omega, fun n H1 _ _ s1 => ⟨i, n, (by show [V.int (0 + (i : Int)), V.int n] = _; rw [Int.zero_add]), hi3, fun H2 s2 => hN _ _ ⟨(sm.trans s1).trans s2, by rw [List.replicate_succ', List.map_append]; rfl⟩⟩⟩
    · rintro ys H' ⟨sm, rfl⟩ _ u hu
      refine ⟨u, List.replicate 3 true, rfl, SqL.of upd_same, ?_⟩
      rw [all_rep]
      exact kk _
end
end K19
set_option Elab.async false
set_option linter.all false
set_option maxRecDepth 100000
set_option maxHeartbeats 4000000
namespace K19
open PySem L2 PyProof.Rows PySem.Spec Gn
section
variable {P : Program} {w : World} {K : PySem.W.Frag} {mg : Str → Option Value} {base h : Heap}
theorem txt_mk (X : K.In h) (G : h.Ns mainGlobals mg)
    (n0 : PySem.W.nsIn K mainGlobals "isinstance" = some none) (n1 : PySem.W.nsIn K mainGlobals "int" = some none) (n2 : PySem.W.nsIn K mainGlobals "bool" = some none) (n3 : PySem.W.nsIn K mainGlobals "list" = some none) (n4 : PySem.W.nsIn K mainGlobals "tuple" = some none) (n5 : PySem.W.nsIn K mainGlobals "len" = some none) (n6 : PySem.W.nsIn K mainGlobals "all" = some none) (n7 : PySem.W.nsIn K mainGlobals "abs" = some none) (n8 : PySem.W.nsIn K mainGlobals "range" = some none) (n9 : PySem.W.nsIn K mainGlobals "ValueError" = some none) (n10 : PySem.W.nsIn K mainGlobals "zip" = some none) (n11 : PySem.W.nsIn K mainGlobals "min" = some none) : Txt mg where
  isi := PySem.W.mg_none_of X G n0
  int := PySem.W.mg_none_of X G n1
  bool := PySem.W.mg_none_of X G n2
  list := PySem.W.mg_none_of X G n3
  tuple := PySem.W.mg_none_of X G n4
  len := PySem.W.mg_none_of X G n5
  all := PySem.W.mg_none_of X G n6
  abs := PySem.W.mg_none_of X G n7
  range := PySem.W.mg_none_of X G n8
  val := PySem.W.mg_none_of X G n9
  zip := PySem.W.mg_none_of X G n10
  min := PySem.W.mg_none_of X G n11
theorem dfd1_mk {x : Str} {st : Stmt} {f T : Addr} {oc kV doc pm cd ct tc : Value} {od an td : Option Addr} {sl tsl : Array (Option Value)} {items : Array Value} {tn : Nat} {n : Int} (X : K.In h) (G : h.Ns mainGlobals mg) (a : PySem.W.nsIn K mainGlobals x = some (some (.ref f)))
    (l : K.lookup f = some ⟨oc, od, .func (PySem.W.fnOf x x (defArgs st) (defBody st) (defScope st) (.ref T) kV doc pm an cd ct), sl⟩) (c : PySem.W.codeIn K cd x = true) (k : PySem.W.keepIn K (.ref f) = true)
    (t : K.lookup T = some ⟨tc, td, .seq items tn, tsl⟩) (e : ∃ tk, items = #[.int n tk]) : ∃ tk f fd, DfD K mg x st f fd #[.int n tk] := by
  obtain ⟨tk, rfl⟩ := e
  obtain ⟨f', fd, D⟩ := dfd_mk X G a l c k t
  exact ⟨tk, f', fd, D⟩
theorem cl_mk {CH CN CT : Addr} (X : K.In h) (G : h.Ns mainGlobals mg) (a : PySem.W.nsIn K mainGlobals "HallError" = some (some (.ref CH))) (b : PySem.W.nsIn K mainGlobals "BadNumber" = some (some (.ref CN)))
    (c : PySem.W.nsIn K mainGlobals "BadText" = some (some (.ref CT)))
    {cd : ClassData} (cl : PySem.W.clsIn K CN = some cd) (ga : PySem.W.findIn K (.ref CN) "__getattribute__" = some (some (.builtin "BaseException.__getattribute__"))) (hk : PySem.W.findIn K (.ref CN) "__getattr__" = some none)
    (ha : PySem.W.findIn K (.ref CN) "__class__" = some (some (.builtin "object.__class__"))) (hn : PySem.W.specialIn K (.builtin "object.__class__") "__get__" = some (some (.builtin "getset_descriptor.__get__"))) (ht : PySem.W.takesIn K (.builtin "object.__class__") = some true)
    (hm : PySem.W.mroIn K CN (.type "object") = some true) (hb : PySem.W.mroIn K CN (.type "BaseException") = some true)
    (n : PySem.W.kitOne K (.ref CN) (.ref CN) = some true) (t : PySem.W.kitOne K (.ref CN) (.ref CT) = some false)
    (v : PySem.W.kitOne K (.ref CN) (.type "ValueError") = some true) (e : PySem.W.exmOne K (.ref CN) (.ref CH) = some true)
    (q : PySem.W.excIn K CN [.type "ValueError", .type "Exception", .type "BaseException", .type "object"] "ValueError.__new__" = true) :
    ∃ CH CN CT, Cl mg CH CN CT ∧ CF K CH CN CT ∧ Ex K mg "BadNumber" CN :=
  ⟨CH, CN, CT, ⟨PySem.W.mg_of X G a, PySem.W.mg_of X G b, PySem.W.mg_of X G c⟩, ⟨⟨by rw [cl]; rfl, ga, hk, ha, hn, ht, hm, hb⟩, n, t, v, e⟩, PySem.W.mg_of X G b, q⟩
theorem law_all (T : Txt mg) (C : ∃ CH CN CT, Cl mg CH CN CT ∧ CF K CH CN CT ∧ Ex K mg "BadNumber" CN)
    (d1 : ∃ f fd, Df K mg "is_whole" sWhole f fd)
    (d2 : ∃ f fd, Df K mg "common_divisor" sGcd f fd)
    (d3 : ∃ f fd, Df K mg "sum_of" sSum f fd)
    (d4 : ∃ f fd, Df K mg "product_of" sProd f fd)
    (d5 : ∃ f fd, Df K mg "need_numbers" sNNs f fd)
    (d6 : ∃ f fd, Df K mg "share_of" sShare f fd)
    (d7 : ∃ f fd, Df K mg "rarity_of" sRar f fd)
    (d8 : ∃ f fd, Df K mg "worth_of" sWorth f fd)
    (e1 : ∃ f fd, Df K mg "_law_mixed" lMixed f fd)
    (e2 : ∃ f fd, Df K mg "_law_number" lNumber f fd)
    (e3 : ∃ f fd, Df K mg "_law_common" lCommon f fd)
    (e4 : ∃ f fd, Df K mg "_law_is" lIs f fd)
    (e5 : ∃ f fd, Df K mg "_law_great" lGreat f fd)
    (e6 : ∃ f fd, Df K mg "_law_made" lMade f fd)
    (e7 : ∃ f fd, Df K mg "_law_share" lShare f fd)
    (e8 : ∃ f fd, Df K mg "_law_sum" lSum f fd)
    (e9 : ∃ f fd, Df K mg "_law_shares_right" lRight f fd)
    (e10 : ∃ f fd, Df K mg "_law_refused" lRef f fd)
    (e11 : ∃ f fd, Df K mg "_law_noughts_right" lNou f fd)
    (g1 : ∃ f fd, DfD K mg "need_number" sNNum f fd #[.none])
    (g2 : ∃ tk f fd, DfD K mg "fraction" sFr f fd #[.int 1 tk])
    {f : Addr} {fd : FuncData} (D : Df K mg "law" lLaw f fd) : FnOk P w K mg base CX0 7 f fd ["_law_script"] (spLaw K) := by
  obtain ⟨CH, CN, CT, C, F, X⟩ := C
  obtain ⟨_, _, Xd1⟩ := d1
  obtain ⟨_, _, Xd2⟩ := d2
  obtain ⟨_, _, Xd3⟩ := d3
  obtain ⟨_, _, Xd4⟩ := d4
  obtain ⟨_, _, Xd5⟩ := d5
  obtain ⟨_, _, Xd6⟩ := d6
  obtain ⟨_, _, Xd7⟩ := d7
  obtain ⟨_, _, Xd8⟩ := d8
  obtain ⟨_, _, Xe1⟩ := e1
  obtain ⟨_, _, Xe2⟩ := e2
  obtain ⟨_, _, Xe3⟩ := e3
  obtain ⟨_, _, Xe4⟩ := e4
  obtain ⟨_, _, Xe5⟩ := e5
  obtain ⟨_, _, Xe6⟩ := e6
  obtain ⟨_, _, Xe7⟩ := e7
  obtain ⟨_, _, Xe8⟩ := e8
  obtain ⟨_, _, Xe9⟩ := e9
  obtain ⟨_, _, Xe10⟩ := e10
  obtain ⟨_, _, Xe11⟩ := e11
  obtain ⟨_, _, Xg1⟩ := g1
  obtain ⟨_, _, _, Xg2⟩ := g2
  exact ok_law D T C F X Xd1 Xd2 Xd3 Xd4 Xd5 Xd6 Xd7 Xd8 Xe1 Xe2 Xe3 Xe4 Xe5 Xe6 Xe7 Xe8 Xe9 Xe10 Xe11 Xg1 Xg2
theorem law_mk {f fa : Addr} {oc kV doc pm cd ct : Value} {od an : Option Addr} {sl : Array (Option Value)} (X : K.In h) (G : h.Ns mainGlobals mg) (hfa : mg "law" = some (.ref fa)) (a : PySem.W.nsIn K mainGlobals "law" = some (some (.ref f)))
    (l : K.lookup f = some ⟨oc, od, .func (PySem.W.fnOf "law" "law" (defArgs lLaw) (defBody lLaw) (defScope lLaw) .none kV doc pm an cd ct), sl⟩) (c : PySem.W.codeIn K cd "law" = true) (k : PySem.W.keepIn K (.ref f) = true)
    (ok : ∀ (fd : FuncData) (base : Heap), Df K mg "law" lLaw f fd → FnOk P w K mg base CX0 7 f fd ["_law_script"] (spLaw K)) :
    ∃ fd : FuncData, (∀ (s : Shared) (v : Value), BindsTo s fd ⟨[v], []⟩ [("_law_script", v)]) ∧ ∀ base : Heap, K.In base → base.Ns mainGlobals mg → FnOk P w K mg base CX0 7 fa fd ["_law_script"] (spLaw K) := by
  have e := hfa.symm.trans (PySem.W.mg_of X G a)
  cases e
  exact ⟨PySem.W.fnOf "law" "law" (defArgs lLaw) (defBody lLaw) (defScope lLaw) .none kV doc pm an cd ct, fun s v => .of_eq rfl, fun base _ _ => ok _ base ⟨fun_mk l c k, PySem.W.mg_of X G a⟩⟩
end
theorem walk {l : PySem.W.OpenLaw} {q : Program} {loose : List Str} {XP : (Str → Option Value) → Heap → Prop} {YP : World → Heap → Prop} {d : DefRec} {K : Params → PySem.W.Frag} (hn : l.most = some 63) (hdf : d.params.defaults = [])
    (hY : ∀ (w : World) (h : Heap), YP w h → (K w.params).In h)
    (F : ∀ (w : World) (mg : Str → Option Value) (fa : Addr) (h : Heap), (K w.params).In h → h.Ns mainGlobals mg → mg d.name = some (.ref fa) →
      ∃ fd : FuncData, (∀ (s : Shared) (u : Value), BindsTo s fd ⟨[u], []⟩ [("_law_script", u)]) ∧ ∀ base : Heap, (K w.params).In base → base.Ns mainGlobals mg → FnOk l.prog w (K w.params) mg base CX0 7 fa fd ["_law_script"] (spLaw (K w.params))) :
    PySem.W.WalkO q loose XP YP l.row.toRowW d [] (fun f vs => PySem.call f vs) :=
  L2.walk_of (n := 63) (k := 7) (x := "_law_script") (CX := fun _ => CX0) (sp := fun w => spLaw (K w.params)) hn (by decide) hdf ⟨rfl, by decide, by decide⟩ hY F (fun _ _ a ns hl _ hS => ⟨a, ns, rfl, hS, hl, fun _ => rfl⟩) fun _ _ _ _ _ z => z
end K19
set_option Elab.async false
set_option linter.all false
open PySem PySem.W PyProof.Rows
set_option maxRecDepth 100000 in
set_option maxHeartbeats 0 in
theorem PySem.Challenge.cw_findhall_k19_shares_and_worths_holds : PySem.Challenge.rw_findhall_k19_shares_and_worths.Holds := by
  w_on; o_law; k_head; (case hw => w_witness2)
  k_fill
  refine K19.walk (l := PySem.Challenge.rw_findhall_k19_shares_and_worths) rfl rfl (fun w h Y => PySem.W.kIn_of Y) ?F
  case F =>
    intro w mg fa h KX G hmg
    have T : K19.Txt mg := by
      refine' K19.txt_mk KX G ?n0 ?n1 ?n2 ?n3 ?n4 ?n5 ?n6 ?n7 ?n8 ?n9 ?n10 ?n11
      (case n0 => k_is)
      (case n1 => k_is)
      (case n2 => k_is)
      (case n3 => k_is)
      (case n4 => k_is)
      (case n5 => k_is)
      (case n6 => k_is)
      (case n7 => k_is)
      (case n8 => k_is)
      (case n9 => k_is)
      (case n10 => k_is)
      (case n11 => k_is)
    have d1 : ∃ f fd, Gn.Df (L2.KOf KX) mg "is_whole" K19.sWhole f fd := by
      dsimp only [L2.KOf]
      refine' Gn.df_mk KX G ?a ?l ?c ?k
      (case a => k_is); (case l => k_is); (case c => k_is); (case k => k_is)
    have d2 : ∃ f fd, Gn.Df (L2.KOf KX) mg "common_divisor" K19.sGcd f fd := by
      dsimp only [L2.KOf]
      refine' Gn.df_mk KX G ?a ?l ?c ?k
      (case a => k_is); (case l => k_is); (case c => k_is); (case k => k_is)
    have d3 : ∃ f fd, Gn.Df (L2.KOf KX) mg "sum_of" K19.sSum f fd := by
      dsimp only [L2.KOf]
      refine' Gn.df_mk KX G ?a ?l ?c ?k
      (case a => k_is); (case l => k_is); (case c => k_is); (case k => k_is)
    have d4 : ∃ f fd, Gn.Df (L2.KOf KX) mg "product_of" K19.sProd f fd := by
      dsimp only [L2.KOf]
      refine' Gn.df_mk KX G ?a ?l ?c ?k
      (case a => k_is); (case l => k_is); (case c => k_is); (case k => k_is)
    have d5 : ∃ f fd, Gn.Df (L2.KOf KX) mg "need_numbers" K19.sNNs f fd := by
      dsimp only [L2.KOf]
      refine' Gn.df_mk KX G ?a ?l ?c ?k
      (case a => k_is); (case l => k_is); (case c => k_is); (case k => k_is)
    have d6 : ∃ f fd, Gn.Df (L2.KOf KX) mg "share_of" K19.sShare f fd := by
      dsimp only [L2.KOf]
      refine' Gn.df_mk KX G ?a ?l ?c ?k
      (case a => k_is); (case l => k_is); (case c => k_is); (case k => k_is)
    have d7 : ∃ f fd, Gn.Df (L2.KOf KX) mg "rarity_of" K19.sRar f fd := by
      dsimp only [L2.KOf]
      refine' Gn.df_mk KX G ?a ?l ?c ?k
      (case a => k_is); (case l => k_is); (case c => k_is); (case k => k_is)
    have d8 : ∃ f fd, Gn.Df (L2.KOf KX) mg "worth_of" K19.sWorth f fd := by
      dsimp only [L2.KOf]
      refine' Gn.df_mk KX G ?a ?l ?c ?k
      (case a => k_is); (case l => k_is); (case c => k_is); (case k => k_is)
    have e1 : ∃ f fd, Gn.Df (L2.KOf KX) mg "_law_mixed" K19.lMixed f fd := by
      dsimp only [L2.KOf]
      refine' Gn.df_mk KX G ?a ?l ?c ?k
      (case a => k_is); (case l => k_is); (case c => k_is); (case k => k_is)
    have e2 : ∃ f fd, Gn.Df (L2.KOf KX) mg "_law_number" K19.lNumber f fd := by
      dsimp only [L2.KOf]
      refine' Gn.df_mk KX G ?a ?l ?c ?k
      (case a => k_is); (case l => k_is); (case c => k_is); (case k => k_is)
    have e3 : ∃ f fd, Gn.Df (L2.KOf KX) mg "_law_common" K19.lCommon f fd := by
      dsimp only [L2.KOf]
      refine' Gn.df_mk KX G ?a ?l ?c ?k
      (case a => k_is); (case l => k_is); (case c => k_is); (case k => k_is)
    have e4 : ∃ f fd, Gn.Df (L2.KOf KX) mg "_law_is" K19.lIs f fd := by
      dsimp only [L2.KOf]
      refine' Gn.df_mk KX G ?a ?l ?c ?k
      (case a => k_is); (case l => k_is); (case c => k_is); (case k => k_is)
    have e5 : ∃ f fd, Gn.Df (L2.KOf KX) mg "_law_great" K19.lGreat f fd := by
      dsimp only [L2.KOf]
      refine' Gn.df_mk KX G ?a ?l ?c ?k
      (case a => k_is); (case l => k_is); (case c => k_is); (case k => k_is)
    have e6 : ∃ f fd, Gn.Df (L2.KOf KX) mg "_law_made" K19.lMade f fd := by
      dsimp only [L2.KOf]
      refine' Gn.df_mk KX G ?a ?l ?c ?k
      (case a => k_is); (case l => k_is); (case c => k_is); (case k => k_is)
    have e7 : ∃ f fd, Gn.Df (L2.KOf KX) mg "_law_share" K19.lShare f fd := by
      dsimp only [L2.KOf]
      refine' Gn.df_mk KX G ?a ?l ?c ?k
      (case a => k_is); (case l => k_is); (case c => k_is); (case k => k_is)
    have e8 : ∃ f fd, Gn.Df (L2.KOf KX) mg "_law_sum" K19.lSum f fd := by
      dsimp only [L2.KOf]
      refine' Gn.df_mk KX G ?a ?l ?c ?k
      (case a => k_is); (case l => k_is); (case c => k_is); (case k => k_is)
    have e9 : ∃ f fd, Gn.Df (L2.KOf KX) mg "_law_shares_right" K19.lRight f fd := by
      dsimp only [L2.KOf]
      refine' Gn.df_mk KX G ?a ?l ?c ?k
      (case a => k_is); (case l => k_is); (case c => k_is); (case k => k_is)
    have e10 : ∃ f fd, Gn.Df (L2.KOf KX) mg "_law_refused" K19.lRef f fd := by
      dsimp only [L2.KOf]
      refine' Gn.df_mk KX G ?a ?l ?c ?k
      (case a => k_is); (case l => k_is); (case c => k_is); (case k => k_is)
    have e11 : ∃ f fd, Gn.Df (L2.KOf KX) mg "_law_noughts_right" K19.lNou f fd := by
      dsimp only [L2.KOf]
      refine' Gn.df_mk KX G ?a ?l ?c ?k
      (case a => k_is); (case l => k_is); (case c => k_is); (case k => k_is)
    have g1 : ∃ f fd, Gn.DfD (L2.KOf KX) mg "need_number" K19.sNNum f fd #[.none] := by
      dsimp only [L2.KOf]
      refine' Gn.dfd_mk KX G ?a ?l ?c ?k ?t
      (case a => k_is); (case l => k_is); (case c => k_is); (case k => k_is); (case t => k_is)
    have g2 : ∃ tk f fd, Gn.DfD (L2.KOf KX) mg "fraction" K19.sFr f fd #[.int 1 tk] := by
      dsimp only [L2.KOf]
      refine' K19.dfd1_mk KX G ?a ?l ?c ?k ?t ?e
      (case a => k_is); (case l => k_is); (case c => k_is); (case k => k_is); (case t => k_is); (case e => exact ⟨_, rfl⟩)
    have hC : ∃ CH CN CT, K19.Cl mg CH CN CT ∧ K19.CF (L2.KOf KX) CH CN CT ∧ Gn.Ex (L2.KOf KX) mg "BadNumber" CN := by
      dsimp only [L2.KOf]
      refine' K19.cl_mk KX G ?a ?b ?c ?s1 ?s2 ?s3 ?s4 ?s5 ?s6 ?s7 ?s8 ?k1 ?k2 ?k3 ?x1 ?x2
      (case a => k_is)
      (case b => k_is)
      (case c => k_is)
      (case s1 => k_is)
      (case s2 => k_is)
      (case s3 => k_is)
      (case s4 => k_is)
      (case s5 => k_is)
      (case s6 => k_is)
      (case s7 => k_is)
      (case s8 => k_is)
      (case k1 => kit_is)
      (case k2 => kit_is)
      (case k3 => kit_is)
      (case x1 => kts_exm)
      (case x2 => k_exc)
    refine' K19.law_mk KX G hmg ?a ?l ?c ?k fun fd base D => K19.law_all T hC d1 d2 d3 d4 d5 d6 d7 d8 e1 e2 e3 e4 e5 e6 e7 e8 e9 e10 e11 g1 g2 D
    (case a => k_is); (case l => k_is); (case c => k_is); (case k => k_is)
