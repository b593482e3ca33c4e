import PyProof.Rows.All
import Wide.All
import OpenK.AllK
import Wide.FinOn
import PyProof.EqAt
import PyProof.EqKinds
import PyProof.TupleCall
import Lean
import PySem.Challenge.RW_findhall_k01_texts_and_words
set_option Elab.async false
set_option linter.all false
set_option maxRecDepth 100000
namespace L2
open PySem PySem.Spec PyProof.Rows
noncomputable abbrev Key := Sum Int Str
noncomputable def keyIs : Key → Value → Bool
  | .inl k, v => Value.isInt k v
  | .inr x, v => Value.isStrOf x v
noncomputable def keyH (w : World) : Key → Int
  | .inl k => hashInt k
  | .inr x => hashStr w x
theorem keyIs_shape : ∀ {k : Key} {v : Value}, keyIs k v = true → (∃ i t, k = Sum.inl i ∧ v = Value.int i t) ∨ (∃ x t, k = Sum.inr x ∧ v = Value.str x t)
  | .inl i, v, h => by
    obtain ⟨t, e⟩ := Value.isInt_shape (k := i) (v := v) h
    exact .inl ⟨i, t, rfl, e⟩
  | .inr x, v, h => by
    obtain ⟨t, e⟩ := Value.isStrOf_shape (x := x) (v := v) h
    exact .inr ⟨x, t, rfl, e⟩
theorem key_ll (a b : Int) : decide ((Sum.inl a : Key) = Sum.inl b) = (a == b) := by
  by_cases e : a = b
  · subst e; simp
  · have h : ¬ (Sum.inl a : Key) = Sum.inl b := fun q => e (Sum.inl.inj q)
    rw [decide_eq_false h]
    exact (beq_eq_false_iff_ne.mpr e).symm
theorem key_rr (a b : Str) : decide ((Sum.inr a : Key) = Sum.inr b) = decide (a = b) := by
  by_cases e : a = b
  · subst e; simp
  · have h : ¬ (Sum.inr a : Key) = Sum.inr b := fun q => e (Sum.inr.inj q)
    rw [decide_eq_false h, decide_eq_false e]
theorem key_lr (a : Int) (b : Str) : decide ((Sum.inl a : Key) = Sum.inr b) = false := decide_eq_false (fun q => nomatch q)
theorem key_rl (a : Str) (b : Int) : decide ((Sum.inr a : Key) = Sum.inl b) = false := decide_eq_false (fun q => nomatch q)
noncomputable def mixKind (prog : Program) (w : World) : PySem.KeyKind prog w Key where
  is := keyIs
  hash := keyH w
  inj := fun v a b ha hb => by
    rcases keyIs_shape ha with ⟨i, t, rfl, rfl⟩ | ⟨x, t, rfl, rfl⟩
    · rcases keyIs_shape hb with ⟨j, u, rfl, e⟩ | ⟨y, u, rfl, e⟩
      · injection e with e1 _; rw [e1]
      · exact nomatch e
    · rcases keyIs_shape hb with ⟨j, u, rfl, e⟩ | ⟨y, u, rfl, e⟩
      · exact nomatch e
      · injection e with e1 _; rw [e1]
  byValue := fun k v h => by
    rcases keyIs_shape h with ⟨i, t, rfl, rfl⟩ | ⟨x, t, rfl, rfl⟩ <;> rfl
  pyHash := fun hv h => by
    rcases keyIs_shape hv with ⟨i, t, rfl, rfl⟩ | ⟨x, t, rfl, rfl⟩
    · exact wpAny_pyHash_int h
    · exact wpAny_pyHash_str h
  eqBool := fun hu hv h => by
    rcases keyIs_shape hu with ⟨i, t, rfl, rfl⟩ | ⟨x, t, rfl, rfl⟩
    · rcases keyIs_shape hv with ⟨j, u, rfl, rfl⟩ | ⟨y, u, rfl, rfl⟩
      · rw [key_ll] at h; exact wpAny_eqBool_int h
      · rw [key_lr] at h; exact SeqAt.EqAt.int_str i t y u _ _ _ _ h
    · rcases keyIs_shape hv with ⟨j, u, rfl, rfl⟩ | ⟨y, u, rfl, rfl⟩
      · rw [key_rl] at h; exact SeqAt.EqAt.str_int x t j u _ _ _ _ h
      · rw [key_rr] at h; exact wpAny_eqBool_str h
  «strs» := fun k x t v h => by
    rcases keyIs_shape h with ⟨i, u, rfl, e⟩ | ⟨y, u, rfl, e⟩
    · exact nomatch e
    · injection e with e1 _
      subst e1
      cases v <;> rfl
end L2
namespace L2
open PySem PySem.Spec PyProof.Rows
inductive V where
  | non | bl (b : Bool) | int (i : Int) | str (x : Str) | byt (b : Array UInt8) | flt (b : UInt64) | ref (a : Addr) | ty (n : String)
  deriving DecidableEq
noncomputable def RelV : V → Value → Prop
  | .non, u => u = Value.none
  | .bl b, u => u = Value.bool b
  | .int i, u => ∃ t, u = Value.int i t
  | .str x, u => ∃ t, u = Value.str x t
  | .byt b, u => ∃ t, u = Value.bytes b t
  | .flt b, u => ∃ t, u = Value.float b t
  | .ref a, u => u = Value.ref a
  | .ty n, u => u = Value.type n
noncomputable abbrev Vals : List V → List Value → Prop := Paired RelV
theorem Vals.length {xs : List V} {us : List Value} (r : Vals xs us) : xs.length = us.length := Paired.length r
theorem Vals.get : ∀ {xs : List V} {us : List Value} {i : Nat} {x : V}, Vals xs us → xs[i]? = some x → ∃ u, us[i]? = some u ∧ RelV x u
  | _, _, _, _, .nil, e => by simp at e
  | _, _, 0, _, .cons r _, e => by simp at e; subst e; exact ⟨_, rfl, r⟩
  | _, _, i + 1, x, .cons _ t, e => by
    obtain ⟨u, h1, h2⟩ := Vals.get (i := i) (x := x) t (by simpa using e)
    exact ⟨u, by simpa using h1, h2⟩
theorem Vals.set {x : V} {u : Value} (r : RelV x u) : ∀ {xs : List V} {us : List Value} (i : Nat), Vals xs us → Vals (xs.set i x) (us.set i u)
  | _, _, _, .nil => .nil
  | _, _, 0, .cons _ t => .cons r t
  | _, _, i + 1, .cons q t => .cons q (Vals.set r i t)
theorem Vals.append : ∀ {xs ys : List V} {us ws : List Value}, Vals xs us → Vals ys ws → Vals (xs ++ ys) (us ++ ws)
  | _, _, _, _, .nil, s => s
  | _, _, _, _, .cons r t, s => .cons r (Vals.append t s)
theorem Vals.take : ∀ {xs : List V} {us : List Value} (n : Nat), Vals xs us → Vals (xs.take n) (us.take n)
  | _, _, 0, _ => .nil
  | _, _, _ + 1, .nil => .nil
  | _, _, n + 1, .cons r t => .cons r (Vals.take n t)
theorem Vals.drop : ∀ {xs : List V} {us : List Value} (n : Nat), Vals xs us → Vals (xs.drop n) (us.drop n)
  | _, _, 0, r => r
  | _, _, _ + 1, .nil => .nil
  | _, _, n + 1, .cons _ t => Vals.drop n t
noncomputable def RelO : Option V → Option Value → Prop
  | some v, some u => RelV v u
  | none, none => True
  | _, _ => False
noncomputable def KV {κ : Type} : List (κ × V) → List (κ × Value) → Prop := Paired fun (p : κ × V) (q : κ × Value) => p.1 = q.1 ∧ RelV p.2 q.2
noncomputable def kV : Key → V
  | .inl i => .int i
  | .inr x => .str x
inductive HO where
  | lst (xs : List V)
  | tup (xs : List V)
  | dK (kvs : List (Key × V)) | dT (kvs : List (List Key × V))
  | set (S : Int → Bool) (n : Nat)
  | ins (C dx : Addr) (fs : List (Str × V))
  | own (x : Addr)
  | xd (fs : List (Str × V))
  | met (f x : Addr)
  | rng (lo hi : Int)
  | frz (o : Obj) (u : HO)
  | tbl (ps : Array Value)
  | ext (φ : Heap → Prop)
noncomputable abbrev Hp := Addr → Option HO
noncomputable def upd (H : Hp) (a : Addr) (o : HO) : Hp := fun b => if b = a then some o else H b
theorem upd_same {H : Hp} {a : Addr} {o : HO} : upd H a o a = some o := by unfold upd; rw [if_pos rfl]
theorem upd_ne {H : Hp} {a b : Addr} {o : HO} (h : b ≠ a) : upd H a o b = H b := by unfold upd; rw [if_neg h]
theorem ne_of_none {H : Hp} {a b : Addr} {o : HO} (h : H a = some o) (h' : H b = none) : a ≠ b := by
  intro e; subst e; rw [h] at h'; cases h'
section
variable (P : Program) (w : World)
noncomputable def ObjOk (H : Hp) (h : Heap) (a : Addr) : HO → Prop
  | .lst xs => xs.length ≤ sizeLine ∧ ∃ (its : List Value) (n : Nat), Vals xs its ∧ h.get? a = some { cls := .type "list", data := .seq its.toArray n }
  | .tup xs => xs.length ≤ sizeLine ∧ ∃ its : List Value, Vals xs its ∧ IsTup h a its.toArray
  | .dK kvs => kvs.length ≤ sizeLine ∧ (a == sysModules) = false ∧ ∃ vs, KV kvs vs ∧ h.DictOf (mixKind P w) a vs
  | .dT kvs => kvs.length ≤ sizeLine ∧ (a == sysModules) = false ∧ ∃ xs : List (List Key × Addr × Value),
      Paired (fun (p : List Key × V) (q : List Key × Addr × Value) => p.1 = q.1 ∧ H q.2.1 = some (.tup (p.1.map kV)) ∧ RelV p.2 q.2.2) kvs xs ∧
      ∃ o es ep, h.get? a = some o ∧ o.ExactDict ∧ o.data = .dict es ep ∧ es.toList = xs.map (entryOfKey (tupleKind (mixKind P w))) ∧ (xs.map (·.1)).Nodup
  | .set S n => h.SetOf (intKind P w) a S n
  | .ins C dx fs => H dx = some (.own a) ∧ fs.length ≤ 1000 ∧ dx ≠ a ∧ h.get? a = some (PySem.W.instObj C dx) ∧
      ∃ mA, h.Ns1 dx mA ∧ (∀ f, RelO (fs.lookup f) (mA f)) ∧ PySem.Within mA (fs.map (·.1))
  | .own _ => ∃ o, h.get? a = some o
  | .xd fs => ∃ mA, h.Ns1 a mA ∧ ∀ f, RelO (fs.lookup f) (mA f)
  | .rng lo hi => ∃ t u v, h.get? a = some { cls := .type "range", data := .fields #[.int lo t, .int hi u, .int 1 v] }
  | .frz o u => h.get? a = some o ∧ ObjOk H h a u
  | .tbl ps => h.get? a = some { cls := .none, data := .fields ps }
  | .met f x => h.get? a = some (PySem.W.methodObj (.ref f) (.ref x))
  | .ext φ => φ h ∧ (∃ o, h.get? a = some o) ∧ ∀ h1 h2 : Heap, φ h1 → (∀ o, h1.get? a = some o → h2.get? a = some o) → φ h2
noncomputable def HOk (H : Hp) (h : Heap) : Prop := ∀ a o, H a = some o → ObjOk P w H h a o
end
section
variable {P : Program} {w : World} {H H' : Hp} {h h' : Heap} {a : Addr} {o : HO}
theorem ObjOk.lt (x : ObjOk P w H h a o) : a < h.objs.size := by
  cases o with
  | lst xs => obtain ⟨_, _, _, _, e⟩ := x; exact Heap.lt_size e
  | tup xs => obtain ⟨_, _, _, p⟩ := x; exact p.lt
  | dK kvs => obtain ⟨_, _, _, _, o, _, _, e, _⟩ := x; exact Heap.lt_size e
  | dT kvs => obtain ⟨_, _, _, _, o, _, _, e, _⟩ := x; exact Heap.lt_size e
  | set S n => obtain ⟨o, _, _, _, e, _⟩ := x; exact Heap.lt_size e
  | ins C dx fs => obtain ⟨_, _, _, e, _⟩ := x; exact Heap.lt_size e
  | own y => obtain ⟨_, e⟩ := x; exact Heap.lt_size e
  | xd fs => obtain ⟨_, ⟨_, _, _, e, _⟩, _⟩ := x; exact Heap.lt_size e
  | rng lo hi => obtain ⟨_, _, _, e⟩ := x; exact Heap.lt_size e
  | frz ob u => obtain ⟨e, _⟩ := x; exact Heap.lt_size e
  | tbl ps => exact Heap.lt_size (show h.get? a = some _ from x)
  | met f y => exact Heap.lt_size (show h.get? a = some _ from x)
  | ext φ => obtain ⟨_, ⟨_, e⟩, _⟩ := x; exact Heap.lt_size e
theorem Paired.mapP {α β : Type} {F G : α → β → Prop} : ∀ {l₁ : List α} {l₂ : List β}, Paired F l₁ l₂ → (∀ a b, F a b → G a b) → Paired G l₁ l₂
  | _, _, .nil, _ => .nil
  | _, _, .cons r t, f => .cons (f _ _ r) (Paired.mapP t f)
theorem ObjOk.stay (x : ObjOk P w H h a o) (k : ∀ b u, (b = a ∨ H b = some (.own a)) → h.get? b = some u → h'.get? b = some u)
    (ho : ∀ b, H b = some (.own a) → H' b = some (.own a)) (ht : ∀ b xs, H b = some (.tup xs) → H' b = some (.tup xs)) : ObjOk P w H' h' a o := by
  induction o with
  | lst xs => obtain ⟨z, its, n, r, e⟩ := x; exact ⟨z, its, n, r, k _ _ (.inl rfl) e⟩
  | tup xs => obtain ⟨z, its, r, ob, e, c⟩ := x; exact ⟨z, its, r, ob, k _ _ (.inl rfl) e, c⟩
  | dK kvs => obtain ⟨z, y, vs, r, ob, es, ep, e, c⟩ := x; exact ⟨z, y, vs, r, ob, es, ep, k _ _ (.inl rfl) e, c⟩
  | dT kvs =>
    obtain ⟨z, y, xs, r, ob, es, ep, e, c⟩ := x
    exact ⟨z, y, xs, Paired.mapP r fun p q z => ⟨z.1, ht _ _ z.2.1, z.2.2⟩, ob, es, ep, k _ _ (.inl rfl) e, c⟩
  | set S n => obtain ⟨ob, es, ep, t, e, c⟩ := x; exact ⟨ob, es, ep, t, k _ _ (.inl rfl) e, c⟩
  | ins C dx fs =>
    obtain ⟨d, z, ne, e, mA, ⟨od, es, ep, e2, c⟩, r⟩ := x
    exact ⟨ho _ d, z, ne, k _ _ (.inl rfl) e, mA, ⟨od, es, ep, k _ _ (.inr d) e2, c⟩, r⟩
  | own y => obtain ⟨ob, e⟩ := x; exact ⟨ob, k _ _ (.inl rfl) e⟩
  | xd fs => obtain ⟨mA, ⟨od, es, ep, e, c⟩, r⟩ := x; exact ⟨mA, ⟨od, es, ep, k _ _ (.inl rfl) e, c⟩, r⟩
  | rng lo hi => obtain ⟨t, u, v, e⟩ := x; exact ⟨t, u, v, k _ _ (.inl rfl) e⟩
  | frz ob u ih => obtain ⟨e, q⟩ := x; exact ⟨k _ _ (.inl rfl) e, ih q⟩
  | tbl ps =>
    have e : h.get? a = some { cls := .none, data := .fields ps } := x
    show h'.get? a = some { cls := .none, data := .fields ps }
    exact k a _ (.inl rfl) e
  | met f y =>
    have e : h.get? a = some (PySem.W.methodObj (.ref f) (.ref y)) := x
    show h'.get? a = some (PySem.W.methodObj (.ref f) (.ref y))
    exact k a _ (.inl rfl) e
  | ext φ => obtain ⟨p, ⟨o, e⟩, st⟩ := x; exact ⟨st _ _ p fun o q => k _ _ (.inl rfl) q, ⟨o, k _ _ (.inl rfl) e⟩, st⟩
theorem HOk.lt (x : HOk P w H h) (e : H a = some o) : a < h.objs.size := (x a o e).lt
theorem HOk.fresh (x : HOk P w H h) (e : h.objs.size ≤ a) : H a = none := by
  cases q : H a with
  | none => rfl
  | some u => exact absurd (Nat.lt_of_lt_of_le (x.lt q) e) (Nat.lt_irrefl _)
theorem HOk.kept (x : HOk P w H h) (k : ∀ b u, h.get? b = some u → h'.get? b = some u) : HOk P w H h' := fun a o e =>
  (x a o e).stay (fun b u _ q => k b u q) (fun _ q => q) fun _ _ q => q
theorem HOk.laid (x : HOk P w H h) (k : ∀ b u, h.get? b = some u → h'.get? b = some u) (hp : h.objs.size ≤ a) (new : ObjOk P w (upd H a o) h' a o) : HOk P w (upd H a o) h' := fun b u e => by
  have hn := x.fresh hp
  by_cases hb : b = a
  · subst hb; rw [upd_same] at e; cases e; exact new
  · rw [upd_ne hb] at e
    exact (x b u e).stay (fun c v _ q => k c v q) (fun c q => by rw [upd_ne (ne_of_none q hn)]; exact q) fun c xs q => by rw [upd_ne (ne_of_none q hn)]; exact q
end
noncomputable def Rd (H : Hp) (a : Addr) (u : HO) : Prop := H a = some u ∨ ∃ o, H a = some (.frz o u)
theorem Rd.of {H : Hp} {a : Addr} {u : HO} (h : H a = some u) : Rd H a u := .inl h
theorem Rd.ok {P : Program} {w : World} {H : Hp} {h : Heap} {a : Addr} {u : HO} (r : Rd H a u) (x : HOk P w H h) : ObjOk P w H h a u := by
  rcases r with r | ⟨o, r⟩
  · exact x a u r
  · obtain ⟨_, q⟩ := x a _ r
    exact q
noncomputable def Mut : Option HO → Prop
  | some (.lst _) => True
  | some (.dK _) => True
  | some (.dT _) => True
  | some (.set _ _) => True
  | some (.ins _ _ _) => True
  | some (.ext _) => True
  | _ => False
section
variable {P : Program} {w : World} {H : Hp} {h h' : Heap} {x e : Addr} {o' : HO}
theorem HOk.write (ok : HOk P w H h) (mu : Mut (H x)) (he : e = x ∨ H e = some (.own x)) (k : ∀ b u, b ≠ e → h.get? b = some u → h'.get? b = some u) (heo : ∃ u, h'.get? e = some u)
    (new : ObjOk P w (upd H x o') h' x o') : HOk P w (upd H x o') h' := fun b u q => by
  have nown : ∀ c y, H c = some (.own y) → c ≠ x := fun c y r z => by subst z; rw [r] at mu; exact mu
  have ntup : ∀ c xs, H c = some (.tup xs) → c ≠ x := fun c xs r z => by subst z; rw [r] at mu; exact mu
  by_cases hb : b = x
  · subst hb; rw [upd_same] at q; cases q; exact new
  · rw [upd_ne hb] at q
    by_cases hbe : b = e
    · have q' : H b = some (.own x) := by
        rcases he with z | z
        · exact absurd (hbe.trans z) hb
        · rw [hbe]; exact z
      rw [q] at q'; cases q'
      obtain ⟨v, hv⟩ := heo
      exact ⟨v, by rw [hbe]; exact hv⟩
    · refine (ok b u q).stay (fun c v hc r => k c v ?_ r) (fun c r => by rw [upd_ne (nown c b r)]; exact r) fun c xs r => by rw [upd_ne (ntup c xs r)]; exact r
      rcases hc with rfl | hc
      · exact hbe
      · rintro rfl
        rcases he with z | z
        · exact nown c b hc z
        · rw [hc] at z; cases z; exact hb rfl
end
structure Un (fs ex : List Addr) (H H' : Hp) (h h' : Heap) : Prop where
  keep : ∀ b o, h.get? b = some o → H b = none → b ∉ fs → b ∉ ex → h'.get? b = some o
  slot : ∀ b o, h.get? b = some o → H b = none → b ∈ fs → b ∉ ex → ∃ sl, h'.get? b = some { o with slots := sl }
  free : ∀ b o, h.get? b = some o → H b = none → b ∉ ex → H' b = none
  there : ∀ b o, h.get? b = some o → b ∉ ex → ∃ o', h'.get? b = some o'
  tups : ∀ b xs, H b = some (.tup xs) → H' b = some (.tup xs)
  frzs : ∀ b o u, H b = some (.frz o u) → H' b = some (.frz o u)
  tbls : ∀ b ps, H b = some (.tbl ps) → ∃ more, H' b = some (.tbl (ps ++ more))
section
variable {fs fs' ex ex' : List Addr} {H H1 H2 : Hp} {h h1 h2 h' : Heap} {a x e : Addr} {o : HO}
theorem Un.any (u : Un fs ex H H1 h h1) {b : Addr} {ob : Obj} (q : h.get? b = some ob) (n : H b = none) (hx : b ∉ ex) : ∃ sl, h1.get? b = some { ob with slots := sl } := by
  by_cases hb : b ∈ fs
  · exact u.slot b ob q n hb hx
  · exact ⟨ob.slots, u.keep b ob q n hb hx⟩
theorem Un.trans (a : Un fs ex H H1 h h1) (b : Un fs ex H1 H2 h1 h2) : Un fs ex H H2 h h2 where
  keep := fun c ob q n hc hx => b.keep c ob (a.keep c ob q n hc hx) (a.free c ob q n hx) hc hx
  slot := fun c ob q n hc hx => by
    obtain ⟨sl, e1⟩ := a.slot c ob q n hc hx
    obtain ⟨sl', e2⟩ := b.slot c _ e1 (a.free c ob q n hx) hc hx
    exact ⟨sl', e2⟩
  free := fun c ob q n hx => by
    obtain ⟨o', e1⟩ := a.there c ob q hx
    exact b.free c o' e1 (a.free c ob q n hx) hx
  there := fun c ob q hx => by
    obtain ⟨o', e1⟩ := a.there c ob q hx
    exact b.there c o' e1 hx
  tups := fun c xs q => b.tups c xs (a.tups c xs q)
  frzs := fun c ob xs q => b.frzs c ob xs (a.frzs c ob xs q)
  tbls := fun c ps q => by
    obtain ⟨m1, e1⟩ := a.tbls c ps q
    obtain ⟨m2, e2⟩ := b.tbls c _ e1
    exact ⟨m1 ++ m2, by rw [e2, Array.append_assoc]⟩
theorem Un.kept (k : ∀ b u, h.get? b = some u → h'.get? b = some u) : Un fs ex H H h h' :=
  ⟨fun b ob q _ _ _ => k b ob q, fun b ob q _ _ _ => ⟨ob.slots, k b ob q⟩, fun _ _ _ n _ => n, fun b ob q _ => ⟨ob, k b ob q⟩, fun _ _ q => q, fun _ _ _ q => q, fun _ ps q => ⟨#[], by rw [q]; simp⟩⟩
theorem Un.refl : Un fs ex H H h h := Un.kept fun _ _ q => q
theorem Un.laid (k : ∀ b u, h.get? b = some u → h'.get? b = some u) (hp : h.objs.size ≤ a) (hn : H a = none) : Un fs ex H (upd H a o) h h' where
  keep := fun b u q _ _ _ => k b u q
  slot := fun b u q _ _ _ => ⟨u.slots, k b u q⟩
  free := fun b u q n _ => by rw [upd_ne (Nat.ne_of_lt (Nat.lt_of_lt_of_le (Heap.lt_size q) hp))]; exact n
  there := fun b u q _ => ⟨u, k b u q⟩
  tups := fun b xs q => by rw [upd_ne (ne_of_none q hn)]; exact q
  frzs := fun b u xs q => by rw [upd_ne (ne_of_none q hn)]; exact q
  tbls := fun b ps q => ⟨#[], by rw [upd_ne (ne_of_none q hn), q]; simp⟩
theorem Un.write (mu : Mut (H x)) (he : e = x ∨ H e = some (.own x)) (k : ∀ b u, b ≠ e → h.get? b = some u → h'.get? b = some u) (heo : ∃ u, h'.get? e = some u) : Un fs ex H (upd H x o) h h' := by
  have hx : ∀ b, H b = none → b ≠ x := fun b n z => by subst z; rw [n] at mu; exact mu
  have hb : ∀ b, H b = none → b ≠ e := fun b n z => by
    subst z
    rcases he with r | r
    · exact hx b n r
    · rw [n] at r; cases r
  have hm : ∀ b u, H b = some u → ¬ Mut (some u) → b ≠ x := fun b u q nm z => by subst z; rw [q] at mu; exact nm mu
  refine ⟨fun b u q n _ _ => k b u (hb b n) q, fun b u q n _ _ => ⟨u.slots, k b u (hb b n) q⟩, fun b u q n _ => by rw [upd_ne (hx b n)]; exact n, fun b u q _ => ?_,
    fun b xs q => by rw [upd_ne (hm b _ q fun z => z)]; exact q, fun b u xs q => by rw [upd_ne (hm b _ q fun z => z)]; exact q, fun b ps q => ⟨#[], by rw [upd_ne (hm b _ q fun z => z), q]; simp⟩⟩
  by_cases hbe : b = e
  · subst hbe; exact heo
  · exact ⟨u, k b u hbe q⟩
theorem Un.mono (u : Un fs ex H H1 h h1) (hs : ∀ b ∈ fs, b ∈ fs') (hx : ∀ b ∈ ex, b ∈ ex') : Un fs' ex' H H1 h h1 :=
  ⟨fun b ob q n hb he => u.keep b ob q n (fun z => hb (hs b z)) fun z => he (hx b z), fun _ _ q n _ he => u.any q n fun z => he (hx _ z), fun b ob q n he => u.free b ob q n fun z => he (hx b z), fun b ob q he => u.there b ob q fun z => he (hx b z), u.tups, u.frzs, u.tbls⟩
end
noncomputable def trk (h : Heap) (H : Hp) : List Addr := (List.range h.objs.size).filter fun a => (H a).isSome
noncomputable def hidT (h : Heap) (H : Hp) : Heap := PySem.W.hideAll h (trk h H)
theorem hidT_size (h : Heap) (H : Hp) : (hidT h H).objs.size = h.objs.size := PySem.W.hideAll_size _ _
theorem hidT_get {h : Heap} {H : Hp} {b : Addr} {o : Obj} (e : h.get? b = some o) (n : H b = none) : (hidT h H).get? b = some o :=
  PySem.W.hideAll_get _ e fun hm => by
    have q : (H b).isSome = true := (List.mem_filter.mp hm).2
    rw [n] at q; simp at q
theorem of_hidT {h : Heap} {H : Hp} {b : Addr} {o : Obj} (e : (hidT h H).get? b = some o) : h.get? b = some o ∧ H b = none := by
  have e' : h.get? b = some o := PySem.W.of_hideAll (trk h H) e
  refine ⟨e', ?_⟩
  cases q : H b with
  | none => rfl
  | some x =>
    have hm : b ∈ trk h H := List.mem_filter.mpr ⟨List.mem_range.mpr (Heap.lt_size e'), by simp [q]⟩
    have z : (hidT h H).get? b = none := PySem.W.hideAll_none (trk h H) hm
    rw [z] at e; cases e
noncomputable def allNews (g h : Heap) (L : Addr) : List (Addr × Obj) := (List.range h.objs.size).filterMap fun a => if a = L ∨ (g.get? a).isSome = true then none else (h.get? a).map fun o => (a, o)
noncomputable def rest (g h : Heap) (L d : Addr) : List (Addr × Obj) := (allNews g h L).filter fun p => decide (p.1 ≠ d)
end L2
namespace L2
open PySem PySem.Spec PyProof.Rows
structure Mod (K : PySem.W.Frag) (mg : Str → Option Value) (base : Heap) : Prop where
  kin : K.In base
  glob : base.Ns mainGlobals mg
  blt : ∃ mb, base.Ns builtinsNs mb ∧ ∀ x : Str, x ≠ "__name__" → mb x = bootBuiltins x
  nolimit : base.NoLimit
structure Cx where
  prog : Program
  w : World
  K : PySem.W.Frag
  mg : Str → Option Value
  base : Heap
  A : Around
  N : List Str
  s₀ : Shared
  H₀ : Hp
  env : Env
  outer : List Env
  stack : List Env
  ex : List Addr
  fn : Str → Bool
  calm : Bool
  pn : List (Addr × Obj)
  xe : Value → Shared → Prop
noncomputable def frs (l : List Env) : List Addr := l.filterMap (·.frame)
noncomputable abbrev Cx.fs (X : Cx) : List Addr := frs X.outer
noncomputable def Vis (sc : Scope) (x : Str) : Prop := sc.names.lookup x = some .local ∨ sc.names.lookup x = some .cell ∨ sc.names.lookup x = some .free
noncomputable def Loc (sc : Scope) (x : Str) : Prop := sc.names.lookup x = some .local ∨ sc.names.lookup x = some .cell
noncomputable def Look (env : Env) (h : Heap) (m : Str → Option Value) (x : Str) (u : Value) : Prop :=
  (env.kindOf x = some .local ∧ m x = some u) ∨ ((env.kindOf x = some .cell ∨ env.kindOf x = some .free) ∧ ∃ c, env.cells.lookup x = some c ∧ h.IsCell c (some u))
structure Cx.Ok (X : Cx) : Prop where
  mod : Mod X.K X.mg X.base
  kind : X.env.scope.kind = .function
  glob : X.env.globals = mainGlobals
  blt : X.env.builtins = builtinsNs
  above : X.s₀.heap.objs.size ≤ X.env.locals
  inj : ∀ x y c, X.env.cells.lookup x = some c → X.env.cells.lookup y = some c → x = y
  has : ∀ x, (X.env.kindOf x = some .cell ∨ X.env.kindOf x = some .free) → ∃ c, X.env.cells.lookup x = some c
  cab : ∀ x c, X.fn x = true → X.env.cells.lookup x = some c → X.s₀.heap.objs.size ≤ c
  hd : X.calm = true → X.A.handled = none
  frames : X.A.frames = some X.stack
  stk : X.stack = X.outer ∨ (X.stack = X.env :: X.outer ∧ X.env.frame = some X.env.locals)
  exf : ∀ b ∈ X.ex, b ≠ X.env.locals ∧ ∀ x c, X.env.cells.lookup x = some c → c ≠ b
  bs : ∀ b o, X.base.get? b = some o → X.s₀.heap.get? b = some o ∧ X.H₀ b = none
  bsz : X.base.objs.size ≤ X.s₀.heap.objs.size
  noex : ∀ b o, X.base.get? b = some o → b ∉ X.ex
  exfs : ∀ b ∈ X.ex, b ∉ X.fs
  funs : X.s₀.heap.FunFrames X.base X.outer
  frf : ∀ b ∈ X.fs, X.H₀ b = none
structure Inv (X : Cx) (pins : List (Addr × Obj)) (σ : List (Option V)) (H : Hp) (s : Shared) : Prop where
  ok : X.Ok
  os : s.os = X.s₀.os
  bare : AllBare s.gens
  base : Un X.fs X.ex X.H₀ H X.s₀.heap s.heap
  loc : ∃ m, s.heap.Ns X.env.locals m ∧ ∀ (i : Nat) (x : Str) (v : V), X.N[i]? = some x → σ[i]? = some (some v) → Vis X.env.scope x → ∃ u, RelV v u ∧ Look X.env s.heap m x u
  cell : ∀ x c, X.env.cells.lookup x = some c → ∃ v, s.heap.IsCell c v
  free : H X.env.locals = none
  freeC : ∀ x c, X.env.cells.lookup x = some c → H c = none
  pin : ∀ p ∈ X.pn ++ pins, s.heap.get? p.1 = some p.2 ∧ H p.1 = none ∧ p.1 ≠ X.env.locals ∧ p.1 ∉ X.fs ∧ ∀ v, p.2.data ≠ .cell v
  hok : HOk X.prog X.w H s.heap
  len : σ.length = X.N.length
section
variable {X : Cx} {pins : List (Addr × Obj)} {σ : List (Option V)} {H H' : Hp} {s : Shared} {h' : Heap}
theorem Cx.Ok.nofr (ok : X.Ok) {b : Addr} {o : Obj} (e : X.base.get? b = some o) : b ∉ X.fs := fun hb => by
  have := (ok.funs.mem hb).1
  rw [e] at this; cases this
theorem Inv.bs (I : Inv X pins σ H s) : ∀ b o, X.base.get? b = some o → s.heap.get? b = some o ∧ H b = none := fun b o e =>
  ⟨I.base.keep b o (I.ok.bs b o e).1 (I.ok.bs b o e).2 (I.ok.nofr e) (I.ok.noex b o e), I.base.free b o (I.ok.bs b o e).1 (I.ok.bs b o e).2 (I.ok.noex b o e)⟩
theorem Inv.bk (I : Inv X pins σ H s) : ∀ b o, X.base.get? b = some o → s.heap.get? b = some o := fun b o e => (I.bs b o e).1
theorem Inv.mod (I : Inv X pins σ H s) : Mod X.K X.mg X.base := I.ok.mod
theorem Inv.kIn (I : Inv X pins σ H s) : X.K.In s.heap := I.ok.mod.kin.keeps I.bk
theorem Inv.nolimit (I : Inv X pins σ H s) : s.heap.NoLimit := I.ok.mod.nolimit.keeps I.bk
theorem Inv.fr (I : Inv X pins σ H s) : ∃ m, Fr X.base X.env.locals s.heap m :=
  let ⟨m, hn, _⟩ := I.loc
  ⟨m, hn, I.bk, Nat.le_trans I.ok.bsz I.ok.above⟩
theorem Inv.lt (I : Inv X pins σ H s) : X.env.locals < s.heap.objs.size := let ⟨_, hn, _⟩ := I.loc; hn.lt
theorem Inv.sz (I : Inv X pins σ H s) : X.s₀.heap.objs.size ≤ s.heap.objs.size := Nat.le_trans I.ok.above (Nat.le_of_lt I.lt)
theorem Inv.nofs (I : Inv X pins σ H s) {a : Addr} (h : s.heap.objs.size ≤ a) : a ∉ X.fs := fun hb => by
  obtain ⟨_, o, ho, _⟩ := I.ok.funs.mem hb
  exact absurd (Nat.lt_of_lt_of_le (Heap.lt_size ho) (Nat.le_trans I.sz h)) (Nat.lt_irrefl _)
theorem Inv.cne (I : Inv X pins σ H s) : ∀ x c, X.env.cells.lookup x = some c → c ≠ X.env.locals := fun x c e z => by
  obtain ⟨v, o, ho, hd⟩ := I.cell x c e
  obtain ⟨m, ⟨o', es, ep, ho', hd', _⟩, _⟩ := I.loc
  rw [z, ho'] at ho; cases ho; rw [hd'] at hd; cases hd
theorem Inv.funs (I : Inv X pins σ H s) : s.heap.FunFrames X.base X.outer := by
  have all : ∀ (l : List Env), (∀ b ∈ frs l, b ∈ X.fs) → X.s₀.heap.FunFrames X.base l → s.heap.FunFrames X.base l := by
    intro l
    induction l with
    | nil => intro _ _; trivial
    | cons env r ih =>
      intro hs hl
      obtain ⟨hk, ⟨L, o, hf, hn, ho, hd⟩, hr⟩ := hl
      have hL : L ∈ X.fs := hs L (by unfold frs; rw [List.filterMap_cons, hf]; exact List.mem_cons_self)
      obtain ⟨sl, e⟩ := I.base.slot L o ho (I.ok.frf L hL) hL fun z => I.ok.exfs L z hL
      exact ⟨hk, ⟨L, _, hf, hn, e, hd⟩, ih (fun b hb => hs b (by unfold frs; rw [List.filterMap_cons, hf]; exact List.mem_cons_of_mem _ hb)) hr⟩
  exact all X.outer (fun _ hb => hb) I.ok.funs
theorem Inv.stack (I : Inv X pins σ H s) : s.heap.FunFrames X.base X.stack := by
  rcases I.ok.stk with e | ⟨e, hf⟩
  · rw [e]; exact I.funs
  · rw [e]
    obtain ⟨m, hn, _⟩ := I.loc
    refine .cons (by rw [I.ok.kind]; decide) hf hn ?_ I.funs
    exact Heap.get?_none_of_le (Nat.le_trans I.ok.bsz I.ok.above)
theorem Inv.stkSub (I : Inv X pins σ H s) : ∀ b ∈ frs X.stack, b ∈ X.env.locals :: X.fs := fun b hb => by
  rcases I.ok.stk with e | ⟨e, hf⟩
  · rw [e] at hb; exact List.mem_cons_of_mem _ hb
  · rw [e] at hb
    unfold frs at hb
    rw [List.filterMap_cons, hf] at hb
    exact hb
theorem Inv.stkFree (I : Inv X pins σ H s) : ∀ b ∈ frs X.stack, H b = none := fun b hb => by
  rcases List.mem_cons.mp (I.stkSub b hb) with e | hb
  · rw [e]; exact I.free
  · obtain ⟨_, o, ho, _⟩ := I.ok.funs.mem hb
    exact I.base.free b o ho (I.ok.frf b hb) fun z => I.ok.exfs b z hb
theorem Inv.step {g' : Array GenState} {t' : Nat} {d' : Drawn} {ch : List Addr} (I : Inv X pins σ H s)
    (hch : ∀ b ∈ ch, (b ∈ X.ex ∨ X.s₀.heap.objs.size ≤ b) ∧ b ≠ X.env.locals ∧ (∀ x c, X.env.cells.lookup x = some c → c ≠ b) ∧ ∀ p ∈ X.pn ++ pins, p.1 ≠ b)
    (keep : ∀ b o, b ≠ X.env.locals → b ∉ X.fs → b ∉ ch → s.heap.get? b = some o → H b = none → h'.get? b = some o)
    (slot : ∀ b o, b ≠ X.env.locals → b ∈ X.fs → b ∉ ch → s.heap.get? b = some o → H b = none → ∃ sl, h'.get? b = some { o with slots := sl }) (free : ∀ b o, b ∉ ch → s.heap.get? b = some o → H b = none → H' b = none)
    (there : ∀ b o, b ∉ ch → s.heap.get? b = some o → ∃ o', h'.get? b = some o')
    (tups : ∀ b xs, H b = some (.tup xs) → H' b = some (.tup xs)) (frzs : ∀ b o u, H b = some (.frz o u) → H' b = some (.frz o u)) (tbls : ∀ b ps, H b = some (.tbl ps) → ∃ more, H' b = some (.tbl (ps ++ more)))
    (ns : ∀ m, s.heap.Ns X.env.locals m → h'.Ns X.env.locals m) (hok : HOk X.prog X.w H' h') (hg : AllBare g') :
    Inv X pins σ H' { s with heap := h', gens := g', drawn := d', toks := t' } := by
  have neL : ∀ b o, X.s₀.heap.get? b = some o → b ≠ X.env.locals := fun b o e => Nat.ne_of_lt (Nat.lt_of_lt_of_le (Heap.lt_size e) I.ok.above)
  have neC : ∀ b o, X.s₀.heap.get? b = some o → b ∉ X.ex → b ∉ ch := fun b o e hx hb => by
    rcases (hch b hb).1 with z | z
    · exact hx z
    · exact absurd (Nat.lt_of_lt_of_le (Heap.lt_size e) z) (Nat.lt_irrefl _)
  have cellK : ∀ x c, X.env.cells.lookup x = some c → ∀ v, s.heap.IsCell c v → h'.IsCell c v := fun x c e v ⟨o, ho, hd⟩ => by
    have nch : c ∉ ch := fun z => (hch c z).2.2.1 x c e rfl
    by_cases hc : c ∈ X.fs
    · obtain ⟨sl, q⟩ := slot c o (I.cne x c e) hc nch ho (I.freeC x c e)
      exact ⟨_, q, hd⟩
    · exact ⟨o, keep c o (I.cne x c e) hc nch ho (I.freeC x c e), hd⟩
  refine ⟨I.ok, I.os, hg, ⟨fun b o e n hb hx => ?_, fun b o e n hb hx => ?_, fun b o e n hx => ?_, fun b o e hx => ?_, fun b xs e => tups b xs (I.base.tups b xs e), fun b o xs e => frzs b o xs (I.base.frzs b o xs e), fun b ps e => ?_⟩, ?_, fun x c e => ?_, ?_, fun x c e => ?_, fun p hp => ?_, hok, I.len⟩
  · exact keep b o (neL b o e) hb (neC b o e hx) (I.base.keep b o e n hb hx) (I.base.free b o e n hx)
  · obtain ⟨sl, e1⟩ := I.base.slot b o e n hb hx
    obtain ⟨sl', e2⟩ := slot b _ (neL b o e) hb (neC b o e hx) e1 (I.base.free b o e n hx)
    exact ⟨sl', e2⟩
  · obtain ⟨o', e1⟩ := I.base.there b o e hx
    exact free b o' (neC b o e hx) e1 (I.base.free b o e n hx)
  · obtain ⟨o', e1⟩ := I.base.there b o e hx
    exact there b o' (neC b o e hx) e1
  · obtain ⟨m1, e1⟩ := I.base.tbls b ps e
    obtain ⟨m2, e2⟩ := tbls b _ e1
    exact ⟨m1 ++ m2, by rw [e2, Array.append_assoc]⟩
  · obtain ⟨m, hn, hl⟩ := I.loc
    refine ⟨m, ns m hn, fun i x v e1 e2 e3 => ?_⟩
    obtain ⟨u, r, l⟩ := hl i x v e1 e2 e3
    refine ⟨u, r, ?_⟩
    rcases l with l | ⟨k, c, e, z⟩
    · exact .inl l
    · exact .inr ⟨k, c, e, cellK x c e _ z⟩
  · obtain ⟨v, z⟩ := I.cell x c e
    exact ⟨v, cellK x c e v z⟩
  · obtain ⟨m, ⟨o, _, _, ho, _⟩, _⟩ := I.loc
    exact free _ o (fun z => (hch _ z).2.1 rfl) ho I.free
  · obtain ⟨v, o, ho, hd⟩ := I.cell x c e
    exact free c o (fun z => (hch c z).2.2.1 x c e rfl) ho (I.freeC x c e)
  · obtain ⟨e, n, ne, nf, d⟩ := I.pin p hp
    have nch : p.1 ∉ ch := fun z => (hch p.1 z).2.2.2 p hp rfl
    exact ⟨keep p.1 p.2 ne nf nch e n, free p.1 p.2 nch e n, ne, nf, d⟩
theorem Inv.un {t' : Nat} (I : Inv X pins σ H s) (u : Un X.fs [] H H' s.heap h') (hok : HOk X.prog X.w H' h') : Inv X pins σ H' { s with heap := h', toks := t' } := by
  obtain ⟨m, ⟨o, es, ep, ho, r⟩, _⟩ := id I.loc
  obtain ⟨sl, hL⟩ := u.any ho I.free (by simp)
  exact I.step (g' := s.gens) (d' := s.drawn) (ch := []) (fun _ z => nomatch z) (fun b o _ hb _ e n => u.keep b o e n hb (by simp)) (fun b o _ hb _ e n => u.slot b o e n hb (by simp)) (fun b o _ e n => u.free b o e n (by simp)) (fun b o _ e => u.there b o e (by simp)) u.tups u.frzs u.tbls (fun m' hm => by
    obtain ⟨o', es', ep', ho', r'⟩ := hm
    rw [ho] at ho'; cases ho'
    exact ⟨_, es', ep', hL, r'⟩) hok I.bare
theorem Inv.call {g' : Array GenState} {t' : Nat} {d' : Drawn} {ch : List Addr} (I : Inv X pins σ H s) (u : Un (frs X.stack) ch H H' s.heap h') (hok : HOk X.prog X.w H' h') (hg : AllBare g')
    (hch : ∀ b ∈ ch, (b ∈ X.ex ∨ X.s₀.heap.objs.size ≤ b) ∧ b ≠ X.env.locals ∧ (∀ x c, X.env.cells.lookup x = some c → c ≠ b) ∧ ∀ p ∈ X.pn ++ pins, p.1 ≠ b) :
    Inv X pins σ H' { s with heap := h', gens := g', drawn := d', toks := t' } := by
  obtain ⟨m, ⟨o, es, ep, ho, r⟩, _⟩ := id I.loc
  obtain ⟨sl, hL⟩ := u.any ho I.free fun z => (hch _ z).2.1 rfl
  exact I.step (ch := ch) hch (fun b o hL hb hc e n => u.keep b o e n (fun z => (List.mem_cons.mp (I.stkSub b z)).elim hL hb) hc) (fun b o _ _ hc e n => u.any e n hc) (fun b o hc e n => u.free b o e n hc) (fun b o hc e => u.there b o e hc) u.tups u.frzs u.tbls (fun m' hm => by
    obtain ⟨o', es', ep', ho', r'⟩ := hm
    rw [ho] at ho'; cases ho'
    exact ⟨_, es', ep', hL, r'⟩) hok hg
theorem Inv.turned {t' : Nat} {it : Addr} (I : Inv X pins σ H s) (k : ∀ b o, b ≠ it → s.heap.get? b = some o → h'.get? b = some o) (hn : H it = none) (hL : it ≠ X.env.locals)
    (h1 : it ∈ X.ex ∨ X.s₀.heap.objs.size ≤ it) (h2 : ∀ x c, X.env.cells.lookup x = some c → c ≠ it) (h3 : ∀ p ∈ X.pn ++ pins, p.1 ≠ it) : Inv X pins σ H { s with heap := h', toks := t' } := by
  have nit : ∀ b u, H b = some u → b ≠ it := fun b u e z => by rw [z, hn] at e; cases e
  refine I.step (g' := s.gens) (d' := s.drawn) (ch := [it]) (fun b hb => ?_) (fun b o _ _ hc e _ => k b o (fun z => hc (by simp [z])) e) (fun b o _ _ hc e _ => ⟨o.slots, k b o (fun z => hc (by simp [z])) e⟩) (fun _ _ _ _ n => n)
    (fun b o hc e => ⟨o, k b o (fun z => hc (by simp [z])) e⟩) (fun _ _ e => e) (fun _ _ _ e => e) (fun b ps e => ⟨#[], by rw [e]; simp⟩) (fun m hm => ?_) (fun b u e => ?_) I.bare
  · have e : b = it := by simpa using hb
    subst e
    exact ⟨h1, hL, h2, h3⟩
  · obtain ⟨o, es, ep, ho, r⟩ := hm
    exact ⟨o, es, ep, k _ o (Ne.symm hL) ho, r⟩
  · refine (I.hok b u e).stay (fun c v hc q => k c v ?_ q) (fun _ q => q) fun _ _ q => q
    rcases hc with z | z
    · rw [z]; exact nit b u e
    · exact nit c _ z
theorem Inv.tok (I : Inv X pins σ H s) (t : Nat) : Inv X pins σ H { s with toks := t } := I.un (h' := s.heap) (t' := t) Un.refl I.hok
theorem Inv.kept {t' : Nat} (I : Inv X pins σ H s) (k : ∀ b u, s.heap.get? b = some u → h'.get? b = some u) : Inv X pins σ H { s with heap := h', toks := t' } := I.un (Un.kept k) (I.hok.kept k)
theorem Inv.laid {a : Addr} {o : HO} {t' : Nat} (I : Inv X pins σ H s) (k : ∀ b u, s.heap.get? b = some u → h'.get? b = some u) (hp : s.heap.objs.size ≤ a) (new : ObjOk X.prog X.w (upd H a o) h' a o) :
    Inv X pins σ (upd H a o) { s with heap := h', toks := t' } := I.un (Un.laid k hp (I.hok.fresh hp)) (I.hok.laid k hp new)
theorem Inv.write {x e : Addr} {o : HO} {t' : Nat} (I : Inv X pins σ H s) (mu : Mut (H x)) (he : e = x ∨ H e = some (.own x)) (k : ∀ b u, b ≠ e → s.heap.get? b = some u → h'.get? b = some u) (heo : ∃ u, h'.get? e = some u)
    (new : ObjOk X.prog X.w (upd H x o) h' x o) : Inv X pins σ (upd H x o) { s with heap := h', toks := t' } := I.un (Un.write mu he k heo) (I.hok.write mu he k heo new)
theorem Inv.weak {σ' : List (Option V)} (I : Inv X pins σ H s) (hl : σ'.length = σ.length) (w : ∀ (i : Nat) v, σ'[i]? = some (some v) → σ[i]? = some (some v)) : Inv X pins σ' H s :=
  ⟨I.ok, I.os, I.bare, I.base, let ⟨m, hn, hl'⟩ := I.loc; ⟨m, hn, fun i x v e1 e2 e3 => hl' i x v e1 (w i v e2) e3⟩, I.cell, I.free, I.freeC, I.pin, I.hok, hl.trans I.len⟩
theorem Inv.pins_of {pins' : List (Addr × Obj)} (I : Inv X pins σ H s) (h : ∀ p ∈ pins', s.heap.get? p.1 = some p.2 ∧ H p.1 = none ∧ p.1 ≠ X.env.locals ∧ p.1 ∉ X.fs ∧ ∀ v, p.2.data ≠ .cell v) : Inv X pins' σ H s :=
  ⟨I.ok, I.os, I.bare, I.base, I.loc, I.cell, I.free, I.freeC, fun p hp => (List.mem_append.mp hp).elim (fun z => I.pin p (List.mem_append_left _ z)) (h p), I.hok, I.len⟩
theorem nodup_ix {N : List Str} (hN : N.Nodup) {i j : Nat} {x : Str} (a : N[i]? = some x) (b : N[j]? = some x) : i = j := by
  obtain ⟨h1, e1⟩ := List.getElem?_eq_some_iff.mp a
  obtain ⟨h2, e2⟩ := List.getElem?_eq_some_iff.mp b
  exact (List.getElem_inj hN).mp (e1.trans e2.symm)
theorem store_ok2 {M : Model} {A : Around} {E : Value → Shared → Prop} {i : Nat} {x : Str} {v : V} {u : Value} {Q : Unit → Shared → Prop} (I : Inv X pins σ H s) (hN : X.N.Nodup) (hi : X.N[i]? = some x) (hx : Loc X.env.scope x) (r : RelV v u)
    (h : ∀ s', Inv X pins (σ.set i (some v)) H s' → (∃ a, Heap.SameBut a s.heap s'.heap ∧ (a = X.env.locals ∨ X.env.cells.lookup x = some a)) → Q () s') (hf : X.fn x = true ∨ X.env.scope.names.lookup x = some .local := by first | exact .inl rfl | exact .inr rfl | assumption) : wpAny M A (storeName X.env x u) Q E s := by
  obtain ⟨m, hn, hl⟩ := id I.loc
  have hcls : (X.env.scope.kind == .class || (X.env.scope.kind == .module && X.env.locals != X.env.globals)) = false := by rw [I.ok.kind]; rfl
  have hiσ : i < σ.length := by rw [I.len]; exact (List.getElem?_eq_some_iff.mp hi).1
  have cne := I.cne
  have tracked : ∀ {a : Addr} {h' : Heap}, (∃ o, s.heap.get? a = some o ∧ H a = none) → Heap.SameBut a s.heap h' → HOk X.prog X.w H h' := fun {a h'} ha hs b ob e => by
    obtain ⟨_, _, hfree⟩ := ha
    refine (I.hok b ob e).stay (fun c w' hc q => (hs.2 c ?_).trans q) (fun _ q => q) fun _ _ q => q
    rintro rfl
    rcases hc with rfl | hc
    · rw [hfree] at e; cases e
    · rw [hfree] at hc; cases hc
  rcases hx with hk | hk
  · refine wpAny_storeName_local hk hn (fun h' hn' hs => ?_) hcls
    obtain ⟨oL, _, _, hoL, _⟩ := id hn
    refine h _ ⟨I.ok, I.os, I.bare, ⟨fun b o e n hb hx => ?_, fun b o e n hb hx => ?_, I.base.free, fun b o e hx => ?_, I.base.tups, I.base.frzs, I.base.tbls⟩, ⟨_, hn', fun j y v' e1 e2 e3 => ?_⟩, fun y c e => ?_, I.free, I.freeC, fun p hp => ?_, tracked ⟨oL, hoL, I.free⟩ hs, by simpa using I.len⟩ ⟨_, hs, .inl rfl⟩
    · exact (hs.2 b (Nat.ne_of_lt (Nat.lt_of_lt_of_le (Heap.lt_size e) I.ok.above))).trans (I.base.keep b o e n hb hx)
    · obtain ⟨sl, e1⟩ := I.base.slot b o e n hb hx
      exact ⟨sl, (hs.2 b (Nat.ne_of_lt (Nat.lt_of_lt_of_le (Heap.lt_size e) I.ok.above))).trans e1⟩
    · obtain ⟨o', e1⟩ := I.base.there b o e hx
      exact ⟨o', (hs.2 b (Nat.ne_of_lt (Nat.lt_of_lt_of_le (Heap.lt_size e) I.ok.above))).trans e1⟩
    · by_cases hj : j = i
      · subst hj
        rw [hi] at e1; cases e1
        rw [List.getElem?_set_self hiσ] at e2
        cases e2
        exact ⟨u, r, .inl ⟨hk, by simp⟩⟩
      · rw [List.getElem?_set_ne (Ne.symm hj)] at e2
        obtain ⟨u', r', q⟩ := hl j y v' e1 e2 e3
        refine ⟨u', r', ?_⟩
        rcases q with ⟨k, e⟩ | ⟨k, c, e, z⟩
        · refine .inl ⟨k, ?_⟩
          have : y ≠ x := fun e => hj (nodup_ix hN e1 (e ▸ hi))
          simp [this, e]
        · exact .inr ⟨k, c, e, z.sameBut hs (cne y c e)⟩
    · obtain ⟨w', z⟩ := I.cell y c e
      exact ⟨w', z.sameBut hs (cne y c e)⟩
    · obtain ⟨e, n, ne, nf, d⟩ := I.pin p hp
      exact ⟨(hs.2 p.1 ne).trans e, n, ne, nf, d⟩
  · have hfn : X.fn x = true := by
      rcases hf with z | z
      · exact z
      · rw [z] at hk; cases hk
    obtain ⟨c, hc⟩ := I.ok.has x (.inl hk)
    obtain ⟨w', z⟩ := I.cell x c hc
    refine wpAny_storeName_cell I.ok.kind hk hc z (fun h' hc' hs => ?_)
    obtain ⟨oc, hoc, hocd⟩ := id z
    refine h { s with heap := h' } ⟨I.ok, I.os, I.bare, ⟨fun b o e n hb hx => ?_, fun b o e n hb hx => ?_, I.base.free, fun b o e hx => ?_, I.base.tups, I.base.frzs, I.base.tbls⟩, ⟨m, hn.sameBut hs (Ne.symm (cne x c hc)), fun j y v' e1 e2 e3 => ?_⟩, fun y c' e => ?_, I.free, I.freeC, fun p hp => ?_, tracked ⟨oc, hoc, I.freeC x c hc⟩ hs, by simpa using I.len⟩ ⟨c, hs, .inr hc⟩
    · exact (hs.2 b (Nat.ne_of_lt (Nat.lt_of_lt_of_le (Heap.lt_size e) (I.ok.cab x c hfn hc)))).trans (I.base.keep b o e n hb hx)
    · obtain ⟨sl, e1⟩ := I.base.slot b o e n hb hx
      exact ⟨sl, (hs.2 b (Nat.ne_of_lt (Nat.lt_of_lt_of_le (Heap.lt_size e) (I.ok.cab x c hfn hc)))).trans e1⟩
    · obtain ⟨o', e1⟩ := I.base.there b o e hx
      exact ⟨o', (hs.2 b (Nat.ne_of_lt (Nat.lt_of_lt_of_le (Heap.lt_size e) (I.ok.cab x c hfn hc)))).trans e1⟩
    · by_cases hj : j = i
      · subst hj
        rw [hi] at e1; cases e1
        rw [List.getElem?_set_self hiσ] at e2
        cases e2
        exact ⟨u, r, .inr ⟨.inl hk, c, hc, hc'⟩⟩
      · rw [List.getElem?_set_ne (Ne.symm hj)] at e2
        obtain ⟨u', r', q⟩ := hl j y v' e1 e2 e3
        refine ⟨u', r', ?_⟩
        rcases q with q | ⟨k, c', e, z'⟩
        · exact .inl q
        · refine .inr ⟨k, c', e, z'.sameBut hs ?_⟩
          rintro rfl
          exact hj (nodup_ix hN e1 (I.ok.inj _ _ _ e hc ▸ hi))
    · by_cases hcc : c' = c
      · subst hcc; exact ⟨_, hc'⟩
      · obtain ⟨w2, z2⟩ := I.cell y c' e
        exact ⟨w2, z2.sameBut hs hcc⟩
    · obtain ⟨e, n, ne, nf, d⟩ := I.pin p hp
      refine ⟨(hs.2 p.1 ?_).trans e, n, ne, nf, d⟩
      intro q
      rw [q, hoc] at e
      have q' : oc = p.2 := Option.some.inj e
      exact d w' (by rw [← q']; exact hocd)
theorem store_ok {M : Model} {A : Around} {E : Value → Shared → Prop} {i : Nat} {x : Str} {v : V} {u : Value} {Q : Unit → Shared → Prop} (I : Inv X pins σ H s) (hN : X.N.Nodup) (hi : X.N[i]? = some x) (hx : Loc X.env.scope x) (r : RelV v u)
    (h : ∀ s', Inv X pins (σ.set i (some v)) H s' → Q () s') (hf : X.fn x = true ∨ X.env.scope.names.lookup x = some .local := by first | exact .inl rfl | exact .inr rfl | assumption) : wpAny M A (storeName X.env x u) Q E s :=
  store_ok2 I hN hi hx r (fun s' I' _ => h s' I') hf
theorem Inv.call' {s' : Shared} {ch : List Addr} (I : Inv X pins σ H s) (ho : s'.os = s.os) (u : Un (frs X.stack) ch H H' s.heap s'.heap) (hok : HOk X.prog X.w H' s'.heap) (hg : AllBare s'.gens)
    (hch : ∀ b ∈ ch, (b ∈ X.ex ∨ X.s₀.heap.objs.size ≤ b) ∧ b ≠ X.env.locals ∧ (∀ x c, X.env.cells.lookup x = some c → c ≠ b) ∧ ∀ p ∈ X.pn ++ pins, p.1 ≠ b) : Inv X pins σ H' s' := by
  obtain ⟨h', g', d', t', o'⟩ := s'
  have e : o' = s.os := ho
  subst e
  exact I.call (g' := g') (t' := t') (d' := d') u hok hg hch
end
noncomputable abbrev XK := Value → Option Addr → Hp → Prop
noncomputable abbrev St := List (Option V)
noncomputable abbrev VK := V → Hp → Prop
noncomputable abbrev TE := St → Hp → VK → Prop
noncomputable abbrev TT := St → Hp → (Bool → Hp → Prop) → Prop
noncomputable abbrev TA := St → Hp → (List V → Hp → Prop) → Prop
structure Ends where
  nx : St → Hp → Prop
  rt : VK
  bk : St → Hp → Prop := fun _ _ => False
  ct : St → Hp → Prop := fun _ _ => False
noncomputable abbrev TS := Ends → St → Hp → Prop
noncomputable def EP (X : Cx) (pins : List (Addr × Obj)) (σ : St) (Q : VK) (u : Value) (s' : Shared) : Prop := ∃ v H', Inv X pins σ H' s' ∧ RelV v u ∧ Q v H'
noncomputable def TP (X : Cx) (pins : List (Addr × Obj)) (σ : St) (Q : Bool → Hp → Prop) (b : Bool) (s' : Shared) : Prop := ∃ H', Inv X pins σ H' s' ∧ Q b H'
noncomputable def AP (X : Cx) (pins : List (Addr × Obj)) (σ : St) (Q : List V → Hp → Prop) (us : List Value) (s' : Shared) : Prop := ∃ vs H', Inv X pins σ H' s' ∧ Vals vs us ∧ Q vs H'
noncomputable def SP (X : Cx) (pins : List (Addr × Obj)) (D : Ends) (f : Flow) (s' : Shared) : Prop :=
  match f with
  | .next => ∃ σ' H', Inv X pins σ' H' s' ∧ D.nx σ' H'
  | .brk => ∃ σ' H', Inv X pins σ' H' s' ∧ D.bk σ' H'
  | .cont => ∃ σ' H', Inv X pins σ' H' s' ∧ D.ct σ' H'
  | .ret u => ∃ v σ' H', Inv X pins σ' H' s' ∧ RelV v u ∧ D.rt v H'
noncomputable def PE (X : Cx) (e : Expr) (t : TE) : Prop :=
  ∀ (pins : List (Addr × Obj)) (s : Shared) (σ : St) (H : Hp) (Q : VK), Inv X pins σ H s → t σ H Q → wpAny (model X.prog X.w) X.A (eval e X.env) (EP X pins σ Q) X.xe s
noncomputable def PT (X : Cx) (e : Expr) (t : TT) : Prop :=
  ∀ (pins : List (Addr × Obj)) (s : Shared) (σ : St) (H : Hp) (Q : Bool → Hp → Prop), Inv X pins σ H s → t σ H Q → wpAny (model X.prog X.w) X.A (isTrue e X.env (eval e X.env)) (TP X pins σ Q) X.xe s
noncomputable def PW (X : Cx) (e : Expr) (t : TT) : Prop :=
  ∀ (whole : Sem Value) (pins : List (Addr × Obj)) (s : Shared) (σ : St) (H : Hp) (Q : Bool → Hp → Prop), Inv X pins σ H s → t σ H Q → wpAny (model X.prog X.w) X.A (isTrue e X.env whole) (TP X pins σ Q) X.xe s
theorem PW.pt {X : Cx} {e : Expr} {t : TT} (h : PW X e t) : PT X e t := h _
noncomputable def PA (X : Cx) (es : List Expr) (t : TA) : Prop :=
  ∀ (pos : Pos) (pins : List (Addr × Obj)) (s : Shared) (σ : St) (H : Hp) (Q : List V → Hp → Prop), Inv X pins σ H s → t σ H Q → wpAny (model X.prog X.w) X.A (spliced (backTo pos (starEach es X.env))) (AP X pins σ Q) X.xe s
noncomputable def PS (X : Cx) (st : Stmt) (t : TS) : Prop :=
  ∀ (pins : List (Addr × Obj)) (s : Shared) (σ : St) (H : Hp) (D : Ends), Inv X pins σ H s → t D σ H → wpAny (model X.prog X.w) X.A (exec st X.env) (SP X pins D) X.xe s
noncomputable def PSs (X : Cx) (st : List Stmt) (t : TS) : Prop :=
  ∀ (pins : List (Addr × Obj)) (s : Shared) (σ : St) (H : Hp) (D : Ends), Inv X pins σ H s → t D σ H → wpAny (model X.prog X.w) X.A (execs st X.env) (SP X pins D) X.xe s
theorem thn {α : Type} {t : Sem α} {Q Q' : α → Shared → Prop} {M : Model} {A : Around} {E : Value → Shared → Prop} {s : Shared} (h : wpAny M A t Q E s) (hQ : ∀ a s, Q a s → Q' a s) : wpAny M A t Q' E s := wpAny_mono h hQ fun _ _ x => x
end L2
namespace L2
open PySem PySem.Spec PyProof.Rows
section
variable {X : Cx}
noncomputable def tVar (i : Nat) : TE := fun σ H Q => ∃ v, σ[i]? = some (some v) ∧ Q v H
noncomputable def tC (v : V) : TE := fun _ H Q => Q v H
theorem pe_var {i : Nat} {x : Str} {pos : Pos} (hN : X.N[i]? = some x) (hv : Vis X.env.scope x) (hd : (x == ("__debug__" : Str)) = false := by decide) (hcd : (x == ("__classdict__" : Str)) = false := by decide) : PE X (.Name x pos) (tVar i) := by
  intro pins s σ H Q I h
  obtain ⟨v, e, h⟩ := h
  obtain ⟨m, hn, hl⟩ := I.loc
  obtain ⟨u, r, l⟩ := hl i x v hN e hv
  have fin : EP X pins σ Q u s := ⟨v, H, I, r, h⟩
  rcases l with ⟨hk, hm⟩ | ⟨hk, c, hc, hcell⟩
  · exact wpAny_Name (wpAny_loadName_local I.ok.kind hk hn hm fin) hd
  · rcases hk with hk | hk
    · exact wpAny_Name (wpAny_loadName_cell I.ok.kind hk hc hcell fin) hd
    · exact wpAny_Name (wpAny_loadName_free I.ok.kind hk hc hcell fin hcd) hd
theorem pe_int {i j pos} : PE X (.Constant (.int i) j pos) (tC (.int i)) := fun _ _ _ H _ I h => wpAny_Constant_int ⟨.int i, H, I.tok _, ⟨_, rfl⟩, h⟩
theorem pe_bl {b j pos} : PE X (.Constant (.bool b) j pos) (tC (.bl b)) := fun _ _ _ H _ I h => Constant_bool ⟨.bl b, H, I, rfl, h⟩
theorem pe_non {j pos} : PE X (.Constant .none j pos) (tC .non) := fun _ _ _ H _ I h => Constant_none ⟨.non, H, I, rfl, h⟩
theorem pe_str {x j pos} : PE X (.Constant (.str x) j pos) (tC (.str x)) := fun _ _ _ H _ I h => Calls.Constant_str ⟨.str x, H, I.tok _, ⟨_, rfl⟩, h⟩
noncomputable def Gl (X : Cx) (x : Str) : Prop := X.env.kindOf x = some .globalImplicit
theorem ld_glob {E : Value → Shared → Prop} {pins : List (Addr × Obj)} {s : Shared} {σ : St} {H : Hp} {x : Str} {u : Value} {pos : Pos} {Q : Value → Shared → Prop} (I : Inv X pins σ H s) (hg : Gl X x) (hm : X.mg x = some u) (h : Q u s)
    (hd : (x == ("__debug__" : Str)) = false := by decide) : wpAny (model X.prog X.w) X.A (eval (.Name x pos) X.env) Q E s :=
  Calls.Name_function_global I.ok.kind hg (Calls.loadGlobal_global (by rw [I.ok.glob]; exact I.mod.glob.keeps I.bk) hm h) hd
theorem ld_blt {E : Value → Shared → Prop} {pins : List (Addr × Obj)} {s : Shared} {σ : St} {H : Hp} {x : Str} {u : Value} {pos : Pos} {Q : Value → Shared → Prop} (I : Inv X pins σ H s) (hg : Gl X x) (hm : X.mg x = none) (hv : bootBuiltins x = some u) (h : Q u s)
    (hn : x ≠ "__name__" := by decide) (hd : (x == ("__debug__" : Str)) = false := by decide) : wpAny (model X.prog X.w) X.A (eval (.Name x pos) X.env) Q E s := by
  obtain ⟨mb, h1, h2⟩ := I.mod.blt
  exact Calls.Name_function_global I.ok.kind hg (Calls.loadGlobal_builtin (by rw [I.ok.glob]; exact I.mod.glob.keeps I.bk) hm (by rw [I.ok.blt]; exact h1.keeps I.bk) ((h2 x hn).trans hv) h) hd
theorem pe_glob {x : Str} {v : V} {u : Value} {pos : Pos} (hg : Gl X x) (hm : X.mg x = some u) (r : RelV v u) (hd : (x == ("__debug__" : Str)) = false := by decide) : PE X (.Name x pos) (tC v) :=
  fun _ _ _ H _ I h => ld_glob I hg hm ⟨v, H, I, r, h⟩ hd
theorem pe_bltn {x : Str} {v : V} {u : Value} {pos : Pos} (hg : Gl X x) (hm : X.mg x = none) (hv : bootBuiltins x = some u) (r : RelV v u) (hn : x ≠ "__name__" := by decide) (hd : (x == ("__debug__" : Str)) = false := by decide) : PE X (.Name x pos) (tC v) :=
  fun _ _ _ H _ I h => ld_blt I hg hm hv ⟨v, H, I, r, h⟩ hn hd
variable {a b : Expr} {ta tb : TE} {pos : Pos}
noncomputable def PC (X : Cx) (op : CmpOp) (a b : Expr) (t : TE) : Prop :=
  ∀ (pins : List (Addr × Obj)) (s : Shared) (σ : St) (H : Hp) (Q : VK), Inv X pins σ H s → t σ H Q →
    wpAny (model X.prog X.w) X.A (eval a X.env) (fun v s₁ => wpAny (model X.prog X.w) X.A (eval b X.env) (fun u s₂ => wpAny (model X.prog X.w) X.A (compareOp op v u) (EP X pins σ Q) X.xe s₂) X.xe s₁) X.xe s
theorem nobehind (b : Expr) {op : CmpOp} (h : op ≠ .In) (h2 : op ≠ .NotIn) : behindInMarks op b = false := by
  have e1 : (op == CmpOp.In) = false := by cases op <;> first | rfl | exact absurd rfl h
  have e2 : (op == CmpOp.NotIn) = false := by cases op <;> first | rfl | exact absurd rfl h2
  cases b <;> simp [behindInMarks, e1, e2]
noncomputable def tIsN (ta : TE) : TE := fun σ H Q => ta σ H fun x H1 => Q (.bl (decide (x = .non))) H1
noncomputable def tNotN (ta : TE) : TE := fun σ H Q => ta σ H fun x H1 => Q (.bl (!decide (x = .non))) H1
theorem RelV.none_iff {x : V} {v : Value} (r : RelV x v) : (v == Value.none) = decide (x = .non) := by
  cases x with
  | non => cases r; rfl
  | bl _ => cases r; rfl
  | int _ => obtain ⟨t, rfl⟩ := r; rfl
  | str _ => obtain ⟨t, rfl⟩ := r; rfl
  | byt _ => obtain ⟨t, rfl⟩ := r; rfl
  | flt _ => obtain ⟨t, rfl⟩ := r; rfl
  | ref _ => cases r; rfl
  | ty _ => cases r; rfl
theorem pc_isN {j pos'} (ha : PE X a ta) : PC X .Is a (.Constant .none j pos') (tIsN ta) := by
  intro pins s σ H Q I h
  refine thn (ha pins s σ H _ I h) fun v s1 ⟨x, H1, I1, r1, q1⟩ => ?_
  exact Constant_none (is_none_gen ⟨.bl _, H1, I1, by rw [r1.none_iff]; rfl, q1⟩)
theorem pc_notN {j pos'} (ha : PE X a ta) : PC X .IsNot a (.Constant .none j pos') (tNotN ta) := by
  intro pins s σ H Q I h
  refine thn (ha pins s σ H _ I h) fun v s1 ⟨x, H1, I1, r1, q1⟩ => ?_
  exact Constant_none (isnot_none_gen ⟨.bl _, H1, I1, by rw [r1.none_iff]; rfl, q1⟩)
noncomputable def tB (t : TE) : TT := fun σ H Q => t σ H fun x H1 => ∃ c, x = .bl c ∧ Q c H1
theorem pe_cmp {op : CmpOp} {t : TE} (h : PC X op a b t) (h1 : behindInMarks op b = false := by first | exact nobehind _ (by decide) (by decide) | rfl) : PE X (.Compare a [op] [b] pos) t := fun pins s σ H Q I hw => wpAny_Compare1 (h pins s σ H Q I hw) h1
theorem pt_cmp {op : CmpOp} {t : TE} (h : PC X op a b t) (h1 : behindInMarks op b = false := by first | exact nobehind _ (by decide) (by decide) | rfl) : PT X (.Compare a [op] [b] pos) (tB t) := by
  intro pins s σ H Q I hw
  refine wpAny_isTrue_Compare1 (thn (h pins s σ H _ I hw) fun v s1 h1 => thn h1 fun u s2 h2 => thn h2 fun c s3 ⟨x, H1, I1, r1, q1⟩ => ?_) h1
  obtain ⟨d, rfl, q⟩ := q1
  cases r1
  exact wpAny_truthy_bool ⟨H1, I1, q⟩
theorem pt_val {e : Expr} {t : TE} (h : PE X e t) (he : ∀ whole, isTrue e X.env whole = (do let v ← whole; standAt e.pos; holding [v] (truthy v)) := by intro _; rfl) : PT X e (tB t) := by
  intro pins s σ H Q I hw
  refine isTrue_plain (thn (h pins s σ H _ I hw) fun v s1 ⟨x, H1, I1, r1, q1⟩ => ?_) (he _)
  obtain ⟨d, rfl, q⟩ := q1
  cases r1
  exact wpAny_truthy_bool ⟨H1, I1, q⟩
variable {tA tB' : TT} {rest : List Expr}
noncomputable def tAnd (t u : TT) : TT := fun σ H Q => t σ H fun c H1 => if c = true then u σ H1 Q else Q false H1
noncomputable def tOr (t u : TT) : TT := fun σ H Q => t σ H fun c H1 => if c = true then Q true H1 else u σ H1 Q
noncomputable def tNot (t : TT) : TT := fun σ H Q => t σ H fun c H1 => Q (!c) H1
theorem pw_and1 (ha : PT X a tA) : PW X (.BoolOp .And [a] pos) tA := by
  intro wh pins s σ H Q I h
  refine isTrue_and (thn (ha pins s σ H Q I h) fun c s1 e => ?_)
  cases c with
  | true => exact isTrue_and_nil e
  | false => exact e
theorem pw_or1 (ha : PT X a tA) : PW X (.BoolOp .Or [a] pos) tA := by
  intro wh pins s σ H Q I h
  refine isTrue_or (thn (ha pins s σ H Q I h) fun c s1 e => ?_)
  cases c with
  | false => exact isTrue_or_nil e
  | true => exact e
theorem pw_and (ha : PT X a tA) (hb : PW X (.BoolOp .And (b :: rest) pos) tB') : PW X (.BoolOp .And (a :: b :: rest) pos) (tAnd tA tB') := by
  intro wh pins s σ H Q I h
  refine isTrue_and (thn (ha pins s σ H _ I h) fun c s1 ⟨H1, I1, q1⟩ => ?_)
  cases c with
  | true => exact hb wh pins s1 σ H1 Q I1 q1
  | false => exact ⟨H1, I1, q1⟩
theorem pw_or (ha : PT X a tA) (hb : PW X (.BoolOp .Or (b :: rest) pos) tB') : PW X (.BoolOp .Or (a :: b :: rest) pos) (tOr tA tB') := by
  intro wh pins s σ H Q I h
  refine isTrue_or (thn (ha pins s σ H _ I h) fun c s1 ⟨H1, I1, q1⟩ => ?_)
  cases c with
  | true => exact ⟨H1, I1, q1⟩
  | false => exact hb wh pins s1 σ H1 Q I1 q1
theorem pt_not (ha : PT X a tA) : PT X (.UnaryOp .Not a pos) (tNot tA) := by
  intro pins s σ H Q I h
  exact isTrue_not (ha pins s σ H (fun c H1 => Q (!c) H1) I h)
noncomputable def tAndV (ta tb : TE) : TE := fun σ H Q => ta σ H fun x H1 => ∃ c, x = .bl c ∧ if c = true then tb σ H1 Q else Q (.bl false) H1
noncomputable def tOrV (ta tb : TE) : TE := fun σ H Q => ta σ H fun x H1 => ∃ c, x = .bl c ∧ if c = true then Q (.bl true) H1 else tb σ H1 Q
noncomputable def tNotV (ta : TE) : TE := fun σ H Q => ta σ H fun x H1 => ∃ c, x = .bl c ∧ Q (.bl (!c)) H1
theorem pe_one {op} {t : TE} (h : PE X a t) : PE X (.BoolOp op [a] pos) t := fun pins s σ H Q I hw => BoolOp_one (h pins s σ H Q I hw)
theorem pe_and (ha : PE X a ta) (hb : PE X (.BoolOp .And (b :: rest) pos) tb) : PE X (.BoolOp .And (a :: b :: rest) pos) (tAndV ta tb) := by
  intro pins s σ H Q I h
  refine BoolOp_and (thn (ha pins s σ H _ I h) fun v s1 ⟨x, H1, I1, r1, q1⟩ => ?_)
  obtain ⟨c, rfl, q1⟩ := q1
  cases r1
  refine wpAny_truthy_bool ?_
  cases c with
  | true => exact hb pins s1 σ H1 Q I1 q1
  | false => exact ⟨.bl false, H1, I1, rfl, q1⟩
theorem pe_or (ha : PE X a ta) (hb : PE X (.BoolOp .Or (b :: rest) pos) tb) : PE X (.BoolOp .Or (a :: b :: rest) pos) (tOrV ta tb) := by
  intro pins s σ H Q I h
  refine BoolOp_or (thn (ha pins s σ H _ I h) fun v s1 ⟨x, H1, I1, r1, q1⟩ => ?_)
  obtain ⟨c, rfl, q1⟩ := q1
  cases r1
  refine wpAny_truthy_bool ?_
  cases c with
  | false => exact hb pins s1 σ H1 Q I1 q1
  | true => exact ⟨.bl true, H1, I1, rfl, q1⟩
theorem pe_not (ha : PE X a ta) : PE X (.UnaryOp .Not a pos) (tNotV ta) := by
  intro pins s σ H Q I h
  refine UnaryOp_ (thn (ha pins s σ H _ I h) fun v s1 ⟨x, H1, I1, r1, q1⟩ => ?_)
  obtain ⟨c, rfl, q1⟩ := q1
  cases r1
  exact not_of (wpAny_truthy_bool ⟨.bl (!c), H1, I1, rfl, q1⟩)
noncomputable def tIf (t : TT) (ta tb : TE) : TE := fun σ H Q => t σ H fun c H1 => if c = true then ta σ H1 Q else tb σ H1 Q
theorem pe_ifExp {c : Expr} (hc : PT X c tA) (ha : PE X a ta) (hb : PE X b tb) : PE X (.IfExp c a b pos) (tIf tA ta tb) := by
  intro pins s σ H Q I h
  refine wpAny_IfExp (thn (hc pins s σ H _ I h) fun d s1 ⟨H1, I1, q1⟩ => ?_)
  cases d with
  | true => exact ha pins s1 σ H1 Q I1 q1
  | false => exact hb pins s1 σ H1 Q I1 q1
end
end L2
namespace L2
open PySem PySem.Spec PyProof.Rows
noncomputable def SqL (K : PySem.W.Frag) (H : Hp) (a : Addr) (xs : List V) : Prop :=
  Rd H a (.lst xs) ∨
    ∃ (o : Obj) (its : Array Value) (n : Nat), K.lookup a = some o ∧ o.cls = .type "list" ∧ o.dict = none ∧ o.data = .seq its n ∧ its.size ≤ sizeLine ∧ Vals xs its.toList
noncomputable def SqT (K : PySem.W.Frag) (H : Hp) (a : Addr) (xs : List V) : Prop :=
  Rd H a (.tup xs) ∨
    ∃ (o : Obj) (its : Array Value) (n : Nat), K.lookup a = some o ∧ o.cls = .type "tuple" ∧ o.data = .seq its n ∧ its.size ≤ sizeLine ∧ Vals xs its.toList
noncomputable def absV : Value → Option V
  | .none => some .non
  | .bool b => some (.bl b)
  | .int i _ => some (.int i)
  | .str x _ => some (.str x)
  | .bytes b _ => some (.byt b)
  | .float b _ => some (.flt b)
  | .ref a => some (.ref a)
  | .type n => some (.ty n)
  | _ => none
theorem RelV.abs {x : V} {u : Value} (r : RelV x u) : absV u = some x := by
  cases x with
  | non => cases r; rfl
  | bl _ => cases r; rfl
  | int _ => obtain ⟨t, rfl⟩ := r; rfl
  | str _ => obtain ⟨t, rfl⟩ := r; rfl
  | byt _ => obtain ⟨t, rfl⟩ := r; rfl
  | flt _ => obtain ⟨t, rfl⟩ := r; rfl
  | ref _ => cases r; rfl
  | ty _ => cases r; rfl
theorem RelV.inj {x y : V} {u : Value} (r : RelV x u) (q : RelV y u) : x = y := Option.some.inj (r.abs.symm.trans q.abs)
theorem Vals.inj : ∀ {xs ys : List V} {us : List Value}, Vals xs us → Vals ys us → xs = ys
  | _, _, _, .nil, .nil => rfl
  | _, _, _, .cons r t, .cons r' t' => by rw [r.inj r', Vals.inj t t']
section
variable {X : Cx} {pins : List (Addr × Obj)} {σ : St} {H : Hp} {s : Shared} {a : Addr} {xs ys : List V}
theorem SqL.of {K : PySem.W.Frag} (h : H a = some (.lst xs)) : SqL K H a xs := .inl (.inl h)
theorem SqT.of {K : PySem.W.Frag} (h : H a = some (.tup xs)) : SqT K H a xs := .inl (.inl h)
theorem Inv.list (I : Inv X pins σ H s) (h : SqL X.K H a xs) : ∃ its : List Value, Vals xs its ∧ PlainL s.heap a its.toArray ∧ xs.length ≤ sizeLine := by
  rcases h with h | ⟨o, its, n, hk, hc, hd, hs, hz, r⟩
  · obtain ⟨z, its, n, r, e⟩ := h.ok I.hok
    exact ⟨its, r, ⟨_, n, e, rfl, rfl, rfl⟩, z⟩
  · refine ⟨its.toList, r, ⟨o, n, I.kIn a o hk, hc, hd, by simpa using hs⟩, ?_⟩
    have e := r.length
    simp only [Array.length_toList] at e
    omega
theorem Inv.tuple (I : Inv X pins σ H s) (h : SqT X.K H a xs) : ∃ its : List Value, Vals xs its ∧ IsTup s.heap a its.toArray ∧ xs.length ≤ sizeLine := by
  rcases h with h | ⟨o, its, n, hk, hc, hs, hz, r⟩
  · obtain ⟨z, its, r, p⟩ := h.ok I.hok
    exact ⟨its, r, p, z⟩
  · refine ⟨its.toList, r, ⟨o, I.kIn a o hk, hc, n, by simpa using hs⟩, ?_⟩
    have e := r.length
    simp only [Array.length_toList] at e
    omega
theorem Inv.list_inj (I : Inv X pins σ H s) (h : SqL X.K H a xs) (h' : SqL X.K H a ys) : xs = ys := by
  obtain ⟨its, r, ⟨o, n, e, _, _, d⟩, _⟩ := I.list h
  obtain ⟨its', r', ⟨o', n', e', _, _, d'⟩, _⟩ := I.list h'
  rw [e] at e'; cases e'
  rw [d] at d'
  injection d' with d1 _
  have : its = its' := by simpa using congrArg Array.toList d1
  subst this
  exact r.inj r'
theorem Inv.tuple_inj (I : Inv X pins σ H s) (h : SqT X.K H a xs) (h' : SqT X.K H a ys) : xs = ys := by
  obtain ⟨its, r, ⟨o, e, _, n, d⟩, _⟩ := I.tuple h
  obtain ⟨its', r', ⟨o', e', _, n', d'⟩, _⟩ := I.tuple h'
  rw [e] at e'; cases e'
  rw [d] at d'
  injection d' with d1 _
  have : its = its' := by simpa using congrArg Array.toList d1
  subst this
  exact r.inj r'
end
noncomputable abbrev Cx.wish (X : Cx) (E : Value → Shared → Prop) : Cx := { X with xe := E }
noncomputable abbrev Cx.nox (X : Cx) : Cx := X.wish fun _ _ => False
theorem Cx.Ok.wish {X : Cx} (ok : X.Ok) (E : Value → Shared → Prop) : (X.wish E).Ok :=
  ⟨ok.mod, ok.kind, ok.glob, ok.blt, ok.above, ok.inj, ok.has, ok.cab, ok.hd, ok.frames, ok.stk, ok.exf, ok.bs, ok.bsz, ok.noex, ok.exfs, ok.funs, ok.frf⟩
theorem Cx.Ok.unwish {X : Cx} {E : Value → Shared → Prop} (ok : (X.wish E).Ok) : X.Ok :=
  ⟨ok.mod, ok.kind, ok.glob, ok.blt, ok.above, ok.inj, ok.has, ok.cab, ok.hd, ok.frames, ok.stk, ok.exf, ok.bs, ok.bsz, ok.noex, ok.exfs, ok.funs, ok.frf⟩
section
variable {X : Cx} {pins : List (Addr × Obj)} {σ : St} {H : Hp} {s : Shared} {E : Value → Shared → Prop}
theorem Inv.wish (I : Inv X pins σ H s) (E : Value → Shared → Prop) : Inv (X.wish E) pins σ H s := ⟨I.ok.wish E, I.os, I.bare, I.base, I.loc, I.cell, I.free, I.freeC, I.pin, I.hok, I.len⟩
theorem Inv.unwish (I : Inv (X.wish E) pins σ H s) : Inv X pins σ H s := ⟨I.ok.unwish, I.os, I.bare, I.base, I.loc, I.cell, I.free, I.freeC, I.pin, I.hok, I.len⟩
theorem SP.unwish {D : Ends} {f : Flow} {s' : Shared} (h : SP (X.wish E) pins D f s') : SP X pins D f s' := by
  cases f with
  | next => obtain ⟨σ', H', I, q⟩ := h; exact ⟨σ', H', I.unwish, q⟩
  | brk => obtain ⟨σ', H', I, q⟩ := h; exact ⟨σ', H', I.unwish, q⟩
  | cont => obtain ⟨σ', H', I, q⟩ := h; exact ⟨σ', H', I.unwish, q⟩
  | ret u => obtain ⟨v, σ', H', I, r, q⟩ := h; exact ⟨v, σ', H', I.unwish, r, q⟩
theorem PE.nox {e : Expr} {t : TE} (h : PE X.nox e t) : PE X e t := fun pins s σ H Q I hw =>
  wpAny_mono (h pins s σ H Q (I.wish _) hw) (fun _ _ ⟨v, H', I', r, q⟩ => ⟨v, H', I'.unwish, r, q⟩) fun _ _ z => False.elim z
theorem PT.nox {e : Expr} {t : TT} (h : PT X.nox e t) : PT X e t := fun pins s σ H Q I hw =>
  wpAny_mono (h pins s σ H Q (I.wish _) hw) (fun _ _ ⟨H', I', q⟩ => ⟨H', I'.unwish, q⟩) fun _ _ z => False.elim z
theorem PSs.nox {st : List Stmt} {t : TS} (h : PSs X.nox st t) : PSs X st t := fun pins s σ H D I hw =>
  wpAny_mono (h pins s σ H D (I.wish _) hw) (fun _ _ q => q.unwish) fun _ _ z => False.elim z
end
section
variable {X : Cx} {st : Stmt} {rest : List Stmt} {t u : TS} {e : Expr} {te : TE} {pos : Pos}
noncomputable def tNext : TS := fun D σ H => D.nx σ H
noncomputable def tSeq (t u : TS) : TS := fun D σ H => t { D with nx := u D } σ H
theorem pss_nil : PSs X [] tNext := fun _ _ σ H _ I h => wpAny_execs_nil ⟨σ, H, I, h⟩
theorem pss_cons (h1 : PS X st t) (h2 : PSs X rest u) : PSs X (st :: rest) (tSeq t u) := by
  intro pins s σ H D I h
  refine wpAny_execs_cons (thn (h1 pins s σ H { D with nx := u D } I h) fun f s1 q => ?_)
  cases f with
  | next =>
    obtain ⟨σ', H', I', q⟩ := q
    exact h2 pins s1 σ' H' D I' q
  | ret v => exact q
  | brk => exact q
  | cont => exact q
theorem pss_one (h1 : PS X st t) : PSs X [st] t := by
  intro pins s σ H D I h
  refine wpAny_execs_cons (thn (h1 pins s σ H D I h) fun f s1 q => ?_)
  cases f with
  | next => exact wpAny_execs_nil q
  | ret v => exact q
  | brk => exact q
  | cont => exact q
theorem Inv.quiet {pins : List (Addr × Obj)} {σ : St} {H : Hp} {s : Shared} (I : Inv X pins σ H s) : interactive X.env = false := by simp [interactive, I.ok.kind]
noncomputable def tDrop (te : TE) : TS := fun D σ H => te σ H fun _ H1 => D.nx σ H1
theorem ps_expr (he : PE X e te) (hs : swapsWith e none pos.line X.env = pure false := by rfl) : PS X (.Expr e pos) (tDrop te) := by
  intro pins s σ H D I h
  exact wpAny_Expr_any (thn (he pins s σ H _ I h) fun v s1 ⟨x, H1, I1, r1, q1⟩ => ⟨σ, H1, I1, q1⟩) I.quiet hs
noncomputable def tRet (te : TE) : TS := fun D σ H => te σ H D.rt
theorem ps_ret (he : PE X e te) : PS X (.Return (some e) pos) (tRet te) := by
  intro pins s σ H D I h
  exact wpAny_Return_some (thn (he pins s σ H _ I h) fun v s1 ⟨x, H1, I1, r1, q1⟩ => ⟨x, σ, H1, I1, r1, q1⟩)
noncomputable def tIfS (c : TT) (t u : TS) : TS := fun D σ H => c σ H fun b H1 => if b = true then t D σ H1 else u D σ H1
theorem ps_if {c : Expr} {a b : List Stmt} {tc : TT} (hc : PT X c tc) (ha : PSs X a t) (hb : PSs X b u) : PS X (.If c a b pos) (tIfS tc t u) := by
  intro pins s σ H D I h
  refine wpAny_If (thn (hc pins s σ H _ I h) fun d s1 ⟨H1, I1, q1⟩ => ?_)
  cases d with
  | true => exact ha pins s1 σ H1 D I1 q1
  | false => exact hb pins s1 σ H1 D I1 q1
end
noncomputable abbrev TG := V → St → Hp → (St → Hp → Prop) → Prop
noncomputable abbrev TGs := List V → St → Hp → (St → Hp → Prop) → Prop
noncomputable def PG (X : Cx) (target : Expr) (t : TG) : Prop :=
  ∀ (pins : List (Addr × Obj)) (s : Shared) (σ : St) (H : Hp) (v : V) (u : Value) (Q : St → Hp → Prop), Inv X pins σ H s → RelV v u → t v σ H Q →
    wpAny (model X.prog X.w) X.A (assign target X.env u) (fun _ s' => ∃ σ' H', Inv X pins σ' H' s' ∧ Q σ' H') X.xe s
noncomputable def PGs (X : Cx) (ts : List Expr) (t : TGs) : Prop :=
  ∀ (pins : List (Addr × Obj)) (s : Shared) (σ : St) (H : Hp) (vs : List V) (us : List Value) (Q : St → Hp → Prop), Inv X pins σ H s → Vals vs us → t vs σ H Q →
    wpAny (model X.prog X.w) X.A (assignInOrder ((assignEach ts X.env).map (·.2)) us) (fun _ s' => ∃ σ' H', Inv X pins σ' H' s' ∧ Q σ' H') X.xe s
section
variable {X : Cx} {pos : Pos}
noncomputable def gName (i : Nat) : TG := fun v σ H Q => Q (σ.set i (some v)) H
theorem pg_name {i : Nat} {x : Str} (hN : X.N.Nodup) (hi : X.N[i]? = some x) (hx : Loc X.env.scope x) (hf : X.fn x = true ∨ X.env.scope.names.lookup x = some .local := by first | exact .inl rfl | exact .inr rfl | assumption) : PG X (.Name x pos) (gName i) := by
  intro pins s σ H v u Q I r h
  exact wpAny_assign_Name (store_ok I hN hi hx r (fun s' I' => ⟨_, H, I', h⟩) hf)
noncomputable def gNil : TGs := fun vs σ H Q => vs = [] ∧ Q σ H
noncomputable def gCons (t : TG) (u : TGs) : TGs := fun vs σ H Q => ∃ v r, vs = v :: r ∧ t v σ H fun σ' H' => u r σ' H' Q
theorem pgs_nil : PGs X [] gNil := by
  intro pins s σ H vs us Q I r h
  obtain ⟨e, h⟩ := h
  subst e
  cases r
  exact assignInOrder_nil ⟨σ, H, I, h⟩
theorem pgs_cons {e : Expr} {es : List Expr} {t : TG} {u : TGs} (h1 : PG X e t) (h2 : PGs X es u)
    (hs : (assignEach (e :: es) X.env).map (·.2) = assign e X.env :: (assignEach es X.env).map (·.2) := by rfl) : PGs X (e :: es) (gCons t u) := by
  intro pins s σ H vs us Q I r h
  obtain ⟨v, vr, e1, h⟩ := h
  subst e1
  cases r with
  | cons r rr =>
    rw [hs]
    refine assignInOrder_cons (thn (h1 pins s σ H _ _ _ I r h) fun _ s1 ⟨σ1, H1, I1, q1⟩ => ?_)
    exact h2 pins s1 σ1 H1 _ _ Q I1 rr q1
noncomputable def gTup (K : PySem.W.Frag) (n : Nat) (t : TGs) : TG := fun v σ H Q => ∃ a xs, v = .ref a ∧ SqT K H a xs ∧ xs.length = n ∧ t xs σ H Q
theorem pg_tup {es : List Expr} {k : Nat} {t : TGs} {n : Nat} (hc : X.calm = true) (h : PGs X es t)
    (hn : (assignEach es X.env).length = n := by rfl) (hst : (assignEach es X.env).findIdx? (·.1) = none := by rfl) : PG X (.Tuple es k pos) (gTup X.K n t) := by
  intro pins s σ H v u Q I r hw
  obtain ⟨a, xs, e1, hq, hl, hw⟩ := hw
  subst e1
  cases r
  obtain ⟨its, rv, ht, hz⟩ := I.tuple hq
  refine assign_Tuple_tuple (I.ok.hd hc) ht (by simp [hn, ← hl, rv.length]) hst fun h' hx => ?_
  have I1 : Inv X pins σ H { s with heap := h' } := I.kept (t' := s.toks) fun b o e => hx b o (Nat.ne_of_lt (Heap.lt_size e)) e
  exact h pins _ σ H xs _ Q I1 (by simpa using rv) hw
noncomputable def tAsg (te : TE) (g : TG) : TS := fun D σ H => te σ H fun x H1 => g x σ H1 D.nx
theorem ps_set {i : Nat} {x : Str} {e : Expr} {te : TE} {pos' : Pos} (hN : X.N.Nodup) (hi : X.N[i]? = some x) (hx : Loc X.env.scope x) (he : PE X e te) (hs : swapsWith e (some (.Name x pos')) pos.line X.env = pure false := by rfl) (hf : X.fn x = true ∨ X.env.scope.names.lookup x = some .local := by first | exact .inl rfl | exact .inr rfl | assumption) :
    PS X (.Assign [.Name x pos'] e pos) (tAsg te (gName i)) := by
  intro pins s σ H D I h
  refine wpAny_Assign_Name (thn (he pins s σ H _ I h) fun v s1 ⟨y, H1, I1, r1, q1⟩ => ?_) hs
  exact store_ok I1 hN hi hx r1 (fun s2 I2 => ⟨_, H1, I2, q1⟩) hf
end
section
variable {X : Cx} {pos : Pos}
end
structure It where
  go : Nat → Hp → Prop
  yld : Nat → Hp → V → Hp → Prop
  stop : Nat → Hp → Prop
noncomputable def FpOk (X : Cx) (pins : List (Addr × Obj)) (H : Hp) (b : Addr) : Prop :=
  H b = none ∧ b ≠ X.env.locals ∧ b ∉ X.fs ∧ (b ∈ X.ex ∨ X.s₀.heap.objs.size ≤ b) ∧ (∀ x c, X.env.cells.lookup x = some c → c ≠ b) ∧ ∀ p ∈ X.pn ++ pins, p.1 ≠ b
theorem Inv.fpOk {X : Cx} {pins : List (Addr × Obj)} {σ : St} {H H' : Hp} {s : Shared} {b : Addr} (I : Inv X pins σ H s) (hb : s.heap.objs.size ≤ b) (hn : H' b = none) : FpOk X pins H' b := by
  refine ⟨hn, Nat.ne_of_gt (Nat.lt_of_lt_of_le I.lt hb), I.nofs hb, .inr (Nat.le_trans I.sz hb), fun x c e z => ?_, fun p hp z => ?_⟩
  · obtain ⟨v, q⟩ := I.cell x c e
    exact absurd (Nat.lt_of_lt_of_le q.lt (by rw [z]; exact hb)) (Nat.lt_irrefl _)
  · exact absurd (Nat.lt_of_lt_of_le (Heap.lt_size (I.pin p hp).1) (by rw [z]; exact hb)) (Nat.lt_irrefl _)
structure Turn (P : Program) (w : World) (K : PySem.W.Frag) (tg : Expr) (J : It) (fp : List Addr) (it : Addr) (tn : Nat → Heap → Prop) : Prop where
  mem : it ∈ fp
  obj : ∀ i h, tn i h → ∀ b ∈ fp, ∃ o, h.get? b = some o ∧ ∀ v, o.data ≠ .cell v
  keep : ∀ i h h', tn i h → (∀ b ∈ fp, ∀ o, h.get? b = some o → h'.get? b = some o) → tn i h'
  item : ∀ (X : Cx), X.prog = P → X.w = w → X.K = K → X.calm = true → ∀ (i : Nat) (pins : List (Addr × Obj)) (s : Shared) (σ : St) (H : Hp) (E : Value → Shared → Prop), Inv X pins σ H s → (∀ b ∈ fp, FpOk X pins H b) → tn i s.heap → J.go i H →
    wpAny (model P w) X.A (pyNext (.ref it)) (fun r s1 => ∃ u, r = some u ∧
      wpAny (model P w) X.A (letOwnedTupleGo tg (.ref it) u) (fun _ s2 => ∃ x H', Inv X pins σ H' s2 ∧ RelV x u ∧ J.yld i H x H' ∧ tn (i + 1) s2.heap ∧ ∀ b ∈ fp, H' b = none) E s1) E s
  done : ∀ (X : Cx), X.prog = P → X.w = w → X.K = K → X.calm = true → ∀ (i : Nat) (pins : List (Addr × Obj)) (s : Shared) (σ : St) (H : Hp) (E : Value → Shared → Prop), Inv X pins σ H s → (∀ b ∈ fp, FpOk X pins H b) → tn i s.heap → J.stop i H →
    wpAny (model P w) X.A (pyNext (.ref it)) (fun r s1 => r = none ∧ Inv X pins σ H s1) E s
  self : ∀ (A : Around) (i : Nat) (s : Shared) (Q : Value → Shared → Prop) (E : Value → Shared → Prop), tn i s.heap → Q (.ref it) s → wpAny (model P w) A (pyIter (.ref it)) Q E s
noncomputable abbrev TI := St → Hp → (It → Hp → Prop) → Prop
noncomputable def PIE (X : Cx) (pins : List (Addr × Obj)) (σ : St) (tg : Expr) (R : It → Hp → Prop) (itv : Value) (s2 : Shared) : Prop :=
  ∃ (it : Addr) (fp : List Addr) (tn : Nat → Heap → Prop) (J : It) (H' : Hp), itv = .ref it ∧ Inv X pins σ H' s2 ∧ Turn X.prog X.w X.K tg J fp it tn ∧ tn 0 s2.heap ∧ (∀ b ∈ fp, FpOk X pins H' b) ∧ R J H'
noncomputable def PI (X : Cx) (tg iter : Expr) (wi : TI) : Prop :=
  ∀ (pins : List (Addr × Obj)) (s : Shared) (σ : St) (H : Hp) (R : It → Hp → Prop), Inv X pins σ H s → wi σ H R →
    wpAny (model X.prog X.w) X.A (eval iter X.env) (fun v s1 => wpAny (model X.prog X.w) X.A (pyIter v) (PIE X pins σ tg R) X.xe s1) X.xe s
theorem go_of {M : Model} {A : Around} {E : Value → Shared → Prop} {s : Shared} {tg : Expr} {it : Addr} {u : Value} {o : Obj} {n : String} {vs : Array Value} {Q : Unit → Shared → Prop} (ho : s.heap.get? it = some o) (hc : o.cls = .type n) (hd : o.data = .fields vs)
    (hn : ["enumerate", "zip", "dict_itemiterator", "dict_reverseitemiterator", "odict_iterator", "itertools.zip_longest", "itertools.pairwise"].contains n = false) (hQ : Q () s) : wpAny M A (letOwnedTupleGo tg (.ref it) u) Q E s := by
  unfold letOwnedTupleGo
  cases tg <;> first
    | exact wpAny_pure hQ
    | (cases u <;> first
        | exact wpAny_pure hQ
        | (refine wpAny_bind (wpAny_load ho ?_)
           rw [hc, hd]
           show wpAny M A (if (["enumerate", "zip", "dict_itemiterator", "dict_reverseitemiterator", "odict_iterator", "itertools.zip_longest", "itertools.pairwise"].contains n && vs[0]? == some (rawInt _)) = true then _ else _) Q E s
           rw [if_neg (by intro h; rw [hn, Bool.false_and] at h; cases h)]
           exact wpAny_pure hQ))
noncomputable def Itl (K : PySem.W.Frag) (a : Addr) : It :=
  ⟨fun i H => ∃ xs x, SqL K H a xs ∧ xs[i]? = some x, fun i H x H' => H' = H ∧ ∀ xs, SqL K H a xs → xs[i]? = some x, fun i H => ∃ xs, SqL K H a xs ∧ xs.length ≤ i⟩
noncomputable def Itt (K : PySem.W.Frag) (a : Addr) : It :=
  ⟨fun i H => ∃ xs x, SqT K H a xs ∧ xs[i]? = some x, fun i H x H' => H' = H ∧ ∀ xs, SqT K H a xs → xs[i]? = some x, fun i H => ∃ xs, SqT K H a xs ∧ xs.length ≤ i⟩
noncomputable def Itr (lo : Int) (n : Nat) : It := ⟨fun i _ => i < n, fun i H x H' => H' = H ∧ x = .int (lo + i), fun i _ => n ≤ i⟩
theorem turn_list {P : Program} {w : World} {K : PySem.W.Frag} {tg : Expr} (a it : Addr) : Turn P w K tg (Itl K a) [it] it (fun i h => h.IsListIter it a i) where
  mem := by simp
  obj := fun i h st b hb => by
    have e : b = it := by simpa using hb
    subst e
    obtain ⟨o, e, c, d⟩ := st
    exact ⟨o, e, fun v z => by rw [d] at z; cases z⟩
  keep := fun i h h' st k => st.at fun o e => k it (by simp) o e
  item := by
    intro X hP hw hK hc i pins s σ H E I hf st hg
    subst hP hw hK
    obtain ⟨xs, x, hq, hx⟩ := hg
    obtain ⟨its, rv, p, hz⟩ := I.list hq
    obtain ⟨u, hu, ru⟩ := rv.get hx
    obtain ⟨f0, f1, f2, f3, f4, f5⟩ := hf it (by simp)
    refine wpAny_pyNext_list_item st p.isList (x := u) (by simpa using hu) fun h' st' sb => ?_
    have I1 : Inv X pins σ H { s with heap := h' } := I.turned (t' := s.toks) (fun b o hb e => (sb.2 b hb).trans e) f0 f1 f3 f4 f5
    obtain ⟨o, e, c, d⟩ := id st'
    exact ⟨u, rfl, go_of (s := { s with heap := h' }) e c d (by decide) ⟨x, H, I1, ru, ⟨rfl, fun ys hy => by rw [I.list_inj hy hq]; exact hx⟩, st', fun b hb => (hf b hb).1⟩⟩
  done := by
    intro X hP hw hK hc i pins s σ H E I hf st hg
    subst hP hw hK
    obtain ⟨xs, hq, hx⟩ := hg
    obtain ⟨its, rv, p, hz⟩ := I.list hq
    obtain ⟨f0, f1, f2, f3, f4, f5⟩ := hf it (by simp)
    have hl := rv.length
    exact wpAny_pyNext_list_end (I.ok.hd hc) st p.isList (by simp; omega) fun h' eb => ⟨rfl, I.turned (t' := s.toks) (fun b o hb e => eb b o hb e) f0 f1 f3 f4 f5⟩
  self := fun _ _ _ _ _ st h => wpAny_pyIter_listiter st h
theorem turn_tuple {P : Program} {w : World} {K : PySem.W.Frag} {tg : Expr} (a it : Addr) : Turn P w K tg (Itt K a) [it] it (fun i h => h.IsTupleIter it a i) where
  mem := by simp
  obj := fun i h st b hb => by
    have e : b = it := by simpa using hb
    subst e
    obtain ⟨o, e, c, d⟩ := st
    exact ⟨o, e, fun v z => by rw [d] at z; cases z⟩
  keep := fun i h h' st k => st.at fun o e => k it (by simp) o e
  item := by
    intro X hP hw hK hc i pins s σ H E I hf st hg
    subst hP hw hK
    obtain ⟨xs, x, hq, hx⟩ := hg
    obtain ⟨its, rv, p, hz⟩ := I.tuple hq
    obtain ⟨u, hu, ru⟩ := rv.get hx
    obtain ⟨f0, f1, f2, f3, f4, f5⟩ := hf it (by simp)
    refine wpAny_pyNext_tuple_item st (show s.heap.IsTuple a its.toArray from p) (x := u) (by simpa using hu) fun h' st' sb => ?_
    have I1 : Inv X pins σ H { s with heap := h' } := I.turned (t' := s.toks) (fun b o hb e => (sb.2 b hb).trans e) f0 f1 f3 f4 f5
    obtain ⟨o, e, c, d⟩ := id st'
    exact ⟨u, rfl, go_of (s := { s with heap := h' }) e c d (by decide) ⟨x, H, I1, ru, ⟨rfl, fun ys hy => by rw [I.tuple_inj hy hq]; exact hx⟩, st', fun b hb => (hf b hb).1⟩⟩
  done := by
    intro X hP hw hK hc i pins s σ H E I hf st hg
    subst hP hw hK
    obtain ⟨xs, hq, hx⟩ := hg
    obtain ⟨its, rv, p, hz⟩ := I.tuple hq
    obtain ⟨f0, f1, f2, f3, f4, f5⟩ := hf it (by simp)
    have hl := rv.length
    exact wpAny_pyNext_tuple_end (I.ok.hd hc) st (show s.heap.IsTuple a its.toArray from p) (by simp; omega) fun h' eb => ⟨rfl, I.turned (t' := s.toks) (fun b o hb e => eb b o hb e) f0 f1 f3 f4 f5⟩
  self := fun _ _ _ _ _ st h => wpAny_pyIter_tupleiter st h
theorem turn_range {P : Program} {w : World} {K : PySem.W.Frag} {tg : Expr} (it : Addr) (lo : Int) (n : Nat) : Turn P w K tg (Itr lo n) [it] it (fun i h => IsRangeIter h it (lo + (i : Nat) * 1) ((n : Int) - (i : Nat)) 1) where
  mem := by simp
  obj := fun i h st b hb => by
    have e : b = it := by simpa using hb
    subst e
    exact ⟨_, st, fun v z => by
      have z' : Data.fields _ = Data.cell v := z
      cases z'⟩
  keep := fun i h h' st k => k it (by simp) _ st
  item := by
    intro X hP hw hK hc i pins s σ H E I hf st hg
    subst hP hw hK
    obtain ⟨f0, f1, f2, f3, f4, f5⟩ := hf it (by simp)
    have W := Walks.range (prog := X.prog) (w := X.w) (I.ok.hd hc) it lo 1 n
    refine W.item i s _ _ hg st fun v h' tk hv st' kk => ?_
    obtain ⟨t, rfl⟩ := hv
    have I1 : Inv X pins σ H { s with heap := h', toks := tk } := I.turned (fun b o hb e => kk b o (by simpa using hb) e) f0 f1 f3 f4 f5
    refine ⟨_, rfl, go_of (s := { s with heap := h', toks := tk }) (n := "range_iterator") st' rfl rfl (by decide) ⟨.int (lo + i), H, I1, ⟨t, ?_⟩, ⟨rfl, rfl⟩, st', fun b hb => (hf b hb).1⟩⟩
    rw [Int.mul_one]
  done := by
    intro X hP hw hK hc i pins s σ H E I hf st hg
    subst hP hw hK
    obtain ⟨f0, f1, f2, f3, f4, f5⟩ := hf it (by simp)
    exact wpAny_pyNext_range_end (I.ok.hd hc) st (by have : n ≤ i := hg; omega) fun h' eb => ⟨rfl, I.turned (t' := s.toks) (fun b o hb e => eb b o hb e) f0 f1 f3 f4 f5⟩
  self := fun _ _ _ _ _ st h => wpAny_pyIter_rangeiter st h
end L2
namespace L2
open PySem PySem.Spec PyProof.Rows
section
variable {X : Cx} {tg : Expr}
noncomputable def iList (K : PySem.W.Frag) (tl : TE) : TI := fun σ H R => tl σ H fun x H1 => ∃ a, x = .ref a ∧ (∃ xs, SqL K H1 a xs) ∧ R (Itl K a) H1
noncomputable def iTup (K : PySem.W.Frag) (tl : TE) : TI := fun σ H R => tl σ H fun x H1 => ∃ a, x = .ref a ∧ (∃ xs, SqT K H1 a xs) ∧ R (Itt K a) H1
theorem pi_list {l : Expr} {tl : TE} (hl : PE X l tl) : PI X tg l (iList X.K tl) := by
  intro pins s σ H R I h
  refine thn (hl pins s σ H _ I h) fun v s1 ⟨x, H1, I1, r1, q1⟩ => ?_
  obtain ⟨a, e, ⟨xs, hq⟩, q⟩ := q1
  subst e
  cases r1
  obtain ⟨its, rv, p, hz⟩ := I1.list hq
  refine wpAny_pyIter_list p.isList ?_
  refine ⟨s1.heap.objs.size, [s1.heap.objs.size], _, _, H1, rfl, I1.kept (t' := s1.toks) fun b o e => Heap.get?_push_of_some _ e, turn_list a _, ⟨_, Heap.get?_push_size _ rfl, rfl, rfl⟩, fun b hb => ?_, q⟩
  have e : b = s1.heap.objs.size := by simpa using hb
  subst e
  exact I1.fpOk (Nat.le_refl _) (I1.hok.fresh (Nat.le_refl _))
theorem pi_tup {l : Expr} {tl : TE} (hl : PE X l tl) : PI X tg l (iTup X.K tl) := by
  intro pins s σ H R I h
  refine thn (hl pins s σ H _ I h) fun v s1 ⟨x, H1, I1, r1, q1⟩ => ?_
  obtain ⟨a, e, ⟨xs, hq⟩, q⟩ := q1
  subst e
  cases r1
  obtain ⟨its, rv, p, hz⟩ := I1.tuple hq
  refine wpAny_pyIter_tuple (show s1.heap.IsTuple a its.toArray from p) ?_
  refine ⟨s1.heap.objs.size, [s1.heap.objs.size], _, _, H1, rfl, I1.kept (t' := s1.toks) fun b o e => Heap.get?_push_of_some _ e, turn_tuple a _, ⟨_, Heap.get?_push_size _ rfl, rfl, rfl⟩, fun b hb => ?_, q⟩
  have e : b = s1.heap.objs.size := by simpa using hb
  subst e
  exact I1.fpOk (Nat.le_refl _) (I1.hok.fresh (Nat.le_refl _))
theorem range_it {pins : List (Addr × Obj)} {σ : St} {H : Hp} {s : Shared} {R : It → Hp → Prop} {E : Value → Shared → Prop} {lo hi : Int} {t u v : Tok} {tk : Nat} (I : Inv X pins σ H s) (h1 : -(2 ^ 62) ≤ lo) (h2 : lo < 2 ^ 62) (h3 : -(2 ^ 62) ≤ hi) (h4 : hi < 2 ^ 62)
    (q : R (Itr lo (hi - lo).toNat) H) : wpAny (model X.prog X.w) X.A (pyIter (.ref s.heap.objs.size)) (PIE X pins σ tg R) E { s with heap := s.heap.push { cls := .type "range", data := .fields #[.int lo t, .int hi u, .int 1 v] }, toks := tk } := by
  refine wpAny_pyIter_range (IsRange.new ..) (small_one h1 h2 h3 h4) ?_
  have I1 : Inv X pins σ H { s with heap := s.heap.push { cls := .type "range", data := .fields #[.int lo t, .int hi u, .int 1 v] }, toks := tk } := I.kept fun b o e => Heap.get?_push_of_some _ e
  refine ⟨(s.heap.push { cls := .type "range", data := .fields #[.int lo t, .int hi u, .int 1 v] }).objs.size, [(s.heap.push { cls := .type "range", data := .fields #[.int lo t, .int hi u, .int 1 v] }).objs.size], _, _, H, rfl,
    I1.kept (t' := tk) fun b o e => Heap.get?_push_of_some _ e, turn_range _ lo (hi - lo).toNat, ?_, fun b hb => ?_, q⟩
  · have e1 : lo + ((0 : Nat) : Int) * 1 = lo := by simp
    have e2 : (((hi - lo).toNat : Nat) : Int) - ((0 : Nat) : Int) = Builtin.Range.rangeSize lo hi 1 := by rw [rangeSize_one]; split <;> omega
    show IsRangeIter _ _ (lo + ((0 : Nat) : Int) * 1) ((((hi - lo).toNat : Nat) : Int) - ((0 : Nat) : Int)) 1
    rw [e1, e2]
    exact Heap.get?_push_size _ rfl
  · have e : b = (s.heap.push { cls := .type "range", data := .fields #[.int lo t, .int hi u, .int 1 v] }).objs.size := by simpa using hb
    subst e
    exact I1.fpOk (Nat.le_refl _) (I1.hok.fresh (Nat.le_refl _))
noncomputable def iRng1 (ta : TA) : TI := fun σ H R => ta σ H fun vs H1 => ∃ j : Int, vs = [.int j] ∧ -(2 ^ 62) ≤ j ∧ j < 2 ^ 62 ∧ R (Itr 0 j.toNat) H1
theorem pi_range1 {a : Expr} {ta : TA} {p pos : Pos} (hg : Gl X "range") (hm : X.mg "range" = none) (ha : PA X [a] ta) (hs : starEach [a] X.env = [(false, eval a X.env)] := by rfl) : PI X tg (.Call (.Name "range" p) [a] [] pos) (iRng1 ta) := by
  intro pins s σ H R I h
  refine Call_ (ld_blt I hg hm boot_range (PyProof.Rows.callWith_type1 (thn (ha pos pins s σ H _ I h) fun us s1 ⟨vs, H1, I1, r1, q1⟩ => ?_) hs rfl))
  obtain ⟨j, e, q1, q2, q⟩ := q1
  subst e
  cases r1 with
  | cons r rr =>
    cases rr
    obtain ⟨t, rfl⟩ := r
    exact call_range_1 (range_it I1 (by omega) (by omega) q1 q2 (by simpa using q))
noncomputable def tFor (wi : TI) (g : TG) (tb : TS) : TS := fun D σ H => wi σ H fun J H1 => ∃ W : Nat → Nat → St → Hp → Prop, (∃ m, W 0 m σ H1) ∧ ∀ i m σ H, W i m σ H →
  (J.stop i H ∧ D.nx σ H) ∨ (J.go i H ∧ ∃ N : St → Hp → Prop, (∀ σ' H', N σ' H' → ∃ m', m' < m ∧ W (i + 1) m' σ' H') ∧ ∀ x H', J.yld i H x H' → g x σ H' fun σ2 H2 => tb { D with nx := N, ct := N, bk := D.nx } σ2 H2)
noncomputable def pinsAt (fp : List Addr) (h : Heap) : List (Addr × Obj) := fp.filterMap fun b => (h.get? b).map fun o => (b, o)
theorem mem_pinsAt {fp : List Addr} {h : Heap} {b : Addr} {o : Obj} (hb : b ∈ fp) (e : h.get? b = some o) : (b, o) ∈ pinsAt fp h := List.mem_filterMap.mpr ⟨b, hb, by rw [e]; rfl⟩
theorem of_pinsAt {fp : List Addr} {h : Heap} {p : Addr × Obj} (hp : p ∈ pinsAt fp h) : p.1 ∈ fp ∧ h.get? p.1 = some p.2 := by
  obtain ⟨b, hb, e⟩ := List.mem_filterMap.mp hp
  cases q : h.get? b with
  | none => rw [q] at e; cases e
  | some o =>
    rw [q] at e
    have e' : (b, o) = p := Option.some.inj e
    subst e'
    exact ⟨hb, q⟩
theorem Inv.pinned {pins : List (Addr × Obj)} {σ : St} {H : Hp} {s : Shared} {fp : List Addr} (I : Inv X pins σ H s) (hf : ∀ b ∈ fp, FpOk X pins H b) (ho : ∀ b ∈ fp, ∃ o, s.heap.get? b = some o ∧ ∀ v, o.data ≠ .cell v) : Inv X (pins ++ pinsAt fp s.heap) σ H s :=
  I.pins_of fun p hp => (List.mem_append.mp hp).elim (fun z => I.pin p (List.mem_append_right _ z)) fun z => by
    obtain ⟨hb, e⟩ := of_pinsAt z
    obtain ⟨f0, f1, f2, _⟩ := hf p.1 hb
    obtain ⟨o, e', d⟩ := ho p.1 hb
    rw [e] at e'; cases e'
    exact ⟨e, f0, f1, f2, d⟩
theorem Inv.unpinned {pins pl : List (Addr × Obj)} {σ : St} {H : Hp} {s : Shared} (I : Inv X (pins ++ pl) σ H s) : Inv X pins σ H s := I.pins_of fun p hp => I.pin p (List.mem_append_right _ (List.mem_append_left _ hp))
theorem ps_for {iter : Expr} {body : List Stmt} {wi : TI} {g : TG} {tb : TS} {pos : Pos} (hp : PassesOwn (model X.prog X.w) X.A X.env X.xe) (hc : X.calm = true) (hi : PI X tg iter wi) (hg : PG X tg g) (hb : PSs X body tb)
    (hs : ∀ x, foldedSetIterable iter X.env x = pure x := by intro _; rfl) : PS X (.For tg iter body [] pos) (tFor wi g tb) := by
  intro pins s σ H D I h
  refine wpAny_For (thn (hi pins s σ H _ I h) fun v s1 h1 => thn h1 fun itv s2 h2 => ?_) hs
  obtain ⟨it, fp, tn, J, H2, e, I2, T, st2, f2, W, ⟨m0, w0⟩, turn⟩ := h2
  subst e
  -- what stays true of the iterator's objects through the loop
  have stat : ∀ {H' : Hp}, (∀ b ∈ fp, H' b = none) → ∀ b ∈ fp, FpOk X pins H' b := fun hn b hb => ⟨hn b hb, (f2 b hb).2⟩
  refine codeAny_forLoop_any (fun n s' => ∃ i σ' H', Inv X pins σ' H' s' ∧ tn i s'.heap ∧ (∀ b ∈ fp, H' b = none) ∧ W i n σ' H') ?_ m0 ⟨0, σ, H2, I2, st2, fun b hb => (f2 b hb).1, w0⟩
  rintro n s3 ⟨i, σ3, H3, I3, st3, fr3, w3⟩
  rcases turn i n σ3 H3 w3 with ⟨stop, qn⟩ | ⟨go, N, hN, step⟩
  · refine wpAny_passesOwn hp (thn (T.done X rfl rfl rfl hc i pins s3 σ3 H3 X.xe I3 (stat fr3) st3 stop) fun r s4 ⟨hr, I4⟩ => ?_)
    subst hr
    exact wpAny_execs_nil ⟨σ3, H3, I4, qn⟩
  · refine wpAny_passesOwn hp (thn (T.item X rfl rfl rfl hc i pins s3 σ3 H3 X.xe I3 (stat fr3) st3 go) fun r s4 ⟨u, hr, h4⟩ => ?_)
    subst hr
    refine wpAny_passesOwn hp (thn h4 fun _ s5 ⟨x, H5, I5, r5, y5, st5, fr5⟩ => ?_)
    have I5' := I5.pinned (stat fr5) (T.obj _ _ st5)
    refine wpAny_passesOwn hp (thn (hg _ s5 σ3 H5 x u _ I5' r5 (step x H5 y5)) fun _ s6 ⟨σ6, H6, I6, q6⟩ => ?_)
    refine wpAny_passesOwn hp (thn (hb _ s6 σ6 H6 _ I6 q6) fun f s7 q7 => ?_)
    have again : ∀ {σ7 : St} {H7 : Hp}, Inv X (pins ++ pinsAt fp s5.heap) σ7 H7 s7 → N σ7 H7 → ∃ m, m < n ∧ ∃ i σ' H', Inv X pins σ' H' s7 ∧ tn i s7.heap ∧ (∀ b ∈ fp, H' b = none) ∧ W i m σ' H' := fun {σ7 H7} I7 n7 => by
      obtain ⟨m', hm, w7⟩ := hN σ7 H7 n7
      refine ⟨m', hm, i + 1, σ7, H7, I7.unpinned, T.keep _ _ _ st5 fun b hb o e => (I7.pin (b, o) (List.mem_append_right _ (List.mem_append_right _ (mem_pinsAt hb e)))).1, fun b hb => ?_, w7⟩
      obtain ⟨o, e, d⟩ := T.obj _ _ st5 b hb
      exact (I7.pin (b, o) (List.mem_append_right _ (List.mem_append_right _ (mem_pinsAt hb e)))).2.1
    cases f with
    | next => obtain ⟨σ7, H7, I7, n7⟩ := q7; exact again I7 n7
    | cont => obtain ⟨σ7, H7, I7, n7⟩ := q7; exact again I7 n7
    | brk => obtain ⟨σ7, H7, I7, q7⟩ := q7; exact ⟨σ7, H7, I7.unpinned, q7⟩
    | ret v => obtain ⟨x7, σ7, H7, I7, r7, q7⟩ := q7; exact ⟨x7, σ7, H7, I7.unpinned, r7, q7⟩
end
theorem for_list {K : PySem.W.Frag} {a : Addr} {xs : List V} {g : TG} {tb : TS} {D : Ends} {σ : St} {H : Hp} (Pv : Nat → St → Hp → Prop) (h0 : Pv 0 σ H) (hl : ∀ i σ H, i ≤ xs.length → Pv i σ H → SqL K H a xs)
    (hs : ∀ i x σ H, xs[i]? = some x → Pv i σ H → g x σ H fun σ2 H2 => tb { D with nx := Pv (i + 1), ct := Pv (i + 1), bk := D.nx } σ2 H2) (hd : ∀ σ H, Pv xs.length σ H → D.nx σ H) :
    ∃ W : Nat → Nat → St → Hp → Prop, (∃ m, W 0 m σ H) ∧ ∀ i m σ H, W i m σ H →
      ((Itl K a).stop i H ∧ D.nx σ H) ∨ ((Itl K a).go i H ∧ ∃ N : St → Hp → Prop, (∀ σ' H', N σ' H' → ∃ m', m' < m ∧ W (i + 1) m' σ' H') ∧ ∀ x H', (Itl K a).yld i H x H' → g x σ H' fun σ2 H2 => tb { D with nx := N, ct := N, bk := D.nx } σ2 H2) := by
  refine ⟨fun i m σ H => m = xs.length - i ∧ i ≤ xs.length ∧ Pv i σ H, ⟨xs.length, by simp, Nat.zero_le _, h0⟩, ?_⟩
  rintro i m σ H ⟨rfl, hi, p⟩
  have q := hl i σ H hi p
  by_cases hlt : i < xs.length
  · refine .inr ⟨⟨xs, xs[i], q, by simp [hlt]⟩, Pv (i + 1), fun σ' H' p' => ⟨xs.length - (i + 1), by omega, rfl, hlt, p'⟩, fun x H' y => ?_⟩
    obtain ⟨e, y⟩ := y
    subst e
    exact hs i x σ _ (y xs q) p
  · have e : i = xs.length := by omega
    subst e
    exact .inl ⟨⟨xs, q, Nat.le_refl _⟩, hd σ H p⟩
theorem for_range {lo : Int} {n : Nat} {g : TG} {tb : TS} {D : Ends} {σ : St} {H : Hp} (Pv : Nat → St → Hp → Prop) (h0 : Pv 0 σ H)
    (hs : ∀ i σ H, i < n → Pv i σ H → g (.int (lo + i)) σ H fun σ2 H2 => tb { D with nx := Pv (i + 1), ct := Pv (i + 1), bk := D.nx } σ2 H2) (hd : ∀ σ H, Pv n σ H → D.nx σ H) :
    ∃ W : Nat → Nat → St → Hp → Prop, (∃ m, W 0 m σ H) ∧ ∀ i m σ H, W i m σ H →
      ((Itr lo n).stop i H ∧ D.nx σ H) ∨ ((Itr lo n).go i H ∧ ∃ N : St → Hp → Prop, (∀ σ' H', N σ' H' → ∃ m', m' < m ∧ W (i + 1) m' σ' H') ∧ ∀ x H', (Itr lo n).yld i H x H' → g x σ H' fun σ2 H2 => tb { D with nx := N, ct := N, bk := D.nx } σ2 H2) := by
  refine ⟨fun i m σ H => m = n - i ∧ i ≤ n ∧ Pv i σ H, ⟨n, by simp, Nat.zero_le _, h0⟩, ?_⟩
  rintro i m σ H ⟨rfl, hi, p⟩
  by_cases hlt : i < n
  · refine .inr ⟨hlt, Pv (i + 1), fun σ' H' p' => ⟨n - (i + 1), by omega, rfl, hlt, p'⟩, fun x H' y => ?_⟩
    obtain ⟨e, y⟩ := y
    subst e y
    exact hs i σ _ hlt p
  · have e : i = n := by omega
    subst e
    exact .inl ⟨Nat.le_refl _, hd σ H p⟩
end L2
namespace L2
open PySem PySem.Spec PyProof.Rows
noncomputable abbrev R2 := V → V → Hp → VK → Prop
noncomputable def OpR (X : Cx) (f : Value → Value → Sem Value) (r : R2) : Prop :=
  ∀ (pins : List (Addr × Obj)) (s : Shared) (σ : St) (H : Hp) (x y : V) (v u : Value) (Q : VK), Inv X pins σ H s → RelV x v → RelV y u → r x y H Q →
    wpAny (model X.prog X.w) X.A (f v u) (EP X pins σ Q) X.xe s
noncomputable def UnR (X : Cx) (f : Value → Sem Value) (r : V → Hp → VK → Prop) : Prop :=
  ∀ (pins : List (Addr × Obj)) (s : Shared) (σ : St) (H : Hp) (x : V) (v : Value) (Q : VK), Inv X pins σ H s → RelV x v → r x H Q →
    wpAny (model X.prog X.w) X.A (f v) (EP X pins σ Q) X.xe s
noncomputable def CallR (X : Cx) (f : Value) (r : List V → Hp → VK → Prop) : Prop :=
  ∀ (pins : List (Addr × Obj)) (s : Shared) (σ : St) (H : Hp) (xs : List V) (us : List Value) (Q : VK), Inv X pins σ H s → Vals xs us → r xs H Q →
    wpAny (model X.prog X.w) X.A (call f us) (EP X pins σ Q) X.xe s
noncomputable def tOp (r : R2) (ta tb : TE) : TE := fun σ H Q => ta σ H fun x H1 => tb σ H1 fun y H2 => r x y H2 Q
noncomputable def tUn (r : V → Hp → VK → Prop) (ta : TE) : TE := fun σ H Q => ta σ H fun x H1 => r x H1 Q
noncomputable def rI (C : Int → Int → Prop) (g : Int → Int → V) : R2 := fun x y H Q => ∃ i j, x = .int i ∧ y = .int j ∧ C i j ∧ Q (g i j) H
noncomputable def rI0 (g : Int → Int → V) : R2 := fun x y H Q => ∃ i j, x = .int i ∧ y = .int j ∧ Q (g i j) H
noncomputable def rU (g : Int → V) : V → Hp → VK → Prop := fun x H Q => ∃ i, x = .int i ∧ Q (g i) H
section
variable {X : Cx} {a b c : Expr} {ta tb tc : TE} {pos : Pos}
theorem binT (ha : PE X a ta) (hb : PE X b tb) {pins : List (Addr × Obj)} {s : Shared} {σ : St} {H : Hp} {R : V → V → Hp → Prop} (I : Inv X pins σ H s)
    (h : ta σ H fun x H1 => tb σ H1 fun y H2 => R x y H2) {Q : Value → Shared → Prop} {f : Value → Value → Sem Value}
    (hf : ∀ v u s2 x y H2, Inv X pins σ H2 s2 → RelV x v → RelV y u → R x y H2 → wpAny (model X.prog X.w) X.A (f v u) Q X.xe s2) :
    wpAny (model X.prog X.w) X.A (eval a X.env) (fun v s₁ => wpAny (model X.prog X.w) X.A (eval b X.env) (fun u s₂ => wpAny (model X.prog X.w) X.A (f v u) Q X.xe s₂) X.xe s₁) X.xe s := by
  refine thn (ha pins s σ H _ I h) fun v s1 ⟨x, H1, I1, r1, q1⟩ => ?_
  refine thn (hb pins s1 σ H1 _ I1 q1) fun u s2 ⟨y, H2, I2, r2, q2⟩ => ?_
  exact hf v u s2 x y H2 I2 r1 r2 q2
theorem pe_op {op : Operator} {r : R2} (ho : OpR X (binaryOp op) r) (ha : PE X a ta) (hb : PE X b tb) : PE X (.BinOp a op b pos) (tOp r ta tb) := by
  intro pins s σ H Q I h
  exact wpAny_BinOp (binT ha hb I h fun v u s2 x y H2 I2 rx ry q => ho pins s2 σ H2 x y v u Q I2 rx ry q)
theorem pe_un {op : UnaryOp} {r : V → Hp → VK → Prop} (ho : UnR X (unaryOp op) r) (ha : PE X a ta) : PE X (.UnaryOp op a pos) (tUn r ta) := by
  intro pins s σ H Q I h
  exact UnaryOp_ (thn (ha pins s σ H _ I h) fun v s1 ⟨x, H1, I1, r1, q1⟩ => ho pins s1 σ H1 x v Q I1 r1 q1)
theorem opI {f : Value → Value → Sem Value} {C : Int → Int → Prop} {g : Int → Int → Int}
    (rule : ∀ (i j : Int) (t u : Tok) (s : Shared) (Q : Value → Shared → Prop) (E : Value → Shared → Prop), C i j → Q (.int (g i j) s.toks) { s with toks := s.toks + 1 } → wpAny (model X.prog X.w) X.A (f (.int i t) (.int j u)) Q E s) :
    OpR X f (rI C fun i j => .int (g i j)) := by
  intro pins s σ H x y v u Q I rx ry h
  obtain ⟨i, j, rfl, rfl, hc, q⟩ := h
  obtain ⟨t, rfl⟩ := rx
  obtain ⟨t', rfl⟩ := ry
  exact rule i j t t' s _ _ hc ⟨.int (g i j), H, I.tok _, ⟨_, rfl⟩, q⟩
theorem opI0 {f : Value → Value → Sem Value} {g : Int → Int → Int}
    (rule : ∀ (i j : Int) (t u : Tok) (s : Shared) (Q : Value → Shared → Prop) (E : Value → Shared → Prop), Q (.int (g i j) s.toks) { s with toks := s.toks + 1 } → wpAny (model X.prog X.w) X.A (f (.int i t) (.int j u)) Q E s) :
    OpR X f (rI0 fun i j => .int (g i j)) := by
  intro pins s σ H x y v u Q I rx ry h
  obtain ⟨i, j, rfl, rfl, q⟩ := h
  obtain ⟨t, rfl⟩ := rx
  obtain ⟨t', rfl⟩ := ry
  exact rule i j t t' s _ _ ⟨.int (g i j), H, I.tok _, ⟨_, rfl⟩, q⟩
theorem opB0 {f : Value → Value → Sem Value} {g : Int → Int → Bool}
    (rule : ∀ (i j : Int) (t u : Tok) (s : Shared) (Q : Value → Shared → Prop) (E : Value → Shared → Prop), Q (.bool (g i j)) s → wpAny (model X.prog X.w) X.A (f (.int i t) (.int j u)) Q E s) :
    OpR X f (rI0 fun i j => .bl (g i j)) := by
  intro pins s σ H x y v u Q I rx ry h
  obtain ⟨i, j, rfl, rfl, q⟩ := h
  obtain ⟨t, rfl⟩ := rx
  obtain ⟨t', rfl⟩ := ry
  exact rule i j t t' s _ _ ⟨.bl (g i j), H, I, rfl, q⟩
noncomputable def CDiv (i j : Int) : Prop := 0 < j ∧ j < 1073741824
noncomputable def CPow (i j : Int) : Prop := 0 ≤ j ∧ j ≤ 1000000 ∧ i.natAbs < 2 ^ 64
noncomputable def CMul (i j : Int) : Prop := (-(2 ^ 64) < i ∧ i < 2 ^ 64) ∨ (-(2 ^ 64) < j ∧ j < 2 ^ 64)
theorem CMul.ok {i j : Int} (h : CMul i j) : IntMulOk i j := by
  rcases h with ⟨h1, h2⟩ | ⟨h1, h2⟩
  · exact .of_left (intBits_le_64 h1 h2)
  · exact .of_right (intBits_le_64 h1 h2)
theorem op_add : OpR X (binaryOp .Add) (rI0 fun i j => .int (i + j)) := opI0 fun _ _ _ _ _ _ _ q => add_int q
theorem op_sub : OpR X (binaryOp .Sub) (rI0 fun i j => .int (i - j)) := opI0 fun _ _ _ _ _ _ _ q => sub_int q
theorem op_mul : OpR X (binaryOp .Mult) (rI CMul fun i j => .int (i * j)) := opI fun _ _ _ _ _ _ _ hc q => mul_int q hc.ok
theorem op_fdiv : OpR X (binaryOp .FloorDiv) (rI CDiv fun i j => .int (i / j)) := opI fun i j _ _ _ _ _ hc q => by
  have h1 : (0 : Int) < j := hc.1
  have h2 : j < 1073741824 := hc.2
  exact floordiv_int (by omega) (by rw [Int.fdiv_eq_ediv_of_nonneg i (by omega)]; exact q) (.inl (PyProof.noPylong_small (by omega)))
theorem op_mod : OpR X (binaryOp .Mod) (rI (fun _ j => 0 < j) fun i j => .int (i % j)) := opI fun i j _ _ _ _ _ hc q => by
  have h1 : (0 : Int) < j := hc
  exact mod_int' (by omega) (by rw [Int.fmod_eq_emod_of_nonneg i (by omega)]; exact q)
theorem op_pow : OpR X (binaryOp .Pow) (rI CPow fun i j => .int (i ^ j.toNat)) := opI fun _ _ _ _ _ _ _ hc q => pow_int_small hc.1 hc.2.1 hc.2.2 q
theorem unI {f : Value → Sem Value} {g : Int → Int}
    (rule : ∀ (i : Int) (t : Tok) (s : Shared) (Q : Value → Shared → Prop) (E : Value → Shared → Prop), Q (.int (g i) s.toks) { s with toks := s.toks + 1 } → wpAny (model X.prog X.w) X.A (f (.int i t)) Q E s) :
    UnR X f (rU fun i => .int (g i)) := by
  intro pins s σ H x v Q I rx h
  obtain ⟨i, rfl, q⟩ := h
  obtain ⟨t, rfl⟩ := rx
  exact rule i t s _ _ ⟨.int (g i), H, I.tok _, ⟨_, rfl⟩, q⟩
theorem un_neg : UnR X (unaryOp .USub) (rU fun i => .int (-i)) := unI fun _ _ _ _ _ q => neg_int q
end
noncomputable def scal : V → V → Bool
  | .non, .non => true | .non, .int _ => true | .int _, .non => true | .non, .bl _ => true | .bl _, .non => true | .non, .str _ => true | .str _, .non => true
  | .int _, .int _ => true | .bl _, .bl _ => true | .str _, .str _ => true | .byt _, .byt _ => true
  | .int _, .str _ => true | .str _, .int _ => true | .bl _, .str _ => true | .str _, .bl _ => true
  | _, _ => false
noncomputable def rEq : R2 := fun x y H Q => scal x y = true ∧ Q (.bl (decide (x = y))) H
noncomputable def rNe : R2 := fun x y H Q => scal x y = true ∧ Q (.bl (!decide (x = y))) H
theorem dec_int {i j : Int} : decide (V.int i = V.int j) = (i == j) := by
  rw [Bool.eq_iff_iff]
  simp
theorem dec_bl {i j : Bool} : decide (V.bl i = V.bl j) = (i == j) := by
  rw [Bool.eq_iff_iff]
  simp
theorem dec_str {i j : Str} : decide (V.str i = V.str j) = (i == j) := by
  rw [Bool.eq_iff_iff]
  simp
theorem dec_byt {i j : Array UInt8} : decide (V.byt i = V.byt j) = (i.toList == j.toList) := by
  rw [Bool.eq_iff_iff]
  cases i
  cases j
  simp
section
variable {X : Cx} {a b c : Expr} {ta tb tc : TE} {pos : Pos}
theorem fin_bl {pins : List (Addr × Obj)} {σ : St} {H : Hp} {s : Shared} {Q : VK} {k k' : Bool} (I : Inv X pins σ H s) (q : Q (.bl k) H) (e : k = k') : EP X pins σ Q (.bool k') s := by
  subst e
  exact ⟨.bl k, H, I, rfl, q⟩
theorem op_eq : OpR X (compareOp .Eq) rEq := by
  intro pins s σ H x y v u Q I rx ry h
  obtain ⟨hs, q⟩ := h
  cases x with
  | non =>
    cases rx
    cases y with
    | non => cases ry; exact PySem.EqNone.eq_none_none (fin_bl I q (by simp))
    | bl j => cases ry; exact PySem.EqNone.eq_none_bool (fin_bl I q (by simp))
    | int j => obtain ⟨t', rfl⟩ := ry; exact PySem.EqNone.eq_none_int (fin_bl I q (by simp))
    | str j => obtain ⟨t', rfl⟩ := ry; exact PySem.EqNone.eq_none_str (fin_bl I q (by simp))
    | _ => exact absurd (show false = true from hs) Bool.false_ne_true
  | bl i =>
    cases rx
    cases y with
    | non => cases ry; exact PySem.EqNone.eq_bool_none (fin_bl I q (by simp))
    | bl j => cases ry; exact eq_bool (fin_bl I q dec_bl)
    | str j => obtain ⟨t', rfl⟩ := ry; exact PySem.EqMixed.eq_bool_str (fin_bl I q (by simp))
    | _ => exact absurd (show false = true from hs) Bool.false_ne_true
  | int i =>
    obtain ⟨t, rfl⟩ := rx
    cases y with
    | non => cases ry; exact PySem.EqNone.eq_int_none (fin_bl I q (by simp))
    | int j => obtain ⟨t', rfl⟩ := ry; exact eq_int (fin_bl I q dec_int)
    | str j => obtain ⟨t', rfl⟩ := ry; exact PySem.EqMixed.eq_int_str (fin_bl I q (by simp))
    | _ => exact absurd (show false = true from hs) Bool.false_ne_true
  | str i =>
    obtain ⟨t, rfl⟩ := rx
    cases y with
    | non => cases ry; exact PySem.EqNone.eq_str_none (fin_bl I q (by simp))
    | bl j => cases ry; exact PySem.EqMixed.eq_str_bool (fin_bl I q (by simp))
    | int j => obtain ⟨t', rfl⟩ := ry; exact PySem.EqMixed.eq_str_int (fin_bl I q (by simp))
    | str j => obtain ⟨t', rfl⟩ := ry; exact eq_str (fin_bl I q dec_str)
    | _ => exact absurd (show false = true from hs) Bool.false_ne_true
  | byt i =>
    obtain ⟨t, rfl⟩ := rx
    cases y with
    | byt j => obtain ⟨t', rfl⟩ := ry; exact PySem.W.eq_bytes (fin_bl I q dec_byt)
    | _ => exact absurd (show false = true from hs) Bool.false_ne_true
  | _ => cases y <;> exact absurd (show false = true from hs) Bool.false_ne_true
theorem op_ne : OpR X (compareOp .NotEq) rNe := by
  intro pins s σ H x y v u Q I rx ry h
  obtain ⟨hs, q⟩ := h
  cases x with
  | non =>
    cases rx
    cases y with
    | non => cases ry; exact PySem.EqNone.ne_none_none (fin_bl I q (by simp))
    | bl j => cases ry; exact PySem.EqNone.ne_none_bool (fin_bl I q (by simp))
    | int j => obtain ⟨t', rfl⟩ := ry; exact PySem.EqNone.ne_none_int (fin_bl I q (by simp))
    | str j => obtain ⟨t', rfl⟩ := ry; exact PySem.EqNone.ne_none_str (fin_bl I q (by simp))
    | _ => exact absurd (show false = true from hs) Bool.false_ne_true
  | bl i =>
    cases rx
    cases y with
    | non => cases ry; exact PySem.EqNone.ne_bool_none (fin_bl I q (by simp))
    | bl j => cases ry; exact ne_bool (fin_bl I q (congrArg not dec_bl))
    | str j => obtain ⟨t', rfl⟩ := ry; exact PySem.EqMixed.ne_bool_str (fin_bl I q (by simp))
    | _ => exact absurd (show false = true from hs) Bool.false_ne_true
  | int i =>
    obtain ⟨t, rfl⟩ := rx
    cases y with
    | non => cases ry; exact PySem.EqNone.ne_int_none (fin_bl I q (by simp))
    | int j => obtain ⟨t', rfl⟩ := ry; exact ne_int (fin_bl I q (congrArg not dec_int))
    | str j => obtain ⟨t', rfl⟩ := ry; exact PySem.EqMixed.ne_int_str (fin_bl I q (by simp))
    | _ => exact absurd (show false = true from hs) Bool.false_ne_true
  | str i =>
    obtain ⟨t, rfl⟩ := rx
    cases y with
    | non => cases ry; exact PySem.EqNone.ne_str_none (fin_bl I q (by simp))
    | bl j => cases ry; exact PySem.EqMixed.ne_str_bool (fin_bl I q (by simp))
    | int j => obtain ⟨t', rfl⟩ := ry; exact PySem.EqMixed.ne_str_int (fin_bl I q (by simp))
    | str j => obtain ⟨t', rfl⟩ := ry; exact ne_str (fin_bl I q (congrArg not dec_str))
    | _ => exact absurd (show false = true from hs) Bool.false_ne_true
  | byt i =>
    obtain ⟨t, rfl⟩ := rx
    cases y with
    | byt j => obtain ⟨t', rfl⟩ := ry; exact PySem.W.ne_bytes (fin_bl I q (congrArg not dec_byt))
    | _ => exact absurd (show false = true from hs) Bool.false_ne_true
  | _ => cases y <;> exact absurd (show false = true from hs) Bool.false_ne_true
theorem op_lt : OpR X (compareOp .Lt) (rI0 fun i j => .bl (decide (i < j))) := opB0 fun _ _ _ _ _ _ _ q => lt_int q
theorem op_le : OpR X (compareOp .LtE) (rI0 fun i j => .bl (decide (i ≤ j))) := opB0 fun _ _ _ _ _ _ _ q => le_int q
theorem op_gt : OpR X (compareOp .Gt) (rI0 fun i j => .bl (decide (j < i))) := opB0 fun _ _ _ _ _ _ _ q => gt_int q
theorem op_ge : OpR X (compareOp .GtE) (rI0 fun i j => .bl (decide (j ≤ i))) := opB0 fun _ _ _ _ _ _ _ q => ge_int q
theorem op_in_str : OpR X (compareOp .In) (fun x y H Q => ∃ i j, x = .str i ∧ y = .str j ∧ Q (.bl (!(Builtin.Str.occurrences j i 0 j.length 1).isEmpty)) H) := by
  intro pins s σ H x y v u Q I rx ry h
  obtain ⟨i, j, rfl, rfl, q⟩ := h
  obtain ⟨t, rfl⟩ := rx
  obtain ⟨t', rfl⟩ := ry
  exact in_str (fin_bl I q rfl)
theorem nomark (b : Expr) {op : CmpOp} (h : op ≠ .In := by decide) (h2 : op ≠ .NotIn := by decide) : behindInMarks op b = false := by
  have e1 : (op == CmpOp.In) = false := by cases op <;> first | rfl | exact absurd rfl h
  have e2 : (op == CmpOp.NotIn) = false := by cases op <;> first | rfl | exact absurd rfl h2
  cases b <;> simp [behindInMarks, e1, e2]
theorem pe_cmpR {op : CmpOp} {r : R2} (ho : OpR X (compareOp op) r) (ha : PE X a ta) (hb : PE X b tb) (hm : behindInMarks op b = false) : PE X (.Compare a [op] [b] pos) (tOp r ta tb) := by
  intro pins s σ H Q I h
  exact wpAny_Compare1 (binT ha hb I h fun v u s2 x y H2 I2 rx ry q => ho pins s2 σ H2 x y v u Q I2 rx ry q) hm
noncomputable def tTest (t : TE) : TT := fun σ H Q => t σ H fun x H' => ∃ k, x = .bl k ∧ Q k H'
theorem pt_cmpR {op : CmpOp} {r : R2} (ho : OpR X (compareOp op) r) (ha : PE X a ta) (hb : PE X b tb) (hm : behindInMarks op b = false) : PT X (.Compare a [op] [b] pos) (tTest (tOp r ta tb)) := by
  intro pins s σ H Q I h
  refine wpAny_isTrue_Compare1 (thn (ha pins s σ H _ I h) fun v s1 ⟨x, H1, I1, r1, q1⟩ => thn (hb pins s1 σ H1 _ I1 q1) fun u s2 ⟨y, H2, I2, r2, q2⟩ =>
    thn (ho pins s2 σ H2 x y v u _ I2 r1 r2 q2) fun c s3 ⟨z, H3, I3, r3, k, e, q3⟩ => ?_) hm
  subst e
  cases r3
  exact wpAny_truthy_bool ⟨H3, I3, q3⟩
noncomputable def tChain (r r' : R2) (ta tb tc : TE) : TE := fun σ H Q => ta σ H fun x H1 => tb σ H1 fun y H2 => r x y H2 fun z H3 => ∃ k, z = .bl k ∧
  (if k = true then tc σ H3 fun w' H4 => r' y w' H4 Q else Q (.bl false) H3)
theorem pe_chain {op op' : CmpOp} {r r' : R2} (ho : OpR X (compareOp op) r) (ho' : OpR X (compareOp op') r') (ha : PE X a ta) (hb : PE X b tb) (hc : PE X c tc)
    (hm : lastMarks [op, op'] [b, c] = false := by with_unfolding_all rfl) : PE X (.Compare a [op, op'] [b, c] pos) (tChain r r' ta tb tc) := by
  intro pins s σ H Q I h
  refine Compare_chain (thn (ha pins s σ H _ I h) fun v s1 ⟨x, H1, I1, r1, q1⟩ => chain_link (thn (hb pins s1 σ H1 _ I1 q1) fun u s2 ⟨y, H2, I2, r2, q2⟩ =>
    thn (ho pins s2 σ H2 x y v u _ I2 r1 r2 q2) fun d s3 ⟨z, H3, I3, r3, k, e, q3⟩ => ?_)) hm
  subst e
  cases r3
  refine wpAny_truthy_bool ?_
  cases k with
  | false => exact ite_ff ⟨.bl false, H3, I3, rfl, q3⟩
  | true => exact ite_tt (chain_last (thn (hc pins s3 σ H3 _ I3 q3) fun w' s4 ⟨z', H4, I4, r4, q4⟩ => ho' pins s4 σ H4 y z' u w' Q I4 r2 r4 q4))
theorem pt_chain {op op' : CmpOp} {r r' : R2} (ho : OpR X (compareOp op) r) (ho' : OpR X (compareOp op') r') (ha : PE X a ta) (hb : PE X b tb) (hc : PE X c tc)
    (hm : lastMarks [op, op'] [b, c] = false := by with_unfolding_all rfl) : PT X (.Compare a [op, op'] [b, c] pos) (tTest (tChain r r' ta tb tc)) := by
  intro pins s σ H Q I h
  refine isTrue_chain (thn (ha pins s σ H _ I h) fun v s1 ⟨x, H1, I1, r1, q1⟩ => test_link (thn (hb pins s1 σ H1 _ I1 q1) fun u s2 ⟨y, H2, I2, r2, q2⟩ =>
    thn (ho pins s2 σ H2 x y v u _ I2 r1 r2 q2) fun d s3 ⟨z, H3, I3, r3, k, e, q3⟩ => ?_)) hm
  subst e
  cases r3
  refine wpAny_truthy_bool ?_
  cases k with
  | false =>
    obtain ⟨k', e', q'⟩ := q3
    cases e'
    exact ite_ff ⟨H3, I3, q'⟩
  | true =>
    refine ite_tt (test_last (thn (hc pins s3 σ H3 _ I3 q3) fun w' s4 ⟨z', H4, I4, r4, q4⟩ => thn (ho' pins s4 σ H4 y z' u w' _ I4 r2 r4 q4) fun d' s5 ⟨z2, H5, I5, r5, k2, e2, q5⟩ => ?_))
    subst e2
    cases r5
    exact wpAny_truthy_bool ⟨H5, I5, q5⟩
theorem line63 : (sizeLine : Nat) < 2 ^ 63 := by rw [sizeLine_eq]; decide
theorem op_add_str : OpR X (binaryOp .Add) (fun x y H Q => ∃ i j, x = .str i ∧ y = .str j ∧ i.length + j.length ≤ sizeLine ∧ Q (.str (i ++ j)) H) := by
  intro pins s σ H x y v u Q I rx ry h
  obtain ⟨i, j, rfl, rfl, hz, q⟩ := h
  obtain ⟨t, rfl⟩ := rx
  obtain ⟨t', rfl⟩ := ry
  exact add_str (fun t' tk => ⟨.str (i ++ j), H, I.tok _, ⟨_, rfl⟩, q⟩) hz
theorem vals1 {x : V} {us : List Value} (r : Vals [x] us) : ∃ u, us = [u] ∧ RelV x u := by
  cases r with
  | cons r1 r2 => cases r2; exact ⟨_, rfl, r1⟩
theorem vals2 {x y : V} {us : List Value} (r : Vals [x, y] us) : ∃ u w', us = [u, w'] ∧ RelV x u ∧ RelV y w' := by
  cases r with
  | cons r1 r2 =>
    cases r2 with
    | cons r3 r4 => cases r4; exact ⟨_, _, rfl, r1, r3⟩
theorem call_int1 : CallR X (.type "int") (fun xs H Q => (∃ i, xs = [.int i] ∧ Q (.int i) H) ∨ ∃ k, xs = [.bl k] ∧ Q (.int (if k then 1 else 0)) H) := by
  intro pins s σ H xs us Q I r h
  rcases h with ⟨i, rfl, q⟩ | ⟨k, rfl, q⟩
  · obtain ⟨u, rfl, t, rfl⟩ := vals1 r
    exact call_int_int ⟨.int i, H, I, ⟨_, rfl⟩, q⟩
  · obtain ⟨u, rfl, r1⟩ := vals1 r
    cases r1
    exact call_int_bool ⟨.int (if k then 1 else 0), H, I.tok _, ⟨_, rfl⟩, q⟩
theorem call_ord : CallR X (.builtin "ord") (fun xs H Q => ∃ x, xs = [.str x] ∧ x.length = 1 ∧ Q (.int (x.cps.getD 0 0 : Nat)) H) := by
  intro pins s σ H xs us Q I r h
  obtain ⟨x, rfl, hz, q⟩ := h
  obtain ⟨u, rfl, t, rfl⟩ := vals1 r
  exact ord_of_one hz ⟨.int _, H, I.tok _, ⟨_, rfl⟩, q⟩
end
end L2
namespace L2
open PySem PySem.Spec PyProof.Rows
structure ObjM (h : Heap) (x dx C : Addr) (mA : Str → Option Value) : Prop where
  obj : h.get? x = some (PySem.W.instObj C dx)
  ns : h.Ns1 dx mA
  ne : dx ≠ x
theorem lookIn_ns {h : Heap} {dx : Addr} {mA : Str → Option Value} (n : h.Ns1 dx mA) : ∃ od, h.get? dx = some od ∧ ∀ name, PySem.W.lookIn name od = some (mA name) := by
  obtain ⟨o, es, ep, ho, hd, hk, _, hm⟩ := n
  refine ⟨o, ho, fun name => ?_⟩
  have e := hm name
  unfold nsFind findBy at e
  rw [← Array.find?_toList] at e
  unfold PySem.W.lookIn
  rw [hd]
  dsimp only
  split
  · rename_i y q
    rw [q] at e
    exact congrArg some e
  · rename_i q
    rw [q] at e
    have a : es.toList.any (·.refKey) = false := by
      rw [List.any_eq_false]
      intro y hy
      obtain ⟨z, t, hkey⟩ := hk y (Array.mem_toList_iff.mp hy)
      simp [DictEntry.refKey, hkey]
    have a' : ¬ es.toList.any (·.refKey) = true := by rw [a]; exact Bool.false_ne_true
    rw [if_neg a']
    exact congrArg some e
theorem ObjM.look {h : Heap} {x dx C : Addr} {mA : Str → Option Value} (I : ObjM h x dx C mA) : ∃ od, PySem.W.InstAt h x (PySem.W.instObj C dx) C (some od) ∧ ∀ name, PySem.W.lookIn name od = some (mA name) :=
  let ⟨od, ho, hl⟩ := lookIn_ns I.ns
  ⟨od, ⟨I.obj, rfl, rfl, ho⟩, hl⟩
section
variable {prog : Program} {w : World} {A : Around} {E : Value → Shared → Prop} {s : Shared} {K : PySem.W.Frag} {x dx C f : Addr} {mA : Str → Option Value} {name : Str} {v : Value}
end
section
variable {P : Program} {w : World} {H H' : Hp} {h h' : Heap} {a C dx : Addr} {fs fs' : List (Str × V)}
theorem ins_get (hok : HOk P w H h) (e : H a = some (.ins C dx fs)) : ∃ mA, ObjM h a dx C mA ∧ (∀ f, RelO (fs.lookup f) (mA f)) ∧ PySem.Within mA (fs.map (·.1)) ∧ fs.length ≤ 1000 ∧ H dx = some (.own a) := by
  obtain ⟨d, z, ne, ob, mA, n, r, q⟩ := (show ObjOk P w H h a (.ins C dx fs) from hok a _ e)
  exact ⟨mA, ⟨ob, n, ne⟩, r, q, z, d⟩
end
structure Cls (K : PySem.W.Frag) (C : Addr) : Prop where
  pg : PySem.W.plainGet K C Str.empty = true
  hd : PySem.W.hasDictIn K C = true
  po : PySem.W.plainOver K C = true
  sa : PySem.W.findIn K (.ref C) "__setattr__" = some (some (.builtin "object.__setattr__"))
theorem Cls.get {K : PySem.W.Frag} {C : Addr} (c : Cls K C) (f : Str) : PySem.W.plainGet K C f = true := c.pg
section
variable {X : Cx} {pins : List (Addr × Obj)} {σ : St} {H : Hp} {s : Shared} {a C dx : Addr} {fs : List (Str × V)} {f : Str} {v : V} {A : Around} {E : Value → Shared → Prop}
end
section
variable {X : Cx} {o e value : Expr} {f : Str} {pos pos' tpos : Pos} {ta tv : TE}
end
section
variable {X : Cx} {pins : List (Addr × Obj)} {σ : St} {H : Hp} {s : Shared} {A : Around} {E : Value → Shared → Prop} {Q : Value → Shared → Prop} {c : Value} {b : Bool}
inductive TyOf (K : PySem.W.Frag) (H : Hp) : V → Value → Prop where
  | non : TyOf K H .non (.type "NoneType")
  | bl (x : Bool) : TyOf K H (.bl x) (.type "bool")
  | int (i : Int) : TyOf K H (.int i) (.type "int")
  | str (x : Str) : TyOf K H (.str x) (.type "str")
  | flt (x : UInt64) : TyOf K H (.flt x) (.type "float")
  | lst {a : Addr} {xs : List V} (e : H a = some (.lst xs)) : TyOf K H (.ref a) (.type "list")
  | frz {a : Addr} {o : Obj} {xs : List V} (e : H a = some (.frz o (.lst xs))) : TyOf K H (.ref a) (.type "list")
  | tup {a : Addr} {xs : List V} (e : H a = some (.tup xs)) : TyOf K H (.ref a) (.type "tuple")
  | dK {a : Addr} {kvs : List (Key × V)} (e : H a = some (.dK kvs)) : TyOf K H (.ref a) (.type "dict")
  | dT {a : Addr} {kvs : List (List Key × V)} (e : H a = some (.dT kvs)) : TyOf K H (.ref a) (.type "dict")
  | ins {a C dx : Addr} {fs : List (Str × V)} (e : H a = some (.ins C dx fs)) (cl : Cls K C) (ha : PySem.W.findIn K (.ref C) "__class__" = some (some (.builtin "object.__class__")))
      (hn : PySem.W.specialIn K (.builtin "object.__class__") "__get__" = some (some (.builtin "getset_descriptor.__get__"))) (htk : PySem.W.takesIn K (.builtin "object.__class__") = some true)
      (hm : PySem.W.mroIn K C (.type "object") = some true) : TyOf K H (.ref a) (.ref C)
theorem isinst_ok {x : V} {u t : Value} (I : Inv X pins σ H s) (rx : RelV x u) (ty : TyOf X.K H x t) (e : PySem.W.kitOne X.K t c = some b) (h : ∀ tk, Q (.bool b) { s with toks := tk }) :
    wpAny (model X.prog X.w) A (call (.builtin "isinstance") [u, c]) Q E s := by
  cases ty with
  | non => cases (show u = Value.none from rx); exact PySem.W.kia_one PySem.W.kitx_none I.kIn True.intro e (fun z => nomatch z) h
  | bl y => cases (show u = Value.bool y from rx); exact PySem.W.kia_one PySem.W.kitx_bool I.kIn True.intro e (fun z => nomatch z) h
  | int i => obtain ⟨t, q⟩ := (show ∃ t, u = Value.int i t from rx); cases q; exact PySem.W.kia_one PySem.W.kitx_int I.kIn True.intro e (fun z => nomatch z) h
  | str y => obtain ⟨t, q⟩ := (show ∃ t, u = Value.str y t from rx); cases q; exact PySem.W.kia_one PySem.W.kitx_str I.kIn True.intro e (fun z => nomatch z) h
  | flt y => obtain ⟨t, q⟩ := (show ∃ t, u = Value.float y t from rx); cases q; exact PySem.W.kia_one PySem.W.kitx_float I.kIn True.intro e (fun z => nomatch z) h
  | @lst a xs ea =>
    cases (show u = Value.ref a from rx)
    obtain ⟨_, _, n, _, h1⟩ := (show ObjOk X.prog X.w H s.heap a (.lst xs) from I.hok a _ ea)
    exact PySem.W.kia_one PySem.W.kitx_list I.kIn ⟨_, h1, rfl⟩ e (fun z => nomatch z) h
  | @frz a ob xs ea =>
    cases (show u = Value.ref a from rx)
    obtain ⟨_, _, _, n, _, h1⟩ := (show ObjOk X.prog X.w H s.heap a (.frz ob (.lst xs)) from I.hok a _ ea)
    exact PySem.W.kia_one PySem.W.kitx_list I.kIn ⟨_, h1, rfl⟩ e (fun z => nomatch z) h
  | @tup a xs ea =>
    cases (show u = Value.ref a from rx)
    obtain ⟨_, _, _, p⟩ := (show ObjOk X.prog X.w H s.heap a (.tup xs) from I.hok a _ ea)
    obtain ⟨o, h1, h2, _⟩ := p
    exact PySem.W.kia_one PySem.W.kitx_tuple I.kIn ⟨o, h1, h2⟩ e (fun z => nomatch z) h
  | @dK a kvs ea =>
    cases (show u = Value.ref a from rx)
    obtain ⟨_, _, vs, _, p⟩ := (show ObjOk X.prog X.w H s.heap a (.dK kvs) from I.hok a _ ea)
    obtain ⟨o, es, ep, h1, h2, _⟩ := p
    exact PySem.W.kia_one PySem.W.kitx_dict I.kIn ⟨o, h1, h2.1⟩ e (fun z => nomatch z) h
  | @dT a kvs ea =>
    cases (show u = Value.ref a from rx)
    obtain ⟨_, _, xs, _, o, es, ep, h1, h2, _⟩ := (show ObjOk X.prog X.w H s.heap a (.dT kvs) from I.hok a _ ea)
    exact PySem.W.kia_one PySem.W.kitx_dict I.kIn ⟨o, h1, h2.1⟩ e (fun z => nomatch z) h
  | @ins a C dx fs ea cl ha hn htk hm =>
    cases (show u = Value.ref a from rx)
    obtain ⟨mA, O, _⟩ := ins_get I.hok ea
    obtain ⟨od, J, _⟩ := O.look
    exact PySem.W.kia_one (PySem.W.kitx_own (cl.get _) cl.hd ha hn htk hm) I.kIn J e (fun z => nomatch z) h
end
end L2
namespace L2
open PySem PySem.Spec PyProof.Rows
structure Room (k : Nat) (A : Around) : Prop where
  hd : A.handled = none
  dp : A.depth + 3 * k + 5 < recursionLimit
  un : A.units + 16 * k + 200 < cLine
theorem Room.mono {j k : Nat} {A : Around} (r : Room k A) (h : j ≤ k) : Room j A := ⟨r.hd, by have := r.dp; omega, by have := r.un; omega⟩
theorem Room.deeper {k : Nat} {A : Around} (r : Room (k + 1) A) (env : Env) : Room k (A.deeper env) :=
  ⟨r.hd, by have := r.dp; show A.depth + 1 + 3 * k + 5 < _; omega, by have := r.un; show A.units + 3 + 16 * k + 200 < _; omega⟩
theorem Room.in1 {k : Nat} {A : Around} (r : Room (k + 1) A) : Room k A.in1 :=
  ⟨r.hd, by have := r.dp; show A.depth + 3 * k + 5 < _; omega, by have := r.un; show A.units + 1 + 16 * k + 200 < _; omega⟩
theorem Room.depth {k : Nat} {A : Around} (r : Room k A) : A.depth < recursionLimit := by have := r.dp; omega
theorem Room.units {k : Nat} {A : Around} (r : Room k A) : A.units + 64 < cLine := by have := r.un; omega
noncomputable def tNil : TA := fun _ H Q => Q [] H
noncomputable def tCons (ta : TE) (tr : TA) : TA := fun σ H Q => ta σ H fun x H1 => tr σ H1 fun xs H2 => Q (x :: xs) H2
section
variable {X : Cx} {e : Expr} {es : List Expr} {te : TE} {t : TA} {pos : Pos}
theorem pa_nil : PA X [] tNil := fun _ _ _ _ H Q I h => Calls.spliced_nil ⟨[], H, I, .nil, h⟩
theorem pa_cons (ha : PE X e te) (hr : PA X es t) (hs : starEach (e :: es) X.env = (false, eval e X.env) :: starEach es X.env := by rfl) : PA X (e :: es) (tCons te t) := by
  intro pos pins s σ H Q I h
  rw [hs]
  show wpAny _ _ (spliced ((false, eval e X.env) :: backTo pos (starEach es X.env))) _ _ s
  refine Calls.spliced_cons (thn (ha pins s σ H _ I h) fun u s1 ⟨x, H1, I1, r1, q1⟩ => ?_)
  exact thn (hr pos pins s1 σ H1 _ I1 q1) fun us s2 ⟨xs, H2, I2, r2, q2⟩ => ⟨x :: xs, H2, I2, .cons r1 r2, q2⟩
noncomputable def tTup (t : TA) : TE := fun σ H Q => t σ H fun xs H1 => xs.length ≤ sizeLine ∧ ∀ p, H1 p = none → Q (.ref p) (upd H1 p (.tup xs))
noncomputable def tLst (t : TA) : TE := fun σ H Q => t σ H fun xs H1 => xs.length ≤ sizeLine ∧ ∀ p, H1 p = none → Q (.ref p) (upd H1 p (.lst xs))
theorem pe_tup {x1} (h : PA X es t) : PE X (.Tuple es x1 pos) (tTup t) := by
  intro pins s σ H Q I hq
  refine wpAny_Tuple_spliced (thn (h pos pins s σ H _ I hq) fun us s1 ⟨xs, H1, I1, r, z, q⟩ => ⟨by rw [← r.length]; exact z, ?_⟩)
  have hf : H1 s1.heap.objs.size = none := I1.hok.fresh (Nat.le_refl _)
  refine ⟨.ref s1.heap.objs.size, upd H1 s1.heap.objs.size (.tup xs), I1.laid (t' := s1.toks) (fun b u e => Heap.get?_push_of_some _ e) (Nat.le_refl _) ?_, rfl, q _ hf⟩
  exact ⟨z, us, r, ⟨_, Heap.get?_push_size _ rfl, rfl, _, rfl⟩⟩
theorem pe_lst (h : PA X es t) : PE X (.List es pos) (tLst t) := by
  intro pins s σ H Q I hq
  refine wpAny_List_spliced (thn (h pos pins s σ H _ I hq) fun us s1 ⟨xs, H1, I1, r, z, q⟩ => ⟨by rw [← r.length]; exact z, ?_⟩)
  have hf : H1 s1.heap.objs.size = none := I1.hok.fresh (Nat.le_refl _)
  refine ⟨.ref s1.heap.objs.size, upd H1 s1.heap.objs.size (.lst xs), I1.laid (t' := s1.toks) (fun b u e => Heap.get?_push_of_some _ e) (Nat.le_refl _) ?_, rfl, q _ hf⟩
  exact ⟨z, us, 0, r, Heap.get?_push_size _ rfl⟩
end
noncomputable abbrev Sp := List V → Hp → VK → XK → Prop
noncomputable abbrev CXT := List Env → Hp → Shared → XK → Value → Shared → Prop
structure Env0 (P : Program) (w : World) (K : PySem.W.Frag) (mg : Str → Option Value) (base : Heap) (A : Around) (outer : List Env) (s : Shared) (H : Hp) : Prop where
  frames : A.frames = some outer
  mod : Mod K mg base
  bs : ∀ b o, base.get? b = some o → s.heap.get? b = some o ∧ H b = none
  bsz : base.objs.size ≤ s.heap.objs.size
  funs : s.heap.FunFrames base outer
  frf : ∀ b ∈ frs outer, H b = none
  hok : HOk P w H s.heap
  bare : AllBare s.gens
noncomputable def CE (outer : List Env) (P : Program) (w : World) (H : Hp) (s : Shared) (Q : VK) (u : Value) (s' : Shared) : Prop :=
  ∃ v H', s'.os = s.os ∧ AllBare s'.gens ∧ Un (frs outer) [] H H' s.heap s'.heap ∧ HOk P w H' s'.heap ∧ RelV v u ∧ Q v H'
noncomputable def CR (CX : CXT) (outer : List Env) (P : Program) (w : World) (H : Hp) (s : Shared) (Q : VK) (E : XK) (r : Result) (s' : Shared) : Prop :=
  match r with
  | .ok (.ret u) => CE outer P w H s Q u s'
  | .ok _ => False
  | .error e => CX outer H s E e s'
structure FnOk (P : Program) (w : World) (K : PySem.W.Frag) (mg : Str → Option Value) (base : Heap) (CX : CXT) (k : Nat) (f : Addr) (fd : FuncData) (ps : List Str) (sp : Sp) : Prop where
  len : ∀ vs H Q E, sp vs H Q E → vs.length = ps.length
  run : ∀ (A : Around) (outer : List Env) (s : Shared) (H : Hp) (args : Args) (us : List Value) (vs : List V) (Q : VK) (E : XK), Room k A → Env0 P w K mg base A outer s H → BindsTo s fd args (ps.zip us) → Vals vs us → sp vs H Q E →
    codeAny (model P w) A (.call (.ref f) args) (CR CX outer P w H s Q E) s
theorem FnOk.mono {P : Program} {w : World} {K : PySem.W.Frag} {mg : Str → Option Value} {base : Heap} {CX : CXT} {j k : Nat} {f : Addr} {fd : FuncData} {ps : List Str} {sp : Sp} (F : FnOk P w K mg base CX j f fd ps sp) (h : j ≤ k) :
    FnOk P w K mg base CX k f fd ps sp := ⟨F.len, fun A outer s H args us vs Q E hr => F.run A outer s H args us vs Q E (hr.mono h)⟩
theorem FnOk.imp {P : Program} {w : World} {K : PySem.W.Frag} {mg : Str → Option Value} {base : Heap} {CX : CXT} {k : Nat} {f : Addr} {fd : FuncData} {ps : List Str} {sp sp' : Sp} (F : FnOk P w K mg base CX k f fd ps sp)
    (h : ∀ vs H Q E, sp' vs H Q E → sp vs H Q E) : FnOk P w K mg base CX k f fd ps sp' :=
  ⟨fun vs H Q E q => F.len vs H Q E (h _ _ _ _ q), fun A outer s H args us vs Q E hr he hb hv hs => F.run A outer s H args us vs Q E hr he hb hv (h _ _ _ _ hs)⟩
theorem Env0.in1 {P : Program} {w : World} {K : PySem.W.Frag} {mg : Str → Option Value} {base : Heap} {A : Around} {outer : List Env} {s : Shared} {H : Hp} (e : Env0 P w K mg base A outer s H) :
    Env0 P w K mg base A.in1 outer s H := ⟨e.frames, e.mod, e.bs, e.bsz, e.funs, e.frf, e.hok, e.bare⟩
section
variable {X : Cx} {pins : List (Addr × Obj)} {σ : St} {H : Hp} {s s' : Shared}
theorem Inv.env0 (I : Inv X pins σ H s) : Env0 X.prog X.w X.K X.mg X.base X.A X.stack s H :=
  ⟨I.ok.frames, I.ok.mod, I.bs, Nat.le_trans I.ok.bsz I.sz, I.stack, I.stkFree, I.hok, I.bare⟩
theorem Inv.after {Q : VK} {u : Value} (I : Inv X pins σ H s) (h : CE X.stack X.prog X.w H s Q u s') : EP X pins σ Q u s' := by
  obtain ⟨v, H', os, bare, un, hok, r, q⟩ := h
  obtain ⟨hh, g, d, t, os'⟩ := s'
  obtain rfl : os' = s.os := os
  exact ⟨v, H', I.call (h' := hh) (g' := g) (d' := d) (t' := t) (ch := []) un hok bare (fun b z => absurd z (by simp)), r, q⟩
end
noncomputable def tCall (sp : Sp) (dvs : List V) (E : XK) (t : TA) : TE := fun σ H Q => t σ H fun vs H1 => sp (vs ++ dvs) H1 Q E
noncomputable def Binds (K : PySem.W.Frag) (fd : FuncData) (ps : List Str) (ds : List Value) : Prop :=
  ∀ (s : Shared) (us : List Value), K.In s.heap → (us ++ ds).length = ps.length → BindsTo s fd ⟨us, []⟩ (ps.zip (us ++ ds))
theorem Binds.all {K : PySem.W.Frag} {fd : FuncData} {ps : List Str} (h : ∀ us : List Value, us.length = ps.length → bindArgs fd ⟨us, []⟩ = pure (ps.zip us)) : Binds K fd ps [] := fun s us _ hl => by
  rw [List.append_nil] at hl ⊢
  exact .of_eq (h us hl)
noncomputable def Passes (CX : CXT) (X : Cx) (E : XK) : Prop := ∀ (pins : List (Addr × Obj)) (σ : St) (H : Hp) (s : Shared) (e : Value) (s' : Shared), Inv X pins σ H s → CX X.stack H s E e s' → X.xe e s'
section
variable {X : Cx} {CX : CXT} {k : Nat} {f C : Addr} {fd : FuncData} {ps : List Str} {sp : Sp} {dvs : List V} {ds : List Value} {E : XK} {x m : Str} {p pos apos : Pos} {e o : Expr} {es : List Expr} {ta : TE} {t : TA}
theorem run_fn {pins : List (Addr × Obj)} {σ : St} {H : Hp} {s : Shared} {Q : VK} {us : List Value} {vs : List V} (F : FnOk X.prog X.w X.K X.mg X.base CX k f fd ps sp) (hr : Room k X.A) (hb : Binds X.K fd ps ds) (hd : Vals dvs ds) (hx : Passes CX X E)
    (I : Inv X pins σ H s) (r : Vals vs us) (h : sp (vs ++ dvs) H Q E) : wpAny (model X.prog X.w) X.A (call (.ref f) us) (EP X pins σ Q) X.xe s := by
  have r2 : Vals (vs ++ dvs) (us ++ ds) := r.append hd
  have hl : (us ++ ds).length = ps.length := by rw [← r2.length]; exact F.len _ _ _ _ h
  refine wpAny_call (codeAny_mono (F.run X.A X.stack s H ⟨us, []⟩ (us ++ ds) (vs ++ dvs) Q E hr I.env0 (hb s us I.kIn hl) r2 h) fun r s' hq => ?_)
  cases r with
  | error e => exact hx pins σ H s e s' I hq
  | ok fl =>
    cases fl with
    | ret u => exact I.after hq
    | next => exact False.elim hq
    | brk => exact False.elim hq
    | cont => exact False.elim hq
theorem pe_call (F : FnOk X.prog X.w X.K X.mg X.base CX k f fd ps sp) (hr : Room k X.A) (hg : Gl X x) (hm : X.mg x = some (.ref f)) (hk : PySem.W.keepIn X.K (.ref f) = true) (hb : Binds X.K fd ps ds) (hd : Vals dvs ds) (hx : Passes CX X E)
    (ha : PA X (e :: es) t) (hdb : (x == ("__debug__" : Str)) = false := by decide) (he : starEach (e :: es) X.env = (false, eval e X.env) :: starEach es X.env := by rfl) (hpl : (backTo pos (starEach es X.env)).any (·.1) = false := by rfl) :
    PE X (.Call (.Name x p) (e :: es) [] pos) (tCall sp dvs E t) := by
  intro pins s σ H Q I h
  refine wpAny_Call_Name_kw (ld_glob I hg hm ?_ hdb)
  refine PySem.W.callWith_K (h₀ := X.base) I.ok.mod.kin hk (thn (ha pos pins s σ H _ I h) fun us s1 ⟨vs, H1, I1, r, q⟩ => ⟨I1.kIn, ?_⟩) he hpl
  exact run_fn F hr hb hd hx I1 r q
end
section
variable {X : Cx} {CX : CXT} {k : Nat} {f C : Addr} {fd : FuncData} {ps ks : List Str} {sp : Sp} {E : XK} {x m : Str} {p pos apos kpos : Pos} {e o : Expr} {es : List Expr} {kws : List Keyword} {te ta : TE} {t tk : TA} {nm : Option Str}
variable {g : List Value → List Value → List Value} {gV : List V → List V → List V}
end
structure FnScope (N P : List Str) (sc : Scope) : Prop where
  kind : sc.kind = .function
  co : sc.isCoroutine = false
  gen : sc.isGenerator = false
  nd : N.Nodup
  pre : N.take P.length = P
  par : ∀ x ∈ P, sc.names.lookup x = some .local ∨ sc.names.lookup x = some .cell
  nofree : ∀ y ∈ sc.names, y.2 ≠ .free
theorem bindL_out {kindOf : Str → Option NameKind} {x : Str} : ∀ {binds : List (Str × Value)} {m : Str → Option Value}, (∀ v, (x, v) ∉ binds) → bindL kindOf binds m x = m x
  | [], _, _ => rfl
  | (n, v) :: r, m, h => by
    unfold bindL
    rw [bindL_out fun w hw => h w (List.mem_cons_of_mem _ hw)]
    split
    · have : x ≠ n := by rintro rfl; exact h v List.mem_cons_self
      simp [this]
    · rfl
theorem bindC_out {kindOf : Str → Option NameKind} {x : Str} : ∀ {binds : List (Str × Value)} {m : Str → Option Value}, (∀ v, (x, v) ∉ binds) → bindC kindOf binds m x = m x
  | [], _, _ => rfl
  | (n, v) :: r, m, h => by
    unfold bindC
    rw [bindC_out fun w hw => h w (List.mem_cons_of_mem _ hw)]
    split
    · rfl
    · have : x ≠ n := by rintro rfl; exact h v List.mem_cons_self
      simp [this]
theorem bindL_get {kindOf : Str → Option NameKind} {x : Str} {v : Value} : ∀ {P : List Str} {vs : List Value} {i : Nat} {m : Str → Option Value}, P.Nodup → P[i]? = some x → vs[i]? = some v → kindOf x = some .local →
    bindL kindOf (P.zip vs) m x = some v
  | [], _, _, _, _, h, _, _ => by simp at h
  | _ :: _, [], _, _, _, _, h, _ => by simp at h
  | p :: P, w :: vs, 0, m, nd, h1, h2, hk => by
    simp at h1 h2; subst h1; subst h2
    show bindL kindOf ((p, w) :: P.zip vs) m p = _
    unfold bindL
    rw [bindL_out fun v hv => (List.nodup_cons.mp nd).1 (List.of_mem_zip hv).1, if_pos hk]
    simp
  | p :: P, w :: vs, i + 1, m, nd, h1, h2, hk => by
    show bindL kindOf ((p, w) :: P.zip vs) m x = _
    unfold bindL
    exact bindL_get (i := i) (List.nodup_cons.mp nd).2 (by simpa using h1) (by simpa using h2) hk
theorem bindC_get {kindOf : Str → Option NameKind} {x : Str} {v : Value} : ∀ {P : List Str} {vs : List Value} {i : Nat} {m : Str → Option Value}, P.Nodup → P[i]? = some x → vs[i]? = some v → kindOf x ≠ some .local →
    bindC kindOf (P.zip vs) m x = some v
  | [], _, _, _, _, h, _, _ => by simp at h
  | _ :: _, [], _, _, _, _, h, _ => by simp at h
  | p :: P, w :: vs, 0, m, nd, h1, h2, hk => by
    simp at h1 h2; subst h1; subst h2
    show bindC kindOf ((p, w) :: P.zip vs) m p = _
    unfold bindC
    rw [bindC_out fun v hv => (List.nodup_cons.mp nd).1 (List.of_mem_zip hv).1, if_neg hk]
    simp
  | p :: P, w :: vs, i + 1, m, nd, h1, h2, hk => by
    show bindC kindOf ((p, w) :: P.zip vs) m x = _
    unfold bindC
    exact bindC_get (i := i) (List.nodup_cons.mp nd).2 (by simpa using h1) (by simpa using h2) hk
noncomputable def start (N : List Str) (vs : List V) : St := vs.map some ++ List.replicate (N.length - vs.length) none
noncomputable def cxOf (CX : CXT) (P : Program) (w : World) (K : PySem.W.Frag) (mg : Str → Option Value) (base : Heap) (N : List Str) (qual : Str) (scope : Scope) (f : Addr) (cd : Value) (A : Around) (outer : List Env) (s : Shared) (H : Hp) (E : XK) : Cx where
  prog := P
  w := w
  K := K
  mg := mg
  base := base
  A := A.deeper (envOfC qual scope s.heap.objs.size f cd)
  N := N
  s₀ := s
  H₀ := H
  env := envOfC qual scope s.heap.objs.size f cd
  outer := outer
  stack := envOfC qual scope s.heap.objs.size f cd :: outer
  ex := []
  calm := true
  fn := fun _ => true
  pn := []
  xe := fun e s' => wpAny (model P w) (A.deeper (envOfC qual scope s.heap.objs.size f cd)) (leaving (envOfC qual scope s.heap.objs.size f cd) e) (fun _ s'' => CX outer H s E e s'') (fun e' s'' => CX outer H s E e' s'') s'
theorem cell_has {sc : Scope} {n : Nat} {x : Str} (h : sc.names.lookup x = some .cell) : ∃ c, (cellsFrom n sc.names []).lookup x = some c := by
  have q := PySem.W.cellsFrom_some sc.names n [] (.inl h)
  exact Option.isSome_iff_exists.mp q
theorem inv_start {CX : CXT} {P : Program} {w : World} {K : PySem.W.Frag} {mg : Str → Option Value} {base : Heap} {N ps : List Str} {qual : Str} {scope : Scope} {f : Addr} {cd : Value} {A : Around} {outer : List Env} {s s1 : Shared} {H : Hp} {E : XK} {us : List Value} {vs : List V}
    (S : FnScope N ps scope) (hd : A.handled = none) (e0 : Env0 P w K mg base A outer s H) (hl : vs.length = ps.length) (r : Vals vs us)
    (x : InCallC s s.heap.objs.size (bindL (envOfC qual scope s.heap.objs.size f cd).kindOf (ps.zip us) fun _ => none) (cellsFrom (s.heap.objs.size + 1) scope.names []) (bindC (envOfC qual scope s.heap.objs.size f cd).kindOf (ps.zip us) fun _ => none) s1) :
    Inv (cxOf CX P w K mg base N qual scope f cd A outer s H E) [] (start N vs) H s1 := by
  have hpl : ps.length ≤ N.length := by have := congrArg List.length S.pre; rw [List.length_take] at this; omega
  obtain ⟨h1, tk, rfl, hk⟩ := x.done
  have noA : ∀ b : Addr, b ∉ (cxOf CX P w K mg base N qual scope f cd A outer s H E).ex := fun b z => absurd (show b ∈ ([] : List Addr) from z) (by simp)
  refine ⟨⟨e0.mod, S.kind, rfl, rfl, Nat.le_refl _, fun y z c h1 h2 => ?_, fun y hy => ?_, fun y c _ h => ?_, fun _ => hd, Around.frames_deeper e0.frames, .inr ⟨rfl, rfl⟩, fun b z => absurd z (noA b), e0.bs, e0.bsz, fun b _ _ => noA b, fun b z => absurd z (noA b), e0.funs, e0.frf⟩,
    rfl, e0.bare, Un.kept hk, ⟨_, x.toInCall.ns, fun i y v h1 h2 h3 => ?_⟩, fun y c h => ⟨_, x.cell y c h⟩, e0.hok.fresh (Nat.le_refl _), fun y c h => ?_, fun p hp => absurd (show p ∈ ([] : List (Addr × Obj)) from hp) (by simp), e0.hok.kept hk, ?_⟩
  · exact name_of_addr x.apart (PySem.mem_of_lookup h1) (PySem.mem_of_lookup h2)
  · have hy : scope.names.lookup y = some .cell ∨ scope.names.lookup y = some .free := hy
    rcases hy with hy | hy
    · exact cell_has hy
    · exact absurd rfl (S.nofree _ (PySem.mem_of_lookup hy))
  · exact Nat.le_of_lt (x.above y c (PySem.mem_of_lookup h))
  · have hi : i < vs.length := by
      unfold start at h2
      by_cases hi : i < vs.length
      · exact hi
      · rw [List.getElem?_append_right (by simpa using hi)] at h2
        rw [List.getElem?_replicate] at h2
        split at h2 <;> cases h2
    have ha : vs[i]? = some v := by
      unfold start at h2
      rw [List.getElem?_append_left (by simpa using hi), List.getElem?_map] at h2
      cases e : vs[i]? with
      | none => rw [e] at h2; cases h2
      | some a => rw [e] at h2; cases h2; rfl
    obtain ⟨u, hu, rv⟩ := r.get ha
    have hp : ps[i]? = some y := by
      rw [← S.pre, List.getElem?_take_of_lt (by omega)]; exact h1
    have ndP : ps.Nodup := by rw [← S.pre]; exact S.nd.sublist (List.take_sublist _ _)
    refine ⟨u, rv, ?_⟩
    rcases S.par y (List.mem_of_getElem? hp) with k | k
    · exact .inl ⟨k, bindL_get ndP hp hu k⟩
    · obtain ⟨c, e⟩ := cell_has (n := s.heap.objs.size + 1) k
      refine .inr ⟨.inl k, c, e, ?_⟩
      have q := x.cell y c e
      rw [bindC_get ndP hp hu (by show scope.names.lookup y ≠ _; rw [k]; decide)] at q
      exact q
  · exact e0.hok.fresh (Nat.le_of_lt (x.above y c (PySem.mem_of_lookup h)))
  · unfold start
    show _ = N.length
    rw [List.length_append, List.length_map, List.length_replicate]
    omega
theorem fn_of {CX : CXT} {P : Program} {w : World} {K : PySem.W.Frag} {mg : Str → Option Value} {base : Heap} {k : Nat} {f : Addr} {name qual : Str} {params : Arguments} {body : List Stmt} {scope : Scope} {dV kV doc pm cdv ct oc : Value} {an od : Option Addr}
    {osl : Array (Option Value)} {N ps : List Str} {sp : Sp} (lk : K.lookup f = some ⟨oc, od, .func (PySem.W.fnOf name qual params body scope dV kV doc pm an cdv ct), osl⟩) (hcd : PySem.W.codeIn K cdv qual = true) (S : FnScope N ps scope)
    (len : ∀ vs H Q E, sp vs H Q E → vs.length = ps.length)
    (hbody : ∀ (A : Around) (outer : List Env) (s : Shared) (H : Hp) (vs : List V) (Q : VK) (E : XK), Room k (A.deeper (envOfC qual scope s.heap.objs.size f cdv)) → sp vs H Q E →
      ∃ t, PSs (cxOf CX P w K mg base N qual scope f cdv A outer s H E) body t ∧ t { nx := fun _ H' => Q .non H', rt := Q } (start N vs) H) :
    FnOk P w K mg base CX (k + 1) f (PySem.W.fnOf name qual params body scope dV kV doc pm an cdv ct) ps sp := by
  refine ⟨len, fun A outer s H args us vs Q E hr e0 hb r hsp => ?_⟩
  have hl := len _ _ _ _ hsp
  have KX : K.In s.heap := e0.mod.kin.keeps fun b o e => (e0.bs b o e).1
  have lim : s.heap.NoLimit := e0.mod.nolimit.keeps fun b o e => (e0.bs b o e).1
  have hkind : ∀ y ∈ ps.zip us, scope.names.lookup y.1 = some .local ∨ (scope.names.lookup y.1 = some .cell ∧ ((cellsFrom (s.heap.objs.size + 1) scope.names []).lookup y.1).isSome = true) := fun ⟨n, v⟩ hy => by
    rcases S.par n (List.of_mem_zip hy).1 with q | q
    · exact .inl q
    · exact .inr ⟨q, PySem.W.cellsFrom_some _ _ _ (.inl q)⟩
  refine codeAny_call_function hr.depth (KX _ _ lk) rfl S.co S.gen rfl (PySem.W.codeRec_of KX hcd) (hb _ _ _ _ ?_)
  refine wpAny_newFunctionEnv_cells S.kind hkind fun env he s1 x => ?_
  subst he
  refine ⟨lim.keeps x.toInCall.keep, codeAny_func ?_⟩
  obtain ⟨t, ht, hq⟩ := hbody A outer s H vs Q E (hr.deeper _) hsp
  have I : Inv (cxOf CX P w K mg base N qual scope f cdv A outer s H E) [] (start N vs) H s1 := inv_start S hr.hd e0 hl r x
  refine wpAny_mono (ht [] s1 (start N vs) H _ I hq) (fun fl s' hs => ?_) fun e s' hs => hs
  have fin : ∀ {σ' : St} {H' : Hp} {v : V} {u : Value}, Inv (cxOf CX P w K mg base N qual scope f cdv A outer s H E) [] σ' H' s' → RelV v u → Q v H' → CE outer P w H s Q u s' :=
    fun {σ' H' v u} J rv q => ⟨v, H', J.os, J.bare, J.base, J.hok, rv, q⟩
  cases fl with
  | ret u =>
    obtain ⟨v, σ', H', J, rv, q⟩ := hs
    exact fin J rv q
  | next =>
    obtain ⟨σ', H', J, q⟩ := hs
    exact fin (v := V.non) (u := Value.none) J rfl q
  | brk =>
    obtain ⟨_, _, _, q⟩ := hs
    exact False.elim q
  | cont =>
    obtain ⟨_, _, _, q⟩ := hs
    exact False.elim q
end L2
namespace L2
open PySem PySem.Spec PyProof.Rows
section
variable {X : Cx} {x : Str} {p pos : Pos} {e : Expr} {es : List Expr} {t : TA} {id T : String} {r : List V → Hp → VK → Prop}
noncomputable def tCB (r : List V → Hp → VK → Prop) (t : TA) : TE := fun σ H Q => t σ H fun vs H1 => r vs H1 Q
theorem pe_callB (hc : CallR X (.builtin id) r) (hg : Gl X x) (hm : X.mg x = none) (hv : bootBuiltins x = some (.builtin id)) (ha : PA X (e :: es) t) (hn : x ≠ "__name__" := by decide) (hdb : (x == ("__debug__" : Str)) = false := by decide)
    (he : starEach (e :: es) X.env = (false, eval e X.env) :: starEach es X.env := by rfl) (hpl : (backTo pos (starEach es X.env)).any (·.1) = false := by rfl) : PE X (.Call (.Name x p) (e :: es) [] pos) (tCB r t) := by
  intro pins s σ H Q I h
  refine wpAny_Call_Name_kw (ld_blt I hg hm hv ?_ hn hdb)
  exact PyProof.Rows.callWith_builtin1 (thn (ha pos pins s σ H _ I h) fun us s1 ⟨vs, H1, I1, r1, q1⟩ => hc pins s1 σ H1 vs us Q I1 r1 q1) he hpl
theorem pe_callTy (hc : CallR X (.type T) r) (hg : Gl X x) (hm : X.mg x = none) (hv : bootBuiltins x = some (.type T)) (ha : PA X (e :: es) t) (hn : x ≠ "__name__" := by decide) (hdb : (x == ("__debug__" : Str)) = false := by decide)
    (he : starEach (e :: es) X.env = (false, eval e X.env) :: starEach es X.env := by rfl) (hpl : (backTo pos (starEach es X.env)).any (·.1) = false := by rfl) : PE X (.Call (.Name x p) (e :: es) [] pos) (tCB r t) := by
  intro pins s σ H Q I h
  refine wpAny_Call_Name_kw (ld_blt I hg hm hv ?_ hn hdb)
  exact PyProof.Rows.callWith_type1 (thn (ha pos pins s σ H _ I h) fun us s1 ⟨vs, H1, I1, r1, q1⟩ => hc pins s1 σ H1 vs us Q I1 r1 q1) he hpl
end
end L2
namespace HT
open PySem PyProof.Rows
section
open PySem.SeqAt
open PySem.AutoSeq1 (wpAny_loadPart')
open PySem.MeetsSeq PySem.MeetsSeq2 PySem.MeetsSeq3
end
section
variable {prog : Program} {w : World} {A : Around} {E : Value → Shared → Prop} {s : Shared}
noncomputable def sIx (n d : Nat) : Option Int → Nat
  | none => d
  | some v => if v < 0 then (v + (n : Int)).toNat else min v.toNat n
theorem sIx_none (n d : Nat) : sIx n d none = d := rfl
theorem sIx_nat (n d k : Nat) : sIx n d (some (k : Int)) = min k n := by
  show (if (k : Int) < 0 then ((k : Int) + (n : Int)).toNat else min (k : Int).toNat n) = min k n
  rw [if_neg (by omega), Int.toNat_natCast]
theorem sIx_le (n d : Nat) (hd : d ≤ n) (o : Option Int) : sIx n d o ≤ n := by
  cases o with
  | none => exact hd
  | some v =>
    show (if v < 0 then (v + (n : Int)).toNat else min v.toNat n) ≤ n
    by_cases hv : v < 0
    · rw [if_pos hv]; omega
    · rw [if_neg hv]; exact Nat.min_le_right _ _
theorem clip_eq (v : Int) (n d : Nat) : (if v < 0 then max (v + (n : Int)) 0 else min v (n : Int)) = ((sIx n d (some v) : Nat) : Int) := by
  show (if v < 0 then max (v + (n : Int)) 0 else min v (n : Int)) = (((if v < 0 then (v + (n : Int)).toNat else min v.toNat n) : Nat) : Int)
  by_cases hv : v < 0
  · simp only [if_pos hv]; omega
  · simp only [if_neg hv]; omega
theorem adjust_gen (lo hi : Option Int) (n : Nat) : Builtin.Slice.sliceAdjust lo hi 1 (n : Int) = (((sIx n 0 lo : Nat) : Int), ((sIx n n hi : Nat) : Int)) := by
  have h1 : ¬ ((1 : Int) < 0) := by omega
  unfold Builtin.Slice.sliceAdjust
  simp only [h1, if_false]
  refine Prod.ext ?_ ?_
  · cases lo with
    | none => rfl
    | some v => exact clip_eq v n 0
  · cases hi with
    | none => rfl
    | some v => exact clip_eq v n n
theorem places_gen (i j : Nat) : Builtin.Slice.slicePlaces (i : Int) (j : Int) 1 = j - i := by
  unfold Builtin.Slice.slicePlaces
  have h1 : (1 : Int) > 0 := by omega
  simp only [h1, if_true, Int.ediv_one]
  split <;> omega
theorem slicePart_ {v : Value} {o : Option Int} {Q : Option Int → Shared → Prop} (p : IsPart v o) (h : Q o s) : wpAny (model prog w) A (Builtin.Slice.slicePartIndex v) Q E s := by
  cases p with
  | none => exact slicePart_none h
  | int i t => exact slicePart_int h
theorem sliceApplied_gen {sl : Addr} {vl vu : Value} {lo hi : Option Int} {n : Nat} {Q : Int × Int × Nat → Shared → Prop} (hs : s.heap.IsSliceOf sl vl vu .none) (pl : IsPart vl lo) (pu : IsPart vu hi)
    (h : Q (((sIx n 0 lo : Nat) : Int), 1, sIx n n hi - sIx n 0 lo) s) : wpAny (model prog w) A (Builtin.Slice.sliceApplied (.ref sl) (pure (n : Int))) Q E s := by
  obtain ⟨os, hos, hcs, hds⟩ := id hs
  unfold Builtin.Slice.sliceApplied Builtin.Slice.sliceFields
  refine wpAny_bind (wpAny_bind (wpAny_field hos hds (x := vl) rfl (wpAny_bind (wpAny_field hos hds (x := vu) rfl (wpAny_bind (wpAny_field hos hds (x := .none) rfl (wpAny_pure ?_)))))))
  refine wpAny_bind (slicePart_none ?_)
  show wpAny _ _ (if ((1 : Int) == 0) = true then _ else _) _ _ s
  rw [if_neg (by decide)]
  refine wpAny_bind (slicePart_ pl (wpAny_bind (slicePart_ pu (wpAny_bind (wpAny_pure ?_)))))
  show wpAny _ _ (match Builtin.Slice.sliceAdjust lo hi 1 (n : Int) with | (lo, hi) => pure (lo, (1 : Int), Builtin.Slice.slicePlaces lo hi 1)) _ _ s
  rw [adjust_gen lo hi n]
  show wpAny _ _ (pure (((sIx n 0 lo : Nat) : Int), (1 : Int), Builtin.Slice.slicePlaces ((sIx n 0 lo : Nat) : Int) ((sIx n n hi : Nat) : Int) 1)) _ _ s
  rw [places_gen]
  exact wpAny_pure h
theorem pick_gen (xs : Array Value) (i k : Nat) : ((List.range k).filterMap fun (m : Nat) => xs[((i : Int) + (m : Int) * 1).toNat]?).toArray = ((xs.toList.drop i).take k).toArray := by
  have e : (fun (m : Nat) => xs[((i : Int) + (m : Int) * 1).toNat]?) = fun m => xs[i + m]? := by
    funext m
    have : ((i : Int) + (m : Int) * 1).toNat = i + m := by omega
    rw [this]
  rw [e]
  have := pick_run xs i k
  rw [List.filterMap_map] at this
  have e2 : ((fun x => xs[x]?) ∘ fun x => i + x) = fun m => xs[i + m]? := rfl
  rw [e2] at this
  rw [this]
theorem getItem_tuple_cut {t sl : Addr} {items : Array Value} {vl vu : Value} {lo hi : Option Int} {Q : Value → Shared → Prop} (ht : IsTup s.heap t items) (hs : s.heap.IsSliceOf sl vl vu .none) (pl : IsPart vl lo) (pu : IsPart vu hi)
    (hw : ¬ (sIx items.size 0 lo = 0 ∧ sIx items.size items.size hi = items.size))
    (h : Q (.ref s.heap.objs.size) { s with heap := s.heap.push { cls := .type "tuple", data := .seq ((items.toList.drop (sIx items.size 0 lo)).take (sIx items.size items.size hi - sIx items.size 0 lo)).toArray } })
    (hsz : items.size ≤ sizeLine) : wpAny (model prog w) A (getItem (.ref t) (.ref sl)) Q E s := by
  have htake : sizeOk (.seq ((items.toList.drop (sIx items.size 0 lo)).take (sIx items.size items.size hi - sIx items.size 0 lo)).toArray) := by
    show ((items.toList.drop (sIx items.size 0 lo)).take (sIx items.size items.size hi - sIx items.size 0 lo)).toArray.size ≤ sizeLine
    rw [List.size_toArray, List.length_take, List.length_drop, Array.length_toList]
    omega
  have hj : sIx items.size items.size hi ≤ items.size := sIx_le _ _ (Nat.le_refl _) hi
  obtain ⟨os, hos, hcs, hds⟩ := id hs
  have hTs : s.TypeIs (.ref sl) "slice" := ⟨os, hos, hcs⟩
  unfold getItem
  try with_reducible refine wpAny_holding ?_
  first | refine wpAny_bind (wpAny_pure ?_) | skip
  refine wpAny_bind (wpAny_sequenceKey ht.typeIs (by decide) ?_)
  refine wpAny_bind (wpAny_callSpecial?_slot (name := Str.ofString "__getitem__") ht.typeIs PyProof.Rows.slot_tuple_getitem
    (wpAny_call_entry PyProof.Rows.slot_tuple_getitem ht.typeIs entry_tuple_getitem ?_ (args_tuple_getitem _ _)))
  show wpAny _ _ (Builtin.Tuple.tupleItemsOf (.ref t) >>= _) _ _ s
  refine wpAny_bind (tupleItemsOf_ ht ?_)
  refine wpAny_bind (wpAny_typeOf hTs ?_)
  rw [if_pos (by decide)]
  refine wpAny_bind (sliceApplied_gen hs pl pu ?_)
  have hno : ¬ ((((sIx items.size 0 lo : Nat) : Int) == 0 && (1 : Int) == 1 && (sIx items.size items.size hi - sIx items.size 0 lo) == items.size) = true) := by
    intro q
    rw [Bool.and_eq_true, Bool.and_eq_true] at q
    have q1 : ((sIx items.size 0 lo : Nat) : Int) = 0 := eq_of_beq q.1.1
    have q2 : sIx items.size items.size hi - sIx items.size 0 lo = items.size := eq_of_beq q.2
    exact hw ⟨by omega, by omega⟩
  show wpAny _ _ (if (((sIx items.size 0 lo : Nat) : Int) == 0 && (1 : Int) == 1 && (sIx items.size items.size hi - sIx items.size 0 lo) == items.size) = true then _ else _) _ _ s
  rw [if_neg hno, pick_gen]
  first
    | exact wpAny_bind (m := Builtin.Tuple.tupleExact _) (wpAny_newObj_type (wpAny_pure ⟨_, rfl, wpAny_pure h⟩) htake)
    | exact wpAny_bind (m := Builtin.Tuple.tupleExact _) (wpAny_newObj_type (wpAny_bind (wpAny_pure (wpAny_pure ⟨_, rfl, wpAny_pure h⟩))) htake)
    | exact wpAny_bind (wpAny_bind (m := Builtin.Tuple.tupleExact _) (wpAny_newObj_type (wpAny_pure (wpAny_pure ⟨_, rfl, wpAny_pure h⟩)) htake))
    | exact wpAny_bind (wpAny_bind (m := Builtin.Tuple.tupleExact _) (wpAny_newObj_type (wpAny_pure ⟨_, rfl, wpAny_pure h⟩) htake))
end
end HT
namespace L2
open PySem PySem.Spec PyProof.Rows
noncomputable abbrev TO := St → Hp → (Option Int → Hp → Prop) → Prop
noncomputable def PO (X : Cx) (e : Option Expr) (t : TO) : Prop :=
  ∀ (pins : List (Addr × Obj)) (s : Shared) (σ : St) (H : Hp) (Q : Option Int → Hp → Prop), Inv X pins σ H s → t σ H Q →
    wpAny (model X.prog X.w) X.A (evalPart e X.env) (fun u s' => ∃ o H', Inv X pins σ H' s' ∧ IsPart u o ∧ Q o H') X.xe s
noncomputable def tNoPart : TO := fun _ H Q => Q none H
noncomputable def tPart (t : TE) : TO := fun σ H Q => t σ H fun x H1 => ∃ i, x = .int i ∧ Q (some i) H1
section
variable {X : Cx} {e : Expr} {te : TE} {lo hi : Option Expr} {tl th : TO} {pos p2 : Pos}
theorem po_none : PO X none tNoPart := by
  intro pins s σ H Q I h
  rw [evalPart_none]
  exact wpAny_pure ⟨none, H, I, .none, h⟩
theorem po_some (h : PE X e te) : PO X (some e) (tPart te) := by
  intro pins s σ H Q I hw
  rw [evalPart_some]
  refine thn (h pins s σ H _ I hw) fun u s1 ⟨x, H1, I1, r1, q1⟩ => ?_
  obtain ⟨i, rfl, q⟩ := q1
  obtain ⟨t, rfl⟩ := r1
  exact ⟨some i, H1, I1, .int i t, q⟩
noncomputable def SlR (X : Cx) (r : V → Option Int → Option Int → Hp → VK → Prop) : Prop :=
  ∀ (pins : List (Addr × Obj)) (s : Shared) (σ : St) (H : Hp) (x : V) (v vl vu : Value) (lo hi : Option Int) (sl : Addr) (Q : VK), Inv X pins σ H s → RelV x v → s.heap.IsSliceOf sl vl vu .none → IsPart vl lo → IsPart vu hi → r x lo hi H Q →
    ∃ T id, typeLookup (.type T) "__getitem__" = pure (some (.builtin id)) ∧ s.TypeIs v T ∧ wpAny (model X.prog X.w) X.A (getItem v (.ref sl)) (EP X pins σ Q) X.xe s
noncomputable def tSl (r : V → Option Int → Option Int → Hp → VK → Prop) (te : TE) (tl th : TO) : TE := fun σ H Q => te σ H fun x H1 => tl σ H1 fun l H2 => th σ H2 fun u H3 => r x l u H3 Q
theorem pe_slice {r : V → Option Int → Option Int → Hp → VK → Prop} (hr : SlR X r) (he : PE X e te) (hl : PO X lo tl) (hu : PO X hi th) : PE X (.Subscript e (.Slice lo hi none p2) pos) (tSl r te tl th) := by
  intro pins s σ H Q I h
  refine Subscript_ (thn (he pins s σ H _ I h) fun v s1 ⟨x, H1, I1, r1, q1⟩ => ?_)
  refine wpAny_Slice (thn (hl pins s1 σ H1 _ I1 q1) fun vl s2 ⟨l, H2, I2, pl, q2⟩ => thn (hu pins s2 σ H2 _ I2 q2) fun vu s3 ⟨u, H3, I3, pu, q3⟩ => ?_)
  rw [evalPart_none]
  refine wpAny_pure ?_
  have I4 : Inv X pins σ H3 { s3 with heap := s3.heap.push { cls := .type "slice", data := .fields #[vl, vu, .none] } } := I3.kept (t' := s3.toks) fun b ob q => Heap.get?_push_of_some _ q
  obtain ⟨T, id, hT, ht, hg⟩ := hr pins { s3 with heap := s3.heap.push { cls := .type "slice", data := .fields #[vl, vu, .none] } } σ H3 x v vl vu l u s3.heap.objs.size Q I4 r1 (Heap.IsSliceOf.new ..) pl pu q3
  show wpAny (model X.prog X.w) X.A (subscriptTail e (.Slice lo hi none p2) v (.ref s3.heap.objs.size)) (EP X pins σ Q) X.xe { s3 with heap := s3.heap.push { cls := .type "slice", data := .fields #[vl, vu, .none] } }
  exact tail_any (ops := [.ref s3.heap.objs.size, v]) ht hT hg (by with_unfolding_all rfl)
noncomputable def cutV (xs : List V) (lo hi : Option Int) : List V := (xs.drop (HT.sIx xs.length 0 lo)).take (HT.sIx xs.length xs.length hi - HT.sIx xs.length 0 lo)
theorem cutV_length (xs : List V) (lo hi : Option Int) : (cutV xs lo hi).length ≤ xs.length := by
  unfold cutV
  rw [List.length_take, List.length_drop]
  omega
noncomputable def rSlT (K : PySem.W.Frag) : V → Option Int → Option Int → Hp → VK → Prop := fun x lo hi H Q => ∃ a xs, x = .ref a ∧ SqT K H a xs ∧
  ¬ (HT.sIx xs.length 0 lo = 0 ∧ HT.sIx xs.length xs.length hi = xs.length) ∧ ∀ p, H p = none → Q (.ref p) (upd H p (.tup (cutV xs lo hi)))
theorem sl_tup : SlR X (rSlT X.K) := by
  intro pins s σ H x v vl vu lo hi sl Q I rx hs pl pu h
  obtain ⟨a, xs, rfl, hx, hw, q⟩ := h
  cases rx
  obtain ⟨its, r, ht, hz⟩ := I.tuple hx
  have hlen : its.toArray.size = xs.length := by rw [List.size_toArray]; exact r.length.symm
  refine ⟨"tuple", _, PyProof.Rows.slot_tuple_getitem.lookup, ht.typeIs, ?_⟩
  refine HT.getItem_tuple_cut ht hs pl pu (by rw [hlen]; exact hw) ?_ (by rw [hlen]; exact hz)
  rw [hlen]
  refine ⟨.ref s.heap.objs.size, _, I.laid (t' := s.toks) (o := .tup (cutV xs lo hi)) (fun b ob q => Heap.get?_push_of_some _ q) (Nat.le_refl _) ?_, rfl, q _ (I.hok.fresh (Nat.le_refl _))⟩
  exact ⟨Nat.le_trans (cutV_length xs lo hi) hz, _, (r.drop (HT.sIx xs.length 0 lo)).take (HT.sIx xs.length xs.length hi - HT.sIx xs.length 0 lo), IsTup.new _ _⟩
end
end L2
namespace L2
open PySem PySem.Spec PyProof.Rows
noncomputable def ixN (n : Nat) (i : Int) : Option Nat := if 0 ≤ i then (if i < n then some i.toNat else none) else if -(n : Int) ≤ i then some (i + n).toNat else none
noncomputable def atI {α : Type} (xs : List α) (i : Int) : Option α := (ixN xs.length i).bind fun j => xs[j]?
theorem ixN_seq {n : Nat} {i : Int} {j : Nat} (h : ixN n i = some j) : seqIndex? i n = some j ∧ j < n ∧ -(n : Int) ≤ i ∧ i < n := by
  unfold ixN at h
  by_cases h0 : 0 ≤ i
  · rw [if_pos h0] at h
    by_cases h1 : i < n
    · rw [if_pos h1] at h
      have e : i.toNat = j := Option.some.inj h
      exact ⟨by rw [seqIndex_of h0 h1, e], by omega, by omega, h1⟩
    · rw [if_neg h1] at h; cases h
  · rw [if_neg h0] at h
    by_cases h1 : -(n : Int) ≤ i
    · rw [if_pos h1] at h
      have e : (i + n).toNat = j := Option.some.inj h
      exact ⟨by rw [seqIndex_neg (by omega) h1, e], by omega, h1, by omega⟩
    · rw [if_neg h1] at h; cases h
theorem atI_get {α : Type} {xs : List α} {i : Int} {v : α} (h : atI xs i = some v) : ∃ j, seqIndex? i xs.length = some j ∧ xs[j]? = some v ∧ j < xs.length ∧ -(xs.length : Int) ≤ i ∧ i < xs.length := by
  unfold atI at h
  cases e : ixN xs.length i with
  | none => rw [e] at h; cases h
  | some j =>
    rw [e] at h
    obtain ⟨h1, h2, h3, h4⟩ := ixN_seq e
    exact ⟨j, h1, h, h2, h3, h4⟩
theorem atI_nat {α : Type} {xs : List α} {j : Nat} {v : α} (h : xs[j]? = some v) : atI xs (j : Int) = some v := by
  have hj : j < xs.length := (List.getElem?_eq_some_iff.mp h).1
  have e : ixN xs.length (j : Int) = some j := by
    unfold ixN
    rw [if_pos (by omega), if_pos (by omega)]; simp
  unfold atI; rw [e]; exact h
noncomputable def PlainIx (b : Expr) : Prop := ∀ o i, subscripted b false o i = operate [o, i] (getItem o i)
noncomputable def IxR (X : Cx) (r : R2) : Prop :=
  ∀ (value slice : Expr) (pins : List (Addr × Obj)) (s : Shared) (σ : St) (H : Hp) (x y : V) (v u : Value) (Q : VK), Inv X pins σ H s → RelV x v → RelV y u → r x y H Q →
    subscripted slice false v u = operate [v, u] (getItem v u) → wpAny (model X.prog X.w) X.A (subscriptTail value slice v u) (EP X pins σ Q) X.xe s
noncomputable def MtR (X : Cx) (id : String) (r : V → List V → Hp → VK → Prop) : Prop :=
  ∀ (pins : List (Addr × Obj)) (s : Shared) (σ : St) (H : Hp) (x : V) (xs : List V) (v : Value) (us : List Value) (Q : VK), Inv X pins σ H s → RelV x v → Vals xs us → r x xs H Q →
    wpAny (model X.prog X.w) X.A (call (.builtin id) (v :: us)) (EP X pins σ Q) X.xe s
section
variable {X : Cx} {a b : Expr} {ta tb : TE} {pos : Pos}
theorem pe_ix {r : R2} (hr : IxR X r) (ha : PE X a ta) (hb : PE X b tb) (hs : PlainIx b) : PE X (.Subscript a b pos) (tOp r ta tb) := by
  intro pins s σ H Q I h
  exact Subscript_ (binT ha hb I h fun v u s2 x y H2 I2 rx ry q => hr a b pins s2 σ H2 x y v u Q I2 rx ry q (hs _ _))
noncomputable def rIxL (K : PySem.W.Frag) : R2 := fun x y H Q => ∃ p xs i v, x = .ref p ∧ y = .int i ∧ SqL K H p xs ∧ atI xs i = some v ∧ Q v H
noncomputable def rIxT (K : PySem.W.Frag) : R2 := fun x y H Q => ∃ p xs i v, x = .ref p ∧ y = .int i ∧ SqT K H p xs ∧ atI xs i = some v ∧ Q v H
noncomputable def rIxS : R2 := fun x y H Q => ∃ z i c, x = .str z ∧ y = .int i ∧ z.length ≤ sizeLine ∧ atI z.cps.toList i = some c ∧ Q (.str ⟨#[c]⟩) H
theorem ix_list : IxR X (rIxL X.K) := by
  intro value slice pins s σ H x y v u Q I rx ry h hs
  obtain ⟨p, xs, i, z, rfl, rfl, hq, he, q⟩ := h
  cases rx
  obtain ⟨t, rfl⟩ := ry
  obtain ⟨its, r, pl, hz⟩ := I.list hq
  obtain ⟨j, h1, h2, h3, h4, h5⟩ := atI_get he
  obtain ⟨w, ew, rw'⟩ := r.get h2
  have hl := r.length
  have hn := line63
  have fin : EP X pins σ Q w s := ⟨z, H, I, rw', q⟩
  by_cases h0 : 0 ≤ i
  · have hj : i.toNat = j := by
      rw [seqIndex_of h0 h5] at h1
      exact Option.some.inj h1
    exact item_listR pl.isList h0 (by omega) (by rw [hj]; simpa using ew) fin hs
  · have hj : (i + (its.toArray.size : Int)).toNat = j := by
      rw [seqIndex_neg (by omega) h4] at h1
      rw [List.size_toArray, ← hl]
      exact Option.some.inj h1
    exact subscriptTail_builtinR (x := w) pl.isList.typeIs slot_list_getitem.lookup
      (wpAny_getItem_list_neg (Q := fun r s' => r = w ∧ EP X pins σ Q r s') pl.isList (by omega) (by rw [List.size_toArray] <;> omega) (by omega) (by rw [hj]; simpa using ew) ⟨rfl, fin⟩) hs
theorem ix_tup : IxR X (rIxT X.K) := by
  intro value slice pins s σ H x y v u Q I rx ry h hs
  obtain ⟨p, xs, i, z, rfl, rfl, hq, he, q⟩ := h
  cases rx
  obtain ⟨t, rfl⟩ := ry
  obtain ⟨its, r, pl, hz⟩ := I.tuple hq
  obtain ⟨j, h1, h2, h3, h4, h5⟩ := atI_get he
  obtain ⟨w, ew, rw'⟩ := r.get h2
  have hl := r.length
  have hn := line63
  have fin : EP X pins σ Q w s := ⟨z, H, I, rw', q⟩
  exact subscriptTail_builtinR (x := w) pl.typeIs slot_tuple_getitem.lookup
    (getItem_tuple (j := j) (Q := fun r s' => r = w ∧ EP X pins σ Q r s') pl (by omega) (by omega) (by rw [List.size_toArray, ← hl]; exact h1) (by simpa using ew) ⟨rfl, fin⟩) hs
theorem ix_str : IxR X rIxS := by
  intro value slice pins s σ H x y v u Q I rx ry h hs
  obtain ⟨z, i, c, rfl, rfl, hz, he, q⟩ := h
  obtain ⟨t, rfl⟩ := rx
  obtain ⟨t', rfl⟩ := ry
  obtain ⟨j, h1, h2, h3, h4, h5⟩ := atI_get he
  have hl : z.cps.toList.length = z.length := by simp [Str.length]
  rw [hl] at h1 h4 h5
  have hn := line63
  exact tail_any (typeIs_str s z t) slot_str_getitem.lookup (getItem_str (c := c) (by
    have e1 : decide (i < -(2 ^ 63 : Int)) = false := decide_eq_false (by omega)
    have e2 : decide (i ≥ 2 ^ 63) = false := decide_eq_false (by omega)
    rw [e1, e2, Bool.or_false]) (by rw [h1]; simpa using h2) ⟨.str ⟨#[c]⟩, H, I.tok _, ⟨_, rfl⟩, q⟩) hs
theorem Inv.lst {pins : List (Addr × Obj)} {σ : St} {H : Hp} {s : Shared} {p : Addr} {xs : List V} (I : Inv X pins σ H s) (h : H p = some (.lst xs)) :
    ∃ (its : List Value) (n : Nat), Vals xs its ∧ s.heap.get? p = some { cls := .type "list", data := .seq its.toArray n } ∧ xs.length ≤ sizeLine := by
  obtain ⟨z, its, n, r, e⟩ := I.hok p _ h
  exact ⟨its, n, r, e, z⟩
theorem slice_bounds (lo hi : Option Int) (n : Nat) : (sliceBounds lo hi none n).1 = ((HT.sIx n 0 lo : Nat) : Int) ∧ (sliceBounds lo hi none n).2.1 = ((HT.sIx n n hi : Nat) : Int) ∧ (sliceBounds lo hi none n).2.2 = 1 := by
  refine ⟨?_, ?_, rfl⟩
  · cases lo with
    | none => simp [sliceBounds, HT.sIx]
    | some i =>
      simp only [sliceBounds, HT.sIx, Option.getD_none, show (1 : Int) > 0 by decide, if_true]
      by_cases h : i < 0
      · simp only [h, if_true] <;> omega
      · simp only [h, if_false] <;> omega
  · cases hi with
    | none => simp [sliceBounds, HT.sIx]
    | some i =>
      simp only [sliceBounds, HT.sIx, Option.getD_none, show (1 : Int) > 0 by decide, if_true]
      by_cases h : i < 0
      · simp only [h, if_true] <;> omega
      · simp only [h, if_false] <;> omega
theorem slicePick_cut (its : List Value) (lo hi : Option Int) : slicePick its.toArray lo hi none = ((its.drop (HT.sIx its.length 0 lo)).take (HT.sIx its.length its.length hi - HT.sIx its.length 0 lo)).toArray := by
  obtain ⟨h1, h2, h3⟩ := slice_bounds lo hi its.toArray.size
  unfold slicePick
  rw [h1, h2, h3]
  simp only [sliceRange_one, pick_run, List.size_toArray] <;> rfl
noncomputable def rSlL (K : PySem.W.Frag) : V → Option Int → Option Int → Hp → VK → Prop := fun x lo hi H Q => ∃ a xs, x = .ref a ∧ SqL K H a xs ∧ ∀ p, H p = none → Q (.ref p) (upd H p (.lst (cutV xs lo hi)))
theorem sl_list : SlR X (rSlL X.K) := by
  intro pins s σ H x v vl vu lo hi sl Q I rx hs pl pu h
  obtain ⟨a, xs, rfl, hx, q⟩ := h
  cases rx
  obtain ⟨its, r, ht, hz⟩ := I.list hx
  have hlen := r.length
  refine ⟨"list", _, slot_list_getitem.lookup, ht.isList.typeIs, ?_⟩
  refine wpAny_getItem_list_slice ht.isList hs pl pu .none (by simp) ?_ (by rw [List.size_toArray] <;> omega)
  rw [slicePick_cut, ← hlen]
  refine ⟨.ref s.heap.objs.size, _, I.laid (t' := s.toks) (o := .lst (cutV xs lo hi)) (fun b ob q => Heap.get?_push_of_some _ q) (Nat.le_refl _) ?_, rfl, q _ (I.hok.fresh (Nat.le_refl _))⟩
  exact ⟨Nat.le_trans (cutV_length xs lo hi) hz, _, 0, (r.drop (HT.sIx xs.length 0 lo)).take (HT.sIx xs.length xs.length hi - HT.sIx xs.length 0 lo), Heap.get?_push_size _ rfl⟩
theorem op_notIn_str : OpR X (compareOp .NotIn) (fun x y H Q => ∃ i j, x = .str i ∧ y = .str j ∧ Q (.bl (!(!(Builtin.Str.occurrences j i 0 j.length 1).isEmpty))) H) := by
  intro pins s σ H x y v u Q I rx ry h
  obtain ⟨i, j, rfl, rfl, q⟩ := h
  obtain ⟨t, rfl⟩ := rx
  obtain ⟨t', rfl⟩ := ry
  exact notIn_str ⟨.bl _, H, I, rfl, q⟩
theorem call_len_seq : CallR X (.builtin "len") (fun xs H Q => ∃ p ys, xs = [.ref p] ∧ (SqL X.K H p ys ∨ SqT X.K H p ys) ∧ Q (.int ys.length) H) := by
  intro pins s σ H xs us Q I r h
  obtain ⟨p, ys, rfl, hq, q⟩ := h
  obtain ⟨u, rfl, rx⟩ := vals1 r
  cases rx
  have hn := line63
  rcases hq with hq | hq
  · obtain ⟨its, r', pl, hz⟩ := I.list hq
    have hlen := r'.length
    exact Calls.call_len_list pl.isList (by simp only [List.size_toArray] <;> omega) ⟨.int ys.length, H, I.tok _, ⟨s.toks + 1, by rw [List.size_toArray, hlen]⟩, q⟩
  · obtain ⟨its, r', pl, hz⟩ := I.tuple hq
    have hlen := r'.length
    exact len_tuple pl (by simp only [List.size_toArray] <;> omega) ⟨.int ys.length, H, I.tok _, ⟨s.toks + 1, by rw [List.size_toArray, hlen]⟩, q⟩
theorem call_len_str : CallR X (.builtin "len") (fun xs H Q => ∃ z, xs = [.str z] ∧ z.length ≤ sizeLine ∧ Q (.int z.length) H) := by
  intro pins s σ H xs us Q I r h
  obtain ⟨z, rfl, hz, q⟩ := h
  obtain ⟨u, rfl, t, rfl⟩ := vals1 r
  have hn := line63
  exact len_str (by omega) ⟨.int z.length, H, I.tok _, ⟨_, rfl⟩, q⟩
noncomputable def tyV (K : PySem.W.Frag) (T : String) (x : V) (H : Hp) : Prop := match x with
  | .str _ => T = "str"
  | .int _ => T = "int"
  | .ref p => (T = "list" ∧ ∃ xs, SqL K H p xs) ∨ (T = "tuple" ∧ ∃ o, K.lookup p = some o ∧ o.cls = .type "tuple" ∧ o.dict = none) ∨
      (T = "dict" ∧ ((∃ kvs, H p = some (.dK kvs)) ∨ ∃ kvs, H p = some (.dT kvs))) ∨ (T = "set" ∧ ∃ S n, H p = some (.set S n))
  | _ => False
theorem tyV_is {pins : List (Addr × Obj)} {σ : St} {H : Hp} {s : Shared} {T : String} {x : V} {v : Value} (I : Inv X pins σ H s) (r : RelV x v) (ty : tyV X.K T x H) :
    s.TypeIs v T ∧ ∀ a, v = .ref a → ∃ ob, s.heap.get? a = some ob ∧ ob.dict = none := by
  cases x with
  | str z =>
    obtain ⟨t, rfl⟩ := r
    cases (show T = "str" from ty)
    exact ⟨typeIs_str s z t, fun _ e => nomatch e⟩
  | int i =>
    obtain ⟨t, rfl⟩ := r
    cases (show T = "int" from ty)
    exact ⟨typeIs_int s i t, fun _ e => nomatch e⟩
  | ref p =>
    cases r
    rcases ty with ⟨rfl, xs, hq⟩ | ⟨rfl, o, hk, hc, hd⟩ | ⟨rfl, hk⟩ | ⟨rfl, S, n, hk⟩
    · obtain ⟨its, _, pl, _⟩ := I.list hq
      refine ⟨pl.isList.typeIs, fun a e => ?_⟩
      cases e
      obtain ⟨o, n, e, c, hd, _⟩ := pl
      exact ⟨o, e, hd⟩
    · refine ⟨⟨o, I.kIn p o hk, hc⟩, fun a e => ?_⟩
      cases e
      exact ⟨o, I.kIn _ o hk, hd⟩
    · have z : ∃ o, s.heap.get? p = some o ∧ o.ExactDict := by
        rcases hk with ⟨kvs, hk⟩ | ⟨kvs, hk⟩
        · obtain ⟨_, _, _, _, o, _, _, e, ex, _⟩ := I.hok p _ hk
          exact ⟨o, e, ex⟩
        · obtain ⟨_, _, _, _, o, _, _, e, ex, _⟩ := I.hok p _ hk
          exact ⟨o, e, ex⟩
      obtain ⟨o, e, ex⟩ := z
      refine ⟨⟨o, e, ex.1⟩, fun a e2 => ?_⟩
      cases e2
      exact ⟨o, e, ex.2.1⟩
    · obtain ⟨o, _, _, _, e, ex, _⟩ := I.hok p _ hk
      refine ⟨⟨o, e, ex.1⟩, fun a e2 => ?_⟩
      cases e2
      exact ⟨o, e, ex.2.1⟩
  | _ => exact False.elim ty
noncomputable def tBM0 (K : PySem.W.Frag) (T : String) (r : V → List V → Hp → VK → Prop) (to : TE) : TE := fun σ H Q => to σ H fun x H1 => tyV K T x H1 ∧ r x [] H1 Q
noncomputable def tBM (K : PySem.W.Frag) (T : String) (r : V → List V → Hp → VK → Prop) (to : TE) (t : TA) : TE := fun σ H Q => to σ H fun x H1 => tyV K T x H1 ∧ t σ H1 fun xs H2 => r x xs H2 Q
variable {o e : Expr} {es : List Expr} {to : TE} {t : TA} {name : Str} {apos cpos : Pos} {T id : String} {r : V → List V → Hp → VK → Prop}
theorem pe_bm0 (pa : PlainAttrs T) (slot : Slot T name id) (hty : typeOf (.builtin id) = pure (.type "method_descriptor")) (hm : MtR X id r) (ho : PE X o to)
    (hbase : attributeBase o name X.env (eval o X.env) = eval o X.env := by rfl) (hline : (apos.endLine == cpos.line) = true := by rfl) : PE X (.Call (.Attribute o name apos) [] [] cpos) (tBM0 X.K T r to) := by
  intro pins s σ H Q I h
  refine wpAny_Call_method0_late hbase hline (thn (ho pins s σ H _ I h) fun v s1 ⟨x, H1, I1, r1, ty, q1⟩ => ?_)
  obtain ⟨h1, h2⟩ := tyV_is I1 r1 ty
  exact ⟨T, id, pa, slot, hty, h1, h2, Calls.callWith_builtin rfl (PySem.evalArgs_none (hm pins s1 σ H1 x [] v [] Q I1 r1 .nil q1))⟩
theorem pe_bm (pa : PlainAttrs T) (slot : Slot T name id) (hty : typeOf (.builtin id) = pure (.type "method_descriptor")) (hm : MtR X id r) (ho : PE X o to) (ha : PA X (e :: es) t)
    (hbase : attributeBase o name X.env (eval o X.env) = eval o X.env := by rfl)
    (hfew : ((backTo cpos (starEach (e :: es) X.env)).all (fun x => !x.1) && (backToKw cpos (keywordEach [] X.env)).all (fun x => x.1.isSome)
      && decide ((e :: es).length + ([] : List Keyword).length + (if ([] : List Keyword).isEmpty then 0 else 1) < 30)) = true := by rfl)
    (hline : (apos.endLine == cpos.line) = true := by rfl) (hs : starEach (e :: es) X.env = (false, eval e X.env) :: starEach es X.env := by rfl) (hplain : (backTo cpos (starEach es X.env)).any (·.1) = false := by rfl) :
    PE X (.Call (.Attribute o name apos) (e :: es) [] cpos) (tBM X.K T r to t) := by
  intro pins s σ H Q I h
  refine wpAny_Call_method_late hbase hfew hline rfl (thn (ho pins s σ H _ I h) fun v s1 ⟨x, H1, I1, r1, ty, q1⟩ => ?_)
  obtain ⟨h1, h2⟩ := tyV_is I1 r1 ty
  refine ⟨T, id, pa, slot, hty, h1, h2, ?_⟩
  have hA := ha cpos pins s1 σ H1 _ I1 q1
  rw [hs] at hA ⊢
  refine Calls.callWith_builtin (by show (false || (backTo cpos (starEach es X.env)).any (·.1)) = false; rw [hplain] <;> rfl) (Calls.evalArgs_plain ?_)
  exact thn hA fun us s2 ⟨vs, H2, I2, r2, q2⟩ => hm pins s2 σ H2 x vs v us Q I2 r1 r2 q2
/- xs.append(e), list.index on a module's tuple .. are MtR facts of 06m -/
end
end L2
namespace L2
open PySem PySem.Spec PyProof.Rows
noncomputable def MtM (X : Cx) (id : String) (r : V → List V → Hp → VK → Prop) : Prop :=
  ∀ (pins : List (Addr × Obj)) (s : Shared) (σ : St) (H : Hp) (x : V) (xs : List V) (v : Value) (us : List Value) (Q : VK), Inv X pins σ H s → RelV x v → Vals xs us → r x xs H Q →
    wpAny (model X.prog X.w) X.A (call (.builtin id) (v :: us)) (EP X pins σ Q) X.xe s
theorem Vals.one {x : V} {us : List Value} (h : Vals [x] us) : ∃ u, us = [u] ∧ RelV x u := by
  cases h with
  | cons r t => cases t; exact ⟨_, rfl, r⟩
theorem Vals.zero : ∀ {us : List Value}, Vals [] us → us = []
  | _, .nil => rfl
theorem Vals.rep {xs : List V} {us : List Value} (h : Vals xs us) : ∀ k : Nat, Vals (List.replicate k xs).flatten (List.replicate k us).flatten
  | 0 => .nil
  | k + 1 => by
    rw [List.replicate_succ, List.replicate_succ, List.flatten_cons, List.flatten_cons]
    exact Vals.append h (Vals.rep h k)
theorem foldl_rep (its : List Value) : ∀ (k : Nat) (acc : List Value),
    List.foldl (fun x1 x2 => x1 ++ x2) acc.toArray (List.replicate k its.toArray) = (acc ++ (List.replicate k its).flatten).toArray
  | 0, acc => by simp
  | k + 1, acc => by
    have e : acc.toArray ++ its.toArray = (acc ++ its).toArray := by simp
    have e2 : (acc ++ its) ++ (List.replicate k its).flatten = acc ++ (List.replicate (k + 1) its).flatten := by
      rw [List.replicate_succ, List.flatten_cons, List.append_assoc]
    rw [← e2, ← foldl_rep its k (acc ++ its), ← e, List.replicate_succ, List.foldl_cons]
section
variable {X : Cx} {pins : List (Addr × Obj)} {σ : St} {H : Hp} {s : Shared} {l b : Addr} {xs ys zs : List V}
theorem Inv.lset {its its' : List Value} {n : Nat} {f : Array Value → Array Value} {t' : Nat} (I : Inv X pins σ H s) (hH : H l = some (.lst xs))
    (e : s.heap.get? l = some { cls := .type "list", data := .seq its.toArray n }) (hf : f its.toArray = its'.toArray) (hv : Vals ys its') (hz : ys.length ≤ sizeLine) :
    Inv X pins σ (upd H l (.lst ys)) { s with heap := s.heap.update l (Obj.mapSeq f), toks := t' } := by
  have q := PySem.IsL.update e f
  rw [hf] at q
  refine I.write (x := l) (e := l) (by rw [hH]; exact trivial) (.inl rfl) (fun b' u hb hu => (Heap.get?_update_other s.heap (Obj.mapSeq f) (Ne.symm hb)).trans hu) ⟨_, q⟩ ?_
  exact ⟨hz, its', _, hv, q⟩
theorem Inv.lnew {its : List Value} {t' : Nat} (I : Inv X pins σ H s) (hv : Vals ys its) (hz : ys.length ≤ sizeLine) :
    Inv X pins σ (upd H s.heap.objs.size (.lst ys)) { s with heap := s.heap.push { cls := .type "list", data := .seq its.toArray }, toks := t' } :=
  I.laid (fun _ _ q => Heap.get?_push_of_some _ q) (Nat.le_refl _) ⟨hz, its, 0, hv, Heap.get?_push_size _ rfl⟩
theorem Inv.fresh (I : Inv X pins σ H s) : H s.heap.objs.size = none := I.hok.fresh (Nat.le_refl _)
theorem Inv.lstM (I : Inv X pins σ H s) (hH : H l = some (.lst xs)) : xs.length ≤ sizeLine ∧ ∃ (its : List Value) (n : Nat), Vals xs its ∧ xs.length = its.length ∧ s.heap.get? l = some { cls := .type "list", data := .seq its.toArray n } := by
  obtain ⟨z, its, n, r, e⟩ := I.hok l _ hH
  exact ⟨z, its, n, r, r.length, e⟩
theorem notLongL {n : Nat} (h : n ≤ sizeLine) : Builtin.List.listTooLong n = false := by
  unfold Builtin.List.listTooLong
  exact decide_eq_false (by omega)
end
section
variable {X : Cx}
noncomputable def rAppend : V → List V → Hp → VK → Prop := fun x vs H Q => ∃ l xs y, x = .ref l ∧ vs = [y] ∧ H l = some (.lst xs) ∧ xs.length < sizeLine ∧ Q .non (upd H l (.lst (xs ++ [y])))
theorem mt_append : MtM X "list.append" rAppend := by
  intro pins s σ H x vs v us Q I rx rv h
  obtain ⟨l, xs, y, rfl, rfl, hH, hz, q⟩ := h
  cases rx
  obtain ⟨u, rfl, ru⟩ := rv.one
  obtain ⟨z, its, n, r, hl, e⟩ := I.lstM hH
  refine call_meets F.slot_list_append ⟨_, e, rfl⟩ F.entry_list_append (F.args_list_append_2 _ _) (PySem.list_append l its.toArray n u (by rw [List.size_toArray]; omega)) ⟨e, ?_⟩
  refine ⟨.non, _, I.lset (its' := its ++ [u]) hH e (by simp) (r.append (.cons ru .nil)) ?_, rfl, q⟩
  rw [List.length_append, List.length_singleton]
  omega
noncomputable def rClear : V → List V → Hp → VK → Prop := fun x vs H Q => ∃ l xs, x = .ref l ∧ vs = [] ∧ H l = some (.lst xs) ∧ Q .non (upd H l (.lst []))
theorem mt_clear : MtM X "list.clear" rClear := by
  intro pins s σ H x vs v us Q I rx rv h
  obtain ⟨l, xs, rfl, rfl, hH, q⟩ := h
  cases rx
  have hus := rv.zero
  subst hus
  obtain ⟨z, its, n, r, hl, e⟩ := I.lstM hH
  refine call_meets F.slot_list_clear ⟨_, e, rfl⟩ F.entry_list_clear (F.args_list_clear_1 _) (AutoSeq1.list_clear_list_0 l its.toArray n (by rw [List.size_toArray]; omega)) ⟨e, ?_⟩
  exact ⟨.non, _, I.lset (its' := []) (ys := []) hH e rfl .nil (Nat.zero_le _), rfl, q⟩
noncomputable def rCat : R2 := fun x y H Q => ∃ l b xs zs, x = .ref l ∧ y = .ref b ∧ H l = some (.lst xs) ∧ H b = some (.lst zs) ∧ xs.length + zs.length ≤ sizeLine ∧ ∀ p, H p = none → Q (.ref p) (upd H p (.lst (xs ++ zs)))
theorem op_cat : OpR X (binaryOp .Add) rCat := by
  intro pins s σ H x y v u Q I rx ry h
  obtain ⟨l, b, xs, zs, rfl, rfl, hH, hB, hz, q⟩ := h
  cases rx
  cases ry
  obtain ⟨z, its, n, r, hl, e⟩ := I.lstM hH
  obtain ⟨z2, its2, n2, r2, hl2, e2⟩ := I.lstM hB
  refine PySem.P.add_list e e2 ?_ (by rw [List.size_toArray, List.size_toArray]; omega)
  have ea : its.toArray ++ its2.toArray = (its ++ its2).toArray := by simp
  rw [ea]
  exact ⟨.ref _, _, I.lnew (t' := s.toks) (r.append r2) (by rw [List.length_append]; omega), rfl, q _ I.fresh⟩
noncomputable def rRep : R2 := fun x y H Q => ∃ l k xs, x = .ref l ∧ y = .int k ∧ H l = some (.lst xs) ∧ -(2 ^ 63) ≤ k ∧ k < 2 ^ 63 ∧ xs.length * k.toNat ≤ sizeLine ∧
  ∀ p, H p = none → Q (.ref p) (upd H p (.lst (List.replicate k.toNat xs).flatten))
theorem len_rep {α : Type} (xs : List α) (k : Nat) : (List.replicate k xs).flatten.length = k * xs.length := by
  induction k with
  | zero => simp
  | succ k ih => rw [List.replicate_succ, List.flatten_cons, List.length_append, ih, Nat.succ_mul, Nat.add_comm]
theorem op_rep : OpR X (binaryOp .Mult) rRep := by
  intro pins s σ H x y v u Q I rx ry h
  obtain ⟨l, k, xs, rfl, rfl, hH, h1, h2, hz, q⟩ := h
  cases rx
  obtain ⟨t, rfl⟩ := ry
  obtain ⟨z, its, n, r, hl, e⟩ := I.lstM hH
  have hlen : its.toArray.size * k.toNat ≤ sizeLine := by rw [List.size_toArray, ← hl]; exact hz
  have hcap : ¬ its.toArray.size * k.toNat > (2 ^ 63 - 1) / 8 := by
    have : (sizeLine : Nat) ≤ (2 ^ 63 - 1) / 8 := by decide
    omega
  have hfit : ¬ (!Builtin.List.listFitsIndex k) = true := by
    rw [fitsIndex_both h1 h2]
    exact Bool.false_ne_true
  have hlong : ¬ Builtin.List.listTooLong (its.toArray.size * k.toNat) = true := by
    rw [notLongL hlen]
    exact Bool.false_ne_true
  have hnew : List.foldl (fun x1 x2 => x1 ++ x2) #[] (List.replicate (if its.toArray.isEmpty = true then 0 else k.toNat) its.toArray) = (List.replicate k.toNat its).flatten.toArray := by
    have f0 : ∀ m : Nat, List.foldl (fun x1 x2 => x1 ++ x2) #[] (List.replicate m its.toArray) = (List.replicate m its).flatten.toArray := fun m => by
      have := foldl_rep its m []
      rw [List.nil_append] at this
      exact this
    rw [f0]
    cases its with
    | nil => simp
    | cons a r' => rw [if_neg (by simp)]
  refine wpAny_binaryOp_repeat_ref (T := "list") (U := "int") (by decide) ⟨_, e, rfl⟩ (fun s' => typeIs_int s' k t) noFill_list_mul F.fills_int_mul F.slot_int_rmul repeat_list F.slot_int_index.lookup
    (call_meets F.slot_int_rmul (typeIs_int s k t) F.entry_int_rmul (F.args_int_rmul_2 _ _) (int___rmul___int_list k t l its.toArray n)
      ⟨e, rfl, ⟨_, e, rfl⟩, call_meets F.slot_list_mul ⟨_, e, rfl⟩ F.entry_list_mul (F.args_list_mul_2 _ _) (AutoListH.list___mul___list_int_3 l its.toArray n k t hfit hcap hlong) ⟨e, ?_⟩⟩)
  rw [hnew]
  exact ⟨.ref _, _, I.lnew (t' := s.toks) (r.rep k.toNat) (by rw [len_rep, Nat.mul_comm]; exact hz), rfl, q _ I.fresh⟩
end
section
variable {prog : Program} {w : World} {A : Around} {E : Value → Shared → Prop} {s : Shared}
set_option maxRecDepth 100000 in
end
section
variable {X : Cx}
end
end L2
namespace Att
open PySem PySem.W PySem.Calls PyProof.Rows
theorem ints_of_wellAll {P : Params} {h : Heap} : ∀ (ns : List Int) (vs : List Value), WellAll P h vs (ns.map WData.int) → IntsAre vs ns := by
  intro ns
  induction ns with
  | nil =>
    intro vs w
    rw [List.map_nil] at w
    cases w
    exact .nil
  | cons n ns ih =>
    intro vs w
    rw [List.map_cons] at w
    cases w with
    | cons a b =>
      cases a
      exact .cons _ _ (ih _ b)
theorem script_of {l : OpenLaw} {n : Nat} (hn : l.most = some n) {P : Params} {h : Heap} {args : List WData} {vals : List Value}
    (hpre : l.row.toRowW.claim.pre args = true) (hwl : WellAll P h vals args) :
    ∃ a vs ns, vals = [Value.ref a] ∧ args = [WData.list (ns.map WData.int)] ∧ h.get? a = some { cls := .type "list", data := .seq vs.toArray } ∧ IntsAre vs ns ∧ ns.length ≤ n := by
  have hsh : WShape.hasAll [] args [.list .int] = true := (pre_splitW hpre).1
  have hc : l.pre.holds [] { args := args } = true := (pre_splitW hpre).2
  obtain ⟨d, r, rfl, h1, h2⟩ := hasAllW_cons hsh
  obtain rfl := hasAllW_nil h2
  obtain ⟨xs, rfl, h3⟩ := hasW_list h1
  obtain ⟨ns, rfl⟩ := items_int h3
  have hlen : ns.length ≤ n := by
    unfold OpenLaw.pre at hc
    have h4 : (WTm.not (.lt (.lit (.int (n : Int))) (.len (.arg 0)))).holds [] { args := [.list (ns.map .int)] } = true := by
      have h4 := (holds_andW hc).1
      rw [hn] at h4
      exact h4
    have h5 := condW_of h4 (w_not (w_lt w_lit (w_len_list (w_arg rfl))))
    rw [List.length_map] at h5
    refine Nat.le_of_not_lt fun q => ?_
    have q' : (n : Int) < ((ns.length : Nat) : Int) := by omega
    first
      | (rw [decide_eq_true q'] at h5; exact absurd h5 (by decide))
      | (simp at h5; omega)
  cases hwl with
  | cons w1 w2 =>
    cases w2
    cases w1 with
    | list ho hall => exact ⟨_, _, ns, rfl, rfl, ho, ints_of_wellAll ns _ hall, hlen⟩
theorem post_true (l : OpenLaw) (args : List WData) : l.row.toRowW.claim.post args (.bool true) args = true :=
  postW_of (r := l.row.toRowW) (X := (true == true))
    (show WShape.has [] (.bool true) .bool = true by first | rfl | decide | simp [WShape.has, WShape.arms, WShape.armsAll])
    (show (WTm.eq .res (.lit (.bool true))).value [] { args := args, res := some (.bool true), after := args } = some (.bool (true == true)) from w_eq_bool (w_res rfl) w_lit) rfl
theorem attach_call {l : OpenLaw} {n : Nat} {q : Program} {loose : List Str} {XP : (Str → Option Value) → Heap → Prop} {YP : World → Heap → Prop} {d : DefRec}
    (hn : l.most = some n) (hdf : d.params.defaults = [])
    (call : ∀ (w : World) (s₀ s₁ : Shared) (mg mb : Str → Option Value) (fa : Addr) (o : Obj) (pm cd doc : Value) (a : Addr) (vs : List Value) (ns : List Int),
      Ground q loose [] XP w s₀ mg mb s₁.heap → YP w s₁.heap →
      s₁.heap.get? fa = some o → o.data = .func (docDef d.name d.params d.body d.scope pm cd doc) → s₁.heap.CodeRec cd d.name → mg d.name = some (.ref fa) →
      s₁.heap.get? a = some { cls := .type "list", data := .seq vs.toArray } → IntsAre vs ns → ns.length ≤ n → s₁.gens = #[] →
      codeAny (model l.prog w) callerA (.call (.ref fa) ⟨[.ref a], []⟩) (fun r s' => r = .ok (.ret (.bool true)) ∧ OldK s₁.heap s'.heap ∧ s'.os = s₁.os ∧ AllBare s'.gens) s₁) :
    WalkO q loose XP YP l.row.toRowW d [] (fun f vs => PySem.call f vs) := by
  intro w s₀ s₁ mg mb G Y fa o pm cd doc dV kV ho hd hcd hD hmg hg args vals as hpre hlay hrd hwl hlo
  obtain rfl : dV = .none := Dflts.none hD hdf
  obtain rfl : kV = .none := Dflts.noKw hD
  obtain ⟨a, vs, ns, rfl, rfl, hobj, hints, hlen⟩ := script_of hn hpre hwl
  refine enter_call (codeAny_mono (call w s₀ s₁ mg mb fa o pm cd doc a vs ns G Y ho (fd_plain hd) hcd hmg hobj hints hlen hg) fun r s' hq => ?_)
  obtain ⟨rfl, h2, h3, h4⟩ := hq
  exact ⟨.inl ⟨.bool true, .bool true, [], rfl, fun _ => rfl, .bool true, post_true l _, fun _ => ⟨List.Pairwise.nil, fun _ hm => (nomatch hm)⟩⟩, h2, h3, h4⟩
section
variable {prog : Program} {w : World} {A : Around} {E : Value → Shared → Prop} {s : Shared} {K : Frag}
end
end Att
namespace L2
open PySem PySem.Spec PyProof.Rows
theorem vals_ints : ∀ {vs : List Value} {ns : List Int}, IntsAre vs ns → Vals (ns.map V.int) vs
  | _, _, .nil => .nil
  | _, _, .cons n t h => .cons ⟨t, rfl⟩ (vals_ints h)
noncomputable def Only (H : Hp) : Prop := ∀ b, H b = none ∨ ∃ o xs, H b = some (.frz o (.lst xs))
theorem law_call {P : Program} {w : World} {K : PySem.W.Frag} {mg mb : Str → Option Value} {CX : CXT} {k : Nat} {fa a : Addr} {fd : FuncData} {x : Str} {sp : Sp} {s₁ : Shared} {vs : List Value} {ns : List Int}
    (KX : K.In s₁.heap) (hns : s₁.heap.Ns mainGlobals mg) (hb : s₁.heap.Ns builtinsNs mb) (hbb : ∀ x : Str, x ≠ "__name__" → mb x = bootBuiltins x) (hlim : s₁.heap.NoLimit) (hg : s₁.gens = #[])
    (ha : s₁.heap.get? a = some { cls := .type "list", data := .seq vs.toArray }) (hi : IntsAre vs ns) (hl : ns.length ≤ sizeLine) (hr : Room k callerA)
    (F : ∀ base : Heap, K.In base → base.Ns mainGlobals mg → FnOk P w K mg base CX k fa fd [x] sp) (hbind : ∀ (s : Shared) (u : Value), BindsTo s fd ⟨[u], []⟩ [(x, u)])
    (hsp : ∀ H : Hp, Only H → SqL K H a (ns.map V.int) → sp [.ref a] H (fun v _ => v = .bl true) fun _ _ _ => False)
    (hCX : ∀ H e s', CX [] H s₁ (fun _ _ _ => False) e s' → False) :
    codeAny (model P w) callerA (.call (.ref fa) ⟨[.ref a], []⟩) (fun r s' => r = .ok (.ret (.bool true)) ∧ OldK s₁.heap s'.heap ∧ s'.os = s₁.os ∧ AllBare s'.gens) s₁ := by
  have rv := vals_ints hi
  have lenV := hi.length
  -- from an abstract heap in which nothing but the script may be tracked
  have core : ∀ H : Hp, Only H → SqL K H a (ns.map V.int) → HOk P w H s₁.heap → (∀ b, H b ≠ none → b = a) → (H a ≠ none → K.lookup a = none) →
      codeAny (model P w) callerA (.call (.ref fa) ⟨[.ref a], []⟩) (fun r s' => r = .ok (.ret (.bool true)) ∧ OldK s₁.heap s'.heap ∧ s'.os = s₁.os ∧ AllBare s'.gens) s₁ := by
    intro H hO hS hok hA hK
    have base_of : ∀ {b : Addr} {o : Obj}, s₁.heap.get? b = some o → H b = none → (hidT s₁.heap H).get? b = some o := fun e n => hidT_get e n
    have noA : ∀ {b : Addr} {o : Obj} {es : Array DictEntry} {ep : Nat}, s₁.heap.get? b = some o → o.data = .dict es ep → H b = none := fun {b o es ep} e d => by
      cases q : H b with
      | none => rfl
      | some u =>
        have e' : b = a := hA b (by rw [q]; simp)
        subst e'
        rw [ha] at e; cases e
        have d' : Data.seq vs.toArray _ = Data.dict es ep := d
        cases d'
    have nsK : ∀ {b : Addr} {m : Str → Option Value}, s₁.heap.Ns b m → (hidT s₁.heap H).Ns b m := fun {b m} ⟨o, es, ep, e, d, r⟩ => ⟨o, es, ep, base_of e (noA e d), d, r⟩
    have hKb : K.In (hidT s₁.heap H) := fun b o e => base_of (KX b o e) (by
      cases q : H b with
      | none => rfl
      | some u =>
        have e' : b = a := hA b (by rw [q]; simp)
        subst e'
        rw [hK (by rw [q]; simp)] at e; cases e)
    have hM : Mod K mg (hidT s₁.heap H) := ⟨hKb, nsK hns, ⟨mb, nsK hb, hbb⟩, let ⟨mc, h1, h2⟩ := hlim; ⟨mc, nsK h1, h2⟩⟩
    have e0 : Env0 P w K mg (hidT s₁.heap H) callerA [] s₁ H := ⟨rfl, hM, fun b o e => of_hidT e, Nat.le_of_eq (hidT_size _ _), trivial, fun b hb => absurd (show b ∈ ([] : List Addr) from hb) (by simp), hok, .of_eq hg⟩
    refine codeAny_mono ((F _ hKb (nsK hns)).run callerA [] s₁ H ⟨[.ref a], []⟩ [.ref a] [.ref a] _ _ hr e0 (hbind s₁ (.ref a)) (.cons rfl .nil) (hsp H hO hS)) fun r s' h => ?_
    cases r with
    | error e => exact (hCX H e s' h).elim
    | ok fl =>
      cases fl with
      | next => exact False.elim h
      | brk => exact False.elim h
      | cont => exact False.elim h
      | ret u =>
        obtain ⟨v, H', os, bare, un, hok', r', q⟩ := h
        have q' : v = .bl true := q
        subst q'
        obtain rfl : u = Value.bool true := r'
        refine ⟨rfl, OldK.of_keep fun b o e => ?_, os, bare⟩
        cases q : H b with
        | none => exact un.keep b o e q (by intro z; exact absurd (show b ∈ ([] : List Addr) from z) (by simp)) (by simp)
        | some u =>
          rcases hO b with z | ⟨ob, xs, z⟩
          · rw [q] at z; cases z
          · have z2 := un.frzs b ob _ z
            obtain ⟨e1, _⟩ := hok b _ z
            obtain ⟨e2, _⟩ := hok' b _ z2
            rw [e] at e1; cases e1
            exact e2
  cases hk : K.lookup a with
  | some o =>
    -- the script is one of the module's own objects
    have e := KX a o hk
    rw [ha] at e
    cases e
    refine core (fun _ => none) (fun _ => .inl rfl) (.inr ⟨_, vs.toArray, _, hk, rfl, rfl, rfl, by rw [List.size_toArray, lenV]; exact hl, by simpa using rv⟩) (fun b u z => by have z' : (none : Option HO) = some u := z; cases z') (fun b z => absurd rfl z) fun z => absurd rfl z
  | none =>
    refine core (fun b => if b = a then some (.frz { cls := .type "list", data := .seq vs.toArray } (.lst (ns.map V.int))) else none) (fun b => ?_) (.inl (.inr ⟨{ cls := .type "list", data := .seq vs.toArray }, if_pos rfl⟩)) (fun b u z => ?_) (fun b z => ?_) fun _ => hk
    · by_cases hb : b = a
      · exact .inr ⟨_, _, if_pos hb⟩
      · exact .inl (if_neg hb)
    · by_cases hb : b = a
      · have z' := (if_pos hb).symm.trans z
        cases z'
        subst hb
        exact ⟨ha, by rw [List.length_map]; exact hl, vs, _, rv, ha⟩
      · have z' := (if_neg hb).symm.trans z
        cases z'
    · by_cases hb : b = a
      · exact hb
      · exact absurd (if_neg hb) z
end L2
namespace L2
open PySem PySem.Spec PyProof.Rows
noncomputable abbrev KOf {K : PySem.W.Frag} {h : Heap} (_ : K.In h) : PySem.W.Frag := K
theorem walk_of {l : PySem.W.OpenLaw} {n k : Nat} {q : Program} {loose : List Str} {XP : (Str → Option Value) → Heap → Prop} {YP : World → Heap → Prop} {d : DefRec} {K : Params → PySem.W.Frag} {CX : World → CXT} {sp : World → Sp} {x : Str}
    (hn : l.most = some n) (hn2 : n ≤ sizeLine) (hdf : d.params.defaults = []) (hr : Room k callerA)
    (hY : ∀ (w : World) (h : Heap), YP w h → (K w.params).In h)
    (F : ∀ (w : World) (mg : Str → Option Value) (fa : Addr) (h : Heap), (K w.params).In h → h.Ns mainGlobals mg → mg d.name = some (.ref fa) →
      ∃ fd : FuncData, (∀ (s : Shared) (u : Value), BindsTo s fd ⟨[u], []⟩ [(x, u)]) ∧
        ∀ base : Heap, (K w.params).In base → base.Ns mainGlobals mg → FnOk l.prog w (K w.params) mg base (CX w) k fa fd [x] (sp w))
    (hsp : ∀ (w : World) (H : Hp) (a : Addr) (ns : List Int), ns.length ≤ n → Only H → SqL (K w.params) H a (ns.map V.int) → sp w [.ref a] H (fun v _ => v = .bl true) fun _ _ _ => False)
    (hCX : ∀ (w : World) (H : Hp) (s : Shared) (e : Value) (s' : Shared), CX w [] H s (fun _ _ _ => False) e s' → False) :
    PySem.W.WalkO q loose XP YP l.row.toRowW d [] (fun f vs => PySem.call f vs) := by
  refine Att.attach_call hn hdf fun w s₀ s₁ mg mb fa o pm cd doc a vs ns G Y ho hd hcd hmg hobj hints hlen hg => ?_
  have KX := hY w _ Y
  obtain ⟨fd, hb, hF⟩ := F w mg fa _ KX G.T.g hmg
  exact law_call KX G.T.g G.T.b G.T.builtins G.T.nolimit hg hobj hints (Nat.le_trans hlen hn2) hr hF hb (fun H hO hS => hsp w H a ns hlen hO hS) fun H e s' => hCX w H s₁ e s'
end L2
namespace L2
open PySem PySem.Spec PyProof.Rows
noncomputable def defArgs (s : Stmt) : Arguments := match s with
  | .FunctionDef _ a _ _ _ _ _ _ _ _ => a
  | _ => { posonlyargs := [], args := [], vararg := none, kwonlyargs := [], kw_defaults := [], kwarg := none, defaults := [] }
noncomputable def defBody (s : Stmt) : List Stmt := match s with
  | .FunctionDef _ _ b _ _ _ _ _ _ _ => b
  | _ => []
noncomputable def defScope (s : Stmt) : Scope := match s with
  | .FunctionDef _ _ _ _ _ _ sc _ _ _ => sc
  | _ => { kind := .function, names := [], isGenerator := false, isCoroutine := false }
noncomputable abbrev CX0 : CXT := fun _ _ _ _ _ _ => False
noncomputable abbrev E0 : XK := fun _ _ _ => False
theorem pass0 {X : Cx} : Passes CX0 X E0 := fun _ _ _ _ _ _ _ h => h.elim
structure Fun (K : PySem.W.Frag) (x qual : Str) (st : Stmt) (f : Addr) (fd : FuncData) : Prop where
  ex : ∃ (oc : Value) (od : Option Addr) (kV doc pm : Value) (an : Option Addr) (cdv ct : Value) (osl : Array (Option Value)),
    fd = PySem.W.fnOf x qual (defArgs st) (defBody st) (defScope st) .none kV doc pm an cdv ct ∧ K.lookup f = some ⟨oc, od, .func fd, osl⟩ ∧ PySem.W.codeIn K cdv qual = true
  kp : PySem.W.keepIn K (.ref f) = true
section
variable {P : Program} {w : World} {K : PySem.W.Frag} {mg : Str → Option Value} {base : Heap}
theorem Fun.ok {x qual : Str} {st : Stmt} {f : Addr} {fd : FuncData} {N ps : List Str} {k : Nat} {sp : Sp} (F : Fun K x qual st f fd) (S : FnScope N ps (defScope st)) (len : ∀ vs H Q E, sp vs H Q E → vs.length = ps.length)
    (hbody : ∀ (cdv : Value) (A : Around) (outer : List Env) (s : Shared) (H : Hp) (vs : List V) (Q : VK) (E : XK), Room k (A.deeper (envOfC qual (defScope st) s.heap.objs.size f cdv)) → sp vs H Q E →
      ∃ t, PSs (cxOf CX0 P w K mg base N qual (defScope st) f cdv A outer s H E).nox (defBody st) t ∧ t { nx := fun _ H' => Q .non H', rt := Q } (start N vs) H) : FnOk P w K mg base CX0 (k + 1) f fd ps sp := by
  obtain ⟨oc, od, kV, doc, pm, an, cdv, ct, osl, rfl, lk, hcd⟩ := F.ex
  refine fn_of lk hcd S len fun A outer s H vs Q E hr hsp => ?_
  obtain ⟨t, h, q⟩ := hbody cdv A outer s H vs Q E hr hsp
  exact ⟨t, h.nox, q⟩
theorem Fun.binds {x qual : Str} {st : Stmt} {f : Addr} {fd : FuncData} {ps : List Str} (F : Fun K x qual st f fd)
    (h : ∀ (kV doc pm : Value) (an : Option Addr) (cdv ct : Value) (us : List Value), us.length = ps.length → bindArgs (PySem.W.fnOf x qual (defArgs st) (defBody st) (defScope st) .none kV doc pm an cdv ct) ⟨us, []⟩ = pure (ps.zip us)) : Binds K fd ps [] := by
  obtain ⟨oc, od, kV, doc, pm, an, cdv, ct, osl, rfl, lk, hcd⟩ := F.ex
  exact .all (h kV doc pm an cdv ct)
theorem fun_mk {x qual : Str} {st : Stmt} {f : Addr} {oc : Value} {od an : Option Addr} {osl : Array (Option Value)} {kV doc pm cdv ct : Value} (l : K.lookup f = some ⟨oc, od, .func (PySem.W.fnOf x qual (defArgs st) (defBody st) (defScope st) .none kV doc pm an cdv ct), osl⟩)
    (c : PySem.W.codeIn K cdv qual = true) (k : PySem.W.keepIn K (.ref f) = true) : Fun K x qual st f (PySem.W.fnOf x qual (defArgs st) (defBody st) (defScope st) .none kV doc pm an cdv ct) := ⟨⟨oc, od, kV, doc, pm, an, cdv, ct, osl, rfl, l, c⟩, k⟩
end
section
variable {X : Cx}
theorem pv (i : Nat) {x : Str} {pos : Pos} (hN : X.N[i]? = some x := by rfl) (hv : Vis X.env.scope x := by first | exact Or.inl rfl | exact Or.inr (Or.inl rfl) | exact Or.inr (Or.inr rfl)) (hd : (x == ("__debug__" : Str)) = false := by decide)
    (hcd : (x == ("__classdict__" : Str)) = false := by decide) : PE X (.Name x pos) (tVar i) := pe_var hN hv hd hcd
end
theorem iteF {A B : Prop} (h : B) : if false = true then A else B := by
  rw [if_neg Bool.false_ne_true]
  exact h
theorem iteT {A B : Prop} (h : A) : if true = true then A else B := by
  rw [if_pos rfl]
  exact h
theorem ite2 {c A B : Prop} [Decidable c] (h1 : c → A) (h2 : ¬ c → B) : if c then A else B := by
  by_cases h : c
  · rw [if_pos h]
    exact h1 h
  · rw [if_neg h]
    exact h2 h
noncomputable def Same (H H' : Hp) : Prop := ∀ b o, H b = some o → H' b = some o
theorem Same.refl (H : Hp) : Same H H := fun _ _ h => h
theorem Same.trans {H H1 H2 : Hp} (a : Same H H1) (b : Same H1 H2) : Same H H2 := fun c o h => b c o (a c o h)
theorem Same.free {H H' : Hp} (e : Same H H') {l : Addr} (h : H' l = Option.none) : H l = Option.none := by
  cases q : H l with
  | none => rfl
  | some o =>
    rw [e l o q] at h
    cases h
theorem Same.seq {K : PySem.W.Frag} {H H' : Hp} {a : Addr} {xs : List V} (e : Same H H') (h : SqL K H a xs) : SqL K H' a xs := by
  rcases h with (h | ⟨o, h⟩) | h
  · exact .inl (.inl (e _ _ h))
  · exact .inl (.inr ⟨o, e _ _ h⟩)
  · exact .inr h
end L2
set_option maxRecDepth 100000
set_option maxHeartbeats 4000000
namespace L2
open PySem PySem.Spec PyProof.Rows
section
variable {X : Cx}
theorem mt_lower : MtR X "str.lower" (fun x xs H Q => ∃ z, x = .str z ∧ xs = [] ∧ z.length ≤ 5592405 ∧ Q (.str (Txt.lower z)) H) := by
  intro pins s σ H x xs v us Q I rx rs h
  obtain ⟨z, rfl, rfl, hz, q⟩ := h
  obtain ⟨t, rfl⟩ := rx
  cases rs
  exact SCL.lower hz fun _ => ⟨.str _, H, I.tok _, ⟨_, rfl⟩, q⟩
theorem mt_upper : MtR X "str.upper" (fun x xs H Q => ∃ z, x = .str z ∧ xs = [] ∧ z.length ≤ 5592405 ∧ Q (.str (Txt.upper z)) H) := by
  intro pins s σ H x xs v us Q I rx rs h
  obtain ⟨z, rfl, rfl, hz, q⟩ := h
  obtain ⟨t, rfl⟩ := rx
  cases rs
  exact SCL.upper hz fun _ => ⟨.str _, H, I.tok _, ⟨_, rfl⟩, q⟩
theorem mt_strip : MtR X "str.strip" (fun x xs H Q => ∃ z, x = .str z ∧ xs = [] ∧ z.length ≤ sizeLine ∧ Q (.str (Txt.strip z)) H) := by
  intro pins s σ H x xs v us Q I rx rs h
  obtain ⟨z, rfl, rfl, hz, q⟩ := h
  obtain ⟨t, rfl⟩ := rx
  cases rs
  exact SCL.strip (fun t' k _ => ⟨.str _, H, I.tok _, ⟨_, rfl⟩, q⟩) hz
theorem mt_sindex (hc : X.calm = true) : MtR X "str.index" (fun x xs H Q => ∃ z y, x = .str z ∧ xs = [.str y] ∧ (Builtin.Str.occurrences z y 0 z.length 1).isEmpty = false ∧ Q (.int (Txt.find z y)) H) := by
  intro pins s σ H x xs v us Q I rx rs h
  obtain ⟨z, y, rfl, rfl, hz, q⟩ := h
  obtain ⟨t, rfl⟩ := rx
  obtain ⟨u, rfl, t', rfl⟩ := vals1 rs
  refine index_or (I.ok.hd hc) (fun _ e => ?_) fun _ _ => ⟨.int _, H, I.tok _, ⟨_, rfl⟩, q⟩
  rw [hz] at e
  cases e
theorem strsAre_of : ∀ {ys : List Str} {us : List Value}, Vals (ys.map V.str) us → StrsAre us ys
  | [], _, .nil => .nil
  | y :: ys, _, .cons r t => by
    obtain ⟨k, e⟩ := (show ∃ k, _ = Value.str y k from r)
    subst e
    exact .cons y k (strsAre_of t)
theorem mt_join : MtR X "str.join" (fun x xs H Q => ∃ z p ys, x = .str z ∧ xs = [.ref p] ∧ SqL X.K H p (ys.map V.str) ∧ (ys.map (·.length)).sum + ys.length * z.length ≤ 16777216 ∧ Q (.str (Txt.join z ys)) H) := by
  intro pins s σ H x xs v us Q I rx rs h
  obtain ⟨z, p, ys, rfl, rfl, hq, hz, q⟩ := h
  obtain ⟨t, rfl⟩ := rx
  obtain ⟨u, rfl, r1⟩ := vals1 rs
  cases r1
  obtain ⟨its, r, pl, _⟩ := I.list hq
  exact join_list pl.isList (by simpa using strsAre_of r) hz fun t' k => ⟨.str _, H, I.tok _, ⟨_, rfl⟩, q⟩
noncomputable def rSlS : V → Option Int → Option Int → Hp → VK → Prop := fun x lo hi H Q => ∃ z, x = .str z ∧ z.length ≤ sizeLine ∧ Q (.str (Txt.slice z lo hi)) H
theorem sl_str : SlR X rSlS := by
  intro pins s σ H x v vl vu lo hi sl Q I rx hs pl pu h
  obtain ⟨z, rfl, hz, q⟩ := h
  obtain ⟨t, rfl⟩ := rx
  refine ⟨"str", _, PySem.F.slot_str_getitem.lookup, typeIs_str _ _ _, ?_⟩
  cases pl with
  | none =>
    cases pu with
    | none => exact wpAny_getItem_str_slice (l := none) (u := none) (st := none) hs rfl (post_val_or_str ⟨Nat.le_trans (Txt.slice_le z _ _) hz, fun t' k => ⟨.str (Txt.slice z none none), H, I.tok _, ⟨_, rfl⟩, q⟩⟩)
    | int j tj => exact wpAny_getItem_str_slice (l := none) (u := some (j, tj)) (st := none) hs rfl (post_val_or_str ⟨Nat.le_trans (Txt.slice_le z _ _) hz, fun t' k => ⟨.str (Txt.slice z none (some j)), H, I.tok _, ⟨_, rfl⟩, q⟩⟩)
  | int i ti =>
    cases pu with
    | none => exact wpAny_getItem_str_slice (l := some (i, ti)) (u := none) (st := none) hs rfl (post_val_or_str ⟨Nat.le_trans (Txt.slice_le z _ _) hz, fun t' k => ⟨.str (Txt.slice z (some i) none), H, I.tok _, ⟨_, rfl⟩, q⟩⟩)
    | int j tj => exact wpAny_getItem_str_slice (l := some (i, ti)) (u := some (j, tj)) (st := none) hs rfl (post_val_or_str ⟨Nat.le_trans (Txt.slice_le z _ _) hz, fun t' k => ⟨.str (Txt.slice z (some i) (some j)), H, I.tok _, ⟨_, rfl⟩, q⟩⟩)
theorem op_mul_str : OpR X (binaryOp .Mult) (fun x y H Q => ∃ z n, x = .str z ∧ y = .int n ∧ MulOk z n ∧ Q (.str (Txt.mul z n)) H) := by
  intro pins s σ H x y v u Q I rx ry h
  obtain ⟨z, n, rfl, rfl, hz, q⟩ := h
  obtain ⟨t, rfl⟩ := rx
  obtain ⟨t', rfl⟩ := ry
  exact SB.mul hz fun t' k => ⟨.str _, H, I.tok _, ⟨_, rfl⟩, q⟩
theorem op_le_str : OpR X (compareOp .LtE) (fun x y H Q => ∃ i j, x = .str i ∧ y = .str j ∧ Q (.bl (!(decide (j.cps.toList < i.cps.toList)))) H) := by
  intro pins s σ H x y v u Q I rx ry h
  obtain ⟨i, j, rfl, rfl, q⟩ := h
  obtain ⟨t, rfl⟩ := rx
  obtain ⟨t', rfl⟩ := ry
  exact PySem.P.le_str ⟨.bl _, H, I, rfl, q⟩
mutual
inductive DtV (K : PySem.W.Frag) (H : Hp) : V → PyData → Prop
  | non : DtV K H .non .none
  | bl (b : Bool) : DtV K H (.bl b) (.bool b)
  | int (i : Int) : DtV K H (.int i) (.int i)
  | str (x : Str) : DtV K H (.str x) (.str x)
  | lst {a : Addr} {xs : List V} {ds : List PyData} : SqL K H a xs → DtVs K H xs ds → DtV K H (.ref a) (.list ds)
  | tup {a : Addr} {xs : List V} {ds : List PyData} : SqT K H a xs → DtVs K H xs ds → DtV K H (.ref a) (.tuple ds)
inductive DtVs (K : PySem.W.Frag) (H : Hp) : List V → List PyData → Prop
  | nil : DtVs K H [] []
  | cons {x : V} {xs : List V} {d : PyData} {ds : List PyData} : DtV K H x d → DtVs K H xs ds → DtVs K H (x :: xs) (d :: ds)
end
mutual
theorem DtV.reads {pins : List (Addr × Obj)} {σ : St} {H : Hp} {s : Shared} (I : Inv X pins σ H s) : ∀ {x : V} {d : PyData} {u : Value}, DtV X.K H x d → RelV x u → ∃ as, Reads s.heap u d as
  | _, _, _, .non, r => by cases r; exact ⟨_, .none⟩
  | _, _, _, .bl b, r => by cases r; exact ⟨_, .bool b⟩
  | _, _, _, .int i, r => by obtain ⟨t, rfl⟩ := r; exact ⟨_, .int i t⟩
  | _, _, _, .str x, r => by obtain ⟨t, rfl⟩ := r; exact ⟨_, .str x t⟩
  | _, _, _, .lst hq hs, r => by
    cases r
    obtain ⟨its, rv, ⟨o, n, e, c, _, d⟩, _⟩ := I.list hq
    obtain ⟨as, ra⟩ := DtVs.reads I hs rv
    exact ⟨_, .list e c d (by simpa using ra)⟩
  | _, _, _, .tup hq hs, r => by
    cases r
    obtain ⟨its, rv, ⟨o, e, c, n, d⟩, _⟩ := I.tuple hq
    obtain ⟨as, ra⟩ := DtVs.reads I hs rv
    exact ⟨_, .tuple e c d (by simpa using ra)⟩
theorem DtVs.reads {pins : List (Addr × Obj)} {σ : St} {H : Hp} {s : Shared} (I : Inv X pins σ H s) : ∀ {xs : List V} {ds : List PyData} {us : List Value}, DtVs X.K H xs ds → Vals xs us → ∃ as, ReadsAll s.heap us ds as
  | _, _, _, .nil, .nil => ⟨_, .nil⟩
  | _, _, _, .cons h hs, .cons r rs => by
    obtain ⟨as, ra⟩ := DtV.reads I h r
    obtain ⟨bs, rb⟩ := DtVs.reads I hs rs
    exact ⟨_, .cons ra rb⟩
end
noncomputable def rEqD (X : Cx) : R2 := fun x y H Q => ∃ dx dy, DtV X.K H x dx ∧ DtV X.K H y dy ∧ dx.canLay0 = true ∧ dy.canLay0 = true ∧ min dx.depth dy.depth ≤ 100 ∧ Q (.bl (PyData.eqv dx dy)) H
noncomputable def rNeD (X : Cx) : R2 := fun x y H Q => ∃ dx dy, DtV X.K H x dx ∧ DtV X.K H y dy ∧ dx.canLay0 = true ∧ dy.canLay0 = true ∧ min dx.depth dy.depth ≤ 100 ∧ Q (.bl (!PyData.eqv dx dy)) H
theorem op_eqD (hu : X.A.units + 100 < cLine) : OpR X (compareOp .Eq) (rEqD X) := by
  intro pins s σ H x y v u Q I rx ry h
  obtain ⟨dx, dy, hx, hy, lx, ly, hd, q⟩ := h
  obtain ⟨as, ra⟩ := hx.reads I rx
  obtain ⟨bs, rb⟩ := hy.reads I ry
  exact SeqAt.compareEq_reads ra rb lx ly (by (clear ly lx; omega)) ⟨.bl _, H, I, rfl, q⟩
theorem op_neD (hu : X.A.units + 100 < cLine) : OpR X (compareOp .NotEq) (rNeD X) := by
  intro pins s σ H x y v u Q I rx ry h
  obtain ⟨dx, dy, hx, hy, lx, ly, hd, q⟩ := h
  obtain ⟨as, ra⟩ := hx.reads I rx
  obtain ⟨bs, rb⟩ := hy.reads I ry
  exact SeqAt.compareNe_reads ra rb lx ly (by (clear ly lx; omega)) ⟨.bl _, H, I, rfl, q⟩
theorem boolsAre_get : ∀ {bs : List Bool} {us : List Value}, Vals (bs.map V.bl) us → ∀ (i : Nat) (v : Value), us[i]? = some v → ∃ b, bs[i]? = some b ∧ v = .bool b
  | [], _, .nil, i, v, h => by simp at h
  | b :: bs, _, .cons r t, 0, v, h => by
    have r' : _ = Value.bool b := r
    subst r'
    simp at h
    exact ⟨b, by simp, h.symm⟩
  | b :: bs, _, .cons r t, i + 1, v, h => by
    obtain ⟨c, e1, e2⟩ := boolsAre_get t i v (by simpa using h)
    exact ⟨c, by simpa using e1, e2⟩
theorem call_all_bools (hc : X.calm = true) : CallR X (.builtin "all") (fun xs H Q => ∃ (p : Addr) (bs : List Bool), xs = [.ref p] ∧ SqL X.K H p (bs.map V.bl) ∧ Q (.bl (bs.all id)) H) := by
  intro pins s σ H xs us Q I r h
  obtain ⟨p, bs, rfl, hq, q⟩ := h
  obtain ⟨u, rfl, rx⟩ := vals1 r
  cases rx
  obtain ⟨its, rv, pl, hz⟩ := I.list hq
  have hl := pl.isList
  have hlen := rv.length
  rw [List.length_map] at hlen
  have hlt : p < s.heap.objs.size := by obtain ⟨_, e, _⟩ := hl; exact Heap.lt_size e
  refine call_all_walk (wpAny_pyIter_list hl ?_)
  refine ⟨s.heap.objs.size, [s.heap.objs.size, p], [s.heap.objs.size], its.toArray.size, _, _, fun i => (bs[i]?).getD true, rfl, Walks.list (A := X.A.in1) (I.ok.hd hc) _ p (Nat.ne_of_lt hlt) its.toArray,
    ⟨⟨_, Heap.get?_push_size _ rfl, rfl, rfl⟩, hl.push _⟩, fun i v s' Q' E' hP hQ => ?_, fun h' tk hk => ?_⟩
  · obtain ⟨b, e, rfl⟩ := boolsAre_get rv i v (by simpa using hP)
    simp only [e, Option.getD_some] at hQ
    exact wpAny_truthy_bool hQ
  · have e : ((List.range its.toArray.size).all fun i => (bs[i]?).getD true) = bs.all id := by
      rw [List.size_toArray, ← hlen]; exact LSm.range_all bs
    rw [e]
    exact ⟨.bl _, H, I.kept (LSm.kept_iter hk), rfl, q⟩
theorem call_isi : CallR X (.builtin "isinstance") (fun xs H Q => ∃ x c t b, xs = [x, c] ∧ TyOf X.K H x t ∧
    ((∃ n, c = .ty n ∧ PySem.W.kitOne X.K t (.type n) = some b) ∨ (∃ C, c = .ref C ∧ PySem.W.kitOne X.K t (.ref C) = some b)) ∧ Q (.bl b) H) := by
  intro pins s σ H xs us Q I r h
  obtain ⟨x, c, t, b, rfl, ty, hc, q⟩ := h
  obtain ⟨u, w', rfl, rx, rc⟩ := vals2 r
  rcases hc with ⟨n, rfl, e⟩ | ⟨C, rfl, e⟩
  · cases rc
    exact isinst_ok I rx ty e fun tk => ⟨.bl b, H, I.tok tk, rfl, q⟩
  · cases rc
    exact isinst_ok I rx ty e fun tk => ⟨.bl b, H, I.tok tk, rfl, q⟩
end
end L2
set_option maxRecDepth 100000
set_option maxHeartbeats 4000000
namespace L2
open PySem PySem.Spec PyProof.Rows
section
variable {X : Cx} {pins : List (Addr × Obj)} {σ : St} {H H' : Hp} {s : Shared} {h' : Heap}
theorem Inv.track {a : Addr} {o : HO} (I : Inv X pins σ H s) (hs : X.s₀.heap.get? a = none ∨ a ∈ X.ex) (hn : H a = none) (hL : a ≠ X.env.locals) (hC : ∀ x c, X.env.cells.lookup x = some c → c ≠ a) (hp : ∀ p ∈ X.pn ++ pins, p.1 ≠ a)
    (new : ObjOk X.prog X.w (upd H a o) s.heap a o) : Inv X pins σ (upd H a o) s := by
  refine ⟨I.ok, I.os, I.bare, ⟨I.base.keep, I.base.slot, fun b ob e n hx => ?_, I.base.there, fun b xs e => ?_, fun b ob u e => ?_, fun b ps e => ?_⟩, I.loc, I.cell, ?_, fun x c e => ?_, fun p hp' => ?_, fun b u e => ?_, I.len⟩
  · have hb : b ≠ a := by
      rintro rfl
      rcases hs with z | z
      · rw [z] at e; cases e
      · exact hx z
    rw [upd_ne hb]
    exact I.base.free b ob e n hx
  · have q := I.base.tups b xs e
    rw [upd_ne (ne_of_none q hn)]; exact q
  · have q := I.base.frzs b ob u e
    rw [upd_ne (ne_of_none q hn)]; exact q
  · obtain ⟨m, q⟩ := I.base.tbls b ps e
    exact ⟨m, by rw [upd_ne (ne_of_none q hn)]; exact q⟩
  · rw [upd_ne (Ne.symm hL)]; exact I.free
  · rw [upd_ne (hC x c e)]; exact I.freeC x c e
  · obtain ⟨e, n, r⟩ := I.pin p hp'
    exact ⟨e, by rw [upd_ne (hp p hp')]; exact n, r⟩
  · by_cases hb : b = a
    · subst hb; rw [upd_same] at e; cases e; exact new
    · rw [upd_ne hb] at e
      exact (I.hok b u e).stay (fun c v _ q => q) (fun c q => by rw [upd_ne (ne_of_none q hn)]; exact q) fun c xs q => by rw [upd_ne (ne_of_none q hn)]; exact q
theorem Inv.turnedL {t' : Nat} {fp : List Addr} (I : Inv X pins σ H s) (k : ∀ b o, b ∉ fp → s.heap.get? b = some o → h'.get? b = some o) (hf : ∀ b ∈ fp, FpOk X pins H b) : Inv X pins σ H { s with heap := h', toks := t' } := by
  have nit : ∀ b u, H b = some u → b ∉ fp := fun b u e z => by rw [(hf b z).1] at e; cases e
  refine I.step (g' := s.gens) (d' := s.drawn) (ch := fp) (fun b hb => ?_) (fun b o _ _ hc e _ => k b o hc e) (fun b o _ _ hc e _ => ⟨o.slots, k b o hc e⟩) (fun _ _ _ _ n => n)
    (fun b o hc e => ⟨o, k b o hc e⟩) (fun _ _ e => e) (fun _ _ _ e => e) (fun b ps e => ⟨#[], by rw [e]; simp⟩) (fun m hm => ?_) (fun b u e => ?_) I.bare
  · obtain ⟨f0, f1, f2, f3, f4, f5⟩ := hf b hb
    exact ⟨f3, f1, f4, f5⟩
  · obtain ⟨o, es, ep, ho, r⟩ := hm
    exact ⟨o, es, ep, k _ o (fun z => (hf _ z).2.1 rfl) ho, r⟩
  · refine (I.hok b u e).stay (fun c v hc q => k c v ?_ q) (fun _ q => q) fun _ _ q => q
    rcases hc with z | z
    · rw [z]; exact nit b u e
    · exact nit c _ z
end
noncomputable def Its (x : Str) : It := ⟨fun i _ => i < x.cps.size, fun i H v H' => H' = H ∧ ∃ c, x.cps[i]? = some c ∧ v = .str ⟨#[c]⟩, fun i _ => i = x.cps.size⟩
theorem strWalks {P : Program} {w : World} {A : Around} (hh : A.handled = none) (I : Addr) (x : Str) (t : Tok) : Walks P w A I [I] [I] x.cps.size (SignAt x) (fun i h => h.IsStrIter I (strIterType x) x t i) := by
  unfold strIterType
  cases x.cps.all (· < 128)
  · exact Walks.strWide hh I x t
  · exact Walks.strAscii hh I x t
theorem strIter_not {x : Str} : ["enumerate", "zip", "dict_itemiterator", "dict_reverseitemiterator", "odict_iterator", "itertools.zip_longest", "itertools.pairwise"].contains (strIterType x) = false := by
  unfold strIterType
  cases x.cps.all (· < 128) <;> decide
theorem turn_str {P : Program} {w : World} {K : PySem.W.Frag} {tg : Expr} (x : Str) (t : Tok) (it : Addr) : Turn P w K tg (Its x) [it] it (fun i h => h.IsStrIter it (strIterType x) x t i) where
  mem := by simp
  obj := fun i h st b hb => by
    have e : b = it := by simpa using hb
    subst e
    obtain ⟨o, e, c, d⟩ := st
    exact ⟨o, e, fun v z => by rw [d] at z; cases z⟩
  keep := fun i h h' st k => by
    obtain ⟨o, e, r⟩ := st
    exact ⟨o, k it (by simp) o e, r⟩
  item := by
    intro X hP hw hK hc i pins s σ H E I hf st hg
    subst hP hw hK
    refine (strWalks (P := X.prog) (w := X.w) (I.ok.hd hc) it x t).item i s _ _ hg st fun v h' tk hv st' kk => ?_
    obtain ⟨c, u, hc', rfl⟩ := hv
    have I1 : Inv X pins σ H { s with heap := h', toks := tk } := I.turnedL kk hf
    obtain ⟨o, e, c2, d⟩ := id st'
    exact ⟨_, rfl, go_of (s := { s with heap := h', toks := tk }) e c2 d strIter_not ⟨.str ⟨#[c]⟩, H, I1, ⟨u, rfl⟩, ⟨rfl, c, hc', rfl⟩, st', fun b hb => (hf b hb).1⟩⟩
  done := by
    intro X hP hw hK hc i pins s σ H E I hf st hg
    subst hP hw hK
    have hg' : i = x.cps.size := hg
    subst hg'
    exact (strWalks (P := X.prog) (w := X.w) (I.ok.hd hc) it x t).done s _ _ st fun h' tk kk => ⟨rfl, I.turnedL kk hf⟩
  self := fun A i s Q E st h => by
    revert st
    unfold strIterType
    cases x.cps.all (· < 128)
    · exact fun st => wpAny_pyIter_striter_wide st h
    · exact fun st => wpAny_pyIter_striter_ascii st h
noncomputable def iStr (tl : TE) : TI := fun σ H R => tl σ H fun v H1 => ∃ x, v = .str x ∧ R (Its x) H1
section
variable {X : Cx} {tg : Expr}
theorem pi_str {l : Expr} {tl : TE} (hl : PE X l tl) : PI X tg l (iStr tl) := by
  intro pins s σ H R I h
  refine thn (hl pins s σ H _ I h) fun v s1 ⟨y, H1, I1, r1, x, e, q⟩ => ?_
  subst e
  obtain ⟨t, rfl⟩ := r1
  refine wpAny_pyIter_strU ?_
  refine ⟨s1.heap.objs.size, [s1.heap.objs.size], _, _, H1, rfl, I1.kept (t' := s1.toks) fun b o e => Heap.get?_push_of_some _ e, turn_str x t _, ⟨_, Heap.get?_push_size _ rfl, rfl, rfl⟩, fun b hb => ?_, q⟩
  have e : b = s1.heap.objs.size := by simpa using hb
  subst e
  exact I1.fpOk (Nat.le_refl _) (I1.hok.fresh (Nat.le_refl _))
end
theorem strDraws {P : Program} {w : World} {A : Around} (hh : A.handled = none) (it : Addr) (x : Str) (t : Tok) :
    Draws P w A it [it] x.cps.size (fun i v => ∃ c u, x.cps[i]? = some c ∧ v = .str ⟨#[c]⟩ u) (fun i h => h.IsStrIter it (strIterType x) x t i) := by
  unfold strIterType
  cases x.cps.all (· < 128)
  · exact Draws.strWide hh it x t
  · exact Draws.strAscii hh it x t
noncomputable def Ite (x : Str) : It := ⟨fun i _ => i < x.cps.size, fun i H v H' => ∃ T c, H T = none ∧ x.cps[i]? = some c ∧ v = .ref T ∧ H' = upd H T (.tup [.int i, .str ⟨#[c]⟩]), fun i _ => i = x.cps.size⟩
theorem turn_enum {P : Program} {w : World} {K : PySem.W.Frag} {elts : List Expr} {k : Nat} {pos : Pos} (x : Str) (t : Tok) (e it : Addr) (hei : e ≠ it) :
    Turn P w K (.Tuple elts k pos) (Ite x) [e, it] e (fun i h => (∃ old, IsEnum h e it i old) ∧ h.IsStrIter it (strIterType x) x t i) where
  mem := by simp
  obj := fun i h st b hb => by
    obtain ⟨⟨old, he⟩, o, ho, c, d⟩ := st
    rcases List.mem_cons.mp hb with rfl | hb
    · exact ⟨_, he, fun v z => nomatch z⟩
    · have e : b = it := by simpa using hb
      subst e
      exact ⟨o, ho, fun v z => by rw [d] at z; cases z⟩
  keep := fun i h h' st kk => by
    obtain ⟨⟨old, he⟩, o, ho, r⟩ := st
    exact ⟨⟨old, kk e (by simp) _ he⟩, o, kk it (by simp) o ho, r⟩
  item := by
    intro X hP hw hK hc i pins s σ H E I hf st hg
    subst hP hw hK
    have W := WalksT.enumerateD (strDraws (P := X.prog) (w := X.w) (A := X.A.in1) (I.ok.hd hc) it x t) e hei (by simpa using hei) (by simp)
    refine W.item i s _ _ hg st fun T vals h' tk hv hT ht mid kk => ⟨_, rfl, ?_⟩
    obtain ⟨t', y, ⟨c, u, hx, rfl⟩, rfl⟩ := hv
    refine W.go elts k pos i T _ _ _ mid fun h'' st'' kk2 => ?_
    have keep : ∀ b o, b ∉ [e, it] → s.heap.get? b = some o → h''.get? b = some o := fun b o hb q => kk2 b o hb (kk b o hb q)
    have I1 : Inv X pins σ H { s with heap := h'', toks := tk } := I.turnedL keep hf
    have hn : H T = none := I.hok.fresh hT
    have hTn : T ∉ [e, it] := W.apart i T h' mid
    obtain ⟨ot, hot, hct, n, hdt⟩ := ht
    have I2 : Inv X pins σ (upd H T (.tup [.int i, .str ⟨#[c]⟩])) { s with heap := h'', toks := tk } := by
      refine I1.track (.inl (Heap.get?_none_of_le (Nat.le_trans I.sz hT))) hn (Nat.ne_of_gt (Nat.lt_of_lt_of_le I.lt hT)) (fun y c' q z => ?_) (fun p hp z => ?_) ?_
      · obtain ⟨v, q'⟩ := I.cell y c' q
        exact absurd (Nat.lt_of_lt_of_le q'.lt (by rw [z]; exact hT)) (Nat.lt_irrefl _)
      · exact absurd (Nat.lt_of_lt_of_le (Heap.lt_size (I.pin p hp).1) (by rw [z]; exact hT)) (Nat.lt_irrefl _)
      · exact ⟨by show 2 ≤ sizeLine; decide, [.int i t', .str ⟨#[c]⟩ u], .cons ⟨_, rfl⟩ (.cons ⟨_, rfl⟩ .nil), ot, kk2 T ot hTn hot, hct, n, hdt⟩
    refine ⟨.ref T, _, I2, rfl, ⟨T, c, hn, hx, rfl, rfl⟩, st'', fun b hb => ?_⟩
    have hbT : b ≠ T := fun z => hTn (z ▸ hb)
    rw [upd_ne hbT]
    exact (hf b hb).1
  done := by
    intro X hP hw hK hc i pins s σ H E I hf st hg
    subst hP hw hK
    have hg' : i = x.cps.size := hg
    subst hg'
    have W := WalksT.enumerateD (strDraws (P := X.prog) (w := X.w) (A := X.A.in1) (I.ok.hd hc) it x t) e hei (by simpa using hei) (by simp)
    exact W.done s _ _ st fun h' tk kk => ⟨rfl, I.turnedL kk hf⟩
  self := fun A i s Q E st h => by
    obtain ⟨⟨old, he⟩, _⟩ := st
    exact wpAny_pyIter_enum he h
noncomputable def iEnum (ta : TA) : TI := fun σ H R => ta σ H fun vs H1 => ∃ x, vs = [.str x] ∧ R (Ite x) H1
section
variable {X : Cx}
theorem pi_enum {elts : List Expr} {k : Nat} {tpos p pos : Pos} {a : Expr} {ta : TA} (hg : Gl X "enumerate") (hm : X.mg "enumerate" = none) (ha : PA X [a] ta) (hs : starEach [a] X.env = [(false, eval a X.env)] := by rfl) :
    PI X (.Tuple elts k tpos) (.Call (.Name "enumerate" p) [a] [] pos) (iEnum ta) := by
  intro pins s σ H R I h
  refine Call_ (ld_blt I hg hm boot_enumerate (PyProof.Rows.callWith_type1 (thn (ha pos pins s σ H _ I h) fun us s1 ⟨vs, H1, I1, r1, q1⟩ => ?_) hs rfl))
  obtain ⟨x, e, q⟩ := q1
  subst e
  obtain ⟨u, rfl, t, rfl⟩ := vals1 r1
  refine call_enumerate_str fun h' he hit hsz hk => ?_
  refine wpAny_pyIter_enum he ?_
  refine ⟨s1.heap.objs.size + 1, [s1.heap.objs.size + 1, s1.heap.objs.size], _, _, H1, rfl, I1.kept (t' := s1.toks) hk, turn_enum x t _ _ (Nat.succ_ne_self _), ⟨⟨_, he⟩, hit⟩, fun b hb => ?_, q⟩
  rcases List.mem_cons.mp hb with rfl | hb
  · exact I1.fpOk (Nat.le_succ _) (I1.hok.fresh (Nat.le_succ _))
  · have e : b = s1.heap.objs.size := by simpa using hb
    subst e
    exact I1.fpOk (Nat.le_refl _) (I1.hok.fresh (Nat.le_refl _))
end
theorem for_ite {x : Str} {g : TG} {tb : TS} {D : Ends} {σ : St} {H : Hp} (Pv : Nat → St → Hp → Prop) (h0 : Pv 0 σ H)
    (hs : ∀ i c σ H T, x.cps[i]? = some c → Pv i σ H → H T = none → g (.ref T) σ (upd H T (.tup [.int i, .str ⟨#[c]⟩])) fun σ2 H2 => tb { D with nx := Pv (i + 1), ct := Pv (i + 1), bk := D.nx } σ2 H2) (hd : ∀ σ H, Pv x.cps.size σ H → D.nx σ H) :
    ∃ W : Nat → Nat → St → Hp → Prop, (∃ m, W 0 m σ H) ∧ ∀ i m σ H, W i m σ H →
      ((Ite x).stop i H ∧ D.nx σ H) ∨ ((Ite x).go i H ∧ ∃ N : St → Hp → Prop, (∀ σ' H', N σ' H' → ∃ m', m' < m ∧ W (i + 1) m' σ' H') ∧ ∀ y H', (Ite x).yld i H y H' → g y σ H' fun σ2 H2 => tb { D with nx := N, ct := N, bk := D.nx } σ2 H2) := by
  refine ⟨fun i m σ H => m = x.cps.size - i ∧ i ≤ x.cps.size ∧ Pv i σ H, ⟨x.cps.size, by simp, Nat.zero_le _, h0⟩, ?_⟩
  rintro i m σ H ⟨rfl, hi, p⟩
  by_cases hlt : i < x.cps.size
  · refine .inr ⟨hlt, Pv (i + 1), fun σ' H' p' => ⟨x.cps.size - (i + 1), by (clear hi; omega), rfl, hlt, p'⟩, fun y H' q => ?_⟩
    obtain ⟨T, c, hT, hc, e, e2⟩ := q
    subst e e2
    exact hs i c σ _ T hc p hT
  · have e : i = x.cps.size := by omega
    subst e
    exact .inl ⟨rfl, hd σ H p⟩
end L2
set_option maxRecDepth 100000
set_option maxHeartbeats 4000000
namespace L2
open PySem
noncomputable def closL (env : Env) : List (Str × NameKind) → List (Str × Addr) → List (Str × Addr)
  | [], cs => cs
  | (n, k) :: r, cs => closL env r (if (k == NameKind.free) = true then (n, (env.cells.lookup n).getD 0) :: cs else cs)
theorem closureFor_eq {scope : Scope} {env : Env} (h : ∀ x ∈ scope.names, x.2 = .free → ∃ c, env.cells.lookup x.1 = some c) : closureFor scope env = pure (closL env scope.names []) := by
  unfold closureFor
  have go : ∀ (names : List (Str × NameKind)) (cs : List (Str × Addr)), (∀ x ∈ names, x.2 = .free → ∃ c, env.cells.lookup x.1 = some c) →
      (forIn names cs fun (x : Str × NameKind) (r : List (Str × Addr)) => (match x with
        | (name, kind) => if (kind == NameKind.free) = true then do let a ← cellOf env name; pure (ForInStep.yield ((name, a) :: r)) else pure (ForInStep.yield r) : Sem (ForInStep (List (Str × Addr))))) = pure (closL env names cs) := by
    intro names
    induction names with
    | nil => intro cs _; rfl
    | cons x r ih =>
      intro cs h
      obtain ⟨n, k⟩ := x
      rw [List.forIn_cons]
      have hr := fun y hy => h y (List.mem_cons_of_mem _ hy)
      cases hk : (k == NameKind.free) with
      | false =>
        simp only [hk, Bool.false_eq_true, if_false]
        show (pure (ForInStep.yield cs) >>= _ : Sem _) = _
        simp only [pure_bind]
        rw [ih cs hr]
        simp only [closL, hk, Bool.false_eq_true, if_false]
      | true =>
        obtain ⟨c, hc⟩ := h (n, k) List.mem_cons_self (by simpa using hk)
        have e : cellOf env n = pure c := by unfold cellOf; rw [show env.cells.lookup n = some c from hc]
        simp only [hk, if_true, e, pure_bind]
        rw [ih _ hr]
        simp only [closL, hk, if_true]
        rw [show env.cells.lookup n = some c from hc]
        rfl
  exact congrArg (fun m : Sem (List (Str × Addr)) => m >>= fun r => pure r) (go scope.names [] h)
theorem closL_some {env : Env} {x : Str} {c : Addr} : ∀ {names : List (Str × NameKind)} {cs : List (Str × Addr)}, (closL env names cs).lookup x = some c → cs.lookup x = some c ∨ ((x, NameKind.free) ∈ names ∧ c = (env.cells.lookup x).getD 0)
  | [], _, h => .inl h
  | (n, k) :: r, cs, h => by
    rcases closL_some (names := r) h with q | ⟨q, e⟩
    · cases hk : (k == NameKind.free) with
      | false => rw [hk] at q; exact .inl q
      | true =>
        rw [hk, if_pos rfl] at q
        have hk' : k = NameKind.free := by simpa using hk
        subst hk'
        cases hx : x == n with
        | true =>
          rw [List.lookup_cons, hx] at q
          have e : x = n := by simpa using hx
          subst e
          exact .inr ⟨List.mem_cons_self, (Option.some.inj q).symm⟩
        | false =>
          rw [List.lookup_cons, hx] at q
          exact .inl q
    · exact .inr ⟨List.mem_cons_of_mem _ q, e⟩
theorem closL_has {env : Env} {x : Str} : ∀ {names : List (Str × NameKind)} {cs : List (Str × Addr)}, (x, NameKind.free) ∈ names ∨ (∃ c, cs.lookup x = some c) → ∃ c, (closL env names cs).lookup x = some c
  | [], _, h => by
    rcases h with h | h
    · cases h
    · exact h
  | (n, k) :: r, cs, h => by
    refine closL_has (names := r) ?_
    rcases h with h | ⟨c, h⟩
    · rcases List.mem_cons.mp h with e | e
      · cases e
        refine .inr ⟨(env.cells.lookup x).getD 0, ?_⟩
        rw [if_pos (by rfl), List.lookup_cons]
        simp
      · exact .inl e
    · refine .inr ?_
      cases hk : (k == NameKind.free) with
      | false => exact ⟨c, h⟩
      | true =>
        rw [if_pos rfl, List.lookup_cons]
        cases hx : x == n with
        | true => exact ⟨_, rfl⟩
        | false => exact ⟨c, h⟩
theorem relabel_free {env : Env} (hf : env.scope.kind = .function) : ∀ {names : List (Str × NameKind)} {x : Str}, names.lookup x = some .free → env.kindOf x = some .cell →
    (names.map fun (n, k) => if (k == NameKind.free && env.scope.kind == .function && env.kindOf n == some .cell) then (n, NameKind.cell) else (n, k)).lookup x = some .cell
  | [], _, h, _ => by simp at h
  | (n, k) :: r, x, h, hc => by
    have ih := @relabel_free env hf r x
    show List.lookup x ((if (k == NameKind.free && env.scope.kind == .function && env.kindOf n == some .cell) = true then (n, NameKind.cell) else (n, k)) :: _) = _
    cases hx : x == n with
    | true =>
      have e : x = n := by simpa using hx
      subst e
      simp only [List.lookup_cons, hx] at h
      cases h
      rw [if_pos (by rw [hf, hc]; rfl)]
      simp [List.lookup_cons]
    | false =>
      simp only [List.lookup_cons, hx] at h
      by_cases hc' : (k == NameKind.free && env.scope.kind == .function && env.kindOf n == some .cell) = true
      · rw [if_pos hc']; simp only [List.lookup_cons, hx]; exact ih h hc
      · rw [if_neg hc']; simp only [List.lookup_cons, hx]; exact ih h hc
theorem relabel_back {env : Env} : ∀ {names : List (Str × NameKind)} {x : Str} {k' : NameKind}, (∀ y ∈ names, y.2 ≠ .cell) → (k' = .cell ∨ k' = .free) →
    (names.map fun (n, k) => if (k == NameKind.free && env.scope.kind == .function && env.kindOf n == some .cell) then (n, NameKind.cell) else (n, k)).lookup x = some k' → (x, NameKind.free) ∈ names
  | [], _, _, _, _, h => by simp at h
  | (n, k) :: r, x, k', hn, hk, h => by
    have ih := @relabel_back env r x k' (fun y hy => hn y (List.mem_cons_of_mem _ hy)) hk
    have h' : List.lookup x ((if (k == NameKind.free && env.scope.kind == .function && env.kindOf n == some .cell) = true then (n, NameKind.cell) else (n, k)) :: r.map fun (n, k) => if (k == NameKind.free && env.scope.kind == .function && env.kindOf n == some .cell) then (n, NameKind.cell) else (n, k)) = some k' := h
    have hn0 : k ≠ .cell := hn (n, k) List.mem_cons_self
    by_cases hc' : (k == NameKind.free && env.scope.kind == .function && env.kindOf n == some .cell) = true
    · rw [if_pos hc', List.lookup_cons] at h'
      have hkf : k = .free := by
        rw [Bool.and_eq_true, Bool.and_eq_true] at hc'
        simpa using hc'.1.1
      cases hx : x == n with
      | true =>
        have e : x = n := by simpa using hx
        subst e
        rw [hkf]
        exact List.mem_cons_self
      | false => rw [hx] at h'; exact List.mem_cons_of_mem _ (ih h')
    · rw [if_neg hc', List.lookup_cons] at h'
      cases hx : x == n with
      | true =>
        rw [hx] at h'
        have e : x = n := by simpa using hx
        subst e
        have e2 : k = k' := Option.some.inj h'
        subst e2
        rcases hk with z | z
        · exact absurd z hn0
        · rw [z]; exact List.mem_cons_self
      | false => rw [hx] at h'; exact List.mem_cons_of_mem _ (ih h')
section
variable {prog : Program} {w : World} {A : Around} {R : Result → Shared → Prop} {s : Shared}
theorem compLoop_any {elt target iter : Expr} {ifs : List Expr} {scope : Scope} {pos : Pos} {it acc : Value} {env : Env} (I : Nat → Shared → Prop)
    (turn : ∀ n s, I n s → wpAny (model prog w) A (pyNext it) (fun r s₁ => match r with
      | none => R (.ok .next) s₁
      | some v => wpAny (model prog w) A (letOwnedTupleGo target it v) (fun _ s₀ => wpAny (model prog w) A (assign target env v) (fun _ s₂ =>
          wpAny (model prog w) A (forIn ifs true fun c r => if r = true then do let ok ← isTrue c env (eval c env); pure (ForInStep.yield ok) else pure (ForInStep.yield r)) (fun ok s₃ =>
            if ok = true then wpAny (model prog w) A (eval elt env) (fun x s₄ =>
              wpAny (model prog w) A (call (.builtin "list.append") [acc, x]) (fun _ s₅ => ∃ m, m < n ∧ I m s₅) (fun _ _ => False) s₄) (fun _ _ => False) s₃
            else ∃ m, m < n ∧ I m s₃) (fun _ _ => False) s₂) (fun _ _ => False) s₀) (fun _ _ => False) s₁) (fun _ _ => False) s)
    (n : Nat) (h : I n s) :
    codeAny (model prog w) A (.compLoop (.ListComp elt [⟨target, iter, ifs, 0⟩] scope pos) 0 it acc env) R s := by
  refine codeAny_loop rfl I (fun n s hI => ?_) n h
  show wpAny _ A ((compTurn (.ListComp elt [⟨target, iter, ifs, 0⟩] scope pos) 0 it acc env).onRaise (fun x => do noteFrame x env; theTreesLotGoes x)) _ _ s
  refine wpAny_noted ?_
  rw [compTurn_list]
  refine wpAny_bind (wpAny_standAt (wpAny_bind (wpAny_mono (turn n s hI) (fun r s₁ h₁ => ?_) fun _ _ h' => h'.elim)))
  cases r with
  | none => exact wpAny_pure h₁
  | some v =>
    refine wpAny_bind (wpAny_mono h₁ (fun _ s₀ h₀ => ?_) fun _ _ h' => h'.elim)
    refine wpAny_bind (wpAny_mono h₀ (fun _ s₂ h₂ => wpAny_bind (wpAny_mono h₂ (fun ok s₃ h₃ => ?_) fun _ _ h' => h'.elim)) fun _ _ h' => h'.elim)
    cases ok with
    | false => exact wpAny_pure ⟨rfl, h₃⟩
    | true =>
      exact wpAny_bind (wpAny_bind (wpAny_mono h₃ (fun x s₄ h₄ => wpAny_bind (wpAny_mono h₄ (fun _ s₅ h₅ => wpAny_pure (wpAny_pure ⟨rfl, h₅⟩)) fun _ _ h' => h'.elim)) fun _ _ h' => h'.elim))
end
end L2
namespace L2
open PySem PySem.Spec PyProof.Rows
noncomputable def cxB (X : Cx) (scope : Scope) (N : List Str) (s₀ : Shared) (H₀ : Hp) (ex : List Addr) : Cx :=
  { X with N := N, s₀ := s₀, H₀ := H₀, env := compEnvC scope (closL X.env scope.names []) s₀.heap.objs.size X.env, outer := X.stack, ex := ex, fn := fun _ => false, pn := [], xe := fun _ _ => False }
section
variable {X : Cx} {c : Expr} {t : TT}
noncomputable def PIfs (X : Cx) (ifs : List Expr) (t : TT) : Prop := ∀ (pins : List (Addr × Obj)) (s : Shared) (σ : St) (H : Hp) (Q : Bool → Hp → Prop), Inv X pins σ H s → t σ H Q →
  wpAny (model X.prog X.w) X.A (forIn ifs true fun c r => if r = true then do let ok ← isTrue c X.env (eval c X.env); pure (ForInStep.yield ok) else pure (ForInStep.yield r)) (TP X pins σ Q) X.xe s
noncomputable def tNoIf : TT := fun _ H Q => Q true H
theorem pf_none : PIfs X [] tNoIf := fun _ _ _ H _ I h => wpAny_tests_nil ⟨H, I, h⟩
theorem pf_one (h : PT X c t) : PIfs X [c] t := fun pins s σ H Q I hq => wpAny_tests_one (h pins s σ H Q I hq)
end
noncomputable def GKeep (own : Nat) (g : TG) : Prop := ∀ x σ H Q Q', g x σ H Q → (∀ σ' H', Q σ' H' → σ'.length = σ.length → (∀ j v, own ≤ j → σ[j]? = some (some v) → σ'[j]? = some (some v)) → Q' σ' H') → g x σ H Q'
noncomputable def GKeeps (own : Nat) (g : TGs) : Prop := ∀ xs σ H Q Q', g xs σ H Q → (∀ σ' H', Q σ' H' → σ'.length = σ.length → (∀ j v, own ≤ j → σ[j]? = some (some v) → σ'[j]? = some (some v)) → Q' σ' H') → g xs σ H Q'
theorem gk_name {own i : Nat} (hi : i < own) : GKeep own (gName i) := fun x σ H Q Q' h k => k _ H h (by simp) fun j v hj e => by rw [List.getElem?_set_ne (by (clear e; omega))]; exact e
theorem gks_nil {own : Nat} : GKeeps own gNil := fun xs σ H Q Q' ⟨e, h⟩ k => ⟨e, k σ H h rfl fun _ _ _ e => e⟩
theorem gks_cons {own : Nat} {t : TG} {u : TGs} (h1 : GKeep own t) (h2 : GKeeps own u) : GKeeps own (gCons t u) := fun xs σ H Q Q' ⟨v, r, e, h⟩ k =>
  ⟨v, r, e, h1 v σ H _ _ h fun σ' H' q l1 k1 => h2 r σ' H' _ _ q fun σ'' H'' q2 l2 k2 => k σ'' H'' q2 (l2.trans l1) fun j w hj e => k2 j w hj (k1 j w hj e)⟩
theorem gk_tup {own n : Nat} {K : PySem.W.Frag} {t : TGs} (h : GKeeps own t) : GKeep own (gTup K n t) := fun x σ H Q Q' ⟨a, xs, e, hq, hl, q⟩ k => ⟨a, xs, e, hq, hl, h xs σ H Q Q' q k⟩
noncomputable def st0 (own : Nat) (caps : List Nat) (σ : St) : St := List.replicate own none ++ caps.map fun j => (σ[j]?).join
noncomputable def CompR (J : It) (g : TG) (tc : TT) (te : TE) (σ0 : St) (Q : VK) (H : Hp) : Prop :=
    ∃ W : Nat → Nat → List V → Hp → Prop, (∃ m, W 0 m [] H) ∧ ∀ i m ys H, W i m ys H →
      (J.stop i H ∧ ys.length ≤ sizeLine ∧ ∀ p, H p = none → Q (.ref p) (upd H p (.lst ys))) ∨
      (J.go i H ∧ ys.length < sizeLine ∧ ∀ x H', J.yld i H x H' → g x σ0 H' fun σ2 H2 => tc σ2 H2 fun b H3 =>
        if b = true then te σ2 H3 fun y H4 => ∃ m', m' < m ∧ W (i + 1) m' (ys ++ [y]) H4 else ∃ m', m' < m ∧ W (i + 1) m' ys H3)
noncomputable def tComp (own : Nat) (caps : List Nat) (wi : TI) (g : TG) (tc : TT) (te : TE) : TE := fun σ H Q => wi σ H fun J H1 => CompR J g tc te (st0 own caps σ) Q H1
theorem mem1 {a : Addr} {o : Obj} : ∀ p ∈ [(a, o)], p.1 = a := fun p hp => by rw [List.mem_singleton.mp hp]
section
variable {X : Cx}
theorem comp_end {scope : Scope} {N : List Str} {pins : List (Addr × Obj)} {σ σ' : St} {H2 He : Hp} {s2 s1 : Shared} {hp h' : Heap} {fp : List Addr} {ys : List V} {its : List Value} {na : Nat} {lo : Obj}
    (I2 : Inv X pins σ H2 s2) (f2 : ∀ b ∈ fp, FpOk X pins H2 b) (ehp : hp = s2.heap.push lo)
    (J : Inv (cxB X scope N { s2 with heap := hp } H2 (s2.heap.objs.size :: fp)) [(s2.heap.objs.size, { cls := .type "list", data := .seq its.toArray na })] σ' He s1)
    (hsb : Heap.SameBut hp.objs.size s1.heap h') (hv : Vals ys its) (hz : ys.length ≤ sizeLine) :
    Inv X pins σ (upd He s2.heap.objs.size (.lst ys)) { s1 with heap := h' } := by
  have hC : hp.objs.size = s2.heap.objs.size + 1 := by rw [ehp, Heap.size_push]
  have below : ∀ {b : Addr} {o : Obj}, s2.heap.get? b = some o → b ≠ hp.objs.size ∧ b ≠ s2.heap.objs.size := fun {b o} e => by
    have q := Heap.lt_size e
    exact ⟨by rw [hC]; exact Nat.ne_of_lt (Nat.lt_succ_of_lt q), Nat.ne_of_lt q⟩
  have up : ∀ {b : Addr} {o : Obj}, s2.heap.get? b = some o → hp.get? b = some o := fun e => by rw [ehp]; exact Heap.get?_push_of_some _ e
  have un : Un (frs X.stack) (s2.heap.objs.size :: fp) H2 He hp s1.heap := J.base
  have nD : ∀ {b : Addr} {o : Obj}, s2.heap.get? b = some o → b ∉ fp → b ∉ s2.heap.objs.size :: fp := fun e hx z => (List.mem_cons.mp z).elim (below e).2 hx
  have hfree : He hp.objs.size = none := J.free
  have u2 : Un (frs X.stack) fp H2 He s2.heap h' := by
    refine ⟨fun b o e n hb hx => ?_, fun b o e n hb hx => ?_, fun b o e n hx => ?_, fun b o e hx => ?_, un.tups, un.frzs, un.tbls⟩
    · exact (hsb.2 b (below e).1).trans (un.keep b o (up e) n hb (nD e hx))
    · obtain ⟨sl, q⟩ := un.slot b o (up e) n hb (nD e hx)
      exact ⟨sl, (hsb.2 b (below e).1).trans q⟩
    · exact un.free b o (up e) n (nD e hx)
    · obtain ⟨o', q⟩ := un.there b o (up e) (nD e hx)
      exact ⟨o', (hsb.2 b (below e).1).trans q⟩
  have hok : HOk X.prog X.w He h' := fun b u e => by
    refine (J.hok b u e).stay (fun c v hc q => (hsb.2 c ?_).trans q) (fun _ q => q) fun _ _ q => q
    rintro rfl
    rcases hc with z | z
    · rw [← z, hfree] at e; cases e
    · rw [hfree] at z; cases z
  have I3 : Inv X pins σ He { s1 with heap := h' } := I2.call' (s' := { s1 with heap := h' }) (ch := fp) J.os u2 hok J.bare fun b hb => by
    obtain ⟨f0, f1, f3, f4, f5, f6⟩ := f2 b hb
    exact ⟨f4, f1, f5, f6⟩
  obtain ⟨pe, pn, _⟩ := J.pin _ (List.mem_append_right _ List.mem_cons_self)
  refine I3.track (.inl (Heap.get?_none_of_le I2.sz)) pn (Nat.ne_of_gt I2.lt) (fun y c' q z => ?_) (fun p hp' z => ?_) ?_
  · obtain ⟨v, q'⟩ := I2.cell y c' q
    exact absurd q'.lt (by rw [z]; exact Nat.lt_irrefl _)
  · exact absurd (Heap.lt_size (I2.pin p hp').1) (by rw [z]; exact Nat.lt_irrefl _)
  · exact ⟨hz, its, na, hv, (hsb.2 _ (by rw [hC]; exact Nat.ne_of_lt (Nat.lt_succ_self _))).trans pe⟩
theorem comp_core {elt target iter : Expr} {ifs : List Expr} {scope sc0 : Scope} {pos : Pos} {N N0 : List Str} {own : Nat} {caps : List Nat} {wi : TI} {g : TG} {tc : TT} {te : TE}
    (hcalm : X.calm = true) (hi : PI X target iter wi)
    (hg : ∀ s₀ H₀ ex, PG (cxB X scope N s₀ H₀ ex) target g) (hc : ∀ s₀ H₀ ex, PIfs (cxB X scope N s₀ H₀ ex) ifs tc) (he : ∀ s₀ H₀ ex, PE (cxB X scope N s₀ H₀ ex) elt te) (hk : GKeep own g)
    (hX : X.N = N0) (hsc : X.env.scope = sc0)
    (hcell : ∀ y ∈ scope.names, y.2 ≠ .cell) (hkind : scope.kind = .function) (hnames : ∀ y ∈ scope.names, y.2 = .local → scope.names.lookup y.1 = some .local)
    (hfree : ∀ y ∈ scope.names, y.2 = .free → sc0.names.lookup y.1 = some .cell) (hN : N.length = own + caps.length)
    (hcap : ∀ p ∈ caps.zip (N.drop own), N0[p.1]? = some p.2 ∧ scope.names.lookup p.2 = some .free)
    (hs : ∀ x, foldedSetIterable iter X.env x = pure x)
    {use : Option (Value → Sem Unit)} {Qf : Value → Shared → Prop} {pins : List (Addr × Obj)} {s : Shared} {σ : St} {H : Hp} {Q : VK} {cpos : Pos} (I : Inv X pins σ H s) (h : tComp own caps wi g tc te σ H Q)
    (hR : ∀ (D C : Addr) (s' : Shared) (He : Hp) (ys : List V) (m : Str → Option Value) (f : Flow), s'.heap.Ns C m → (∀ h', Heap.SameBut C s'.heap h' → Inv X pins σ (upd He D (.lst ys)) { s' with heap := h' }) →
      FpOk X pins (upd He D (.lst ys)) C → Q (.ref D) (upd He D (.lst ys)) → compPost (model X.prog X.w) X.A X.xe use Qf (.ref D) C (.ok f) s') :
    wpAny (model X.prog X.w) X.A (comprehension (.ListComp elt [⟨target, iter, ifs, 0⟩] scope pos) scope X.env cpos (newList []) false (eval iter X.env) use) Qf X.xe s := by
  have hcellOf : ∀ y ∈ scope.names, y.2 = .free → X.env.kindOf y.1 = some .cell := fun y hy e => by
    show X.env.scope.names.lookup y.1 = some .cell
    rw [hsc]; exact hfree y hy e
  refine wpAny_comprehension_free (use := use) rfl hs (closureFor_eq fun y hy e => I.ok.has y.1 (.inl (hcellOf y hy e))) hkind hnames ?_
  refine thn (hi pins s σ H _ I h) fun v s1 h1 => thn h1 fun itv s2 h2 => ?_
  obtain ⟨it, fp, tn, J, H2, e, I2, T, st2, f2, W, ⟨m0, w0⟩, turn⟩ := h2
  subst e
  refine wpAny_newObj_type (wpAny_newFunctionEnv hcell (by intro y hy; simp at hy) (fun h₁ hns₁ hsb₁ => ?_) hkind)
  dsimp only at hns₁ hsb₁ ⊢
  generalize ehp : s2.heap.push { cls := .type "list", dict := none, data := .seq ([] : List Value).toArray } = hp at hns₁ hsb₁ ⊢
  have hC : hp.objs.size = s2.heap.objs.size + 1 := by rw [← ehp, Heap.size_push]
  have hDC : s2.heap.objs.size ≠ hp.objs.size := by rw [hC]; exact Nat.ne_of_lt (Nat.lt_succ_self _)
  have hD0 : hp.get? s2.heap.objs.size = some { cls := .type "list", data := .seq ([] : List Value).toArray } := by rw [← ehp]; exact Heap.get?_push_size _ rfl
  have up : ∀ {b : Addr} {o : Obj}, s2.heap.get? b = some o → hp.get? b = some o := fun e => by rw [← ehp]; exact Heap.get?_push_of_some _ e
  have up1 : ∀ {b : Addr} {o : Obj}, hp.get? b = some o → h₁.get? b = some o := fun {b o} e => hsb₁.extBut b o (Nat.ne_of_lt (Heap.lt_size e)) (Heap.get?_push_of_some _ e)
  have hlt2 : ∀ {b : Addr} {o : Obj}, s2.heap.get? b = some o → b < s2.heap.objs.size := fun e => Heap.lt_size e
  have fpo : ∀ b ∈ fp, ∃ o, s2.heap.get? b = some o := fun b hb => by obtain ⟨o, e, _⟩ := T.obj 0 _ st2 b hb; exact ⟨o, e⟩
  have fpC : ∀ b ∈ fp, b ≠ hp.objs.size ∧ b ≠ s2.heap.objs.size := fun b hb => by
    obtain ⟨o, e⟩ := fpo b hb
    have q := hlt2 e
    exact ⟨by rw [hC]; exact Nat.ne_of_lt (Nat.lt_succ_of_lt q), Nat.ne_of_lt q⟩
  have clos : ∀ {x : Str} {c : Addr}, (closL X.env scope.names []).lookup x = some c → X.env.cells.lookup x = some c ∧ X.env.kindOf x = some .cell := fun {x c} q => by
    rcases closL_some q with z | ⟨z, e⟩
    · cases z
    · have k := hcellOf _ z rfl
      obtain ⟨c', hc'⟩ := I2.ok.has x (.inl k)
      rw [hc'] at e
      have e' : c = c' := e
      subst e'
      exact ⟨hc', k⟩
  have cellLt : ∀ {x : Str} {c : Addr}, (closL X.env scope.names []).lookup x = some c → c < s2.heap.objs.size := fun q => by
    obtain ⟨v, z⟩ := I2.cell _ _ (clos q).1
    exact z.lt
  have stkLt : ∀ b ∈ frs X.stack, b < s2.heap.objs.size := fun b hb => by
    obtain ⟨_, o, ho, _⟩ := I2.stack.mem hb
    exact Heap.lt_size ho
  have ok' : (cxB X scope N { s2 with heap := hp } H2 (s2.heap.objs.size :: fp)).Ok := by
    refine ⟨I2.ok.mod, hkind, I2.ok.glob, I2.ok.blt, Nat.le_refl _, fun x y c q1 q2 => I2.ok.inj x y c (clos q1).1 (clos q2).1, fun x hx => ?_, (fun x c z => by cases z), I2.ok.hd, I2.ok.frames, .inl rfl, fun b hb => ?_, fun b o q => ⟨up (I2.bs b o q).1, (I2.bs b o q).2⟩, ?_, fun b o q hb => ?_, fun b hb => ?_, ?_, fun b hb => I2.stkFree b hb⟩
    · rcases hx with hx | hx
      · exact closL_has (.inl (relabel_back (env := X.env) hcell (.inl rfl) hx))
      · exact closL_has (.inl (relabel_back (env := X.env) hcell (.inr rfl) hx))
    · rcases List.mem_cons.mp hb with rfl | hb
      · exact ⟨by show s2.heap.objs.size ≠ hp.objs.size; exact hDC, fun x c q => Nat.ne_of_lt (cellLt q)⟩
      · exact ⟨(fpC b hb).1, fun x c q => (f2 b hb).2.2.2.2.1 x c (clos q).1⟩
    · show X.base.objs.size ≤ hp.objs.size
      rw [hC]
      exact Nat.le_succ_of_le (Nat.le_trans I2.ok.bsz I2.sz)
    · rcases List.mem_cons.mp hb with rfl | hb
      · exact Nat.lt_irrefl _ (hlt2 (I2.bs _ o q).1)
      · rcases (f2 b hb).2.2.2.1 with z | z
        · exact I2.ok.noex b o q z
        · exact Nat.lt_irrefl _ (Nat.lt_of_lt_of_le (Heap.lt_size (I2.ok.bs b o q).1) z)
    · intro z
      rcases List.mem_cons.mp hb with rfl | hb
      · exact Nat.lt_irrefl _ (stkLt _ z)
      · rcases List.mem_cons.mp (I2.stkSub b z) with q | q
        · exact (f2 b hb).2.1 q
        · exact (f2 b hb).2.2.1 q
    · show hp.FunFrames X.base X.stack
      exact I2.stack.of_keeps fun b o q _ => ⟨o, up q, rfl⟩
  have len0 : (st0 own caps σ).length = N.length := by unfold st0; rw [List.length_append, List.length_replicate, List.length_map, hN]
  have I0 : Inv (cxB X scope N { s2 with heap := hp } H2 (s2.heap.objs.size :: fp)) [] (st0 own caps σ) H2 { s2 with heap := h₁, toks := s2.toks + ([] : List (Str × Value)).length } := by
    refine ⟨ok', rfl, I2.bare, Un.kept fun b o q => up1 q, ⟨_, hns₁, fun i x v e1 e2 e3 => ?_⟩, fun x c q => ?_, I2.hok.fresh (by show s2.heap.objs.size ≤ hp.objs.size; rw [hC]; exact Nat.le_succ _), fun x c q => I2.freeC x c (clos q).1, fun p hp' => absurd (show p ∈ ([] : List (Addr × Obj)) from hp') (by simp), I2.hok.kept fun b o q => up1 (up q), len0⟩
    · -- a name that is read from around
      unfold st0 at e2
      by_cases hi' : i < own
      · rw [List.getElem?_append_left (by simpa using hi'), List.getElem?_replicate] at e2
        split at e2 <;> cases e2
      · rw [List.getElem?_append_right (by simpa using hi'), List.length_replicate, List.getElem?_map] at e2
        cases ec : caps[i - own]? with
        | none => rw [ec] at e2; cases e2
        | some j =>
          rw [ec] at e2
          have e2' : (σ[j]?).join = some v := Option.some.inj e2
          have hσ : σ[j]? = some (some v) := by
            cases q : σ[j]? with
            | none => rw [q] at e2'; cases e2'
            | some z => rw [q] at e2'; exact congrArg some e2'
          have hx : (N.drop own)[i - own]? = some x := by
            rw [List.getElem?_drop]
            have : own + (i - own) = i := by (clear hσ e2' ec e2 e1 len0 hD0 hDC hC ehp hN hkind hsc hX hcalm; omega)
            rw [this]; exact e1
          have hz : (caps.zip (N.drop own))[i - own]? = some (j, x) := by
            rw [List.getElem?_zip_eq_some]; exact ⟨ec, hx⟩
          obtain ⟨hj, hf⟩ := hcap _ (List.mem_of_getElem? hz)
          rw [← hX] at hj
          have hfm : (x, NameKind.free) ∈ scope.names := PySem.mem_of_lookup hf
          have hk1 := hcellOf _ hfm rfl
          obtain ⟨m, hn, hl⟩ := I2.loc
          obtain ⟨u, ru, lk⟩ := hl j x v hj hσ (.inr (.inl hk1))
          refine ⟨u, ru, .inr ⟨.inl (relabel_free I2.ok.kind hf hk1), ?_⟩⟩
          obtain ⟨c, hc'⟩ := closL_has (env := X.env) (cs := []) (.inl hfm)
          have hc2 := (clos hc').1
          rcases lk with ⟨z, _⟩ | ⟨_, c2, hc3, hcell'⟩
          · rw [hk1] at z; cases z
          · rw [hc2] at hc3
            cases hc3
            obtain ⟨oc, hoc, hod⟩ := hcell'
            exact ⟨c, hc', oc, up1 (up hoc), hod⟩
    · obtain ⟨v, oc, hoc, hod⟩ := I2.cell x c (clos q).1
      exact ⟨v, oc, up1 (up hoc), hod⟩
  -- the pin of the list that is gathered
  have pinD : ∀ {σ' : St} {H' : Hp} {s' : Shared} {its : List Value} {na : Nat}, Inv (cxB X scope N { s2 with heap := hp } H2 (s2.heap.objs.size :: fp)) [] σ' H' s' → H' s2.heap.objs.size = none →
      s'.heap.get? s2.heap.objs.size = some { cls := .type "list", data := .seq its.toArray na } →
      Inv (cxB X scope N { s2 with heap := hp } H2 (s2.heap.objs.size :: fp)) [(s2.heap.objs.size, { cls := .type "list", data := .seq its.toArray na })] σ' H' s' := fun {σ' H' s' its na} I' hn hd => I'.pins_of fun p hp' => by
    have e : p = (s2.heap.objs.size, { cls := .type "list", data := .seq its.toArray na }) := by simpa using hp'
    subst e
    exact ⟨hd, hn, hDC, fun z => Nat.lt_irrefl _ (stkLt _ z), fun v z => nomatch z⟩
  have fpD : ∀ {H' : Hp} {pl : List (Addr × Obj)}, (∀ b ∈ fp, H' b = none) → (∀ p ∈ pl, p.1 = s2.heap.objs.size) → ∀ b ∈ fp, FpOk (cxB X scope N { s2 with heap := hp } H2 (s2.heap.objs.size :: fp)) pl H' b := fun hn hpl b hb => by
    refine ⟨hn b hb, (fpC b hb).1, fun z => ?_, .inl (List.mem_cons_of_mem _ hb), fun x c q => (f2 b hb).2.2.2.2.1 x c (clos q).1, fun p hp' z => ?_⟩
    · rcases List.mem_cons.mp (I2.stkSub b z) with q | q
      · exact (f2 b hb).2.1 q
      · exact (f2 b hb).2.2.1 q
    · exact (fpC b hb).2 (z.symm.trans (hpl p hp'))
  have loop : ∀ s₃ : Shared, s₃ = { s2 with heap := h₁, toks := s2.toks + ([] : List (Str × Value)).length } →
      codeAny (model X.prog X.w) X.A (.compLoop (.ListComp elt [⟨target, iter, ifs, 0⟩] scope pos) 0 (.ref it) (.ref s2.heap.objs.size) (compEnvC scope (closL X.env scope.names []) hp.objs.size X.env))
        (compPost (model X.prog X.w) X.A X.xe use Qf (.ref s2.heap.objs.size) hp.objs.size) s₃ := by
    rintro s₃ rfl
    refine compLoop_any (fun n s' => ∃ i ys its na H', Inv (cxB X scope N { s2 with heap := hp } H2 (s2.heap.objs.size :: fp)) [] (st0 own caps σ) H' s' ∧ tn i s'.heap ∧ (∀ b ∈ fp, H' b = none) ∧ H' s2.heap.objs.size = none ∧
      Vals ys its ∧ s'.heap.get? s2.heap.objs.size = some { cls := .type "list", data := .seq its.toArray na } ∧ W i n ys H') ?_ m0
      ⟨0, [], [], 0, H2, I0, T.keep _ _ _ st2 fun b _ o q => up1 (up q), fun b hb => (f2 b hb).1, I2.hok.fresh (Nat.le_refl _), .nil, up1 hD0, w0⟩
    rintro n s3 ⟨i, ys, its, na, H3, I3, st3, fr3, nD3, rv3, hd3, w3⟩
    have Ip := pinD I3 nD3 hd3
    have f3 := fpD (H' := H3) (pl := [(s2.heap.objs.size, { cls := .type "list", data := .seq its.toArray na })]) fr3 mem1
    rcases turn i n ys H3 w3 with ⟨stop, hz, fin⟩ | ⟨go, hz, step⟩
    · refine thn (T.done (cxB X scope N { s2 with heap := hp } H2 (s2.heap.objs.size :: fp)) rfl rfl rfl hcalm i _ s3 _ H3 _ Ip f3 st3 stop) fun r s4 ⟨hr, I4⟩ => ?_
      subst hr
      obtain ⟨m, hn, _⟩ := I4.loc
      exact hR _ _ _ _ ys m _ hn (fun h' hsb => comp_end I2 f2 ehp.symm I4 hsb rv3 hz) (I2.fpOk (by rw [hC]; exact Nat.le_succ _) (by rw [upd_ne (Ne.symm hDC)]; exact I4.free)) (fin _ (I4.pin _ (List.mem_append_right _ List.mem_cons_self)).2.1)
    · refine thn (T.item (cxB X scope N { s2 with heap := hp } H2 (s2.heap.objs.size :: fp)) rfl rfl rfl hcalm i _ s3 _ H3 _ Ip f3 st3 go) fun r s4 ⟨u, hr, h4⟩ => ?_
      subst hr
      refine thn h4 fun _ s5 ⟨x, H5, I5, r5, y5, st5, fr5⟩ => ?_
      have I5' := I5.pinned (fpD (H' := H5) (pl := [(s2.heap.objs.size, { cls := .type "list", data := .seq its.toArray na })]) fr5 mem1) (T.obj _ _ st5)
      refine thn (hg _ _ _ _ s5 _ H5 x u _ I5' r5 (hk x _ H5 _ _ (step x H5 y5) fun σ' H' q l k => (⟨q, l, k⟩ : _ ∧ _ ∧ _))) fun _ s6 ⟨σ6, H6, I6, q6, l6, k6⟩ => ?_
      refine thn (hc _ _ _ _ s6 σ6 H6 _ I6 q6) fun ok s7 ⟨H7, I7, q7⟩ => ?_
      have weak : ∀ {H' : Hp} {s' : Shared} {pl : List (Addr × Obj)}, Inv (cxB X scope N { s2 with heap := hp } H2 (s2.heap.objs.size :: fp)) pl σ6 H' s' → Inv (cxB X scope N { s2 with heap := hp } H2 (s2.heap.objs.size :: fp)) pl (st0 own caps σ) H' s' := fun I' =>
        I'.weak l6.symm fun j v e => k6 j v (by
          by_cases hj : j < own
          · unfold st0 at e
            rw [List.getElem?_append_left (by simpa using hj), List.getElem?_replicate] at e
            split at e <;> cases e
          · (clear e l6 hz hd3 nD3 len0 hD0 hDC hC ehp hN hkind hsc hX hcalm; omega)) e
      have after : ∀ {H' : Hp} {s' : Shared}, Inv (cxB X scope N { s2 with heap := hp } H2 (s2.heap.objs.size :: fp)) ([(s2.heap.objs.size, { cls := .type "list", data := .seq its.toArray na })] ++ pinsAt fp s5.heap) σ6 H' s' →
          tn (i + 1) s'.heap ∧ (∀ b ∈ fp, H' b = none) ∧ H' s2.heap.objs.size = none ∧ s'.heap.get? s2.heap.objs.size = some { cls := .type "list", data := .seq its.toArray na } := fun I' => by
        refine ⟨T.keep _ _ _ st5 fun b hb o e => (I'.pin (b, o) (List.mem_append_right _ (List.mem_append_right _ (mem_pinsAt hb e)))).1, fun b hb => ?_, ?_, ?_⟩
        · obtain ⟨o, e, d⟩ := T.obj _ _ st5 b hb
          exact (I'.pin (b, o) (List.mem_append_right _ (List.mem_append_right _ (mem_pinsAt hb e)))).2.1
        · exact (I'.pin _ (List.mem_append_right _ (List.mem_append_left _ List.mem_cons_self))).2.1
        · exact (I'.pin _ (List.mem_append_right _ (List.mem_append_left _ List.mem_cons_self))).1
      cases ok with
      | false =>
        rw [if_neg Bool.false_ne_true]
        obtain ⟨m', hm, w7⟩ := (show ∃ m', m' < n ∧ W (i + 1) m' ys H7 by rw [if_neg Bool.false_ne_true] at q7; exact q7)
        obtain ⟨a1, a2, a3, a4⟩ := after I7
        exact ⟨m', hm, i + 1, ys, its, na, H7, (weak I7).pins_of (fun p hp' => absurd hp' (by simp)), a1, a2, a3, rv3, a4, w7⟩
      | true =>
        rw [if_pos rfl]
        rw [if_pos rfl] at q7
        refine thn (he _ _ _ _ s7 σ6 H7 _ I7 q7) fun yv s8 ⟨y, H8, I8, r8, m', hm, w8⟩ => ?_
        obtain ⟨a1, a2, a3, a4⟩ := after I8
        have hl := rv3.length
        refine call_meets F.slot_list_append ⟨_, a4, rfl⟩ F.entry_list_append (F.args_list_append_2 _ _) (PySem.list_append s2.heap.objs.size its.toArray na yv (by rw [List.size_toArray]; (clear a4 a3 hm l6 hd3 nD3 len0 hD0 hDC hC ehp hN hkind hsc hX hcalm; omega))) ⟨a4, ?_⟩
        have I9 : Inv (cxB X scope N { s2 with heap := hp } H2 (s2.heap.objs.size :: fp)) [] (st0 own caps σ) H8 s8 := (weak I8).pins_of (fun p hp' => absurd hp' (by simp))
        have q : (s8.heap.update s2.heap.objs.size (Obj.mapSeq (·.push yv))).get? s2.heap.objs.size = some { cls := .type "list", data := .seq (its ++ [yv]).toArray (na + 1) } := by
          have q := PySem.IsL.update a4 (·.push yv)
          simpa using q
        refine ⟨m', hm, i + 1, ys ++ [y], its ++ [yv], na + 1, H8, I9.turned (it := s2.heap.objs.size) (t' := s8.toks) (fun b o hb e => ?_) a3 (hDC) (.inl List.mem_cons_self) (fun x c z => Nat.ne_of_lt (cellLt z)) (fun p hp' => absurd (show p ∈ ([] : List (Addr × Obj)) from hp') (by simp)), ?_, a2, a3, rv3.append (.cons r8 .nil), q, w8⟩
        · rw [Heap.get?_update_other _ _ (Ne.symm hb)]; exact e
        · exact T.keep _ _ _ a1 fun b hb o e => by rw [Heap.get?_update_other _ _ (Ne.symm (fpC b hb).2)]; exact e
  exact codeAny_compStart_list (loop _ rfl) (T.self _ 0 _ _ _ (T.keep _ _ _ st2 fun b _ o q => up1 (up q)) (loop _ rfl))
theorem pe_comp {elt target iter : Expr} {ifs : List Expr} {scope sc0 : Scope} {pos : Pos} {N N0 : List Str} {own : Nat} {caps : List Nat} {wi : TI} {g : TG} {tc : TT} {te : TE}
    (hcalm : X.calm = true) (hi : PI X target iter wi)
    (hg : ∀ s₀ H₀ ex, PG (cxB X scope N s₀ H₀ ex) target g) (hc : ∀ s₀ H₀ ex, PIfs (cxB X scope N s₀ H₀ ex) ifs tc) (he : ∀ s₀ H₀ ex, PE (cxB X scope N s₀ H₀ ex) elt te) (hk : GKeep own g)
    (hX : X.N = N0) (hsc : X.env.scope = sc0)
    (hcell : ∀ y ∈ scope.names, y.2 ≠ .cell) (hkind : scope.kind = .function) (hnames : ∀ y ∈ scope.names, y.2 = .local → scope.names.lookup y.1 = some .local)
    (hfree : ∀ y ∈ scope.names, y.2 = .free → sc0.names.lookup y.1 = some .cell) (hN : N.length = own + caps.length)
    (hcap : ∀ p ∈ caps.zip (N.drop own), N0[p.1]? = some p.2 ∧ scope.names.lookup p.2 = some .free)
    (hs : ∀ x, foldedSetIterable iter X.env x = pure x := by intro _; rfl) :
    PE X (.ListComp elt [⟨target, iter, ifs, 0⟩] scope pos) (tComp own caps wi g tc te) := by
  intro pins s σ H Q I h
  rw [eval_ListComp]
  exact comp_core hcalm hi hg hc he hk hX hsc hcell hkind hnames hfree hN hcap hs I h fun D C s' He ys m f hn hI _ q => ⟨m, hn, fun h' hsb => ⟨.ref D, _, hI h' hsb, rfl, q⟩⟩
end
end L2
set_option maxRecDepth 100000
set_option maxHeartbeats 4000000
namespace L2
open PySem PySem.Spec PyProof.Rows
theorem ObjOk.at {P : Program} {w : World} {H : Hp} {h : Heap} {a : Addr} {o : HO} (x : ObjOk P w H h a o) : ∃ ob, h.get? a = some ob := by
  cases o with
  | lst xs => obtain ⟨_, _, _, _, e⟩ := x; exact ⟨_, e⟩
  | tup xs => obtain ⟨_, _, _, ob, e, _⟩ := x; exact ⟨_, e⟩
  | dK kvs => obtain ⟨_, _, _, _, o, _, _, e, _⟩ := x; exact ⟨_, e⟩
  | dT kvs => obtain ⟨_, _, _, _, o, _, _, e, _⟩ := x; exact ⟨_, e⟩
  | set S n => obtain ⟨o, _, _, _, e, _⟩ := x; exact ⟨_, e⟩
  | ins C dx fs => obtain ⟨_, _, _, e, _⟩ := x; exact ⟨_, e⟩
  | own y => obtain ⟨_, e⟩ := x; exact ⟨_, e⟩
  | xd fs => obtain ⟨_, ⟨_, _, _, e, _⟩, _⟩ := x; exact ⟨_, e⟩
  | rng lo hi => obtain ⟨_, _, _, e⟩ := x; exact ⟨_, e⟩
  | frz ob u => obtain ⟨e, _⟩ := x; exact ⟨_, e⟩
  | tbl ps => exact ⟨_, show h.get? a = some _ from x⟩
  | met f y => exact ⟨_, show h.get? a = some _ from x⟩
  | ext φ => obtain ⟨_, ⟨_, e⟩, _⟩ := x; exact ⟨_, e⟩
noncomputable def CX1 (P : Program) (w : World) : CXT := fun outer H s E e s' => ∃ (ea : Addr) (cls a0 : Value) (B : Heap) (H' : Hp),
  e = .ref ea ∧ s'.os = s.os ∧ AllBare s'.gens ∧ Un (frs outer) [] H H' s.heap s'.heap ∧ HOk P w H' s'.heap ∧ Heap.FlyingW B outer ea cls a0 s'.heap ∧
  (∀ b o, s.heap.get? b = some o → H b = none → b ∉ frs outer → B.get? b = some o) ∧ (∀ b o, s.heap.get? b = some o → b ∉ frs outer → ∃ o', B.get? b = some o') ∧
  (∀ b u, H' b = some u → ∃ o, B.get? b = some o) ∧ E cls none H'
theorem CX1.no {P : Program} {w : World} {outer : List Env} {H : Hp} {s s' : Shared} {e : Value} (h : CX1 P w outer H s (fun _ _ _ => False) e s') : False := by
  obtain ⟨_, _, _, _, _, _, _, _, _, _, _, _, _, _, z⟩ := h
  exact z
theorem un_fly {fs : List Addr} {H H' : Hp} {h h1 h2 B base : Heap} {outer : List Env} (hfs : fs = frs outer) (u : Un fs [] H H' h h1) (k1 : ∀ b o, h.get? b = some o → H b = none → b ∉ fs → B.get? b = some o)
    (k3 : ∀ b o, h.get? b = some o → b ∉ fs → ∃ o', B.get? b = some o') (ff : h1.FunFrames base outer) (st : B.StaysIn h2) (up : h1.UpToSlots h2) : Un fs [] H H' h h2 := by
  have fr : ∀ b ∈ fs, ∀ o, h1.get? b = some o → ∃ sl, h2.get? b = some { o with slots := sl } := fun b hb o e => by
    rw [hfs] at hb
    obtain ⟨_, o', e', nf⟩ := ff.mem hb
    rw [e] at e'; cases e'
    exact up b o e nf
  refine ⟨fun b o e n hb _ => st b o (k1 b o e n hb), fun b o e n hb hx => ?_, u.free, fun b o e hx => ?_, u.tups, u.frzs, u.tbls⟩
  · obtain ⟨sl, e1⟩ := u.slot b o e n hb hx
    obtain ⟨sl', e2⟩ := fr b hb _ e1
    exact ⟨sl', e2⟩
  · by_cases hb : b ∈ fs
    · obtain ⟨o1, e1⟩ := u.there b o e hx
      obtain ⟨sl, e2⟩ := fr b hb _ e1
      exact ⟨_, e2⟩
    · obtain ⟨o', e'⟩ := k3 b o e hb
      exact ⟨o', st b o' e'⟩
theorem hok_fly {P : Program} {w : World} {H : Hp} {h1 h2 B : Heap} (x : HOk P w H h1) (k2 : ∀ b u, H b = some u → ∃ o, B.get? b = some o) (s1 : B.StaysIn h1) (s2 : B.StaysIn h2) : HOk P w H h2 := fun b u e => by
  refine (x b u e).stay (fun c v hc q => ?_) (fun _ q => q) fun _ _ q => q
  have ht : ∃ z, H c = some z := by
    rcases hc with z | z
    · subst z; exact ⟨u, e⟩
    · exact ⟨_, z⟩
  obtain ⟨z, ez⟩ := ht
  obtain ⟨o, eo⟩ := k2 c z ez
  have := s1 c o eo
  rw [q] at this; cases this
  exact s2 c v eo
section
variable {P : Program} {w : World} {K : PySem.W.Frag} {mg : Str → Option Value} {base : Heap} {N : List Str} {qual : Str} {scope : Scope} {f : Addr} {cdv : Value} {A : Around} {outer : List Env} {s₀ : Shared} {H₀ : Hp} {E E' : XK}
noncomputable def Raises (X : Cx) (E : XK) : Prop := ∀ (pins : List (Addr × Obj)) (σ : St) (H : Hp) (s : Shared) (h' : Heap) (ea : Addr) (cls : Value) (args : List Value), Inv X pins σ H s → Heap.MadeExcOf s.heap h' ea cls args → E cls none H → X.xe (.ref ea) { s with heap := h' }
theorem raise_out : Raises (cxOf (CX1 P w) P w K mg base N qual scope f cdv A outer s₀ H₀ E) E := by
  intro pins σ H s h' ea cls args I hx hE
  have stk := I.stack
  have hin : ∀ env ∈ (cxOf (CX1 P w) P w K mg base N qual scope f cdv A outer s₀ H₀ E).stack, ∀ b, env.frame = some b → b ∈ frs (cxOf (CX1 P w) P w K mg base N qual scope f cdv A outer s₀ H₀ E).stack := fun env he b hb => List.mem_filterMap.mpr ⟨env, he, hb⟩
  have inB : ∀ {b : Addr} {o : Obj}, s.heap.get? b = some o → b ∉ frs (cxOf (CX1 P w) P w K mg base N qual scope f cdv A outer s₀ H₀ E).stack → (PySem.W.hideAll s.heap (frs (cxOf (CX1 P w) P w K mg base N qual scope f cdv A outer s₀ H₀ E).stack)).get? b = some o := fun e hb => PySem.W.hideAll_get _ e hb
  have hL : ∀ {b : Addr} {o : Obj}, s₀.heap.get? b = some o → b ∉ frs outer → b ∉ frs (cxOf (CX1 P w) P w K mg base N qual scope f cdv A outer s₀ H₀ E).stack := fun {b o} e hb z => by
    rcases List.mem_cons.mp (I.stkSub b z) with q | q
    · have h1 := Heap.lt_size e
      have h2 : s₀.heap.objs.size ≤ (cxOf (CX1 P w) P w K mg base N qual scope f cdv A outer s₀ H₀ E).env.locals := I.ok.above
      rw [q] at h1
      exact Nat.lt_irrefl _ (Nat.lt_of_lt_of_le h1 h2)
    · exact hb q
  show wpAny (model P w) (A.deeper (envOfC qual scope s₀.heap.objs.size f cdv)) (leaving (envOfC qual scope s₀.heap.objs.size f cdv) (.ref ea)) _ _ _
  refine wpAny_leaves_madeW (s := { s with heap := h' }) (h := s.heap) (base := PySem.W.hideAll s.heap (frs (cxOf (CX1 P w) P w K mg base N qual scope f cdv A outer s₀ H₀ E).stack)) I.ok.frames rfl (fun b o q => PySem.W.of_hideAll _ q) (PySem.W.funFrames_hide stk hin) hx fun h'' t fl _ _ up => ?_
  have u0 : Un (frs outer) [] H₀ H s₀.heap s.heap := I.base
  have tr : ∀ b u, H b = some u → b ∉ frs (cxOf (CX1 P w) P w K mg base N qual scope f cdv A outer s₀ H₀ E).stack := fun b u e z => by rw [I.stkFree b z] at e; cases e
  have k1 : ∀ b o, s₀.heap.get? b = some o → H₀ b = none → b ∉ frs outer → (PySem.W.hideAll s.heap (frs (cxOf (CX1 P w) P w K mg base N qual scope f cdv A outer s₀ H₀ E).stack)).get? b = some o := fun b o e n hb => inB (u0.keep b o e n hb (by simp)) (hL e hb)
  have k3 : ∀ b o, s₀.heap.get? b = some o → b ∉ frs outer → ∃ o', (PySem.W.hideAll s.heap (frs (cxOf (CX1 P w) P w K mg base N qual scope f cdv A outer s₀ H₀ E).stack)).get? b = some o' := fun b o e hb => by
    obtain ⟨o', e'⟩ := u0.there b o e (by simp)
    exact ⟨o', inB e' (hL e hb)⟩
  have k2 : ∀ b u, H b = some u → ∃ o, (PySem.W.hideAll s.heap (frs (cxOf (CX1 P w) P w K mg base N qual scope f cdv A outer s₀ H₀ E).stack)).get? b = some o := fun b u e => by
    obtain ⟨o, eo⟩ := (I.hok b u e).at
    exact ⟨o, inB eo (tr b u e)⟩
  exact ⟨ea, cls, .ref t, _, H, rfl, I.os, I.bare, un_fly rfl u0 k1 k3 I.funs fl.1 ((Heap.UpToSlots.of_keeps hx.keeps).trans up), hok_fly I.hok k2 (fun b o q => PySem.W.of_hideAll _ q) fl.1, fl, k1, k3, k2, hE⟩
theorem pass_out (hE : ∀ cls od H', E' cls od H' → E cls od H') : Passes (CX1 P w) (cxOf (CX1 P w) P w K mg base N qual scope f cdv A outer s₀ H₀ E) E' := by
  intro pins σ H s e s' I h
  obtain ⟨ea, cls, a0, B, H', rfl, os, bare, un, hok, fl, k1, k3, k2, hx⟩ := h
  have stk : (cxOf (CX1 P w) P w K mg base N qual scope f cdv A outer s₀ H₀ E).stack = envOfC qual scope s₀.heap.objs.size f cdv :: outer := rfl
  have hfrs : frs (cxOf (CX1 P w) P w K mg base N qual scope f cdv A outer s₀ H₀ E).stack = s₀.heap.objs.size :: frs outer := rfl
  have u0 : Un (frs outer) [] H₀ H s₀.heap s.heap := I.base
  have notL : ∀ {b : Addr} {o : Obj}, s₀.heap.get? b = some o → b ∉ frs outer → b ∉ frs (cxOf (CX1 P w) P w K mg base N qual scope f cdv A outer s₀ H₀ E).stack := fun {b o} e hb z => by
    rw [hfrs] at z
    rcases List.mem_cons.mp z with q | q
    · have h1 := Heap.lt_size e
      rw [q] at h1
      exact Nat.lt_irrefl _ h1
    · exact hb q
  show wpAny (model P w) (A.deeper (envOfC qual scope s₀.heap.objs.size f cdv)) (leaving (envOfC qual scope s₀.heap.objs.size f cdv) (.ref ea)) _ _ _
  refine wpAny_leaves_onW I.ok.frames rfl fl fun h'' fl2 up => ?_
  have u1 : Un (frs outer) [] H₀ H' s₀.heap s'.heap := by
    refine ⟨fun b o e n hb hx => ?_, fun b o e n hb hx => ?_, fun b o e n hx => ?_, fun b o e hx => ?_, fun b xs q => un.tups b xs (u0.tups b xs q), fun b ob u q => un.frzs b ob u (u0.frzs b ob u q), fun b ps q => ?_⟩
    · exact un.keep b o (u0.keep b o e n hb hx) (u0.free b o e n hx) (notL e hb) (by simp)
    · obtain ⟨sl, e1⟩ := u0.slot b o e n hb hx
      obtain ⟨sl', e2⟩ := un.any e1 (u0.free b o e n hx) (by simp)
      exact ⟨sl', e2⟩
    · obtain ⟨o', e1⟩ := u0.there b o e hx
      exact un.free b o' e1 (u0.free b o e n hx) (by simp)
    · obtain ⟨o', e1⟩ := u0.there b o e hx
      exact un.there b o' e1 (by simp)
    · obtain ⟨m1, e1⟩ := u0.tbls b ps q
      obtain ⟨m2, e2⟩ := un.tbls b _ e1
      exact ⟨m1 ++ m2, by rw [e2, Array.append_assoc]⟩
  have K1 : ∀ b o, s₀.heap.get? b = some o → H₀ b = none → b ∉ frs outer → B.get? b = some o := fun b o e n hb => k1 b o (u0.keep b o e n hb (by simp)) (u0.free b o e n (by simp)) (notL e hb)
  have K3 : ∀ b o, s₀.heap.get? b = some o → b ∉ frs outer → ∃ o', B.get? b = some o' := fun b o e hb => by
    obtain ⟨o', e1⟩ := u0.there b o e (by simp)
    exact k3 b o' e1 (notL e hb)
  have ff : s'.heap.FunFrames B outer := by
    obtain ⟨_, _, ⟨_, _, r⟩, _⟩ := fl
    exact r
  exact ⟨ea, cls, a0, B, H', rfl, os.trans I.os, bare, un_fly rfl u1 K1 K3 ff fl2.1 up, hok_fly hok k2 fl.1 fl2.1, fl2, K1, K3, k2, hE _ _ _ hx⟩
end
theorem exc_obj {K : PySem.W.Frag} {h : Heap} {C : Addr} {bmB : List Value} {newId : String} (X : K.In h) (q : PySem.W.excIn K C bmB newId = true) :
    ∃ bm N nm qn bs hdct sn sub ab col dd k0 k1 k2 k3 k5 mN, h.get? C = some (excClassObj nm qn C N bs bm hdct sn sub ab col dd k0 k1 k2 k3 k5 newId) ∧ h.Ns N mN ∧ mN "__init__" = none ∧ OwnTail h bmB bm := by
  unfold PySem.W.excIn at q
  split at q
  · rename_i dd cd sl ho
    split at q
    · rename_i C' bm k0 k1 k2 k3 n k5 hm hs
      simp only [Bool.and_eq_true, beq_iff_eq, Bool.not_eq_true'] at q
      obtain ⟨⟨⟨⟨⟨rfl, rfl⟩, hdel⟩, ht⟩, hok⟩, hni⟩ := q
      obtain ⟨nm, bs, mro, ns, qn, hd, sn, sub, ab, col, del⟩ := cd
      dsimp only at hm hdel hok hni
      subst hm hdel
      have hsl : sl = #[k0, k1, k2, k3, some (.builtin n), k5] := by
        obtain ⟨l⟩ := sl
        simp only at hs
        rw [hs]
      subst hsl
      exact ⟨bm, ns, nm, qn, bs, hd, sn, sub, ab, col, dd, k0, k1, k2, k3, k5, _, X _ _ ho, .of_isNs (PySem.W.isNs_of_in X hok), PySem.W.nsMap_none_of_in X hok hni, PySem.W.tail_of_in X ht⟩
    · cases q
  · cases q
section
variable {X : Cx} {E : XK}
noncomputable def tRaise (C : Addr) (E : XK) (t : TA) : TS := fun _ σ H => t σ H fun vs H1 => vs.length ≤ sizeLine ∧ E (.ref C) none H1
theorem ps_raise {x : Str} {C : Addr} {e : Expr} {es : List Expr} {t : TA} {np cpos pos : Pos} {B Bn newId nid initId inN : String} {bmB bmN : List Value} (hcalm : X.calm = true) (hq : PySem.W.excIn X.K C bmB newId = true)
    (Fn : ExcBaseFacts Bn newId inN bmN) (hBn : bmB.contains (.type Bn) = true) (FB : ExcBaseFacts B nid initId bmB) (hg : Gl X x) (hm : X.mg x = some (.ref C)) (ha : PA X (e :: es) t) (hR : Raises X E)
    (hdb : (x == ("__debug__" : Str)) = false := by decide) (he : starEach (e :: es) X.env = (false, eval e X.env) :: starEach es X.env := by rfl) (hpl : (backTo cpos (starEach es X.env)).any (·.1) = false := by rfl) :
    PS X (.Raise (some (.Call (.Name x np) (e :: es) [] cpos)) none pos) (tRaise C E t) := by
  intro pins s σ H D I h
  obtain ⟨tl, N, nm, qn, bs, hdct, sn, sub, ab, col, dd, k0, k1, k2, k3, k5, mN, hC, hN, hni, T⟩ := exc_obj I.ok.mod.kin hq
  refine wpAny_Raise_call_subU (C := C) (nm := nm) (q := qn) (N := N) (bs := bs) (bm := tl) (hdct := hdct) (sn := sn) (sub := sub) (ab := ab) (col := col) (dd := dd) (k0 := k0) (k1 := k1) (k2 := k2) (k3 := k3) (k5 := k5)
    Fn hBn FB (mN := mN) (T.hasType FB.hasBase) (I.ok.hd hcalm) (by rw [he]; show (false || (backTo cpos (starEach es X.env)).any (·.1)) = false; rw [hpl]; rfl) hni (ld_glob I hg hm ⟨rfl, ?_⟩ hdb)
  have hA := ha cpos pins s σ H _ I h
  rw [he] at hA ⊢
  exact Calls.evalArgs_plain (thn hA fun us s2 ⟨vs, H2, I2, r, hz, hE⟩ => ⟨rfl, by rw [← r.length]; exact hz, I2.bk _ _ hC, hN.keeps I2.bk, T.keeps I2.bk, fun h' ea mk => hR pins σ H2 s2 h' ea (.ref C) us I2 mk hE⟩)
end
section
variable {P : Program} {w : World} {K : PySem.W.Frag} {mg : Str → Option Value} {base : Heap}
theorem Fun.ok1 {x qual : Str} {st : Stmt} {f : Addr} {fd : FuncData} {N ps : List Str} {k : Nat} {sp : Sp} (F : Fun K x qual st f fd) (S : FnScope N ps (defScope st)) (len : ∀ vs H Q E, sp vs H Q E → vs.length = ps.length)
    (hbody : ∀ (cdv : Value) (A : Around) (outer : List Env) (s : Shared) (H : Hp) (vs : List V) (Q : VK) (E : XK), Room k (A.deeper (envOfC qual (defScope st) s.heap.objs.size f cdv)) → sp vs H Q E →
      ∃ t, PSs (cxOf (CX1 P w) P w K mg base N qual (defScope st) f cdv A outer s H E) (defBody st) t ∧ t { nx := fun _ H' => Q .non H', rt := Q } (start N vs) H) : FnOk P w K mg base (CX1 P w) (k + 1) f fd ps sp := by
  obtain ⟨oc, od, kV, doc, pm, an, cdv, ct, osl, rfl, lk, hcd⟩ := F.ex
  exact fn_of lk hcd S len fun A outer s H vs Q E hr hsp => hbody cdv A outer s H vs Q E hr hsp
end
end L2
set_option maxRecDepth 100000
set_option maxHeartbeats 4000000
namespace L2
open PySem PySem.Spec PyProof.Rows
noncomputable def ExcO (ea C : Addr) : HO := .ext fun h => ∃ o vs, h.get? ea = some o ∧ o.cls = .ref C ∧ o.data = .fields vs
noncomputable abbrev Cx.tr (X : Cx) (p : List (Addr × Obj)) (E : Value → Shared → Prop) : Cx := { X with pn := p, xe := E }
noncomputable def cxH (X : Cx) (ea : Addr) (p : List (Addr × Obj)) : Cx := { X with A := X.A.mark (some (.ref ea)), calm := false, xe := fun _ _ => False, pn := p }
noncomputable def PassS (CX : CXT) (X : Cx) (E : St → XK) : Prop := ∀ (pins : List (Addr × Obj)) (σ : St) (H : Hp) (s : Shared) (e : Value) (s' : Shared), Inv X pins σ H s → CX X.stack H s (E σ) e s' → X.xe e s'
noncomputable def tCallS (sp : Sp) (dvs : List V) (E : St → XK) (t : TA) : TE := fun σ H Q => t σ H fun vs H1 => sp (vs ++ dvs) H1 Q (E σ)
section
variable {X : Cx} {CX : CXT} {k : Nat} {f C : Addr} {fd : FuncData} {ps : List Str} {sp : Sp} {dvs : List V} {ds : List Value} {E : St → XK} {x m : Str} {p pos apos : Pos} {e o : Expr} {es : List Expr} {ta : TE} {t : TA}
theorem run_fnS {pins : List (Addr × Obj)} {σ : St} {H : Hp} {s : Shared} {Q : VK} {us : List Value} {vs : List V} (F : FnOk X.prog X.w X.K X.mg X.base CX k f fd ps sp) (hr : Room k X.A) (hb : Binds X.K fd ps ds) (hd : Vals dvs ds) (hx : PassS CX X E)
    (I : Inv X pins σ H s) (r : Vals vs us) (h : sp (vs ++ dvs) H Q (E σ)) : wpAny (model X.prog X.w) X.A (call (.ref f) us) (EP X pins σ Q) X.xe s := by
  have r2 : Vals (vs ++ dvs) (us ++ ds) := r.append hd
  have hl : (us ++ ds).length = ps.length := by rw [← r2.length]; exact F.len _ _ _ _ h
  refine wpAny_call (codeAny_mono (F.run X.A X.stack s H ⟨us, []⟩ (us ++ ds) (vs ++ dvs) Q (E σ) hr I.env0 (hb s us I.kIn hl) r2 h) fun r s' hq => ?_)
  cases r with
  | error e => exact hx pins σ H s e s' I hq
  | ok fl =>
    cases fl with
    | ret u => exact I.after hq
    | next => exact False.elim hq
    | brk => exact False.elim hq
    | cont => exact False.elim hq
theorem pe_callS (F : FnOk X.prog X.w X.K X.mg X.base CX k f fd ps sp) (hr : Room k X.A) (hg : Gl X x) (hm : X.mg x = some (.ref f)) (hk : PySem.W.keepIn X.K (.ref f) = true) (hb : Binds X.K fd ps ds) (hd : Vals dvs ds) (hx : PassS CX X E)
    (ha : PA X (e :: es) t) (hdb : (x == ("__debug__" : Str)) = false := by decide) (he : starEach (e :: es) X.env = (false, eval e X.env) :: starEach es X.env := by rfl) (hpl : (backTo pos (starEach es X.env)).any (·.1) = false := by rfl) :
    PE X (.Call (.Name x p) (e :: es) [] pos) (tCallS sp dvs E t) := by
  intro pins s σ H Q I h
  refine wpAny_Call_Name_kw (ld_glob I hg hm ?_ hdb)
  refine PySem.W.callWith_K (h₀ := X.base) I.ok.mod.kin hk (thn (ha pos pins s σ H _ I h) fun us s1 ⟨vs, H1, I1, r, q⟩ => ⟨I1.kIn, ?_⟩) he hpl
  exact run_fnS F hr hb hd hx I1 r q
end
section
variable {X : Cx} {pins : List (Addr × Obj)} {σ : St} {H : Hp} {s : Shared}
theorem Inv.unset {n : Str} {i : Nat} {m : Str → Option Value} {u : Option Value} {h' : Heap} (I : Inv X pins σ H s) (hN : X.N.Nodup) (hi : X.N[i]? = some n)
    (hl : ∀ (i : Nat) (x : Str) (v : V), X.N[i]? = some x → σ[i]? = some (some v) → Vis X.env.scope x → ∃ u, RelV v u ∧ Look X.env s.heap m x u)
    (hn' : h'.Ns X.env.locals (fun x => if x = n then u else m x)) (hs : Heap.SameBut X.env.locals s.heap h') : Inv X pins (σ.set i none) H { s with heap := h' } := by
  have cne := I.cne
  obtain ⟨m0, ⟨oL, _, _, hoL, _⟩, _⟩ := id I.loc
  have tracked : HOk X.prog X.w H h' := fun b ob e => by
    refine (I.hok b ob e).stay (fun c w' hc q => (hs.2 c ?_).trans q) (fun _ q => q) fun _ _ q => q
    rintro rfl
    have hf := I.free
    rcases hc with hc | hc
    · rw [← hc, hf] at e; cases e
    · rw [hf] at hc; cases hc
  refine ⟨I.ok, I.os, I.bare, ⟨fun b o e n hb hx => ?_, fun b o e n hb hx => ?_, I.base.free, fun b o e hx => ?_, I.base.tups, I.base.frzs, I.base.tbls⟩, ⟨_, hn', fun j y v' e1 e2 e3 => ?_⟩, fun y c e => ?_, I.free, I.freeC, fun p hp => ?_, tracked, by simpa using I.len⟩
  · exact (hs.2 b (Nat.ne_of_lt (Nat.lt_of_lt_of_le (Heap.lt_size e) I.ok.above))).trans (I.base.keep b o e n hb hx)
  · obtain ⟨sl, e1⟩ := I.base.slot b o e n hb hx
    exact ⟨sl, (hs.2 b (Nat.ne_of_lt (Nat.lt_of_lt_of_le (Heap.lt_size e) I.ok.above))).trans e1⟩
  · obtain ⟨o', e1⟩ := I.base.there b o e hx
    exact ⟨o', (hs.2 b (Nat.ne_of_lt (Nat.lt_of_lt_of_le (Heap.lt_size e) I.ok.above))).trans e1⟩
  · by_cases hj : j = i
    · subst hj
      rw [List.getElem?_set] at e2
      rw [if_pos rfl] at e2
      split at e2 <;> cases e2
    · rw [List.getElem?_set_ne (Ne.symm hj)] at e2
      obtain ⟨u', r', q⟩ := hl j y v' e1 e2 e3
      refine ⟨u', r', ?_⟩
      rcases q with ⟨k, e⟩ | ⟨k, c, e, z⟩
      · refine .inl ⟨k, ?_⟩
        have : y ≠ n := fun e => hj (nodup_ix hN e1 (e ▸ hi))
        simp [this, e]
      · exact .inr ⟨k, c, e, z.sameBut hs (cne y c e)⟩
  · obtain ⟨w', z⟩ := I.cell y c e
    exact ⟨w', z.sameBut hs (cne y c e)⟩
  · obtain ⟨e, n, ne, nf, d⟩ := I.pin p hp
    exact ⟨(hs.2 p.1 ne).trans e, n, ne, nf, d⟩
theorem let_go {n : Str} {i : Nat} {pos : Pos} {Q : Unit → Shared → Prop} (I : Inv X pins σ H s) (hN : X.N.Nodup) (hi : X.N[i]? = some n) (hk : X.env.scope.names.lookup n = some .local)
    (h : ∀ s', Inv X pins (σ.set i none) H s' → Q () s') : wpAny (model X.prog X.w) X.A (do bindName X.env n .none; unbindBehindTheSuite X.env n pos) Q X.xe s := by
  have hcls : (X.env.scope.kind == .class || (X.env.scope.kind == .module && X.env.locals != X.env.globals)) = false := by rw [I.ok.kind]; rfl
  refine wpAny_bind (wpAny_bindName (store_ok I hN hi (.inl hk) (show RelV .non .none from rfl) (fun s1 I1 => ?_) (.inr hk)))
  obtain ⟨m, hn, hl⟩ := id I1.loc
  have hiσ : i < σ.length := by rw [I.len]; exact (List.getElem?_eq_some_iff.mp hi).1
  obtain ⟨u, ru, lk⟩ := hl i n .non hi (by rw [List.getElem?_set_self hiσ]) (.inl hk)
  have hm : m n = some u := by
    rcases lk with ⟨_, e⟩ | ⟨z, _⟩
    · exact e
    · have hk' : X.env.kindOf n = some .local := hk
      rw [hk'] at z
      rcases z with z | z <;> cases z
  unfold unbindBehindTheSuite
  refine wpAny_onRaise (wpAny_unbindName_local hk hn hm hcls fun h' u' hn' hs' => ?_)
  have I2 := I1.unset hN hi hl hn' hs'
  rw [List.set_set] at I2
  exact h _ I2
end
section
variable {X : Cx}
noncomputable def tTry (K : PySem.W.Frag) (CH : Addr) (i : Nat) (E : St → XK) (tb ts : TS) : TS := fun D σ H => tb D σ H ∧ ∀ σ' cls H' ea, E σ' cls none H' → H' ea = none →
  ∃ C, cls = .ref C ∧ PySem.W.exmOne K (.ref C) (.ref CH) = some true ∧
    ts { nx := fun σ2 H2 => D.nx (σ2.set i none) H2, rt := D.rt, bk := fun σ2 H2 => D.bk (σ2.set i none) H2, ct := fun σ2 H2 => D.ct (σ2.set i none) H2 } (σ'.set i (some (.ref ea))) (upd H' ea (ExcO ea C))
theorem try_pass {pins : List (Addr × Obj)} {D : Ends} {CH : Addr} {i : Nat} {E : St → XK} {x n : Str} {np pos : Pos} {b₀ : Stmt} {suite : List Stmt} {ts : TS}
    (hstk : X.stack = X.env :: X.outer) (hfr : X.env.frame = some X.env.locals) (hN : X.N.Nodup) (hi : X.N[i]? = some n) (hk : X.env.scope.names.lookup n = some .local) (hg : Gl X x) (hm : X.mg x = some (.ref CH))
    (hs : ∀ ea p, PSs (cxH X ea p) (b₀ :: suite) ts)
    (hc : ∀ σ' cls H' ea, E σ' cls none H' → H' ea = none → ∃ C, cls = .ref C ∧ PySem.W.exmOne X.K (.ref C) (.ref CH) = some true ∧
      ts { nx := fun σ2 H2 => D.nx (σ2.set i none) H2, rt := D.rt, bk := fun σ2 H2 => D.bk (σ2.set i none) H2, ct := fun σ2 H2 => D.ct (σ2.set i none) H2 } (σ'.set i (some (.ref ea))) (upd H' ea (ExcO ea C)))
    (hdb : (x == ("__debug__" : Str)) = false := by decide) :
    PassS (CX1 X.prog X.w) (X.tr (X.pn ++ pins) fun e s₁ => wpAny (model X.prog X.w) X.A (noteFrame e X.env) (fun _ s₂ => wpAny (model X.prog X.w) X.A (setFlight e none) (fun _ s₃ =>
      wpAny (model X.prog X.w) X.A (handleBy e X.env [.ExceptHandler (some (.Name x np)) (some n) (b₀ :: suite) pos]) (SP X pins D) X.xe s₃) X.xe s₂) X.xe s₁) E := by
  intro pins' σ' H1 s1 e s' I1 hx
  obtain ⟨ea, cls, a0, B, H', rfl, os, bare, un, hok, fl, k1, k3, k2, hE⟩ := hx
  have fl' : Heap.FlyingW B (X.env :: X.outer) ea cls a0 s'.heap := hstk ▸ fl
  have hfrm : X.A.frames = some (X.env :: X.outer) := hstk ▸ I1.ok.frames
  have nfr : ea ∉ frs X.stack := fun z => by
    obtain ⟨_, o, ho, nf⟩ := fl.2.2.1.mem z
    obtain ⟨oe, vs, _, _, _, he, _, hd, _⟩ := fl.2.2.2
    rw [he] at ho; cases ho
    exact nf vs hd
  have nE : ∀ {b : Addr} {o : Obj}, s1.heap.get? b = some o → b ≠ ea := fun {b o} q z => by
    subst z
    obtain ⟨o', e'⟩ := k3 b o q nfr
    rw [fl.2.1] at e'; cases e'
  have nH : H' ea = none := by
    cases q : H' ea with
    | none => rfl
    | some u =>
      obtain ⟨o, e'⟩ := k2 ea u q
      rw [fl.2.1] at e'; cases e'
  have go : ∀ {h2 : Heap}, Heap.FlyingW B (X.env :: X.outer) ea cls a0 h2 → s'.heap.UpToSlots h2 → Inv (X.tr (X.pn ++ pins) fun e s₁ => wpAny (model X.prog X.w) X.A (noteFrame e X.env) (fun _ s₂ => wpAny (model X.prog X.w) X.A (setFlight e none) (fun _ s₃ =>
      wpAny (model X.prog X.w) X.A (handleBy e X.env [.ExceptHandler (some (.Name x np)) (some n) (b₀ :: suite) pos]) (SP X pins D) X.xe s₃) X.xe s₂) X.xe s₁) pins' σ' H' { s' with heap := h2 } := fun {h2} fl2 up =>
    I1.call' (s' := { s' with heap := h2 }) (ch := []) os (un_fly rfl un k1 k3 fl.2.2.1 fl2.1 up) (hok_fly hok k2 fl.1 fl2.1) bare fun b z => absurd z (by simp)
  have toH : ∀ {s2 : Shared} {H2 : Hp}, Inv (X.tr (X.pn ++ pins) fun e s₁ => wpAny (model X.prog X.w) X.A (noteFrame e X.env) (fun _ s₂ => wpAny (model X.prog X.w) X.A (setFlight e none) (fun _ s₃ =>
      wpAny (model X.prog X.w) X.A (handleBy e X.env [.ExceptHandler (some (.Name x np)) (some n) (b₀ :: suite) pos]) (SP X pins D) X.xe s₃) X.xe s₂) X.xe s₁) pins' σ' H2 s2 → Inv (cxH X ea (X.pn ++ pins)) [] σ' H2 s2 := fun I =>
    ⟨⟨I.ok.mod, I.ok.kind, I.ok.glob, I.ok.blt, I.ok.above, I.ok.inj, I.ok.has, I.ok.cab, (fun z => by cases z), I.ok.frames, I.ok.stk, I.ok.exf, I.ok.bs, I.ok.bsz, I.ok.noex, I.ok.exfs, I.ok.funs, I.ok.frf⟩,
      I.os, I.bare, I.base, I.loc, I.cell, I.free, I.freeC, fun p hp => I.pin p (List.mem_append_left _ (by have hp' : p ∈ (X.pn ++ pins) ++ [] := hp; rw [List.append_nil] at hp'; exact hp')), I.hok, I.len⟩
  refine wpAny_looks_onW hfrm hfr fl' fun h4 held up4 => ?_
  refine wpAny_landsW held fun h5 fl5 up5 => ?_
  obtain ⟨C, rfl, hexm, hts⟩ := hc σ' cls H' ea hE nH
  have I5 := toH (go fl5 (up4.trans up5))
  refine wpAny_handleBy_cons (codeAny_handlers_test ?_) (by intro q; cases q)
  refine ld_glob I5 hg hm ?_ hdb
  obtain ⟨ob, hob, hobc⟩ := fl5.there
  have LT : PySem.W.Looks (model X.prog X.w) h5 (typeOf (.ref ea)) (.ref C) := by
    rw [← hobc]
    exact (PySem.W.Looks.ld hob).andThen .now
  refine PySem.W.exm_one I5.kIn LT hexm _ _ _ _ (fun _ _ q => q) ?_
  refine codeAny_handlers_suite_as (lands_againW fl5 fun h6 fl6 up6 => ?_)
  have I6 := toH (go fl6 ((up4.trans up5).trans up6))
  have I7 : Inv (cxH X ea (X.pn ++ pins)) [] σ' (upd H' ea (ExcO ea C)) { s' with heap := h6 } := by
    refine I6.track ?_ nH (fun z => ?_) (fun y c q z => ?_) (fun p hp z => ?_) ?_
    · by_cases hx : ea ∈ X.ex
      · exact .inr hx
      · refine .inl ?_
        cases q : X.s₀.heap.get? ea with
        | none => exact q
        | some o =>
          obtain ⟨o', e'⟩ := I1.base.there ea o q hx
          exact absurd rfl (nE e')
    · exact nfr (by rw [hstk]; exact List.mem_filterMap.mpr ⟨X.env, List.mem_cons_self, by rw [hfr]; exact congrArg some z.symm⟩)
    · obtain ⟨v, oc, hoc, _⟩ := I1.cell y c q
      exact nE hoc z
    · exact nE (I1.pin p (List.mem_append_left _ (by have hp' : p ∈ (X.pn ++ pins) ++ [] := hp; rw [List.append_nil] at hp'; exact hp'))).1 z
    · obtain ⟨oe, vs, _, _, _, he, ⟨hcl, _⟩, hd, _⟩ := fl6.2.2.2
      exact ⟨⟨oe, vs, he, hcl, hd⟩, ⟨oe, he⟩, fun h1 h2 ⟨o, ws, q1, q2, q3⟩ k => ⟨o, ws, k o q1, q2, q3⟩⟩
  refine store_ok (X := cxH X ea (X.pn ++ pins)) I7 hN hi (.inl hk) (show RelV (.ref ea) (.ref ea) from rfl) (fun s8 I8 => ?_) (.inr hk)
  refine wpAny_mono (hs ea (X.pn ++ pins) [] s8 _ _ _ I8 hts) (fun fl9 s9 h9 => ?_) fun _ _ z => False.elim z
  have back : ∀ {σ2 : St} {H2 : Hp}, Inv (cxH X ea (X.pn ++ pins)) [] σ2 H2 s9 → Inv X pins σ2 H2 s9 := fun I =>
    ⟨⟨I1.ok.mod, I1.ok.kind, I1.ok.glob, I1.ok.blt, I1.ok.above, I1.ok.inj, I1.ok.has, I1.ok.cab, I1.ok.hd, I1.ok.frames, I1.ok.stk, I1.ok.exf, I1.ok.bs, I1.ok.bsz, I1.ok.noex, I1.ok.exfs, I1.ok.funs, I1.ok.frf⟩,
      I.os, I.bare, I.base, I.loc, I.cell, I.free, I.freeC, fun p hp => I.pin p (List.mem_append_left _ hp), I.hok, I.len⟩
  show wpAny (model X.prog X.w) X.A (do bindName X.env n .none; unbindBehindTheSuite X.env n pos) (fun _ s₃ => SP X pins D fl9 s₃) X.xe s9
  cases fl9 with
  | next =>
    obtain ⟨σ2, H2, I9, q9⟩ := h9
    exact let_go (back I9) hN hi hk fun s10 I10 => ⟨_, H2, I10, q9⟩
  | brk =>
    obtain ⟨σ2, H2, I9, q9⟩ := h9
    exact let_go (back I9) hN hi hk fun s10 I10 => ⟨_, H2, I10, q9⟩
  | cont =>
    obtain ⟨σ2, H2, I9, q9⟩ := h9
    exact let_go (back I9) hN hi hk fun s10 I10 => ⟨_, H2, I10, q9⟩
  | ret u =>
    obtain ⟨v, σ2, H2, I9, rv, q9⟩ := h9
    exact let_go (back I9) hN hi hk fun s10 I10 => ⟨v, _, H2, I10, rv, q9⟩
theorem ps_try {CH : Addr} {i : Nat} (E : St → XK) {x n : Str} {np hpos pos : Pos} {b₀ : Stmt} {suite body : List Stmt} {tb ts : TS}
    (hstk : X.stack = X.env :: X.outer) (hfr : X.env.frame = some X.env.locals) (hN : X.N.Nodup) (hi : X.N[i]? = some n) (hk : X.env.scope.names.lookup n = some .local) (hg : Gl X x) (hm : X.mg x = some (.ref CH))
    (hb : ∀ p xe, PassS (CX1 X.prog X.w) (X.tr p xe) E → PSs (X.tr p xe) body tb) (hs : ∀ ea p, PSs (cxH X ea p) (b₀ :: suite) ts)
    (hdb : (x == ("__debug__" : Str)) = false := by decide) : PS X (.Try body [.ExceptHandler (some (.Name x np)) (some n) (b₀ :: suite) hpos] [] [] pos) (tTry X.K CH i E tb ts) := by
  intro pins s σ H D I h
  obtain ⟨h1, h2⟩ := h
  refine wpAny_Try_except ?_
  have I' : Inv (X.tr (X.pn ++ pins) fun e s₁ => wpAny (model X.prog X.w) X.A (noteFrame e X.env) (fun _ s₂ => wpAny (model X.prog X.w) X.A (setFlight e none) (fun _ s₃ =>
      wpAny (model X.prog X.w) X.A (handleBy e X.env [.ExceptHandler (some (.Name x np)) (some n) (b₀ :: suite) hpos]) (SP X pins D) X.xe s₃) X.xe s₂) X.xe s₁) [] σ H s :=
    ⟨⟨I.ok.mod, I.ok.kind, I.ok.glob, I.ok.blt, I.ok.above, I.ok.inj, I.ok.has, I.ok.cab, I.ok.hd, I.ok.frames, I.ok.stk, I.ok.exf, I.ok.bs, I.ok.bsz, I.ok.noex, I.ok.exfs, I.ok.funs, I.ok.frf⟩,
      I.os, I.bare, I.base, I.loc, I.cell, I.free, I.freeC, fun p hp => I.pin p (by simpa using hp), I.hok, I.len⟩
  have back : ∀ {σ2 : St} {H2 : Hp} {s2 : Shared}, Inv (X.tr (X.pn ++ pins) fun e s₁ => wpAny (model X.prog X.w) X.A (noteFrame e X.env) (fun _ s₂ => wpAny (model X.prog X.w) X.A (setFlight e none) (fun _ s₃ =>
      wpAny (model X.prog X.w) X.A (handleBy e X.env [.ExceptHandler (some (.Name x np)) (some n) (b₀ :: suite) hpos]) (SP X pins D) X.xe s₃) X.xe s₂) X.xe s₁) [] σ2 H2 s2 → Inv X pins σ2 H2 s2 := fun J =>
    ⟨I.ok, J.os, J.bare, J.base, J.loc, J.cell, J.free, J.freeC, fun p hp => J.pin p (List.mem_append_left _ hp), J.hok, J.len⟩
  refine wpAny_mono (hb _ _ (try_pass hstk hfr hN hi hk hg hm hs h2 hdb) [] s σ H D I' h1) (fun f s1 q => ?_) fun e s1 q => q
  cases f with
  | next =>
    obtain ⟨σ2, H2, J, q⟩ := q
    exact wpAny_execs_nil ⟨σ2, H2, back J, q⟩
  | brk => obtain ⟨σ2, H2, J, q⟩ := q; exact ⟨σ2, H2, back J, q⟩
  | cont => obtain ⟨σ2, H2, J, q⟩ := q; exact ⟨σ2, H2, back J, q⟩
  | ret u => obtain ⟨v, σ2, H2, J, r, q⟩ := q; exact ⟨v, σ2, H2, back J, r, q⟩
end
end L2
set_option maxRecDepth 100000
set_option maxHeartbeats 4000000
namespace L2
open PySem PySem.Spec PyProof.Rows
structure RoomN (k : Nat) (A : Around) : Prop where
  dp : A.depth + 3 * k + 5 < recursionLimit
  un : A.units + 16 * k + 200 < cLine
theorem Room.toN {k : Nat} {A : Around} (r : Room k A) : RoomN k A := ⟨r.dp, r.un⟩
theorem RoomN.mono {j k : Nat} {A : Around} (r : RoomN k A) (h : j ≤ k) : RoomN j A := ⟨by have := r.dp; omega, by have := r.un; omega⟩
theorem RoomN.deeper {k : Nat} {A : Around} (r : RoomN (k + 1) A) (env : Env) : RoomN k (A.deeper env) :=
  ⟨by have := r.dp; show A.depth + 1 + 3 * k + 5 < _; omega, by have := r.un; show A.units + 3 + 16 * k + 200 < _; omega⟩
theorem RoomN.mark {k : Nat} {A : Around} (r : RoomN k A) (e : Option Value) : RoomN k (A.mark e) := ⟨r.dp, r.un⟩
theorem RoomN.depth {k : Nat} {A : Around} (r : RoomN k A) : A.depth < recursionLimit := by have := r.dp; omega
theorem RoomN.units {k : Nat} {A : Around} (r : RoomN k A) : A.units + 100 < cLine := by have := r.un; omega
theorem Room.units100 {k : Nat} {A : Around} (r : Room k A) : A.units + 100 < cLine := r.toN.units
structure FnOkN (P : Program) (w : World) (K : PySem.W.Frag) (mg : Str → Option Value) (base : Heap) (k : Nat) (f : Addr) (fd : FuncData) (ps : List Str) (sp : List V → Hp → VK → Prop) : Prop where
  len : ∀ vs H Q, sp vs H Q → vs.length = ps.length
  run : ∀ (A : Around) (outer : List Env) (s : Shared) (H : Hp) (args : Args) (us : List Value) (vs : List V) (Q : VK), RoomN k A → Env0 P w K mg base A outer s H → BindsTo s fd args (ps.zip us) → Vals vs us → sp vs H Q →
    codeAny (model P w) A (.call (.ref f) args) (CR CX0 outer P w H s Q E0) s
noncomputable def cxN (P : Program) (w : World) (K : PySem.W.Frag) (mg : Str → Option Value) (base : Heap) (N : List Str) (qual : Str) (scope : Scope) (f : Addr) (cd : Value) (A : Around) (outer : List Env) (s : Shared) (H : Hp) : Cx :=
  { cxOf CX0 P w K mg base N qual scope f cd A outer s H E0 with calm := false, xe := fun _ _ => False }
theorem fn_ofN {P : Program} {w : World} {K : PySem.W.Frag} {mg : Str → Option Value} {base : Heap} {k : Nat} {f : Addr} {name qual : Str} {params : Arguments} {body : List Stmt} {scope : Scope} {dV kV doc pm cdv ct oc : Value} {an od : Option Addr}
    {osl : Array (Option Value)} {N ps : List Str} {sp : List V → Hp → VK → Prop} (lk : K.lookup f = some ⟨oc, od, .func (PySem.W.fnOf name qual params body scope dV kV doc pm an cdv ct), osl⟩) (hcd : PySem.W.codeIn K cdv qual = true) (S : FnScope N ps scope)
    (len : ∀ vs H Q, sp vs H Q → vs.length = ps.length)
    (hbody : ∀ (A : Around) (outer : List Env) (s : Shared) (H : Hp) (vs : List V) (Q : VK), RoomN k (A.deeper (envOfC qual scope s.heap.objs.size f cdv)) → sp vs H Q →
      ∃ t, PSs (cxN P w K mg base N qual scope f cdv A outer s H) body t ∧ t { nx := fun _ H' => Q .non H', rt := Q } (start N vs) H) :
    FnOkN P w K mg base (k + 1) f (PySem.W.fnOf name qual params body scope dV kV doc pm an cdv ct) ps sp := by
  refine ⟨len, fun A outer s H args us vs Q hr e0 hb r hsp => ?_⟩
  have hl := len _ _ _ hsp
  have KX : K.In s.heap := e0.mod.kin.keeps fun b o e => (e0.bs b o e).1
  have lim : s.heap.NoLimit := e0.mod.nolimit.keeps fun b o e => (e0.bs b o e).1
  have hkind : ∀ y ∈ ps.zip us, scope.names.lookup y.1 = some .local ∨ (scope.names.lookup y.1 = some .cell ∧ ((cellsFrom (s.heap.objs.size + 1) scope.names []).lookup y.1).isSome = true) := fun ⟨n, v⟩ hy => by
    rcases S.par n (List.of_mem_zip hy).1 with q | q
    · exact .inl q
    · exact .inr ⟨q, PySem.W.cellsFrom_some _ _ _ (.inl q)⟩
  refine codeAny_call_function hr.depth (KX _ _ lk) rfl S.co S.gen rfl (PySem.W.codeRec_of KX hcd) (hb _ _ _ _ ?_)
  refine wpAny_newFunctionEnv_cells S.kind hkind fun env he s1 x => ?_
  subst he
  refine ⟨lim.keeps x.toInCall.keep, codeAny_func ?_⟩
  obtain ⟨t, ht, hq⟩ := hbody A outer s H vs Q (hr.deeper _) hsp
  have e0' : Env0 P w K mg base { A with handled := none } outer s H := ⟨e0.frames, e0.mod, e0.bs, e0.bsz, e0.funs, e0.frf, e0.hok, e0.bare⟩
  have I0 : Inv (cxOf CX0 P w K mg base N qual scope f cdv { A with handled := none } outer s H E0) [] (start N vs) H s1 := inv_start S rfl e0' hl r x
  have I : Inv (cxN P w K mg base N qual scope f cdv A outer s H) [] (start N vs) H s1 :=
    ⟨⟨I0.ok.mod, I0.ok.kind, I0.ok.glob, I0.ok.blt, I0.ok.above, I0.ok.inj, I0.ok.has, I0.ok.cab, (fun z => by cases z), Around.frames_deeper e0.frames, I0.ok.stk, I0.ok.exf, I0.ok.bs, I0.ok.bsz, I0.ok.noex, I0.ok.exfs, I0.ok.funs, I0.ok.frf⟩,
      I0.os, I0.bare, I0.base, I0.loc, I0.cell, I0.free, I0.freeC, I0.pin, I0.hok, I0.len⟩
  refine wpAny_mono (ht [] s1 (start N vs) H _ I hq) (fun fl s' hs => ?_) fun e s' hs => False.elim hs
  have fin : ∀ {σ' : St} {H' : Hp} {v : V} {u : Value}, Inv (cxN P w K mg base N qual scope f cdv A outer s H) [] σ' H' s' → RelV v u → Q v H' → CE outer P w H s Q u s' :=
    fun {σ' H' v u} J rv q => ⟨v, H', J.os, J.bare, J.base, J.hok, rv, q⟩
  cases fl with
  | ret u =>
    obtain ⟨v, σ', H', J, rv, q⟩ := hs
    exact fin J rv q
  | next =>
    obtain ⟨σ', H', J, q⟩ := hs
    exact fin (v := V.non) (u := Value.none) J rfl q
  | brk =>
    obtain ⟨_, _, _, q⟩ := hs
    exact False.elim q
  | cont =>
    obtain ⟨_, _, _, q⟩ := hs
    exact False.elim q
theorem Fun.okN {P : Program} {w : World} {K : PySem.W.Frag} {mg : Str → Option Value} {base : Heap} {x qual : Str} {st : Stmt} {f : Addr} {fd : FuncData} {N ps : List Str} {k : Nat} {sp : List V → Hp → VK → Prop} (F : Fun K x qual st f fd) (S : FnScope N ps (defScope st)) (len : ∀ vs H Q, sp vs H Q → vs.length = ps.length)
    (hbody : ∀ (cdv : Value) (A : Around) (outer : List Env) (s : Shared) (H : Hp) (vs : List V) (Q : VK), RoomN k (A.deeper (envOfC qual (defScope st) s.heap.objs.size f cdv)) → sp vs H Q →
      ∃ t, PSs (cxN P w K mg base N qual (defScope st) f cdv A outer s H) (defBody st) t ∧ t { nx := fun _ H' => Q .non H', rt := Q } (start N vs) H) : FnOkN P w K mg base (k + 1) f fd ps sp := by
  obtain ⟨oc, od, kV, doc, pm, an, cdv, ct, osl, rfl, lk, hcd⟩ := F.ex
  exact fn_ofN lk hcd S len fun A outer s H vs Q hr hsp => hbody cdv A outer s H vs Q hr hsp
noncomputable def tCallN (sp : List V → Hp → VK → Prop) (dvs : List V) (t : TA) : TE := fun σ H Q => t σ H fun vs H1 => sp (vs ++ dvs) H1 Q
section
variable {X : Cx} {k : Nat} {f C : Addr} {fd : FuncData} {ps : List Str} {sp : List V → Hp → VK → Prop} {dvs : List V} {ds : List Value} {x m : Str} {p pos apos : Pos} {e o : Expr} {es : List Expr} {ta : TE} {t : TA}
theorem pe_callN (F : FnOkN X.prog X.w X.K X.mg X.base k f fd ps sp) (hr : RoomN k X.A) (hg : Gl X x) (hm : X.mg x = some (.ref f)) (hk : PySem.W.keepIn X.K (.ref f) = true) (hb : Binds X.K fd ps ds) (hd : Vals dvs ds)
    (ha : PA X (e :: es) t) (hdb : (x == ("__debug__" : Str)) = false := by decide) (he : starEach (e :: es) X.env = (false, eval e X.env) :: starEach es X.env := by rfl) (hpl : (backTo pos (starEach es X.env)).any (·.1) = false := by rfl) :
    PE X (.Call (.Name x p) (e :: es) [] pos) (tCallN sp dvs t) := by
  intro pins s σ H Q I h
  refine wpAny_Call_Name_kw (ld_glob I hg hm ?_ hdb)
  refine PySem.W.callWith_K (h₀ := X.base) I.ok.mod.kin hk (thn (ha pos pins s σ H _ I h) fun us s1 ⟨vs, H1, I1, r, q⟩ => ⟨I1.kIn, ?_⟩) he hpl
  have r2 : Vals (vs ++ dvs) (us ++ ds) := r.append hd
  have hl : (us ++ ds).length = ps.length := by rw [← r2.length]; exact F.len _ _ _ q
  refine wpAny_call (codeAny_mono (F.run X.A X.stack s1 H1 ⟨us, []⟩ (us ++ ds) (vs ++ dvs) Q hr I1.env0 (hb s1 us I1.kIn hl) r2 q) fun r s' hq => ?_)
  cases r with
  | error e => exact False.elim hq
  | ok fl =>
    cases fl with
    | ret u => exact I1.after hq
    | next => exact False.elim hq
    | brk => exact False.elim hq
    | cont => exact False.elim hq
end
end L2
namespace PySem.W
open PySem PySem.Spec PySem.Calls PyProof.Rows PySem.Builtin.ObjectAttr PySem.Builtin.Getset_descriptor PySem.Builtin
structure ExcCls (K : Frag) (C : Addr) : Prop where
  cl : (clsIn K C).isSome = true
  ga : findIn K (.ref C) "__getattribute__" = some (some (.builtin "BaseException.__getattribute__"))
  hk : findIn K (.ref C) "__getattr__" = some none
  ha : findIn K (.ref C) "__class__" = some (some (.builtin "object.__class__"))
  hn : specialIn K (.builtin "object.__class__") "__get__" = some (some (.builtin "getset_descriptor.__get__"))
  ht : takesIn K (.builtin "object.__class__") = some true
  hm : mroIn K C (.type "object") = some true
  hb : mroIn K C (.type "BaseException") = some true
section
variable {prog : Program} {w : World} {A : Around} {E : Value → Shared → Prop} {K : Frag} {x C : Addr} {ox : Obj}
theorem class_getE {R : Result → Shared → Prop} {h : Heap} {g : Array GenState} {d : Drawn} {t : Nat} {os : OsState} {tp : Value} (X : K.In h) (L0 : Looks (model prog w) h (typeOf (.ref x)) (.ref C)) (hm : mroIn K C (.type "object") = some true)
    (hq : R (.ok (.ret (.ref C))) ⟨h, g, d, t, os⟩) : codeAny (model prog w) A (.call (.builtin "getset_descriptor.__get__") ⟨[.builtin "object.__class__", .ref x, tp], []⟩) R ⟨h, g, d, t, os⟩ := by
  have L1 := looks_mroIn (M := model prog w) X hm
  refine codeAny_call_builtin KF.slot_gs.plain KF.entry_gs (KF.slot_gs.check _ _ _ _ _ _ _ _ KF.type_class (KF.args_gs _ _ _) ?_)
  unfold Builtin.«getset_descriptor.__get__» descrGet
  rw [dga_obj]
  refine wpAny_bind (wpAny_pure ?_)
  unfold descrGetter descrCheckInstance descrNameAndClass isInstance
  simp only [KF.owner_class]
  repeat lk
  refine ⟨Code.quiet_builtin _ (by decide +kernel), codeAny_builtin KF.entry_class ?_⟩
  unfold Builtin.«object.__class__» shownTypeOf
  repeat lk
  exact hq
theorem exc_class {h : Heap} {g : Array GenState} {d : Drawn} {t : Nat} {os : OsState} {vs : Array Value} {Q : Option Value → Shared → Prop} (X : K.In h) (T : ExcCls K C) (hx : h.get? x = some ox) (hc : ox.cls = .ref C) (hd : ox.data = .fields vs)
    (hq : Q (some (.ref C)) ⟨h, g, d, t + 1, os⟩) : wpAny (model prog w) A (getAttr? (.ref x) "__class__") Q E ⟨h, g, d, t, os⟩ := by
  have L0 : Looks (model prog w) h (typeOf (.ref x)) (.ref C) := hc ▸ (Looks.ld hx).andThen .now
  have L1 := looks_findIn (M := model prog w) X T.ga
  unfold getAttr? getAttrBy? getAttrBy
  refine wpAny_bind (wpAny_mkText (wpAny_bind (wpAny_attempt (wpAny_holding (wpAny_bind (L0.at (wpAny_bind (L1.at ?_))))))))
  show wpAny _ _ (getAttrByItsOwn (.ref x) (.str "__class__" t) (.ref C) (.builtin "BaseException.__getattribute__") false false) _ _ _
  have LH := looks_findIn (M := model prog w) X T.hk
  unfold getAttrByItsOwn callGetattribute boundAndCalled hookBefore
  refine wpAny_bind (LH.at (wpAny_bind (wpAny_attempt (wpAny_holding ?_))))
  rw [if_neg (by simp)]
  refine wpAny_bind (wpAny_of_eq (F.excAttr_ValueError.ga.bind _) ?_)
  refine wpAny_call ?_
  refine codeAny_call_builtin F.excAttr_ValueError.ga.plain F.entry_bexc_ga ?_
  have hsub : Looks (model prog w) h (isSubtype (.ref C) (.type "BaseException")) true := looks_mroIn X T.hb
  have chk : ∀ {A' : Around} {Q' : Unit → Shared → Prop} {E' : Value → Shared → Prop} {t' : Nat}, Q' () ⟨h, g, d, t', os⟩ → wpAny (model prog w) A' (checkBuiltinCall "BaseException.__getattribute__" ⟨[.ref x, .str "__class__" t], []⟩) Q' E' ⟨h, g, d, t', os⟩ := fun hq' => by
    have hkd : builtinKind "BaseException.__getattribute__" = some .slot := by kernel_rfl
    have hsp : splitId "BaseException.__getattribute__" = some ("BaseException", "__getattribute__") := by kernel_rfl
    simp only [checkBuiltinCall, hkd, hsp]
    have LI : Looks (model prog w) h (isInstance (.ref x) (.type "BaseException")) true := L0.andThen hsub
    refine wpAny_bind (LI.at ?_)
    simp only [Bool.not_true, Bool.false_eq_true, if_false]
    have ha := F.args_bexc_ga (.ref x) (.str "__class__" t)
    cases hsig : Manifest.signature? "BaseException.__getattribute__" with
    | none => exact wpAny_pure hq'
    | some sig =>
      simp only [argsOk, hsig] at ha
      have h2 : Bind.checkArgs "BaseException.__getattribute__" sig ⟨[.ref x, .str "__class__" t], []⟩ = pure () := ha
      show wpAny _ _ (Bind.checkArgs "BaseException.__getattribute__" sig ⟨[.ref x, .str "__class__" t], []⟩) _ _ _
      rw [h2]; exact wpAny_pure hq'
  refine chk ?_
  have LF : Looks (model prog w) h (Builtin.ObjectAttr.find (.ref x) (.ref C) "__class__") (Found.bind (.builtin "getset_descriptor.__get__") (.builtin "object.__class__")) := by
    have L1 := looks_findIn (M := model prog w) X T.ha
    have L2 : Looks (model prog w) h (getOf (some (.builtin "object.__class__"))) (some (.builtin "getset_descriptor.__get__")) := looks_specialIn X T.hn
    have L3 := looks_takesIn (M := model prog w) X T.ht
    unfold Builtin.ObjectAttr.find
    exact L1.andThen (L2.andThen ((show Looks (model prog w) h (dataDescriptor? (some (.builtin "object.__class__")) (some (.builtin "getset_descriptor.__get__"))) (some (.builtin "getset_descriptor.__get__", .builtin "object.__class__")) from L3.andThen .now).andThen (Looks.tag .now)))
  show wpAny _ _ (Builtin.«object.__getattribute__» ⟨[.ref x, .str "__class__" t], []⟩) _ _ _
  unfold Builtin.«object.__getattribute__»
  refine wpAny_bind (wpAny_pure (wpAny_bind (wpAny_pure (wpAny_bind (L0.at (wpAny_bind (LF.at ?_)))))))
  show wpAny _ _ (bindTo (.builtin "getset_descriptor.__get__") (.builtin "object.__class__") (.ref x) (.ref C)) _ _ _
  show wpAny _ _ (holding [Value.builtin "object.__class__"] (call (.builtin "getset_descriptor.__get__") [.builtin "object.__class__", .ref x, .ref C]) >>= ret) _ _ _
  refine wpAny_bind (wpAny_holding (wpAny_call (class_getE X L0 T.hm ?_)))
  refine wpAny_pure ?_
  exact handed_on rfl (wpAny_pure hq)
noncomputable def ExcAtH (x C : Addr) (h : Heap) : Prop := ∃ o vs, h.get? x = some o ∧ o.cls = .ref C ∧ o.data = .fields vs
theorem kitx_exc (T : ExcCls K C) : KitX K (.ref x) (.ref C) (ExcAtH x C) where
  ty := fun M h _ ⟨o, vs, e, c, d⟩ => c ▸ (Looks.ld e).andThen .now
  it := fun _ _ X _ => by
    obtain ⟨cdD, hcD⟩ := Option.isSome_iff_exists.mp T.cl
    unfold clsIn at hcD
    split at hcD
    · rename_i c' d' cd' sl' ho
      intro A' Q' E' s' k q
      unfold isType loadHead
      exact wpAny_bind (wpAny_loadPart (k _ _ (X _ _ ho)) (wpAny_pure q))
    · cases hcD
  ne := fun h tp dd its n sl X htp => by
    obtain ⟨cdD, hcD⟩ := Option.isSome_iff_exists.mp T.cl
    refine Bool.eq_false_iff.mpr fun q => ?_
    have e : C = tp := Value.ref.inj (beq_iff_eq.mp q)
    subst e
    unfold clsIn at hcD
    split at hcD
    · rename_i c' d' cd' sl' ho
      have z := (X _ _ ho).symm.trans htp
      cases z
    · cases hcD
  ca := fun {prog w A E Q s} X ⟨o, vs, e, c, d⟩ k => by
    obtain ⟨hh, g, dd, t, os⟩ := s
    exact exc_class X T e c d k
end
end PySem.W
namespace L2
open PySem PySem.Spec PyProof.Rows
theorem vals_refs : ∀ {Cs : List Addr} {its : List Value}, Vals (Cs.map V.ref) its → its = Cs.map Value.ref
  | [], _, .nil => rfl
  | _ :: _, _, .cons r1 r2 => by cases r1; rw [vals_refs r2, List.map_cons]
section
variable {X : Cx}
theorem call_isiE : CallR X (.builtin "isinstance") (fun xs H Q => ∃ ea D c b, xs = [.ref ea, c] ∧ H ea = some (ExcO ea D) ∧ PySem.W.ExcCls X.K D ∧
    ((∃ n, c = .ty n ∧ PySem.W.kitOne X.K (.ref D) (.type n) = some b) ∨ (∃ C, c = .ref C ∧ PySem.W.kitOne X.K (.ref D) (.ref C) = some b) ∨
      (∃ (p : Addr) (Cs : List Addr), c = .ref p ∧ H p = some (.tup (Cs.map V.ref)) ∧ PySem.W.kitAny X.K (.ref D) (Cs.map Value.ref) = some b)) ∧ Q (.bl b) H) := by
  intro pins s σ H xs us Q I r h
  obtain ⟨ea, D, c, b, rfl, hH, T, hc, q⟩ := h
  obtain ⟨u, w', rfl, rx, rc⟩ := vals2 r
  cases rx
  have hE : PySem.W.ExcAtH ea D s.heap := (I.hok ea _ hH).1
  have fin : ∀ tk, EP X pins σ Q (.bool b) { s with toks := tk } := fun tk => ⟨.bl b, H, I.tok tk, rfl, q⟩
  rcases hc with ⟨n, rfl, e⟩ | ⟨C, rfl, e⟩ | ⟨p, Cs, rfl, hp, e⟩
  · cases rc
    exact PySem.W.kia_one (PySem.W.kitx_exc T) I.kIn hE e (fun z => nomatch z) fin
  · cases rc
    exact PySem.W.kia_one (PySem.W.kitx_exc T) I.kIn hE e (fun z => nomatch z) fin
  · cases rc
    obtain ⟨_, its, rv, o, ho, hcl, n, hd⟩ := (show ObjOk X.prog X.w H s.heap p (.tup (Cs.map V.ref)) from I.hok p _ hp)
    have ei : its = Cs.map Value.ref := vals_refs rv
    obtain ⟨cls, dd, data, sl⟩ := o
    have hcl' : cls = .type "tuple" := hcl
    have hd' : data = .seq its.toArray n := hd
    subst hcl' hd'
    exact PySem.W.kia_tup (PySem.W.kitx_exc T) I.kIn hE ho (by rw [ei]; exact e) (fun z => nomatch z) fin
end
end L2
set_option maxRecDepth 100000
set_option maxHeartbeats 4000000
namespace L2
open PySem PySem.Spec PyProof.Rows
theorem comp_by {J : It} {g : TG} {tc : TT} {te : TE} {σ0 : St} {H : Hp} {Q : VK} (n : Nat) (Pv : Nat → List V → Hp → Prop) (hz : n < sizeLine) (hgo : ∀ i ys H, i < n → Pv i ys H → J.go i H) (hstop : ∀ ys H, Pv n ys H → J.stop n H) (h0 : Pv 0 [] H)
    (hs : ∀ i ys H x H' (N : List V → Hp → Prop), i < n → Pv i ys H → J.yld i H x H' → (∀ ys' H2, Pv (i + 1) ys' H2 → N ys' H2) →
      g x σ0 H' fun σ2 H2 => tc σ2 H2 fun b H3 => if b = true then te σ2 H3 fun y H4 => N (ys ++ [y]) H4 else N ys H3)
    (hd : ∀ ys H, Pv n ys H → ys.length ≤ n → ∀ p, H p = none → Q (.ref p) (upd H p (.lst ys))) :
    CompR J g tc te σ0 Q H := by
  refine ⟨fun i m ys H => m = n - i ∧ i ≤ n ∧ ys.length ≤ i ∧ Pv i ys H, ⟨n, by simp, Nat.zero_le _, Nat.le_refl _, h0⟩, ?_⟩
  rintro i m ys H ⟨rfl, hi, hl, p⟩
  by_cases hlt : i < n
  · refine .inr ⟨hgo i ys H hlt p, by (clear hlt; omega), fun x H' y => ?_⟩
    -- the length rides along
    have key := hs i ys H x H' (fun ys' H2 => (ys'.length ≤ ys.length + 1 → ∃ m', m' < n - i ∧ m' = n - (i + 1) ∧ i + 1 ≤ n ∧ ys'.length ≤ i + 1 ∧ Pv (i + 1) ys' H2)) hlt p y (fun ys' H2 q hle => ⟨n - (i + 1), by (clear hle hl hi hz; omega), rfl, hlt, by (clear hlt hi hz; omega), q⟩)
    have e : (fun σ2 H2 => tc σ2 H2 fun b H3 => if b = true then te σ2 H3 fun y H4 => ((ys ++ [y]).length ≤ ys.length + 1 → ∃ m', m' < n - i ∧ m' = n - (i + 1) ∧ i + 1 ≤ n ∧ (ys ++ [y]).length ≤ i + 1 ∧ Pv (i + 1) (ys ++ [y]) H4)
        else (ys.length ≤ ys.length + 1 → ∃ m', m' < n - i ∧ m' = n - (i + 1) ∧ i + 1 ≤ n ∧ ys.length ≤ i + 1 ∧ Pv (i + 1) ys H3)) =
      (fun σ2 H2 => tc σ2 H2 fun b H3 => if b = true then te σ2 H3 fun y H4 => ∃ m', m' < n - i ∧ m' = n - (i + 1) ∧ i + 1 ≤ n ∧ (ys ++ [y]).length ≤ i + 1 ∧ Pv (i + 1) (ys ++ [y]) H4
        else ∃ m', m' < n - i ∧ m' = n - (i + 1) ∧ i + 1 ≤ n ∧ ys.length ≤ i + 1 ∧ Pv (i + 1) ys H3) := by
      funext σ2 H2
      congr 1
      funext b H3
      have e1 : ∀ (y : V) (H4 : Hp), ((ys ++ [y]).length ≤ ys.length + 1 → ∃ m', m' < n - i ∧ m' = n - (i + 1) ∧ i + 1 ≤ n ∧ (ys ++ [y]).length ≤ i + 1 ∧ Pv (i + 1) (ys ++ [y]) H4) = (∃ m', m' < n - i ∧ m' = n - (i + 1) ∧ i + 1 ≤ n ∧ (ys ++ [y]).length ≤ i + 1 ∧ Pv (i + 1) (ys ++ [y]) H4) := fun y H4 =>
        propext ⟨fun q => q (by simp), fun q _ => q⟩
      have e2 : (ys.length ≤ ys.length + 1 → ∃ m', m' < n - i ∧ m' = n - (i + 1) ∧ i + 1 ≤ n ∧ ys.length ≤ i + 1 ∧ Pv (i + 1) ys H3) = (∃ m', m' < n - i ∧ m' = n - (i + 1) ∧ i + 1 ≤ n ∧ ys.length ≤ i + 1 ∧ Pv (i + 1) ys H3) := propext ⟨fun q => q (by (clear hlt hl hi hz; omega)), fun q _ => q⟩
      simp only [e1, e2]
    rw [e] at key
    exact key
  · have e : i = n := by (clear hl hz; omega)
    subst e
    exact .inl ⟨hstop ys H p, by (clear hlt hi; omega), hd ys H p hl⟩
theorem comp_its {x : Str} {g : TG} {tc : TT} {te : TE} {σ0 : St} {H : Hp} {Q : VK} (Pv : Nat → List V → Hp → Prop) (hz : x.cps.size < sizeLine) (h0 : Pv 0 [] H)
    (hs : ∀ i c ys H (N : List V → Hp → Prop), x.cps[i]? = some c → Pv i ys H → (∀ ys' H2, Pv (i + 1) ys' H2 → N ys' H2) →
      g (.str ⟨#[c]⟩) σ0 H fun σ2 H2 => tc σ2 H2 fun b H3 => if b = true then te σ2 H3 fun y H4 => N (ys ++ [y]) H4 else N ys H3)
    (hd : ∀ ys H, Pv x.cps.size ys H → ys.length ≤ x.cps.size → ∀ p, H p = none → Q (.ref p) (upd H p (.lst ys))) : CompR (Its x) g tc te σ0 Q H := comp_by x.cps.size Pv hz (fun i ys H hi _ => hi) (fun ys H _ => rfl) h0
  (fun i ys H v H' N hi p y hN => by
    obtain ⟨e, c, hc, e2⟩ := y
    subst e e2
    exact hs i c ys _ N hc p hN) hd
theorem comp_itr {lo : Int} {n : Nat} {g : TG} {tc : TT} {te : TE} {σ0 : St} {H : Hp} {Q : VK} (Pv : Nat → List V → Hp → Prop) (hz : n < sizeLine) (h0 : Pv 0 [] H)
    (hs : ∀ i ys H (N : List V → Hp → Prop), i < n → Pv i ys H → (∀ ys' H2, Pv (i + 1) ys' H2 → N ys' H2) →
      g (.int (lo + i)) σ0 H fun σ2 H2 => tc σ2 H2 fun b H3 => if b = true then te σ2 H3 fun y H4 => N (ys ++ [y]) H4 else N ys H3)
    (hd : ∀ ys H, Pv n ys H → ys.length ≤ n → ∀ p, H p = none → Q (.ref p) (upd H p (.lst ys))) : CompR (Itr lo n) g tc te σ0 Q H := comp_by n Pv hz (fun i ys H hi _ => hi) (fun ys H _ => Nat.le_refl _) h0
  (fun i ys H v H' N hi p y hN => by
    obtain ⟨e, e2⟩ := y
    subst e e2
    exact hs i ys _ N hi p hN) hd
theorem comp_itl {K : PySem.W.Frag} {a : Addr} {xs : List V} {g : TG} {tc : TT} {te : TE} {σ0 : St} {H : Hp} {Q : VK} (Pv : Nat → List V → Hp → Prop) (hz : xs.length < sizeLine) (hl : ∀ i ys H, Pv i ys H → SqL K H a xs) (h0 : Pv 0 [] H)
    (hs : ∀ i x ys H (N : List V → Hp → Prop), xs[i]? = some x → Pv i ys H → (∀ ys' H2, Pv (i + 1) ys' H2 → N ys' H2) →
      g x σ0 H fun σ2 H2 => tc σ2 H2 fun b H3 => if b = true then te σ2 H3 fun y H4 => N (ys ++ [y]) H4 else N ys H3)
    (hd : ∀ ys H, Pv xs.length ys H → ys.length ≤ xs.length → ∀ p, H p = none → Q (.ref p) (upd H p (.lst ys))) : CompR (Itl K a) g tc te σ0 Q H := comp_by xs.length Pv hz
  (fun i ys H hi p => ⟨xs, xs[i], hl i ys H p, by simp [hi]⟩) (fun ys H p => ⟨xs, hl _ ys H p, Nat.le_refl _⟩) h0
  (fun i ys H v H' N hi p y hN => by
    obtain ⟨e, y⟩ := y
    subst e
    exact hs i v ys _ N (y xs (hl i ys _ p)) p hN) hd
@[elab_as_elim] theorem us1 {α : Type} {p : List α → Prop} (h : ∀ a, p [a]) (us : List α) (hl : us.length = 1) : p us := by
  obtain ⟨a, rfl⟩ := List.length_eq_one_iff.mp hl
  exact h a
@[elab_as_elim] theorem us2 {α : Type} {p : List α → Prop} (h : ∀ a b, p [a, b]) (us : List α) (hl : us.length = 2) : p us := by
  cases us with
  | nil => cases hl
  | cons a r => exact @us1 _ (fun r => p (a :: r)) (fun b => h a b) r (Nat.succ.inj hl)
@[elab_as_elim] theorem us3 {α : Type} {p : List α → Prop} (h : ∀ a b c, p [a, b, c]) (us : List α) (hl : us.length = 3) : p us := by
  cases us with
  | nil => cases hl
  | cons a r => exact @us2 _ (fun r => p (a :: r)) (fun b c => h a b c) r (Nat.succ.inj hl)
@[elab_as_elim] theorem us4 {α : Type} {p : List α → Prop} (h : ∀ a b c d, p [a, b, c, d]) (us : List α) (hl : us.length = 4) : p us := by
  cases us with
  | nil => cases hl
  | cons a r => exact @us3 _ (fun r => p (a :: r)) (fun b c d => h a b c d) r (Nat.succ.inj hl)
end L2
namespace K01
noncomputable def lo (c : Nat) : Nat := if 65 ≤ c ∧ c ≤ 90 then c + 32 else c
noncomputable def isS (c : Nat) : Bool := (decide (97 ≤ c) && decide (c ≤ 122)) || (decide (48 ≤ c) && decide (c ≤ 57))
noncomputable def okC (c : Nat) : Bool := decide (c = 10) || (decide (32 ≤ c) && decide (c ≤ 126) && !decide (c = 37))
noncomputable abbrev Wd := List Nat × Nat × Nat
noncomputable def flush (i : Nat) (w : List Nat) : List Wd := if w = [] then [] else [(w, i - w.length, i)]
noncomputable def wgo : List Nat → Nat → List Nat → List Wd
  | [], i, w => flush i w
  | c :: r, i, w => if isS c then wgo r (i + 1) (w ++ [c]) else flush i w ++ wgo r (i + 1) []
noncomputable def words (cs : List Nat) : List Wd := wgo (cs.map lo) 0 []
theorem wgo_small {c : Nat} {r : List Nat} {i : Nat} {w : List Nat} (h : isS c = true) : wgo (c :: r) i w = wgo r (i + 1) (w ++ [c]) := by
  rw [wgo, if_pos h]
theorem wgo_other {c : Nat} {r : List Nat} {i : Nat} {w : List Nat} (h : isS c = false) : wgo (c :: r) i w = flush i w ++ wgo r (i + 1) [] := by
  rw [wgo, if_neg (by rw [h]; exact Bool.false_ne_true)]
theorem wgo_blank : ∀ (r : List Nat) (i : Nat) (w : List Nat), wgo (r ++ [32]) i w = wgo r i w
  | [], i, w => by
    show wgo [32] i w = wgo [] i w
    rw [wgo_other (by decide)]
    simp [wgo, flush]
  | c :: r, i, w => by
    show wgo (c :: (r ++ [32])) i w = _
    cases h : isS c with
    | true => rw [wgo_small h, wgo_small h, wgo_blank]
    | false => rw [wgo_other h, wgo_other h, wgo_blank]
theorem ok_lt {c : Nat} (h : okC c = true) : c < 128 := by
  unfold okC at h
  simp only [Bool.or_eq_true, Bool.and_eq_true, decide_eq_true_eq, Bool.not_eq_true', decide_eq_false_iff_not] at h
  omega
theorem isS_ok {c : Nat} (h : isS c = true) : okC c = true := by
  unfold isS at h
  unfold okC
  simp only [Bool.or_eq_true, Bool.and_eq_true, decide_eq_true_eq, Bool.not_eq_true', decide_eq_false_iff_not] at *
  omega
theorem isS_lt {c : Nat} (h : isS c = true) : c < 128 := ok_lt (isS_ok h)
noncomputable def WOk (n : Nat) (x : Wd) : Prop := x.1 ≠ [] ∧ x.1.all isS = true ∧ x.2.1 + x.1.length = x.2.2 ∧ x.2.2 ≤ n
theorem flush_ok {n i : Nat} {w : List Nat} (hw : w.all isS = true) (hi : w.length ≤ i) (hn : i ≤ n) : ∀ x ∈ flush i w, WOk n x := by
  intro x hx
  unfold flush at hx
  split at hx
  · cases hx
  · rename_i h
    have e : x = (w, i - w.length, i) := by simpa using hx
    subst e
    exact ⟨h, hw, by show i - w.length + w.length = i; (clear h hn hw; omega), hn⟩
theorem wgo_ok : ∀ (r : List Nat) (i : Nat) (w : List Nat) (n : Nat), w.all isS = true → w.length ≤ i → i + r.length ≤ n → ∀ x ∈ wgo r i w, WOk n x
  | [], i, w, n, hw, hi, hn, x, hx => flush_ok hw hi (by simpa using hn) x hx
  | c :: r, i, w, n, hw, hi, hn, x, hx => by
    have hn' : i + 1 + r.length ≤ n := by simp at hn; (clear hi hw; omega)
    cases h : isS c with
    | true =>
      rw [wgo_small h] at hx
      exact wgo_ok r (i + 1) (w ++ [c]) n (by simp [List.all_append, hw, h]) (by simp; (clear h hn' hn hw; omega)) hn' x hx
    | false =>
      rw [wgo_other h] at hx
      rcases List.mem_append.mp hx with q | q
      · exact flush_ok hw hi (by (clear h hn' hi hw; omega)) x q
      · exact wgo_ok r (i + 1) [] n rfl (Nat.zero_le _) hn' x q
theorem words_ok (cs : List Nat) : ∀ x ∈ words cs, WOk cs.length x := wgo_ok _ 0 [] _ rfl (Nat.le_refl _) (by simp)
theorem flush_len (i : Nat) (w : List Nat) : (flush i w).length ≤ 1 := by unfold flush; split <;> simp
theorem wgo_len : ∀ (r : List Nat) (i : Nat) (w : List Nat), (wgo r i w).length ≤ r.length + 1
  | [], i, w => by simpa [wgo] using flush_len i w
  | c :: r, i, w => by
    cases h : isS c with
    | true => rw [wgo_small h]; have := wgo_len r (i + 1) (w ++ [c]); simp; (clear h; omega)
    | false =>
      rw [wgo_other h, List.length_append]
      have := wgo_len r (i + 1) []
      have := flush_len i w
      simp; (clear h; omega)
theorem words_len (cs : List Nat) : (words cs).length ≤ cs.length + 1 := by simpa [words] using wgo_len (cs.map lo) 0 []
end K01
set_option maxRecDepth 100000
set_option maxHeartbeats 4000000
namespace K01
open PySem L2
noncomputable def isStrV : V → Bool
  | .str _ => true
  | _ => false
noncomputable def isIntV : V → Bool
  | .int _ => true
  | .bl _ => true
  | _ => false
noncomputable def isBlV : V → Bool
  | .bl _ => true
  | _ => false
noncomputable def Known (K : PySem.W.Frag) (H : Hp) (x : V) : Prop := ∃ n, TyOf K H x (.type n)
theorem kit_str {K : PySem.W.Frag} {H : Hp} {x : V} {n : String} (h : TyOf K H x (.type n)) : PySem.W.kitOne K (.type n) (.type "str") = some (isStrV x) := by
  cases h <;> kernel_rfl
theorem kit_int {K : PySem.W.Frag} {H : Hp} {x : V} {n : String} (h : TyOf K H x (.type n)) : PySem.W.kitOne K (.type n) (.type "int") = some (isIntV x) := by
  cases h <;> kernel_rfl
theorem kit_bool {K : PySem.W.Frag} {H : Hp} {x : V} {n : String} (h : TyOf K H x (.type n)) : PySem.W.kitOne K (.type n) (.type "bool") = some (isBlV x) := by
  cases h <;> kernel_rfl
theorem Known.same {K : PySem.W.Frag} {H H' : Hp} {x : V} (h : Known K H x) (e : Same H H') : Known K H' x := by
  obtain ⟨n, h⟩ := h
  cases h with
  | non => exact ⟨_, .non⟩
  | bl b => exact ⟨_, .bl b⟩
  | int i => exact ⟨_, .int i⟩
  | str z => exact ⟨_, .str z⟩
  | flt z => exact ⟨_, .flt z⟩
  | lst q => exact ⟨_, .lst (e _ _ q)⟩
  | frz q => exact ⟨_, .frz (e _ _ q)⟩
  | tup q => exact ⟨_, .tup (e _ _ q)⟩
  | dK q => exact ⟨_, .dK (e _ _ q)⟩
  | dT q => exact ⟨_, .dT (e _ _ q)⟩
noncomputable def txtV : V → Bool
  | .str z => decide (z.length ≤ 2000) && z.cps.toList.all okC
  | _ => false
noncomputable def rowV (most : Nat) : V → Bool
  | .str z => decide (1 ≤ z.length) && decide (z.length ≤ most) && z.cps.toList.all isS
  | _ => false
noncomputable def Fit (x : V) : Prop := ∀ z, x = .str z → z.length ≤ 5000
theorem same_upd {H : Hp} {a : Addr} {o : HO} (h : H a = none) : Same H (upd H a o) := fun b u e => by rw [upd_ne (ne_of_none e h)]; exact e
theorem Same.upd {H H' : Hp} {a : Addr} {o : HO} (s : Same H H') (h : H' a = none) : Same H (upd H' a o) := s.trans (same_upd h)
end K01
set_option maxRecDepth 100000
set_option maxHeartbeats 4000000
namespace K01
open PySem L2
theorem cutW {t u : TS} {D : Ends} {σ : L2.St} {H : Hp} (h : ∀ R : TS, R = u → tSeq t R D σ H) : tSeq t u D σ H := h u rfl
theorem nextW {t u R : TS} {D : Ends} {σ : L2.St} {H : Hp} (hR : R = tSeq t u) (h : ∀ R' : TS, R' = u → tSeq t R' D σ H) : R D σ H := by subst hR; exact h u rfl
theorem lastW {t R : TS} {D : Ends} {σ : L2.St} {H : Hp} (hR : R = t) (h : t D σ H) : R D σ H := by subst hR; exact h
theorem genW {g : TG} {x : V} {tb : TS} {D : Ends} {σ : L2.St} {H : Hp} (h : ∀ (B : TS) (D' : Ends), B = tb → (∀ σ H, D.nx σ H → D'.nx σ H) → g x σ H fun σ2 H2 => B D' σ2 H2) : g x σ H fun σ2 H2 => tb D σ2 H2 := h tb D rfl fun _ _ z => z
theorem for_listW {K : PySem.W.Frag} {a : Addr} {xs : List V} {g : TG} {tb : TS} {D : Ends} {σ : L2.St} {H : Hp} (Pv : Nat → L2.St → Hp → Prop) (h0 : Pv 0 σ H) (hl : ∀ i σ H, i ≤ xs.length → Pv i σ H → SqL K H a xs)
    (hs : ∀ (i : Nat) (x : V) (σ : L2.St) (H : Hp) (B : TS) (D' : Ends), B = tb → (∀ σ H, Pv (i + 1) σ H → D'.nx σ H) → xs[i]? = some x → Pv i σ H → g x σ H fun σ2 H2 => B D' σ2 H2) (hd : ∀ σ H, Pv xs.length σ H → D.nx σ H) :
    ∃ W : Nat → Nat → L2.St → Hp → Prop, (∃ m, W 0 m σ H) ∧ ∀ i m σ H, W i m σ H →
      ((Itl K a).stop i H ∧ D.nx σ H) ∨ ((Itl K a).go i H ∧ ∃ N : L2.St → Hp → Prop, (∀ σ' H', N σ' H' → ∃ m', m' < m ∧ W (i + 1) m' σ' H') ∧ ∀ x H', (Itl K a).yld i H x H' → g x σ H' fun σ2 H2 => tb { D with nx := N, ct := N, bk := D.nx } σ2 H2) :=
  for_list (K := K) (a := a) (g := g) (tb := tb) (D := D) Pv h0 hl (fun i x σ H hx hp => hs i x σ H tb _ rfl (fun _ _ z => z) hx hp) hd
noncomputable def top (i : Nat) : Stmt := PySem.Challenge.pw_findhall_k01_texts_and_words.main.body.getD i (.Pass ⟨0, 0, 0, 0⟩)
noncomputable abbrev sWhole : Stmt := top 20
noncomputable abbrev sSign : Stmt := top 21
noncomputable abbrev sText : Stmt := top 22
noncomputable abbrev sRow : Stmt := top 23
noncomputable abbrev sKey : Stmt := top 24
noncomputable abbrev sNText : Stmt := top 25
noncomputable abbrev sNKey : Stmt := top 26
noncomputable abbrev sNNum : Stmt := top 27
noncomputable abbrev sWord : Stmt := top 30
noncomputable abbrev sNWord : Stmt := top 31
noncomputable abbrev sWordsIn : Stmt := top 32
noncomputable abbrev sPlain : Stmt := top 33
noncomputable abbrev lMixed : Stmt := top 35
noncomputable abbrev lNumber : Stmt := top 36
noncomputable abbrev lMenu : Stmt := top 37
noncomputable abbrev lText : Stmt := top 38
noncomputable abbrev lSigns : Stmt := top 39
noncomputable abbrev lSmall : Stmt := top 40
noncomputable abbrev lWords : Stmt := top 41
noncomputable abbrev lThing : Stmt := top 42
noncomputable abbrev lAllIn : Stmt := top 43
noncomputable abbrev lDue : Stmt := top 44
noncomputable abbrev lClass : Stmt := top 45
noncomputable abbrev lNeeded : Stmt := top 46
noncomputable abbrev lNumNeeded : Stmt := top 47
noncomputable abbrev lNumsRight : Stmt := top 48
noncomputable abbrev lThingRight : Stmt := top 49
noncomputable abbrev lTuples : Stmt := top 50
noncomputable abbrev lLaw : Stmt := top 51
structure Df (K : PySem.W.Frag) (mg : Str → Option Value) (x : Str) (st : Stmt) (f : Addr) (fd : FuncData) : Prop where
  F : Fun K x x st f fd
  m : mg x = some (.ref f)
structure Txt (mg : Str → Option Value) : Prop where
  isi : mg "isinstance" = none
  int : mg "int" = none
  bool : mg "bool" = none
  str : mg "str" = none
  list : mg "list" = none
  tuple : mg "tuple" = none
  len : mg "len" = none
  all : mg "all" = none
  ord : mg "ord" = none
  range : mg "range" = none
  enum : mg "enumerate" = none
  val : mg "ValueError" = none
  cText : ∃ t, mg "MOST_TEXT_SIGNS" = some (.int 2000 t)
  cKey : ∃ t, mg "MOST_KEY_SIGNS" = some (.int 12 t)
  cWord : ∃ t, mg "MOST_WORD_SIGNS" = some (.int 2000 t)
  cSmall : ∃ t, mg "SMALL_SIGNS" = some (.str "abcdefghijklmnopqrstuvwxyz0123456789" t)
  cPer : ∃ t, mg "PERCENT_NUMBER" = some (.int 37 t)
theorem b_isi : bootBuiltins "isinstance" = some (.builtin "isinstance") := by decide +kernel
theorem b_int : bootBuiltins "int" = some (.type "int") := by decide +kernel
theorem b_bool : bootBuiltins "bool" = some (.type "bool") := by decide +kernel
theorem b_str : bootBuiltins "str" = some (.type "str") := by decide +kernel
theorem b_list : bootBuiltins "list" = some (.type "list") := by decide +kernel
theorem b_tuple : bootBuiltins "tuple" = some (.type "tuple") := by decide +kernel
theorem b_len : bootBuiltins "len" = some (.builtin "len") := by decide +kernel
theorem b_all : bootBuiltins "all" = some (.builtin "all") := by decide +kernel
theorem b_ord : bootBuiltins "ord" = some (.builtin "ord") := by decide +kernel
theorem b_val : bootBuiltins "ValueError" = some (.type "ValueError") := by decide +kernel
section
variable {P : Program} {w : World} {K : PySem.W.Frag} {mg : Str → Option Value} {base : Heap}
noncomputable def spWhole (K : PySem.W.Frag) : Sp := fun vs H Q _ => ∃ x, vs = [x] ∧ Known K H x ∧ Q (.bl (isIntV x && !isBlV x)) H
theorem scWhole : FnScope ["thing"] ["thing"] (defScope sWhole) := ⟨rfl, rfl, rfl, by decide +kernel, rfl, by decide +kernel, by decide +kernel⟩
theorem ok_whole {f : Addr} {fd : FuncData} (D : Df K mg "is_whole" sWhole f fd) (T : Txt mg) : FnOk P w K mg base CX0 1 f fd ["thing"] (spWhole K) := by
  refine D.F.ok scWhole (fun vs H Q E h => ?_) (fun cdv A outer s H vs Q E hr h => ?_)
  · obtain ⟨x, rfl, _⟩ := h
    rfl
  · obtain ⟨x, rfl, ⟨n, hty⟩, k⟩ := h
    refine ⟨_, pss_one (ps_ret (pe_and (pe_callB call_isi rfl T.isi b_isi (pa_cons (pv 0) (pa_cons (pe_bltn (v := .ty "int") rfl T.int b_int rfl) pa_nil)))
      (pe_one (pe_not (pe_callB call_isi rfl T.isi b_isi (pa_cons (pv 0) (pa_cons (pe_bltn (v := .ty "bool") rfl T.bool b_bool rfl) pa_nil))))))), ?_⟩
    refine ⟨_, rfl, x, .ty "int", _, _, rfl, hty, .inl ⟨_, rfl, kit_int hty⟩, _, rfl, ?_⟩
    cases hi : isIntV x with
    | false =>
      rw [hi] at k
      exact iteF k
    | true =>
      rw [hi] at k
      refine iteT ?_
      exact ⟨_, rfl, x, .ty "bool", _, _, rfl, hty, .inl ⟨_, rfl, kit_bool hty⟩, _, rfl, k⟩
noncomputable def spSign : Sp := fun vs H Q _ => ∃ c : Nat, vs = [.str ⟨#[c]⟩] ∧ Q (.bl (okC c)) H
theorem scSign : FnScope ["sign"] ["sign"] (defScope sSign) := ⟨rfl, rfl, rfl, by decide +kernel, rfl, by decide +kernel, by decide +kernel⟩
theorem one_eq (c d : Nat) : decide (V.str ⟨#[c]⟩ = V.str ⟨#[d]⟩) = decide (c = d) := by
  by_cases h : c = d
  · subst h; simp
  · rw [decide_eq_false h]
    exact decide_eq_false fun z => h (by injection z with z; injection z with z; simpa using z)
theorem lt_one (c d : Nat) : decide (([c] : List Nat) < [d]) = decide (c < d) := by
  by_cases h : c < d
  · rw [decide_eq_true h]; exact decide_eq_true (List.Lex.rel h)
  · rw [decide_eq_false h]
    exact decide_eq_false fun z => by
      cases z with
      | rel q => exact h q
      | cons q => cases q
theorem ok_sign {f : Addr} {fd : FuncData} (D : Df K mg "is_text_sign" sSign f fd) (T : Txt mg) : FnOk P w K mg base CX0 1 f fd ["sign"] spSign := by
  obtain ⟨tp, cp⟩ := T.cPer
  refine D.F.ok scSign (fun vs H Q E h => ?_) (fun cdv A outer s H vs Q E hr h => ?_)
  · obtain ⟨c, rfl, _⟩ := h
    rfl
  · obtain ⟨c, rfl, k⟩ := h
    refine ⟨_, pss_one (ps_ret (pe_or (pe_cmpR op_eq (pv 0) pe_str (nomark _)) (pe_one (pe_and (pe_chain op_le_str op_le_str pe_str (pv 0) pe_str)
      (pe_one (pe_cmpR op_ne (pe_callB call_ord rfl T.ord b_ord (pa_cons (pv 0) pa_nil)) (pe_glob (v := .int 37) rfl cp ⟨_, rfl⟩) (nomark _))))))), ?_⟩
    refine ⟨_, rfl, rfl, _, rfl, ?_⟩
    have e10 : decide (V.str ⟨#[c]⟩ = V.str (Str.ofString "\n")) = decide (c = 10) := one_eq c 10
    rw [e10]
    unfold okC at k
    by_cases h10 : c = 10
    · rw [decide_eq_true h10] at k ⊢
      exact iteT k
    · rw [decide_eq_false h10] at k ⊢
      refine iteF ?_
      refine ⟨_, rfl, _, _, rfl, rfl, _, rfl, ?_⟩
      have e32 : (!decide ((⟨#[c]⟩ : Str).cps.toList < (Str.ofString " ").cps.toList)) = decide (32 ≤ c) := by
        show (!decide (([c] : List Nat) < [32])) = _
        rw [lt_one]
        by_cases h : c < 32
        · rw [decide_eq_true h, decide_eq_false (by (clear h10 e10 cp; omega))]; rfl
        · rw [decide_eq_false h, decide_eq_true (by (clear h10 e10 cp; omega))]; rfl
      rw [e32]
      by_cases h32 : 32 ≤ c
      · rw [decide_eq_true h32] at k ⊢
        refine iteT ⟨_, _, rfl, rfl, _, rfl, ?_⟩
        have e126 : (!decide ((Str.ofString "~").cps.toList < (⟨#[c]⟩ : Str).cps.toList)) = decide (c ≤ 126) := by
          show (!decide (([126] : List Nat) < [c])) = _
          rw [lt_one]
          by_cases h : 126 < c
          · rw [decide_eq_true h, decide_eq_false (by (clear h32 e32 h10 e10 cp; omega))]; rfl
          · rw [decide_eq_false h, decide_eq_true (by (clear h32 e32 h10 e10 cp; omega))]; rfl
        rw [e126]
        by_cases h126 : c ≤ 126
        · rw [decide_eq_true h126] at k ⊢
          refine iteT ⟨_, rfl, _, rfl, rfl, rfl, ?_⟩
          have e37 : decide (V.int (((⟨#[c]⟩ : Str).cps.getD 0 0 : Nat) : Int) = V.int 37) = decide (c = 37) := by
            rw [dec_int]
            by_cases h : c = 37
            · subst h; rfl
            · rw [decide_eq_false h]
              exact beq_eq_false_iff_ne.mpr fun z => h (by have z' : ((c : Nat) : Int) = 37 := z; (clear z h h126 e126 h32 e32 h10 e10 cp; omega))
          rw [e37]
          exact k
        · rw [decide_eq_false h126] at k ⊢
          exact iteF k
      · rw [decide_eq_false h32] at k ⊢
        exact iteF ⟨_, rfl, iteF k⟩
end
end K01
set_option maxRecDepth 100000
set_option maxHeartbeats 4000000
namespace K01
open PySem L2
section
variable {P : Program} {w : World} {K : PySem.W.Frag} {mg : Str → Option Value} {base : Heap}
theorem binds1 {x p : Str} {st : Stmt} {f : Addr} {fd : FuncData} (F : Fun K x x st f fd)
    (h : ∀ (kV doc pm : Value) (an : Option Addr) (cdv ct : Value) (u : Value), bindArgs (PySem.W.fnOf x x (defArgs st) (defBody st) (defScope st) .none kV doc pm an cdv ct) ⟨[u], []⟩ = pure ([p].zip [u])) : Binds K fd [p] [] :=
  F.binds fun kV doc pm an cdv ct us hl => us1 (fun u => h kV doc pm an cdv ct u) us hl
theorem str_len (z : Str) : z.cps.toList.length = z.length := by simp [Str.length]
theorem cps_get {z : Str} {i c : Nat} (h : z.cps[i]? = some c) : z.cps.toList[i]? = some c := by simpa using h
theorem g1 {i : Nat} {v : V} {σ : St} {H : Hp} {te : TE} {M : V → Hp → Prop} {N0 : Hp → Prop} (h : te (σ.set i (some v)) H M) : gName i v σ H fun σ2 H2 => tNoIf σ2 H2 fun b H3 => if b = true then te σ2 H3 M else N0 H3 := by
  show if true = true then te (σ.set i (some v)) H M else N0 H
  exact iteT h
theorem ndSign : (["sign"] : List Str).Nodup := by decide +kernel
noncomputable def spText (K : PySem.W.Frag) : Sp := fun vs H Q _ => ∃ x, vs = [x] ∧ Known K H x ∧ Fit x ∧ ∀ H', Same H H' → Q (.bl (txtV x)) H'
theorem scText : FnScope ["thing"] ["thing"] (defScope sText) := ⟨rfl, rfl, rfl, by decide +kernel, rfl, by decide +kernel, by decide +kernel⟩
theorem notStr {x : V} (h : isStrV x = false) : txtV x = false := by cases x <;> first | rfl | cases h
theorem notStrR {x : V} {m : Nat} (h : isStrV x = false) : rowV m x = false := by cases x <;> first | rfl | cases h
theorem isStr {x : V} (h : isStrV x = true) : ∃ z, x = .str z := by cases x <;> first | exact ⟨_, rfl⟩ | cases h
theorem ok_text {f fs : Addr} {fd fds : FuncData} (D : Df K mg "is_text" sText f fd) (DS : Df K mg "is_text_sign" sSign fs fds) (T : Txt mg) : FnOk P w K mg base CX0 2 f fd ["thing"] (spText K) := by
  obtain ⟨tc, cc⟩ := T.cText
  have GS : FnOk P w K mg base CX0 1 fs fds ["sign"] spSign := ok_sign DS T
  have bS := binds1 (p := "sign") DS.F fun _ _ _ _ _ _ _ => rfl
  refine D.F.ok scText (fun vs H Q E h => ?_) (fun cdv A outer s H vs Q E hr h => ?_)
  · obtain ⟨x, rfl, _⟩ := h
    rfl
  · obtain ⟨x, rfl, ⟨n, hty⟩, hfit, k⟩ := h
    refine ⟨_, pss_cons (ps_if (PW.pt (pw_or (pt_not (pt_val (pe_callB call_isi rfl T.isi b_isi (pa_cons (pv 0) (pa_cons (pe_bltn (v := .ty "str") rfl T.str b_str rfl) pa_nil)))))
        (pw_or1 (pt_cmpR op_gt (pe_callB call_len_str rfl T.len b_len (pa_cons (pv 0) pa_nil)) (pe_glob (v := .int 2000) rfl cc ⟨_, rfl⟩) (nomark _))))) (pss_one (ps_ret pe_bl)) pss_nil)
      (pss_one (ps_ret (pe_callB (call_all_bools rfl) rfl T.all b_all (pa_cons (pe_comp (own := 1) (caps := []) (N := ["sign"]) (N0 := ["thing"]) (sc0 := defScope sText) rfl (pi_str (pv 0))
        (fun _ _ _ => pg_name (i := 0) ndSign rfl (Or.inl rfl)) (fun _ _ _ => pf_none)
        (fun _ _ _ => pe_call GS hr rfl DS.m DS.F.kp bS .nil pass0 (pa_cons (pv 0) pa_nil)) (gk_name (by decide)) rfl rfl
        (by decide +kernel) rfl (by decide +kernel) (by decide +kernel) rfl (by decide +kernel)) pa_nil)))), ?_⟩
    refine ⟨_, rfl, x, .ty "str", _, _, rfl, hty, .inl ⟨_, rfl, kit_str hty⟩, _, rfl, ?_⟩
    cases hx : isStrV x with
    | false =>
      refine iteT (iteT ?_)
      have := k H (Same.refl H)
      rw [notStr hx] at this
      exact this
    | true =>
      obtain ⟨z, rfl⟩ := isStr hx
      have hz := hfit z rfl
      have hl : (sizeLine : Nat) = 16777216 := sizeLine_eq
      refine iteF ?_
      refine ⟨_, rfl, z, rfl, by (clear hx cc; omega), _, _, rfl, rfl, _, rfl, ?_⟩
      by_cases hlen : (2000 : Int) < (z.length : Int)
      · rw [decide_eq_true hlen]
        refine iteT ?_
        have := k H (Same.refl H)
        have e : txtV (.str z) = false := by
          show (decide (z.length ≤ 2000) && _) = false
          rw [decide_eq_false (by (clear hl hz hx cc; omega)), Bool.false_and]
        rw [e] at this
        exact this
      · rw [decide_eq_false hlen]
        refine iteF ?_
        have sz : z.cps.size = z.length := rfl
        refine ⟨_, rfl, z, rfl, comp_its (x := z) (fun i ys H' => Same H H' ∧ ys = ((z.cps.toList.take i).map fun c => V.bl (okC c))) (by (clear hlen hx cc; omega)) ⟨Same.refl H, rfl⟩ ?_ ?_⟩
        · rintro i c ys H' N hc ⟨sm, rfl⟩ hN
          refine g1 ?_
          refine ⟨_, rfl, c, rfl, hN _ _ ⟨sm, ?_⟩⟩
          rw [List.take_add_one, cps_get hc, List.map_append]
          rfl
        · rintro ys H' ⟨sm, rfl⟩ _ p hp
          refine ⟨p, z.cps.toList.map okC, rfl, SqL.of (by rw [upd_same, List.take_of_length_le (by simp)]; simp), ?_⟩
          have := k (upd H' p (.lst ((z.cps.toList.take z.cps.size).map fun c => V.bl (okC c)))) (Same.upd sm hp)
          have e : txtV (.str z) = (z.cps.toList.map okC).all id := by
            show (decide (z.length ≤ 2000) && _) = _
            rw [decide_eq_true (by (clear hp sz hl hz hx cc; omega)), Bool.true_and, List.all_map]
            rfl
          rw [e] at this
          exact this
noncomputable def spRow (K : PySem.W.Frag) : Sp := fun vs H Q _ => ∃ (x : V) (m : Nat), vs = [x, .int m] ∧ Known K H x ∧ Fit x ∧ ∀ H', Same H H' → Q (.bl (rowV m x)) H'
theorem scRow : FnScope ["thing", "most"] ["thing", "most"] (defScope sRow) := ⟨rfl, rfl, rfl, by decide +kernel, rfl, by decide +kernel, by decide +kernel⟩
theorem by128 {f g : Nat → Bool} (h : ∀ c, c < 128 → f c = g c) (hf : ∀ c, f c = true → c < 128) (hg : ∀ c, g c = true → c < 128) (c : Nat) : f c = g c := by
  by_cases hc : c < 128
  · exact h c hc
  · cases ef : f c with
    | true => exact absurd (hf c ef) hc
    | false =>
      cases eg : g c with
      | true => exact absurd (hg c eg) hc
      | false => rfl
theorem mem128 {l : List Nat} (h : l.all (fun x => decide (x < 128)) = true) (c : Nat) (e : decide (c ∈ l) = true) : c < 128 := of_decide_eq_true (List.all_eq_true.mp h c (of_decide_eq_true e))
noncomputable abbrev smallT : Str := Str.ofString "abcdefghijklmnopqrstuvwxyz0123456789"
theorem small_mem : ∀ c : Nat, decide (c ∈ smallT.cps.toList) = isS c := by128 (by decide +kernel) (mem128 (by decide +kernel)) fun c h => isS_lt h
theorem small_in (c : Nat) : (!(Builtin.Str.occurrences (Str.ofString "abcdefghijklmnopqrstuvwxyz0123456789") ⟨#[c]⟩ 0 (Str.ofString "abcdefghijklmnopqrstuvwxyz0123456789").length 1).isEmpty) = isS c := by
  rw [PySem.StrLaws.found_one]
  exact small_mem c
theorem ok_row {f : Addr} {fd : FuncData} (D : Df K mg "is_small_row" sRow f fd) (T : Txt mg) : FnOk P w K mg base CX0 1 f fd ["thing", "most"] (spRow K) := by
  obtain ⟨tc, cc⟩ := T.cSmall
  refine D.F.ok scRow (fun vs H Q E h => ?_) (fun cdv A outer s H vs Q E hr h => ?_)
  · obtain ⟨x, m, rfl, _⟩ := h
    rfl
  · obtain ⟨x, m, rfl, ⟨n, hty⟩, hfit, k⟩ := h
    refine ⟨_, pss_cons (ps_if (PW.pt (pw_or (pt_not (pt_val (pe_callB call_isi rfl T.isi b_isi (pa_cons (pv 0) (pa_cons (pe_bltn (v := .ty "str") rfl T.str b_str rfl) pa_nil)))))
        (pw_or (pt_cmpR op_lt (pe_callB call_len_str rfl T.len b_len (pa_cons (pv 0) pa_nil)) pe_int (nomark _))
        (pw_or1 (pt_cmpR op_gt (pe_callB call_len_str rfl T.len b_len (pa_cons (pv 0) pa_nil)) (pv 1) (nomark _)))))) (pss_one (ps_ret pe_bl)) pss_nil)
      (pss_one (ps_ret (pe_callB (call_all_bools rfl) rfl T.all b_all (pa_cons (pe_comp (own := 1) (caps := []) (N := ["sign"]) (N0 := ["thing", "most"]) (sc0 := defScope sRow) rfl (pi_str (pv 0))
        (fun _ _ _ => pg_name (i := 0) ndSign rfl (Or.inl rfl)) (fun _ _ _ => pf_none)
        (fun _ _ _ => pe_cmpR op_in_str (pv 0) (pe_glob (v := .str (Str.ofString "abcdefghijklmnopqrstuvwxyz0123456789")) rfl cc ⟨_, rfl⟩) rfl) (gk_name (by decide)) rfl rfl
        (by decide +kernel) rfl (by decide +kernel) (by decide +kernel) rfl (by decide +kernel)) pa_nil)))), ?_⟩
    refine ⟨_, rfl, x, .ty "str", _, _, rfl, hty, .inl ⟨_, rfl, kit_str hty⟩, _, rfl, ?_⟩
    have kH := k H (Same.refl H)
    cases hx : isStrV x with
    | false =>
      rw [notStrR hx] at kH
      exact iteT (iteT kH)
    | true =>
      obtain ⟨z, rfl⟩ := isStr hx
      have hz := hfit z rfl
      have hl : (sizeLine : Nat) = 16777216 := sizeLine_eq
      have rv : rowV m (.str z) = (decide (1 ≤ z.length) && decide (z.length ≤ m) && z.cps.toList.all isS) := rfl
      refine iteF ?_
      refine ⟨_, rfl, z, rfl, by (clear rv hx cc; omega), _, _, rfl, rfl, _, rfl, ?_⟩
      by_cases h1 : (z.length : Int) < 1
      · rw [decide_eq_true h1]
        rw [rv, decide_eq_false (by (clear rv hl hz hx cc; omega)), Bool.false_and, Bool.false_and] at kH
        exact iteT (iteT kH)
      · rw [decide_eq_false h1]
        refine iteF ⟨_, rfl, z, rfl, by (clear h1 rv hx cc; omega), _, rfl, _, _, rfl, rfl, _, rfl, ?_⟩
        by_cases hlen : (m : Int) < (z.length : Int)
        · rw [decide_eq_true hlen]
          rw [rv, decide_eq_false (show ¬ z.length ≤ m by (clear h1 rv hl hz hx cc; omega)), Bool.and_false, Bool.false_and] at kH
          exact iteT kH
        · rw [decide_eq_false hlen]
          refine iteF ?_
          have sz : z.cps.size = z.length := rfl
          refine ⟨_, rfl, z, rfl, comp_its (x := z) (fun i ys H' => Same H H' ∧ ys = ((z.cps.toList.take i).map fun c => V.bl (isS c))) (by (clear hlen h1 rv hx cc; omega)) ⟨Same.refl H, rfl⟩ ?_ ?_⟩
          · rintro i c ys H' N hc ⟨sm, rfl⟩ hN
            refine g1 ?_
            refine ⟨_, rfl, _, _, rfl, rfl, hN _ _ ⟨sm, ?_⟩⟩
            rw [small_in, List.take_add_one, cps_get hc, List.map_append]
            rfl
          · rintro ys H' ⟨sm, rfl⟩ _ p hp
            refine ⟨p, z.cps.toList.map isS, rfl, SqL.of (by rw [upd_same, List.take_of_length_le (by simp)]; simp), ?_⟩
            have := k (upd H' p (.lst ((z.cps.toList.take z.cps.size).map fun c => V.bl (isS c)))) (Same.upd sm hp)
            have e : rowV m (.str z) = (z.cps.toList.map isS).all id := by
              rw [rv, decide_eq_true (by (clear hp sz hlen rv hl hz hx cc; omega)), decide_eq_true (by (clear hp sz h1 rv hl hz hx cc; omega)), Bool.true_and, Bool.true_and, List.all_map]
              rfl
            rw [e] at this
            exact this
end
end K01
set_option maxRecDepth 100000
set_option maxHeartbeats 4000000
namespace K01
open PySem L2 PyProof.Rows PySem.Spec
structure Ex (K : PySem.W.Frag) (mg : Str → Option Value) (x : Str) (C : Addr) : Prop where
  m : mg x = some (.ref C)
  q : PySem.W.excIn K C [.type "ValueError", .type "Exception", .type "BaseException", .type "object"] "ValueError.__new__" = true
structure DfD (K : PySem.W.Frag) (mg : Str → Option Value) (x : Str) (st : Stmt) (f : Addr) (fd : FuncData) (items : Array Value) : Prop where
  ex : ∃ (oc : Value) (od : Option Addr) (kV doc pm : Value) (an : Option Addr) (cdv ct : Value) (osl : Array (Option Value)) (T : Addr) (o : Obj) (n : Nat),
    fd = PySem.W.fnOf x x (defArgs st) (defBody st) (defScope st) (.ref T) kV doc pm an cdv ct ∧ K.lookup f = some ⟨oc, od, .func fd, osl⟩ ∧ PySem.W.codeIn K cdv x = true ∧ K.lookup T = some o ∧ o.data = .seq items n
  kp : PySem.W.keepIn K (.ref f) = true
  m : mg x = some (.ref f)
section
variable {P : Program} {w : World} {K : PySem.W.Frag} {mg : Str → Option Value} {base : Heap}
theorem DfD.ok1 {x : Str} {st : Stmt} {f : Addr} {fd : FuncData} {items : Array Value} {N ps : List Str} {k : Nat} {sp : Sp} (F : DfD K mg x st f fd items) (S : FnScope N ps (defScope st)) (len : ∀ vs H Q E, sp vs H Q E → vs.length = ps.length)
    (hbody : ∀ (cdv : Value) (A : Around) (outer : List Env) (s : Shared) (H : Hp) (vs : List V) (Q : VK) (E : XK), Room k (A.deeper (envOfC x (defScope st) s.heap.objs.size f cdv)) → sp vs H Q E →
      ∃ t, PSs (cxOf (CX1 P w) P w K mg base N x (defScope st) f cdv A outer s H E) (defBody st) t ∧ t { nx := fun _ H' => Q .non H', rt := Q } (L2.start N vs) H) : FnOk P w K mg base (CX1 P w) (k + 1) f fd ps sp := by
  obtain ⟨oc, od, kV, doc, pm, an, cdv, ct, osl, T, o, n, rfl, lk, hcd, _⟩ := F.ex
  exact fn_of lk hcd S len fun A outer s H vs Q E hr hsp => hbody cdv A outer s H vs Q E hr hsp
theorem DfD.binds {x : Str} {st : Stmt} {f : Addr} {fd : FuncData} {items : Array Value} {ps : List Str} {ds : List Value} (F : DfD K mg x st f fd items)
    (h : ∀ (T : Addr) (kV doc pm : Value) (an : Option Addr) (cdv ct : Value) (us : List Value), (us ++ ds).length = ps.length → ∃ k : Option (Array Value) → Sem (List (Str × Value)),
      bindArgs (PySem.W.fnOf x x (defArgs st) (defBody st) (defScope st) (.ref T) kV doc pm an cdv ct) ⟨us, []⟩ = seqItems? (.ref T) >>= k ∧ k (some items) = pure (ps.zip (us ++ ds))) : Binds K fd ps ds := by
  obtain ⟨oc, od, kV, doc, pm, an, cdv, ct, osl, T, o, n, rfl, lk, hcd, lT, hd⟩ := F.ex
  intro s us X hl
  obtain ⟨k, h1, h2⟩ := h T kV doc pm an cdv ct us hl
  exact BindsTo.of_defaults (T := T) rfl (X _ _ lT) hd h1 h2
noncomputable def spIs (K : PySem.W.Frag) (m : Nat) : Sp := fun vs H Q _ => ∃ x, vs = [x] ∧ Known K H x ∧ Fit x ∧ ∀ H', Same H H' → Q (.bl (rowV m x)) H'
theorem scKey : FnScope ["thing"] ["thing"] (defScope sKey) := ⟨rfl, rfl, rfl, by decide +kernel, rfl, by decide +kernel, by decide +kernel⟩
theorem scWord : FnScope ["thing"] ["thing"] (defScope sWord) := ⟨rfl, rfl, rfl, by decide +kernel, rfl, by decide +kernel, by decide +kernel⟩
theorem ok_key {f fr : Addr} {fd fdr : FuncData} (D : Df K mg "is_key" sKey f fd) (DR : Df K mg "is_small_row" sRow fr fdr) (T : Txt mg) : FnOk P w K mg base CX0 2 f fd ["thing"] (spIs K 12) := by
  obtain ⟨tc, cc⟩ := T.cKey
  have GR : FnOk P w K mg base CX0 1 fr fdr ["thing", "most"] (spRow K) := ok_row DR T
  have bR := DR.F.binds (ps := ["thing", "most"]) fun _ _ _ _ _ _ us hl => us2 (fun _ _ => rfl) us hl
  refine D.F.ok scKey (fun vs H Q E h => ?_) (fun cdv A outer s H vs Q E hr h => ?_)
  · obtain ⟨x, rfl, _⟩ := h
    rfl
  · obtain ⟨x, rfl, hk, hfit, k⟩ := h
    refine ⟨_, pss_one (ps_ret (pe_call GR hr rfl DR.m DR.F.kp bR .nil pass0 (pa_cons (pv 0) (pa_cons (pe_glob (v := .int 12) rfl cc ⟨_, rfl⟩) pa_nil)))), ?_⟩
    exact ⟨_, rfl, x, 12, rfl, hk, hfit, k⟩
theorem ok_word {f fr : Addr} {fd fdr : FuncData} (D : Df K mg "is_word" sWord f fd) (DR : Df K mg "is_small_row" sRow fr fdr) (T : Txt mg) : FnOk P w K mg base CX0 2 f fd ["thing"] (spIs K 2000) := by
  obtain ⟨tc, cc⟩ := T.cWord
  have GR : FnOk P w K mg base CX0 1 fr fdr ["thing", "most"] (spRow K) := ok_row DR T
  have bR := DR.F.binds (ps := ["thing", "most"]) fun _ _ _ _ _ _ us hl => us2 (fun _ _ => rfl) us hl
  refine D.F.ok scWord (fun vs H Q E h => ?_) (fun cdv A outer s H vs Q E hr h => ?_)
  · obtain ⟨x, rfl, _⟩ := h
    rfl
  · obtain ⟨x, rfl, hk, hfit, k⟩ := h
    refine ⟨_, pss_one (ps_ret (pe_call GR hr rfl DR.m DR.F.kp bR .nil pass0 (pa_cons (pv 0) (pa_cons (pe_glob (v := .int 2000) rfl cc ⟨_, rfl⟩) pa_nil)))), ?_⟩
    exact ⟨_, rfl, x, 2000, rfl, hk, hfit, k⟩
noncomputable def spNeed (K : PySem.W.Frag) (p : V → Bool) (C : Addr) : Sp := fun vs H Q E => ∃ x, vs = [x] ∧ Known K H x ∧ Fit x ∧ (p x = true → ∀ H', Same H H' → Q x H') ∧ (p x = false → ∀ H', Same H H' → E (.ref C) none H')
theorem scNText : FnScope ["thing"] ["thing"] (defScope sNText) := ⟨rfl, rfl, rfl, by decide +kernel, rfl, by decide +kernel, by decide +kernel⟩
theorem scNKey : FnScope ["thing"] ["thing"] (defScope sNKey) := ⟨rfl, rfl, rfl, by decide +kernel, rfl, by decide +kernel, by decide +kernel⟩
theorem scNWord : FnScope ["thing"] ["thing"] (defScope sNWord) := ⟨rfl, rfl, rfl, by decide +kernel, rfl, by decide +kernel, by decide +kernel⟩
theorem ok_ntext {f ft C : Addr} {fd fdt : FuncData} (D : Df K mg "need_text" sNText f fd) (DT : Df K mg "is_text" sText ft fdt) (X : Ex K mg "BadText" C) (GT : FnOk P w K mg base CX0 2 ft fdt ["thing"] (spText K)) : FnOk P w K mg base (CX1 P w) 3 f fd ["thing"] (spNeed K txtV C) := by
  have bT := binds1 (p := "thing") DT.F fun _ _ _ _ _ _ _ => rfl
  refine D.F.ok1 scNText (fun vs H Q E h => ?_) (fun cdv A outer s H vs Q E hr h => ?_)
  · obtain ⟨x, rfl, _⟩ := h
    rfl
  · obtain ⟨x, rfl, hk, hfit, k1, k2⟩ := h
    refine ⟨_, pss_cons (ps_if (pt_not (pt_val (pe_call GT hr rfl DT.m DT.F.kp bT .nil pass0 (pa_cons (pv 0) pa_nil)))) (pss_one (ps_raise rfl X.q PySem.F.excBase_ValueError (by decide +kernel) PySem.F.excBase_ValueError rfl X.m (pa_cons pe_str pa_nil) raise_out)) pss_nil)
      (pss_one (ps_ret (pv 0))), ?_⟩
    refine ⟨_, rfl, x, rfl, hk, hfit, fun H' sm => ⟨_, rfl, ?_⟩⟩
    cases hx : txtV x with
    | false => exact iteT ⟨by show 1 ≤ sizeLine; decide, k2 hx H' sm⟩
    | true => exact iteF ⟨_, rfl, k1 hx H' sm⟩
theorem ok_nkey {f ft C : Addr} {fd fdt : FuncData} (D : Df K mg "need_key" sNKey f fd) (DT : Df K mg "is_key" sKey ft fdt) (X : Ex K mg "BadKey" C) (GT : FnOk P w K mg base CX0 2 ft fdt ["thing"] (spIs K 12)) : FnOk P w K mg base (CX1 P w) 3 f fd ["thing"] (spNeed K (rowV 12) C) := by
  have bT := binds1 (p := "thing") DT.F fun _ _ _ _ _ _ _ => rfl
  refine D.F.ok1 scNKey (fun vs H Q E h => ?_) (fun cdv A outer s H vs Q E hr h => ?_)
  · obtain ⟨x, rfl, _⟩ := h
    rfl
  · obtain ⟨x, rfl, hk, hfit, k1, k2⟩ := h
    refine ⟨_, pss_cons (ps_if (pt_not (pt_val (pe_call GT hr rfl DT.m DT.F.kp bT .nil pass0 (pa_cons (pv 0) pa_nil)))) (pss_one (ps_raise rfl X.q PySem.F.excBase_ValueError (by decide +kernel) PySem.F.excBase_ValueError rfl X.m (pa_cons pe_str pa_nil) raise_out)) pss_nil)
      (pss_one (ps_ret (pv 0))), ?_⟩
    refine ⟨_, rfl, x, rfl, hk, hfit, fun H' sm => ⟨_, rfl, ?_⟩⟩
    cases hx : rowV 12 x with
    | false => exact iteT ⟨by show 1 ≤ sizeLine; decide, k2 hx H' sm⟩
    | true => exact iteF ⟨_, rfl, k1 hx H' sm⟩
theorem ok_nword {f ft C : Addr} {fd fdt : FuncData} (D : Df K mg "need_word" sNWord f fd) (DT : Df K mg "is_word" sWord ft fdt) (X : Ex K mg "BadWord" C) (GT : FnOk P w K mg base CX0 2 ft fdt ["thing"] (spIs K 2000)) : FnOk P w K mg base (CX1 P w) 3 f fd ["thing"] (spNeed K (rowV 2000) C) := by
  have bT := binds1 (p := "thing") DT.F fun _ _ _ _ _ _ _ => rfl
  refine D.F.ok1 scNWord (fun vs H Q E h => ?_) (fun cdv A outer s H vs Q E hr h => ?_)
  · obtain ⟨x, rfl, _⟩ := h
    rfl
  · obtain ⟨x, rfl, hk, hfit, k1, k2⟩ := h
    refine ⟨_, pss_cons (ps_if (pt_not (pt_val (pe_call GT hr rfl DT.m DT.F.kp bT .nil pass0 (pa_cons (pv 0) pa_nil)))) (pss_one (ps_raise rfl X.q PySem.F.excBase_ValueError (by decide +kernel) PySem.F.excBase_ValueError rfl X.m (pa_cons pe_str pa_nil) raise_out)) pss_nil)
      (pss_one (ps_ret (pv 0))), ?_⟩
    refine ⟨_, rfl, x, rfl, hk, hfit, fun H' sm => ⟨_, rfl, ?_⟩⟩
    cases hx : rowV 2000 x with
    | false => exact iteT ⟨by show 1 ≤ sizeLine; decide, k2 hx H' sm⟩
    | true => exact iteF ⟨_, rfl, k1 hx H' sm⟩
noncomputable def goodN (x : V) (least : Int) (most : Option Int) : Bool := match x with
  | .int i => decide (least ≤ i) && (match most with | none => true | some m => decide (i ≤ m))
  | _ => false
noncomputable def mostV : Option Int → V
  | none => .non
  | some m => .int m
noncomputable def spNNum (K : PySem.W.Frag) (C : Addr) : Sp := fun vs H Q E => ∃ (x : V) (l : Int) (m : Option Int), vs = [x, .int l, mostV m] ∧ Known K H x ∧ (goodN x l m = true → Q x H) ∧ (goodN x l m = false → E (.ref C) none H)
theorem scNNum : FnScope ["thing", "least", "most"] ["thing", "least", "most"] (defScope sNNum) := ⟨rfl, rfl, rfl, by decide +kernel, rfl, by decide +kernel, by decide +kernel⟩
theorem ok_nnum {f fw C : Addr} {fd fdw : FuncData} (D : DfD K mg "need_number" sNNum f fd #[.none]) (DW : Df K mg "is_whole" sWhole fw fdw) (X : Ex K mg "BadNumber" C) (T : Txt mg) : FnOk P w K mg base (CX1 P w) 2 f fd ["thing", "least", "most"] (spNNum K C) := by
  have GW : FnOk P w K mg base CX0 1 fw fdw ["thing"] (spWhole K) := ok_whole DW T
  have bW := binds1 (p := "thing") DW.F fun _ _ _ _ _ _ _ => rfl
  refine D.ok1 scNNum (fun vs H Q E h => ?_) (fun cdv A outer s H vs Q E hr h => ?_)
  · obtain ⟨x, l, m, rfl, _⟩ := h
    rfl
  · obtain ⟨x, l, m, rfl, hk, k1, k2⟩ := h
    refine ⟨_, pss_cons (ps_if (pt_not (pt_val (pe_call GW hr rfl DW.m DW.F.kp bW .nil pass0 (pa_cons (pv 0) pa_nil)))) (pss_one (ps_raise rfl X.q PySem.F.excBase_ValueError (by decide +kernel) PySem.F.excBase_ValueError rfl X.m (pa_cons pe_str pa_nil) raise_out)) pss_nil)
      (pss_cons (ps_if (pt_cmpR op_lt (pv 0) (pv 1) (nomark _)) (pss_one (ps_raise rfl X.q PySem.F.excBase_ValueError (by decide +kernel) PySem.F.excBase_ValueError rfl X.m (pa_cons pe_str pa_nil) raise_out)) pss_nil)
      (pss_cons (ps_if (PW.pt (pw_and (pt_cmp (pc_notN (pv 2))) (pw_and1 (pt_cmpR op_gt (pv 0) (pv 2) (nomark _))))) (pss_one (ps_raise rfl X.q PySem.F.excBase_ValueError (by decide +kernel) PySem.F.excBase_ValueError rfl X.m (pa_cons pe_str pa_nil) raise_out)) pss_nil)
      (pss_one (ps_ret (pv 0))))), ?_⟩
    refine ⟨_, rfl, x, rfl, hk, _, rfl, ?_⟩
    cases hx : isIntV x && !isBlV x with
    | false =>
      refine iteT ⟨by show 1 ≤ sizeLine; decide, k2 ?_⟩
      cases x <;> first | rfl | cases hx
    | true =>
      obtain ⟨i, rfl⟩ : ∃ i, x = .int i := by cases x <;> first | exact ⟨_, rfl⟩ | cases hx
      refine iteF ?_
      refine ⟨_, rfl, _, rfl, _, _, rfl, rfl, _, rfl, ?_⟩
      by_cases hl : i < l
      · rw [decide_eq_true hl]
        refine iteT ⟨by show 1 ≤ sizeLine; decide, k2 ?_⟩
        show (decide (l ≤ i) && _) = false
        rw [decide_eq_false (by (clear hx; omega)), Bool.false_and]
      · rw [decide_eq_false hl]
        refine iteF ⟨_, rfl, _, rfl, ?_⟩
        cases m with
        | none =>
          refine iteF (iteF ⟨_, rfl, k1 ?_⟩)
          show (decide (l ≤ i) && true) = true
          rw [decide_eq_true (by (clear hx; omega))]; rfl
        | some m =>
          refine iteT ⟨_, rfl, _, rfl, _, _, rfl, rfl, _, rfl, ?_⟩
          by_cases hm : m < i
          · rw [decide_eq_true hm]
            refine iteT ⟨by show 1 ≤ sizeLine; decide, k2 ?_⟩
            show (decide (l ≤ i) && decide (i ≤ m)) = false
            rw [decide_eq_false (show ¬ i ≤ m by (clear hl hx; omega)), Bool.and_false]
          · rw [decide_eq_false hm]
            refine iteF ⟨_, rfl, k1 ?_⟩
            show (decide (l ≤ i) && decide (i ≤ m)) = true
            rw [decide_eq_true (by (clear hm hx; omega)), decide_eq_true (by (clear hl hx; omega))]; rfl
end
end K01
set_option maxRecDepth 100000
set_option maxHeartbeats 4000000
namespace K01
open PySem L2 PyProof.Rows PySem.Spec
section
variable {P : Program} {w : World} {K : PySem.W.Frag} {mg : Str → Option Value} {base : Heap}
noncomputable def spMixed : Sp := fun vs H Q _ => ∃ n k : Int, vs = [.int n, .int k] ∧ 0 ≤ k ∧ k ≤ 1000000 ∧ ∀ r : Int, 0 ≤ r → r < 2147483629 → Q (.int r) H
theorem scMixed : FnScope ["_law_number_here", "_law_k"] ["_law_number_here", "_law_k"] (defScope lMixed) := ⟨rfl, rfl, rfl, by decide +kernel, rfl, by decide +kernel, by decide +kernel⟩
theorem ok_mixed {f : Addr} {fd : FuncData} (D : Df K mg "_law_mixed" lMixed f fd) : FnOk P w K mg base CX0 1 f fd ["_law_number_here", "_law_k"] spMixed := by
  refine D.F.ok scMixed (fun vs H Q E h => ?_) (fun cdv A outer s H vs Q E hr h => ?_)
  · obtain ⟨n, k, rfl, _⟩ := h
    rfl
  · obtain ⟨n, k, rfl, h0, h1, kk⟩ := h
    refine ⟨_, pss_cons (ps_set (i := 0) scMixed.nd rfl (Or.inl rfl) (pe_op op_mod (pe_op op_mul (pe_op op_add (pe_op op_add (pe_op op_mod (pv 0) pe_int) (pe_op op_mul (pe_op op_mul pe_int (pv 1)) (pv 1))) (pe_op op_mul pe_int (pv 1))) pe_int) pe_int))
      (pss_one (ps_ret (pe_op op_mod (pe_op op_mul (pv 0) (pe_op op_add pe_int (pe_op op_mul pe_int (pv 1)))) pe_int))), ?_⟩
    refine ⟨_, rfl, _, _, rfl, rfl, (by show (0 : Int) < 2147483647; decide), _, rfl, _, _, rfl, rfl, .inl ⟨by decide, by decide⟩, _, rfl, _, _, rfl, rfl, .inr ⟨by (clear h1; omega), by (clear h0; omega)⟩, _, _, rfl, rfl, _, rfl, _, _, rfl, rfl, .inl ⟨by decide, by decide⟩, _, _, rfl, rfl,
      _, _, rfl, rfl, .inr ⟨by decide, by decide⟩, _, _, rfl, rfl, (by show (0 : Int) < 2147483647; decide), ?_⟩
    have b1 := Int.emod_nonneg ((n % 2147483647 + 7919 * k * k + 31 * k) * 48271) (show (2147483647 : Int) ≠ 0 by decide)
    have b2 := Int.emod_lt_of_pos ((n % 2147483647 + 7919 * k * k + 31 * k) * 48271) (show (0 : Int) < 2147483647 by decide)
    refine ⟨_, rfl, _, rfl, _, _, rfl, rfl, .inl ⟨by decide, by decide⟩, _, _, rfl, rfl, _, _, rfl, rfl, .inl ⟨by (clear b2 b1 h1 h0; omega), by (clear b2 b1 h1 h0; omega)⟩, _, _, rfl, rfl, (by show (0 : Int) < 2147483629; decide), ?_⟩
    exact kk _ (Int.emod_nonneg _ (by decide)) (Int.emod_lt_of_pos _ (by decide))
theorem dt_ints {K : PySem.W.Frag} {H : Hp} : ∀ (ns : List Int), DtVs K H (ns.map V.int) (ns.map PyData.int)
  | [] => .nil
  | n :: ns => .cons (.int n) (dt_ints ns)
theorem lay_ints : ∀ (ns : List Int), (PyData.list (ns.map PyData.int)).canLay0 = true := by
  intro ns
  induction ns with
  | nil => rfl
  | cons n ns ih => exact ih
noncomputable def spNumber (K : PySem.W.Frag) : Sp := fun vs H Q _ => ∃ (a : Addr) (ns : List Int) (k : Nat), vs = [.ref a, .int k] ∧ SqL K H a (ns.map V.int) ∧ ns.length ≤ 63 ∧ k ≤ 1000 ∧ ∀ (r : Int) H', 0 ≤ r → r < 2147483629 → Same H H' → Q (.int r) H'
theorem scNumber : FnScope ["_law_script", "_law_k"] ["_law_script", "_law_k"] (defScope lNumber) := ⟨rfl, rfl, rfl, by decide +kernel, rfl, by decide +kernel, by decide +kernel⟩
theorem ok_number {f fm : Addr} {fd fdm : FuncData} (D : Df K mg "_law_number" lNumber f fd) (DM : Df K mg "_law_mixed" lMixed fm fdm) (T : Txt mg) : FnOk P w K mg base CX0 2 f fd ["_law_script", "_law_k"] (spNumber K) := by
  have GM : FnOk P w K mg base CX0 1 fm fdm ["_law_number_here", "_law_k"] spMixed := ok_mixed DM
  have bM := DM.F.binds (ps := ["_law_number_here", "_law_k"]) fun _ _ _ _ _ _ us hl => us2 (fun _ _ => rfl) us hl
  refine D.F.ok scNumber (fun vs H Q E h => ?_) (fun cdv A outer s H vs Q E hr h => ?_)
  · obtain ⟨a, ns, k, rfl, _⟩ := h
    rfl
  · obtain ⟨a, ns, k, rfl, hS, hl, hk, kk⟩ := h
    refine ⟨_, pss_cons (ps_if (pt_cmpR (op_eqD hr.units100) (pv 0) (pe_lst pa_nil) (nomark _)) (pss_one (ps_ret (pe_call GM hr rfl DM.m DM.F.kp bM .nil pass0 (pa_cons pe_int (pa_cons (pv 1) pa_nil))))) pss_nil)
      (pss_one (ps_ret (pe_call GM hr rfl DM.m DM.F.kp bM .nil pass0 (pa_cons (pe_ix ix_list (pv 0) (pe_op op_mod (pv 1) (pe_callB call_len_seq rfl T.len b_len (pa_cons (pv 0) pa_nil))) (fun _ _ => rfl)) (pa_cons (pv 1) pa_nil))))), ?_⟩
    refine ⟨_, rfl, Nat.zero_le _, fun p hp => ?_⟩
    have sm : Same H (upd H p (.lst [])) := same_upd hp
    refine ⟨.list (ns.map .int), .list [], .lst (sm.seq hS) (dt_ints ns), .lst (SqL.of upd_same) .nil, lay_ints ns, rfl, Nat.le_trans (Nat.min_le_right _ _) (by decide), _, rfl, ?_⟩
    cases ns with
    | nil =>
      refine iteT ?_
      exact ⟨_, rfl, 17, k, rfl, by (clear hl hp hk; omega), by (clear hl hp; omega), fun r r0 r1 => kk r _ r0 r1 sm⟩
    | cons n ns =>
      refine iteF ?_
      have hn : (0 : Int) < (((n :: ns).map V.int).length : Nat) := by simp
      refine ⟨_, rfl, _, rfl, _, rfl, _, _, rfl, .inl (sm.seq hS), _, _, rfl, rfl, hn, ?_⟩
      have hlt : k % (n :: ns).length < (n :: ns).length := Nat.mod_lt _ (by simp)
      have ei : ((k : Nat) : Int) % ((((n :: ns).map V.int).length : Nat) : Int) = ((k % (n :: ns).length : Nat) : Int) := by rw [List.length_map]; (clear hlt hn hl hp hk; omega)
      refine ⟨a, _, _, .int ((n :: ns)[k % (n :: ns).length]), rfl, rfl, sm.seq hS, ?_, _, rfl, _, k, rfl, by (clear ei hlt hn hl hp hk; omega), by (clear ei hlt hn hl hp; omega), fun r r0 r1 => kk r _ r0 r1 sm⟩
      rw [ei]
      exact atI_nat (by rw [List.getElem?_map, List.getElem?_eq_getElem hlt]; rfl)
noncomputable def smallS (c : Nat) : List Nat := if isS (lo c) then [lo c] else []
noncomputable def spSmall : Sp := fun vs H Q _ => ∃ c : Nat, vs = [.str ⟨#[c]⟩] ∧ okC c = true ∧ Q (.str ⟨(smallS c).toArray⟩) H
theorem scSmall : FnScope ["_law_sign", "_law_great", "_law_small_here"] ["_law_sign"] (defScope lSmall) := ⟨rfl, rfl, rfl, by decide +kernel, rfl, by decide +kernel, by decide +kernel⟩
theorem in_lit (x : String) (c : Nat) : (!(Builtin.Str.occurrences (Str.ofString x) ⟨#[c]⟩ 0 (Str.ofString x).length 1).isEmpty) = decide (c ∈ (Str.ofString x).cps.toList) := PySem.StrLaws.found_one _ _
theorem great_list : (Str.ofString "ABCDEFGHIJKLMNOPQRSTUVWXYZ").cps.toList = List.range' 65 26 := by decide +kernel
theorem small_list : (Str.ofString "abcdefghijklmnopqrstuvwxyz").cps.toList = List.range' 97 26 := by decide +kernel
theorem fig_list : (Str.ofString "0123456789").cps.toList = List.range' 48 10 := by decide +kernel
theorem find_great : ∀ c, c < 128 → 65 ≤ c → c ≤ 90 → Txt.find (Str.ofString "ABCDEFGHIJKLMNOPQRSTUVWXYZ") ⟨#[c]⟩ = ((c - 65 : Nat) : Int) := by decide +kernel
theorem ok_small {f : Addr} {fd : FuncData} (D : Df K mg "_law_small" lSmall f fd) : FnOk P w K mg base CX0 1 f fd ["_law_sign"] spSmall := by
  refine D.F.ok scSmall (fun vs H Q E h => ?_) (fun cdv A outer s H vs Q E hr h => ?_)
  · obtain ⟨c, rfl, _⟩ := h
    rfl
  · obtain ⟨c, rfl, hok, k⟩ := h
    have hlt := ok_lt hok
    refine ⟨_, pss_cons (ps_set (i := 1) scSmall.nd rfl (Or.inl rfl) pe_str) (pss_cons (ps_set (i := 2) scSmall.nd rfl (Or.inl rfl) pe_str)
      (pss_cons (ps_if (pt_cmpR op_in_str (pv 0) (pv 1) rfl) (pss_one (ps_ret (pe_ix ix_str (pv 2) (pe_bm PySem.F.plainAttrs_str PySem.F.slot_str_index PySem.F.type_str_index (mt_sindex rfl) (pv 1) (pa_cons (pv 0) pa_nil)) (fun _ _ => rfl)))) pss_nil)
      (pss_cons (ps_if (PW.pt (pw_or (pt_cmpR op_in_str (pv 0) (pv 2) rfl) (pw_or1 (pt_cmpR op_in_str (pv 0) pe_str rfl)))) (pss_one (ps_ret (pv 0))) pss_nil)
      (pss_one (ps_ret pe_str))))), ?_⟩
    refine ⟨_, rfl, _, rfl, _, _, rfl, rfl, _, rfl, ?_⟩
    rw [in_lit, great_list]
    by_cases hg : 65 ≤ c ∧ c ≤ 90
    · rw [decide_eq_true (by rw [List.mem_range'_1]; (clear hlt hok; omega))]
      refine iteT ?_
      have hf := find_great c hlt hg.1 hg.2
      refine ⟨_, rfl, _, rfl, rfl, _, rfl, _, _, rfl, rfl, ?_, _, _, c + 32, rfl, rfl, by decide, ?_, ?_⟩
      · have e := in_lit "ABCDEFGHIJKLMNOPQRSTUVWXYZ" c
        rw [great_list, decide_eq_true (by rw [List.mem_range'_1]; (clear e hf hlt hok; omega))] at e
        simpa using e
      · rw [hf, small_list]
        refine atI_nat ?_
        rw [List.getElem?_range' (by (clear hf hlt hok; omega))]
        congr 1
        (clear hf hlt hok; omega)
      · have e : smallS c = [c + 32] := by
          unfold smallS lo
          rw [if_pos hg, if_pos]
          unfold isS
          simp only [Bool.or_eq_true, Bool.and_eq_true, decide_eq_true_eq]
          (clear hf hlt hok; omega)
        rw [e] at k
        exact k
    · rw [decide_eq_false (by rw [List.mem_range'_1]; (clear hlt hok; omega))]
      refine iteF ?_
      have el : lo c = c := by unfold lo; rw [if_neg hg]
      refine ⟨_, rfl, _, rfl, _, _, rfl, rfl, _, rfl, ?_⟩
      rw [in_lit, small_list]
      by_cases hs : 97 ≤ c ∧ c ≤ 122
      · rw [decide_eq_true (by rw [List.mem_range'_1]; (clear el hg hlt hok; omega))]
        refine iteT (iteT ⟨_, rfl, ?_⟩)
        have e : smallS c = [c] := by
          unfold smallS
          rw [el, if_pos]
          unfold isS
          simp only [Bool.or_eq_true, Bool.and_eq_true, decide_eq_true_eq]
          (clear el hg hlt hok; omega)
        rw [e] at k
        exact k
      · rw [decide_eq_false (by rw [List.mem_range'_1]; (clear el hg hlt hok; omega))]
        refine iteF ⟨_, rfl, _, _, rfl, rfl, _, rfl, ?_⟩
        rw [in_lit, fig_list]
        by_cases hd : 48 ≤ c ∧ c ≤ 57
        · rw [decide_eq_true (by rw [List.mem_range'_1]; (clear hs el hg hlt hok; omega))]
          refine iteT ⟨_, rfl, ?_⟩
          have e : smallS c = [c] := by
            unfold smallS
            rw [el, if_pos]
            unfold isS
            simp only [Bool.or_eq_true, Bool.and_eq_true, decide_eq_true_eq]
            (clear hs el hg hlt hok; omega)
          rw [e] at k
          exact k
        · rw [decide_eq_false (by rw [List.mem_range'_1]; (clear hs el hg hlt hok; omega))]
          refine iteF ?_
          have e : smallS c = [] := by
            unfold smallS
            rw [el, if_neg]
            unfold isS
            simp only [Bool.or_eq_true, Bool.and_eq_true, decide_eq_true_eq]
            (clear el hg hlt hok; omega)
          rw [e] at k
          exact k
end
end K01
set_option maxRecDepth 100000
set_option maxHeartbeats 4000000
namespace K01
open PySem L2 PyProof.Rows PySem.Spec
noncomputable def wdT (x : Wd) : HO := .tup [.str ⟨x.1.toArray⟩, .int x.2.1, .int x.2.2]
structure WL (H : Hp) (a : Addr) (ws : List Wd) : Prop where
  ex : ∃ ps : List Addr, H a = some (.lst (ps.map V.ref)) ∧ Paired (fun p x => H p = some (wdT x)) ps ws
theorem Paired.imp2 {α β : Type} {F G : α → β → Prop} : ∀ {l : List α} {m : List β}, Paired F l m → (∀ a b, F a b → G a b) → Paired G l m
  | _, _, .nil, _ => .nil
  | _, _, .cons r t, f => .cons (f _ _ r) (Paired.imp2 t f)
theorem Paired.app {α β : Type} {F : α → β → Prop} {a : α} {b : β} : ∀ {l : List α} {m : List β}, Paired F l m → F a b → Paired F (l ++ [a]) (m ++ [b])
  | _, _, .nil, h => .cons h .nil
  | _, _, .cons r t, h => .cons r (Paired.app t h)
theorem Paired.len {α β : Type} {F : α → β → Prop} : ∀ {l : List α} {m : List β}, Paired F l m → l.length = m.length
  | _, _, .nil => rfl
  | _, _, .cons _ t => by simp [Paired.len t]
theorem WL.same {H H' : Hp} {a : Addr} {ws : List Wd} (h : WL H a ws) (s : Same H H') : WL H' a ws := by
  obtain ⟨ps, e, p⟩ := h.ex
  exact ⟨ps, s _ _ e, Paired.imp2 p fun _ _ q => s _ _ q⟩
theorem WL.more {H : Hp} {a t : Addr} {ws : List Wd} {x : Wd} {ps : List Addr} (e : H a = some (.lst (ps.map V.ref))) (p : Paired (fun p x => H p = some (wdT x)) ps ws) (ht : H t = none) :
    WL (upd (upd H t (wdT x)) a (.lst (ps.map V.ref ++ [.ref t]))) a (ws ++ [x]) := by
  have hta : t ≠ a := fun z => by rw [z, e] at ht; cases ht
  refine ⟨ps ++ [t], by rw [upd_same, List.map_append]; rfl, ?_⟩
  refine Paired.app (Paired.imp2 p fun q y h => ?_) (by rw [upd_ne hta, upd_same])
  have h1 : q ≠ a := fun z => by rw [z, e] at h; cases h
  have h2 : q ≠ t := ne_of_none h ht
  rw [upd_ne h1, upd_ne h2]
  exact h
theorem same_app {H0 H : Hp} {a t : Addr} {o o' : HO} (s : Same H0 H) (ha : H0 a = none) (ht : H t = none) : Same H0 (upd (upd H t o) a o') := fun b u e => by
  rw [upd_ne (ne_of_none e ha), upd_ne (ne_of_none (s b u e) ht)]
  exact s b u e
section
variable {P : Program} {w : World} {K : PySem.W.Frag} {mg : Str → Option Value} {base : Heap}
noncomputable def codes (x : Str) : List Nat := x.cps.toList
noncomputable def Drawn (x : Str) : Prop := x.length ≤ 2000 ∧ (codes x).all okC = true
theorem str_app (a b : List Nat) : (⟨a.toArray⟩ : Str) ++ ⟨b.toArray⟩ = ⟨(a ++ b).toArray⟩ := by
  show (⟨a.toArray ++ b.toArray⟩ : Str) = _
  simp
theorem str_len' (a : List Nat) : (⟨a.toArray⟩ : Str).length = a.length := by simp [Str.length]
theorem empty_str : Str.ofString "" = ⟨([] : List Nat).toArray⟩ := rfl
theorem fit_app {a b : List Nat} (h : a.length + b.length ≤ 5000) : (⟨a.toArray⟩ : Str).length + (⟨b.toArray⟩ : Str).length ≤ sizeLine := by
  rw [str_len', str_len', sizeLine_eq]
  omega
theorem str_eq (a b : List Nat) : decide (V.str ⟨a.toArray⟩ = V.str ⟨b.toArray⟩) = decide (a = b) := by
  by_cases h : a = b
  · subst h; simp
  · rw [decide_eq_false h]
    exact decide_eq_false fun z => h (by injection z with z; injection z with z; simpa using z)
noncomputable def spWords : Sp := fun vs H Q _ => ∃ x, vs = [.str x] ∧ Drawn x ∧ ∀ a H', Same H H' → H a = none → WL H' a (words (codes x)) → Q (.ref a) H'
theorem scWords : FnScope ["_law_text_here", "_law_found", "_law_word", "_law_at", "_law_sign"] ["_law_text_here"] (defScope lWords) := ⟨rfl, rfl, rfl, by decide +kernel, rfl, by decide +kernel, by decide +kernel⟩
theorem ok_words {f fs : Addr} {fd fds : FuncData} (D : Df K mg "_law_words" lWords f fd) (DS : Df K mg "_law_small" lSmall fs fds) (T : Txt mg) : FnOk P w K mg base CX0 2 f fd ["_law_text_here"] spWords := by
  have GS : FnOk P w K mg base CX0 1 fs fds ["_law_sign"] spSmall := ok_small DS
  have bS := binds1 (p := "_law_sign") DS.F fun _ _ _ _ _ _ _ => rfl
  refine D.F.ok scWords (fun vs H Q E h => ?_) (fun cdv A outer s H vs Q E hr h => ?_)
  · obtain ⟨x, rfl, _⟩ := h
    rfl
  · obtain ⟨x, rfl, ⟨hlen, hok⟩, kk⟩ := h
    have hl : (sizeLine : Nat) = 16777216 := sizeLine_eq
    have clen : (codes x).length = x.length := by unfold codes; simp [Str.length]
    refine ⟨_, pss_cons (ps_set (i := 1) scWords.nd rfl (Or.inl rfl) (pe_lst pa_nil)) (pss_cons (ps_set (i := 2) scWords.nd rfl (Or.inl rfl) pe_str)
      (pss_cons (ps_for PassesOwn.never rfl (pi_range1 rfl T.range (pa_cons (pe_op op_add (pe_callB call_len_str rfl T.len b_len (pa_cons (pv 0) pa_nil)) pe_int) pa_nil)) (pg_name (i := 3) scWords.nd rfl (Or.inl rfl))
        (pss_cons (ps_set (i := 4) scWords.nd rfl (Or.inl rfl) pe_str)
        (pss_cons (ps_if (pt_cmpR op_lt (pv 3) (pe_callB call_len_str rfl T.len b_len (pa_cons (pv 0) pa_nil)) (nomark _))
          (pss_one (ps_set (i := 4) scWords.nd rfl (Or.inl rfl) (pe_call GS hr rfl DS.m DS.F.kp bS .nil pass0 (pa_cons (pe_ix ix_str (pv 0) (pv 3) (fun _ _ => rfl)) pa_nil)))) pss_nil)
        (pss_cons (ps_if (PW.pt (pw_and (pt_cmpR op_eq (pv 4) pe_str (nomark _)) (pw_and1 (pt_cmpR op_ne (pv 2) pe_str (nomark _)))))
          (pss_cons (ps_expr (pe_bm PySem.F.plainAttrs_list PySem.F.slot_list_append PySem.F.type_list_append mt_append (pv 1)
              (pa_cons (pe_tup (pa_cons (pv 2) (pa_cons (pe_op op_sub (pv 3) (pe_callB call_len_str rfl T.len b_len (pa_cons (pv 2) pa_nil))) (pa_cons (pv 3) pa_nil)))) pa_nil)))
            (pss_one (ps_set (i := 2) scWords.nd rfl (Or.inl rfl) pe_str))) pss_nil)
        (pss_one (ps_set (i := 2) scWords.nd rfl (Or.inl rfl) (pe_op op_add_str (pv 2) (pv 4))))))))
      (pss_one (ps_ret (pv 1))))), ?_⟩
    refine ⟨Nat.zero_le _, fun a ha => ?_⟩
    refine ⟨_, rfl, x, rfl, by (clear ha clen hok; omega), _, _, rfl, rfl, _, rfl, by (clear ha clen hl hok hlen; omega), by (clear ha clen hl hok; omega), ?_⟩
    have en : (((x.length : Nat) : Int) + 1).toNat = x.length + 1 := by (clear ha clen hl hok hlen; omega)
    rw [en]
    refine for_range (fun i σ H' => ∃ (ds : List Wd) (wd : List Nat) (v3 v4 : Option V), σ = [some (.str x), some (.ref a), some (.str ⟨wd.toArray⟩), v3, v4] ∧ Same H H' ∧ WL H' a ds ∧ wd.all isS = true ∧ wd.length ≤ i ∧ ds.length ≤ i ∧
        ((i ≤ x.length ∧ ds ++ wgo (((codes x).map lo).drop i) i wd = words (codes x)) ∨ (i = x.length + 1 ∧ ds = words (codes x)))) ?_ ?_ ?_
    · exact ⟨[], [], none, none, rfl, same_upd ha, ⟨[], upd_same, .nil⟩, rfl, Nat.le_refl _, Nat.le_refl _, .inl ⟨Nat.zero_le _, rfl⟩⟩
    · intro i σ H' hi hP
      refine genW fun B D' hB hnB => ?_
      obtain ⟨ds, wd, v3, v4, rfl, sm, hW, hwd, hwl, hdl, hm⟩ := hP
      have hm' : i ≤ x.length ∧ ds ++ wgo (((codes x).map lo).drop i) i wd = words (codes x) := by
        rcases hm with q | ⟨q, _⟩
        · exact q
        · (clear hdl hwl hwd en ha clen hl hok hlen; omega)
      obtain ⟨hix, heq⟩ := hm'
      have e0 : (0 : Int) + (i : Nat) = (i : Int) := by (clear heq hix hm hdl hwl hwd hi en ha clen hl hok hlen; omega)
      rw [e0]
      -- the rest of the turn, once the sign is known
      have rest : ∀ (sg : List Nat), ((sg = [] ∧ ((i < x.length → False) ∨ ∃ c, (codes x)[i]? = some c ∧ isS (lo c) = false)) ∨ ∃ c, (codes x)[i]? = some c ∧ isS (lo c) = true ∧ sg = [lo c]) → sg.length ≤ 1 → True := fun _ _ _ => trivial
      refine nextW (R := B) hB fun R hR => ?_
      refine nextW (R := R) hR fun R hR => ?_
      refine ⟨_, rfl, _, rfl, x, rfl, by (clear e0 heq hix hm hdl hwl hwd hi en ha clen hok; omega), _, _, rfl, rfl, _, rfl, ?_⟩
      obtain ⟨ps, eA, pA⟩ := hW.ex
      have plen := Paired.len pA
      by_cases hlt : i < x.length
      · rw [decide_eq_true (by (clear plen eA e0 heq hix hm hdl hwl hwd hi en ha clen hl hok hlen; omega))]
        refine iteT ?_
        have hci : i < (codes x).length := by (clear plen eA e0 heq hix hm hdl hwl hwd hi en ha hl hok hlen; omega)
        have hc : (codes x)[i]? = some (codes x)[i] := List.getElem?_eq_getElem hci
        have hdrop : ((codes x).map lo).drop i = lo (codes x)[i] :: ((codes x).map lo).drop (i + 1) := by
          rw [List.drop_eq_getElem_cons (by rw [List.length_map]; exact hci), List.getElem_map]
        have hokc : okC (codes x)[i] = true := List.all_eq_true.mp hok _ (List.getElem_mem hci)
        refine ⟨_, rfl, _, rfl, x, _, (codes x)[i], rfl, rfl, by (clear hokc hdrop hc hci hlt plen eA e0 heq hix hm hdl hwl hwd hi en ha clen hok; omega), atI_nat hc, _, rfl, hokc, ?_⟩
        refine nextW (R := R) hR fun R hR => ?_
        refine ⟨_, rfl, rfl, _, rfl, ?_⟩
        have es : decide (V.str ⟨(smallS (codes x)[i]).toArray⟩ = V.str (Str.ofString "")) = decide (smallS (codes x)[i] = []) := str_eq _ []
        rw [es]
        cases hS : isS (lo (codes x)[i]) with
        | true =>
          have e1 : smallS (codes x)[i] = [lo (codes x)[i]] := by unfold smallS; rw [if_pos hS]
          rw [e1, decide_eq_false (by simp)]
          refine iteF (iteF (lastW (R := R) hR ?_))
          refine ⟨_, rfl, _, rfl, _, _, rfl, rfl, ?_, ?_⟩
          · rw [str_len', str_len']; simp; (clear e1 hS es hokc hdrop hc hci hlt plen eA e0 heq hix hm hdl hwd en ha clen hok; omega)
          · rw [str_app]
            refine hnB _ _ ⟨ds, wd ++ [lo (codes x)[i]], _, _, rfl, sm, hW, by simp [List.all_append, hwd, hS], by simp; (clear e1 hS es hokc hdrop hc hci hlt plen eA e0 heq hix hm hdl hwd hi en ha clen hl hok hlen; omega), by (clear e1 hS es hokc hdrop hc hci hlt plen eA e0 heq hix hm hwl hwd hi en ha clen hl hok hlen; omega), .inl ⟨by (clear e1 hS es hokc hdrop hc hci plen eA e0 heq hix hm hdl hwl hwd hi en ha clen hl hok hlen; omega), ?_⟩⟩
            rw [hdrop, wgo_small hS] at heq
            exact heq
        | false =>
          have e1 : smallS (codes x)[i] = [] := by unfold smallS; rw [if_neg (by rw [hS]; exact Bool.false_ne_true)]
          rw [e1, decide_eq_true rfl]
          refine iteT ⟨_, rfl, rfl, _, rfl, ?_⟩
          have ew : (!decide (V.str ⟨wd.toArray⟩ = V.str (Str.ofString ""))) = !decide (wd = []) := by rw [show decide (V.str ⟨wd.toArray⟩ = V.str (Str.ofString "")) = decide (wd = []) from str_eq _ []]
          rw [ew]
          rw [hdrop, wgo_other hS, ← List.append_assoc] at heq
          by_cases hw0 : wd = []
          · subst hw0
            rw [decide_eq_true rfl]
            refine iteF (lastW (R := R) hR ?_)
            refine ⟨_, rfl, _, rfl, _, _, rfl, rfl, fit_app (a := []) (b := []) (by simp), ?_⟩
            rw [str_app]
            refine hnB _ _ ⟨ds, [], _, _, rfl, sm, hW, rfl, Nat.zero_le _, by (clear ew heq hm hwl hwd e1 hS es hokc hdrop hc hci hlt plen eA e0 hix hi en ha clen hl hok hlen; omega), .inl ⟨by (clear ew heq hm hwl hwd e1 hS es hokc hdrop hc hci plen eA e0 hix hdl hi en ha clen hl hok hlen; omega), ?_⟩⟩
            simpa [flush] using heq
          · rw [decide_eq_false hw0]
            refine iteT ?_
            refine ⟨_, rfl, .inl ⟨rfl, _, SqL.of eA⟩, _, rfl, _, rfl, _, rfl, _, rfl, by rw [str_len']; (clear hw0 ew e1 hS es hokc hdrop hc heq hci hlt plen eA e0 hix hm hdl hwd en ha clen hok; omega), _, _, rfl, rfl, _, rfl, (by show 3 ≤ sizeLine; decide), fun t ht => ?_⟩
            have hta : a ≠ t := ne_of_none eA ht
            refine ⟨a, _, _, rfl, rfl, by rw [upd_ne hta]; exact eA, by simp; (clear hta ht hw0 ew e1 hS es hokc hdrop hc heq hci hlt eA e0 hix hm hwl hwd en ha clen hok; omega), ?_⟩
            refine lastW (R := R) hR ?_
            refine ⟨_, rfl, _, rfl, _, _, rfl, rfl, fit_app (a := []) (b := []) (by simp), ?_⟩
            have et : HO.tup [V.str ⟨wd.toArray⟩, V.int (((i : Nat) : Int) - ((Str.length ⟨wd.toArray⟩ : Nat) : Int)), V.int (i : Int)] = wdT (wd, i - wd.length, i) := by
              unfold wdT
              rw [str_len']
              show HO.tup [_, V.int _, _] = HO.tup [_, V.int ((i - wd.length : Nat) : Int), _]
              rw [show ((i : Nat) : Int) - ((wd.length : Nat) : Int) = ((i - wd.length : Nat) : Int) by (clear hta ht hw0 ew e1 hS es hokc hdrop hc heq hci hlt plen eA e0 hix hm hdl hwd hi en ha clen hl hok hlen; omega)]
            rw [et]
            have ee : (Str.ofString "" : Str) ++ ⟨([] : List Nat).toArray⟩ = ⟨([] : List Nat).toArray⟩ := str_app [] []
            refine hnB _ _ ⟨ds ++ [(wd, i - wd.length, i)], [], _, _, (by rw [ee]; rfl), same_app sm ha ht, WL.more eA pA ht, rfl, Nat.zero_le _, by simp; (clear ee et hta ht hw0 ew e1 hS es hokc hdrop hc heq hci hlt plen eA e0 hix hm hwl hwd hi en ha clen hl hok hlen; omega), .inl ⟨by (clear ee et hta ht hw0 ew e1 hS es hokc hdrop hc heq hci plen eA e0 hix hm hdl hwl hwd hi en ha clen hl hok hlen; omega), ?_⟩⟩
            have hfl : flush i wd = [(wd, i - wd.length, i)] := by unfold flush; rw [if_neg hw0]
            rw [hfl] at heq
            exact heq
      · rw [decide_eq_false (by (clear plen eA e0 heq hix hm hdl hwl hwd hi en ha clen hl hok hlen; omega))]
        refine iteF ?_
        have hin : i = x.length := by (clear plen eA e0 heq hix hm hdl hwl hwd en ha clen hl hok hlen; omega)
        have hdrop : ((codes x).map lo).drop i = [] := List.drop_of_length_le (by rw [List.length_map]; (clear hin plen eA e0 heq hix hm hdl hwl hwd hi en ha hl hok hlen; omega))
        rw [hdrop] at heq
        have heq' : ds ++ flush i wd = words (codes x) := heq
        refine nextW (R := R) hR fun R hR => ?_
        refine ⟨_, rfl, rfl, _, rfl, ?_⟩
        have es : decide (V.str (Str.ofString "") = V.str (Str.ofString "")) = true := decide_eq_true rfl
        rw [es]
        refine iteT ⟨_, rfl, rfl, _, rfl, ?_⟩
        have ew : (!decide (V.str ⟨wd.toArray⟩ = V.str (Str.ofString ""))) = !decide (wd = []) := by rw [show decide (V.str ⟨wd.toArray⟩ = V.str (Str.ofString "")) = decide (wd = []) from str_eq _ []]
        rw [ew]
        have ee : (⟨wd.toArray⟩ : Str) ++ Str.ofString "" = ⟨wd.toArray⟩ := by
          rw [empty_str, str_app, List.append_nil]
        by_cases hw0 : wd = []
        · subst hw0
          rw [decide_eq_true rfl]
          refine iteF (lastW (R := R) hR ?_)
          refine ⟨_, rfl, _, rfl, _, _, rfl, rfl, fit_app (a := []) (b := []) (by simp), ?_⟩
          rw [ee]
          exact hnB _ _ ⟨ds, [], _, _, rfl, sm, hW, rfl, Nat.zero_le _, by (clear ee ew heq' heq hm hwl hwd es hdrop hin hlt plen eA e0 hix hi en ha clen hl hok hlen; omega), .inr ⟨by (clear ee ew heq' heq hm hwl hwd es hdrop hin plen eA e0 hix hdl en ha clen hl hok hlen; omega), by simpa [flush] using heq'⟩⟩
        · rw [decide_eq_false hw0]
          refine iteT ?_
          refine ⟨_, rfl, .inl ⟨rfl, _, SqL.of eA⟩, _, rfl, _, rfl, _, rfl, _, rfl, by rw [str_len']; (clear hw0 ee ew es heq' hdrop hin hlt plen eA e0 heq hix hm hdl hwd en ha clen hok; omega), _, _, rfl, rfl, _, rfl, (by show 3 ≤ sizeLine; decide), fun t ht => ?_⟩
          have hta : a ≠ t := ne_of_none eA ht
          refine ⟨a, _, _, rfl, rfl, by rw [upd_ne hta]; exact eA, by simp; (clear hta ht hw0 ee ew es heq' hdrop hin hlt eA e0 heq hix hm hwl hwd en ha clen hok; omega), ?_⟩
          refine lastW (R := R) hR ?_
          refine ⟨_, rfl, _, rfl, _, _, rfl, rfl, fit_app (a := []) (b := []) (by simp), ?_⟩
          have et : HO.tup [V.str ⟨wd.toArray⟩, V.int (((i : Nat) : Int) - ((Str.length ⟨wd.toArray⟩ : Nat) : Int)), V.int (i : Int)] = wdT (wd, i - wd.length, i) := by
            unfold wdT
            rw [str_len']
            show HO.tup [_, V.int _, _] = HO.tup [_, V.int ((i - wd.length : Nat) : Int), _]
            rw [show ((i : Nat) : Int) - ((wd.length : Nat) : Int) = ((i - wd.length : Nat) : Int) by (clear hta ht hw0 ee ew es heq' hdrop hin hlt plen eA e0 heq hix hm hdl hwd hi en ha clen hl hok hlen; omega)]
          rw [et]
          have e2 : (Str.ofString "" : Str) ++ Str.ofString "" = ⟨([] : List Nat).toArray⟩ := str_app [] []
          have hfl : flush i wd = [(wd, i - wd.length, i)] := by unfold flush; rw [if_neg hw0]
          rw [hfl] at heq'
          exact hnB _ _ ⟨ds ++ [(wd, i - wd.length, i)], [], _, _, (by rw [e2]; rfl), same_app sm ha ht, WL.more eA pA ht, rfl, Nat.zero_le _, by simp; (clear hfl e2 et hta ht hw0 ee ew es heq' hdrop hin hlt plen eA e0 heq hix hm hwl hwd hi en ha clen hl hok hlen; omega), .inr ⟨by (clear hfl e2 et hta ht hw0 ee ew es heq' hdrop hin plen eA e0 heq hix hm hdl hwl hwd en ha clen hl hok hlen; omega), heq'⟩⟩
    · rintro σ H' ⟨ds, wd, v3, v4, rfl, sm, hW, _, _, _, hm⟩
      rcases hm with ⟨q, _⟩ | ⟨_, q⟩
      · (clear en ha clen hl hok hlen; omega)
      · subst q
        exact ⟨_, rfl, kk a H' sm ha hW⟩
end
end K01
set_option maxRecDepth 100000
set_option maxHeartbeats 4000000
namespace L2
open PySem PySem.Spec PyProof.Rows
theorem PS.nox {X : Cx} {st : Stmt} {t : TS} (h : PS X.nox st t) : PS X st t := fun pins s σ H D I hw =>
  wpAny_mono (h pins s σ H D (I.wish _) hw) (fun _ _ q => q.unwish) fun _ _ z => False.elim z
end L2
namespace K01
open PySem L2 PyProof.Rows PySem.Spec
theorem slice_nat (l : List Nat) {a b : Nat} (hab : a ≤ b) (hb : b ≤ l.length) : Txt.slice ⟨l.toArray⟩ (some (a : Int)) (some (b : Int)) = ⟨((l.drop a).take (b - a)).toArray⟩ := by
  have h := PySem.StrLaws.sliceText_nat (⟨l.toArray⟩ : Str) hab (by rw [str_len']; exact hb)
  have e : (⟨l.toArray⟩ : Str).cps.toList = l := by simp
  rw [e] at h
  exact h
theorem lower_eq {z : Str} (h : (codes z).all okC = true) : Txt.lower z = ⟨((codes z).map lo).toArray⟩ := by
  rw [lower_ascii fun c hc => ok_lt (List.all_eq_true.mp h c hc)]
  show (⟨z.cps.map lo⟩ : Str) = _
  congr 1
  unfold codes
  apply Array.toList_inj.mp
  simp
theorem txt_drawn {z : Str} (h : txtV (.str z) = true) : Drawn z := by
  have h' : (decide (z.length ≤ 2000) && z.cps.toList.all okC) = true := h
  rw [Bool.and_eq_true] at h'
  exact ⟨of_decide_eq_true h'.1, h'.2⟩
theorem drawn_txt {z : Str} (h : Drawn z) : txtV (.str z) = true := by
  show (decide (z.length ≤ 2000) && z.cps.toList.all okC) = true
  rw [decide_eq_true h.1, Bool.true_and]
  exact h.2
section
variable {P : Program} {w : World} {K : PySem.W.Frag} {mg : Str → Option Value} {base : Heap}
noncomputable def spWIn (K : PySem.W.Frag) (C : Addr) : Sp := fun vs H Q E => ∃ x, vs = [x] ∧ Known K H x ∧ Fit x ∧ (∀ z, x = .str z → Drawn z → ∀ a H', Same H H' → H a = none → WL H' a (words (codes z)) → Q (.ref a) H') ∧ (txtV x = false → ∀ H', Same H H' → E (.ref C) none H')
theorem scWIn : FnScope ["text", "small", "found", "begin", "place", "sign"] ["text"] (defScope sWordsIn) := ⟨rfl, rfl, rfl, by decide +kernel, rfl, by decide +kernel, by decide +kernel⟩
theorem ok_win {f ft C : Addr} {fd fdt : FuncData} (D : Df K mg "words_in" sWordsIn f fd) (DT : Df K mg "need_text" sNText ft fdt) (GT : FnOk P w K mg base (CX1 P w) 3 ft fdt ["thing"] (spNeed K txtV C)) (T : Txt mg) : FnOk P w K mg base (CX1 P w) 4 f fd ["text"] (spWIn K C) := by
  obtain ⟨tc, cc⟩ := T.cSmall
  have bT := binds1 (p := "thing") DT.F fun _ _ _ _ _ _ _ => rfl
  refine D.F.ok1 scWIn (fun vs H Q E h => ?_) (fun cdv A outer s H vs Q E hr h => ?_)
  · obtain ⟨x, rfl, _⟩ := h
    rfl
  · obtain ⟨x, rfl, hk, hfit, k1, k2⟩ := h
    have hl : (sizeLine : Nat) = 16777216 := sizeLine_eq
    refine ⟨_, pss_cons (ps_set (i := 1) scWIn.nd rfl (Or.inl rfl) (pe_bm0 PySem.F.plainAttrs_str PySem.F.slot_str_lower PySem.F.type_str_lower mt_lower (pe_call GT hr rfl DT.m DT.F.kp bT .nil (pass_out (E' := E) (fun _ _ _ h => h)) (pa_cons (pv 0) pa_nil))))
      (pss_cons (ps_set (i := 2) scWIn.nd rfl (Or.inl rfl) (pe_lst pa_nil)) (pss_cons (ps_set (i := 3) scWIn.nd rfl (Or.inl rfl) pe_int)
      (pss_cons (PS.nox (ps_for PassesOwn.never rfl (pi_enum rfl T.enum (pa_cons (pe_op op_add_str (pv 1) pe_str) pa_nil)) (pg_tup rfl (pgs_cons (pg_name (i := 4) scWIn.nd rfl (Or.inl rfl)) (pgs_cons (pg_name (i := 5) scWIn.nd rfl (Or.inl rfl)) pgs_nil)))
        (pss_one (ps_if (pt_cmpR op_notIn_str (pv 5) (pe_glob (v := .str (Str.ofString "abcdefghijklmnopqrstuvwxyz0123456789")) rfl cc ⟨_, rfl⟩) rfl)
          (pss_cons (ps_if (pt_cmpR op_lt (pv 3) (pv 4) (nomark _))
            (pss_one (ps_expr (pe_bm PySem.F.plainAttrs_list PySem.F.slot_list_append PySem.F.type_list_append mt_append (pv 2) (pa_cons (pe_tup (pa_cons (pe_slice sl_str (pv 1) (po_some (pv 3)) (po_some (pv 4))) (pa_cons (pv 3) (pa_cons (pv 4) pa_nil)))) pa_nil)))) pss_nil)
          (pss_one (ps_set (i := 3) scWIn.nd rfl (Or.inl rfl) (pe_op op_add (pv 4) pe_int)))) pss_nil))))
      (pss_one (ps_ret (pv 2)))))), ?_⟩
    refine ⟨_, rfl, x, rfl, hk, hfit, fun ht H1 s1 => ?_, k2⟩
    obtain ⟨z, rfl⟩ : ∃ z, x = .str z := by cases x <;> first | exact ⟨_, rfl⟩ | cases ht
    have hd := txt_drawn ht
    obtain ⟨hlen, hok⟩ := id hd
    have clen : (codes z).length = z.length := by unfold codes; simp [Str.length]
    refine ⟨rfl, z, rfl, rfl, by (clear clen hok ht hl cc; omega), ?_⟩
    rw [lower_eq hok]
    refine ⟨Nat.zero_le _, fun a ha => ?_⟩
    have ha0 : H a = none := s1.free ha
    refine ⟨_, rfl, _, _, rfl, rfl, fit_app (b := [32]) (by simp; (clear ha0 ha hok ht hl cc; omega)), _, rfl, ?_⟩
    have ebl : (⟨((codes z).map lo).toArray⟩ : Str) ++ Str.ofString " " = ⟨((codes z).map lo ++ [32]).toArray⟩ := str_app _ [32]
    rw [ebl]
    have htot : wgo ((codes z).map lo ++ [32]) 0 [] = words (codes z) := wgo_blank _ 0 []
    have hsz : (⟨((codes z).map lo ++ [32]).toArray⟩ : Str).cps.size = z.length + 1 := by simp [clen]
    refine for_ite (fun i σ H' => ∃ (ds : List Wd) (wd : List Nat) (b : Nat) (v4 v5 : Option V), σ = [some (.str z), some (.str ⟨((codes z).map lo).toArray⟩), some (.ref a), some (.int b), v4, v5] ∧ Same H H' ∧ WL H' a ds ∧ b + wd.length = i ∧
        wd = (((codes z).map lo ++ [32]).drop b).take wd.length ∧ ds.length ≤ i ∧ i ≤ z.length + 1 ∧ (i = z.length + 1 → wd = []) ∧ ds ++ wgo (((codes z).map lo ++ [32]).drop i) i wd = words (codes z)) ?_ ?_ ?_
    · exact ⟨[], [], 0, none, none, rfl, Same.upd s1 ha, ⟨[], upd_same, .nil⟩, rfl, rfl, Nat.le_refl _, Nat.zero_le _, fun _ => rfl, htot⟩
    · intro i c σ H' t hc hP htn
      refine genW fun B D' hB hnB => ?_
      obtain ⟨ds, wd, b, v4, v5, rfl, sm, hW, hb, hwd, hdl, _, hend, heq⟩ := hP
      have hil : i < ((codes z).map lo ++ [32]).length := by
        have : i < (⟨((codes z).map lo ++ [32]).toArray⟩ : Str).cps.size := (Array.getElem?_eq_some_iff.mp hc).1
        simpa using this
      have hil' : i < z.length + 1 := by simpa [clen] using hil
      have hci : ((codes z).map lo ++ [32])[i]? = some c := by simpa using hc
      have hdrop : ((codes z).map lo ++ [32]).drop i = c :: ((codes z).map lo ++ [32]).drop (i + 1) := by
        rw [List.drop_eq_getElem_cons hil]
        congr 1
        rw [List.getElem?_eq_getElem hil] at hci
        exact Option.some.inj hci
      obtain ⟨ps, eA, pA⟩ := hW.ex
      have plen := Paired.len pA
      have smT : Same H (upd H' t (.tup [.int i, .str ⟨#[c]⟩])) := Same.upd sm htn
      have hta : a ≠ t := ne_of_none eA htn
      refine ⟨t, _, rfl, SqT.of upd_same, rfl, _, _, rfl, _, _, rfl, rfl, ?_⟩
      refine lastW (R := B) hB ?_
      refine ⟨_, rfl, _, _, rfl, rfl, _, rfl, ?_⟩
      rw [small_in]
      cases hS : isS c with
      | true =>
        refine iteF ?_
        refine hnB _ _ ⟨ds, wd ++ [c], b, _, _, rfl, smT, hW.same (same_upd htn), by simp; (clear hS hta plen eA hdrop hci hil' hil htn heq hdl hwd hc hsz htot ebl ha0 ha clen hok hlen ht hl cc; omega), ?_, by (clear hS hta plen eA hdrop hci hil' hil htn heq hwd hb hc hsz htot ebl ha0 ha clen hok hlen ht hl cc; omega), by (clear hS hta plen eA hdrop hci hil htn heq hdl hwd hb hc hsz htot ebl ha0 ha clen hok hlen ht hl cc; omega), fun e => ?_, ?_⟩
        · have hg : (((codes z).map lo ++ [32]).drop b)[wd.length]? = some c := by rw [List.getElem?_drop, hb]; exact hci
          rw [List.length_append, List.length_singleton, List.take_add_one, ← hwd, hg]
          rfl
        · have e' : i = ((codes z).map lo).length := by rw [List.length_map, clen]; (clear hS hta plen eA hdrop hci hil' hil htn heq hdl hwd hb hc hsz htot ebl ha0 ha clen hok hlen ht hl cc; omega)
          rw [e', List.getElem?_append_right (Nat.le_refl _), Nat.sub_self] at hci
          have : c = 32 := by simpa using hci.symm
          rw [this] at hS
          exact absurd hS (by decide)
        · rw [hdrop, wgo_small hS] at heq
          exact heq
      | false =>
        refine iteT ?_
        rw [hdrop, wgo_other hS, ← List.append_assoc] at heq
        refine ⟨_, rfl, _, rfl, _, _, rfl, rfl, _, rfl, ?_⟩
        by_cases hbi : b < i
        · rw [decide_eq_true (by (clear hS hta plen eA hdrop hci hil' hil htn heq hdl hwd hb hc hsz htot ebl ha0 ha clen hok hlen ht hl cc; omega))]
          refine iteT ?_
          have hw0 : wd ≠ [] := fun e => by rw [e] at hb; simp at hb; (clear e hS hta plen eA hdrop hci hil' hil htn heq hdl hwd hc hsz htot ebl ha0 ha clen hok hlen ht hl cc; omega)
          refine ⟨_, rfl, .inl ⟨rfl, _, SqL.of (by rw [upd_ne hta]; exact eA)⟩, _, rfl, _, rfl, _, rfl, _, rfl, _, rfl, _, rfl, by rw [str_len', List.length_map]; (clear hw0 hbi hS hta plen eA hdrop hci hil' hil htn heq hdl hwd hb hc hsz htot ebl ha0 ha hok ht cc; omega), ?_⟩
          rw [slice_nat _ (by (clear hw0 hbi hS hta plen eA hdrop hci hil' hil htn heq hdl hwd hc hsz htot ebl ha0 ha clen hok hlen ht hl cc; omega)) (by rw [List.length_map]; (clear hw0 hbi hS hta plen eA hdrop hci hil htn heq hdl hwd hb hc hsz htot ebl ha0 ha hok hlen ht hl cc; omega))]
          refine ⟨_, rfl, _, rfl, (by show 3 ≤ sizeLine; decide), fun t2 ht2 => ?_⟩
          have hta2 : a ≠ t2 := ne_of_none (show upd H' t (.tup [.int i, .str ⟨#[c]⟩]) a = some (.lst (ps.map V.ref)) by rw [upd_ne hta]; exact eA) ht2
          refine ⟨a, _, _, rfl, rfl, by rw [upd_ne hta2, upd_ne hta]; exact eA, by simp; (clear hta2 ht2 hw0 hbi hS hta eA hdrop hci hil' hil htn heq hwd hb hc hsz htot ebl ha0 ha clen hok ht cc; omega), ?_⟩
          have ew : ((((codes z).map lo).drop b).take (i - b)) = wd := by
            have e1 : wd.length = i - b := by (clear hta2 ht2 hw0 hbi hS hta plen eA hdrop hci hil' hil htn heq hdl hwd hc hsz htot ebl ha0 ha clen hok hlen ht hl cc; omega)
            rw [e1, List.drop_append_of_le_length (by rw [List.length_map]; (clear e1 hta2 ht2 hw0 hbi hS hta plen eA hdrop hci hil htn heq hdl hwd hc hsz htot ebl ha0 ha hok hlen ht hl cc; omega)), List.take_append_of_le_length (by rw [List.length_drop, List.length_map]; (clear e1 hta2 ht2 hw0 hbi hS hta plen eA hdrop hci hil htn heq hdl hwd hb hc hsz htot ebl ha0 ha hok hlen ht hl cc; omega))] at hwd
            exact hwd.symm
          rw [ew]
          refine ⟨_, rfl, _, _, rfl, rfl, ?_⟩
          have et : HO.tup [V.str ⟨wd.toArray⟩, V.int (b : Int), V.int (i : Int)] = wdT (wd, i - wd.length, i) := by
            unfold wdT
            show HO.tup [_, V.int ((b : Nat) : Int), _] = HO.tup [_, V.int ((i - wd.length : Nat) : Int), _]
            rw [show b = i - wd.length by (clear ew hta2 ht2 hw0 hbi hS hta plen eA hdrop hci hil' hil htn heq hdl hwd hc hsz htot ebl ha0 ha clen hok hlen ht hl cc; omega)]
          rw [et]
          have hfl : flush i wd = [(wd, i - wd.length, i)] := by unfold flush; rw [if_neg hw0]
          rw [hfl] at heq
          refine hnB _ _ ⟨ds ++ [(wd, i - wd.length, i)], [], i + 1, _, _, rfl, same_app smT ha0 ht2, WL.more (by rw [upd_ne hta]; exact eA) (Paired.imp2 pA fun p y q => by rw [upd_ne (ne_of_none q htn)]; exact q) ht2, by simp, by simp, by simp; (clear hfl et ew hta2 ht2 hw0 hbi hS hta plen eA hdrop hci hil' hil htn heq hwd hb hc hsz htot ebl ha0 ha clen hok hlen ht hl cc; omega), by (clear hfl et ew hta2 ht2 hw0 hbi hS hta plen eA hdrop hci hil htn heq hdl hwd hb hc hsz htot ebl ha0 ha clen hok hlen ht hl cc; omega), fun _ => rfl, heq⟩
        · rw [decide_eq_false (by (clear hS hta plen eA hdrop hci hil' hil htn heq hdl hwd hb hc hsz htot ebl ha0 ha clen hok hlen ht hl cc; omega))]
          refine iteF ?_
          have hw0 : wd = [] := List.eq_nil_of_length_eq_zero (by (clear hS hta plen eA hdrop hci hil' hil htn heq hdl hwd hc hsz htot ebl ha0 ha clen hok hlen ht hl cc; omega))
          subst hw0
          refine ⟨_, rfl, _, _, rfl, rfl, ?_⟩
          refine hnB _ _ ⟨ds, [], i + 1, _, _, rfl, smT, hW.same (same_upd htn), by simp, by simp, by (clear heq hwd hb hbi hS hta plen eA hdrop hci hil' hil htn hc hsz htot ebl ha0 ha clen hok hlen ht hl cc; omega), by (clear heq hwd hb hbi hS hta plen eA hdrop hci hil htn hdl hc hsz htot ebl ha0 ha clen hok hlen ht hl cc; omega), fun _ => rfl, ?_⟩
          simpa [flush] using heq
    · rintro σ H' ⟨ds, wd, b, v4, v5, rfl, sm, hW, hb, hwd, hdl, hin, hend, heq⟩
      rw [hsz] at hend heq
      have hw0 := hend rfl
      subst hw0
      rw [List.drop_of_length_le (by simp [clen])] at heq
      have e : ds = words (codes z) := by simpa [wgo, flush] using heq
      subst e
      exact ⟨_, rfl, k1 z rfl hd a H' sm ha0 hW⟩
theorem nif {te : TE} {σ2 : L2.St} {H2 : Hp} {M : VK} {N0 : Hp → Prop} (h : te σ2 H2 M) : tNoIf σ2 H2 (fun b H3 => if b = true then te σ2 H3 M else N0 H3) := by
  show if true = true then te σ2 H2 M else N0 H2
  exact iteT h
noncomputable def plainL (ws : List Wd) : List V := ws.map fun x => .str ⟨x.1.toArray⟩
noncomputable def spPlain (K : PySem.W.Frag) (C : Addr) : Sp := fun vs H Q E => ∃ x, vs = [x] ∧ Known K H x ∧ Fit x ∧ (∀ z, x = .str z → Drawn z → ∀ a H', Same H H' → H a = none → H' a = some (.lst (plainL (words (codes z)))) → Q (.ref a) H') ∧ (txtV x = false → ∀ H', Same H H' → E (.ref C) none H')
theorem scPlain : FnScope ["text"] ["text"] (defScope sPlain) := ⟨rfl, rfl, rfl, by decide +kernel, rfl, by decide +kernel, by decide +kernel⟩
theorem nd3 : (["word", "begin", "end"] : List Str).Nodup := by decide +kernel
theorem paired_get {α β : Type} {F : α → β → Prop} : ∀ {l : List α} {m : List β}, Paired F l m → ∀ {i : Nat} {a : α}, l[i]? = some a → ∃ b, m[i]? = some b ∧ F a b
  | _, _, .nil, i, a, h => by simp at h
  | _, _, .cons r t, 0, a, h => by simp at h; subst h; exact ⟨_, rfl, r⟩
  | _, _, .cons r t, i + 1, a, h => by
    obtain ⟨b, h1, h2⟩ := paired_get t (i := i) (a := a) (by simpa using h)
    exact ⟨b, by simpa using h1, h2⟩
theorem ok_plain {f ft C : Addr} {fd fdt : FuncData} (D : Df K mg "plain_words" sPlain f fd) (DT : Df K mg "words_in" sWordsIn ft fdt) (GT : FnOk P w K mg base (CX1 P w) 4 ft fdt ["text"] (spWIn K C)) : FnOk P w K mg base (CX1 P w) 5 f fd ["text"] (spPlain K C) := by
  have bT := binds1 (p := "text") DT.F fun _ _ _ _ _ _ _ => rfl
  refine D.F.ok1 scPlain (fun vs H Q E h => ?_) (fun cdv A outer s H vs Q E hr h => ?_)
  · obtain ⟨x, rfl, _⟩ := h
    rfl
  · obtain ⟨x, rfl, hk, hfit, k1, k2⟩ := h
    have hl : (sizeLine : Nat) = 16777216 := sizeLine_eq
    refine ⟨_, pss_one (ps_ret (pe_comp (own := 3) (caps := []) (N := ["word", "begin", "end"]) (N0 := ["text"]) (sc0 := defScope sPlain) rfl (pi_list (pe_call GT hr rfl DT.m DT.F.kp bT .nil (pass_out (E' := E) (fun _ _ _ h => h)) (pa_cons (pv 0) pa_nil)))
        (fun _ _ _ => pg_tup (n := 3) rfl (pgs_cons (pg_name (i := 0) nd3 rfl (Or.inl rfl)) (pgs_cons (pg_name (i := 1) nd3 rfl (Or.inl rfl)) (pgs_cons (pg_name (i := 2) nd3 rfl (Or.inl rfl)) pgs_nil)))) (fun _ _ _ => pf_none)
        (fun _ _ _ => pv 0) (gk_tup (gks_cons (gk_name (by decide)) (gks_cons (gk_name (by decide)) (gks_cons (gk_name (by decide)) gks_nil)))) rfl rfl
        (by decide +kernel) rfl (by decide +kernel) (by decide +kernel) rfl (by decide +kernel))), ?_⟩
    refine ⟨_, rfl, x, rfl, hk, hfit, ?_, k2⟩
    rintro z rfl hd a H1 s1 ha hW
    obtain ⟨ps, eA, pA⟩ := hW.ex
    have hwl := words_len (codes z)
    have plen := Paired.len pA
    have clen : (codes z).length = z.length := by unfold codes; simp [Str.length]
    have hdl := hd.1
    refine ⟨a, rfl, ⟨_, SqL.of eA⟩, comp_itl (xs := ps.map V.ref) (fun i ys H' => H' = H1 ∧ ys = plainL ((words (codes z)).take i)) (by rw [List.length_map]; (clear eA ha; omega)) (fun i ys H' p => by rw [p.1]; exact SqL.of eA) ⟨rfl, rfl⟩ ?_ ?_⟩
    · rintro i x ys H' N hx ⟨rfl, rfl⟩ hN
      rw [List.getElem?_map] at hx
      cases hp : ps[i]? with
      | none => rw [hp] at hx; cases hx
      | some p =>
        rw [hp] at hx
        have hx' : x = .ref p := (Option.some.inj hx).symm
        subst hx'
        obtain ⟨y, hy, hH⟩ := paired_get pA hp
        refine ⟨p, _, rfl, SqT.of hH, rfl, _, _, rfl, _, _, rfl, _, _, rfl, rfl, nif ?_⟩
        refine ⟨_, rfl, hN _ _ ⟨rfl, ?_⟩⟩
        unfold plainL
        rw [List.take_add_one, hy, List.map_append]
        rfl
    · rintro ys H' ⟨rfl, rfl⟩ _ p hp
      refine k1 z rfl hd p _ (Same.upd s1 hp) (s1.free hp) ?_
      rw [upd_same, List.length_map, List.take_of_length_le (by (clear hp eA hdl clen hwl ha hl; omega))]
end
end K01
set_option maxRecDepth 100000
set_option maxHeartbeats 4000000
namespace K01
open PySem L2 PyProof.Rows PySem.Spec
theorem join_codes : ∀ cs : List Nat, PySem.Str.join (Str.ofString "") (cs.map fun c => (⟨#[c]⟩ : Str)) = ⟨cs.toArray⟩
  | [] => rfl
  | [c] => rfl
  | c :: d :: r => by
    show (⟨[c].toArray⟩ : Str) ++ Str.ofString "" ++ PySem.Str.join (Str.ofString "") ((d :: r).map fun c => (⟨#[c]⟩ : Str)) = _
    rw [join_codes (d :: r), empty_str, str_app, str_app]
    rfl
theorem join_eq (cs : List Nat) : Txt.join (Str.ofString "") (cs.map fun c => (⟨#[c]⟩ : Str)) = ⟨cs.toArray⟩ := by
  show Builtin.Str.glued _ _ = _
  rw [StrLaws.glued_eq_join]
  exact join_codes cs
theorem sum_ones (cs : List Nat) : ((cs.map fun c => (⟨#[c]⟩ : Str)).map (·.length)).sum = cs.length := by
  induction cs with
  | nil => rfl
  | cons c r ih => rw [List.map_cons, List.map_cons, List.sum_cons, ih, List.length_cons]; show 1 + _ = _; (clear ih; omega)
theorem slice_mem {z : Str} {l u : Option Int} {c : Nat} (h : c ∈ (Txt.slice z l u).cps.toList) : c ∈ z.cps.toList := by
  unfold Txt.slice at h
  split at h
  · exact h
  · have h' : c ∈ (Builtin.Str.strSliceIndices l u 1 z.length).filterMap (z.cps[·]?) := by simpa using h
    obtain ⟨i, _, e⟩ := List.mem_filterMap.mp h'
    have := Array.mem_of_getElem? e
    simpa using this
theorem slice_all {p : Nat → Bool} {z : Str} (l u : Option Int) (h : z.cps.toList.all p = true) : (Txt.slice z l u).cps.toList.all p = true :=
  List.all_eq_true.mpr fun c hc => List.all_eq_true.mp h c (slice_mem hc)
theorem sub_mem {z : Str} {i j c : Nat} (h : c ∈ (Builtin.Str.strSub z i j).cps.toList) : c ∈ z.cps.toList := by
  have h' : c ∈ (z.cps.extract i j).toList := h
  rw [Array.toList_extract] at h'
  exact List.mem_of_mem_drop (List.mem_of_mem_take h')
theorem strip_all {p : Nat → Bool} {z : Str} (h : z.cps.toList.all p = true) : (Txt.strip z).cps.toList.all p = true := by
  refine List.all_eq_true.mpr fun c hc => List.all_eq_true.mp h c ?_
  unfold Txt.strip at hc
  rw [stripBy_eq] at hc
  exact sub_mem hc
theorem app_all {p : Nat → Bool} {a b : Str} (ha : a.cps.toList.all p = true) (hb : b.cps.toList.all p = true) : (a ++ b).cps.toList.all p = true := by
  rw [PySem.Str.cps_append, Array.toList_append, List.all_append, ha, hb]
  rfl
theorem up_ok : ∀ c, c < 128 → isS c = true → okC (up1 c) = true := by decide +kernel
theorem upper_all {z : Str} (h : z.cps.toList.all isS = true) : (Txt.upper z).cps.toList.all okC = true ∧ (Txt.upper z).length = z.length := by
  rw [upper_ascii fun c hc => isS_lt (List.all_eq_true.mp h c hc)]
  refine ⟨?_, by simp [Str.length]⟩
  rw [Array.toList_map, List.all_map]
  exact List.all_eq_true.mpr fun c hc => up_ok c (isS_lt (List.all_eq_true.mp h c hc)) (List.all_eq_true.mp h c hc)
theorem isS_all {z : Str} (h : z.cps.toList.all isS = true) : z.cps.toList.all okC = true := List.all_eq_true.mpr fun c hc => isS_ok (List.all_eq_true.mp h c hc)
theorem all_get {p : Nat → Bool} {l : List Nat} (h : l.all p = true) {i : Nat} (hi : i < l.length) : p l[i] = true := List.all_eq_true.mp h _ (List.getElem_mem hi)
theorem mod_ix {r n : Int} (hn : 0 < n) : ∃ j : Nat, (j : Int) = r % n ∧ (j : Int) < n := by
  have h1 := Int.emod_nonneg r (show n ≠ 0 by omega)
  have h2 := Int.emod_lt_of_pos r hn
  exact ⟨(r % n).toNat, by (clear h2 hn; omega), by (clear h1; omega)⟩
section
variable {P : Program} {w : World} {K : PySem.W.Frag} {mg : Str → Option Value} {base : Heap}
noncomputable def spSigns : Sp := fun vs H Q _ => ∃ (n : Int) (m : Nat), vs = [.int n, .int m] ∧ m ≤ 2000 ∧ ∀ x H', Same H H' → x.length ≤ m → (codes x).all okC = true → Q (.str x) H'
theorem scSigns : FnScope ["_law_number_here", "_law_many", "_law_signs_here"] ["_law_number_here", "_law_many"] (defScope lSigns) := ⟨rfl, rfl, rfl, by decide +kernel, rfl, by decide +kernel, by decide +kernel⟩
theorem ndSigns : (["_law_k", "_law_signs_here", "_law_number_here"] : List Str).Nodup := by decide +kernel
theorem signs1 : ((Str.ofString " !\"#$&'()*+,-./0123456789:;<=>?@ABCDEFGHIJKLMNOPQRSTUVWXYZ[\\]^_`" ++ Str.ofString "abcdefghijklmnopqrstuvwxyz{|}~\n").cps.toList.all okC) = true := by decide +kernel
theorem signs1l : (Str.ofString " !\"#$&'()*+,-./0123456789:;<=>?@ABCDEFGHIJKLMNOPQRSTUVWXYZ[\\]^_`" ++ Str.ofString "abcdefghijklmnopqrstuvwxyz{|}~\n").length = 95 := by decide +kernel
theorem signs2 : ((Str.ofString "aB 9-\n").cps.toList.all okC) = true := by decide +kernel
theorem ok_signs {f fm : Addr} {fd fdm : FuncData} (D : Df K mg "_law_signs" lSigns f fd) (DM : Df K mg "_law_mixed" lMixed fm fdm) (T : Txt mg) : FnOk P w K mg base CX0 2 f fd ["_law_number_here", "_law_many"] spSigns := by
  have GM : FnOk P w K mg base CX0 1 fm fdm ["_law_number_here", "_law_k"] spMixed := ok_mixed DM
  have bM := DM.F.binds (ps := ["_law_number_here", "_law_k"]) fun _ _ _ _ _ _ us hl => us2 (fun _ _ => rfl) us hl
  refine D.F.ok scSigns (fun vs H Q E h => ?_) (fun cdv A outer s H vs Q E hr h => ?_)
  · obtain ⟨n, m, rfl, _⟩ := h
    rfl
  · obtain ⟨n, m, rfl, hm, kk⟩ := h
    have hl : (sizeLine : Nat) = 16777216 := sizeLine_eq
    refine ⟨_, pss_cons (ps_set (i := 2) scSigns.nd rfl (Or.inr rfl) pe_str) (pss_cons (ps_set (i := 2) scSigns.nd rfl (Or.inr rfl) (pe_op op_add_str (pv 2) pe_str))
      (pss_cons (ps_if (pt_cmpR op_eq (pe_op op_mod (pv 0) pe_int) pe_int (nomark _)) (pss_one (ps_set (i := 2) scSigns.nd rfl (Or.inr rfl) pe_str)) pss_nil)
      (pss_one (ps_ret (pe_bm PySem.F.plainAttrs_str PySem.F.slot_str_join PySem.F.type_str_join mt_join pe_str (pa_cons (pe_comp (own := 1) (caps := [2, 0]) (N := ["_law_k", "_law_signs_here", "_law_number_here"]) (N0 := ["_law_number_here", "_law_many", "_law_signs_here"]) (sc0 := defScope lSigns) rfl
        (pi_range1 rfl T.range (pa_cons (pv 1) pa_nil)) (fun _ _ _ => pg_name (i := 0) ndSigns rfl (Or.inl rfl)) (fun _ _ _ => pf_none)
        (fun _ _ _ => pe_ix ix_str (pv 1) (pe_op op_mod (pe_call GM hr rfl DM.m DM.F.kp bM .nil pass0 (pa_cons (pv 2) (pa_cons (pv 0) pa_nil))) (pe_callB call_len_str rfl T.len b_len (pa_cons (pv 1) pa_nil))) (fun _ _ => rfl)) (gk_name (by decide)) rfl rfl
        (by decide +kernel) rfl (by decide +kernel) (by decide +kernel) rfl (by decide +kernel)) pa_nil)))))), ?_⟩
    refine ⟨_, rfl, _, _, rfl, rfl, by decide, _, rfl, _, _, rfl, rfl, (by show (0 : Int) < 3; decide), rfl, _, rfl, ?_⟩
    refine ite2 (fun _ => ?_) (fun _ => ?_)
    · obtain ⟨S, hSe, hS, h0, h200⟩ : ∃ S : Str, S = Str.ofString "aB 9-\n" ∧ S.cps.toList.all okC = true ∧ 0 < S.length ∧ S.length ≤ 200 := ⟨_, rfl, signs2, by decide +kernel, by decide +kernel⟩
      rw [← hSe]
      clear hSe
      refine ⟨rfl, _, rfl, m, rfl, by (clear h200 h0 hS hl hm; omega), by (clear h200 h0 hS hl; omega), comp_itr (fun i ys H' => H' = H ∧ ∃ cs : List Nat, cs.length = i ∧ cs.all okC = true ∧ ys = cs.map fun c => V.str ⟨#[c]⟩) (by (clear h200 h0 hS; omega)) ⟨rfl, [], rfl, rfl, rfl⟩ ?_ ?_⟩
      · rintro i ys H' N hi ⟨rfl, cs, hc, hok, rfl⟩ hN
        have him : i < m := by (clear hok hc h200 h0 hS hl hm; omega)
        refine g1 ?_
        refine ⟨_, rfl, _, rfl, _, rfl, _, _, rfl, by (clear him hok hc hi h200 h0 hS hl hm; omega), by (clear him hok hc h200 h0 hS hl; omega), fun r r0 r1 => ?_⟩
        have hpos : (0 : Int) < ((S.length : Nat) : Int) := by (clear r1 r0 him hok hc hi h200 hS hl hm; omega)
        refine ⟨_, rfl, S, rfl, by (clear hpos r1 r0 him hok hc hi h0 hS hm; omega), _, _, rfl, rfl, hpos, ?_⟩
        obtain ⟨j, hj, hjl⟩ := mod_ix (r := r) hpos
        have hj' : j < (codes S).length := by unfold codes; rw [str_len]; (clear hj hpos r1 r0 him hok hc hi h200 h0 hS hl hm; omega)
        refine ⟨S, _, (codes S)[j], rfl, rfl, by (clear hj' hjl hj hpos r1 r0 him hok hc hi h0 hS hm; omega), ?_, hN _ _ ⟨rfl, cs ++ [(codes S)[j]], by simp [hc], by rw [List.all_append, hok]; simp [all_get (p := okC) (l := codes S) hS hj'], by rw [List.map_append]; rfl⟩⟩
        rw [← hj]
        exact atI_nat (List.getElem?_eq_getElem hj')
      · rintro ys H' ⟨rfl, cs, hc, hok, rfl⟩ _ p hp
        have hcm : cs.length = m := by (clear hp hok h200 h0 hS hl hm; omega)
        refine ⟨_, p, cs.map fun c => (⟨#[c]⟩ : Str), rfl, rfl, SqL.of (by rw [upd_same, List.map_map]; rfl), ?_, ?_⟩
        · rw [sum_ones, List.length_map]
          show cs.length + cs.length * 0 ≤ _
          (clear hcm hp hok h200 h0 hS hl; omega)
        · rw [join_eq]
          refine kk _ _ (same_upd hp) (by rw [str_len']; (clear hcm hp hok h200 h0 hS hl hm; omega)) ?_
          unfold codes
          simpa using hok
    · obtain ⟨S, hSe, hS, h0, h200⟩ : ∃ S : Str, S = Str.ofString " !\"#$&'()*+,-./0123456789:;<=>?@ABCDEFGHIJKLMNOPQRSTUVWXYZ[\\]^_`" ++ Str.ofString "abcdefghijklmnopqrstuvwxyz{|}~\n" ∧ S.cps.toList.all okC = true ∧ 0 < S.length ∧ S.length ≤ 200 := ⟨_, rfl, signs1, by rw [signs1l]; decide, by rw [signs1l]; decide⟩
      rw [← hSe]
      clear hSe
      refine ⟨rfl, _, rfl, m, rfl, by (clear h200 h0 hS hl hm; omega), by (clear h200 h0 hS hl; omega), comp_itr (fun i ys H' => H' = H ∧ ∃ cs : List Nat, cs.length = i ∧ cs.all okC = true ∧ ys = cs.map fun c => V.str ⟨#[c]⟩) (by (clear h200 h0 hS; omega)) ⟨rfl, [], rfl, rfl, rfl⟩ ?_ ?_⟩
      · rintro i ys H' N hi ⟨rfl, cs, hc, hok, rfl⟩ hN
        have him : i < m := by (clear hok hc h200 h0 hS hl hm; omega)
        refine g1 ?_
        refine ⟨_, rfl, _, rfl, _, rfl, _, _, rfl, by (clear him hok hc hi h200 h0 hS hl hm; omega), by (clear him hok hc h200 h0 hS hl; omega), fun r r0 r1 => ?_⟩
        have hpos : (0 : Int) < ((S.length : Nat) : Int) := by (clear r1 r0 him hok hc hi h200 hS hl hm; omega)
        refine ⟨_, rfl, S, rfl, by (clear hpos r1 r0 him hok hc hi h0 hS hm; omega), _, _, rfl, rfl, hpos, ?_⟩
        obtain ⟨j, hj, hjl⟩ := mod_ix (r := r) hpos
        have hj' : j < (codes S).length := by unfold codes; rw [str_len]; (clear hj hpos r1 r0 him hok hc hi h200 h0 hS hl hm; omega)
        refine ⟨S, _, (codes S)[j], rfl, rfl, by (clear hj' hjl hj hpos r1 r0 him hok hc hi h0 hS hm; omega), ?_, hN _ _ ⟨rfl, cs ++ [(codes S)[j]], by simp [hc], by rw [List.all_append, hok]; simp [all_get (p := okC) (l := codes S) hS hj'], by rw [List.map_append]; rfl⟩⟩
        rw [← hj]
        exact atI_nat (List.getElem?_eq_getElem hj')
      · rintro ys H' ⟨rfl, cs, hc, hok, rfl⟩ _ p hp
        have hcm : cs.length = m := by (clear hp hok h200 h0 hS hl hm; omega)
        refine ⟨_, p, cs.map fun c => (⟨#[c]⟩ : Str), rfl, rfl, SqL.of (by rw [upd_same, List.map_map]; rfl), ?_, ?_⟩
        · rw [sum_ones, List.length_map]
          show cs.length + cs.length * 0 ≤ _
          (clear hcm hp hok h200 h0 hS hl; omega)
        · rw [join_eq]
          refine kk _ _ (same_upd hp) (by rw [str_len']; (clear hcm hp hok h200 h0 hS hl hm; omega)) ?_
          unfold codes
          simpa using hok
end
end K01
set_option maxRecDepth 100000
set_option maxHeartbeats 4000000
namespace L2
open PySem PySem.Spec PyProof.Rows
noncomputable def tIfJ (c : TT) (t u : TS) : TS := fun D σ H => ∃ J : L2.St → Hp → Prop, (c σ H fun b H1 => if b = true then t { D with nx := J } σ H1 else u { D with nx := J } σ H1) ∧ ∀ σ' H', J σ' H' → D.nx σ' H'
theorem ps_ifJ {X : Cx} {c : Expr} {a b : List Stmt} {tc : TT} {t u : TS} {pos : Pos} (hc : PT X c tc) (ha : PSs X a t) (hb : PSs X b u) : PS X (.If c a b pos) (tIfJ tc t u) := by
  intro pins s σ H D I h
  obtain ⟨J, h1, h2⟩ := h
  refine thn (ps_if hc ha hb pins s σ H { D with nx := J } I h1) fun f s1 q => ?_
  cases f with
  | next => obtain ⟨σ', H', I', q⟩ := q; exact ⟨σ', H', I', h2 _ _ q⟩
  | brk => exact q
  | cont => exact q
  | ret u => exact q
end L2
namespace K01
open PySem L2 PyProof.Rows PySem.Spec
section
variable {P : Program} {w : World} {K : PySem.W.Frag} {mg : Str → Option Value} {base : Heap}
noncomputable def Wm (z : Str) : Prop := z.length ≤ 13 ∧ z.cps.toList.all isS = true
noncomputable def spMenu : Sp := fun vs H Q _ => ∃ n : Int, vs = [.int n] ∧ ∀ a H' (ws : List Str), Same H H' → H' a = some (.lst (ws.map V.str)) → ws.length = 5 → (∀ z ∈ ws, Wm z) → Q (.ref a) H'
theorem scMenu : FnScope ["_law_number_here", "_law_signs_here", "_law_rest", "_law_k", "_law_size", "_law_at", "_law_found", "_law_sign"] ["_law_number_here"] (defScope lMenu) := ⟨rfl, rfl, rfl, by decide +kernel, rfl, by decide +kernel, by decide +kernel⟩
theorem ndMenu : (["_law_j", "_law_signs_here", "_law_number_here"] : List Str).Nodup := by decide +kernel
theorem ndMenu2 : (["_law_k", "_law_rest"] : List Str).Nodup := by decide +kernel
theorem ok_menu {f fm : Addr} {fd fdm : FuncData} (D : Df K mg "_law_menu" lMenu f fd) (DM : Df K mg "_law_mixed" lMixed fm fdm) (T : Txt mg) : FnOk P w K mg base CX0 2 f fd ["_law_number_here"] spMenu := by
  have GM : FnOk P w K mg base CX0 1 fm fdm ["_law_number_here", "_law_k"] spMixed := ok_mixed DM
  have bM := DM.F.binds (ps := ["_law_number_here", "_law_k"]) fun _ _ _ _ _ _ us hl => us2 (fun _ _ => rfl) us hl
  refine D.F.ok scMenu (fun vs H Q E h => ?_) (fun cdv A outer s H vs Q E hr h => ?_)
  · obtain ⟨n, rfl, _⟩ := h
    rfl
  · obtain ⟨n, rfl, kk⟩ := h
    have hl : (sizeLine : Nat) = 16777216 := sizeLine_eq
    refine ⟨_, pss_cons (ps_set (i := 1) scMenu.nd rfl (Or.inr rfl) pe_str)
      (pss_cons (ps_ifJ (pt_cmpR op_eq (pe_op op_mod (pv 0) pe_int) pe_int (nomark _)) (pss_one (ps_set (i := 1) scMenu.nd rfl (Or.inr rfl) pe_str)) pss_nil)
      (pss_cons (ps_set (i := 2) scMenu.nd rfl (Or.inr rfl) (pe_bm PySem.F.plainAttrs_str PySem.F.slot_str_join PySem.F.type_str_join mt_join pe_str (pa_cons (pe_comp (own := 1) (caps := [1, 0]) (N := ["_law_j", "_law_signs_here", "_law_number_here"])
          (N0 := ["_law_number_here", "_law_signs_here", "_law_rest", "_law_k", "_law_size", "_law_at", "_law_found", "_law_sign"]) (sc0 := defScope lMenu) rfl
        (pi_range1 rfl T.range (pa_cons pe_int pa_nil)) (fun _ _ _ => pg_name (i := 0) ndMenu rfl (Or.inl rfl)) (fun _ _ _ => pf_none)
        (fun _ _ _ => pe_ix ix_str (pv 1) (pe_op op_mod (pe_call GM hr rfl DM.m DM.F.kp bM .nil pass0 (pa_cons (pv 2) (pa_cons (pe_op op_add pe_int (pv 0)) pa_nil))) pe_int) (fun _ _ => rfl)) (gk_name (by decide)) rfl rfl
        (by decide +kernel) rfl (by decide +kernel) (by decide +kernel) rfl (by decide +kernel)) pa_nil)))
      (pss_cons (ps_if (pt_cmpR op_eq (pe_op op_mod (pe_op op_fdiv (pv 0) pe_int) pe_int) pe_int (nomark _))
        (pss_one (ps_ret (pe_comp (own := 1) (caps := [2]) (N := ["_law_k", "_law_rest"])
          (N0 := ["_law_number_here", "_law_signs_here", "_law_rest", "_law_k", "_law_size", "_law_at", "_law_found", "_law_sign"]) (sc0 := defScope lMenu) rfl
          (pi_range1 rfl T.range (pa_cons pe_int pa_nil)) (fun _ _ _ => pg_name (i := 0) ndMenu2 rfl (Or.inl rfl)) (fun _ _ _ => pf_none)
          (fun _ _ _ => pe_slice sl_str (pv 1) po_none (po_some (pe_op op_add (pv 0) pe_int))) (gk_name (by decide)) rfl rfl
          (by decide +kernel) rfl (by decide +kernel) (by decide +kernel) rfl (by decide +kernel)))) pss_nil)
      (pss_cons (ps_set (i := 4) scMenu.nd rfl (Or.inl rfl) (pe_op op_mod (pe_op op_fdiv (pv 0) pe_int) pe_int))
      (pss_cons (ps_set (i := 5) scMenu.nd rfl (Or.inl rfl) (pe_op op_mod (pe_op op_fdiv (pv 0) pe_int) (pe_op op_add (pv 4) pe_int)))
      (pss_cons (ps_set (i := 6) scMenu.nd rfl (Or.inl rfl) (pe_lst pa_nil))
      (pss_cons (ps_for PassesOwn.never rfl (pi_range1 rfl T.range (pa_cons pe_int pa_nil)) (pg_name (i := 3) scMenu.nd rfl (Or.inl rfl))
        (pss_cons (ps_set (i := 7) scMenu.nd rfl (Or.inl rfl) (pe_ix ix_str (pv 1) (pe_op op_mod (pe_op op_add (pe_op op_fdiv (pv 0) pe_int) (pe_op op_mul pe_int (pv 3))) pe_int) (fun _ _ => rfl)))
        (pss_one (ps_expr (pe_bm PySem.F.plainAttrs_list PySem.F.slot_list_append PySem.F.type_list_append mt_append (pv 6)
          (pa_cons (pe_op op_add_str (pe_op op_add_str (pe_slice sl_str (pv 2) po_none (po_some (pv 5))) (pv 7)) (pe_slice sl_str (pv 2) (po_some (pv 5)) (po_some (pv 4)))) pa_nil))))))
      (pss_one (ps_ret (pv 6)))))))))), ?_⟩
    refine ⟨fun σ' H' => H' = H ∧ ∃ S : Str, S.cps.toList.all isS = true ∧ S.length = 26 ∧ σ' = [some (.int n), some (.str S), none, none, none, none, none, none], ?_, ?_⟩
    · refine ⟨_, rfl, _, _, rfl, rfl, (by show (0 : Int) < 3; decide), rfl, _, rfl, ?_⟩
      refine ite2 (fun _ => ?_) (fun _ => ?_)
      · exact ⟨rfl, Str.ofString "0a1b2c3d4e5f6g7h8i9jklmnop", by decide +kernel, by decide +kernel, rfl⟩
      · exact ⟨rfl, Str.ofString "abcdefghijklmnopqrstuvwxyz", by decide +kernel, by decide +kernel, rfl⟩
    · rintro σ' H' ⟨rfl, S, hS, h26, rfl⟩
      have hSl : (codes S).length = 26 := by unfold codes; rw [str_len]; exact h26
      refine ⟨rfl, 6, rfl, by decide, by decide, comp_itr (fun i ys H1 => H1 = H' ∧ ∃ cs : List Nat, cs.length = i ∧ cs.all isS = true ∧ ys = cs.map fun c => V.str ⟨#[c]⟩) (by rw [hl]; decide) ⟨rfl, [], rfl, rfl, rfl⟩ ?_ ?_⟩
      · rintro i ys H1 N hi ⟨rfl, cs, hc, hok, rfl⟩ hN
        have hi6 : i < 6 := hi
        refine g1 ?_
        refine ⟨_, rfl, _, rfl, _, rfl, _, _, rfl, rfl, _, _, rfl, by (clear hi6 hok hc hi hSl h26 hS hl; omega), by (clear hi6 hok hc hSl h26 hS hl; omega), fun r r0 r1 => ?_⟩
        refine ⟨_, _, rfl, rfl, (by show (0 : Int) < 26; decide), ?_⟩
        obtain ⟨j, hj, hjl⟩ := mod_ix (r := r) (n := 26) (by decide)
        have hj' : j < (codes S).length := by (clear hjl r1 r0 hi6 hok hc hi h26 hS hl; omega)
        refine ⟨S, _, (codes S)[j], rfl, rfl, by (clear hj' hjl hj r1 r0 hi6 hok hc hi hSl hS; omega), ?_, hN _ _ ⟨rfl, cs ++ [(codes S)[j]], by simp [hc], by rw [List.all_append, hok]; simp [all_get (p := isS) (l := codes S) hS hj'], by rw [List.map_append]; rfl⟩⟩
        rw [← hj]
        exact atI_nat (List.getElem?_eq_getElem hj')
      · rintro ys H1 ⟨rfl, cs, hc, hok, rfl⟩ _ p hp
        have hc6 : cs.length = 6 := hc
        refine ⟨_, p, cs.map fun c => (⟨#[c]⟩ : Str), rfl, rfl, SqL.of (by rw [upd_same, List.map_map]; rfl), ?_, ?_⟩
        · rw [sum_ones, List.length_map]
          show cs.length + cs.length * 0 ≤ _
          (clear hc6 hp hok hSl h26 hS hl; omega)
        rw [join_eq]
        have sm : Same H1 (upd H1 p (.lst (cs.map fun c => V.str ⟨#[c]⟩))) := same_upd hp
        generalize hG : upd H1 p (.lst (cs.map fun c => V.str ⟨#[c]⟩)) = H2 at sm
        have hR : (⟨cs.toArray⟩ : Str).cps.toList.all isS = true := by simpa using hok
        have hRl : (⟨cs.toArray⟩ : Str).length = 6 := by rw [str_len']; exact hc6
        generalize (⟨cs.toArray⟩ : Str) = R at hR hRl
        refine ⟨_, rfl, _, _, rfl, rfl, ⟨by decide, by decide⟩, _, _, rfl, rfl, (by show (0 : Int) < 3; decide), rfl, _, rfl, ?_⟩
        refine ite2 (fun _ => ?_) (fun _ => ?_)
        · refine ⟨5, rfl, by decide, by decide, comp_itr (fun i ys H3 => H3 = H2 ∧ ∃ ws : List Str, ws.length = i ∧ (∀ z ∈ ws, Wm z) ∧ ys = ws.map V.str) (by rw [hl]; decide) ⟨rfl, [], rfl, fun z hz => by simp at hz, rfl⟩ ?_ ?_⟩
          · rintro i ys H3 N hi ⟨rfl, ws, hw, hok', rfl⟩ hN
            refine g1 ?_
            refine ⟨_, rfl, _, rfl, _, _, rfl, rfl, _, rfl, R, rfl, by (clear hw hG hi hR hc6 hp hok hc hSl h26 hS; omega), hN _ _ ⟨rfl, ws ++ [Txt.slice R none (some ((0 : Int) + i + 1))], by simp [hw], fun z hz => ?_, by rw [List.map_append]; rfl⟩⟩
            rcases List.mem_append.mp hz with q | q
            · exact hok' z q
            · have e : z = Txt.slice R none (some ((0 : Int) + i + 1)) := by simpa using q
              rw [e]
              have := Txt.slice_le R none (some ((0 : Int) + i + 1))
              exact ⟨by (clear e hw hG hi hR hc6 hp hok hc hSl h26 hS hl; omega), slice_all _ _ hR⟩
          · rintro ys H3 ⟨rfl, ws, hw, hok', rfl⟩ _ q hq
            exact kk q _ ws (sm.trans (same_upd hq)) upd_same hw hok'
        · refine ⟨_, rfl, _, _, rfl, rfl, ⟨by decide, by decide⟩, _, _, rfl, rfl, (by show (0 : Int) < 5; decide), ?_⟩
          have s0 := Int.emod_nonneg (n / 9) (show (5 : Int) ≠ 0 by decide)
          refine ⟨_, rfl, _, _, rfl, rfl, ⟨by decide, by decide⟩, _, rfl, _, _, rfl, rfl, _, _, rfl, rfl, (by show (0 : Int) < n / 9 % 5 + 1; (clear s0 hRl hR hG hc6 hp hok hc hSl h26 hS hl; omega)), ?_⟩
          refine ⟨Nat.zero_le _, fun a ha => ?_⟩
          refine ⟨5, rfl, by decide, by decide, for_range (fun i σ H3 => ∃ (ws : List Str) (v3 v7 : Option V), σ = [some (.int n), some (.str S), some (.str R), v3, some (.int (n / 9 % 5)), some (.int (n / 45 % (n / 9 % 5 + 1))), some (.ref a), v7] ∧ Same H1 H3 ∧ H3 a = some (.lst (ws.map V.str)) ∧ ws.length = i ∧ ∀ z ∈ ws, Wm z) ?_ ?_ ?_⟩
          · exact ⟨[], none, none, rfl, sm.trans (same_upd ha), upd_same, rfl, fun z hz => by simp at hz⟩
          · rintro i σ H3 hi ⟨ws, v3, v7, rfl, sm3, hA, hw, hok'⟩
            have hi5 : i < 5 := hi
            refine ⟨_, rfl, _, rfl, _, _, rfl, rfl, ⟨by decide, by decide⟩, _, rfl, _, _, rfl, rfl, .inl ⟨by decide, by decide⟩, _, _, rfl, rfl, _, _, rfl, rfl, (by show (0 : Int) < 26; decide), ?_⟩
            obtain ⟨j, hj, hjl⟩ := mod_ix (r := n / 225 + 5 * (0 + (i : Int))) (n := 26) (by decide)
            have hj' : j < (codes S).length := by (clear hjl hi5 hw hA hi ha s0 hRl hR hG hc6 hp hok hc h26 hS hl; omega)
            refine ⟨S, _, (codes S)[j], rfl, rfl, by (clear hj' hjl hj hi5 hw hA hi ha s0 hRl hR hG hc6 hp hok hc hSl hS; omega), by rw [← hj]; exact atI_nat (List.getElem?_eq_getElem hj'), ?_⟩
            have l1 := Txt.slice_le R none (some (n / 45 % (n / 9 % 5 + 1)))
            have l2 := Txt.slice_le R (some (n / 45 % (n / 9 % 5 + 1))) (some (n / 9 % 5))
            have hone : (⟨#[(codes S)[j]]⟩ : Str).length = 1 := rfl
            refine ⟨_, rfl, .inl ⟨rfl, _, SqL.of hA⟩, _, rfl, _, rfl, _, rfl, R, rfl, by (clear hone l2 l1 hj' hjl hj hi5 hw hA hi ha s0 hR hG hc6 hp hok hc hSl h26 hS; omega), _, rfl, _, _, rfl, rfl, by (clear l2 hjl hj hi5 hw hA hi ha s0 hR hG hc6 hp hok hc hSl h26 hS; omega), _, rfl, _, rfl, _, rfl, _, rfl, _, rfl, R, rfl, by (clear hone l2 l1 hj' hjl hj hi5 hw hA hi ha s0 hR hG hc6 hp hok hc hSl h26 hS; omega), _, _, rfl, rfl, by rw [PySem.Str.length_append]; (clear hjl hj hi5 hw hA hi ha s0 hR hG hc6 hp hok hc hSl h26 hS; omega), ?_⟩
            have hne : a ≠ a → False := fun z => z rfl
            refine ⟨a, _, _, rfl, rfl, hA, by simp; (clear hone l2 l1 hj' hjl hj hi5 hA ha s0 hRl hR hG hc6 hp hok hc hSl h26 hS; omega), ?_⟩
            refine ⟨ws ++ [Txt.slice R none (some (n / 45 % (n / 9 % 5 + 1))) ++ ⟨#[(codes S)[j]]⟩ ++ Txt.slice R (some (n / 45 % (n / 9 % 5 + 1))) (some (n / 9 % 5))], _, _, rfl, fun b u e => ?_, by rw [upd_same, List.map_append]; rfl, by simp [hw], fun z hz => ?_⟩
            · have hb : b ≠ a := fun z => by subst z; rw [sm.free ha] at e; cases e
              rw [upd_ne hb]; exact sm3 b u e
            · rcases List.mem_append.mp hz with q | q
              · exact hok' z q
              · have e : z = Txt.slice R none (some (n / 45 % (n / 9 % 5 + 1))) ++ ⟨#[(codes S)[j]]⟩ ++ Txt.slice R (some (n / 45 % (n / 9 % 5 + 1))) (some (n / 9 % 5)) := by simpa using q
                rw [e]
                refine ⟨by rw [PySem.Str.length_append, PySem.Str.length_append]; (clear e hjl hj hi5 hw hA hi ha s0 hR hG hc6 hp hok hc hSl h26 hS hl; omega), app_all (app_all (slice_all _ _ hR) ?_) (slice_all _ _ hR)⟩
                simp [all_get (p := isS) (l := codes S) hS hj']
          · rintro σ H3 ⟨ws, v3, v7, rfl, sm3, hA, hw, hok'⟩
            exact ⟨_, rfl, kk a H3 ws sm3 hA hw hok'⟩
end
end K01
set_option maxRecDepth 100000
set_option maxHeartbeats 4000000
namespace K01
open PySem L2 PyProof.Rows PySem.Spec
theorem pickV {xs : List V} {n L : Int} (h0 : 0 < xs.length) (hL : L = (xs.length : Nat)) : ∃ v ∈ xs, atI xs (n % L) = some v := by
  obtain ⟨j, hj, hjl⟩ := mod_ix (r := n) (n := L) (by omega)
  have hj' : j < xs.length := by (clear hj h0; omega)
  refine ⟨xs[j], List.getElem_mem hj', ?_⟩
  rw [← hj]
  exact atI_nat (List.getElem?_eq_getElem hj')
theorem pickS {ss : List Str} {n L : Int} (h0 : 0 < ss.length) (hL : L = (ss.length : Nat)) : ∃ z ∈ ss, atI (ss.map V.str) (n % L) = some (.str z) := by
  obtain ⟨v, hv, e⟩ := pickV (xs := ss.map V.str) (n := n) (L := L) (by rw [List.length_map]; exact h0) (by rw [List.length_map]; exact hL)
  obtain ⟨z, hz, rfl⟩ := List.mem_map.mp hv
  exact ⟨z, hz, e⟩
section
variable {P : Program} {w : World} {K : PySem.W.Frag} {mg : Str → Option Value} {base : Heap}
noncomputable def betL : List Str := [" ", "  ", ", ", "\n", "-", ". ", " [", "] ", "_", " \\ ", "/", "; "]
noncomputable def begL : List Str := ["", "", " ", "\n\n", "- "]
theorem bet_ok : ∀ z ∈ betL, z.length ≤ 3 ∧ z.cps.toList.all okC = true := by decide +kernel
theorem beg_ok : ∀ z ∈ begL, z.length ≤ 2 ∧ z.cps.toList.all okC = true := by decide +kernel
noncomputable def spTextL : Sp := fun vs H Q _ => ∃ (n : Int) (a : Addr) (ws : List Str) (m : Nat), vs = [.int n, .ref a, .int m] ∧ m ≤ 12 ∧ H a = some (.lst (ws.map V.str)) ∧ ws.length = 5 ∧ (∀ z ∈ ws, Wm z) ∧ ∀ x H', Same H H' → x.length ≤ 1000 → (codes x).all okC = true → Q (.str x) H'
theorem scTextL : FnScope ["_law_number_here", "_law_menu_here", "_law_many", "_law_between", "_law_text_here", "_law_k", "_law_more", "_law_word"] ["_law_number_here", "_law_menu_here", "_law_many"] (defScope lText) := ⟨rfl, rfl, rfl, by decide +kernel, rfl, by decide +kernel, by decide +kernel⟩
theorem strip_len (z : Str) : (Txt.strip z).length ≤ z.length := by
  unfold Txt.strip
  rw [stripBy_eq]
  show (z.cps.extract _ _).size ≤ z.cps.size
  rw [Array.size_extract]
  omega
seal PSs PS PE PT PA PG PI PGs PIfs in
theorem ok_textL {f fm : Addr} {fd fdm : FuncData} (D : Df K mg "_law_text" lText f fd) (DM : Df K mg "_law_mixed" lMixed fm fdm) (T : Txt mg) : FnOk P w K mg base CX0 2 f fd ["_law_number_here", "_law_menu_here", "_law_many"] spTextL := by
  have GM : FnOk P w K mg base CX0 1 fm fdm ["_law_number_here", "_law_k"] spMixed := ok_mixed DM
  have bM := DM.F.binds (ps := ["_law_number_here", "_law_k"]) fun _ _ _ _ _ _ us hl => us2 (fun _ _ => rfl) us hl
  refine D.F.ok scTextL (fun vs H Q E h => ?_) (fun cdv A outer s H vs Q E hr h => ?_)
  · obtain ⟨n, a, ws, m, rfl, _⟩ := h
    rfl
  · obtain ⟨n, a, ws, m, rfl, hm, hA, h5, hws, kk⟩ := h
    have hl : (sizeLine : Nat) = 16777216 := sizeLine_eq
    refine ⟨_, pss_cons (ps_set (i := 3) scTextL.nd rfl (Or.inl rfl) (pe_lst (pa_cons pe_str (pa_cons pe_str (pa_cons pe_str (pa_cons pe_str (pa_cons pe_str (pa_cons pe_str (pa_cons pe_str (pa_cons pe_str (pa_cons pe_str (pa_cons pe_str (pa_cons pe_str (pa_cons pe_str pa_nil))))))))))))))
      (pss_cons (ps_set (i := 4) scTextL.nd rfl (Or.inl rfl) (pe_ix ix_list (pe_lst (pa_cons pe_str (pa_cons pe_str (pa_cons pe_str (pa_cons pe_str (pa_cons pe_str pa_nil)))))) (pe_op op_mod (pv 0) pe_int) (fun _ _ => rfl)))
      (pss_cons (ps_for PassesOwn.never rfl (pi_range1 rfl T.range (pa_cons (pv 2) pa_nil)) (pg_name (i := 5) scTextL.nd rfl (Or.inl rfl))
        (pss_cons (ps_set (i := 6) scTextL.nd rfl (Or.inl rfl) (pe_call GM hr rfl DM.m DM.F.kp bM .nil pass0 (pa_cons (pv 0) (pa_cons (pv 5) pa_nil))))
        (pss_cons (ps_set (i := 7) scTextL.nd rfl (Or.inl rfl) (pe_ix ix_list (pv 1) (pe_op op_mod (pv 6) (pe_callB call_len_seq rfl T.len b_len (pa_cons (pv 1) pa_nil))) (fun _ _ => rfl)))
        (pss_cons (ps_set (i := 7) scTextL.nd rfl (Or.inl rfl) (pe_ix ix_list (pe_lst (pa_cons (pv 7) (pa_cons (pv 7) (pa_cons (pe_bm0 PySem.F.plainAttrs_str PySem.F.slot_str_upper PySem.F.type_str_upper mt_upper (pv 7))
            (pa_cons (pe_op op_add_str (pe_bm0 PySem.F.plainAttrs_str PySem.F.slot_str_upper PySem.F.type_str_upper mt_upper (pe_slice sl_str (pv 7) po_none (po_some pe_int))) (pe_slice sl_str (pv 7) (po_some pe_int) po_none)) pa_nil)))))
            (pe_op op_mod (pe_op op_fdiv (pv 6) pe_int) pe_int) (fun _ _ => rfl)))
        (pss_one (ps_set (i := 4) scTextL.nd rfl (Or.inl rfl) (pe_op op_add_str (pe_op op_add_str (pv 4) (pv 7)) (pe_ix ix_list (pv 3) (pe_op op_mod (pe_op op_fdiv (pv 6) pe_int) pe_int) (fun _ _ => rfl)))))))))
      (pss_cons (ps_if (pt_cmpR op_eq (pe_op op_mod (pe_op op_fdiv (pv 0) pe_int) pe_int) pe_int (nomark _)) (pss_one (ps_ret (pe_bm0 PySem.F.plainAttrs_str PySem.F.slot_str_strip PySem.F.type_str_strip mt_strip (pv 4)))) pss_nil)
      (pss_one (ps_ret (pv 4)))))), ?_⟩
    refine ⟨(by show 12 ≤ sizeLine; (clear h5 hA hm; omega)), fun b hb => ⟨(by show 5 ≤ sizeLine; (clear hb h5 hA hm; omega)), fun p hp => ?_⟩⟩
    have smb : Same H (upd H b (.lst (betL.map V.str))) := same_upd hb
    change (upd H b (.lst (betL.map V.str))) p = none at hp
    obtain ⟨x0, hx0, e0⟩ := pickS (ss := begL) (n := n) (L := 5) (by decide) rfl
    obtain ⟨lx0, ox0⟩ := beg_ok x0 hx0
    refine ⟨_, rfl, _, _, rfl, rfl, (by show (0 : Int) < 5; decide), p, begL.map V.str, _, _, rfl, rfl, SqL.of upd_same, e0, ?_⟩
    have smp : Same H (upd (upd H b (.lst (betL.map V.str))) p (.lst (begL.map V.str))) := Same.upd smb hp
    have hbp : (upd (upd H b (.lst (betL.map V.str))) p (.lst (begL.map V.str))) b = some (.lst (betL.map V.str)) := by rw [upd_ne (ne_of_none upd_same hp), upd_same]
    refine ⟨_, rfl, m, rfl, by (clear hbp ox0 lx0 e0 hp hb hl h5 hA hm; omega), by (clear hbp ox0 lx0 e0 hp hb hl h5 hA; omega), ?_⟩
    refine for_range (fun i σ H' => ∃ (x : Str) (v5 v6 v7 : Option V), σ = [some (.int n), some (.ref a), some (.int m), some (.ref b), some (.str x), v5, v6, v7] ∧ Same H H' ∧ H' b = some (.lst (betL.map V.str)) ∧ x.length ≤ 2 + 29 * i ∧ x.cps.toList.all okC = true) ?_ ?_ ?_
    · exact ⟨x0, none, none, none, rfl, smp, hbp, by (clear hbp ox0 e0 hp hb hl h5 hA hm; omega), ox0⟩
    · intro i σ H' hi hP
      refine genW fun B D' hB0 hnB => ?_
      obtain ⟨x, v5, v6, v7, rfl, sm, hB, hx, hox⟩ := hP
      have him : i < m := by simpa using hi
      refine nextW (R := B) hB0 fun R hR => ?_
      refine ⟨_, rfl, _, rfl, _, _, rfl, by (clear him hox hx hB hi hbp ox0 lx0 e0 hp hb hl h5 hA hm; omega), by (clear him hox hx hB hbp ox0 lx0 e0 hp hb hl h5 hA; omega), fun r r0 r1 => ?_⟩
      have hA' := sm _ _ hA
      obtain ⟨z, hz, ez⟩ := pickS (ss := ws) (n := r) (L := ((ws.map V.str).length : Nat)) (by (clear hA' r1 r0 him hox hx hB hi hbp ox0 lx0 e0 hp hb hl hA hm; omega)) (by rw [List.length_map])
      obtain ⟨lz, oz⟩ := hws z hz
      have ozk := isS_all oz
      refine nextW (R := R) hR fun R hR => ?_
      refine ⟨_, rfl, _, rfl, _, rfl, _, _, rfl, .inl (SqL.of hA'), _, _, rfl, rfl, (by show (0 : Int) < _; rw [List.length_map, h5]; decide), a, _, _, _, rfl, rfl, SqL.of hA', ez, ?_⟩
      have s1 := Txt.slice_le z none (some 1)
      have s2 := Txt.slice_le z (some 1) none
      obtain ⟨u1, u2⟩ := upper_all oz
      obtain ⟨u3, u4⟩ := upper_all (slice_all none (some 1) oz)
      have u5 := isS_all (slice_all (some 1) none oz)
      refine nextW (R := R) hR fun R hR => ?_
      refine ⟨_, rfl, _, rfl, _, rfl, rfl, z, rfl, rfl, by (clear u5 u4 u3 u2 u1 s2 s1 ozk oz ez hA' r1 r0 him hox hx hB hi hbp ox0 lx0 e0 hp hb hl h5 hA hm; omega), _, rfl, _, rfl, z, rfl, by (clear u5 u4 u3 u2 u1 s2 s1 ozk oz ez hA' r1 r0 him hox hx hB hi hbp ox0 lx0 e0 hp hb h5 hA hm; omega), rfl, _, rfl, rfl, by (clear u5 u4 u3 u2 u1 s2 ozk oz ez hA' r1 r0 him hox hx hB hi hbp ox0 lx0 e0 hp hb hl h5 hA hm; omega), _, rfl, _, rfl, z, rfl, by (clear u5 u4 u3 u2 u1 s2 s1 ozk oz ez hA' r1 r0 him hox hx hB hi hbp ox0 lx0 e0 hp hb h5 hA hm; omega), _, _, rfl, rfl, by (clear u5 u3 u2 u1 ozk oz ez hA' r1 r0 him hox hx hB hi hbp ox0 lx0 e0 hp hb h5 hA hm; omega), (by show 4 ≤ sizeLine; (clear u5 u4 u3 u2 u1 s2 s1 ozk oz lz ez hA' r1 r0 him hox hx hB hi hbp ox0 lx0 e0 hp hb h5 hA hm; omega)), fun q hq => ?_⟩
      refine ⟨_, rfl, _, _, rfl, rfl, ⟨by decide, by decide⟩, _, _, rfl, rfl, (by show (0 : Int) < 4; decide), ?_⟩
      obtain ⟨y, hy, ey⟩ := pickS (ss := [z, z, Txt.upper z, Txt.upper (Txt.slice z none (some 1)) ++ Txt.slice z (some 1) none]) (n := r / 7) (L := 4) (by simp) rfl
      have hyk : y.length ≤ 26 ∧ y.cps.toList.all okC = true := by
        have hy' : y = z ∨ y = z ∨ y = Txt.upper z ∨ y = Txt.upper (Txt.slice z none (some 1)) ++ Txt.slice z (some 1) none := by simpa using hy
        rcases hy' with e | e | e | e
        · rw [e]; exact ⟨by (clear e ey hq u5 u4 u3 u2 u1 s2 s1 ozk oz ez hA' r1 r0 him hox hx hB hi hbp ox0 lx0 e0 hp hb hl h5 hA hm; omega), ozk⟩
        · rw [e]; exact ⟨by (clear e ey hq u5 u4 u3 u2 u1 s2 s1 ozk oz ez hA' r1 r0 him hox hx hB hi hbp ox0 lx0 e0 hp hb hl h5 hA hm; omega), ozk⟩
        · rw [e]; exact ⟨by (clear e ey hq u5 u4 u3 u1 s2 s1 ozk oz ez hA' r1 r0 him hox hx hB hi hbp ox0 lx0 e0 hp hb hl h5 hA hm; omega), u1⟩
        · rw [e]; exact ⟨by rw [PySem.Str.length_append]; (clear e ey hq u5 u3 u2 u1 ozk oz ez hA' r1 r0 him hox hx hB hi hbp ox0 lx0 e0 hp hb hl h5 hA hm; omega), app_all u3 u5⟩
      obtain ⟨hy1, hy2⟩ := hyk
      refine ⟨q, _, _, _, rfl, rfl, SqL.of upd_same, ey, ?_⟩
      obtain ⟨t, ht, et⟩ := pickS (ss := betL) (n := r / 31) (L := 12) (by decide) rfl
      obtain ⟨ht1, ht2⟩ := bet_ok t ht
      have hB' : (upd H' q (.lst [V.str z, V.str z, V.str (Txt.upper z), V.str (Txt.upper (Txt.slice z none (some 1)) ++ Txt.slice z (some 1) none)])) b = some (.lst (betL.map V.str)) := by rw [upd_ne (ne_of_none hB hq)]; exact hB
      refine lastW (R := R) hR ?_
      refine ⟨_, rfl, _, rfl, _, _, rfl, rfl, by (clear hB' ht2 ht1 et hy2 ey hq u5 u4 u3 u2 u1 s2 s1 ozk oz lz ez hA' r1 r0 him hox hB hbp ox0 lx0 e0 hp hb h5 hA; omega), _, rfl, _, rfl, _, _, rfl, rfl, ⟨by decide, by decide⟩, _, _, rfl, rfl, (by show (0 : Int) < 12; decide), b, _, _, _, rfl, rfl, SqL.of hB', et, _, _, rfl, rfl, by rw [PySem.Str.length_append]; (clear hB' ht2 et hy2 ey hq u5 u4 u3 u2 u1 s2 s1 ozk oz lz ez hA' r1 r0 him hox hB hbp ox0 lx0 e0 hp hb h5 hA; omega), ?_⟩
      exact hnB _ _ ⟨x ++ y ++ t, _, _, _, rfl, Same.upd sm hq, hB', by rw [PySem.Str.length_append, PySem.Str.length_append]; (clear hB' ht2 et hy2 ey hq u5 u4 u3 u2 u1 s2 s1 ozk oz lz ez hA' r1 r0 him hox hB hi hbp ox0 lx0 e0 hp hb hl h5 hA hm; omega), app_all (app_all hox hy2) ht2⟩
    · rintro σ H' ⟨x, v5, v6, v7, rfl, sm, hB, hx, hox⟩
      have hx' : x.length ≤ 2 + 29 * m := by simpa using hx
      refine ⟨_, rfl, _, _, rfl, rfl, ⟨by decide, by decide⟩, _, _, rfl, rfl, (by show (0 : Int) < 3; decide), rfl, _, rfl, ?_⟩
      refine ite2 (fun _ => ?_) (fun _ => ?_)
      · refine ⟨_, rfl, rfl, x, rfl, rfl, by (clear hx' hox hB hbp ox0 lx0 e0 hp hb h5 hA; omega), kk _ _ sm ?_ (strip_all hox)⟩
        have := strip_len x
        (clear hx' hox hB hbp ox0 lx0 e0 hp hb hl h5 hA; omega)
      · exact ⟨_, rfl, kk _ _ sm (by (clear hx' hox hB hbp ox0 lx0 e0 hp hb hl h5 hA; omega)) hox⟩
end
end K01
set_option maxRecDepth 100000
set_option maxHeartbeats 4000000
namespace K01
open PySem L2 PyProof.Rows PySem.Spec
theorem dt_strs {K : PySem.W.Frag} {H : Hp} : ∀ (ns : List Str), DtVs K H (ns.map V.str) (ns.map PyData.str)
  | [] => .nil
  | n :: ns => .cons (.str n) (dt_strs ns)
theorem lay_strs : ∀ (ns : List Str), (∀ n ∈ ns, (PyData.str n).canLay0 = true) → (PyData.list (ns.map PyData.str)).canLay0 = true
  | [], _ => rfl
  | n :: ns, h => by
    show ((PyData.str n).canLay0 && (PyData.list (ns.map PyData.str)).canLay0) = true
    rw [h n List.mem_cons_self, lay_strs ns fun m hm => h m (List.mem_cons_of_mem _ hm)]
    rfl
theorem lay_str {z : Str} (h : ∀ c ∈ z.cps.toList, c < 1114112) : (PyData.str z).canLay0 = true := by
  show (z.cps.all fun c => decide (c < 0x110000)) = true
  rw [← Array.all_toList, List.all_eq_true]
  exact fun c hc => decide_eq_true (h c hc)
noncomputable def Uni (x : V) : Prop := ∀ z, x = .str z → ∀ c ∈ z.cps.toList, c < 1114112
section
variable {P : Program} {w : World} {K : PySem.W.Frag} {mg : Str → Option Value} {base : Heap}
noncomputable def allIn (S : Str) (l m : Nat) : V → Bool
  | .str z => decide (l ≤ z.length) && decide (z.length ≤ m) && z.cps.toList.all fun c => decide (c ∈ S.cps.toList)
  | _ => false
noncomputable def spAllIn (K : PySem.W.Frag) : Sp := fun vs H Q _ => ∃ (x : V) (S : Str) (l m : Nat), vs = [x, .str S, .int l, .int m] ∧ Known K H x ∧ Fit x ∧ Uni x ∧ ∀ H', Same H H' → Q (.bl (allIn S l m x)) H'
theorem scAllIn : FnScope ["_law_thing_here", "_law_signs_here", "_law_least", "_law_most"] ["_law_thing_here", "_law_signs_here", "_law_least", "_law_most"] (defScope lAllIn) := ⟨rfl, rfl, rfl, by decide +kernel, rfl, by decide +kernel, by decide +kernel⟩
theorem ndAllIn : (["_law_sign", "_law_signs_here"] : List Str).Nodup := by decide +kernel
theorem ok_allin {f : Addr} {fd : FuncData} (D : Df K mg "_law_all_in" lAllIn f fd) (T : Txt mg) : FnOk P w K mg base CX0 1 f fd ["_law_thing_here", "_law_signs_here", "_law_least", "_law_most"] (spAllIn K) := by
  refine D.F.ok scAllIn (fun vs H Q E h => ?_) (fun cdv A outer s H vs Q E hr h => ?_)
  · obtain ⟨x, S, l, m, rfl, _⟩ := h
    rfl
  · obtain ⟨x, S, l, m, rfl, ⟨n, hty⟩, hfit, huni, k⟩ := h
    have hl : (sizeLine : Nat) = 16777216 := sizeLine_eq
    refine ⟨_, pss_cons (ps_if (PW.pt (pw_or (pt_not (pt_val (pe_callB call_isi rfl T.isi b_isi (pa_cons (pv 0) (pa_cons (pe_bltn (v := .ty "str") rfl T.str b_str rfl) pa_nil)))))
        (pw_or1 (pt_not (pt_chain op_le op_le (pv 2) (pe_callB call_len_str rfl T.len b_len (pa_cons (pv 0) pa_nil)) (pv 3)))))) (pss_one (ps_ret pe_bl)) pss_nil)
      (pss_one (ps_ret (pe_cmpR (op_eqD hr.units100) (pe_comp (own := 1) (caps := [1]) (N := ["_law_sign", "_law_signs_here"]) (N0 := ["_law_thing_here", "_law_signs_here", "_law_least", "_law_most"]) (sc0 := defScope lAllIn) rfl (pi_str (pv 0))
        (fun _ _ _ => pg_name (i := 0) ndAllIn rfl (Or.inl rfl)) (fun _ _ _ => pf_one (pt_cmpR op_notIn_str (pv 0) (pv 1) rfl))
        (fun _ _ _ => pv 0) (gk_name (by decide)) rfl rfl
        (by decide +kernel) rfl (by decide +kernel) (by decide +kernel) rfl (by decide +kernel)) (pe_lst pa_nil) (nomark _)))), ?_⟩
    refine ⟨_, rfl, x, .ty "str", _, _, rfl, hty, .inl ⟨_, rfl, kit_str hty⟩, _, rfl, ?_⟩
    cases hx : isStrV x with
    | false =>
      refine iteT (iteT ?_)
      have := k H (Same.refl H)
      have e : allIn S l m x = false := by cases x <;> first | rfl | cases hx
      rw [e] at this
      exact this
    | true =>
      obtain ⟨z, rfl⟩ := isStr hx
      have hz := hfit z rfl
      have sz : z.cps.size = z.length := rfl
      refine iteF ?_
      have fin : (decide (l ≤ z.length) && decide (z.length ≤ m)) = false → Q (.bl false) H := fun hh => by
        have := k H (Same.refl H)
        have e : allIn S l m (.str z) = false := by
          show (decide (l ≤ z.length) && decide (z.length ≤ m) && _) = false
          rw [hh, Bool.false_and]
        rw [e] at this
        exact this
      refine ⟨_, rfl, _, rfl, z, rfl, by (clear sz hx; omega), _, _, rfl, rfl, _, rfl, ?_⟩
      by_cases h1 : l ≤ z.length
      · rw [decide_eq_true (by (clear sz hz hx hl; omega))]
        refine iteT ⟨_, rfl, _, _, rfl, rfl, _, rfl, ?_⟩
        by_cases h2 : z.length ≤ m
        · rw [decide_eq_true (by (clear h1 sz hz hx hl; omega))]
          refine iteF ⟨_, rfl, z, rfl, comp_its (x := z) (fun i ys H' => H' = H ∧ ys = ((z.cps.toList.take i).filter fun c => !decide (c ∈ S.cps.toList)).map fun c => V.str ⟨#[c]⟩) (by (clear h2 h1 hx; omega)) ⟨rfl, rfl⟩ ?_ ?_⟩
          · rintro i c ys H' N hc ⟨rfl, rfl⟩ hN
            refine ⟨_, rfl, _, rfl, _, _, rfl, rfl, _, rfl, ?_⟩
            rw [PySem.StrLaws.found_one]
            have ht : z.cps.toList.take (i + 1) = z.cps.toList.take i ++ [c] := by rw [List.take_add_one, cps_get hc]; rfl
            by_cases hin : c ∈ S.cps.toList
            · rw [decide_eq_true hin]
              refine iteF (hN _ _ ⟨rfl, ?_⟩)
              rw [ht, List.filter_append]
              have hin' : c ∈ S.cps := by simpa using hin
              simp [hin']
            · rw [decide_eq_false hin]
              refine iteT ⟨_, rfl, hN _ _ ⟨rfl, ?_⟩⟩
              rw [ht, List.filter_append, List.map_append]
              have hin' : ¬ c ∈ S.cps := by simpa using hin
              simp [hin']
          · rintro ys H' ⟨rfl, rfl⟩ _ p hp
            refine ⟨Nat.zero_le _, fun q hq => ?_⟩
            rw [List.take_of_length_le (by simp)] at hq ⊢
            have hall : (z.cps.toList.all fun c => decide (c ∈ S.cps.toList)) = (z.cps.toList.filter fun c => !decide (c ∈ S.cps.toList)).isEmpty := by
              rw [Bool.eq_iff_iff, List.all_eq_true, List.isEmpty_iff, List.filter_eq_nil_iff]
              simp
            have e : allIn S l m (.str z) = (z.cps.toList.filter fun c => !decide (c ∈ S.cps.toList)).isEmpty := by
              show (decide (l ≤ z.length) && decide (z.length ≤ m) && _) = _
              rw [decide_eq_true h1, decide_eq_true h2, Bool.true_and, Bool.true_and, hall]
            rw [e] at k
            have hfl : ∀ c ∈ (z.cps.toList.filter fun c => !decide (c ∈ S.cps.toList)), c < 1114112 := fun c hc => huni z rfl c (List.mem_filter.mp hc).1
            generalize (z.cps.toList.filter fun c => !decide (c ∈ S.cps.toList)) = fl at hq k hfl ⊢
            have sm := Same.upd (o := .lst []) (same_upd (o := .lst (fl.map fun c => V.str ⟨#[c]⟩)) hp) hq
            have ef : (fl.map fun c => V.str ⟨#[c]⟩) = (fl.map fun c => (⟨#[c]⟩ : Str)).map V.str := by rw [List.map_map]; rfl
            refine ⟨.list ((fl.map fun c => (⟨#[c]⟩ : Str)).map .str), .list [], .lst (xs := (fl.map fun c => (⟨#[c]⟩ : Str)).map V.str) (SqL.of ?_) (dt_strs _), .lst (SqL.of upd_same) .nil, lay_strs _ (fun n hn => ?_), rfl, Nat.le_trans (Nat.min_le_right _ _) (by decide), ?_⟩
            · rw [upd_ne (ne_of_none upd_same hq), upd_same, ef]
            · obtain ⟨c, hc, rfl⟩ := List.mem_map.mp hn
              exact lay_str fun d hd => by
                have e : d = c := by simpa using hd
                rw [e]
                exact hfl c hc
            · have := k _ sm
              cases fl with
              | nil => exact this
              | cons c r => exact this
        · rw [decide_eq_false (by (clear h1 sz hz hx hl; omega))]
          exact iteT (fin (by rw [decide_eq_false h2, Bool.and_false]))
      · rw [decide_eq_false (by (clear sz hz hx hl; omega))]
        exact iteF ⟨_, rfl, iteT (fin (by rw [decide_eq_false h1, Bool.false_and]))⟩
noncomputable def spDue (K : PySem.W.Frag) : Sp := fun vs H Q _ => ∃ x, vs = [x] ∧ Known K H x ∧ Fit x ∧ Uni x ∧ ∀ a H', Same H H' → H a = none → H' a = some (.lst [.bl (txtV x), .bl (rowV 12 x), .bl (rowV 2000 x)]) → Q (.ref a) H'
theorem scDue : FnScope ["_law_thing_here", "_law_small_here", "_law_signs_here"] ["_law_thing_here"] (defScope lDue) := ⟨rfl, rfl, rfl, by decide +kernel, rfl, by decide +kernel, by decide +kernel⟩
noncomputable abbrev allT : Str := Str.ofString "abcdefghijklmnopqrstuvwxyz0123456789" ++ Str.ofString " !\"#$&'()*+,-./:;<=>?@ABCDEFGHIJKLMNOPQRSTUVWXYZ[\\]^_`{|}~\n"
theorem all_mem : ∀ c : Nat, decide (c ∈ allT.cps.toList) = okC c := by128 (by decide +kernel) (mem128 (by decide +kernel)) fun c h => ok_lt h
theorem due_txt (x : V) : allIn allT 0 2000 x = txtV x := by
  cases x <;> try rfl
  rename_i z
  show (decide (0 ≤ z.length) && decide (z.length ≤ 2000) && z.cps.toList.all fun c => decide (c ∈ allT.cps.toList)) = (decide (z.length ≤ 2000) && z.cps.toList.all okC)
  rw [decide_eq_true (Nat.zero_le _), Bool.true_and]
  simp only [all_mem]
theorem due_row (m : Nat) (x : V) : allIn smallT 1 m x = rowV m x := by
  cases x <;> try rfl
  rename_i z
  show (decide (1 ≤ z.length) && decide (z.length ≤ m) && z.cps.toList.all fun c => decide (c ∈ smallT.cps.toList)) = (decide (1 ≤ z.length) && decide (z.length ≤ m) && z.cps.toList.all isS)
  simp only [small_mem]
theorem ok_due {f fa : Addr} {fd fda : FuncData} (D : Df K mg "_law_due" lDue f fd) (DA : Df K mg "_law_all_in" lAllIn fa fda) (T : Txt mg) : FnOk P w K mg base CX0 2 f fd ["_law_thing_here"] (spDue K) := by
  have GA : FnOk P w K mg base CX0 1 fa fda ["_law_thing_here", "_law_signs_here", "_law_least", "_law_most"] (spAllIn K) := ok_allin DA T
  have bA := DA.F.binds (ps := ["_law_thing_here", "_law_signs_here", "_law_least", "_law_most"]) fun _ _ _ _ _ _ us hl => us4 (fun _ _ _ _ => rfl) us hl
  refine D.F.ok scDue (fun vs H Q E h => ?_) (fun cdv A outer s H vs Q E hr h => ?_)
  · obtain ⟨x, rfl, _⟩ := h
    rfl
  · obtain ⟨x, rfl, hk, hfit, huni, k⟩ := h
    refine ⟨_, pss_cons (ps_set (i := 1) scDue.nd rfl (Or.inl rfl) pe_str) (pss_cons (ps_set (i := 2) scDue.nd rfl (Or.inl rfl) (pe_op op_add_str (pv 1) pe_str))
      (pss_one (ps_ret (pe_lst (pa_cons (pe_call GA hr rfl DA.m DA.F.kp bA .nil pass0 (pa_cons (pv 0) (pa_cons (pv 2) (pa_cons pe_int (pa_cons pe_int pa_nil)))))
        (pa_cons (pe_call GA hr rfl DA.m DA.F.kp bA .nil pass0 (pa_cons (pv 0) (pa_cons (pv 1) (pa_cons pe_int (pa_cons pe_int pa_nil)))))
        (pa_cons (pe_call GA hr rfl DA.m DA.F.kp bA .nil pass0 (pa_cons (pv 0) (pa_cons (pv 1) (pa_cons pe_int (pa_cons pe_int pa_nil))))) pa_nil))))))), ?_⟩
    refine ⟨_, rfl, _, _, rfl, rfl, by decide +kernel, ?_⟩
    refine ⟨_, rfl, _, rfl, x, _, 0, 2000, rfl, hk, hfit, huni, fun H1 s1 => ?_⟩
    refine ⟨_, rfl, _, rfl, x, _, 1, 12, rfl, hk.same s1, hfit, huni, fun H2 s2 => ?_⟩
    refine ⟨_, rfl, _, rfl, x, _, 1, 2000, rfl, hk.same (s1.trans s2), hfit, huni, fun H3 s3 => ?_⟩
    have sm := (s1.trans s2).trans s3
    refine ⟨(by show 3 ≤ sizeLine; decide), fun p hp => k p _ (Same.upd sm hp) (sm.free hp) ?_⟩
    rw [upd_same]
    show some (HO.lst [.bl (allIn allT 0 2000 x), .bl (allIn smallT 1 12 x), .bl (allIn smallT 1 2000 x)]) = _
    rw [due_txt, due_row, due_row]
end
end K01
set_option maxRecDepth 100000
set_option maxHeartbeats 4000000
namespace L2
open PySem PySem.Spec PyProof.Rows
section
variable {X : Cx} {pins : List (Addr × Obj)} {σ : L2.St} {H : Hp} {s : Shared}
theorem Inv.big2 (I : Inv X pins σ H s) : sysModules < s.heap.objs.size := by
  have h : mainGlobals < s.heap.objs.size := (I.mod.glob.keeps I.bk).lt
  exact Nat.lt_trans (by decide) h
end
noncomputable def tDNew2 : TE := fun _ H Q => ∀ p, H p = none → Q (.ref p) (upd H p (.dK []))
theorem pe_dnew2 {X : Cx} {pos : Pos} : PE X (.Dict [] [] pos) tDNew2 := fun pins s σ H Q I h =>
  wpAny_Dict_empty ⟨.ref s.heap.objs.size, _, I.laid (a := s.heap.objs.size) (o := .dK []) (t' := s.toks) (fun _ _ q => Heap.get?_push_of_some _ q) (Nat.le_refl _)
    ⟨Nat.zero_le _, beq_eq_false_iff_ne.mpr (Ne.symm (Nat.ne_of_lt I.big2)), [], .nil, Heap.DictOf.new s.heap⟩, rfl, h _ (I.hok.fresh (Nat.le_refl _))⟩
end L2
namespace K01
open PySem L2 PyProof.Rows PySem.Spec
theorem ixPick {K : PySem.W.Frag} {H : Hp} {p : Addr} {xs : List V} {n L : Int} {Q : VK} (hp : H p = some (.lst xs)) (h0 : 0 < xs.length) (hL : L = (xs.length : Nat)) (h : ∀ v ∈ xs, Q v H) : rIxL K (.ref p) (.int (n % L)) H Q := by
  obtain ⟨v, hv, e⟩ := pickV (n := n) h0 hL
  exact ⟨p, xs, _, v, rfl, rfl, SqL.of hp, e, h v hv⟩
structure Good (K : PySem.W.Frag) (H : Hp) (y : V) : Prop where
  k : Known K H y
  f : Fit y
  u : Uni y
theorem Good.same {K : PySem.W.Frag} {H H' : Hp} {y : V} (g : Good K H y) (s : Same H H') : Good K H' y := ⟨g.k.same s, g.f, g.u⟩
theorem good_str {K : PySem.W.Frag} {H : Hp} {z : Str} (h1 : z.length ≤ 5000) (h2 : z.cps.toList.all (fun c => decide (c < 1114112)) = true) : Good K H (.str z) :=
  ⟨⟨_, .str z⟩, fun y e => by injection e with e; subst e; exact h1, fun y e c hc => by injection e with e; subst e; exact of_decide_eq_true (List.all_eq_true.mp h2 c hc)⟩
theorem good_of {K : PySem.W.Frag} {H : Hp} {y : V} (h : isStrV y = false) (k : Known K H y) : Good K H y := ⟨k, (fun z e => by subst e; cases h), (fun z e => by subst e; cases h)⟩
theorem good_ok {K : PySem.W.Frag} {H : Hp} {z : Str} (h1 : z.length ≤ 5000) (h2 : z.cps.toList.all okC = true) : Good K H (.str z) := good_str h1 (List.all_eq_true.mpr fun c hc => decide_eq_true (Nat.lt_trans (ok_lt (List.all_eq_true.mp h2 c hc)) (by decide)))
section
variable {P : Program} {w : World} {K : PySem.W.Frag} {mg : Str → Option Value} {base : Heap}
noncomputable def spThing (K : PySem.W.Frag) : Sp := fun vs H Q _ => ∃ (n : Int) (x : Str), vs = [.int n, .str x] ∧ Drawn x ∧ ∀ y H', Same H H' → Good K H' y → Q y H'
theorem scThing : FnScope ["_law_number_here", "_law_text_here", "_law_some"] ["_law_number_here", "_law_text_here"] (defScope lThing) := ⟨rfl, rfl, rfl, by decide +kernel, rfl, by decide +kernel, by decide +kernel⟩
theorem x2000 : (Txt.mul (Str.ofString "x") 2000).length ≤ 5000 ∧ (Txt.mul (Str.ofString "x") 2000).cps.toList.all (fun c => decide (c < 1114112)) = true := by decide +kernel
theorem x2001 : (Txt.mul (Str.ofString "x") 2001).length ≤ 5000 ∧ (Txt.mul (Str.ofString "x") 2001).cps.toList.all (fun c => decide (c < 1114112)) = true := by decide +kernel
seal PSs PS PE PT PA PG PI PGs PIfs in
theorem ok_thing {f : Addr} {fd : FuncData} (D : Df K mg "_law_thing" lThing f fd) : FnOk P w K mg base CX0 1 f fd ["_law_number_here", "_law_text_here"] (spThing K) := by
  refine D.F.ok scThing (fun vs H Q E h => ?_) (fun cdv A outer s H vs Q E hr h => ?_)
  · obtain ⟨n, x, rfl, _⟩ := h
    rfl
  · obtain ⟨n, x, rfl, hx, kk⟩ := h
    refine ⟨_, pss_cons (ps_set (i := 2) scThing.nd rfl (Or.inl rfl) (pe_lst (pa_cons pe_str (pa_cons pe_str (pa_cons pe_str (pa_cons pe_str (pa_cons pe_str (pa_cons pe_str (pa_cons pe_str (pa_cons pe_str (pa_cons pe_str (pa_cons pe_str
          (pa_cons pe_non (pa_cons pe_int (pa_cons pe_bl (pa_cons (pe_lst (pa_cons pe_str pa_nil)) pa_nil))))))))))))))))
      (pss_cons (ps_set (i := 2) scThing.nd rfl (Or.inl rfl) (pe_op op_cat (pv 2) (pe_lst (pa_cons (pe_tup (pa_cons pe_str pa_nil)) (pa_cons pe_dnew2 (pa_cons (pe_op op_mul_str pe_str pe_int) (pa_cons (pe_op op_mul_str pe_str pe_int) (pa_cons pe_str (pa_cons pe_str pa_nil)))))))))
      (pss_one (ps_ret (pe_ix ix_list (pe_op op_cat (pv 2) (pe_lst (pa_cons (pv 1) pa_nil))) (pe_op op_mod (pv 0) pe_int) (fun _ _ => rfl))))), ?_⟩
    refine ⟨(by show 1 ≤ sizeLine; decide), fun p1 h1 => ⟨(by show 14 ≤ sizeLine; decide), fun p2 h2 => ?_⟩⟩
    refine ⟨_, rfl, (by show 1 ≤ sizeLine; decide), fun t ht d hd => ?_⟩
    refine ⟨_, _, rfl, rfl, mulOk_of 1 2000 (by decide +kernel) (by decide) (by decide) (by decide) (by decide), _, _, rfl, rfl, mulOk_of 1 2001 (by decide +kernel) (by decide) (by decide) (by decide) (by decide), (by show 6 ≤ sizeLine; decide), fun p3 h3 => ?_⟩
    refine ⟨p2, p3, _, _, rfl, rfl, ((same_upd ht).trans ((same_upd hd).trans (same_upd h3))) _ _ upd_same, upd_same, (by show 20 ≤ sizeLine; decide), fun p4 h4 => ?_⟩
    refine ⟨_, rfl, _, rfl, (by show 1 ≤ sizeLine; decide), fun p5 h5 => ?_⟩
    refine ⟨p4, p5, _, _, rfl, rfl, (same_upd h5) _ _ upd_same, upd_same, (by show 21 ≤ sizeLine; decide), fun p6 h6 => ?_⟩
    refine ⟨_, rfl, _, _, rfl, rfl, (by show (0 : Int) < 21; decide), ixPick upd_same (by simp) rfl ?_⟩
    have c6 := h6
    refine fun v hv => (fun g => kk v _ ((same_upd h1).trans ((same_upd h2).trans ((same_upd ht).trans ((same_upd hd).trans ((same_upd h3).trans ((same_upd h4).trans ((same_upd h5).trans (same_upd h6)))))))) g) ?_
    revert v
    refine List.forall_mem_append.mpr ⟨List.forall_mem_append.mpr ⟨?_, ?_⟩, ?_⟩
    · refine List.forall_mem_cons.mpr ⟨good_str (by decide +kernel) (by decide +kernel), ?_⟩
      refine List.forall_mem_cons.mpr ⟨good_str (by decide +kernel) (by decide +kernel), ?_⟩
      refine List.forall_mem_cons.mpr ⟨good_str (by decide +kernel) (by decide +kernel), ?_⟩
      refine List.forall_mem_cons.mpr ⟨good_str (by decide +kernel) (by decide +kernel), ?_⟩
      refine List.forall_mem_cons.mpr ⟨good_str (by decide +kernel) (by decide +kernel), ?_⟩
      refine List.forall_mem_cons.mpr ⟨good_str (by decide +kernel) (by decide +kernel), ?_⟩
      refine List.forall_mem_cons.mpr ⟨good_str (by decide +kernel) (by decide +kernel), ?_⟩
      refine List.forall_mem_cons.mpr ⟨good_str (by decide +kernel) (by decide +kernel), ?_⟩
      refine List.forall_mem_cons.mpr ⟨good_str (by decide +kernel) (by decide +kernel), ?_⟩
      refine List.forall_mem_cons.mpr ⟨good_str (by decide +kernel) (by decide +kernel), ?_⟩
      refine List.forall_mem_cons.mpr ⟨good_of rfl ⟨_, .non⟩, ?_⟩
      refine List.forall_mem_cons.mpr ⟨good_of rfl ⟨_, .int _⟩, ?_⟩
      refine List.forall_mem_cons.mpr ⟨good_of rfl ⟨_, .bl _⟩, ?_⟩
      refine List.forall_mem_cons.mpr ⟨good_of rfl ⟨_, .lst (((same_upd h2).trans ((same_upd ht).trans ((same_upd hd).trans ((same_upd h3).trans ((same_upd h4).trans ((same_upd h5).trans (same_upd h6))))))) _ _ upd_same)⟩, ?_⟩
      exact fun v hv => nomatch hv
    · refine List.forall_mem_cons.mpr ⟨good_of rfl ⟨_, .tup (((same_upd hd).trans ((same_upd h3).trans ((same_upd h4).trans ((same_upd h5).trans (same_upd h6))))) _ _ upd_same)⟩, ?_⟩
      refine List.forall_mem_cons.mpr ⟨good_of rfl ⟨_, .dK (((same_upd h3).trans ((same_upd h4).trans ((same_upd h5).trans (same_upd h6)))) _ _ upd_same)⟩, ?_⟩
      refine List.forall_mem_cons.mpr ⟨good_str x2000.1 x2000.2, ?_⟩
      refine List.forall_mem_cons.mpr ⟨good_str x2001.1 x2001.2, ?_⟩
      refine List.forall_mem_cons.mpr ⟨good_str (by decide +kernel) (by decide +kernel), ?_⟩
      refine List.forall_mem_cons.mpr ⟨good_str (by decide +kernel) (by decide +kernel), ?_⟩
      exact fun v hv => nomatch hv
    · refine List.forall_mem_cons.mpr ⟨good_ok (Nat.le_trans hx.1 (by decide)) hx.2, ?_⟩
      exact fun v hv => nomatch hv
end
end K01
set_option maxRecDepth 100000
set_option maxHeartbeats 4000000
namespace L2
open PySem PySem.Spec PyProof.Rows
theorem dt_bools {K : PySem.W.Frag} {H : Hp} : ∀ (ns : List Bool), DtVs K H (ns.map V.bl) (ns.map PyData.bool)
  | [] => .nil
  | n :: ns => .cons (.bl n) (dt_bools ns)
theorem lay_bools : ∀ (ns : List Bool), (PyData.list (ns.map PyData.bool)).canLay0 = true := by
  intro ns
  induction ns with
  | nil => rfl
  | cons n ns ih => exact ih
theorem has_bools : ∀ (ns : List Bool), (ns.map PyData.bool).all Shape.bool.has = true
  | [] => rfl
  | n :: ns => by rw [List.map_cons, List.all_cons, has_bools ns]; rfl
section
variable {X : Cx}
theorem mt_countB : MtR X "list.count" (fun x xs H Q => ∃ (p : Addr) (bs : List Bool) (k : Bool), x = .ref p ∧ xs = [.bl k] ∧ SqL X.K H p (bs.map V.bl) ∧ Q (.int (Spec.countIn (.bool k) (bs.map PyData.bool))) H) := by
  intro pins s σ H x xs v us Q I rx rs h
  obtain ⟨p, bs, k, rfl, rfl, hq, q⟩ := h
  cases rx
  obtain ⟨u, rfl, r1⟩ := vals1 rs
  cases r1
  obtain ⟨its, r, pl, _⟩ := I.list hq
  obtain ⟨as, ra⟩ := DtVs.reads I (dt_bools (K := X.K) (H := H) bs) r
  exact count_list_bools pl.isList ra (has_bools bs) ⟨.int _, H, I.tok _, ⟨_, rfl⟩, q⟩
theorem mt_indexB : MtR X "list.index" (fun x xs H Q => ∃ (p : Addr) (bs : List Bool) (k : Bool) (j : Nat), x = .ref p ∧ xs = [.bl k] ∧ SqL X.K H p (bs.map V.bl) ∧ j < 1000 ∧ bs[j]? = some k ∧ (∀ m, m < j → bs[m]? ≠ some k) ∧ Q (.int j) H) := by
  intro pins s σ H x xs v us Q I rx rs h
  obtain ⟨p, bs, k, j, rfl, rfl, hq, hj, hit, hno, q⟩ := h
  cases rx
  obtain ⟨u, rfl, r1⟩ := vals1 rs
  cases r1
  obtain ⟨its, r, pl, _⟩ := I.list hq
  obtain ⟨as, ra⟩ := DtVs.reads I (dt_bools (K := X.K) (H := H) bs) r
  obtain ⟨⟨cls, dd, data, sl⟩, ho, hc, n, hd⟩ := pl.isList
  simp only at hc hd
  subst hc hd
  have hlen := r.length
  rw [List.length_map] at hlen
  have hjl : j < its.length := by
    rw [← hlen]
    exact (List.getElem?_eq_some_iff.mp hit).1
  refine call_meets PySem.F.slot_list_index ⟨_, ho, rfl⟩ PySem.F.entry_list_index (PySem.F.args_list_index_2 _ _)
    (SeqAt.list_indexAt p its.toArray n dd sl (.bool k) (isBoolOf k) j (by simpa using hjl) (by omega) ?_ ?_) ⟨ho, fun y hy => eq_isBoolOf k ra (has_bools bs) y (by simpa using hy) _ _, ⟨.int _, H, I.tok _, ⟨_, rfl⟩, q⟩⟩
  · show isBoolOf k its[j] = true
    obtain ⟨b, e1, e2⟩ := boolsAre_get r j its[j] (List.getElem?_eq_getElem hjl)
    rw [hit] at e1
    rw [e2, ← Option.some.inj e1]
    exact beq_self_eq_true k
  · intro m hm hlt
    have hm' : m < its.length := by simpa using hm
    show isBoolOf k its[m] = false
    obtain ⟨b, e1, e2⟩ := boolsAre_get r m its[m] (List.getElem?_eq_getElem hm')
    rw [e2]
    refine beq_eq_false_iff_ne.mpr fun z => hno m hlt ?_
    rw [e1, z]
end
end L2
namespace K01
open PySem L2 PyProof.Rows PySem.Spec
structure Cl (mg : Str → Option Value) (CH CT CK CW CN : Addr) (o1 o2 o3 o4 o5 o6 o7 o8 o9 : Addr) : Prop where
  h : mg "HallError" = some (.ref CH)
  t : mg "BadText" = some (.ref CT)
  k : mg "BadKey" = some (.ref CK)
  w : mg "BadWord" = some (.ref CW)
  n : mg "BadNumber" = some (.ref CN)
  m1 : mg "BadAsk" = some (.ref o1)
  m2 : mg "BadKept" = some (.ref o2)
  m3 : mg "BadParts" = some (.ref o3)
  m4 : mg "BadRow" = some (.ref o4)
  m5 : mg "BadSpan" = some (.ref o5)
  m6 : mg "NoAsk" = some (.ref o6)
  m7 : mg "NoLine" = some (.ref o7)
  m8 : mg "NoText" = some (.ref o8)
  m9 : mg "Twice" = some (.ref o9)
structure CF (K : PySem.W.Frag) (CH CT CK CW CN : Addr) (os : List Addr) (D : Addr) (i : Nat) : Prop where
  x : PySem.W.ExcCls K D
  t : PySem.W.kitOne K (.ref D) (.ref CT) = some (decide (i = 0))
  k : PySem.W.kitOne K (.ref D) (.ref CK) = some (decide (i = 1))
  w : PySem.W.kitOne K (.ref D) (.ref CW) = some (decide (i = 2))
  n : PySem.W.kitOne K (.ref D) (.ref CN) = some (decide (i = 3))
  o : PySem.W.kitAny K (.ref D) (os.map Value.ref) = some false
  v : PySem.W.kitOne K (.ref D) (.type "ValueError") = some true
  e : PySem.W.exmOne K (.ref D) (.ref CH) = some true
  lt : i < 4
theorem cnt4 : ∀ i, i < 4 → Spec.countIn (.bool true) ([decide (i = 0), decide (i = 1), decide (i = 2), decide (i = 3)].map PyData.bool) = 1 := by decide
theorem at4 : ∀ i, i < 4 → ([decide (i = 0), decide (i = 1), decide (i = 2), decide (i = 3)])[i]? = some true := by decide
theorem no4 : ∀ i, i < 4 → ∀ m, m < i → ([decide (i = 0), decide (i = 1), decide (i = 2), decide (i = 3)])[m]? ≠ some true := by decide
section
variable {P : Program} {w : World} {K : PySem.W.Frag} {mg : Str → Option Value} {base : Heap} {CH CT CK CW CN : Addr} {o1 o2 o3 o4 o5 o6 o7 o8 o9 : Addr}
noncomputable def spClass (K : PySem.W.Frag) (CH CT CK CW CN : Addr) (os : List Addr) : List V → Hp → VK → Prop := fun vs H Q => ∃ (ea D : Addr) (i : Nat), vs = [.ref ea] ∧ H ea = some (ExcO ea D) ∧ CF K CH CT CK CW CN os D i ∧ ∀ H', Same H H' → Q (.int i) H'
theorem scClass : FnScope ["_law_e", "_law_found", "_law_others"] ["_law_e"] (defScope lClass) := ⟨rfl, rfl, rfl, by decide +kernel, rfl, by decide +kernel, by decide +kernel⟩
seal PSs PS PE PT PA PG PI PGs PIfs in
theorem ok_class {f : Addr} {fd : FuncData} (D : Df K mg "_law_class" lClass f fd) (C : Cl mg CH CT CK CW CN o1 o2 o3 o4 o5 o6 o7 o8 o9) (T : Txt mg) : FnOkN P w K mg base 1 f fd ["_law_e"] (spClass K CH CT CK CW CN [o1, o2, o3, o4, o5, o6, o7, o8, o9]) := by
  refine D.F.okN scClass (fun vs H Q h => ?_) (fun cdv A outer s H vs Q hr h => ?_)
  · obtain ⟨ea, D, i, rfl, _⟩ := h
    rfl
  · obtain ⟨ea, D, i, rfl, hH, F, kk⟩ := h
    refine ⟨_, pss_cons (ps_set (i := 1) scClass.nd rfl (Or.inl rfl) (pe_lst
        (pa_cons (pe_callB call_isiE rfl T.isi b_isi (pa_cons (pv 0) (pa_cons (pe_glob (v := .ref CT) rfl C.t rfl) pa_nil)))
        (pa_cons (pe_callB call_isiE rfl T.isi b_isi (pa_cons (pv 0) (pa_cons (pe_glob (v := .ref CK) rfl C.k rfl) pa_nil)))
        (pa_cons (pe_callB call_isiE rfl T.isi b_isi (pa_cons (pv 0) (pa_cons (pe_glob (v := .ref CW) rfl C.w rfl) pa_nil)))
        (pa_cons (pe_callB call_isiE rfl T.isi b_isi (pa_cons (pv 0) (pa_cons (pe_glob (v := .ref CN) rfl C.n rfl) pa_nil))) pa_nil))))))
      (pss_cons (ps_set (i := 2) scClass.nd rfl (Or.inl rfl) (pe_callB call_isiE rfl T.isi b_isi (pa_cons (pv 0) (pa_cons (pe_tup
        (pa_cons (pe_glob (v := .ref o1) rfl C.m1 rfl) (pa_cons (pe_glob (v := .ref o2) rfl C.m2 rfl) (pa_cons (pe_glob (v := .ref o3) rfl C.m3 rfl) (pa_cons (pe_glob (v := .ref o4) rfl C.m4 rfl) (pa_cons (pe_glob (v := .ref o5) rfl C.m5 rfl)
        (pa_cons (pe_glob (v := .ref o6) rfl C.m6 rfl) (pa_cons (pe_glob (v := .ref o7) rfl C.m7 rfl) (pa_cons (pe_glob (v := .ref o8) rfl C.m8 rfl) (pa_cons (pe_glob (v := .ref o9) rfl C.m9 rfl) pa_nil)))))))))) pa_nil))))
      (pss_cons (ps_if (PW.pt (pw_or (pt_cmpR op_ne (pe_bm PySem.F.plainAttrs_list PySem.F.slot_list_count PySem.F.type_list_count mt_countB (pv 1) (pa_cons pe_bl pa_nil)) pe_int (nomark _))
          (pw_or (pt_not (pt_val (pe_callB call_isiE rfl T.isi b_isi (pa_cons (pv 0) (pa_cons (pe_bltn (v := .ty "ValueError") rfl T.val b_val rfl) pa_nil)))))
          (pw_or1 (pt_val (pv 2)))))) (pss_one (ps_ret pe_int)) pss_nil)
      (pss_one (ps_ret (pe_bm PySem.F.plainAttrs_list PySem.F.slot_list_index PySem.F.type_list_index mt_indexB (pv 1) (pa_cons pe_bl pa_nil)))))), ?_⟩
    refine ⟨_, rfl, ea, D, _, _, rfl, hH, F.x, .inr (.inl ⟨_, rfl, F.t⟩), _, rfl, ea, D, _, _, rfl, hH, F.x, .inr (.inl ⟨_, rfl, F.k⟩), _, rfl, ea, D, _, _, rfl, hH, F.x, .inr (.inl ⟨_, rfl, F.w⟩), _, rfl, ea, D, _, _, rfl, hH, F.x, .inr (.inl ⟨_, rfl, F.n⟩), (by show 4 ≤ sizeLine; decide), fun p hp => ?_⟩
    refine ⟨_, rfl, (by show 9 ≤ sizeLine; decide), fun q hq => ?_⟩
    have s1 := (same_upd (o := .lst ([decide (i = 0), decide (i = 1), decide (i = 2), decide (i = 3)].map V.bl)) hp).trans (same_upd (o := .tup ([o1, o2, o3, o4, o5, o6, o7, o8, o9].map V.ref)) hq)
    have hl : (upd (upd H p (.lst ([decide (i = 0), decide (i = 1), decide (i = 2), decide (i = 3)].map V.bl))) q (.tup ([o1, o2, o3, o4, o5, o6, o7, o8, o9].map V.ref))) p = some (.lst ([decide (i = 0), decide (i = 1), decide (i = 2), decide (i = 3)].map V.bl)) := same_upd hq _ _ upd_same
    refine ⟨ea, D, _, _, rfl, s1 _ _ hH, F.x, .inr (.inr ⟨q, [o1, o2, o3, o4, o5, o6, o7, o8, o9], rfl, upd_same, F.o⟩), ?_⟩
    refine ⟨_, rfl, .inl ⟨rfl, _, SqL.of hl⟩, p, [decide (i = 0), decide (i = 1), decide (i = 2), decide (i = 3)], true, rfl, rfl, SqL.of hl, ?_⟩
    rw [cnt4 i F.lt]
    refine ⟨rfl, _, rfl, iteF ?_⟩
    refine ⟨_, rfl, ea, D, _, _, rfl, s1 _ _ hH, F.x, .inl ⟨_, rfl, F.v⟩, _, rfl, iteF ⟨_, rfl, _, rfl, iteF ?_⟩⟩
    exact ⟨_, rfl, .inl ⟨rfl, _, SqL.of hl⟩, p, [decide (i = 0), decide (i = 1), decide (i = 2), decide (i = 3)], true, i, rfl, rfl, SqL.of hl, Nat.lt_trans F.lt (by decide), at4 i F.lt, no4 i F.lt, kk _ s1⟩
end
end K01
set_option maxRecDepth 100000
set_option maxHeartbeats 4000000
namespace K01
open PySem L2 PyProof.Rows PySem.Spec
theorem dec_i {a b : Int} (h : a = b) : decide (V.int a = V.int b) = true := by subst h; exact decide_eq_true rfl
theorem dec_n {a b : Int} (h : a ≠ b) : decide (V.int a = V.int b) = false := decide_eq_false fun z => h (by injection z)
noncomputable def dueV (j : Nat) (x : V) : Bool := if j = 1 then rowV 12 x else if j = 2 then rowV 2000 x else txtV x
noncomputable def refV (j : Nat) : Nat := if j = 1 then 1 else if j = 2 then 2 else 0
noncomputable def clsV (CT CK CW : Addr) (j : Nat) : Addr := if j = 1 then CK else if j = 2 then CW else CT
noncomputable def needV (j : Nat) (x : V) : Int := if dueV j x = true then -1 else (refV j : Nat)
theorem due_str {j : Nat} {x : V} (h : dueV j x = true) : ∃ z, x = .str z := by
  unfold dueV at h
  cases x with
  | str z => exact ⟨z, rfl⟩
  | _ =>
    by_cases h1 : j = 1
    · rw [if_pos h1] at h; cases h
    · by_cases h2 : j = 2
      · rw [if_neg h1, if_pos h2] at h; cases h
      · rw [if_neg h1, if_neg h2] at h; cases h
section
variable {P : Program} {w : World} {K : PySem.W.Frag} {mg : Str → Option Value} {base : Heap} {CH CT CK CW CN : Addr} {o1 o2 o3 o4 o5 o6 o7 o8 o9 : Addr}
noncomputable def spNeeded (K : PySem.W.Frag) : Sp := fun vs H Q _ => ∃ (j : Nat) (x : V), vs = [.int j, x] ∧ j < 5 ∧ Good K H x ∧ ∀ H', Same H H' → Q (.int (needV j x)) H'
theorem scNeeded : FnScope ["_law_way", "_law_thing_here", "_law_told", "_law_e"] ["_law_way", "_law_thing_here"] (defScope lNeeded) := ⟨rfl, rfl, rfl, by decide +kernel, rfl, by decide +kernel, by decide +kernel⟩
seal PSs PS PE PT PA PG PI PGs PIfs in
theorem ok_needed {f ft fk fw fi fp fc : Addr} {fd fdt fdk fdw fdi fdp fdc : FuncData} (D : Df K mg "_law_needed" lNeeded f fd) (C : Cl mg CH CT CK CW CN o1 o2 o3 o4 o5 o6 o7 o8 o9) (T : Txt mg)
    (FT : CF K CH CT CK CW CN [o1, o2, o3, o4, o5, o6, o7, o8, o9] CT 0) (FK : CF K CH CT CK CW CN [o1, o2, o3, o4, o5, o6, o7, o8, o9] CK 1) (FW : CF K CH CT CK CW CN [o1, o2, o3, o4, o5, o6, o7, o8, o9] CW 2)
    (DT : Df K mg "need_text" sNText ft fdt) (GT : FnOk P w K mg base (CX1 P w) 3 ft fdt ["thing"] (spNeed K txtV CT))
    (DK : Df K mg "need_key" sNKey fk fdk) (GK : FnOk P w K mg base (CX1 P w) 3 fk fdk ["thing"] (spNeed K (rowV 12) CK))
    (DW : Df K mg "need_word" sNWord fw fdw) (GW : FnOk P w K mg base (CX1 P w) 3 fw fdw ["thing"] (spNeed K (rowV 2000) CW))
    (DI : Df K mg "words_in" sWordsIn fi fdi) (GI : FnOk P w K mg base (CX1 P w) 4 fi fdi ["text"] (spWIn K CT))
    (DP : Df K mg "plain_words" sPlain fp fdp) (GP : FnOk P w K mg base (CX1 P w) 5 fp fdp ["text"] (spPlain K CT))
    (DC : Df K mg "_law_class" lClass fc fdc) (GC : FnOkN P w K mg base 1 fc fdc ["_law_e"] (spClass K CH CT CK CW CN [o1, o2, o3, o4, o5, o6, o7, o8, o9])) :
    FnOk P w K mg base CX0 6 f fd ["_law_way", "_law_thing_here"] (spNeeded K) := by
  have bT := binds1 (p := "thing") DT.F fun _ _ _ _ _ _ _ => rfl
  have bK := binds1 (p := "thing") DK.F fun _ _ _ _ _ _ _ => rfl
  have bW := binds1 (p := "thing") DW.F fun _ _ _ _ _ _ _ => rfl
  have bI := binds1 (p := "text") DI.F fun _ _ _ _ _ _ _ => rfl
  have bP := binds1 (p := "text") DP.F fun _ _ _ _ _ _ _ => rfl
  have bC := binds1 (p := "_law_e") DC.F fun _ _ _ _ _ _ _ => rfl
  refine D.F.ok scNeeded (fun vs H Q E h => ?_) (fun cdv A outer s H vs Q E hr h => ?_)
  · obtain ⟨j, x, rfl, _⟩ := h
    rfl
  · obtain ⟨j, x, rfl, hj, hg, kk⟩ := h
    refine ⟨_, pss_cons (ps_try (CH := CH) (i := 3) (fun σ cls _ H' => σ = [some (.int j), some x, none, none] ∧ Same H H' ∧ cls = .ref (clsV CT CK CW j) ∧ dueV j x = false) rfl rfl scNeeded.nd rfl rfl rfl C.h
        (fun p xe hx => pss_one (ps_if (pt_cmpR op_eq (pv 0) pe_int (nomark _)) (pss_one (ps_set (i := 2) scNeeded.nd rfl (Or.inl rfl) (pe_callS (GT.mono (by decide)) hr rfl DT.m DT.F.kp bT .nil hx (pa_cons (pv 1) pa_nil))))
          (pss_one (ps_if (pt_cmpR op_eq (pv 0) pe_int (nomark _)) (pss_one (ps_set (i := 2) scNeeded.nd rfl (Or.inl rfl) (pe_callS (GK.mono (by decide)) hr rfl DK.m DK.F.kp bK .nil hx (pa_cons (pv 1) pa_nil))))
          (pss_one (ps_if (pt_cmpR op_eq (pv 0) pe_int (nomark _)) (pss_one (ps_set (i := 2) scNeeded.nd rfl (Or.inl rfl) (pe_callS (GW.mono (by decide)) hr rfl DW.m DW.F.kp bW .nil hx (pa_cons (pv 1) pa_nil))))
          (pss_one (ps_if (pt_cmpR op_eq (pv 0) pe_int (nomark _)) (pss_cons (ps_expr (pe_callS (GI.mono (by decide)) hr rfl DI.m DI.F.kp bI .nil hx (pa_cons (pv 1) pa_nil))) (pss_one (ps_ret (pe_un un_neg pe_int))))
            (pss_cons (ps_expr (pe_callS GP hr rfl DP.m DP.F.kp bP .nil hx (pa_cons (pv 1) pa_nil))) (pss_one (ps_ret (pe_un un_neg pe_int))))))))))))
        (fun ea p => pss_one (ps_ret (pe_callN GC ((hr.toN.mono (by decide)).mark _) rfl DC.m DC.F.kp bC .nil (pa_cons (pv 3) pa_nil)))))
      (pss_one (ps_ret (pe_ifExp (PW.pt (pw_and (pt_val (pe_callB call_isi rfl T.isi b_isi (pa_cons (pv 2) (pa_cons (pe_bltn (v := .ty "str") rfl T.str b_str rfl) pa_nil)))) (pw_and1 (pt_cmpR op_eq (pv 2) (pv 1) (nomark _))))) (pe_un un_neg pe_int) pe_int))), ?_⟩
    have yes : dueV j x = true → ∀ H', Same H H' → Q (.int (-1)) H' := fun hd H' s' => by
      have q := kk H' s'
      unfold needV at q
      rw [if_pos hd] at q
      exact q
    have no : dueV j x = false → ∀ H', Same H H' → Q (.int (refV j : Nat)) H' := fun hd H' s' => by
      have q := kk H' s'
      unfold needV at q
      rw [if_neg (by rw [hd]; exact Bool.false_ne_true)] at q
      exact q
    have FJ : CF K CH CT CK CW CN [o1, o2, o3, o4, o5, o6, o7, o8, o9] (clsV CT CK CW j) (refV j) := by
      unfold clsV refV
      by_cases h1 : j = 1
      · rw [if_pos h1, if_pos h1]; exact FK
      · by_cases h2 : j = 2
        · rw [if_neg h1, if_pos h2, if_neg h1, if_pos h2]; exact FW
        · rw [if_neg h1, if_neg h2, if_neg h1, if_neg h2]; exact FT
    refine ⟨?_, ?_⟩
    · have told : dueV j x = true → ∀ H1, Same H H1 → tRet (tIf (tAnd (tB (tCB (fun xs H Q => ∃ x c t b, xs = [x, c] ∧ TyOf K H x t ∧ ((∃ n, c = .ty n ∧ PySem.W.kitOne K t (.type n) = some b) ∨ (∃ C, c = .ref C ∧ PySem.W.kitOne K t (.ref C) = some b)) ∧ Q (.bl b) H) (tCons (tVar 2) (tCons (tC (.ty "str")) tNil)))) (tTest (tOp rEq (tVar 2) (tVar 1)))) (tUn (rU fun i => .int (-i)) (tC (.int 1))) (tC (.int 8))) { nx := fun _ H' => Q .non H', rt := Q } [some (.int j), some x, some x, none] H1 := fun hd H1 s1 => by
        obtain ⟨z, rfl⟩ := due_str hd
        refine ⟨_, rfl, .str z, .ty "str", .type "str", true, rfl, .str z, .inl ⟨_, rfl, kit_str (H := H1) (.str z)⟩, _, rfl, iteT ⟨_, rfl, _, rfl, rfl, _, rfl, ?_⟩⟩
        rw [decide_eq_true rfl]
        exact iteT ⟨_, rfl, yes hd H1 s1⟩
      rcases (show j = 0 ∨ j = 1 ∨ j = 2 ∨ j = 3 ∨ j = 4 by omega) with rfl | rfl | rfl | rfl | rfl
      · refine ⟨_, rfl, rfl, _, rfl, ?_⟩
        rw [dec_i (show ((0 : Nat) : Int) = 0 from rfl)]
        exact iteT ⟨_, rfl, x, rfl, hg.k, hg.f, fun hp H1 s1 => told hp H1 s1, fun hp H1 s1 => ⟨rfl, s1, rfl, hp⟩⟩
      · refine ⟨_, rfl, rfl, _, rfl, ?_⟩
        rw [dec_n (show ((1 : Nat) : Int) ≠ 0 by decide)]
        refine iteF ⟨_, rfl, rfl, _, rfl, ?_⟩
        rw [dec_i (show ((1 : Nat) : Int) = 1 from rfl)]
        exact iteT ⟨_, rfl, x, rfl, hg.k, hg.f, fun hp H1 s1 => told hp H1 s1, fun hp H1 s1 => ⟨rfl, s1, rfl, hp⟩⟩
      · refine ⟨_, rfl, rfl, _, rfl, ?_⟩
        rw [dec_n (show ((2 : Nat) : Int) ≠ 0 by decide)]
        refine iteF ⟨_, rfl, rfl, _, rfl, ?_⟩
        rw [dec_n (show ((2 : Nat) : Int) ≠ 1 by decide)]
        refine iteF ⟨_, rfl, rfl, _, rfl, ?_⟩
        rw [dec_i (show ((2 : Nat) : Int) = 2 from rfl)]
        exact iteT ⟨_, rfl, x, rfl, hg.k, hg.f, fun hp H1 s1 => told hp H1 s1, fun hp H1 s1 => ⟨rfl, s1, rfl, hp⟩⟩
      · refine ⟨_, rfl, rfl, _, rfl, ?_⟩
        rw [dec_n (show ((3 : Nat) : Int) ≠ 0 by decide)]
        refine iteF ⟨_, rfl, rfl, _, rfl, ?_⟩
        rw [dec_n (show ((3 : Nat) : Int) ≠ 1 by decide)]
        refine iteF ⟨_, rfl, rfl, _, rfl, ?_⟩
        rw [dec_n (show ((3 : Nat) : Int) ≠ 2 by decide)]
        refine iteF ⟨_, rfl, rfl, _, rfl, ?_⟩
        rw [dec_i (show ((3 : Nat) : Int) = 3 from rfl)]
        exact iteT ⟨_, rfl, x, rfl, hg.k, hg.f, fun z e hd a H1 s1 _ _ => ⟨_, rfl, yes (by subst e; exact drawn_txt hd) H1 s1⟩, fun hp H1 s1 => ⟨rfl, s1, rfl, hp⟩⟩
      · refine ⟨_, rfl, rfl, _, rfl, ?_⟩
        rw [dec_n (show ((4 : Nat) : Int) ≠ 0 by decide)]
        refine iteF ⟨_, rfl, rfl, _, rfl, ?_⟩
        rw [dec_n (show ((4 : Nat) : Int) ≠ 1 by decide)]
        refine iteF ⟨_, rfl, rfl, _, rfl, ?_⟩
        rw [dec_n (show ((4 : Nat) : Int) ≠ 2 by decide)]
        refine iteF ⟨_, rfl, rfl, _, rfl, ?_⟩
        rw [dec_n (show ((4 : Nat) : Int) ≠ 3 by decide)]
        exact iteF ⟨_, rfl, x, rfl, hg.k, hg.f, fun z e hd a H1 s1 _ _ => ⟨_, rfl, yes (by subst e; exact drawn_txt hd) H1 s1⟩, fun hp H1 s1 => ⟨rfl, s1, rfl, hp⟩⟩
    · rintro σ' cls H' ea ⟨rfl, sm, rfl, hp⟩ hn
      exact ⟨_, rfl, FJ.e, _, rfl, ea, _, refV j, rfl, upd_same, FJ, fun H2 s2 => no hp H2 ((Same.upd sm hn).trans s2)⟩
noncomputable def spNumN (K : PySem.W.Frag) : Sp := fun vs H Q _ => ∃ (x : V) (l : Int) (m : Option Int), vs = [x, .int l, mostV m] ∧ Known K H x ∧ (goodN x l m = true → Q x H) ∧ (goodN x l m = false → ∀ p H', Same H H' → H' p = some (.lst [.str "refused", .int 3]) → Q (.ref p) H')
theorem scNumN : FnScope ["_law_thing_here", "_law_least", "_law_most", "_law_e"] ["_law_thing_here", "_law_least", "_law_most"] (defScope lNumNeeded) := ⟨rfl, rfl, rfl, by decide +kernel, rfl, by decide +kernel, by decide +kernel⟩
seal PSs PS PE PT PA PG PI PGs PIfs in
theorem ok_numn {f fn fc : Addr} {fd fdn fdc : FuncData} (D : Df K mg "_law_number_needed" lNumNeeded f fd) (C : Cl mg CH CT CK CW CN o1 o2 o3 o4 o5 o6 o7 o8 o9)
    (FN : CF K CH CT CK CW CN [o1, o2, o3, o4, o5, o6, o7, o8, o9] CN 3)
    (DN : DfD K mg "need_number" sNNum fn fdn #[.none]) (GN : FnOk P w K mg base (CX1 P w) 2 fn fdn ["thing", "least", "most"] (spNNum K CN))
    (DC : Df K mg "_law_class" lClass fc fdc) (GC : FnOkN P w K mg base 1 fc fdc ["_law_e"] (spClass K CH CT CK CW CN [o1, o2, o3, o4, o5, o6, o7, o8, o9])) :
    FnOk P w K mg base CX0 3 f fd ["_law_thing_here", "_law_least", "_law_most"] (spNumN K) := by
  have bN2 := DN.binds (ps := ["thing", "least", "most"]) (ds := [.none]) fun T kV doc pm an cdv ct us hl => us2 (fun _ _ => ⟨_, rfl, rfl⟩) us (by simpa using hl)
  have bN3 := DN.binds (ps := ["thing", "least", "most"]) (ds := []) fun T kV doc pm an cdv ct us hl => us3 (fun _ _ _ => ⟨_, rfl, rfl⟩) us (by simpa using hl)
  have bC := binds1 (p := "_law_e") DC.F fun _ _ _ _ _ _ _ => rfl
  refine D.F.ok scNumN (fun vs H Q E h => ?_) (fun cdv A outer s H vs Q E hr h => ?_)
  · obtain ⟨x, l, m, rfl, _⟩ := h
    rfl
  · obtain ⟨x, l, m, rfl, hk, k1, k2⟩ := h
    refine ⟨_, pss_one (ps_try (CH := CH) (i := 3) (fun σ cls _ H' => σ = [some x, some (.int l), some (mostV m), none] ∧ H' = H ∧ cls = .ref CN ∧ goodN x l m = false) rfl rfl scNumN.nd rfl rfl rfl C.h
        (fun p xe hx => pss_cons (ps_if (pt_cmp (pc_isN (pv 2))) (pss_one (ps_ret (pe_callS GN hr rfl DN.m DN.kp bN2 (dvs := [.non]) (.cons rfl .nil) hx (pa_cons (pv 0) (pa_cons (pv 1) pa_nil))))) pss_nil)
          (pss_one (ps_ret (pe_callS GN hr rfl DN.m DN.kp bN3 .nil hx (pa_cons (pv 0) (pa_cons (pv 1) (pa_cons (pv 2) pa_nil)))))))
        (fun ea p => pss_one (ps_ret (pe_lst (pa_cons pe_str (pa_cons (pe_callN GC ((hr.toN.mono (by decide)).mark _) rfl DC.m DC.F.kp bC .nil (pa_cons (pv 3) pa_nil)) pa_nil)))))), ?_⟩
    refine ⟨?_, ?_⟩
    · cases m with
      | none =>
        refine ⟨_, rfl, _, rfl, iteT ?_⟩
        exact ⟨_, rfl, _, rfl, x, l, none, rfl, hk, k1, fun hb => ⟨rfl, rfl, rfl, hb⟩⟩
      | some m =>
        refine ⟨_, rfl, _, rfl, iteF ?_⟩
        exact ⟨_, rfl, _, rfl, _, rfl, x, l, some m, rfl, hk, k1, fun hb => ⟨rfl, rfl, rfl, hb⟩⟩
    · rintro σ' cls H' ea ⟨rfl, rfl, rfl, hp⟩ hn
      refine ⟨_, rfl, FN.e, _, rfl, ea, _, 3, rfl, upd_same, FN, fun H2 s2 => ⟨(by show 2 ≤ sizeLine; decide), fun p hp' => ?_⟩⟩
      exact k2 hp p _ (Same.upd ((same_upd hn).trans s2) hp') upd_same
end
end K01
set_option maxRecDepth 100000
set_option maxHeartbeats 4000000
namespace L2
open PySem PySem.Spec PyProof.Rows
theorem PE.imp {X : Cx} {e : Expr} {t t' : TE} (h : PE X e t) (i : ∀ σ H Q, t' σ H Q → t σ H Q) : PE X e t' := fun pins s σ H Q I q => h pins s σ H Q I (i σ H Q q)
end L2
namespace K01
open PySem L2 PyProof.Rows PySem.Spec
theorem ixPickP {K : PySem.W.Frag} {H : Hp} {p : Addr} {xs : List V} {n L : Int} {Q : VK} (R : V → Hp → Prop) (hp : H p = some (.lst xs)) (h0 : 0 < xs.length) (hL : L = (xs.length : Nat)) (hR : ∀ v ∈ xs, R v H) (h : ∀ v, R v H → Q v H) : rIxL K (.ref p) (.int (n % L)) H Q :=
  ixPick hp h0 hL fun v hv => h v (hR v hv)
section
variable {P : Program} {w : World} {K : PySem.W.Frag} {mg : Str → Option Value} {base : Heap}
noncomputable def tGood1 (K : PySem.W.Frag) : TE := fun σ H Q => ∃ (x : V) (l : Int), σ[1]? = some (some x) ∧ σ[3]? = some (some (.int l)) ∧ Known K H x ∧ Q (.bl (goodN x l none)) H
noncomputable def tWh (K : PySem.W.Frag) : TE := fun σ H Q => ∃ x : V, σ[1]? = some (some x) ∧ Known K H x ∧ Q (.bl (isIntV x && !isBlV x)) H
noncomputable def tGood2 : TE := fun σ H Q => ∃ (x : V) (l : Int) (m : Option Int), σ[1]? = some (some x) ∧ σ[4]? = some (some (mostV m)) ∧ σ[5]? = some (some (.bl (goodN x l none))) ∧ Q (.bl (goodN x l m)) H
theorem goodN_int {x : V} {l : Int} {m : Option Int} (h : goodN x l m = true) : ∃ i, x = .int i := by cases x <;> first | exact ⟨_, rfl⟩ | cases h
theorem most_of {xs : List V} {i : Nat} {y : V} {k : Int} (hx : xs = [.non, .int k]) (h : xs[i]? = some y) : ∃ m, y = mostV m := by
  subst hx
  match i, h with
  | 0, h => exact ⟨none, (Option.some.inj h).symm⟩
  | 1, h => exact ⟨some k, (Option.some.inj h).symm⟩
theorem int_of {xs : List V} {i : Nat} {y : V} {j k : Int} (hx : xs = [.int j, .int k]) (h : xs[i]? = some y) : ∃ l, y = .int l := by
  subst hx
  match i, h with
  | 0, h => exact ⟨j, (Option.some.inj h).symm⟩
  | 1, h => exact ⟨k, (Option.some.inj h).symm⟩
theorem ref_lay : (PyData.list [PyData.str (Str.ofString "refused"), .int 3]).canLay0 = true := by decide +kernel
theorem ref_eq : PyData.eqv (PyData.list [PyData.str (Str.ofString "refused"), .int 3]) (PyData.list [PyData.str (Str.ofString "refused"), .int 3]) = true := by decide +kernel
theorem int_eq (i : Int) : PyData.eqv (.int i) (.int i) = true := by
  show (i == i) = true
  exact beq_self_eq_true i
noncomputable def spNumsR : Sp := fun vs H Q _ => ∃ (n : Int), vs = [.int n] ∧ ∀ H', Same H H' → Q (.bl true) H'
theorem scNumsR : FnScope ["_law_number_here", "_law_thing_here", "_law_told", "_law_least", "_law_most", "_law_good", "_law_found"] ["_law_number_here"] (defScope lNumsRight) := ⟨rfl, rfl, rfl, by decide +kernel, rfl, by decide +kernel, by decide +kernel⟩
seal PSs PS PE PT PA PG PI PGs PIfs in
theorem ok_numsr {f fw fn : Addr} {fd fdw fdn : FuncData} (D : Df K mg "_law_numbers_right" lNumsRight f fd) (DW : Df K mg "is_whole" sWhole fw fdw) (T : Txt mg)
    (DN : Df K mg "_law_number_needed" lNumNeeded fn fdn) (GN : FnOk P w K mg base CX0 3 fn fdn ["_law_thing_here", "_law_least", "_law_most"] (spNumN K)) :
    FnOk P w K mg base CX0 4 f fd ["_law_number_here"] spNumsR := by
  have GW : FnOk P w K mg base CX0 1 fw fdw ["thing"] (spWhole K) := ok_whole DW T
  have bW := binds1 (p := "thing") DW.F fun _ _ _ _ _ _ _ => rfl
  have bN := DN.F.binds (ps := ["_law_thing_here", "_law_least", "_law_most"]) fun _ _ _ _ _ _ us hl => us3 (fun _ _ _ => rfl) us hl
  refine D.F.ok scNumsR (fun vs H Q E h => ?_) (fun cdv A outer s H vs Q E hr h => ?_)
  · obtain ⟨n, rfl, _⟩ := h
    rfl
  · obtain ⟨n, rfl, kk⟩ := h
    refine ⟨_, pss_cons (ps_set (i := 1) scNumsR.nd rfl (Or.inl rfl) (pe_ix ix_list (pe_lst (pa_cons (pe_op op_mod (pv 0) pe_int) (pa_cons (pe_op op_sub pe_int (pe_op op_mod (pv 0) pe_int)) (pa_cons pe_bl (pa_cons pe_non (pa_cons pe_str
          (pa_cons (pe_op op_add (pe_op op_pow pe_int pe_int) (pv 0)) (pa_cons (pe_lst (pa_cons pe_int pa_nil)) (pa_cons pe_bl pa_nil))))))))) (pe_op op_mod (pe_op op_fdiv (pv 0) pe_int) pe_int) (fun _ _ => rfl)))
      (pss_cons (ps_set (i := 2) scNumsR.nd rfl (Or.inl rfl) (pe_call (GW.mono (by decide)) hr rfl DW.m DW.F.kp bW .nil pass0 (pa_cons (pv 1) pa_nil)))
      (pss_cons (ps_if (PW.pt (pw_or (pt_not (pt_val (pe_callB call_isi rfl T.isi b_isi (pa_cons (pv 2) (pa_cons (pe_bltn (v := .ty "bool") rfl T.bool b_bool rfl) pa_nil)))))
          (pw_or1 (pt_cmpR op_ne (pv 2) (PE.imp (t' := tWh K) (pe_and (pe_callB call_isi rfl T.isi b_isi (pa_cons (pv 1) (pa_cons (pe_bltn (v := .ty "int") rfl T.int b_int rfl) pa_nil)))
            (pe_one (pe_not (pe_callB call_isi rfl T.isi b_isi (pa_cons (pv 1) (pa_cons (pe_bltn (v := .ty "bool") rfl T.bool b_bool rfl) pa_nil)))))) ?g0) (nomark _))))) (pss_one (ps_ret pe_bl)) pss_nil)
      (pss_cons (ps_for PassesOwn.never rfl (pi_list (pe_lst (pa_cons pe_int (pa_cons (pe_op op_mod (pe_op op_fdiv (pv 0) pe_int) pe_int) pa_nil)))) (pg_name (i := 3) scNumsR.nd rfl (Or.inl rfl))
        (pss_one (ps_for PassesOwn.never rfl (pi_list (pe_lst (pa_cons pe_non (pa_cons (pe_op op_add (pv 3) (pe_op op_mod (pe_op op_fdiv (pv 0) pe_int) pe_int)) pa_nil)))) (pg_name (i := 4) scNumsR.nd rfl (Or.inl rfl))
          (pss_cons (ps_set (i := 5) scNumsR.nd rfl (Or.inl rfl) (PE.imp (t' := tGood1 K) (pe_and (pe_callB call_isi rfl T.isi b_isi (pa_cons (pv 1) (pa_cons (pe_bltn (v := .ty "int") rfl T.int b_int rfl) pa_nil)))
              (pe_and (pe_not (pe_callB call_isi rfl T.isi b_isi (pa_cons (pv 1) (pa_cons (pe_bltn (v := .ty "bool") rfl T.bool b_bool rfl) pa_nil)))) (pe_one (pe_cmpR op_ge (pv 1) (pv 3) (nomark _))))) ?g1))
          (pss_cons (ps_set (i := 5) scNumsR.nd rfl (Or.inl rfl) (PE.imp (t' := tGood2) (pe_and (pv 5) (pe_one (pe_or (pe_cmp (pc_isN (pv 4))) (pe_one (pe_cmpR op_le (pv 1) (pv 4) (nomark _)))))) ?g2))
          (pss_cons (ps_set (i := 6) scNumsR.nd rfl (Or.inl rfl) (pe_call GN hr rfl DN.m DN.F.kp bN .nil pass0 (pa_cons (pv 1) (pa_cons (pv 3) (pa_cons (pv 4) pa_nil)))))
          (pss_one (ps_if (PW.pt (pw_or (pt_val (pe_callB call_isi rfl T.isi b_isi (pa_cons (pv 6) (pa_cons (pe_bltn (v := .ty "bool") rfl T.bool b_bool rfl) pa_nil))))
            (pw_or1 (pt_cmpR (op_neD hr.units100) (pv 6) (pe_ifExp (pt_val (pv 5)) (pv 1) (pe_lst (pa_cons pe_str (pa_cons pe_int pa_nil)))) (nomark _))))) (pss_one (ps_ret pe_bl)) pss_nil))))))))
      (pss_one (ps_ret pe_bl))))), ?_⟩
    case g0 =>
      rintro σ H Q ⟨x, h1, ⟨nm, hty⟩, q⟩
      refine ⟨x, h1, x, .ty "int", _, _, rfl, hty, .inl ⟨_, rfl, kit_int hty⟩, _, rfl, ?_⟩
      cases hi : isIntV x with
      | false =>
        rw [hi] at q
        exact iteF q
      | true =>
        rw [hi] at q
        exact iteT ⟨_, h1, x, .ty "bool", _, _, rfl, hty, .inl ⟨_, rfl, kit_bool hty⟩, _, rfl, q⟩
    case g1 =>
      rintro σ H Q ⟨x, l, h1, h3, ⟨nm, hty⟩, q⟩
      refine ⟨x, h1, x, .ty "int", _, _, rfl, hty, .inl ⟨_, rfl, kit_int hty⟩, _, rfl, ?_⟩
      cases x with
      | int i => exact iteT ⟨_, h1, _, .ty "bool", _, _, rfl, hty, .inl ⟨_, rfl, kit_bool hty⟩, _, rfl, _, rfl, iteT ⟨_, h1, _, h3, _, _, rfl, rfl, by
          have e : goodN (.int i) l none = decide (l ≤ i) := Bool.and_true _
          rw [e] at q
          exact q⟩⟩
      | bl b => exact iteT ⟨_, h1, _, .ty "bool", _, _, rfl, hty, .inl ⟨_, rfl, kit_bool hty⟩, _, rfl, _, rfl, iteF q⟩
      | _ => exact iteF q
    case g2 =>
      rintro σ H Q ⟨x, l, m, h1, h4, h5, q⟩
      refine ⟨_, h5, _, rfl, ?_⟩
      cases hg : goodN x l none with
      | false =>
        refine iteF ?_
        have e : goodN x l m = false := by
          cases x with
          | int i =>
            have hg' : (decide (l ≤ i) && true) = false := hg
            rw [Bool.and_true] at hg'
            show (decide (l ≤ i) && _) = false
            rw [hg', Bool.false_and]
          | _ => rfl
        rw [e] at q
        exact q
      | true =>
        obtain ⟨i, rfl⟩ := goodN_int hg
        have hg' : (decide (l ≤ i) && true) = true := hg
        rw [Bool.and_true] at hg'
        refine iteT ⟨_, h4, _, rfl, ?_⟩
        cases m with
        | none =>
          refine iteT ?_
          have e : goodN (.int i) l none = true := hg
          rw [e] at q
          exact q
        | some m =>
          refine iteF ⟨_, h1, _, h4, _, _, rfl, rfl, ?_⟩
          have e : goodN (.int i) l (some m) = decide (i ≤ m) := by
            show (decide (l ≤ i) && decide (i ≤ m)) = _
            rw [hg', Bool.true_and]
          rw [e] at q
          exact q
    refine ⟨_, rfl, _, _, rfl, rfl, (by show (0 : Int) < 40; decide), _, rfl, _, _, rfl, rfl, (by show (0 : Int) < 9; decide), _, _, rfl, rfl, ?_⟩
    refine ⟨_, _, rfl, rfl, ⟨by decide, by decide, by decide⟩, _, rfl, _, _, rfl, rfl, (by show 1 ≤ sizeLine; decide), fun p1 h1 => ⟨(by show 8 ≤ sizeLine; decide), fun p2 h2 => ?_⟩⟩
    refine ⟨_, rfl, _, _, rfl, rfl, ⟨by decide, by decide⟩, _, _, rfl, rfl, (by show (0 : Int) < 8; decide), ixPickP (fun v H => Known K H v) upd_same (by simp) rfl ?k fun x hk => ?_⟩
    case k =>
      refine List.forall_mem_cons.mpr ⟨⟨_, .int _⟩, List.forall_mem_cons.mpr ⟨⟨_, .int _⟩, List.forall_mem_cons.mpr ⟨⟨_, .bl _⟩, List.forall_mem_cons.mpr ⟨⟨_, .non⟩, List.forall_mem_cons.mpr ⟨⟨_, .str _⟩, List.forall_mem_cons.mpr ⟨⟨_, .int _⟩, List.forall_mem_cons.mpr ⟨⟨_, .lst (same_upd h2 _ _ upd_same)⟩, List.forall_mem_cons.mpr ⟨⟨_, .bl _⟩, fun v hv => nomatch hv⟩⟩⟩⟩⟩⟩⟩⟩
    refine ⟨_, rfl, x, rfl, hk, ?_⟩
    refine ⟨_, rfl, .bl _, .ty "bool", _, true, rfl, .bl _, .inl ⟨_, rfl, kit_bool (H := H) (.bl (isIntV x && !isBlV x))⟩, _, rfl, iteF ⟨_, rfl, x, rfl, hk, rfl, _, rfl, ?_⟩⟩
    rw [decide_eq_true rfl]
    refine iteF ?_
    refine ⟨_, rfl, _, _, rfl, rfl, ⟨by decide, by decide⟩, _, _, rfl, rfl, (by show (0 : Int) < 30; decide), (by show 2 ≤ sizeLine; decide), fun a1 ha1 => ⟨a1, rfl, ⟨_, SqL.of upd_same⟩, ?_⟩⟩
    refine for_listW (xs := [.int 0, .int (n / 320 % 30)]) (fun i σ H' => ∃ v3 v4 v5 v6, σ = [some (.int n), some x, some (.bl (isIntV x && !isBlV x)), v3, v4, v5, v6] ∧ Same H H' ∧ Known K H' x ∧ H' a1 = some (.lst [.int 0, .int (n / 320 % 30)])) ?_ ?_ ?_ ?_
    · exact ⟨none, none, none, none, rfl, ((same_upd h1).trans (same_upd h2)).trans (same_upd ha1), hk.same (same_upd ha1), upd_same⟩
    · rintro i σ H' _ ⟨v3, v4, v5, v6, _, _, _, e⟩
      exact SqL.of e
    · rintro i y σ H' B1 D1 hB1 hn1 hy ⟨v3, v4, v5, v6, rfl, sm, hkx, hA⟩
      obtain ⟨l, rfl⟩ := int_of rfl hy
      refine lastW (R := B1) hB1 ?_
      refine ⟨_, rfl, _, rfl, _, _, rfl, rfl, ⟨by decide, by decide⟩, _, _, rfl, rfl, (by show (0 : Int) < 20; decide), _, _, rfl, rfl, (by show 2 ≤ sizeLine; decide), fun a2 ha2 => ⟨a2, rfl, ⟨_, SqL.of upd_same⟩, ?_⟩⟩
      refine for_listW (xs := [.non, .int (l + n / 9600 % 20)]) (fun i σ H' => ∃ v4 v5 v6, σ = [some (.int n), some x, some (.bl (isIntV x && !isBlV x)), some (.int l), v4, v5, v6] ∧ Same H H' ∧ Known K H' x ∧ H' a1 = some (.lst [.int 0, .int (n / 320 % 30)]) ∧ H' a2 = some (.lst [.non, .int (l + n / 9600 % 20)])) ?_ ?_ ?_ ?_
      · exact ⟨v4, v5, v6, rfl, Same.upd sm ha2, hkx.same (same_upd ha2), same_upd ha2 _ _ hA, upd_same⟩
      · rintro i σ H' _ ⟨v4, v5, v6, _, _, _, _, e⟩
        exact SqL.of e
      · rintro i y σ H2 B2 D2 hB2 hn2 hy ⟨v4, v5, v6, rfl, sm2, hk2, hA1, hA2⟩
        obtain ⟨m, rfl⟩ := most_of rfl hy
        refine nextW (R := B2) hB2 fun R2 hR2 => ?_
        refine ⟨x, l, rfl, rfl, hk2, ?_⟩
        refine nextW (R := R2) hR2 fun R2 hR2 => ?_
        refine ⟨x, l, m, rfl, rfl, rfl, ?_⟩
        refine nextW (R := R2) hR2 fun R2 hR2 => ?_
        refine ⟨_, rfl, _, rfl, _, rfl, x, l, m, rfl, hk2, fun hgd => ?_, fun hgd p H3 s3 hp => ?_⟩
        · obtain ⟨i, rfl⟩ := goodN_int hgd
          rw [hgd]
          refine lastW (R := R2) hR2 ?_
          refine ⟨_, rfl, .int i, .ty "bool", _, false, rfl, .int i, .inl ⟨_, rfl, kit_bool (H := H) (.int i)⟩, _, rfl, iteF ⟨_, rfl, _, rfl, _, rfl, iteT ⟨_, rfl, ?_⟩⟩⟩
          refine ⟨.int i, .int i, .int i, .int i, rfl, rfl, (by show min 0 0 ≤ 100; decide), _, rfl, ?_⟩
          rw [int_eq]
          exact iteF (hn2 _ _ ⟨_, _, _, rfl, sm2, hk2, hA1, hA2⟩)
        · rw [hgd]
          refine lastW (R := R2) hR2 ?_
          refine ⟨_, rfl, .ref p, .ty "bool", _, false, rfl, .lst hp, .inl ⟨_, rfl, kit_bool (K := K) (.lst hp)⟩, _, rfl, iteF ⟨_, rfl, _, rfl, _, rfl, iteF ⟨(by show 2 ≤ sizeLine; decide), fun q hq => ?_⟩⟩⟩
          refine ⟨.list [.str (Str.ofString "refused"), .int 3], .list [.str (Str.ofString "refused"), .int 3], .lst (SqL.of (same_upd hq _ _ hp)) (.cons (.str _) (.cons (.int _) .nil)), .lst (SqL.of upd_same) (.cons (.str _) (.cons (.int _) .nil)), ref_lay, ref_lay, by decide +kernel, _, rfl, ?_⟩
          rw [ref_eq]
          have s4 := s3.trans (same_upd (o := .lst [.str (Str.ofString "refused"), .int 3]) hq)
          exact iteF (hn2 _ _ ⟨_, _, _, rfl, sm2.trans s4, hk2.same s4, s4 _ _ hA1, s4 _ _ hA2⟩)
      · rintro σ H2 ⟨v4, v5, v6, rfl, sm2, hk2, hA1, hA2⟩
        exact hn1 _ _ ⟨_, _, _, _, rfl, sm2, hk2, hA1⟩
    · rintro σ H' ⟨v3, v4, v5, v6, rfl, sm, _, _⟩
      exact kk H' sm
end
end K01
set_option maxRecDepth 100000
set_option maxHeartbeats 4000000
namespace L2
open PySem PySem.Spec PyProof.Rows
noncomputable def rIsi (K : PySem.W.Frag) : List V → Hp → VK → Prop := fun xs H Q => ∃ x c t b, xs = [x, c] ∧ TyOf K H x t ∧
    ((∃ n, c = .ty n ∧ PySem.W.kitOne K t (.type n) = some b) ∨ (∃ C, c = .ref C ∧ PySem.W.kitOne K t (.ref C) = some b)) ∧ Q (.bl b) H
theorem call_isiK {X : Cx} {K : PySem.W.Frag} (h : X.K = K) : CallR X (.builtin "isinstance") (rIsi K) := by subst h; exact call_isi
theorem ix_listK {X : Cx} {K : PySem.W.Frag} (h : X.K = K) : IxR X (rIxL K) := by subst h; exact ix_list
theorem ix_tupK {X : Cx} {K : PySem.W.Frag} (h : X.K = K) : IxR X (rIxT K) := by subst h; exact ix_tup
theorem comp_itt {K : PySem.W.Frag} {a : Addr} {xs : List V} {g : TG} {tc : TT} {te : TE} {σ0 : L2.St} {H : Hp} {Q : VK} (Pv : Nat → List V → Hp → Prop) (hz : xs.length < sizeLine) (hl : ∀ i ys H, Pv i ys H → SqT K H a xs) (h0 : Pv 0 [] H)
    (hs : ∀ i x ys H (N : List V → Hp → Prop), xs[i]? = some x → Pv i ys H → (∀ ys' H2, Pv (i + 1) ys' H2 → N ys' H2) →
      g x σ0 H fun σ2 H2 => tc σ2 H2 fun b H3 => if b = true then te σ2 H3 fun y H4 => N (ys ++ [y]) H4 else N ys H3)
    (hd : ∀ ys H, Pv xs.length ys H → ys.length ≤ xs.length → ∀ p, H p = none → Q (.ref p) (upd H p (.lst ys))) : CompR (Itt K a) g tc te σ0 Q H := comp_by xs.length Pv hz
  (fun i ys H hi p => ⟨xs, xs[i], hl i ys H p, by simp [hi]⟩) (fun ys H p => ⟨xs, hl _ ys H p, Nat.le_refl _⟩) h0
  (fun i ys H v H' N hi p y hN => by
    obtain ⟨e, y⟩ := y
    subst e
    exact hs i v ys _ N (y xs (hl i ys _ p)) p hN) hd
end L2
namespace K01
open PySem L2 PyProof.Rows PySem.Spec
theorem kit_tt {K : PySem.W.Frag} : PySem.W.kitOne K (.type "tuple") (.type "tuple") = some true := by kernel_rfl
theorem kit_ll {K : PySem.W.Frag} : PySem.W.kitOne K (.type "list") (.type "list") = some true := by kernel_rfl
section
variable {P : Program} {w : World} {K : PySem.W.Frag} {mg : Str → Option Value} {base : Heap}
noncomputable def spTuples : Sp := fun vs H Q _ => ∃ (a : Addr) (ws : List Wd), vs = [.ref a] ∧ WL H a ws ∧ ws.length ≤ 5000 ∧ ∀ H', Same H H' → Q (.bl true) H'
theorem scTuples : FnScope ["_law_found", "_law_row"] ["_law_found"] (defScope lTuples) := ⟨rfl, rfl, rfl, by decide +kernel, rfl, by decide +kernel, by decide +kernel⟩
theorem ndPart : (["_law_part"] : List Str).Nodup := by decide +kernel
seal PSs PS PE PT PA PG PI PGs PIfs in
theorem ok_tuples {f : Addr} {fd : FuncData} (D : Df K mg "_law_tuples" lTuples f fd) (T : Txt mg) : FnOk P w K mg base CX0 1 f fd ["_law_found"] spTuples := by
  refine D.F.ok scTuples (fun vs H Q E h => ?_) (fun cdv A outer s H vs Q E hr h => ?_)
  · obtain ⟨a, ws, rfl, _⟩ := h
    rfl
  · obtain ⟨a, ws, rfl, hW, hlen, kk⟩ := h
    have hl : (sizeLine : Nat) = 16777216 := sizeLine_eq
    refine ⟨_, pss_cons (ps_for PassesOwn.never rfl (pi_list (pv 0)) (pg_name (i := 1) scTuples.nd rfl (Or.inl rfl))
        (pss_cons (ps_if (PW.pt (pw_or (pt_not (pt_val (pe_callB call_isi rfl T.isi b_isi (pa_cons (pv 1) (pa_cons (pe_bltn (v := .ty "tuple") rfl T.tuple b_tuple rfl) pa_nil)))))
          (pw_or (pt_cmpR op_ne (pe_callB call_len_seq rfl T.len b_len (pa_cons (pv 1) pa_nil)) pe_int (nomark _))
          (pw_or1 (pt_not (pt_val (pe_callB call_isi rfl T.isi b_isi (pa_cons (pe_ix ix_tup (pv 1) pe_int (fun _ _ => rfl)) (pa_cons (pe_bltn (v := .ty "str") rfl T.str b_str rfl) pa_nil))))))))) (pss_one (ps_ret pe_bl)) pss_nil)
        (pss_one (ps_if (pt_cmpR (op_neD hr.units100) (pe_comp (own := 1) (caps := []) (N := ["_law_part"]) (N0 := ["_law_found", "_law_row"]) (sc0 := defScope lTuples) rfl (pi_tup (pe_slice sl_tup (pv 1) (po_some pe_int) po_none))
            (fun _ _ _ => pg_name (i := 0) ndPart rfl (Or.inl rfl))
            (fun _ _ _ => pf_one (PW.pt (pw_or (pt_val (pe_callB (call_isiK (K := K) rfl) rfl T.isi b_isi (pa_cons (pv 0) (pa_cons (pe_bltn (v := .ty "bool") rfl T.bool b_bool rfl) pa_nil))))
              (pw_or1 (pt_not (pt_val (pe_callB (call_isiK (K := K) rfl) rfl T.isi b_isi (pa_cons (pv 0) (pa_cons (pe_bltn (v := .ty "int") rfl T.int b_int rfl) pa_nil)))))))))
            (fun _ _ _ => pv 0) (gk_name (by decide)) rfl rfl
            (by decide +kernel) rfl (by decide +kernel) (by decide +kernel) rfl (by decide +kernel)) (pe_lst pa_nil) (nomark _)) (pss_one (ps_ret pe_bl)) pss_nil))))
      (pss_one (ps_ret (pe_callB call_isi rfl T.isi b_isi (pa_cons (pv 0) (pa_cons (pe_bltn (v := .ty "list") rfl T.list b_list rfl) pa_nil))))), ?_⟩
    obtain ⟨ps, eA, pA⟩ := hW.ex
    have plen := Paired.len pA
    refine ⟨_, rfl, a, rfl, ⟨_, SqL.of eA⟩, ?_⟩
    refine for_list (xs := ps.map V.ref) (fun i σ H' => ∃ v1, σ = [some (.ref a), v1] ∧ Same H H') ?_ ?_ ?_ ?_
    · exact ⟨none, rfl, Same.refl H⟩
    · rintro i σ H' _ ⟨v1, _, sm⟩
      exact SqL.of (sm _ _ eA)
    · intro i x σ H' hx hP
      refine genW fun B D' hB0 hnB => ?_
      obtain ⟨v1, rfl, sm⟩ := hP
      rw [List.getElem?_map] at hx
      cases hp : ps[i]? with
      | none => rw [hp] at hx; cases hx
      | some p =>
        rw [hp] at hx
        have hx' : x = .ref p := (Option.some.inj hx).symm
        subst hx'
        obtain ⟨y, hy, hH0⟩ := paired_get pA hp
        have hH : H' p = some (.tup [.str ⟨y.1.toArray⟩, .int y.2.1, .int y.2.2]) := sm _ _ hH0
        refine nextW (R := B) hB0 fun R hR => ?_
        refine ⟨_, rfl, .ref p, .ty "tuple", _, _, rfl, .tup hH, .inl ⟨_, rfl, kit_tt⟩, _, rfl, iteF ?_⟩
        refine ⟨_, rfl, p, _, rfl, .inr (SqT.of hH), rfl, _, rfl, iteF ?_⟩
        refine ⟨_, rfl, p, _, _, .str ⟨y.1.toArray⟩, rfl, rfl, SqT.of hH, rfl, .str ⟨y.1.toArray⟩, .ty "str", _, _, rfl, .str _, .inl ⟨_, rfl, kit_str (H := H) (.str ⟨y.1.toArray⟩)⟩, _, rfl, iteF ?_⟩
        refine lastW (R := R) hR ?_
        refine ⟨_, rfl, _, rfl, p, _, rfl, SqT.of hH, (fun z => absurd z.1 (show ¬ HT.sIx 3 0 (some 1) = 0 by decide)), fun t ht => ⟨t, rfl, ⟨_, SqT.of upd_same⟩, ?_⟩⟩
        have hT : (upd H' t (.tup (cutV [.str ⟨y.1.toArray⟩, .int y.2.1, .int y.2.2] (some 1) none))) t = some (.tup [.int y.2.1, .int y.2.2]) := upd_same
        have smT : Same H (upd H' t (.tup (cutV [.str ⟨y.1.toArray⟩, .int y.2.1, .int y.2.2] (some 1) none))) := Same.upd sm ht
        generalize (upd H' t (.tup (cutV [.str ⟨y.1.toArray⟩, .int y.2.1, .int y.2.2] (some 1) none))) = H2 at hT smT ⊢
        refine comp_itt (xs := [.int y.2.1, .int y.2.2]) (fun i ys H3 => H3 = H2 ∧ ys = []) (by show 2 < sizeLine; decide) (fun i ys H3 q => by rw [q.1]; exact SqT.of hT) ⟨rfl, rfl⟩ ?_ ?_
        · rintro i z ys H3 N hz ⟨rfl, rfl⟩ hN
          obtain ⟨l, rfl⟩ := int_of rfl hz
          refine ⟨_, rfl, .int l, .ty "bool", _, false, rfl, .int l, .inl ⟨_, rfl, kit_bool (H := H) (.int l)⟩, _, rfl, iteF ?_⟩
          exact ⟨_, rfl, .int l, .ty "int", _, true, rfl, .int l, .inl ⟨_, rfl, kit_int (H := H) (.int l)⟩, _, rfl, iteF (hN _ _ ⟨rfl, rfl⟩)⟩
        · rintro ys H3 ⟨rfl, rfl⟩ _ q hq
          refine ⟨Nat.zero_le _, fun r hr' => ?_⟩
          refine ⟨.list [], .list [], .lst (SqL.of (same_upd hr' _ _ upd_same)) .nil, .lst (SqL.of upd_same) .nil, rfl, rfl, by decide, _, rfl, iteF ?_⟩
          exact hnB _ _ ⟨_, rfl, Same.upd (Same.upd smT hq) hr'⟩
    · rintro σ H' ⟨v1, rfl, sm⟩
      exact ⟨_, rfl, .ref a, .ty "list", _, true, rfl, .lst (sm _ _ eA), .inl ⟨_, rfl, kit_ll⟩, kk H' sm⟩
end
end K01
set_option maxRecDepth 100000
set_option maxHeartbeats 4000000
namespace K01
open PySem L2 PyProof.Rows PySem.Spec
theorem eqv_same {d : PyData} (h : d.canLay0 = true) : PyData.eqv d d = true := SeqAt.eqv_refl d h
section
variable {P : Program} {w : World} {K : PySem.W.Frag} {mg : Str → Option Value} {base : Heap}
noncomputable def spThingR (K : PySem.W.Frag) : Sp := fun vs H Q _ => ∃ x, vs = [x] ∧ Good K H x ∧ ∀ H', Same H H' → Q (.bl true) H'
theorem scThingR : FnScope ["_law_thing_here", "_law_due_here", "_law_told", "_law_text_here"] ["_law_thing_here"] (defScope lThingRight) := ⟨rfl, rfl, rfl, by decide +kernel, rfl, by decide +kernel, by decide +kernel⟩
theorem ndOne : (["_law_one"] : List Str).Nodup := by decide +kernel
theorem ndWay1 : (["_law_way", "_law_thing_here"] : List Str).Nodup := by decide +kernel
theorem ndWay2 : (["_law_way", "_law_due_here"] : List Str).Nodup := by decide +kernel
noncomputable def dueN (x : V) (j : Nat) : Int := if dueV j x = true then -1 else (j : Nat)
theorem eltB0 {b : Bool} {σ : L2.St} {H : Hp} {Q : VK} {j : Int} (h0 : σ[0]? = some (some (.int j))) (q : Q (.int (if b = true then -1 else j)) H) : if b = true then tUn (rU fun i => .int (-i)) (tC (.int 1)) σ H Q else tVar 0 σ H Q := by
  cases b
  · exact iteF ⟨_, h0, q⟩
  · exact iteT ⟨_, rfl, q⟩
noncomputable def tRepB : TE := fun σ H Q => ∃ (a : Addr) (b : Bool) (r : List V), σ[1]? = some (some (.ref a)) ∧ H a = some (.lst (.bl b :: r)) ∧ ∀ q H', Same H H' → H' q = some (.lst [.int (if b = true then -1 else 0), .int (if b = true then -1 else 0)]) → Q (.ref q) H'
noncomputable def tEltB : TE := fun σ H Q => ∃ (a : Addr) (xs : List V) (j : Int) (b : Bool), σ[1]? = some (some (.ref a)) ∧ σ[0]? = some (some (.int j)) ∧ H a = some (.lst xs) ∧ atI xs j = some (.bl b) ∧ Q (.int (if b = true then -1 else j)) H
theorem eltB {K : PySem.W.Frag} : ∀ (σ : L2.St) (H : Hp) (Q : VK), tEltB σ H Q → tIf (tB (tOp (rIxL K) (tVar 1) (tVar 0))) (tUn (rU fun i => .int (-i)) (tC (.int 1))) (tVar 0) σ H Q := by
  rintro σ H Q ⟨a, xs, j, b, h1, h0, hA, hat, q⟩
  exact ⟨_, h1, _, h0, a, xs, j, .bl b, rfl, rfl, SqL.of hA, hat, b, rfl, eltB0 h0 q⟩
seal PSs PS PE PT PA PG PI PGs PIfs in
theorem ok_thingr {f fe ft fk fw fn : Addr} {fd fde fdt fdk fdw fdn : FuncData} (D : Df K mg "_law_thing_right" lThingRight f fd) (T : Txt mg)
    (DE : Df K mg "_law_due" lDue fe fde) (GE : FnOk P w K mg base CX0 2 fe fde ["_law_thing_here"] (spDue K))
    (DT : Df K mg "is_text" sText ft fdt) (GT : FnOk P w K mg base CX0 2 ft fdt ["thing"] (spText K))
    (DK : Df K mg "is_key" sKey fk fdk) (GK : FnOk P w K mg base CX0 2 fk fdk ["thing"] (spIs K 12))
    (DW : Df K mg "is_word" sWord fw fdw) (GW : FnOk P w K mg base CX0 2 fw fdw ["thing"] (spIs K 2000))
    (DN : Df K mg "_law_needed" lNeeded fn fdn) (GN : FnOk P w K mg base CX0 6 fn fdn ["_law_way", "_law_thing_here"] (spNeeded K)) :
    FnOk P w K mg base CX0 7 f fd ["_law_thing_here"] (spThingR K) := by
  have bE := binds1 (p := "_law_thing_here") DE.F fun _ _ _ _ _ _ _ => rfl
  have bT := binds1 (p := "thing") DT.F fun _ _ _ _ _ _ _ => rfl
  have bK := binds1 (p := "thing") DK.F fun _ _ _ _ _ _ _ => rfl
  have bW := binds1 (p := "thing") DW.F fun _ _ _ _ _ _ _ => rfl
  have bN := DN.F.binds (ps := ["_law_way", "_law_thing_here"]) fun _ _ _ _ _ _ us hl => us2 (fun _ _ => rfl) us hl
  refine D.F.ok scThingR (fun vs H Q E h => ?_) (fun cdv A outer s H vs Q E hr h => ?_)
  · obtain ⟨x, rfl, _⟩ := h
    rfl
  · obtain ⟨x, rfl, hg, kk⟩ := h
    have hl : (sizeLine : Nat) = 16777216 := sizeLine_eq
    refine ⟨_, pss_cons (ps_set (i := 1) scThingR.nd rfl (Or.inr rfl) (pe_call (GE.mono (by decide)) hr rfl DE.m DE.F.kp bE .nil pass0 (pa_cons (pv 0) pa_nil)))
      (pss_cons (ps_set (i := 2) scThingR.nd rfl (Or.inl rfl) (pe_lst (pa_cons (pe_call (GT.mono (by decide)) hr rfl DT.m DT.F.kp bT .nil pass0 (pa_cons (pv 0) pa_nil)) (pa_cons (pe_call (GK.mono (by decide)) hr rfl DK.m DK.F.kp bK .nil pass0 (pa_cons (pv 0) pa_nil))
          (pa_cons (pe_call (GW.mono (by decide)) hr rfl DW.m DW.F.kp bW .nil pass0 (pa_cons (pv 0) pa_nil)) pa_nil)))))
      (pss_cons (ps_if (PW.pt (pw_or (pt_cmpR (op_neD hr.units100) (pv 2) (pv 1) (nomark _)) (pw_or1 (pt_not (pt_val (pe_callB (call_all_bools rfl) rfl T.all b_all (pa_cons (pe_comp (own := 1) (caps := []) (N := ["_law_one"]) (N0 := ["_law_thing_here", "_law_due_here", "_law_told", "_law_text_here"]) (sc0 := defScope lThingRight) rfl (pi_list (pv 2))
            (fun _ _ _ => pg_name (i := 0) ndOne rfl (Or.inl rfl)) (fun _ _ _ => pf_none)
            (fun _ _ _ => pe_callB (call_isiK (K := K) rfl) rfl T.isi b_isi (pa_cons (pv 0) (pa_cons (pe_bltn (v := .ty "bool") rfl T.bool b_bool rfl) pa_nil))) (gk_name (by decide)) rfl rfl
            (by decide +kernel) rfl (by decide +kernel) (by decide +kernel) rfl (by decide +kernel)) pa_nil))))))) (pss_one (ps_ret pe_bl)) pss_nil)
      (pss_cons (ps_set (i := 3) scThingR.nd rfl (Or.inl rfl) (PE.imp (t' := tRepB) (pe_op op_rep (pe_lst (pa_cons (pe_ifExp (pt_val (pe_ix (ix_listK (K := K) rfl) (pv 1) pe_int (fun _ _ => rfl))) (pe_un un_neg pe_int) pe_int) pa_nil)) pe_int) ?r1))
      (pss_one (ps_ret (pe_cmpR (op_eqD hr.units100) (pe_comp (own := 1) (caps := [0]) (N := ["_law_way", "_law_thing_here"]) (N0 := ["_law_thing_here", "_law_due_here", "_law_told", "_law_text_here"]) (sc0 := defScope lThingRight) rfl (pi_range1 rfl T.range (pa_cons pe_int pa_nil))
            (fun _ _ _ => pg_name (i := 0) ndWay1 rfl (Or.inl rfl)) (fun _ _ _ => pf_none)
            (fun _ _ _ => pe_call GN hr rfl DN.m DN.F.kp bN .nil pass0 (pa_cons (pv 0) (pa_cons (pv 1) pa_nil))) (gk_name (by decide)) rfl rfl
            (by decide +kernel) rfl (by decide +kernel) (by decide +kernel) rfl (by decide +kernel))
          (pe_op op_cat (pe_comp (own := 1) (caps := [1]) (N := ["_law_way", "_law_due_here"]) (N0 := ["_law_thing_here", "_law_due_here", "_law_told", "_law_text_here"]) (sc0 := defScope lThingRight) rfl (pi_range1 rfl T.range (pa_cons pe_int pa_nil))
            (fun _ _ _ => pg_name (i := 0) ndWay2 rfl (Or.inl rfl)) (fun _ _ _ => pf_none)
            (fun _ _ _ => PE.imp (t' := tEltB) (pe_ifExp (pt_val (pe_ix (ix_listK (K := K) rfl) (pv 1) (pv 0) (fun _ _ => rfl))) (pe_un un_neg pe_int) (pv 0)) (eltB (K := K))) (gk_name (by decide)) rfl rfl
            (by decide +kernel) rfl (by decide +kernel) (by decide +kernel) rfl (by decide +kernel)) (pv 3)) (nomark _))))))), ?_⟩
    case r1 =>
      rintro σ H Q ⟨a, b, r, h1, hA, q⟩
      have fin : ∀ p (o : List V), H p = none → o = [.int (if b = true then -1 else 0)] → rRep (.ref p) (.int 2) (upd H p (.lst o)) Q := fun p o hp ho => by
        subst ho
        exact ⟨p, 2, _, rfl, rfl, upd_same, by decide, by decide, (by show 2 ≤ sizeLine; decide), fun q' hq' => q q' _ ((same_upd hp).trans (same_upd hq')) upd_same⟩
      refine ⟨_, h1, a, _, _, .bl b, rfl, rfl, SqL.of hA, atI_nat (j := 0) rfl, b, rfl, ?_⟩
      cases b with
      | false => exact iteF ⟨(by show 1 ≤ sizeLine; decide), fun p hp => fin p _ hp rfl⟩
      | true => exact iteT ⟨_, rfl, (by show 1 ≤ sizeLine; decide), fun p hp => fin p _ hp rfl⟩
    refine ⟨_, rfl, x, rfl, hg.k, hg.f, hg.u, fun a H1 s1 _ hA => ?_⟩
    refine ⟨_, rfl, x, rfl, hg.k.same s1, hg.f, fun H2 s2 => ⟨_, rfl, x, rfl, hg.k.same (s1.trans s2), hg.f, fun H3 s3 => ⟨_, rfl, x, rfl, hg.k.same ((s1.trans s2).trans s3), hg.f, fun H4 s4 => ⟨(by show 3 ≤ sizeLine; decide), fun p hp => ?_⟩⟩⟩⟩
    have s14 := (s2.trans s3).trans s4
    have hA5 : (upd H4 p (.lst ([txtV x, rowV 12 x, rowV 2000 x].map V.bl))) a = some (.lst ([txtV x, rowV 12 x, rowV 2000 x].map V.bl)) := same_upd hp _ _ (s14 _ _ hA)
    have hP5 : (upd H4 p (.lst ([txtV x, rowV 12 x, rowV 2000 x].map V.bl))) p = some (.lst ([txtV x, rowV 12 x, rowV 2000 x].map V.bl)) := upd_same
    have s5 : Same H (upd H4 p (.lst ([txtV x, rowV 12 x, rowV 2000 x].map V.bl))) := Same.upd (s1.trans s14) hp
    refine ⟨_, rfl, _, rfl, .list ([txtV x, rowV 12 x, rowV 2000 x].map .bool), .list ([txtV x, rowV 12 x, rowV 2000 x].map .bool), .lst (SqL.of hP5) (dt_bools _), .lst (SqL.of hA5) (dt_bools _), lay_bools _, lay_bools _, (by show min 1 1 ≤ 100; decide), _, rfl, ?_⟩
    rw [eqv_same (lay_bools _)]
    change (upd H4 p (.lst ([txtV x, rowV 12 x, rowV 2000 x].map V.bl))) a = _ at hA5
    refine iteF ⟨_, rfl, p, rfl, ⟨_, SqL.of hP5⟩, comp_itl (xs := [txtV x, rowV 12 x, rowV 2000 x].map V.bl) (fun i ys H' => H' = (upd H4 p (.lst ([txtV x, rowV 12 x, rowV 2000 x].map V.bl))) ∧ ys = (List.replicate i true).map V.bl) (by show 3 < sizeLine; decide) (fun i ys H' q => by rw [q.1]; exact SqL.of hP5) ⟨rfl, rfl⟩ ?_ ?_⟩
    · rintro i y ys H' N hy ⟨rfl, rfl⟩ hN
      obtain ⟨b, rfl⟩ : ∃ b, y = .bl b := by
        rw [List.getElem?_map] at hy
        cases hb : ([txtV x, rowV 12 x, rowV 2000 x])[i]? with
        | none => rw [hb] at hy; cases hy
        | some b => rw [hb] at hy; exact ⟨b, (Option.some.inj hy).symm⟩
      refine g1 ?_
      exact ⟨_, rfl, .bl b, .ty "bool", _, true, rfl, .bl b, .inl ⟨_, rfl, kit_bool (H := H) (.bl b)⟩, hN _ _ ⟨rfl, by rw [List.replicate_succ', List.map_append]; rfl⟩⟩
    · rintro ys H' ⟨rfl, rfl⟩ _ q hq
      refine ⟨q, List.replicate 3 true, rfl, SqL.of upd_same, _, rfl, iteF ?_⟩
      have hA6 := same_upd (o := .lst ((List.replicate 3 true).map V.bl)) hq _ _ hA5
      have s6 : Same H (upd (upd H4 p (.lst ([txtV x, rowV 12 x, rowV 2000 x].map V.bl))) q (.lst ((List.replicate 3 true).map V.bl))) := Same.upd s5 hq
      change (upd (upd H4 p (.lst ([txtV x, rowV 12 x, rowV 2000 x].map V.bl))) q (.lst ((List.replicate 3 true).map V.bl))) a = _ at hA6
      refine ⟨a, txtV x, _, rfl, hA6, fun q3 H7 s7 hq3 => ?_⟩
      have hA7 := s7 _ _ hA6
      have s07 := s6.trans s7
      refine ⟨5, rfl, by decide, by decide, comp_itr (fun i ys H' => Same H7 H' ∧ ys = (List.range i).map fun j => V.int (needV j x)) (by show 5 < sizeLine; decide) ⟨Same.refl _, rfl⟩ ?_ ?_⟩
      · rintro i ys H' N hi ⟨sm, rfl⟩ hN
        have hi5 : i < 5 := hi
        refine g1 ?_
        refine ⟨_, rfl, _, rfl, i, x, (by rw [Int.zero_add]; rfl), hi5, hg.same (s07.trans sm), fun H'' s'' => hN _ _ ⟨sm.trans s'', ?_⟩⟩
        rw [List.range_succ, List.map_append]
        rfl
      · rintro ys H' ⟨sm, rfl⟩ _ p5 h5
        have hA8 := same_upd (o := .lst ((List.range 5).map fun j => V.int (needV j x))) h5 _ _ (sm _ _ hA7)
        have hq8 := same_upd (o := .lst ((List.range 5).map fun j => V.int (needV j x))) h5 _ _ (sm _ _ hq3)
        refine ⟨3, rfl, by decide, by decide, comp_itr (fun i ys H'' => H'' = upd H' p5 (.lst ((List.range 5).map fun j => V.int (needV j x))) ∧ ys = (List.range i).map fun j => V.int (dueN x j)) (by show 3 < sizeLine; decide) ⟨rfl, rfl⟩ ?_ ?_⟩
        · rintro i ys H'' N hi ⟨rfl, rfl⟩ hN
          have hi3 : i < 3 := hi
          refine g1 ?_
          refine ⟨a, _, _, dueV i x, rfl, rfl, hA8, ?_, hN _ _ ⟨rfl, ?_⟩⟩
          · rw [Int.zero_add]
            refine atI_nat ?_
            rcases (show i = 0 ∨ i = 1 ∨ i = 2 by (clear hi3 hq8 hA8 h5 hA7 hq3 hA6 hq hA5 hP5 hp hA hl; omega)) with rfl | rfl | rfl <;> rfl
          · rw [List.range_succ, List.map_append, Int.zero_add]
            rfl
        · rintro ys H'' ⟨rfl, rfl⟩ _ p6 h6
          refine ⟨_, rfl, p6, q3, _, _, rfl, rfl, upd_same, same_upd h6 _ _ hq8, (by show 5 ≤ sizeLine; decide), fun p7 h7 => ?_⟩
          refine ⟨.list (((List.range 5).map fun j => needV j x).map .int), .list (((List.range 5).map fun j => needV j x).map .int), .lst (xs := ((List.range 5).map fun j => needV j x).map V.int) (SqL.of ?_) (dt_ints _), .lst (xs := ((List.range 5).map fun j => needV j x).map V.int) (SqL.of ?_) (dt_ints _), lay_ints _, lay_ints _, (by show min 1 1 ≤ 100; decide), ?_⟩
          · exact same_upd h7 _ _ (same_upd h6 _ _ upd_same)
          · exact upd_same
          · rw [eqv_same (lay_ints _)]
            exact kk _ (s07.trans (sm.trans ((same_upd h5).trans ((same_upd h6).trans (same_upd h7)))))
end
end K01
set_option maxRecDepth 100000
set_option maxHeartbeats 4000000
namespace K01
open PySem L2 PyProof.Rows PySem.Spec
noncomputable def wdD (y : Wd) : PyData := .tuple [.str ⟨y.1.toArray⟩, .int y.2.1, .int y.2.2]
noncomputable def wlD (ws : List Wd) : PyData := .list (ws.map wdD)
theorem dt_wl {K : PySem.W.Frag} {H : Hp} {a : Addr} {ws : List Wd} (h : WL H a ws) : DtV K H (.ref a) (wlD ws) := by
  obtain ⟨ps, e, p⟩ := h.ex
  refine .lst (SqL.of e) ?_
  clear e h
  induction p with
  | nil => exact .nil
  | cons r _ ih => exact .cons (.tup (SqT.of r) (.cons (.str _) (.cons (.int _) (.cons (.int _) .nil)))) ih
theorem lay_word {y : Wd} (h : y.1.all isS = true) : (PyData.str (⟨y.1.toArray⟩ : Str)).canLay0 = true := lay_str fun c hc => by
  have hc' : c ∈ y.1 := by simpa using hc
  exact Nat.lt_trans (isS_lt (List.all_eq_true.mp h c hc')) (by decide)
theorem lay_wd {y : Wd} (h : y.1.all isS = true) : (wdD y).canLay0 = true := by
  show ((PyData.str (⟨y.1.toArray⟩ : Str)).canLay0 && true) = true
  rw [lay_word h]
  rfl
theorem lay_wl : ∀ {ws : List Wd}, (∀ y ∈ ws, y.1.all isS = true) → (wlD ws).canLay0 = true
  | [], _ => rfl
  | y :: ws, h => by
    show ((wdD y).canLay0 && (wlD ws).canLay0) = true
    rw [lay_wd (h y List.mem_cons_self), lay_wl fun z hz => h z (List.mem_cons_of_mem _ hz)]
    rfl
theorem depth_wl : ∀ ws : List Wd, (wlD ws).depth ≤ 2
  | [] => by decide
  | y :: ws => by
    show max 1 (PyData.depthAll (ws.map wdD)) + 1 ≤ 2
    have ih : PyData.depthAll (ws.map wdD) + 1 ≤ 2 := depth_wl ws
    omega
noncomputable def plS (ws : List Wd) : List Str := ws.map fun y => (⟨y.1.toArray⟩ : Str)
theorem plainL_eq (ws : List Wd) : plainL ws = (plS ws).map V.str := by unfold plainL plS; rw [List.map_map]; rfl
theorem lay_pl {ws : List Wd} (h : ∀ y ∈ ws, y.1.all isS = true) : (PyData.list ((plS ws).map .str)).canLay0 = true := lay_strs _ fun n hn => by
  obtain ⟨y, hy, rfl⟩ := List.mem_map.mp hn
  exact lay_word (h y hy)
theorem depth_strs : ∀ ss : List Str, (PyData.list (ss.map .str)).depth ≤ 2
  | [] => by decide
  | s :: ss => by
    show max 0 (PyData.depthAll (ss.map .str)) + 1 ≤ 2
    have ih : PyData.depthAll (ss.map .str) + 1 ≤ 2 := depth_strs ss
    omega
theorem dt_pl {K : PySem.W.Frag} {H : Hp} {a : Addr} {ws : List Wd} (h : H a = some (.lst (plainL ws))) : DtV K H (.ref a) (.list ((plS ws).map .str)) := .lst (xs := (plS ws).map V.str) (SqL.of (by rw [h, plainL_eq])) (dt_strs _)
theorem cut_last (xs : List V) (y : V) : cutV (xs ++ [y]) none (some (-1)) = xs := by
  unfold cutV
  have e : HT.sIx (xs ++ [y]).length (xs ++ [y]).length (some (-1)) = xs.length := by
    show (if (-1 : Int) < 0 then ((-1 : Int) + ((xs ++ [y]).length : Int)).toNat else min (-1 : Int).toNat (xs ++ [y]).length) = _
    rw [if_pos (by decide), List.length_append, List.length_singleton]
    omega
  rw [e, HT.sIx_none, List.drop_zero, Nat.sub_zero]
  exact List.take_left' rfl
theorem cut3 (xs : List V) : cutV xs none (some 3) = xs.take 3 := by
  unfold cutV
  have e : HT.sIx xs.length xs.length (some 3) = min 3 xs.length := HT.sIx_nat xs.length xs.length 3
  rw [e, HT.sIx_none, List.drop_zero, Nat.sub_zero]
  by_cases h : 3 ≤ xs.length
  · rw [Nat.min_eq_left h]
  · rw [Nat.min_eq_right (by (clear e; omega)), List.take_of_length_le (Nat.le_refl _), List.take_of_length_le (by (clear e; omega))]
theorem Paired.take3 {α β : Type} {F : α → β → Prop} : ∀ (n : Nat) {l : List α} {m : List β}, Paired F l m → Paired F (l.take n) (m.take n)
  | 0, _, _, _ => .nil
  | _ + 1, _, _, .nil => .nil
  | n + 1, _, _, .cons r t => .cons r (Paired.take3 n t)
noncomputable def tRow0 (i : Nat) : TE := fun σ H Q => ∃ (a : Addr) (ws : List Wd), σ[i]? = some (some (.ref a)) ∧ WL H a ws ∧ ws.length ≤ 5000 ∧ ∀ p H', Same H H' → H' p = some (.lst (plainL ws)) → Q (.ref p) H'
theorem rowG {K : PySem.W.Frag} {σ0 : L2.St} {H : Hp} {Q : VK} {a : Addr} {ws : List Wd} (hσ : ∀ v, (σ0.set 0 (some v))[0]? = some (some v)) (hW : WL H a ws) (hl : ws.length ≤ 5000) (q : ∀ p H', Same H H' → H' p = some (.lst (plainL ws)) → Q (.ref p) H') :
    CompR (Itl K a) (gName 0) tNoIf (tOp (rIxT K) (tVar 0) (tC (.int 0))) σ0 Q H := by
  obtain ⟨ps, eA, pA⟩ := hW.ex
  have plen := Paired.len pA
  have hz : (sizeLine : Nat) = 16777216 := sizeLine_eq
  refine comp_itl (xs := ps.map V.ref) (fun i ys H' => H' = H ∧ ys = plainL (ws.take i)) (by rw [List.length_map]; (clear eA; omega)) (fun i ys H' p => by rw [p.1]; exact SqL.of eA) ⟨rfl, rfl⟩ ?_ ?_
  · rintro i x ys H' N hx ⟨rfl, rfl⟩ hN
    rw [List.getElem?_map] at hx
    cases hp : ps[i]? with
    | none => rw [hp] at hx; cases hx
    | some p =>
      rw [hp] at hx
      have hx' : x = .ref p := (Option.some.inj hx).symm
      subst hx'
      obtain ⟨y, hy, hH⟩ := paired_get pA hp
      refine g1 ?_
      refine ⟨_, hσ _, p, _, _, _, rfl, rfl, SqT.of hH, atI_nat (j := 0) rfl, hN _ _ ⟨rfl, ?_⟩⟩
      unfold plainL
      rw [List.take_add_one, hy, List.map_append]
      rfl
  · rintro ys H' ⟨rfl, rfl⟩ _ p hp
    refine q p _ (same_upd hp) ?_
    rw [upd_same, List.length_map, List.take_of_length_le (by (clear hp eA hz hl; omega))]
theorem rowB {K : PySem.W.Frag} {i : Nat} : ∀ (σ : L2.St) (H : Hp) (Q : VK), tRow0 i σ H Q → tComp 1 [] (iList K (tVar i)) (gName 0) tNoIf (tOp (rIxT K) (tVar 0) (tC (.int 0))) σ H Q := by
  rintro σ H Q ⟨a, ws, h1, hW, hl, q⟩
  obtain ⟨ps, eA, pA⟩ := hW.ex
  exact ⟨_, h1, a, rfl, ⟨_, SqL.of eA⟩, rowG (fun v => rfl) hW hl q⟩
noncomputable def tRow3 (i : Nat) : TE := fun σ H Q => ∃ (a : Addr) (ws : List Wd), σ[i]? = some (some (.ref a)) ∧ WL H a ws ∧ ∀ p H', Same H H' → H' p = some (.lst (plainL (ws.take 3))) → Q (.ref p) H'
theorem row3 {K : PySem.W.Frag} {i : Nat} : ∀ (σ : L2.St) (H : Hp) (Q : VK), tRow3 i σ H Q → tComp 1 [] (iList K (tSl (rSlL K) (tVar i) tNoPart (tPart (tC (.int 3))))) (gName 0) tNoIf (tOp (rIxT K) (tVar 0) (tC (.int 0))) σ H Q := by
  rintro σ H Q ⟨a, ws, h1, hW, q⟩
  obtain ⟨ps, eA, pA⟩ := hW.ex
  refine ⟨_, h1, _, rfl, a, _, rfl, SqL.of eA, fun p hp => ⟨p, rfl, ⟨_, SqL.of upd_same⟩, ?_⟩⟩
  refine rowG (ws := ws.take 3) (fun v => rfl) ⟨ps.take 3, ?_, Paired.imp2 (Paired.take3 3 pA) fun b y e => same_upd hp _ _ e⟩ (by rw [List.length_take]; (clear hp eA h1; omega)) fun r H' s h => q r H' ((same_upd hp).trans s) h
  rw [upd_same, cut3, List.map_take]
theorem passN {P : Program} {w : World} {X : Cx} : Passes (CX1 P w) X E0 := fun _ _ _ _ _ _ _ h => (CX1.no h).elim
end K01
set_option maxRecDepth 100000
set_option maxHeartbeats 4000000
namespace K01
open PySem L2 PyProof.Rows PySem.Spec
section
variable {P : Program} {w : World} {K : PySem.W.Frag} {mg : Str → Option Value} {base : Heap} {CT : Addr}
noncomputable def spLaw (K : PySem.W.Frag) : Sp := fun vs H Q _ => ∃ (a : Addr) (ns : List Int), vs = [.ref a] ∧ SqL K H a (ns.map V.int) ∧ ns.length ≤ 63 ∧ ∀ H', Same H H' → Q (.bl true) H'
theorem scLaw : FnScope ["_law_script", "_law_number_here", "_law_many", "_law_text_here", "_law_due_here", "_law_found", "_law_told", "_law_things"] ["_law_script"] (defScope lLaw) := ⟨rfl, rfl, rfl, by decide +kernel, rfl, by decide +kernel, by decide +kernel⟩
theorem ndRow : (["_law_row"] : List Str).Nodup := by decide +kernel
theorem ndTh : (["_law_thing_here"] : List Str).Nodup := by decide +kernel
noncomputable def tMany (K : PySem.W.Frag) : TE := fun σ H Q => ∃ (a : Addr) (ns : List Int), σ[0]? = some (some (.ref a)) ∧ SqL K H a (ns.map V.int) ∧ ns.length ≤ 63 ∧ ∀ (m : Nat) H', Same H H' → m ≤ 900 → Q (.int m) H'
theorem SqL.same {H H' : Hp} {a : Addr} {xs : List V} (h : SqL K H a xs) (s : Same H H') : SqL K H' a xs := s.seq h
seal PSs PS PE PT PA PG PI PGs PIfs in
theorem ok_law {f fnu fsg ftx fme fwo ftu fth ftr fnr fwi fpl : Addr} {fd fdnu fdsg fdtx fdme fdwo fdtu fdth fdtr fdnr fdwi fdpl : FuncData} (D : Df K mg "law" lLaw f fd) (T : Txt mg)
    (DNu : Df K mg "_law_number" lNumber fnu fdnu) (GNu : FnOk P w K mg base CX0 2 fnu fdnu ["_law_script", "_law_k"] (spNumber K))
    (DSg : Df K mg "_law_signs" lSigns fsg fdsg) (GSg : FnOk P w K mg base CX0 2 fsg fdsg ["_law_number_here", "_law_many"] spSigns)
    (DTx : Df K mg "_law_text" lText ftx fdtx) (GTx : FnOk P w K mg base CX0 2 ftx fdtx ["_law_number_here", "_law_menu_here", "_law_many"] spTextL)
    (DMe : Df K mg "_law_menu" lMenu fme fdme) (GMe : FnOk P w K mg base CX0 2 fme fdme ["_law_number_here"] spMenu)
    (DWo : Df K mg "_law_words" lWords fwo fdwo) (GWo : FnOk P w K mg base CX0 2 fwo fdwo ["_law_text_here"] spWords)
    (DTu : Df K mg "_law_tuples" lTuples ftu fdtu) (GTu : FnOk P w K mg base CX0 1 ftu fdtu ["_law_found"] spTuples)
    (DTh : Df K mg "_law_thing" lThing fth fdth) (GTh : FnOk P w K mg base CX0 1 fth fdth ["_law_number_here", "_law_text_here"] (spThing K))
    (DTr : Df K mg "_law_thing_right" lThingRight ftr fdtr) (GTr : FnOk P w K mg base CX0 7 ftr fdtr ["_law_thing_here"] (spThingR K))
    (DNr : Df K mg "_law_numbers_right" lNumsRight fnr fdnr) (GNr : FnOk P w K mg base CX0 4 fnr fdnr ["_law_number_here"] spNumsR)
    (DWi : Df K mg "words_in" sWordsIn fwi fdwi) (GWi : FnOk P w K mg base (CX1 P w) 4 fwi fdwi ["text"] (spWIn K CT))
    (DPl : Df K mg "plain_words" sPlain fpl fdpl) (GPl : FnOk P w K mg base (CX1 P w) 5 fpl fdpl ["text"] (spPlain K CT)) :
    FnOk P w K mg base CX0 8 f fd ["_law_script"] (spLaw K) := by
  have bNu := DNu.F.binds (ps := ["_law_script", "_law_k"]) fun _ _ _ _ _ _ us hl => us2 (fun _ _ => rfl) us hl
  have bSg := DSg.F.binds (ps := ["_law_number_here", "_law_many"]) fun _ _ _ _ _ _ us hl => us2 (fun _ _ => rfl) us hl
  have bTx := DTx.F.binds (ps := ["_law_number_here", "_law_menu_here", "_law_many"]) fun _ _ _ _ _ _ us hl => us3 (fun _ _ _ => rfl) us hl
  have bMe := binds1 (p := "_law_number_here") DMe.F fun _ _ _ _ _ _ _ => rfl
  have bWo := binds1 (p := "_law_text_here") DWo.F fun _ _ _ _ _ _ _ => rfl
  have bTu := binds1 (p := "_law_found") DTu.F fun _ _ _ _ _ _ _ => rfl
  have bTh := DTh.F.binds (ps := ["_law_number_here", "_law_text_here"]) fun _ _ _ _ _ _ us hl => us2 (fun _ _ => rfl) us hl
  have bTr := binds1 (p := "_law_thing_here") DTr.F fun _ _ _ _ _ _ _ => rfl
  have bNr := binds1 (p := "_law_number_here") DNr.F fun _ _ _ _ _ _ _ => rfl
  have bWi := binds1 (p := "text") DWi.F fun _ _ _ _ _ _ _ => rfl
  have bPl := binds1 (p := "text") DPl.F fun _ _ _ _ _ _ _ => rfl
  refine D.F.ok scLaw (fun vs H Q E h => ?_) (fun cdv A outer s H vs Q E hr h => ?_)
  · obtain ⟨a, ns, rfl, _⟩ := h
    rfl
  · obtain ⟨a, ns, rfl, hS, hlen, kk⟩ := h
    have hl : (sizeLine : Nat) = 16777216 := sizeLine_eq
    refine ⟨_, pss_cons (ps_set (i := 1) scLaw.nd rfl (Or.inl rfl) (pe_call (GNu.mono (by decide)) hr rfl DNu.m DNu.F.kp bNu .nil pass0 (pa_cons (pv 0) (pa_cons pe_int pa_nil))))
      (pss_cons (ps_set (i := 2) scLaw.nd rfl (Or.inl rfl) (PE.imp (t' := tMany K) (pe_ix (ix_listK (K := K) rfl) (pe_lst (pa_cons pe_int (pa_cons pe_int (pa_cons pe_int pa_nil)))) (pe_op op_mul (pe_callTy call_int1 rfl T.int b_int (pa_cons (pe_cmpR op_eq (pe_op op_mod (pe_call (GNu.mono (by decide)) hr rfl DNu.m DNu.F.kp bNu .nil pass0 (pa_cons (pv 0) (pa_cons pe_int pa_nil))) pe_int) pe_int (nomark _)) pa_nil)) pe_int) (fun _ _ => rfl)) ?m1))
      (pss_cons (ps_set (i := 3) scLaw.nd rfl (Or.inl rfl) (pe_call (GSg.mono (by decide)) hr rfl DSg.m DSg.F.kp bSg .nil pass0 (pa_cons (pv 1) (pa_cons (pe_op op_mod (pe_call (GNu.mono (by decide)) hr rfl DNu.m DNu.F.kp bNu .nil pass0 (pa_cons (pv 0) (pa_cons pe_int pa_nil))) (pe_op op_add (pv 2) pe_int)) pa_nil))))
      (pss_cons (ps_ifJ (pt_cmpR op_eq (pe_op op_mod (pe_call (GNu.mono (by decide)) hr rfl DNu.m DNu.F.kp bNu .nil pass0 (pa_cons (pv 0) (pa_cons pe_int pa_nil))) pe_int) pe_int (nomark _))
        (pss_one (ps_set (i := 3) scLaw.nd rfl (Or.inl rfl) (pe_call (GTx.mono (by decide)) hr rfl DTx.m DTx.F.kp bTx .nil pass0 (pa_cons (pv 1) (pa_cons (pe_call (GMe.mono (by decide)) hr rfl DMe.m DMe.F.kp bMe .nil pass0 (pa_cons (pe_call (GNu.mono (by decide)) hr rfl DNu.m DNu.F.kp bNu .nil pass0 (pa_cons (pv 0) (pa_cons pe_int pa_nil))) pa_nil))
          (pa_cons (pe_op op_mod (pe_call (GNu.mono (by decide)) hr rfl DNu.m DNu.F.kp bNu .nil pass0 (pa_cons (pv 0) (pa_cons pe_int pa_nil))) pe_int) pa_nil)))))) pss_nil)
      (pss_cons (ps_set (i := 4) scLaw.nd rfl (Or.inl rfl) (pe_call (GWo.mono (by decide)) hr rfl DWo.m DWo.F.kp bWo .nil pass0 (pa_cons (pv 3) pa_nil)))
      (pss_cons (ps_set (i := 5) scLaw.nd rfl (Or.inl rfl) (pe_call (GWi.mono (by decide)) hr rfl DWi.m DWi.F.kp bWi .nil passN (pa_cons (pv 3) pa_nil)))
      (pss_cons (ps_if (PW.pt (pw_or (pt_not (pt_val (pe_call (GTu.mono (by decide)) hr rfl DTu.m DTu.F.kp bTu .nil pass0 (pa_cons (pv 5) pa_nil)))) (pw_or1 (pt_cmpR (op_neD hr.units100) (pv 5) (pv 4) (nomark _))))) (pss_one (ps_ret pe_bl)) pss_nil)
      (pss_cons (ps_expr (pe_bm PySem.F.plainAttrs_list PySem.F.slot_list_append PySem.F.type_list_append mt_append (pv 5) (pa_cons (pe_tup (pa_cons pe_str (pa_cons pe_int (pa_cons pe_int pa_nil)))) pa_nil)))
      (pss_cons (ps_set (i := 6) scLaw.nd rfl (Or.inl rfl) (pe_call (GPl.mono (by decide)) hr rfl DPl.m DPl.F.kp bPl .nil passN (pa_cons (pv 3) pa_nil)))
      (pss_cons (ps_if (PW.pt (pw_or (pt_not (pt_val (pe_callB call_isi rfl T.isi b_isi (pa_cons (pv 6) (pa_cons (pe_bltn (v := .ty "list") rfl T.list b_list rfl) pa_nil)))))
          (pw_or1 (pt_cmpR (op_neD hr.units100) (pv 6) (PE.imp (t' := tRow0 4) (pe_comp (own := 1) (caps := []) (N := ["_law_row"]) (N0 := ["_law_script", "_law_number_here", "_law_many", "_law_text_here", "_law_due_here", "_law_found", "_law_told", "_law_things"]) (sc0 := defScope lLaw) rfl (pi_list (pv 4))
            (fun _ _ _ => pg_name (i := 0) ndRow rfl (Or.inl rfl)) (fun _ _ _ => pf_none) (fun _ _ _ => pe_ix (ix_tupK (K := K) rfl) (pv 0) pe_int (fun _ _ => rfl)) (gk_name (by decide)) rfl rfl
            (by decide +kernel) rfl (by decide +kernel) (by decide +kernel) rfl (by decide +kernel)) rowB) (nomark _))))) (pss_one (ps_ret pe_bl)) pss_nil)
      (pss_cons (ps_expr (pe_bm0 PySem.F.plainAttrs_list PySem.F.slot_list_clear PySem.F.type_list_clear mt_clear (pv 6)))
      (pss_cons (ps_if (PW.pt (pw_or (pt_cmpR (op_neD hr.units100) (pe_call (GWi.mono (by decide)) hr rfl DWi.m DWi.F.kp bWi .nil passN (pa_cons (pv 3) pa_nil)) (pv 4) (nomark _))
          (pw_or (pt_cmpR (op_neD hr.units100) (pe_call (GPl.mono (by decide)) hr rfl DPl.m DPl.F.kp bPl .nil passN (pa_cons (pv 3) pa_nil)) (PE.imp (t' := tRow0 4) (pe_comp (own := 1) (caps := []) (N := ["_law_row"]) (N0 := ["_law_script", "_law_number_here", "_law_many", "_law_text_here", "_law_due_here", "_law_found", "_law_told", "_law_things"]) (sc0 := defScope lLaw) rfl (pi_list (pv 4))
            (fun _ _ _ => pg_name (i := 0) ndRow rfl (Or.inl rfl)) (fun _ _ _ => pf_none) (fun _ _ _ => pe_ix (ix_tupK (K := K) rfl) (pv 0) pe_int (fun _ _ => rfl)) (gk_name (by decide)) rfl rfl
            (by decide +kernel) rfl (by decide +kernel) (by decide +kernel) rfl (by decide +kernel)) rowB) (nomark _))
          (pw_or1 (pt_cmpR (op_neD hr.units100) (pe_slice sl_list (pv 5) po_none (po_some (pe_un un_neg pe_int))) (pv 4) (nomark _)))))) (pss_one (ps_ret pe_bl)) pss_nil)
      (pss_cons (ps_set (i := 7) scLaw.nd rfl (Or.inl rfl) (pe_op op_cat (pe_lst (pa_cons (pv 3) (pa_cons (pe_call (GTh.mono (by decide)) hr rfl DTh.m DTh.F.kp bTh .nil pass0 (pa_cons (pe_call (GNu.mono (by decide)) hr rfl DNu.m DNu.F.kp bNu .nil pass0 (pa_cons (pv 0) (pa_cons pe_int pa_nil))) (pa_cons (pv 3) pa_nil))) pa_nil)))
          (PE.imp (t' := tRow3 4) (pe_comp (own := 1) (caps := []) (N := ["_law_row"]) (N0 := ["_law_script", "_law_number_here", "_law_many", "_law_text_here", "_law_due_here", "_law_found", "_law_told", "_law_things"]) (sc0 := defScope lLaw) rfl (pi_list (pe_slice sl_list (pv 4) po_none (po_some pe_int)))
            (fun _ _ _ => pg_name (i := 0) ndRow rfl (Or.inl rfl)) (fun _ _ _ => pf_none) (fun _ _ _ => pe_ix (ix_tupK (K := K) rfl) (pv 0) pe_int (fun _ _ => rfl)) (gk_name (by decide)) rfl rfl
            (by decide +kernel) rfl (by decide +kernel) (by decide +kernel) rfl (by decide +kernel)) row3)))
      (pss_cons (ps_if (pt_not (pt_val (pe_callB (call_all_bools rfl) rfl T.all b_all (pa_cons (pe_comp (own := 1) (caps := []) (N := ["_law_thing_here"]) (N0 := ["_law_script", "_law_number_here", "_law_many", "_law_text_here", "_law_due_here", "_law_found", "_law_told", "_law_things"]) (sc0 := defScope lLaw) rfl (pi_list (pv 7))
            (fun _ _ _ => pg_name (i := 0) ndTh rfl (Or.inl rfl)) (fun _ _ _ => pf_none) (fun _ _ _ => pe_call GTr hr rfl DTr.m DTr.F.kp bTr .nil pass0 (pa_cons (pv 0) pa_nil)) (gk_name (by decide)) rfl rfl
            (by decide +kernel) rfl (by decide +kernel) (by decide +kernel) rfl (by decide +kernel)) pa_nil)))) (pss_one (ps_ret pe_bl)) pss_nil)
      (pss_one (ps_ret (pe_call (GNr.mono (by decide)) hr rfl DNr.m DNr.F.kp bNr .nil pass0 (pa_cons (pe_call (GNu.mono (by decide)) hr rfl DNu.m DNu.F.kp bNu .nil pass0 (pa_cons (pv 0) (pa_cons pe_int pa_nil))) pa_nil))))))))))))))))), ?_⟩
    case m1 =>
      rintro σ H Q ⟨a, ns, h0, hS, hlen, q⟩
      refine ⟨(by show 3 ≤ sizeLine; decide), fun p hp => ?_⟩
      refine ⟨_, h0, a, ns, 1, rfl, (same_upd hp).seq hS, hlen, by decide, fun r H1 r0 r1 s1 => ?_⟩
      refine ⟨_, _, rfl, rfl, (by show (0 : Int) < 9; decide), rfl, .inr ⟨_, rfl, ?_⟩⟩
      have hp1 := s1 _ _ (upd_same (H := H) (a := p) (o := .lst [.int 60, .int 60, .int 900]))
      cases decide (V.int (r % 9) = V.int 1) with
      | false => exact ⟨_, _, rfl, rfl, .inl ⟨by decide, by decide⟩, p, _, _, .int 60, rfl, rfl, SqL.of hp1, rfl, q 60 H1 ((same_upd hp).trans s1) (by decide)⟩
      | true => exact ⟨_, _, rfl, rfl, .inl ⟨by decide, by decide⟩, p, _, _, .int 900, rfl, rfl, SqL.of hp1, rfl, q 900 H1 ((same_upd hp).trans s1) (by decide)⟩
    refine cutW fun R hR => ?_
    refine ⟨_, rfl, a, ns, 0, rfl, hS, hlen, by decide, fun n H1 n0 n1 s1 => ?_⟩
    refine nextW (R := R) hR fun R hR => ?_
    refine ⟨a, ns, rfl, s1.seq hS, hlen, fun m H2 s2 hm => ?_⟩
    have s02 := s1.trans s2
    refine nextW (R := R) hR fun R hR => ?_
    refine ⟨_, rfl, _, rfl, a, ns, 2, rfl, s02.seq hS, hlen, by decide, fun r H3 r0 r1 s3 => ?_⟩
    have s03 := s02.trans s3
    refine ⟨_, rfl, _, _, rfl, rfl, _, _, rfl, rfl, (by show (0 : Int) < (m : Int) + 1; (clear r1 r0 hm n1 n0 hl hlen; omega)), ?_⟩
    obtain ⟨j, hj, hjl⟩ := mod_ix (r := r) (n := (m : Int) + 1) (by (clear r1 r0 hm n1 n0 hl hlen; omega))
    refine ⟨n, j, (by show [V.int n, V.int (r % ((m : Int) + 1))] = _; rw [← hj]), by (clear hj r1 r0 n1 n0 hl hlen; omega), fun x0 H4 s4 hx0 hok0 => ?_⟩
    have s04 := s03.trans s4
    refine nextW (R := R) hR fun R hR => ?_
    refine ⟨fun σ' H' => Same H H' ∧ ∃ x : Str, Drawn x ∧ σ' = [some (.ref a), some (.int n), some (.int m), some (.str x), none, none, none, none], ?_, ?_⟩
    · refine ⟨_, rfl, a, ns, 3, rfl, s04.seq hS, hlen, by decide, fun r3 H5 _ _ s5 => ?_⟩
      refine ⟨_, _, rfl, rfl, (by show (0 : Int) < 2; decide), rfl, _, rfl, ?_⟩
      refine ite2 (fun _ => ?_) (fun _ => ?_)
      · refine ⟨_, rfl, _, rfl, a, ns, 4, rfl, (s04.trans s5).seq hS, hlen, by decide, fun r4 H6 _ _ s6 => ?_⟩
        refine ⟨r4, rfl, fun am H7 ws s7 hAm h5 hws => ?_⟩
        have s07 := ((s04.trans s5).trans s6).trans s7
        refine ⟨_, rfl, a, ns, 5, rfl, s07.seq hS, hlen, by decide, fun r5 H8 _ _ s8 => ?_⟩
        refine ⟨_, _, rfl, rfl, (by show (0 : Int) < 13; decide), ?_⟩
        obtain ⟨j5, hj5, hjl5⟩ := mod_ix (r := r5) (n := 13) (by decide)
        refine ⟨n, am, ws, j5, (by show [V.int n, V.ref am, V.int (r5 % 13)] = _; rw [← hj5]), by (clear hjl5 h5 hAm hok0 hx0 hjl hj r1 r0 hm n1 n0 hl hlen; omega), s8 _ _ hAm, h5, hws, fun x1 H9 s9 hx1 hok1 => ?_⟩
        exact ⟨(s07.trans s8).trans s9, x1, ⟨by (clear hok1 hjl5 hj5 h5 hAm hok0 hx0 hjl hj r1 r0 hm n1 n0 hl hlen; omega), hok1⟩, rfl⟩
      · exact ⟨s04.trans s5, x0, ⟨by (clear hok0 hj r1 r0 n1 n0 hl hlen; omega), hok0⟩, rfl⟩
    · rintro σ' H5 ⟨s05, x, hx, rfl⟩
      have hwl := words_len (codes x)
      have clen : (codes x).length = x.length := by unfold codes; simp [Str.length]
      have hx1 := hx.1
      have hwk : ∀ y ∈ words (codes x), y.1.all isS = true := fun y hy => (words_ok (codes x) y hy).2.1
      have hfit : Fit (.str x) := fun z e => by injection e with e; subst e; (clear clen hwl hok0 hx0 hjl hj r1 r0 hm n1 n0 hl hlen; omega)
      have hgx : ∀ H', Good K H' (.str x) := fun H' => good_ok (by (clear clen hwl hok0 hx0 hjl hj r1 r0 hm n1 n0 hl hlen; omega)) hx.2
      have hlw : (words (codes x)).length ≤ 5000 := by (clear hok0 hx0 hjl hj r1 r0 hm n1 n0 hl hlen; omega)
      have nob : txtV (.str x) = false → ∀ H', Same H' H' → False := fun hf _ _ => by rw [drawn_txt hx] at hf; cases hf
      have hdw : min (wlD (words (codes x))).depth (wlD (words (codes x))).depth ≤ 100 := Nat.le_trans (Nat.min_le_left _ _) (Nat.le_trans (depth_wl _) (by decide))
      have hdp : min (PyData.list ((plS (words (codes x))).map .str)).depth (PyData.list ((plS (words (codes x))).map .str)).depth ≤ 100 := Nat.le_trans (Nat.min_le_left _ _) (Nat.le_trans (depth_strs _) (by decide))
      refine nextW (R := R) hR fun R hR => ?_
      refine ⟨_, rfl, x, rfl, hx, fun ad H6 s6 _ hWd => ?_⟩
      refine nextW (R := R) hR fun R hR => ?_
      refine ⟨_, rfl, .str x, rfl, (hgx _).k, hfit, ?_, fun hf H' _ => nob hf H' (Same.refl _)⟩
      rintro z e _ af H7 s7 haf hWf
      injection e with e
      subst e
      refine nextW (R := R) hR fun R hR => ?_
      refine ⟨_, rfl, af, _, rfl, hWf, hlw, fun H8 s8 => ⟨_, rfl, iteF ?_⟩⟩
      refine ⟨_, rfl, _, rfl, wlD _, wlD _, dt_wl (hWf.same s8), dt_wl (hWd.same (s7.trans s8)), lay_wl hwk, lay_wl hwk, hdw, _, rfl, ?_⟩
      rw [eqv_same (lay_wl hwk)]
      refine iteF ?_
      refine nextW (R := R) hR fun R hR => ?_
      obtain ⟨psf, eF, pF⟩ := (hWf.same s8).ex
      have plen := Paired.len pF
      refine ⟨_, rfl, .inl ⟨rfl, _, SqL.of eF⟩, (by show 3 ≤ sizeLine; decide), fun t ht => ?_⟩
      have hta : af ≠ t := ne_of_none eF ht
      refine ⟨af, _, _, rfl, rfl, by rw [upd_ne hta]; exact eF, by rw [List.length_map]; (clear hta ht eF haf hdp hdw hlw hok0 hx0 hjl hj r1 r0 hm n1 n0 hlen; omega), ?_⟩
      have s69 : Same H6 (upd (upd H8 t (.tup [.str (Str.ofString "more"), .int 0, .int 0])) af (.lst (psf.map V.ref ++ [.ref t]))) := same_app (s7.trans s8) haf ht
      have hF9 : (upd (upd H8 t (.tup [.str (Str.ofString "more"), .int 0, .int 0])) af (.lst (psf.map V.ref ++ [.ref t]))) af = some (.lst (psf.map V.ref ++ [.ref t])) := upd_same
      have pF9 : Paired (fun p y => (upd (upd H8 t (.tup [.str (Str.ofString "more"), .int 0, .int 0])) af (.lst (psf.map V.ref ++ [.ref t]))) p = some (wdT y)) psf (words (codes x)) := Paired.imp2 pF fun p y q => by
        have h1 : p ≠ af := fun e => by rw [e, eF] at q; cases q
        rw [upd_ne h1, upd_ne (ne_of_none q ht)]
        exact q
      generalize (upd (upd H8 t (.tup [.str (Str.ofString "more"), .int 0, .int 0])) af (.lst (psf.map V.ref ++ [.ref t]))) = H9 at s69 hF9 pF9 ⊢
      refine nextW (R := R) hR fun R hR => ?_
      refine ⟨_, rfl, .str x, rfl, (hgx _).k, hfit, ?_, fun hf H' _ => nob hf H' (Same.refl _)⟩
      rintro z' e' _ ap H10 s10 hap hP
      injection e' with e'
      subst e'
      refine nextW (R := R) hR fun R hR => ?_
      refine ⟨_, rfl, .ref ap, .ty "list", _, true, rfl, .lst hP, .inl ⟨_, rfl, kit_ll⟩, _, rfl, iteF ⟨_, rfl, ad, _, rfl, hWd.same (s69.trans s10), hlw, fun p11 H11 s11 hp11 => ?_⟩⟩
      refine ⟨_, _, dt_pl (s11 _ _ hP), dt_pl hp11, lay_pl hwk, lay_pl hwk, hdp, _, rfl, ?_⟩
      rw [eqv_same (lay_pl hwk)]
      refine iteF ?_
      refine nextW (R := R) hR fun R hR => ?_
      refine ⟨_, rfl, .inl ⟨rfl, _, SqL.of (s11 _ _ hP)⟩, ap, _, rfl, rfl, s11 _ _ hP, ?_⟩
      have s912 : Same H9 (upd H11 ap (.lst [])) := fun b u e => by rw [upd_ne (ne_of_none e hap)]; exact (s10.trans s11) b u e
      generalize (upd H11 ap (.lst [])) = H12 at s912 ⊢
      refine nextW (R := R) hR fun R hR => ?_
      refine ⟨_, rfl, .str x, rfl, (hgx _).k, hfit, ?_, fun hf H' _ => nob hf H' (Same.refl _)⟩
      rintro z' e' _ aw H13 s13 _ hWw
      injection e' with e'
      subst e'
      have s613 := (s69.trans s912).trans s13
      refine ⟨_, rfl, wlD _, wlD _, dt_wl hWw, dt_wl (hWd.same s613), lay_wl hwk, lay_wl hwk, hdw, _, rfl, ?_⟩
      rw [eqv_same (lay_wl hwk)]
      refine iteF ?_
      refine ⟨_, rfl, .str x, rfl, (hgx _).k, hfit, ?_, fun hf H' _ => nob hf H' (Same.refl _)⟩
      rintro z' e' _ ap2 H14 s14 _ hP2
      injection e' with e'
      subst e'
      refine ⟨ad, _, rfl, hWd.same (s613.trans s14), hlw, fun p15 H15 s15 hp15 => ?_⟩
      refine ⟨_, _, dt_pl (s15 _ _ hP2), dt_pl hp15, lay_pl hwk, lay_pl hwk, hdp, _, rfl, ?_⟩
      rw [eqv_same (lay_pl hwk)]
      refine iteF ?_
      have s915 := ((s912.trans s13).trans s14).trans s15
      refine ⟨_, rfl, _, rfl, _, rfl, af, _, rfl, SqL.of (s915 _ _ hF9), fun p16 h16 => ?_⟩
      have s916 := s915.trans (same_upd (o := .lst (cutV (psf.map V.ref ++ [.ref t]) none (some (-1)))) h16)
      have hW16 : WL (upd H15 p16 (.lst (cutV (psf.map V.ref ++ [.ref t]) none (some (-1))))) p16 (words (codes x)) := ⟨psf, by rw [upd_same, cut_last], Paired.imp2 pF9 fun p y q => s916 _ _ q⟩
      refine ⟨_, rfl, wlD _, wlD _, dt_wl hW16, dt_wl (hWd.same (s69.trans s916)), lay_wl hwk, lay_wl hwk, hdw, _, rfl, ?_⟩
      rw [eqv_same (lay_wl hwk)]
      refine iteF ?_
      have s016 := (s05.trans (s6.trans s69)).trans s916
      have hW16' := hWd.same (s69.trans s916)
      clear hW16
      generalize (upd H15 p16 (.lst (cutV (psf.map V.ref ++ [.ref t]) none (some (-1))))) = H16 at s016 hW16' ⊢
      refine nextW (R := R) hR fun R hR => ?_
      refine ⟨_, rfl, _, rfl, a, ns, 6, rfl, s016.seq hS, hlen, by decide, fun r6 H17 _ _ s17 => ?_⟩
      refine ⟨_, rfl, r6, x, rfl, hx, fun y H18 s18 gy => ⟨(by show 2 ≤ sizeLine; decide), fun p19 h19 => ?_⟩⟩
      have s1619 := (s17.trans s18).trans (same_upd (o := .lst [.str x, y]) h19)
      refine ⟨ad, _, rfl, hW16'.same s1619, fun p20 H20 s20 hp20 => ?_⟩
      have hl3 : (plainL ((words (codes x)).take 3)).length ≤ 3 := by unfold plainL; rw [List.length_map, List.length_take]; (clear hp20 h19 h16 hp15 hP2 hp11 hP hap hF9 hta ht plen eF haf hdp hdw hlw hx1 clen hwl hok0 hx0 hjl hj r1 r0 hm n1 n0 hl hlen; omega)
      refine ⟨p19, p20, [.str x, y], _, rfl, rfl, s20 _ _ upd_same, hp20, (by show 2 + _ ≤ _; (clear hp20 h19 h16 hp15 hP2 hp11 hP hap hF9 hta ht plen eF haf hdp hdw hlw hx1 clen hwl hok0 hx0 hjl hj r1 r0 hm n1 n0 hlen; omega)), fun p21 h21 => ?_⟩
      have s021 := (s016.trans s1619).trans (s20.trans (same_upd (o := .lst ([.str x, y] ++ plainL ((words (codes x)).take 3))) h21))
      have gL : ∀ v ∈ [V.str x, y] ++ plainL ((words (codes x)).take 3), Good K (upd H20 p21 (.lst ([.str x, y] ++ plainL ((words (codes x)).take 3)))) v := by
        refine List.forall_mem_append.mpr ⟨List.forall_mem_cons.mpr ⟨hgx _, List.forall_mem_cons.mpr ⟨gy.same ((same_upd h19).trans (s20.trans (same_upd h21))), fun v hv => nomatch hv⟩⟩, fun v hv => ?_⟩
        obtain ⟨yw, hyw, rfl⟩ := List.mem_map.mp hv
        have hyw' := List.mem_of_mem_take hyw
        obtain ⟨_, q1, q2, q3⟩ := words_ok (codes x) yw hyw'
        refine good_ok (by rw [str_len']; (clear q1 h21 hl3 hp20 h19 h16 hp15 hP2 hp11 hP hap hF9 hta ht plen eF haf hdp hdw hlw hwl hok0 hx0 hjl hj r1 r0 hm n1 n0 hl hlen; omega)) ?_
        refine List.all_eq_true.mpr fun c hc => isS_ok (List.all_eq_true.mp q1 c ?_)
        simpa using hc
      have hlL : ([V.str x, y] ++ plainL ((words (codes x)).take 3)).length ≤ 5 := by rw [List.length_append]; show 2 + _ ≤ _; (clear h21 hp20 h19 h16 hp15 hP2 hp11 hP hap hF9 hta ht plen eF haf hdp hdw hlw hx1 clen hwl hok0 hx0 hjl hj r1 r0 hm n1 n0 hl hlen; omega)
      have hp21 : (upd H20 p21 (.lst ([.str x, y] ++ plainL ((words (codes x)).take 3)))) p21 = some (.lst ([.str x, y] ++ plainL ((words (codes x)).take 3))) := upd_same
      generalize hLL : [V.str x, y] ++ plainL ((words (codes x)).take 3) = L at s021 gL hlL hp21 ⊢
      generalize (upd H20 p21 (.lst L)) = H21 at s021 gL hp21 ⊢
      refine nextW (R := R) hR fun R hR => ?_
      refine ⟨_, rfl, p21, rfl, ⟨_, SqL.of hp21⟩, comp_itl (xs := L) (fun i ys H' => Same H21 H' ∧ ys = (List.replicate i true).map V.bl) (by (clear hp21 hLL h21 hl3 hp20 h19 h16 hp15 hP2 hp11 hP hap hF9 hta ht plen eF haf hdp hdw hlw hx1 clen hwl hok0 hx0 hjl hj r1 r0 hm n1 n0 hlen; omega)) (fun i ys H' q => SqL.of (q.1 _ _ hp21)) ⟨Same.refl _, rfl⟩ ?_ ?_⟩
      · rintro i v ys H' N hv ⟨sm, rfl⟩ hN
        refine g1 ?_
        exact ⟨_, rfl, v, rfl, (gL v (List.mem_of_getElem? hv)).same sm, fun H'' s'' => hN _ _ ⟨sm.trans s'', by rw [List.replicate_succ', List.map_append]; rfl⟩⟩
      · rintro ys H' ⟨sm, rfl⟩ _ q hq
        refine ⟨q, List.replicate L.length true, rfl, SqL.of upd_same, _, rfl, ?_⟩
        have ea : (List.replicate L.length true).all id = true := List.all_eq_true.mpr fun b hb => List.eq_of_mem_replicate hb
        rw [ea]
        refine iteF ?_
        have s022 := s021.trans (Same.upd (o := .lst ((List.replicate L.length true).map V.bl)) sm hq)
        subst hR
        refine ⟨_, rfl, a, ns, 7, rfl, s022.seq hS, hlen, by decide, fun r7 H23 _ _ s23 => ?_⟩
        exact ⟨r7, rfl, fun H24 s24 => kk H24 ((s022.trans s23).trans s24)⟩
end
end K01
set_option maxRecDepth 100000
set_option maxHeartbeats 4000000
namespace K01
open PySem L2 PyProof.Rows PySem.Spec
section
variable {P : Program} {w : World} {K : PySem.W.Frag} {mg : Str → Option Value} {base h : Heap} {CH CT CK CW CN : Addr} {o1 o2 o3 o4 o5 o6 o7 o8 o9 : Addr}
theorem df_mk {x : Str} {st : Stmt} {f : Addr} {oc kV doc pm cd ct : Value} {od an : Option Addr} {sl : Array (Option Value)} (X : K.In h) (G : h.Ns mainGlobals mg) (a : PySem.W.nsIn K mainGlobals x = some (some (.ref f)))
    (l : K.lookup f = some ⟨oc, od, .func (PySem.W.fnOf x x (defArgs st) (defBody st) (defScope st) .none kV doc pm an cd ct), sl⟩) (c : PySem.W.codeIn K cd x = true) (k : PySem.W.keepIn K (.ref f) = true) : ∃ f fd, Df K mg x st f fd :=
  ⟨f, _, fun_mk l c k, PySem.W.mg_of X G a⟩
theorem dfd_mk {x : Str} {st : Stmt} {f T : Addr} {oc kV doc pm cd ct tc : Value} {od an td : Option Addr} {sl tsl : Array (Option Value)} {items : Array Value} {tn : Nat} (X : K.In h) (G : h.Ns mainGlobals mg) (a : PySem.W.nsIn K mainGlobals x = some (some (.ref f)))
    (l : K.lookup f = some ⟨oc, od, .func (PySem.W.fnOf x x (defArgs st) (defBody st) (defScope st) (.ref T) kV doc pm an cd ct), sl⟩) (c : PySem.W.codeIn K cd x = true) (k : PySem.W.keepIn K (.ref f) = true)
    (t : K.lookup T = some ⟨tc, td, .seq items tn, tsl⟩) : ∃ f fd, DfD K mg x st f fd items :=
  ⟨f, _, ⟨oc, od, kV, doc, pm, an, cd, ct, sl, T, _, tn, rfl, l, c, t, rfl⟩, k, PySem.W.mg_of X G a⟩
theorem txt_mk (X : K.In h) (G : h.Ns mainGlobals mg) {t1 t2 t3 t4 t5 : Tok}
    (n1 : PySem.W.nsIn K mainGlobals "isinstance" = some none) (n2 : PySem.W.nsIn K mainGlobals "int" = some none) (n3 : PySem.W.nsIn K mainGlobals "bool" = some none) (n4 : PySem.W.nsIn K mainGlobals "str" = some none)
    (n5 : PySem.W.nsIn K mainGlobals "list" = some none) (n6 : PySem.W.nsIn K mainGlobals "tuple" = some none) (n7 : PySem.W.nsIn K mainGlobals "len" = some none) (n8 : PySem.W.nsIn K mainGlobals "all" = some none)
    (n9 : PySem.W.nsIn K mainGlobals "ord" = some none) (n10 : PySem.W.nsIn K mainGlobals "range" = some none) (n11 : PySem.W.nsIn K mainGlobals "enumerate" = some none) (n12 : PySem.W.nsIn K mainGlobals "ValueError" = some none)
    (c1 : PySem.W.nsIn K mainGlobals "MOST_TEXT_SIGNS" = some (some (.int 2000 t1))) (c2 : PySem.W.nsIn K mainGlobals "MOST_KEY_SIGNS" = some (some (.int 12 t2))) (c3 : PySem.W.nsIn K mainGlobals "MOST_WORD_SIGNS" = some (some (.int 2000 t3)))
    (c4 : PySem.W.nsIn K mainGlobals "SMALL_SIGNS" = some (some (.str "abcdefghijklmnopqrstuvwxyz0123456789" t4))) (c5 : PySem.W.nsIn K mainGlobals "PERCENT_NUMBER" = some (some (.int 37 t5))) : Txt mg where
  isi := PySem.W.mg_none_of X G n1
  int := PySem.W.mg_none_of X G n2
  bool := PySem.W.mg_none_of X G n3
  str := PySem.W.mg_none_of X G n4
  list := PySem.W.mg_none_of X G n5
  tuple := PySem.W.mg_none_of X G n6
  len := PySem.W.mg_none_of X G n7
  all := PySem.W.mg_none_of X G n8
  ord := PySem.W.mg_none_of X G n9
  range := PySem.W.mg_none_of X G n10
  enum := PySem.W.mg_none_of X G n11
  val := PySem.W.mg_none_of X G n12
  cText := ⟨t1, PySem.W.mg_of X G c1⟩
  cKey := ⟨t2, PySem.W.mg_of X G c2⟩
  cWord := ⟨t3, PySem.W.mg_of X G c3⟩
  cSmall := ⟨t4, PySem.W.mg_of X G c4⟩
  cPer := ⟨t5, PySem.W.mg_of X G c5⟩
structure Clss (K : PySem.W.Frag) (CH CT CK CW CN : Addr) (o1 o2 o3 o4 o5 o6 o7 o8 o9 : Addr) : Prop where
  h : PySem.W.nsIn K mainGlobals "HallError" = some (some (.ref CH))
  t : PySem.W.nsIn K mainGlobals "BadText" = some (some (.ref CT))
  k : PySem.W.nsIn K mainGlobals "BadKey" = some (some (.ref CK))
  w : PySem.W.nsIn K mainGlobals "BadWord" = some (some (.ref CW))
  n : PySem.W.nsIn K mainGlobals "BadNumber" = some (some (.ref CN))
  m1 : PySem.W.nsIn K mainGlobals "BadAsk" = some (some (.ref o1))
  m2 : PySem.W.nsIn K mainGlobals "BadKept" = some (some (.ref o2))
  m3 : PySem.W.nsIn K mainGlobals "BadParts" = some (some (.ref o3))
  m4 : PySem.W.nsIn K mainGlobals "BadRow" = some (some (.ref o4))
  m5 : PySem.W.nsIn K mainGlobals "BadSpan" = some (some (.ref o5))
  m6 : PySem.W.nsIn K mainGlobals "NoAsk" = some (some (.ref o6))
  m7 : PySem.W.nsIn K mainGlobals "NoLine" = some (some (.ref o7))
  m8 : PySem.W.nsIn K mainGlobals "NoText" = some (some (.ref o8))
  m9 : PySem.W.nsIn K mainGlobals "Twice" = some (some (.ref o9))
theorem Clss.cl (C : Clss K CH CT CK CW CN o1 o2 o3 o4 o5 o6 o7 o8 o9) (X : K.In h) (G : h.Ns mainGlobals mg) : Cl mg CH CT CK CW CN o1 o2 o3 o4 o5 o6 o7 o8 o9 where
  h := PySem.W.mg_of X G C.h
  t := PySem.W.mg_of X G C.t
  k := PySem.W.mg_of X G C.k
  w := PySem.W.mg_of X G C.w
  n := PySem.W.mg_of X G C.n
  m1 := PySem.W.mg_of X G C.m1
  m2 := PySem.W.mg_of X G C.m2
  m3 := PySem.W.mg_of X G C.m3
  m4 := PySem.W.mg_of X G C.m4
  m5 := PySem.W.mg_of X G C.m5
  m6 := PySem.W.mg_of X G C.m6
  m7 := PySem.W.mg_of X G C.m7
  m8 := PySem.W.mg_of X G C.m8
  m9 := PySem.W.mg_of X G C.m9
theorem cf_mk {D : Addr} {i : Nat} {bt bk bw bn : Bool} {cd : ClassData} (cl : PySem.W.clsIn K D = some cd) (ga : PySem.W.findIn K (.ref D) "__getattribute__" = some (some (.builtin "BaseException.__getattribute__"))) (hk : PySem.W.findIn K (.ref D) "__getattr__" = some none)
    (ha : PySem.W.findIn K (.ref D) "__class__" = some (some (.builtin "object.__class__"))) (hn : PySem.W.specialIn K (.builtin "object.__class__") "__get__" = some (some (.builtin "getset_descriptor.__get__"))) (ht : PySem.W.takesIn K (.builtin "object.__class__") = some true)
    (hm : PySem.W.mroIn K D (.type "object") = some true) (hb : PySem.W.mroIn K D (.type "BaseException") = some true)
    (t : PySem.W.kitOne K (.ref D) (.ref CT) = some bt) (k : PySem.W.kitOne K (.ref D) (.ref CK) = some bk) (w : PySem.W.kitOne K (.ref D) (.ref CW) = some bw) (n : PySem.W.kitOne K (.ref D) (.ref CN) = some bn)
    (o : PySem.W.kitAny K (.ref D) [.ref o1, .ref o2, .ref o3, .ref o4, .ref o5, .ref o6, .ref o7, .ref o8, .ref o9] = some false) (v : PySem.W.kitOne K (.ref D) (.type "ValueError") = some true) (e : PySem.W.exmOne K (.ref D) (.ref CH) = some true) (lt : i < 4)
    (b : bt = decide (i = 0) ∧ bk = decide (i = 1) ∧ bw = decide (i = 2) ∧ bn = decide (i = 3)) : CF K CH CT CK CW CN [o1, o2, o3, o4, o5, o6, o7, o8, o9] D i :=
  ⟨⟨by rw [cl]; rfl, ga, hk, ha, hn, ht, hm, hb⟩, b.1 ▸ t, b.2.1 ▸ k, b.2.2.1 ▸ w, b.2.2.2 ▸ n, o, v, e, lt⟩
theorem ex_mk {x : Str} {C : Addr} (X : K.In h) (G : h.Ns mainGlobals mg) (a : PySem.W.nsIn K mainGlobals x = some (some (.ref C)))
    (q : PySem.W.excIn K C [.type "ValueError", .type "Exception", .type "BaseException", .type "object"] "ValueError.__new__" = true) : Ex K mg x C := ⟨PySem.W.mg_of X G a, q⟩
theorem law_all (T : Txt mg) (C : Cl mg CH CT CK CW CN o1 o2 o3 o4 o5 o6 o7 o8 o9)
    (FT : CF K CH CT CK CW CN [o1, o2, o3, o4, o5, o6, o7, o8, o9] CT 0) (FK : CF K CH CT CK CW CN [o1, o2, o3, o4, o5, o6, o7, o8, o9] CK 1) (FW : CF K CH CT CK CW CN [o1, o2, o3, o4, o5, o6, o7, o8, o9] CW 2) (FN : CF K CH CT CK CW CN [o1, o2, o3, o4, o5, o6, o7, o8, o9] CN 3)
    (XT : Ex K mg "BadText" CT) (XK : Ex K mg "BadKey" CK) (XW : Ex K mg "BadWord" CW) (XN : Ex K mg "BadNumber" CN)
    (d1 : ∃ f fd, Df K mg "is_whole" sWhole f fd) (d2 : ∃ f fd, Df K mg "is_text_sign" sSign f fd) (d3 : ∃ f fd, Df K mg "is_text" sText f fd) (d4 : ∃ f fd, Df K mg "is_small_row" sRow f fd) (d5 : ∃ f fd, Df K mg "is_key" sKey f fd)
    (d6 : ∃ f fd, Df K mg "need_text" sNText f fd) (d7 : ∃ f fd, Df K mg "need_key" sNKey f fd) (d8 : ∃ f fd, DfD K mg "need_number" sNNum f fd #[.none]) (d9 : ∃ f fd, Df K mg "is_word" sWord f fd) (d10 : ∃ f fd, Df K mg "need_word" sNWord f fd)
    (d11 : ∃ f fd, Df K mg "words_in" sWordsIn f fd) (d12 : ∃ f fd, Df K mg "plain_words" sPlain f fd)
    (e1 : ∃ f fd, Df K mg "_law_mixed" lMixed f fd) (e2 : ∃ f fd, Df K mg "_law_number" lNumber f fd) (e3 : ∃ f fd, Df K mg "_law_menu" lMenu f fd) (e4 : ∃ f fd, Df K mg "_law_text" lText f fd) (e5 : ∃ f fd, Df K mg "_law_signs" lSigns f fd)
    (e6 : ∃ f fd, Df K mg "_law_small" lSmall f fd) (e7 : ∃ f fd, Df K mg "_law_words" lWords f fd) (e8 : ∃ f fd, Df K mg "_law_thing" lThing f fd) (e9 : ∃ f fd, Df K mg "_law_all_in" lAllIn f fd) (e10 : ∃ f fd, Df K mg "_law_due" lDue f fd)
    (e11 : ∃ f fd, Df K mg "_law_class" lClass f fd) (e12 : ∃ f fd, Df K mg "_law_needed" lNeeded f fd) (e13 : ∃ f fd, Df K mg "_law_number_needed" lNumNeeded f fd) (e14 : ∃ f fd, Df K mg "_law_numbers_right" lNumsRight f fd)
    (e15 : ∃ f fd, Df K mg "_law_thing_right" lThingRight f fd) (e16 : ∃ f fd, Df K mg "_law_tuples" lTuples f fd) {f : Addr} {fd : FuncData} (D : Df K mg "law" lLaw f fd) : FnOk P w K mg base CX0 8 f fd ["_law_script"] (spLaw K) := by
  obtain ⟨_, _, D1⟩ := d1
  obtain ⟨_, _, D2⟩ := d2
  obtain ⟨_, _, D3⟩ := d3
  obtain ⟨_, _, D4⟩ := d4
  obtain ⟨_, _, D5⟩ := d5
  obtain ⟨_, _, D6⟩ := d6
  obtain ⟨_, _, D7⟩ := d7
  obtain ⟨_, _, D8⟩ := d8
  obtain ⟨_, _, D9⟩ := d9
  obtain ⟨_, _, D10⟩ := d10
  obtain ⟨_, _, D11⟩ := d11
  obtain ⟨_, _, D12⟩ := d12
  obtain ⟨_, _, L1⟩ := e1
  obtain ⟨_, _, L2⟩ := e2
  obtain ⟨_, _, L3⟩ := e3
  obtain ⟨_, _, L4⟩ := e4
  obtain ⟨_, _, L5⟩ := e5
  obtain ⟨_, _, L6⟩ := e6
  obtain ⟨_, _, L7⟩ := e7
  obtain ⟨_, _, L8⟩ := e8
  obtain ⟨_, _, L9⟩ := e9
  obtain ⟨_, _, L10⟩ := e10
  obtain ⟨_, _, L11⟩ := e11
  obtain ⟨_, _, L12⟩ := e12
  obtain ⟨_, _, L13⟩ := e13
  obtain ⟨_, _, L14⟩ := e14
  obtain ⟨_, _, L15⟩ := e15
  obtain ⟨_, _, L16⟩ := e16
  have GT := ok_text (P := P) (w := w) (base := base) D3 D2 T
  have GK := ok_key (P := P) (w := w) (base := base) D5 D4 T
  have GW := ok_word (P := P) (w := w) (base := base) D9 D4 T
  have NT := ok_ntext D6 D3 XT GT
  have NK := ok_nkey D7 D5 XK GK
  have NW := ok_nword D10 D9 XW GW
  have NN := ok_nnum (P := P) (w := w) (base := base) D8 D1 XN T
  have WI := ok_win D11 D6 NT T
  have PL := ok_plain D12 D11 WI
  have CC := ok_class (P := P) (w := w) (base := base) L11 C T
  have NE := ok_needed L12 C T FT FK FW D6 NT D7 NK D10 NW D11 WI D12 PL L11 CC
  have NX := ok_numn L13 C FN D8 NN L11 CC
  exact ok_law D T L2 (ok_number L2 L1 T) L5 (ok_signs L5 L1 T) L4 (ok_textL L4 L1 T) L3 (ok_menu L3 L1 T) L7 (ok_words L7 L6 T) L16 (ok_tuples L16 T) L8 (ok_thing L8)
    L15 (ok_thingr L15 T L10 (ok_due L10 L9 T) D3 GT D5 GK D9 GW L12 NE) L14 (ok_numsr L14 D1 T L13 NX) D11 WI D12 PL
theorem law_mk {f fa : Addr} {oc kV doc pm cd ct : Value} {od an : Option Addr} {sl : Array (Option Value)} (X : K.In h) (G : h.Ns mainGlobals mg) (hfa : mg "law" = some (.ref fa)) (a : PySem.W.nsIn K mainGlobals "law" = some (some (.ref f)))
    (l : K.lookup f = some ⟨oc, od, .func (PySem.W.fnOf "law" "law" (defArgs lLaw) (defBody lLaw) (defScope lLaw) .none kV doc pm an cd ct), sl⟩) (c : PySem.W.codeIn K cd "law" = true) (k : PySem.W.keepIn K (.ref f) = true)
    (ok : ∀ (fd : FuncData) (base : Heap), Df K mg "law" lLaw f fd → FnOk P w K mg base CX0 8 f fd ["_law_script"] (spLaw K)) :
    ∃ fd : FuncData, (∀ (s : Shared) (v : Value), BindsTo s fd ⟨[v], []⟩ [("_law_script", v)]) ∧ ∀ base : Heap, K.In base → base.Ns mainGlobals mg → FnOk P w K mg base CX0 8 fa fd ["_law_script"] (spLaw K) := by
  have e := hfa.symm.trans (PySem.W.mg_of X G a)
  cases e
  exact ⟨PySem.W.fnOf "law" "law" (defArgs lLaw) (defBody lLaw) (defScope lLaw) .none kV doc pm an cd ct, fun s v => .of_eq rfl, fun base _ _ => ok _ base ⟨fun_mk l c k, PySem.W.mg_of X G a⟩⟩
end
theorem walk {l : PySem.W.OpenLaw} {q : Program} {loose : List Str} {XP : (Str → Option Value) → Heap → Prop} {YP : World → Heap → Prop} {d : DefRec} {K : Params → PySem.W.Frag} (hn : l.most = some 63) (hdf : d.params.defaults = [])
    (hY : ∀ (w : World) (h : Heap), YP w h → (K w.params).In h)
    (F : ∀ (w : World) (mg : Str → Option Value) (fa : Addr) (h : Heap), (K w.params).In h → h.Ns mainGlobals mg → mg d.name = some (.ref fa) →
      ∃ fd : FuncData, (∀ (s : Shared) (u : Value), BindsTo s fd ⟨[u], []⟩ [("_law_script", u)]) ∧ ∀ base : Heap, (K w.params).In base → base.Ns mainGlobals mg → FnOk l.prog w (K w.params) mg base CX0 8 fa fd ["_law_script"] (spLaw (K w.params))) :
    PySem.W.WalkO q loose XP YP l.row.toRowW d [] (fun f vs => PySem.call f vs) :=
  L2.walk_of (n := 63) (k := 8) (x := "_law_script") (CX := fun _ => CX0) (sp := fun w => spLaw (K w.params)) hn (by decide) hdf ⟨rfl, by decide, by decide⟩ hY F (fun _ _ a ns hl _ hS => ⟨a, ns, rfl, hS, hl, fun _ _ => rfl⟩) fun _ _ _ _ _ z => z
end K01
namespace K01
open PySem PySem.W PyProof.Rows
theorem walkX_of {q : Program} {loose : List Str} {XP : (Str → Option Value) → Heap → Prop} {r : RowW} {d : DefRec} {kwd : List (Str × Expr)} {run : Value → List Value → Sem Value} {K : Params → Frag} {as : List Addr} {n t : Nat}
    (e : ∀ P, as = (K P).map (·.1)) (W : WalkO q loose XP (fun w h => (K w.params).In h) r d kwd run) : WalkX q loose XP (X.obsZ as) (X.valZ K n t) r d kwd run :=
  fun w s₀ s₁ mg mb G y a o pm cd doc dV kV h1 h2 h3 h4 h5 h6 args vals as' L hp hl hr hw hs => W w s₀ s₁ mg mb G (fun b o q => L.keeps b o ((X.z_facts e y).2.1 b o q)) a o pm cd doc dV kV h1 h2 h3 h4 h5 h6 args vals as' hp hl hr hw hs
end K01
open PySem PySem.W PyProof.Rows
set_option maxRecDepth 100000 in
set_option maxHeartbeats 0 in
theorem PySem.Challenge.cw_findhall_k01_texts_and_words_holds : PySem.Challenge.rw_findhall_k01_texts_and_words.Holds := by
  w_on; refine PySem.W.holds_law (by decide +kernel) fun said => ?_
  z_head; (case hw => w_witness2)
  refine K01.walkX_of (fun _ => by kernel_rfl) (K01.walk (l := PySem.Challenge.rw_findhall_k01_texts_and_words) rfl rfl (fun w h Y => Y) ?F)
  case F =>
    intro w mg fa h KX G hmg
    have hC : ∃ CH CT CK CW CN o1 o2 o3 o4 o5 o6 o7 o8 o9, K01.Clss (L2.KOf KX) CH CT CK CW CN o1 o2 o3 o4 o5 o6 o7 o8 o9 ∧
        K01.CF (L2.KOf KX) CH CT CK CW CN [o1, o2, o3, o4, o5, o6, o7, o8, o9] CT 0 ∧ K01.CF (L2.KOf KX) CH CT CK CW CN [o1, o2, o3, o4, o5, o6, o7, o8, o9] CK 1 ∧
        K01.CF (L2.KOf KX) CH CT CK CW CN [o1, o2, o3, o4, o5, o6, o7, o8, o9] CW 2 ∧ K01.CF (L2.KOf KX) CH CT CK CW CN [o1, o2, o3, o4, o5, o6, o7, o8, o9] CN 3 ∧
        K01.Ex (L2.KOf KX) mg "BadText" CT ∧ K01.Ex (L2.KOf KX) mg "BadKey" CK ∧ K01.Ex (L2.KOf KX) mg "BadWord" CW ∧ K01.Ex (L2.KOf KX) mg "BadNumber" CN := by
      dsimp only [L2.KOf]
      refine' ⟨?CH, ?CT, ?CK, ?CW, ?CN, ?o1, ?o2, ?o3, ?o4, ?o5, ?o6, ?o7, ?o8, ?o9, ⟨?q1, ?q2, ?q3, ?q4, ?q5, ?q6, ?q7, ?q8, ?q9, ?q10, ?q11, ?q12, ?q13, ?q14⟩, ?r0, ?r1, ?r2, ?r3, ?x0, ?x1, ?x2, ?x3⟩
      (case q1 => k_is)
      (case q2 => k_is)
      (case q3 => k_is)
      (case q4 => k_is)
      (case q5 => k_is)
      (case q6 => k_is)
      (case q7 => k_is)
      (case q8 => k_is)
      (case q9 => k_is)
      (case q10 => k_is)
      (case q11 => k_is)
      (case q12 => k_is)
      (case q13 => k_is)
      (case q14 => k_is)
      case r0 =>
        refine' K01.cf_mk (bt := true) (bk := false) (bw := false) (bn := false) ?s1 ?s2 ?s3 ?s4 ?s5 ?s6 ?s7 ?s8 ?s9 ?s10 ?s11 ?s12 ?s13 ?s14 ?s15 (by decide) ⟨rfl, rfl, rfl, rfl⟩
        (case s1 => k_is)
        (case s2 => k_is)
        (case s3 => k_is)
        (case s4 => k_is)
        (case s5 => k_is)
        (case s6 => k_is)
        (case s7 => k_is)
        (case s8 => k_is)
        (case s9 => kit_is)
        (case s10 => kit_is)
        (case s11 => kit_is)
        (case s12 => kit_is)
        (case s13 => kit_is)
        (case s14 => kit_is)
        (case s15 => kts_exm)
      case r1 =>
        refine' K01.cf_mk (bt := false) (bk := true) (bw := false) (bn := false) ?s1 ?s2 ?s3 ?s4 ?s5 ?s6 ?s7 ?s8 ?s9 ?s10 ?s11 ?s12 ?s13 ?s14 ?s15 (by decide) ⟨rfl, rfl, rfl, rfl⟩
        (case s1 => k_is)
        (case s2 => k_is)
        (case s3 => k_is)
        (case s4 => k_is)
        (case s5 => k_is)
        (case s6 => k_is)
        (case s7 => k_is)
        (case s8 => k_is)
        (case s9 => kit_is)
        (case s10 => kit_is)
        (case s11 => kit_is)
        (case s12 => kit_is)
        (case s13 => kit_is)
        (case s14 => kit_is)
        (case s15 => kts_exm)
      case r2 =>
        refine' K01.cf_mk (bt := false) (bk := false) (bw := true) (bn := false) ?s1 ?s2 ?s3 ?s4 ?s5 ?s6 ?s7 ?s8 ?s9 ?s10 ?s11 ?s12 ?s13 ?s14 ?s15 (by decide) ⟨rfl, rfl, rfl, rfl⟩
        (case s1 => k_is)
        (case s2 => k_is)
        (case s3 => k_is)
        (case s4 => k_is)
        (case s5 => k_is)
        (case s6 => k_is)
        (case s7 => k_is)
        (case s8 => k_is)
        (case s9 => kit_is)
        (case s10 => kit_is)
        (case s11 => kit_is)
        (case s12 => kit_is)
        (case s13 => kit_is)
        (case s14 => kit_is)
        (case s15 => kts_exm)
      case r3 =>
        refine' K01.cf_mk (bt := false) (bk := false) (bw := false) (bn := true) ?s1 ?s2 ?s3 ?s4 ?s5 ?s6 ?s7 ?s8 ?s9 ?s10 ?s11 ?s12 ?s13 ?s14 ?s15 (by decide) ⟨rfl, rfl, rfl, rfl⟩
        (case s1 => k_is)
        (case s2 => k_is)
        (case s3 => k_is)
        (case s4 => k_is)
        (case s5 => k_is)
        (case s6 => k_is)
        (case s7 => k_is)
        (case s8 => k_is)
        (case s9 => kit_is)
        (case s10 => kit_is)
        (case s11 => kit_is)
        (case s12 => kit_is)
        (case s13 => kit_is)
        (case s14 => kit_is)
        (case s15 => kts_exm)
      case x0 =>
        refine' K01.ex_mk KX G ?y1 ?y2
        (case y1 => k_is)
        (case y2 => k_exc)
      case x1 =>
        refine' K01.ex_mk KX G ?y1 ?y2
        (case y1 => k_is)
        (case y2 => k_exc)
      case x2 =>
        refine' K01.ex_mk KX G ?y1 ?y2
        (case y1 => k_is)
        (case y2 => k_exc)
      case x3 =>
        refine' K01.ex_mk KX G ?y1 ?y2
        (case y1 => k_is)
        (case y2 => k_exc)
    have T : K01.Txt mg := by
      refine' K01.txt_mk KX G ?n1 ?n2 ?n3 ?n4 ?n5 ?n6 ?n7 ?n8 ?n9 ?n10 ?n11 ?n12 ?c1 ?c2 ?c3 ?c4 ?c5
      (case n1 => k_is)
      (case n2 => k_is)
      (case n3 => k_is)
      (case n4 => k_is)
      (case n5 => k_is)
      (case n6 => k_is)
      (case n7 => k_is)
      (case n8 => k_is)
      (case n9 => k_is)
      (case n10 => k_is)
      (case n11 => k_is)
      (case n12 => k_is)
      (case c1 => k_is)
      (case c2 => k_is)
      (case c3 => k_is)
      (case c4 => k_is)
      (case c5 => k_is)
    have d1 : ∃ f fd, K01.Df (L2.KOf KX) mg "is_whole" K01.sWhole f fd := by
      dsimp only [L2.KOf]
      refine' K01.df_mk KX G ?a ?l ?c ?k
      (case a => k_is); (case l => k_is); (case c => k_is); (case k => k_is)
    have d2 : ∃ f fd, K01.Df (L2.KOf KX) mg "is_text_sign" K01.sSign f fd := by
      dsimp only [L2.KOf]
      refine' K01.df_mk KX G ?a ?l ?c ?k
      (case a => k_is); (case l => k_is); (case c => k_is); (case k => k_is)
    have d3 : ∃ f fd, K01.Df (L2.KOf KX) mg "is_text" K01.sText f fd := by
      dsimp only [L2.KOf]
      refine' K01.df_mk KX G ?a ?l ?c ?k
      (case a => k_is); (case l => k_is); (case c => k_is); (case k => k_is)
    have d4 : ∃ f fd, K01.Df (L2.KOf KX) mg "is_small_row" K01.sRow f fd := by
      dsimp only [L2.KOf]
      refine' K01.df_mk KX G ?a ?l ?c ?k
      (case a => k_is); (case l => k_is); (case c => k_is); (case k => k_is)
    have d5 : ∃ f fd, K01.Df (L2.KOf KX) mg "is_key" K01.sKey f fd := by
      dsimp only [L2.KOf]
      refine' K01.df_mk KX G ?a ?l ?c ?k
      (case a => k_is); (case l => k_is); (case c => k_is); (case k => k_is)
    have d6 : ∃ f fd, K01.Df (L2.KOf KX) mg "need_text" K01.sNText f fd := by
      dsimp only [L2.KOf]
      refine' K01.df_mk KX G ?a ?l ?c ?k
      (case a => k_is); (case l => k_is); (case c => k_is); (case k => k_is)
    have d7 : ∃ f fd, K01.Df (L2.KOf KX) mg "need_key" K01.sNKey f fd := by
      dsimp only [L2.KOf]
      refine' K01.df_mk KX G ?a ?l ?c ?k
      (case a => k_is); (case l => k_is); (case c => k_is); (case k => k_is)
    have d8 : ∃ f fd, K01.DfD (L2.KOf KX) mg "need_number" K01.sNNum f fd #[.none] := by
      dsimp only [L2.KOf]
      refine' K01.dfd_mk KX G ?a ?l ?c ?k ?t
      (case a => k_is); (case l => k_is); (case c => k_is); (case k => k_is); (case t => k_is)
    have d9 : ∃ f fd, K01.Df (L2.KOf KX) mg "is_word" K01.sWord f fd := by
      dsimp only [L2.KOf]
      refine' K01.df_mk KX G ?a ?l ?c ?k
      (case a => k_is); (case l => k_is); (case c => k_is); (case k => k_is)
    have d10 : ∃ f fd, K01.Df (L2.KOf KX) mg "need_word" K01.sNWord f fd := by
      dsimp only [L2.KOf]
      refine' K01.df_mk KX G ?a ?l ?c ?k
      (case a => k_is); (case l => k_is); (case c => k_is); (case k => k_is)
    have d11 : ∃ f fd, K01.Df (L2.KOf KX) mg "words_in" K01.sWordsIn f fd := by
      dsimp only [L2.KOf]
      refine' K01.df_mk KX G ?a ?l ?c ?k
      (case a => k_is); (case l => k_is); (case c => k_is); (case k => k_is)
    have d12 : ∃ f fd, K01.Df (L2.KOf KX) mg "plain_words" K01.sPlain f fd := by
      dsimp only [L2.KOf]
      refine' K01.df_mk KX G ?a ?l ?c ?k
      (case a => k_is); (case l => k_is); (case c => k_is); (case k => k_is)
    have e1 : ∃ f fd, K01.Df (L2.KOf KX) mg "_law_mixed" K01.lMixed f fd := by
      dsimp only [L2.KOf]
      refine' K01.df_mk KX G ?a ?l ?c ?k
      (case a => k_is); (case l => k_is); (case c => k_is); (case k => k_is)
    have e2 : ∃ f fd, K01.Df (L2.KOf KX) mg "_law_number" K01.lNumber f fd := by
      dsimp only [L2.KOf]
      refine' K01.df_mk KX G ?a ?l ?c ?k
      (case a => k_is); (case l => k_is); (case c => k_is); (case k => k_is)
    have e3 : ∃ f fd, K01.Df (L2.KOf KX) mg "_law_menu" K01.lMenu f fd := by
      dsimp only [L2.KOf]
      refine' K01.df_mk KX G ?a ?l ?c ?k
      (case a => k_is); (case l => k_is); (case c => k_is); (case k => k_is)
    have e4 : ∃ f fd, K01.Df (L2.KOf KX) mg "_law_text" K01.lText f fd := by
      dsimp only [L2.KOf]
      refine' K01.df_mk KX G ?a ?l ?c ?k
      (case a => k_is); (case l => k_is); (case c => k_is); (case k => k_is)
    have e5 : ∃ f fd, K01.Df (L2.KOf KX) mg "_law_signs" K01.lSigns f fd := by
      dsimp only [L2.KOf]
      refine' K01.df_mk KX G ?a ?l ?c ?k
      (case a => k_is); (case l => k_is); (case c => k_is); (case k => k_is)
    have e6 : ∃ f fd, K01.Df (L2.KOf KX) mg "_law_small" K01.lSmall f fd := by
      dsimp only [L2.KOf]
      refine' K01.df_mk KX G ?a ?l ?c ?k
      (case a => k_is); (case l => k_is); (case c => k_is); (case k => k_is)
    have e7 : ∃ f fd, K01.Df (L2.KOf KX) mg "_law_words" K01.lWords f fd := by
      dsimp only [L2.KOf]
      refine' K01.df_mk KX G ?a ?l ?c ?k
      (case a => k_is); (case l => k_is); (case c => k_is); (case k => k_is)
    have e8 : ∃ f fd, K01.Df (L2.KOf KX) mg "_law_thing" K01.lThing f fd := by
      dsimp only [L2.KOf]
      refine' K01.df_mk KX G ?a ?l ?c ?k
      (case a => k_is); (case l => k_is); (case c => k_is); (case k => k_is)
    have e9 : ∃ f fd, K01.Df (L2.KOf KX) mg "_law_all_in" K01.lAllIn f fd := by
      dsimp only [L2.KOf]
      refine' K01.df_mk KX G ?a ?l ?c ?k
      (case a => k_is); (case l => k_is); (case c => k_is); (case k => k_is)
    have e10 : ∃ f fd, K01.Df (L2.KOf KX) mg "_law_due" K01.lDue f fd := by
      dsimp only [L2.KOf]
      refine' K01.df_mk KX G ?a ?l ?c ?k
      (case a => k_is); (case l => k_is); (case c => k_is); (case k => k_is)
    have e11 : ∃ f fd, K01.Df (L2.KOf KX) mg "_law_class" K01.lClass f fd := by
      dsimp only [L2.KOf]
      refine' K01.df_mk KX G ?a ?l ?c ?k
      (case a => k_is); (case l => k_is); (case c => k_is); (case k => k_is)
    have e12 : ∃ f fd, K01.Df (L2.KOf KX) mg "_law_needed" K01.lNeeded f fd := by
      dsimp only [L2.KOf]
      refine' K01.df_mk KX G ?a ?l ?c ?k
      (case a => k_is); (case l => k_is); (case c => k_is); (case k => k_is)
    have e13 : ∃ f fd, K01.Df (L2.KOf KX) mg "_law_number_needed" K01.lNumNeeded f fd := by
      dsimp only [L2.KOf]
      refine' K01.df_mk KX G ?a ?l ?c ?k
      (case a => k_is); (case l => k_is); (case c => k_is); (case k => k_is)
    have e14 : ∃ f fd, K01.Df (L2.KOf KX) mg "_law_numbers_right" K01.lNumsRight f fd := by
      dsimp only [L2.KOf]
      refine' K01.df_mk KX G ?a ?l ?c ?k
      (case a => k_is); (case l => k_is); (case c => k_is); (case k => k_is)
    have e15 : ∃ f fd, K01.Df (L2.KOf KX) mg "_law_thing_right" K01.lThingRight f fd := by
      dsimp only [L2.KOf]
      refine' K01.df_mk KX G ?a ?l ?c ?k
      (case a => k_is); (case l => k_is); (case c => k_is); (case k => k_is)
    have e16 : ∃ f fd, K01.Df (L2.KOf KX) mg "_law_tuples" K01.lTuples f fd := by
      dsimp only [L2.KOf]
      refine' K01.df_mk KX G ?a ?l ?c ?k
      (case a => k_is); (case l => k_is); (case c => k_is); (case k => k_is)
    obtain ⟨CH, CT, CK, CW, CN, o1, o2, o3, o4, o5, o6, o7, o8, o9, hC, f0, f1, f2, f3, x0, x1, x2, x3⟩ := hC
    refine' K01.law_mk KX G hmg ?a ?l ?c ?k fun fd base D => K01.law_all T (hC.cl KX G) f0 f1 f2 f3 x0 x1 x2 x3 d1 d2 d3 d4 d5 d6 d7 d8 d9 d10 d11 d12 e1 e2 e3 e4 e5 e6 e7 e8 e9 e10 e11 e12 e13 e14 e15 e16 D
    (case a => k_is); (case l => k_is); (case c => k_is); (case k => k_is)
