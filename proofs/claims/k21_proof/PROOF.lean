import PyProof.Rows.All
import Wide.All
import OpenK.AllK
import Wide.FinOn
import PyProof.EqAt
import PyProof.EqKinds
import PyProof.TupleCall
import Lean
import PySem.Challenge.RW_findhall_k21_best_of_all
set_option Elab.async false
set_option linter.all false
set_option maxRecDepth 100000
namespace L2
open PySem PySem.Spec PyProof.Rows
noncomputable abbrev Key := Sum Int Str
noncomputable def keyIs : Key → Value → Bool
  | .inl k, v => Value.isInt k v
  | .inr x, v => Value.isStrOf x v
noncomputable def keyH (w : World) : Key → Int
  | .inl k => hashInt k
  | .inr x => hashStr w x
theorem keyIs_shape : ∀ {k : Key} {v : Value}, keyIs k v = true → (∃ i t, k = Sum.inl i ∧ v = Value.int i t) ∨ (∃ x t, k = Sum.inr x ∧ v = Value.str x t)
  | .inl i, v, h => by
    obtain ⟨t, e⟩ := Value.isInt_shape (k := i) (v := v) h
    exact .inl ⟨i, t, rfl, e⟩
  | .inr x, v, h => by
    obtain ⟨t, e⟩ := Value.isStrOf_shape (x := x) (v := v) h
    exact .inr ⟨x, t, rfl, e⟩
theorem key_ll (a b : Int) : decide ((Sum.inl a : Key) = Sum.inl b) = (a == b) := by
  by_cases e : a = b
  · subst e; simp
  · have h : ¬ (Sum.inl a : Key) = Sum.inl b := fun q => e (Sum.inl.inj q)
    rw [decide_eq_false h]
    exact (beq_eq_false_iff_ne.mpr e).symm
theorem key_rr (a b : Str) : decide ((Sum.inr a : Key) = Sum.inr b) = decide (a = b) := by
  by_cases e : a = b
  · subst e; simp
  · have h : ¬ (Sum.inr a : Key) = Sum.inr b := fun q => e (Sum.inr.inj q)
    rw [decide_eq_false h, decide_eq_false e]
theorem key_lr (a : Int) (b : Str) : decide ((Sum.inl a : Key) = Sum.inr b) = false := decide_eq_false (fun q => nomatch q)
theorem key_rl (a : Str) (b : Int) : decide ((Sum.inr a : Key) = Sum.inl b) = false := decide_eq_false (fun q => nomatch q)
noncomputable def mixKind (prog : Program) (w : World) : PySem.KeyKind prog w Key where
  is := keyIs
  hash := keyH w
  inj := fun v a b ha hb => by
    rcases keyIs_shape ha with ⟨i, t, rfl, rfl⟩ | ⟨x, t, rfl, rfl⟩
    · rcases keyIs_shape hb with ⟨j, u, rfl, e⟩ | ⟨y, u, rfl, e⟩
      · injection e with e1 _; rw [e1]
      · exact nomatch e
    · rcases keyIs_shape hb with ⟨j, u, rfl, e⟩ | ⟨y, u, rfl, e⟩
      · exact nomatch e
      · injection e with e1 _; rw [e1]
  byValue := fun k v h => by
    rcases keyIs_shape h with ⟨i, t, rfl, rfl⟩ | ⟨x, t, rfl, rfl⟩ <;> rfl
  pyHash := fun hv h => by
    rcases keyIs_shape hv with ⟨i, t, rfl, rfl⟩ | ⟨x, t, rfl, rfl⟩
    · exact wpAny_pyHash_int h
    · exact wpAny_pyHash_str h
  eqBool := fun hu hv h => by
    rcases keyIs_shape hu with ⟨i, t, rfl, rfl⟩ | ⟨x, t, rfl, rfl⟩
    · rcases keyIs_shape hv with ⟨j, u, rfl, rfl⟩ | ⟨y, u, rfl, rfl⟩
      · rw [key_ll] at h; exact wpAny_eqBool_int h
      · rw [key_lr] at h; exact SeqAt.EqAt.int_str i t y u _ _ _ _ h
    · rcases keyIs_shape hv with ⟨j, u, rfl, rfl⟩ | ⟨y, u, rfl, rfl⟩
      · rw [key_rl] at h; exact SeqAt.EqAt.str_int x t j u _ _ _ _ h
      · rw [key_rr] at h; exact wpAny_eqBool_str h
  «strs» := fun k x t v h => by
    rcases keyIs_shape h with ⟨i, u, rfl, e⟩ | ⟨y, u, rfl, e⟩
    · exact nomatch e
    · injection e with e1 _
      subst e1
      cases v <;> rfl
end L2
namespace L2
open PySem PySem.Spec PyProof.Rows
inductive V where
  | non | bl (b : Bool) | int (i : Int) | str (x : Str) | byt (b : Array UInt8) | flt (b : UInt64) | ref (a : Addr) | ty (n : String)
  deriving DecidableEq
noncomputable def RelV : V → Value → Prop
  | .non, u => u = Value.none
  | .bl b, u => u = Value.bool b
  | .int i, u => ∃ t, u = Value.int i t
  | .str x, u => ∃ t, u = Value.str x t
  | .byt b, u => ∃ t, u = Value.bytes b t
  | .flt b, u => ∃ t, u = Value.float b t
  | .ref a, u => u = Value.ref a
  | .ty n, u => u = Value.type n
noncomputable abbrev Vals : List V → List Value → Prop := Paired RelV
theorem Vals.length {xs : List V} {us : List Value} (r : Vals xs us) : xs.length = us.length := Paired.length r
theorem Vals.get : ∀ {xs : List V} {us : List Value} {i : Nat} {x : V}, Vals xs us → xs[i]? = some x → ∃ u, us[i]? = some u ∧ RelV x u
  | _, _, _, _, .nil, e => by simp at e
  | _, _, 0, _, .cons r _, e => by simp at e; subst e; exact ⟨_, rfl, r⟩
  | _, _, i + 1, x, .cons _ t, e => by
    obtain ⟨u, h1, h2⟩ := Vals.get (i := i) (x := x) t (by simpa using e)
    exact ⟨u, by simpa using h1, h2⟩
theorem Vals.set {x : V} {u : Value} (r : RelV x u) : ∀ {xs : List V} {us : List Value} (i : Nat), Vals xs us → Vals (xs.set i x) (us.set i u)
  | _, _, _, .nil => .nil
  | _, _, 0, .cons _ t => .cons r t
  | _, _, i + 1, .cons q t => .cons q (Vals.set r i t)
theorem Vals.append : ∀ {xs ys : List V} {us ws : List Value}, Vals xs us → Vals ys ws → Vals (xs ++ ys) (us ++ ws)
  | _, _, _, _, .nil, s => s
  | _, _, _, _, .cons r t, s => .cons r (Vals.append t s)
theorem Vals.take : ∀ {xs : List V} {us : List Value} (n : Nat), Vals xs us → Vals (xs.take n) (us.take n)
  | _, _, 0, _ => .nil
  | _, _, _ + 1, .nil => .nil
  | _, _, n + 1, .cons r t => .cons r (Vals.take n t)
theorem Vals.drop : ∀ {xs : List V} {us : List Value} (n : Nat), Vals xs us → Vals (xs.drop n) (us.drop n)
  | _, _, 0, r => r
  | _, _, _ + 1, .nil => .nil
  | _, _, n + 1, .cons _ t => Vals.drop n t
theorem Vals.none_of : ∀ {xs : List V} {us : List Value} {i : Nat}, Vals xs us → xs[i]? = none → us[i]? = none := fun {xs us i} r e => by
  have h1 := r.length
  have h2 : xs.length ≤ i := List.getElem?_eq_none_iff.mp e
  exact List.getElem?_eq_none_iff.mpr (by omega)
noncomputable def RelO : Option V → Option Value → Prop
  | some v, some u => RelV v u
  | none, none => True
  | _, _ => False
noncomputable def KV {κ : Type} : List (κ × V) → List (κ × Value) → Prop := Paired fun (p : κ × V) (q : κ × Value) => p.1 = q.1 ∧ RelV p.2 q.2
noncomputable def kV : Key → V
  | .inl i => .int i
  | .inr x => .str x
inductive HO where
  | lst (xs : List V)
  | tup (xs : List V)
  | dK (kvs : List (Key × V)) | dT (kvs : List (List Key × V))
  | set (S : Int → Bool) (n : Nat)
  | ins (C dx : Addr) (fs : List (Str × V))
  | own (x : Addr)
  | xd (fs : List (Str × V))
  | met (f x : Addr)
  | rng (lo hi : Int)
  | frz (o : Obj) (u : HO)
  | tbl (ps : Array Value)
  | ext (φ : Heap → Prop)
noncomputable abbrev Hp := Addr → Option HO
noncomputable def upd (H : Hp) (a : Addr) (o : HO) : Hp := fun b => if b = a then some o else H b
theorem upd_same {H : Hp} {a : Addr} {o : HO} : upd H a o a = some o := by unfold upd; rw [if_pos rfl]
theorem upd_ne {H : Hp} {a b : Addr} {o : HO} (h : b ≠ a) : upd H a o b = H b := by unfold upd; rw [if_neg h]
theorem ne_of_none {H : Hp} {a b : Addr} {o : HO} (h : H a = some o) (h' : H b = none) : a ≠ b := by
  intro e; subst e; rw [h] at h'; cases h'
section
variable (P : Program) (w : World)
noncomputable def ObjOk (H : Hp) (h : Heap) (a : Addr) : HO → Prop
  | .lst xs => xs.length ≤ sizeLine ∧ ∃ (its : List Value) (n : Nat), Vals xs its ∧ h.get? a = some { cls := .type "list", data := .seq its.toArray n }
  | .tup xs => xs.length ≤ sizeLine ∧ ∃ its : List Value, Vals xs its ∧ IsTup h a its.toArray
  | .dK kvs => kvs.length ≤ sizeLine ∧ (a == sysModules) = false ∧ ∃ vs, KV kvs vs ∧ h.DictOf (mixKind P w) a vs
  | .dT kvs => kvs.length ≤ sizeLine ∧ (a == sysModules) = false ∧ ∃ xs : List (List Key × Addr × Value),
      Paired (fun (p : List Key × V) (q : List Key × Addr × Value) => p.1 = q.1 ∧ H q.2.1 = some (.tup (p.1.map kV)) ∧ RelV p.2 q.2.2) kvs xs ∧
      ∃ o es ep, h.get? a = some o ∧ o.ExactDict ∧ o.data = .dict es ep ∧ es.toList = xs.map (entryOfKey (tupleKind (mixKind P w))) ∧ (xs.map (·.1)).Nodup
  | .set S n => h.SetOf (intKind P w) a S n
  | .ins C dx fs => H dx = some (.own a) ∧ fs.length ≤ 1000 ∧ dx ≠ a ∧ h.get? a = some (PySem.W.instObj C dx) ∧
      ∃ mA, h.Ns1 dx mA ∧ (∀ f, RelO (fs.lookup f) (mA f)) ∧ PySem.Within mA (fs.map (·.1))
  | .own _ => ∃ o, h.get? a = some o
  | .xd fs => ∃ mA, h.Ns1 a mA ∧ ∀ f, RelO (fs.lookup f) (mA f)
  | .rng lo hi => ∃ t u v, h.get? a = some { cls := .type "range", data := .fields #[.int lo t, .int hi u, .int 1 v] }
  | .frz o u => h.get? a = some o ∧ ObjOk H h a u
  | .tbl ps => h.get? a = some { cls := .none, data := .fields ps }
  | .met f x => h.get? a = some (PySem.W.methodObj (.ref f) (.ref x))
  | .ext φ => φ h ∧ (∃ o, h.get? a = some o) ∧ ∀ h1 h2 : Heap, φ h1 → (∀ o, h1.get? a = some o → h2.get? a = some o) → φ h2
noncomputable def HOk (H : Hp) (h : Heap) : Prop := ∀ a o, H a = some o → ObjOk P w H h a o
end
section
variable {P : Program} {w : World} {H H' : Hp} {h h' : Heap} {a : Addr} {o : HO}
theorem ObjOk.lt (x : ObjOk P w H h a o) : a < h.objs.size := by
  cases o with
  | lst xs => obtain ⟨_, _, _, _, e⟩ := x; exact Heap.lt_size e
  | tup xs => obtain ⟨_, _, _, p⟩ := x; exact p.lt
  | dK kvs => obtain ⟨_, _, _, _, o, _, _, e, _⟩ := x; exact Heap.lt_size e
  | dT kvs => obtain ⟨_, _, _, _, o, _, _, e, _⟩ := x; exact Heap.lt_size e
  | set S n => obtain ⟨o, _, _, _, e, _⟩ := x; exact Heap.lt_size e
  | ins C dx fs => obtain ⟨_, _, _, e, _⟩ := x; exact Heap.lt_size e
  | own y => obtain ⟨_, e⟩ := x; exact Heap.lt_size e
  | xd fs => obtain ⟨_, ⟨_, _, _, e, _⟩, _⟩ := x; exact Heap.lt_size e
  | rng lo hi => obtain ⟨_, _, _, e⟩ := x; exact Heap.lt_size e
  | frz ob u => obtain ⟨e, _⟩ := x; exact Heap.lt_size e
  | tbl ps => exact Heap.lt_size (show h.get? a = some _ from x)
  | met f y => exact Heap.lt_size (show h.get? a = some _ from x)
  | ext φ => obtain ⟨_, ⟨_, e⟩, _⟩ := x; exact Heap.lt_size e
theorem Paired.mapP {α β : Type} {F G : α → β → Prop} : ∀ {l₁ : List α} {l₂ : List β}, Paired F l₁ l₂ → (∀ a b, F a b → G a b) → Paired G l₁ l₂
  | _, _, .nil, _ => .nil
  | _, _, .cons r t, f => .cons (f _ _ r) (Paired.mapP t f)
theorem ObjOk.stay (x : ObjOk P w H h a o) (k : ∀ b u, (b = a ∨ H b = some (.own a)) → h.get? b = some u → h'.get? b = some u)
    (ho : ∀ b, H b = some (.own a) → H' b = some (.own a)) (ht : ∀ b xs, H b = some (.tup xs) → H' b = some (.tup xs)) : ObjOk P w H' h' a o := by
  induction o with
  | lst xs => obtain ⟨z, its, n, r, e⟩ := x; exact ⟨z, its, n, r, k _ _ (.inl rfl) e⟩
  | tup xs => obtain ⟨z, its, r, ob, e, c⟩ := x; exact ⟨z, its, r, ob, k _ _ (.inl rfl) e, c⟩
  | dK kvs => obtain ⟨z, y, vs, r, ob, es, ep, e, c⟩ := x; exact ⟨z, y, vs, r, ob, es, ep, k _ _ (.inl rfl) e, c⟩
  | dT kvs =>
    obtain ⟨z, y, xs, r, ob, es, ep, e, c⟩ := x
    exact ⟨z, y, xs, Paired.mapP r fun p q z => ⟨z.1, ht _ _ z.2.1, z.2.2⟩, ob, es, ep, k _ _ (.inl rfl) e, c⟩
  | set S n => obtain ⟨ob, es, ep, t, e, c⟩ := x; exact ⟨ob, es, ep, t, k _ _ (.inl rfl) e, c⟩
  | ins C dx fs =>
    obtain ⟨d, z, ne, e, mA, ⟨od, es, ep, e2, c⟩, r⟩ := x
    exact ⟨ho _ d, z, ne, k _ _ (.inl rfl) e, mA, ⟨od, es, ep, k _ _ (.inr d) e2, c⟩, r⟩
  | own y => obtain ⟨ob, e⟩ := x; exact ⟨ob, k _ _ (.inl rfl) e⟩
  | xd fs => obtain ⟨mA, ⟨od, es, ep, e, c⟩, r⟩ := x; exact ⟨mA, ⟨od, es, ep, k _ _ (.inl rfl) e, c⟩, r⟩
  | rng lo hi => obtain ⟨t, u, v, e⟩ := x; exact ⟨t, u, v, k _ _ (.inl rfl) e⟩
  | frz ob u ih => obtain ⟨e, q⟩ := x; exact ⟨k _ _ (.inl rfl) e, ih q⟩
  | tbl ps =>
    have e : h.get? a = some { cls := .none, data := .fields ps } := x
    show h'.get? a = some { cls := .none, data := .fields ps }
    exact k a _ (.inl rfl) e
  | met f y =>
    have e : h.get? a = some (PySem.W.methodObj (.ref f) (.ref y)) := x
    show h'.get? a = some (PySem.W.methodObj (.ref f) (.ref y))
    exact k a _ (.inl rfl) e
  | ext φ => obtain ⟨p, ⟨o, e⟩, st⟩ := x; exact ⟨st _ _ p fun o q => k _ _ (.inl rfl) q, ⟨o, k _ _ (.inl rfl) e⟩, st⟩
theorem HOk.lt (x : HOk P w H h) (e : H a = some o) : a < h.objs.size := (x a o e).lt
theorem HOk.fresh (x : HOk P w H h) (e : h.objs.size ≤ a) : H a = none := by
  cases q : H a with
  | none => rfl
  | some u => exact absurd (Nat.lt_of_lt_of_le (x.lt q) e) (Nat.lt_irrefl _)
theorem HOk.kept (x : HOk P w H h) (k : ∀ b u, h.get? b = some u → h'.get? b = some u) : HOk P w H h' := fun a o e =>
  (x a o e).stay (fun b u _ q => k b u q) (fun _ q => q) fun _ _ q => q
theorem HOk.laid (x : HOk P w H h) (k : ∀ b u, h.get? b = some u → h'.get? b = some u) (hp : h.objs.size ≤ a) (new : ObjOk P w (upd H a o) h' a o) : HOk P w (upd H a o) h' := fun b u e => by
  have hn := x.fresh hp
  by_cases hb : b = a
  · subst hb; rw [upd_same] at e; cases e; exact new
  · rw [upd_ne hb] at e
    exact (x b u e).stay (fun c v _ q => k c v q) (fun c q => by rw [upd_ne (ne_of_none q hn)]; exact q) fun c xs q => by rw [upd_ne (ne_of_none q hn)]; exact q
end
noncomputable def Rd (H : Hp) (a : Addr) (u : HO) : Prop := H a = some u ∨ ∃ o, H a = some (.frz o u)
theorem Rd.of {H : Hp} {a : Addr} {u : HO} (h : H a = some u) : Rd H a u := .inl h
theorem Rd.ok {P : Program} {w : World} {H : Hp} {h : Heap} {a : Addr} {u : HO} (r : Rd H a u) (x : HOk P w H h) : ObjOk P w H h a u := by
  rcases r with r | ⟨o, r⟩
  · exact x a u r
  · obtain ⟨_, q⟩ := x a _ r
    exact q
noncomputable def Mut : Option HO → Prop
  | some (.lst _) => True
  | some (.dK _) => True
  | some (.dT _) => True
  | some (.set _ _) => True
  | some (.ins _ _ _) => True
  | some (.ext _) => True
  | _ => False
section
variable {P : Program} {w : World} {H : Hp} {h h' : Heap} {x e : Addr} {o' : HO}
theorem HOk.write (ok : HOk P w H h) (mu : Mut (H x)) (he : e = x ∨ H e = some (.own x)) (k : ∀ b u, b ≠ e → h.get? b = some u → h'.get? b = some u) (heo : ∃ u, h'.get? e = some u)
    (new : ObjOk P w (upd H x o') h' x o') : HOk P w (upd H x o') h' := fun b u q => by
  have nown : ∀ c y, H c = some (.own y) → c ≠ x := fun c y r z => by subst z; rw [r] at mu; exact mu
  have ntup : ∀ c xs, H c = some (.tup xs) → c ≠ x := fun c xs r z => by subst z; rw [r] at mu; exact mu
  by_cases hb : b = x
  · subst hb; rw [upd_same] at q; cases q; exact new
  · rw [upd_ne hb] at q
    by_cases hbe : b = e
    · have q' : H b = some (.own x) := by
        rcases he with z | z
        · exact absurd (hbe.trans z) hb
        · rw [hbe]; exact z
      rw [q] at q'; cases q'
      obtain ⟨v, hv⟩ := heo
      exact ⟨v, by rw [hbe]; exact hv⟩
    · refine (ok b u q).stay (fun c v hc r => k c v ?_ r) (fun c r => by rw [upd_ne (nown c b r)]; exact r) fun c xs r => by rw [upd_ne (ntup c xs r)]; exact r
      rcases hc with rfl | hc
      · exact hbe
      · rintro rfl
        rcases he with z | z
        · exact nown c b hc z
        · rw [hc] at z; cases z; exact hb rfl
end
structure Un (fs ex : List Addr) (H H' : Hp) (h h' : Heap) : Prop where
  keep : ∀ b o, h.get? b = some o → H b = none → b ∉ fs → b ∉ ex → h'.get? b = some o
  slot : ∀ b o, h.get? b = some o → H b = none → b ∈ fs → b ∉ ex → ∃ sl, h'.get? b = some { o with slots := sl }
  free : ∀ b o, h.get? b = some o → H b = none → b ∉ ex → H' b = none
  there : ∀ b o, h.get? b = some o → b ∉ ex → ∃ o', h'.get? b = some o'
  tups : ∀ b xs, H b = some (.tup xs) → H' b = some (.tup xs)
  frzs : ∀ b o u, H b = some (.frz o u) → H' b = some (.frz o u)
  tbls : ∀ b ps, H b = some (.tbl ps) → ∃ more, H' b = some (.tbl (ps ++ more))
section
variable {fs fs' ex ex' : List Addr} {H H1 H2 : Hp} {h h1 h2 h' : Heap} {a x e : Addr} {o : HO}
theorem Un.any (u : Un fs ex H H1 h h1) {b : Addr} {ob : Obj} (q : h.get? b = some ob) (n : H b = none) (hx : b ∉ ex) : ∃ sl, h1.get? b = some { ob with slots := sl } := by
  by_cases hb : b ∈ fs
  · exact u.slot b ob q n hb hx
  · exact ⟨ob.slots, u.keep b ob q n hb hx⟩
theorem Un.trans (a : Un fs ex H H1 h h1) (b : Un fs ex H1 H2 h1 h2) : Un fs ex H H2 h h2 where
  keep := fun c ob q n hc hx => b.keep c ob (a.keep c ob q n hc hx) (a.free c ob q n hx) hc hx
  slot := fun c ob q n hc hx => by
    obtain ⟨sl, e1⟩ := a.slot c ob q n hc hx
    obtain ⟨sl', e2⟩ := b.slot c _ e1 (a.free c ob q n hx) hc hx
    exact ⟨sl', e2⟩
  free := fun c ob q n hx => by
    obtain ⟨o', e1⟩ := a.there c ob q hx
    exact b.free c o' e1 (a.free c ob q n hx) hx
  there := fun c ob q hx => by
    obtain ⟨o', e1⟩ := a.there c ob q hx
    exact b.there c o' e1 hx
  tups := fun c xs q => b.tups c xs (a.tups c xs q)
  frzs := fun c ob xs q => b.frzs c ob xs (a.frzs c ob xs q)
  tbls := fun c ps q => by
    obtain ⟨m1, e1⟩ := a.tbls c ps q
    obtain ⟨m2, e2⟩ := b.tbls c _ e1
    exact ⟨m1 ++ m2, by rw [e2, Array.append_assoc]⟩
theorem Un.kept (k : ∀ b u, h.get? b = some u → h'.get? b = some u) : Un fs ex H H h h' :=
  ⟨fun b ob q _ _ _ => k b ob q, fun b ob q _ _ _ => ⟨ob.slots, k b ob q⟩, fun _ _ _ n _ => n, fun b ob q _ => ⟨ob, k b ob q⟩, fun _ _ q => q, fun _ _ _ q => q, fun _ ps q => ⟨#[], by rw [q]; simp⟩⟩
theorem Un.refl : Un fs ex H H h h := Un.kept fun _ _ q => q
theorem Un.laid (k : ∀ b u, h.get? b = some u → h'.get? b = some u) (hp : h.objs.size ≤ a) (hn : H a = none) : Un fs ex H (upd H a o) h h' where
  keep := fun b u q _ _ _ => k b u q
  slot := fun b u q _ _ _ => ⟨u.slots, k b u q⟩
  free := fun b u q n _ => by rw [upd_ne (Nat.ne_of_lt (Nat.lt_of_lt_of_le (Heap.lt_size q) hp))]; exact n
  there := fun b u q _ => ⟨u, k b u q⟩
  tups := fun b xs q => by rw [upd_ne (ne_of_none q hn)]; exact q
  frzs := fun b u xs q => by rw [upd_ne (ne_of_none q hn)]; exact q
  tbls := fun b ps q => ⟨#[], by rw [upd_ne (ne_of_none q hn), q]; simp⟩
theorem Un.write (mu : Mut (H x)) (he : e = x ∨ H e = some (.own x)) (k : ∀ b u, b ≠ e → h.get? b = some u → h'.get? b = some u) (heo : ∃ u, h'.get? e = some u) : Un fs ex H (upd H x o) h h' := by
  have hx : ∀ b, H b = none → b ≠ x := fun b n z => by subst z; rw [n] at mu; exact mu
  have hb : ∀ b, H b = none → b ≠ e := fun b n z => by
    subst z
    rcases he with r | r
    · exact hx b n r
    · rw [n] at r; cases r
  have hm : ∀ b u, H b = some u → ¬ Mut (some u) → b ≠ x := fun b u q nm z => by subst z; rw [q] at mu; exact nm mu
  refine ⟨fun b u q n _ _ => k b u (hb b n) q, fun b u q n _ _ => ⟨u.slots, k b u (hb b n) q⟩, fun b u q n _ => by rw [upd_ne (hx b n)]; exact n, fun b u q _ => ?_,
    fun b xs q => by rw [upd_ne (hm b _ q fun z => z)]; exact q, fun b u xs q => by rw [upd_ne (hm b _ q fun z => z)]; exact q, fun b ps q => ⟨#[], by rw [upd_ne (hm b _ q fun z => z), q]; simp⟩⟩
  by_cases hbe : b = e
  · subst hbe; exact heo
  · exact ⟨u, k b u hbe q⟩
theorem Un.mono (u : Un fs ex H H1 h h1) (hs : ∀ b ∈ fs, b ∈ fs') (hx : ∀ b ∈ ex, b ∈ ex') : Un fs' ex' H H1 h h1 :=
  ⟨fun b ob q n hb he => u.keep b ob q n (fun z => hb (hs b z)) fun z => he (hx b z), fun _ _ q n _ he => u.any q n fun z => he (hx _ z), fun b ob q n he => u.free b ob q n fun z => he (hx b z), fun b ob q he => u.there b ob q fun z => he (hx b z), u.tups, u.frzs, u.tbls⟩
end
noncomputable def trk (h : Heap) (H : Hp) : List Addr := (List.range h.objs.size).filter fun a => (H a).isSome
noncomputable def hidT (h : Heap) (H : Hp) : Heap := PySem.W.hideAll h (trk h H)
theorem hidT_size (h : Heap) (H : Hp) : (hidT h H).objs.size = h.objs.size := PySem.W.hideAll_size _ _
theorem hidT_get {h : Heap} {H : Hp} {b : Addr} {o : Obj} (e : h.get? b = some o) (n : H b = none) : (hidT h H).get? b = some o :=
  PySem.W.hideAll_get _ e fun hm => by
    have q : (H b).isSome = true := (List.mem_filter.mp hm).2
    rw [n] at q; simp at q
theorem of_hidT {h : Heap} {H : Hp} {b : Addr} {o : Obj} (e : (hidT h H).get? b = some o) : h.get? b = some o ∧ H b = none := by
  have e' : h.get? b = some o := PySem.W.of_hideAll (trk h H) e
  refine ⟨e', ?_⟩
  cases q : H b with
  | none => rfl
  | some x =>
    have hm : b ∈ trk h H := List.mem_filter.mpr ⟨List.mem_range.mpr (Heap.lt_size e'), by simp [q]⟩
    have z : (hidT h H).get? b = none := PySem.W.hideAll_none (trk h H) hm
    rw [z] at e; cases e
noncomputable def allNews (g h : Heap) (L : Addr) : List (Addr × Obj) := (List.range h.objs.size).filterMap fun a => if a = L ∨ (g.get? a).isSome = true then none else (h.get? a).map fun o => (a, o)
noncomputable def rest (g h : Heap) (L d : Addr) : List (Addr × Obj) := (allNews g h L).filter fun p => decide (p.1 ≠ d)
end L2
namespace L2
open PySem PySem.Spec PyProof.Rows
structure Mod (K : PySem.W.Frag) (mg : Str → Option Value) (base : Heap) : Prop where
  kin : K.In base
  glob : base.Ns mainGlobals mg
  blt : ∃ mb, base.Ns builtinsNs mb ∧ ∀ x : Str, x ≠ "__name__" → mb x = bootBuiltins x
  nolimit : base.NoLimit
structure Cx where
  prog : Program
  w : World
  K : PySem.W.Frag
  mg : Str → Option Value
  base : Heap
  A : Around
  N : List Str
  s₀ : Shared
  H₀ : Hp
  env : Env
  outer : List Env
  stack : List Env
  ex : List Addr
  fn : Str → Bool
  calm : Bool
  pn : List (Addr × Obj)
  xe : Value → Shared → Prop
noncomputable def frs (l : List Env) : List Addr := l.filterMap (·.frame)
noncomputable abbrev Cx.fs (X : Cx) : List Addr := frs X.outer
noncomputable def Vis (sc : Scope) (x : Str) : Prop := sc.names.lookup x = some .local ∨ sc.names.lookup x = some .cell ∨ sc.names.lookup x = some .free
noncomputable def Loc (sc : Scope) (x : Str) : Prop := sc.names.lookup x = some .local ∨ sc.names.lookup x = some .cell
noncomputable def Look (env : Env) (h : Heap) (m : Str → Option Value) (x : Str) (u : Value) : Prop :=
  (env.kindOf x = some .local ∧ m x = some u) ∨ ((env.kindOf x = some .cell ∨ env.kindOf x = some .free) ∧ ∃ c, env.cells.lookup x = some c ∧ h.IsCell c (some u))
structure Cx.Ok (X : Cx) : Prop where
  mod : Mod X.K X.mg X.base
  kind : X.env.scope.kind = .function
  glob : X.env.globals = mainGlobals
  blt : X.env.builtins = builtinsNs
  above : X.s₀.heap.objs.size ≤ X.env.locals
  inj : ∀ x y c, X.env.cells.lookup x = some c → X.env.cells.lookup y = some c → x = y
  has : ∀ x, (X.env.kindOf x = some .cell ∨ X.env.kindOf x = some .free) → ∃ c, X.env.cells.lookup x = some c
  cab : ∀ x c, X.fn x = true → X.env.cells.lookup x = some c → X.s₀.heap.objs.size ≤ c
  hd : X.calm = true → X.A.handled = none
  frames : X.A.frames = some X.stack
  stk : X.stack = X.outer ∨ (X.stack = X.env :: X.outer ∧ X.env.frame = some X.env.locals)
  exf : ∀ b ∈ X.ex, b ≠ X.env.locals ∧ ∀ x c, X.env.cells.lookup x = some c → c ≠ b
  bs : ∀ b o, X.base.get? b = some o → X.s₀.heap.get? b = some o ∧ X.H₀ b = none
  bsz : X.base.objs.size ≤ X.s₀.heap.objs.size
  noex : ∀ b o, X.base.get? b = some o → b ∉ X.ex
  exfs : ∀ b ∈ X.ex, b ∉ X.fs
  funs : X.s₀.heap.FunFrames X.base X.outer
  frf : ∀ b ∈ X.fs, X.H₀ b = none
structure Inv (X : Cx) (pins : List (Addr × Obj)) (σ : List (Option V)) (H : Hp) (s : Shared) : Prop where
  ok : X.Ok
  os : s.os = X.s₀.os
  bare : AllBare s.gens
  base : Un X.fs X.ex X.H₀ H X.s₀.heap s.heap
  loc : ∃ m, s.heap.Ns X.env.locals m ∧ ∀ (i : Nat) (x : Str) (v : V), X.N[i]? = some x → σ[i]? = some (some v) → Vis X.env.scope x → ∃ u, RelV v u ∧ Look X.env s.heap m x u
  cell : ∀ x c, X.env.cells.lookup x = some c → ∃ v, s.heap.IsCell c v
  free : H X.env.locals = none
  freeC : ∀ x c, X.env.cells.lookup x = some c → H c = none
  pin : ∀ p ∈ X.pn ++ pins, s.heap.get? p.1 = some p.2 ∧ H p.1 = none ∧ p.1 ≠ X.env.locals ∧ p.1 ∉ X.fs ∧ ∀ v, p.2.data ≠ .cell v
  hok : HOk X.prog X.w H s.heap
  len : σ.length = X.N.length
section
variable {X : Cx} {pins : List (Addr × Obj)} {σ : List (Option V)} {H H' : Hp} {s : Shared} {h' : Heap}
theorem Cx.Ok.nofr (ok : X.Ok) {b : Addr} {o : Obj} (e : X.base.get? b = some o) : b ∉ X.fs := fun hb => by
  have := (ok.funs.mem hb).1
  rw [e] at this; cases this
theorem Inv.bs (I : Inv X pins σ H s) : ∀ b o, X.base.get? b = some o → s.heap.get? b = some o ∧ H b = none := fun b o e =>
  ⟨I.base.keep b o (I.ok.bs b o e).1 (I.ok.bs b o e).2 (I.ok.nofr e) (I.ok.noex b o e), I.base.free b o (I.ok.bs b o e).1 (I.ok.bs b o e).2 (I.ok.noex b o e)⟩
theorem Inv.bk (I : Inv X pins σ H s) : ∀ b o, X.base.get? b = some o → s.heap.get? b = some o := fun b o e => (I.bs b o e).1
theorem Inv.mod (I : Inv X pins σ H s) : Mod X.K X.mg X.base := I.ok.mod
theorem Inv.kIn (I : Inv X pins σ H s) : X.K.In s.heap := I.ok.mod.kin.keeps I.bk
theorem Inv.nolimit (I : Inv X pins σ H s) : s.heap.NoLimit := I.ok.mod.nolimit.keeps I.bk
theorem Inv.fr (I : Inv X pins σ H s) : ∃ m, Fr X.base X.env.locals s.heap m :=
  let ⟨m, hn, _⟩ := I.loc
  ⟨m, hn, I.bk, Nat.le_trans I.ok.bsz I.ok.above⟩
theorem Inv.lt (I : Inv X pins σ H s) : X.env.locals < s.heap.objs.size := let ⟨_, hn, _⟩ := I.loc; hn.lt
theorem Inv.sz (I : Inv X pins σ H s) : X.s₀.heap.objs.size ≤ s.heap.objs.size := Nat.le_trans I.ok.above (Nat.le_of_lt I.lt)
theorem Inv.nofs (I : Inv X pins σ H s) {a : Addr} (h : s.heap.objs.size ≤ a) : a ∉ X.fs := fun hb => by
  obtain ⟨_, o, ho, _⟩ := I.ok.funs.mem hb
  exact absurd (Nat.lt_of_lt_of_le (Heap.lt_size ho) (Nat.le_trans I.sz h)) (Nat.lt_irrefl _)
theorem Inv.cne (I : Inv X pins σ H s) : ∀ x c, X.env.cells.lookup x = some c → c ≠ X.env.locals := fun x c e z => by
  obtain ⟨v, o, ho, hd⟩ := I.cell x c e
  obtain ⟨m, ⟨o', es, ep, ho', hd', _⟩, _⟩ := I.loc
  rw [z, ho'] at ho; cases ho; rw [hd'] at hd; cases hd
theorem Inv.funs (I : Inv X pins σ H s) : s.heap.FunFrames X.base X.outer := by
  have all : ∀ (l : List Env), (∀ b ∈ frs l, b ∈ X.fs) → X.s₀.heap.FunFrames X.base l → s.heap.FunFrames X.base l := by
    intro l
    induction l with
    | nil => intro _ _; trivial
    | cons env r ih =>
      intro hs hl
      obtain ⟨hk, ⟨L, o, hf, hn, ho, hd⟩, hr⟩ := hl
      have hL : L ∈ X.fs := hs L (by unfold frs; rw [List.filterMap_cons, hf]; exact List.mem_cons_self)
      obtain ⟨sl, e⟩ := I.base.slot L o ho (I.ok.frf L hL) hL fun z => I.ok.exfs L z hL
      exact ⟨hk, ⟨L, _, hf, hn, e, hd⟩, ih (fun b hb => hs b (by unfold frs; rw [List.filterMap_cons, hf]; exact List.mem_cons_of_mem _ hb)) hr⟩
  exact all X.outer (fun _ hb => hb) I.ok.funs
theorem Inv.stack (I : Inv X pins σ H s) : s.heap.FunFrames X.base X.stack := by
  rcases I.ok.stk with e | ⟨e, hf⟩
  · rw [e]; exact I.funs
  · rw [e]
    obtain ⟨m, hn, _⟩ := I.loc
    refine .cons (by rw [I.ok.kind]; decide) hf hn ?_ I.funs
    exact Heap.get?_none_of_le (Nat.le_trans I.ok.bsz I.ok.above)
theorem Inv.stkSub (I : Inv X pins σ H s) : ∀ b ∈ frs X.stack, b ∈ X.env.locals :: X.fs := fun b hb => by
  rcases I.ok.stk with e | ⟨e, hf⟩
  · rw [e] at hb; exact List.mem_cons_of_mem _ hb
  · rw [e] at hb
    unfold frs at hb
    rw [List.filterMap_cons, hf] at hb
    exact hb
theorem Inv.stkFree (I : Inv X pins σ H s) : ∀ b ∈ frs X.stack, H b = none := fun b hb => by
  rcases List.mem_cons.mp (I.stkSub b hb) with e | hb
  · rw [e]; exact I.free
  · obtain ⟨_, o, ho, _⟩ := I.ok.funs.mem hb
    exact I.base.free b o ho (I.ok.frf b hb) fun z => I.ok.exfs b z hb
theorem Inv.step {g' : Array GenState} {t' : Nat} {d' : Drawn} {ch : List Addr} (I : Inv X pins σ H s)
    (hch : ∀ b ∈ ch, (b ∈ X.ex ∨ X.s₀.heap.objs.size ≤ b) ∧ b ≠ X.env.locals ∧ (∀ x c, X.env.cells.lookup x = some c → c ≠ b) ∧ ∀ p ∈ X.pn ++ pins, p.1 ≠ b)
    (keep : ∀ b o, b ≠ X.env.locals → b ∉ X.fs → b ∉ ch → s.heap.get? b = some o → H b = none → h'.get? b = some o)
    (slot : ∀ b o, b ≠ X.env.locals → b ∈ X.fs → b ∉ ch → s.heap.get? b = some o → H b = none → ∃ sl, h'.get? b = some { o with slots := sl }) (free : ∀ b o, b ∉ ch → s.heap.get? b = some o → H b = none → H' b = none)
    (there : ∀ b o, b ∉ ch → s.heap.get? b = some o → ∃ o', h'.get? b = some o')
    (tups : ∀ b xs, H b = some (.tup xs) → H' b = some (.tup xs)) (frzs : ∀ b o u, H b = some (.frz o u) → H' b = some (.frz o u)) (tbls : ∀ b ps, H b = some (.tbl ps) → ∃ more, H' b = some (.tbl (ps ++ more)))
    (ns : ∀ m, s.heap.Ns X.env.locals m → h'.Ns X.env.locals m) (hok : HOk X.prog X.w H' h') (hg : AllBare g') :
    Inv X pins σ H' { s with heap := h', gens := g', drawn := d', toks := t' } := by
  have neL : ∀ b o, X.s₀.heap.get? b = some o → b ≠ X.env.locals := fun b o e => Nat.ne_of_lt (Nat.lt_of_lt_of_le (Heap.lt_size e) I.ok.above)
  have neC : ∀ b o, X.s₀.heap.get? b = some o → b ∉ X.ex → b ∉ ch := fun b o e hx hb => by
    rcases (hch b hb).1 with z | z
    · exact hx z
    · exact absurd (Nat.lt_of_lt_of_le (Heap.lt_size e) z) (Nat.lt_irrefl _)
  have cellK : ∀ x c, X.env.cells.lookup x = some c → ∀ v, s.heap.IsCell c v → h'.IsCell c v := fun x c e v ⟨o, ho, hd⟩ => by
    have nch : c ∉ ch := fun z => (hch c z).2.2.1 x c e rfl
    by_cases hc : c ∈ X.fs
    · obtain ⟨sl, q⟩ := slot c o (I.cne x c e) hc nch ho (I.freeC x c e)
      exact ⟨_, q, hd⟩
    · exact ⟨o, keep c o (I.cne x c e) hc nch ho (I.freeC x c e), hd⟩
  refine ⟨I.ok, I.os, hg, ⟨fun b o e n hb hx => ?_, fun b o e n hb hx => ?_, fun b o e n hx => ?_, fun b o e hx => ?_, fun b xs e => tups b xs (I.base.tups b xs e), fun b o xs e => frzs b o xs (I.base.frzs b o xs e), fun b ps e => ?_⟩, ?_, fun x c e => ?_, ?_, fun x c e => ?_, fun p hp => ?_, hok, I.len⟩
  · exact keep b o (neL b o e) hb (neC b o e hx) (I.base.keep b o e n hb hx) (I.base.free b o e n hx)
  · obtain ⟨sl, e1⟩ := I.base.slot b o e n hb hx
    obtain ⟨sl', e2⟩ := slot b _ (neL b o e) hb (neC b o e hx) e1 (I.base.free b o e n hx)
    exact ⟨sl', e2⟩
  · obtain ⟨o', e1⟩ := I.base.there b o e hx
    exact free b o' (neC b o e hx) e1 (I.base.free b o e n hx)
  · obtain ⟨o', e1⟩ := I.base.there b o e hx
    exact there b o' (neC b o e hx) e1
  · obtain ⟨m1, e1⟩ := I.base.tbls b ps e
    obtain ⟨m2, e2⟩ := tbls b _ e1
    exact ⟨m1 ++ m2, by rw [e2, Array.append_assoc]⟩
  · obtain ⟨m, hn, hl⟩ := I.loc
    refine ⟨m, ns m hn, fun i x v e1 e2 e3 => ?_⟩
    obtain ⟨u, r, l⟩ := hl i x v e1 e2 e3
    refine ⟨u, r, ?_⟩
    rcases l with l | ⟨k, c, e, z⟩
    · exact .inl l
    · exact .inr ⟨k, c, e, cellK x c e _ z⟩
  · obtain ⟨v, z⟩ := I.cell x c e
    exact ⟨v, cellK x c e v z⟩
  · obtain ⟨m, ⟨o, _, _, ho, _⟩, _⟩ := I.loc
    exact free _ o (fun z => (hch _ z).2.1 rfl) ho I.free
  · obtain ⟨v, o, ho, hd⟩ := I.cell x c e
    exact free c o (fun z => (hch c z).2.2.1 x c e rfl) ho (I.freeC x c e)
  · obtain ⟨e, n, ne, nf, d⟩ := I.pin p hp
    have nch : p.1 ∉ ch := fun z => (hch p.1 z).2.2.2 p hp rfl
    exact ⟨keep p.1 p.2 ne nf nch e n, free p.1 p.2 nch e n, ne, nf, d⟩
theorem Inv.un {t' : Nat} (I : Inv X pins σ H s) (u : Un X.fs [] H H' s.heap h') (hok : HOk X.prog X.w H' h') : Inv X pins σ H' { s with heap := h', toks := t' } := by
  obtain ⟨m, ⟨o, es, ep, ho, r⟩, _⟩ := id I.loc
  obtain ⟨sl, hL⟩ := u.any ho I.free (by simp)
  exact I.step (g' := s.gens) (d' := s.drawn) (ch := []) (fun _ z => nomatch z) (fun b o _ hb _ e n => u.keep b o e n hb (by simp)) (fun b o _ hb _ e n => u.slot b o e n hb (by simp)) (fun b o _ e n => u.free b o e n (by simp)) (fun b o _ e => u.there b o e (by simp)) u.tups u.frzs u.tbls (fun m' hm => by
    obtain ⟨o', es', ep', ho', r'⟩ := hm
    rw [ho] at ho'; cases ho'
    exact ⟨_, es', ep', hL, r'⟩) hok I.bare
theorem Inv.call {g' : Array GenState} {t' : Nat} {d' : Drawn} {ch : List Addr} (I : Inv X pins σ H s) (u : Un (frs X.stack) ch H H' s.heap h') (hok : HOk X.prog X.w H' h') (hg : AllBare g')
    (hch : ∀ b ∈ ch, (b ∈ X.ex ∨ X.s₀.heap.objs.size ≤ b) ∧ b ≠ X.env.locals ∧ (∀ x c, X.env.cells.lookup x = some c → c ≠ b) ∧ ∀ p ∈ X.pn ++ pins, p.1 ≠ b) :
    Inv X pins σ H' { s with heap := h', gens := g', drawn := d', toks := t' } := by
  obtain ⟨m, ⟨o, es, ep, ho, r⟩, _⟩ := id I.loc
  obtain ⟨sl, hL⟩ := u.any ho I.free fun z => (hch _ z).2.1 rfl
  exact I.step (ch := ch) hch (fun b o hL hb hc e n => u.keep b o e n (fun z => (List.mem_cons.mp (I.stkSub b z)).elim hL hb) hc) (fun b o _ _ hc e n => u.any e n hc) (fun b o hc e n => u.free b o e n hc) (fun b o hc e => u.there b o e hc) u.tups u.frzs u.tbls (fun m' hm => by
    obtain ⟨o', es', ep', ho', r'⟩ := hm
    rw [ho] at ho'; cases ho'
    exact ⟨_, es', ep', hL, r'⟩) hok hg
theorem Inv.turned {t' : Nat} {it : Addr} (I : Inv X pins σ H s) (k : ∀ b o, b ≠ it → s.heap.get? b = some o → h'.get? b = some o) (hn : H it = none) (hL : it ≠ X.env.locals)
    (h1 : it ∈ X.ex ∨ X.s₀.heap.objs.size ≤ it) (h2 : ∀ x c, X.env.cells.lookup x = some c → c ≠ it) (h3 : ∀ p ∈ X.pn ++ pins, p.1 ≠ it) : Inv X pins σ H { s with heap := h', toks := t' } := by
  have nit : ∀ b u, H b = some u → b ≠ it := fun b u e z => by rw [z, hn] at e; cases e
  refine I.step (g' := s.gens) (d' := s.drawn) (ch := [it]) (fun b hb => ?_) (fun b o _ _ hc e _ => k b o (fun z => hc (by simp [z])) e) (fun b o _ _ hc e _ => ⟨o.slots, k b o (fun z => hc (by simp [z])) e⟩) (fun _ _ _ _ n => n)
    (fun b o hc e => ⟨o, k b o (fun z => hc (by simp [z])) e⟩) (fun _ _ e => e) (fun _ _ _ e => e) (fun b ps e => ⟨#[], by rw [e]; simp⟩) (fun m hm => ?_) (fun b u e => ?_) I.bare
  · have e : b = it := by simpa using hb
    subst e
    exact ⟨h1, hL, h2, h3⟩
  · obtain ⟨o, es, ep, ho, r⟩ := hm
    exact ⟨o, es, ep, k _ o (Ne.symm hL) ho, r⟩
  · refine (I.hok b u e).stay (fun c v hc q => k c v ?_ q) (fun _ q => q) fun _ _ q => q
    rcases hc with z | z
    · rw [z]; exact nit b u e
    · exact nit c _ z
theorem Inv.tok (I : Inv X pins σ H s) (t : Nat) : Inv X pins σ H { s with toks := t } := I.un (h' := s.heap) (t' := t) Un.refl I.hok
theorem Inv.kept {t' : Nat} (I : Inv X pins σ H s) (k : ∀ b u, s.heap.get? b = some u → h'.get? b = some u) : Inv X pins σ H { s with heap := h', toks := t' } := I.un (Un.kept k) (I.hok.kept k)
theorem Inv.laid {a : Addr} {o : HO} {t' : Nat} (I : Inv X pins σ H s) (k : ∀ b u, s.heap.get? b = some u → h'.get? b = some u) (hp : s.heap.objs.size ≤ a) (new : ObjOk X.prog X.w (upd H a o) h' a o) :
    Inv X pins σ (upd H a o) { s with heap := h', toks := t' } := I.un (Un.laid k hp (I.hok.fresh hp)) (I.hok.laid k hp new)
theorem Inv.write {x e : Addr} {o : HO} {t' : Nat} (I : Inv X pins σ H s) (mu : Mut (H x)) (he : e = x ∨ H e = some (.own x)) (k : ∀ b u, b ≠ e → s.heap.get? b = some u → h'.get? b = some u) (heo : ∃ u, h'.get? e = some u)
    (new : ObjOk X.prog X.w (upd H x o) h' x o) : Inv X pins σ (upd H x o) { s with heap := h', toks := t' } := I.un (Un.write mu he k heo) (I.hok.write mu he k heo new)
theorem Inv.weak {σ' : List (Option V)} (I : Inv X pins σ H s) (hl : σ'.length = σ.length) (w : ∀ (i : Nat) v, σ'[i]? = some (some v) → σ[i]? = some (some v)) : Inv X pins σ' H s :=
  ⟨I.ok, I.os, I.bare, I.base, let ⟨m, hn, hl'⟩ := I.loc; ⟨m, hn, fun i x v e1 e2 e3 => hl' i x v e1 (w i v e2) e3⟩, I.cell, I.free, I.freeC, I.pin, I.hok, hl.trans I.len⟩
theorem Inv.pins_of {pins' : List (Addr × Obj)} (I : Inv X pins σ H s) (h : ∀ p ∈ pins', s.heap.get? p.1 = some p.2 ∧ H p.1 = none ∧ p.1 ≠ X.env.locals ∧ p.1 ∉ X.fs ∧ ∀ v, p.2.data ≠ .cell v) : Inv X pins' σ H s :=
  ⟨I.ok, I.os, I.bare, I.base, I.loc, I.cell, I.free, I.freeC, fun p hp => (List.mem_append.mp hp).elim (fun z => I.pin p (List.mem_append_left _ z)) (h p), I.hok, I.len⟩
theorem nodup_ix {N : List Str} (hN : N.Nodup) {i j : Nat} {x : Str} (a : N[i]? = some x) (b : N[j]? = some x) : i = j := by
  obtain ⟨h1, e1⟩ := List.getElem?_eq_some_iff.mp a
  obtain ⟨h2, e2⟩ := List.getElem?_eq_some_iff.mp b
  exact (List.getElem_inj hN).mp (e1.trans e2.symm)
theorem store_ok2 {M : Model} {A : Around} {E : Value → Shared → Prop} {i : Nat} {x : Str} {v : V} {u : Value} {Q : Unit → Shared → Prop} (I : Inv X pins σ H s) (hN : X.N.Nodup) (hi : X.N[i]? = some x) (hx : Loc X.env.scope x) (r : RelV v u)
    (h : ∀ s', Inv X pins (σ.set i (some v)) H s' → (∃ a, Heap.SameBut a s.heap s'.heap ∧ (a = X.env.locals ∨ X.env.cells.lookup x = some a)) → Q () s') (hf : X.fn x = true ∨ X.env.scope.names.lookup x = some .local := by first | exact .inl rfl | exact .inr rfl | assumption) : wpAny M A (storeName X.env x u) Q E s := by
  obtain ⟨m, hn, hl⟩ := id I.loc
  have hcls : (X.env.scope.kind == .class || (X.env.scope.kind == .module && X.env.locals != X.env.globals)) = false := by rw [I.ok.kind]; rfl
  have hiσ : i < σ.length := by rw [I.len]; exact (List.getElem?_eq_some_iff.mp hi).1
  have cne := I.cne
  have tracked : ∀ {a : Addr} {h' : Heap}, (∃ o, s.heap.get? a = some o ∧ H a = none) → Heap.SameBut a s.heap h' → HOk X.prog X.w H h' := fun {a h'} ha hs b ob e => by
    obtain ⟨_, _, hfree⟩ := ha
    refine (I.hok b ob e).stay (fun c w' hc q => (hs.2 c ?_).trans q) (fun _ q => q) fun _ _ q => q
    rintro rfl
    rcases hc with rfl | hc
    · rw [hfree] at e; cases e
    · rw [hfree] at hc; cases hc
  rcases hx with hk | hk
  · refine wpAny_storeName_local hk hn (fun h' hn' hs => ?_) hcls
    obtain ⟨oL, _, _, hoL, _⟩ := id hn
    refine h _ ⟨I.ok, I.os, I.bare, ⟨fun b o e n hb hx => ?_, fun b o e n hb hx => ?_, I.base.free, fun b o e hx => ?_, I.base.tups, I.base.frzs, I.base.tbls⟩, ⟨_, hn', fun j y v' e1 e2 e3 => ?_⟩, fun y c e => ?_, I.free, I.freeC, fun p hp => ?_, tracked ⟨oL, hoL, I.free⟩ hs, by simpa using I.len⟩ ⟨_, hs, .inl rfl⟩
    · exact (hs.2 b (Nat.ne_of_lt (Nat.lt_of_lt_of_le (Heap.lt_size e) I.ok.above))).trans (I.base.keep b o e n hb hx)
    · obtain ⟨sl, e1⟩ := I.base.slot b o e n hb hx
      exact ⟨sl, (hs.2 b (Nat.ne_of_lt (Nat.lt_of_lt_of_le (Heap.lt_size e) I.ok.above))).trans e1⟩
    · obtain ⟨o', e1⟩ := I.base.there b o e hx
      exact ⟨o', (hs.2 b (Nat.ne_of_lt (Nat.lt_of_lt_of_le (Heap.lt_size e) I.ok.above))).trans e1⟩
    · by_cases hj : j = i
      · subst hj
        rw [hi] at e1; cases e1
        rw [List.getElem?_set_self hiσ] at e2
        cases e2
        exact ⟨u, r, .inl ⟨hk, by simp⟩⟩
      · rw [List.getElem?_set_ne (Ne.symm hj)] at e2
        obtain ⟨u', r', q⟩ := hl j y v' e1 e2 e3
        refine ⟨u', r', ?_⟩
        rcases q with ⟨k, e⟩ | ⟨k, c, e, z⟩
        · refine .inl ⟨k, ?_⟩
          have : y ≠ x := fun e => hj (nodup_ix hN e1 (e ▸ hi))
          simp [this, e]
        · exact .inr ⟨k, c, e, z.sameBut hs (cne y c e)⟩
    · obtain ⟨w', z⟩ := I.cell y c e
      exact ⟨w', z.sameBut hs (cne y c e)⟩
    · obtain ⟨e, n, ne, nf, d⟩ := I.pin p hp
      exact ⟨(hs.2 p.1 ne).trans e, n, ne, nf, d⟩
  · have hfn : X.fn x = true := by
      rcases hf with z | z
      · exact z
      · rw [z] at hk; cases hk
    obtain ⟨c, hc⟩ := I.ok.has x (.inl hk)
    obtain ⟨w', z⟩ := I.cell x c hc
    refine wpAny_storeName_cell I.ok.kind hk hc z (fun h' hc' hs => ?_)
    obtain ⟨oc, hoc, hocd⟩ := id z
    refine h { s with heap := h' } ⟨I.ok, I.os, I.bare, ⟨fun b o e n hb hx => ?_, fun b o e n hb hx => ?_, I.base.free, fun b o e hx => ?_, I.base.tups, I.base.frzs, I.base.tbls⟩, ⟨m, hn.sameBut hs (Ne.symm (cne x c hc)), fun j y v' e1 e2 e3 => ?_⟩, fun y c' e => ?_, I.free, I.freeC, fun p hp => ?_, tracked ⟨oc, hoc, I.freeC x c hc⟩ hs, by simpa using I.len⟩ ⟨c, hs, .inr hc⟩
    · exact (hs.2 b (Nat.ne_of_lt (Nat.lt_of_lt_of_le (Heap.lt_size e) (I.ok.cab x c hfn hc)))).trans (I.base.keep b o e n hb hx)
    · obtain ⟨sl, e1⟩ := I.base.slot b o e n hb hx
      exact ⟨sl, (hs.2 b (Nat.ne_of_lt (Nat.lt_of_lt_of_le (Heap.lt_size e) (I.ok.cab x c hfn hc)))).trans e1⟩
    · obtain ⟨o', e1⟩ := I.base.there b o e hx
      exact ⟨o', (hs.2 b (Nat.ne_of_lt (Nat.lt_of_lt_of_le (Heap.lt_size e) (I.ok.cab x c hfn hc)))).trans e1⟩
    · by_cases hj : j = i
      · subst hj
        rw [hi] at e1; cases e1
        rw [List.getElem?_set_self hiσ] at e2
        cases e2
        exact ⟨u, r, .inr ⟨.inl hk, c, hc, hc'⟩⟩
      · rw [List.getElem?_set_ne (Ne.symm hj)] at e2
        obtain ⟨u', r', q⟩ := hl j y v' e1 e2 e3
        refine ⟨u', r', ?_⟩
        rcases q with q | ⟨k, c', e, z'⟩
        · exact .inl q
        · refine .inr ⟨k, c', e, z'.sameBut hs ?_⟩
          rintro rfl
          exact hj (nodup_ix hN e1 (I.ok.inj _ _ _ e hc ▸ hi))
    · by_cases hcc : c' = c
      · subst hcc; exact ⟨_, hc'⟩
      · obtain ⟨w2, z2⟩ := I.cell y c' e
        exact ⟨w2, z2.sameBut hs hcc⟩
    · obtain ⟨e, n, ne, nf, d⟩ := I.pin p hp
      refine ⟨(hs.2 p.1 ?_).trans e, n, ne, nf, d⟩
      intro q
      rw [q, hoc] at e
      have q' : oc = p.2 := Option.some.inj e
      exact d w' (by rw [← q']; exact hocd)
theorem store_ok {M : Model} {A : Around} {E : Value → Shared → Prop} {i : Nat} {x : Str} {v : V} {u : Value} {Q : Unit → Shared → Prop} (I : Inv X pins σ H s) (hN : X.N.Nodup) (hi : X.N[i]? = some x) (hx : Loc X.env.scope x) (r : RelV v u)
    (h : ∀ s', Inv X pins (σ.set i (some v)) H s' → Q () s') (hf : X.fn x = true ∨ X.env.scope.names.lookup x = some .local := by first | exact .inl rfl | exact .inr rfl | assumption) : wpAny M A (storeName X.env x u) Q E s :=
  store_ok2 I hN hi hx r (fun s' I' _ => h s' I') hf
theorem Inv.call' {s' : Shared} {ch : List Addr} (I : Inv X pins σ H s) (ho : s'.os = s.os) (u : Un (frs X.stack) ch H H' s.heap s'.heap) (hok : HOk X.prog X.w H' s'.heap) (hg : AllBare s'.gens)
    (hch : ∀ b ∈ ch, (b ∈ X.ex ∨ X.s₀.heap.objs.size ≤ b) ∧ b ≠ X.env.locals ∧ (∀ x c, X.env.cells.lookup x = some c → c ≠ b) ∧ ∀ p ∈ X.pn ++ pins, p.1 ≠ b) : Inv X pins σ H' s' := by
  obtain ⟨h', g', d', t', o'⟩ := s'
  have e : o' = s.os := ho
  subst e
  exact I.call (g' := g') (t' := t') (d' := d') u hok hg hch
end
noncomputable abbrev XK := Value → Option Addr → Hp → Prop
noncomputable abbrev St := List (Option V)
noncomputable abbrev VK := V → Hp → Prop
noncomputable abbrev TE := St → Hp → VK → Prop
noncomputable abbrev TT := St → Hp → (Bool → Hp → Prop) → Prop
noncomputable abbrev TA := St → Hp → (List V → Hp → Prop) → Prop
structure Ends where
  nx : St → Hp → Prop
  rt : VK
  bk : St → Hp → Prop := fun _ _ => False
  ct : St → Hp → Prop := fun _ _ => False
noncomputable abbrev TS := Ends → St → Hp → Prop
noncomputable def EP (X : Cx) (pins : List (Addr × Obj)) (σ : St) (Q : VK) (u : Value) (s' : Shared) : Prop := ∃ v H', Inv X pins σ H' s' ∧ RelV v u ∧ Q v H'
noncomputable def TP (X : Cx) (pins : List (Addr × Obj)) (σ : St) (Q : Bool → Hp → Prop) (b : Bool) (s' : Shared) : Prop := ∃ H', Inv X pins σ H' s' ∧ Q b H'
noncomputable def AP (X : Cx) (pins : List (Addr × Obj)) (σ : St) (Q : List V → Hp → Prop) (us : List Value) (s' : Shared) : Prop := ∃ vs H', Inv X pins σ H' s' ∧ Vals vs us ∧ Q vs H'
noncomputable def SP (X : Cx) (pins : List (Addr × Obj)) (D : Ends) (f : Flow) (s' : Shared) : Prop :=
  match f with
  | .next => ∃ σ' H', Inv X pins σ' H' s' ∧ D.nx σ' H'
  | .brk => ∃ σ' H', Inv X pins σ' H' s' ∧ D.bk σ' H'
  | .cont => ∃ σ' H', Inv X pins σ' H' s' ∧ D.ct σ' H'
  | .ret u => ∃ v σ' H', Inv X pins σ' H' s' ∧ RelV v u ∧ D.rt v H'
noncomputable def PE (X : Cx) (e : Expr) (t : TE) : Prop :=
  ∀ (pins : List (Addr × Obj)) (s : Shared) (σ : St) (H : Hp) (Q : VK), Inv X pins σ H s → t σ H Q → wpAny (model X.prog X.w) X.A (eval e X.env) (EP X pins σ Q) X.xe s
noncomputable def PT (X : Cx) (e : Expr) (t : TT) : Prop :=
  ∀ (pins : List (Addr × Obj)) (s : Shared) (σ : St) (H : Hp) (Q : Bool → Hp → Prop), Inv X pins σ H s → t σ H Q → wpAny (model X.prog X.w) X.A (isTrue e X.env (eval e X.env)) (TP X pins σ Q) X.xe s
noncomputable def PW (X : Cx) (e : Expr) (t : TT) : Prop :=
  ∀ (whole : Sem Value) (pins : List (Addr × Obj)) (s : Shared) (σ : St) (H : Hp) (Q : Bool → Hp → Prop), Inv X pins σ H s → t σ H Q → wpAny (model X.prog X.w) X.A (isTrue e X.env whole) (TP X pins σ Q) X.xe s
theorem PW.pt {X : Cx} {e : Expr} {t : TT} (h : PW X e t) : PT X e t := h _
noncomputable def PA (X : Cx) (es : List Expr) (t : TA) : Prop :=
  ∀ (pos : Pos) (pins : List (Addr × Obj)) (s : Shared) (σ : St) (H : Hp) (Q : List V → Hp → Prop), Inv X pins σ H s → t σ H Q → wpAny (model X.prog X.w) X.A (spliced (backTo pos (starEach es X.env))) (AP X pins σ Q) X.xe s
noncomputable def PS (X : Cx) (st : Stmt) (t : TS) : Prop :=
  ∀ (pins : List (Addr × Obj)) (s : Shared) (σ : St) (H : Hp) (D : Ends), Inv X pins σ H s → t D σ H → wpAny (model X.prog X.w) X.A (exec st X.env) (SP X pins D) X.xe s
noncomputable def PSs (X : Cx) (st : List Stmt) (t : TS) : Prop :=
  ∀ (pins : List (Addr × Obj)) (s : Shared) (σ : St) (H : Hp) (D : Ends), Inv X pins σ H s → t D σ H → wpAny (model X.prog X.w) X.A (execs st X.env) (SP X pins D) X.xe s
theorem thn {α : Type} {t : Sem α} {Q Q' : α → Shared → Prop} {M : Model} {A : Around} {E : Value → Shared → Prop} {s : Shared} (h : wpAny M A t Q E s) (hQ : ∀ a s, Q a s → Q' a s) : wpAny M A t Q' E s := wpAny_mono h hQ fun _ _ x => x
end L2
namespace L2
open PySem PySem.Spec PyProof.Rows
section
variable {X : Cx}
noncomputable def tVar (i : Nat) : TE := fun σ H Q => ∃ v, σ[i]? = some (some v) ∧ Q v H
noncomputable def tC (v : V) : TE := fun _ H Q => Q v H
theorem pe_var {i : Nat} {x : Str} {pos : Pos} (hN : X.N[i]? = some x) (hv : Vis X.env.scope x) (hd : (x == ("__debug__" : Str)) = false := by decide) (hcd : (x == ("__classdict__" : Str)) = false := by decide) : PE X (.Name x pos) (tVar i) := by
  intro pins s σ H Q I h
  obtain ⟨v, e, h⟩ := h
  obtain ⟨m, hn, hl⟩ := I.loc
  obtain ⟨u, r, l⟩ := hl i x v hN e hv
  have fin : EP X pins σ Q u s := ⟨v, H, I, r, h⟩
  rcases l with ⟨hk, hm⟩ | ⟨hk, c, hc, hcell⟩
  · exact wpAny_Name (wpAny_loadName_local I.ok.kind hk hn hm fin) hd
  · rcases hk with hk | hk
    · exact wpAny_Name (wpAny_loadName_cell I.ok.kind hk hc hcell fin) hd
    · exact wpAny_Name (wpAny_loadName_free I.ok.kind hk hc hcell fin hcd) hd
theorem pe_int {i j pos} : PE X (.Constant (.int i) j pos) (tC (.int i)) := fun _ _ _ H _ I h => wpAny_Constant_int ⟨.int i, H, I.tok _, ⟨_, rfl⟩, h⟩
theorem pe_bl {b j pos} : PE X (.Constant (.bool b) j pos) (tC (.bl b)) := fun _ _ _ H _ I h => Constant_bool ⟨.bl b, H, I, rfl, h⟩
theorem pe_non {j pos} : PE X (.Constant .none j pos) (tC .non) := fun _ _ _ H _ I h => Constant_none ⟨.non, H, I, rfl, h⟩
theorem pe_str {x j pos} : PE X (.Constant (.str x) j pos) (tC (.str x)) := fun _ _ _ H _ I h => Calls.Constant_str ⟨.str x, H, I.tok _, ⟨_, rfl⟩, h⟩
noncomputable def Gl (X : Cx) (x : Str) : Prop := X.env.kindOf x = some .globalImplicit
theorem ld_glob {E : Value → Shared → Prop} {pins : List (Addr × Obj)} {s : Shared} {σ : St} {H : Hp} {x : Str} {u : Value} {pos : Pos} {Q : Value → Shared → Prop} (I : Inv X pins σ H s) (hg : Gl X x) (hm : X.mg x = some u) (h : Q u s)
    (hd : (x == ("__debug__" : Str)) = false := by decide) : wpAny (model X.prog X.w) X.A (eval (.Name x pos) X.env) Q E s :=
  Calls.Name_function_global I.ok.kind hg (Calls.loadGlobal_global (by rw [I.ok.glob]; exact I.mod.glob.keeps I.bk) hm h) hd
theorem ld_blt {E : Value → Shared → Prop} {pins : List (Addr × Obj)} {s : Shared} {σ : St} {H : Hp} {x : Str} {u : Value} {pos : Pos} {Q : Value → Shared → Prop} (I : Inv X pins σ H s) (hg : Gl X x) (hm : X.mg x = none) (hv : bootBuiltins x = some u) (h : Q u s)
    (hn : x ≠ "__name__" := by decide) (hd : (x == ("__debug__" : Str)) = false := by decide) : wpAny (model X.prog X.w) X.A (eval (.Name x pos) X.env) Q E s := by
  obtain ⟨mb, h1, h2⟩ := I.mod.blt
  exact Calls.Name_function_global I.ok.kind hg (Calls.loadGlobal_builtin (by rw [I.ok.glob]; exact I.mod.glob.keeps I.bk) hm (by rw [I.ok.blt]; exact h1.keeps I.bk) ((h2 x hn).trans hv) h) hd
theorem pe_glob {x : Str} {v : V} {u : Value} {pos : Pos} (hg : Gl X x) (hm : X.mg x = some u) (r : RelV v u) (hd : (x == ("__debug__" : Str)) = false := by decide) : PE X (.Name x pos) (tC v) :=
  fun _ _ _ H _ I h => ld_glob I hg hm ⟨v, H, I, r, h⟩ hd
theorem pe_bltn {x : Str} {v : V} {u : Value} {pos : Pos} (hg : Gl X x) (hm : X.mg x = none) (hv : bootBuiltins x = some u) (r : RelV v u) (hn : x ≠ "__name__" := by decide) (hd : (x == ("__debug__" : Str)) = false := by decide) : PE X (.Name x pos) (tC v) :=
  fun _ _ _ H _ I h => ld_blt I hg hm hv ⟨v, H, I, r, h⟩ hn hd
variable {a b : Expr} {ta tb : TE} {pos : Pos}
noncomputable def PC (X : Cx) (op : CmpOp) (a b : Expr) (t : TE) : Prop :=
  ∀ (pins : List (Addr × Obj)) (s : Shared) (σ : St) (H : Hp) (Q : VK), Inv X pins σ H s → t σ H Q →
    wpAny (model X.prog X.w) X.A (eval a X.env) (fun v s₁ => wpAny (model X.prog X.w) X.A (eval b X.env) (fun u s₂ => wpAny (model X.prog X.w) X.A (compareOp op v u) (EP X pins σ Q) X.xe s₂) X.xe s₁) X.xe s
theorem nobehind (b : Expr) {op : CmpOp} (h : op ≠ .In) (h2 : op ≠ .NotIn) : behindInMarks op b = false := by
  have e1 : (op == CmpOp.In) = false := by cases op <;> first | rfl | exact absurd rfl h
  have e2 : (op == CmpOp.NotIn) = false := by cases op <;> first | rfl | exact absurd rfl h2
  cases b <;> simp [behindInMarks, e1, e2]
noncomputable def tNotN (ta : TE) : TE := fun σ H Q => ta σ H fun x H1 => Q (.bl (!decide (x = .non))) H1
theorem RelV.none_iff {x : V} {v : Value} (r : RelV x v) : (v == Value.none) = decide (x = .non) := by
  cases x with
  | non => cases r; rfl
  | bl _ => cases r; rfl
  | int _ => obtain ⟨t, rfl⟩ := r; rfl
  | str _ => obtain ⟨t, rfl⟩ := r; rfl
  | byt _ => obtain ⟨t, rfl⟩ := r; rfl
  | flt _ => obtain ⟨t, rfl⟩ := r; rfl
  | ref _ => cases r; rfl
  | ty _ => cases r; rfl
theorem pc_notN {j pos'} (ha : PE X a ta) : PC X .IsNot a (.Constant .none j pos') (tNotN ta) := by
  intro pins s σ H Q I h
  refine thn (ha pins s σ H _ I h) fun v s1 ⟨x, H1, I1, r1, q1⟩ => ?_
  exact Constant_none (isnot_none_gen ⟨.bl _, H1, I1, by rw [r1.none_iff]; rfl, q1⟩)
noncomputable def tB (t : TE) : TT := fun σ H Q => t σ H fun x H1 => ∃ c, x = .bl c ∧ Q c H1
theorem pt_cmp {op : CmpOp} {t : TE} (h : PC X op a b t) (h1 : behindInMarks op b = false := by first | exact nobehind _ (by decide) (by decide) | rfl) : PT X (.Compare a [op] [b] pos) (tB t) := by
  intro pins s σ H Q I hw
  refine wpAny_isTrue_Compare1 (thn (h pins s σ H _ I hw) fun v s1 h1 => thn h1 fun u s2 h2 => thn h2 fun c s3 ⟨x, H1, I1, r1, q1⟩ => ?_) h1
  obtain ⟨d, rfl, q⟩ := q1
  cases r1
  exact wpAny_truthy_bool ⟨H1, I1, q⟩
theorem pt_val {e : Expr} {t : TE} (h : PE X e t) (he : ∀ whole, isTrue e X.env whole = (do let v ← whole; standAt e.pos; holding [v] (truthy v)) := by intro _; rfl) : PT X e (tB t) := by
  intro pins s σ H Q I hw
  refine isTrue_plain (thn (h pins s σ H _ I hw) fun v s1 ⟨x, H1, I1, r1, q1⟩ => ?_) (he _)
  obtain ⟨d, rfl, q⟩ := q1
  cases r1
  exact wpAny_truthy_bool ⟨H1, I1, q⟩
variable {tA tB' : TT} {rest : List Expr}
noncomputable def tAnd (t u : TT) : TT := fun σ H Q => t σ H fun c H1 => if c = true then u σ H1 Q else Q false H1
noncomputable def tOr (t u : TT) : TT := fun σ H Q => t σ H fun c H1 => if c = true then Q true H1 else u σ H1 Q
noncomputable def tNot (t : TT) : TT := fun σ H Q => t σ H fun c H1 => Q (!c) H1
theorem pw_and1 (ha : PT X a tA) : PW X (.BoolOp .And [a] pos) tA := by
  intro wh pins s σ H Q I h
  refine isTrue_and (thn (ha pins s σ H Q I h) fun c s1 e => ?_)
  cases c with
  | true => exact isTrue_and_nil e
  | false => exact e
theorem pw_or1 (ha : PT X a tA) : PW X (.BoolOp .Or [a] pos) tA := by
  intro wh pins s σ H Q I h
  refine isTrue_or (thn (ha pins s σ H Q I h) fun c s1 e => ?_)
  cases c with
  | false => exact isTrue_or_nil e
  | true => exact e
theorem pw_and (ha : PT X a tA) (hb : PW X (.BoolOp .And (b :: rest) pos) tB') : PW X (.BoolOp .And (a :: b :: rest) pos) (tAnd tA tB') := by
  intro wh pins s σ H Q I h
  refine isTrue_and (thn (ha pins s σ H _ I h) fun c s1 ⟨H1, I1, q1⟩ => ?_)
  cases c with
  | true => exact hb wh pins s1 σ H1 Q I1 q1
  | false => exact ⟨H1, I1, q1⟩
theorem pw_or (ha : PT X a tA) (hb : PW X (.BoolOp .Or (b :: rest) pos) tB') : PW X (.BoolOp .Or (a :: b :: rest) pos) (tOr tA tB') := by
  intro wh pins s σ H Q I h
  refine isTrue_or (thn (ha pins s σ H _ I h) fun c s1 ⟨H1, I1, q1⟩ => ?_)
  cases c with
  | true => exact ⟨H1, I1, q1⟩
  | false => exact hb wh pins s1 σ H1 Q I1 q1
theorem pt_not (ha : PT X a tA) : PT X (.UnaryOp .Not a pos) (tNot tA) := by
  intro pins s σ H Q I h
  exact isTrue_not (ha pins s σ H (fun c H1 => Q (!c) H1) I h)
noncomputable def tAndV (ta tb : TE) : TE := fun σ H Q => ta σ H fun x H1 => ∃ c, x = .bl c ∧ if c = true then tb σ H1 Q else Q (.bl false) H1
noncomputable def tOrV (ta tb : TE) : TE := fun σ H Q => ta σ H fun x H1 => ∃ c, x = .bl c ∧ if c = true then Q (.bl true) H1 else tb σ H1 Q
noncomputable def tNotV (ta : TE) : TE := fun σ H Q => ta σ H fun x H1 => ∃ c, x = .bl c ∧ Q (.bl (!c)) H1
theorem pe_one {op} {t : TE} (h : PE X a t) : PE X (.BoolOp op [a] pos) t := fun pins s σ H Q I hw => BoolOp_one (h pins s σ H Q I hw)
theorem pe_and (ha : PE X a ta) (hb : PE X (.BoolOp .And (b :: rest) pos) tb) : PE X (.BoolOp .And (a :: b :: rest) pos) (tAndV ta tb) := by
  intro pins s σ H Q I h
  refine BoolOp_and (thn (ha pins s σ H _ I h) fun v s1 ⟨x, H1, I1, r1, q1⟩ => ?_)
  obtain ⟨c, rfl, q1⟩ := q1
  cases r1
  refine wpAny_truthy_bool ?_
  cases c with
  | true => exact hb pins s1 σ H1 Q I1 q1
  | false => exact ⟨.bl false, H1, I1, rfl, q1⟩
theorem pe_or (ha : PE X a ta) (hb : PE X (.BoolOp .Or (b :: rest) pos) tb) : PE X (.BoolOp .Or (a :: b :: rest) pos) (tOrV ta tb) := by
  intro pins s σ H Q I h
  refine BoolOp_or (thn (ha pins s σ H _ I h) fun v s1 ⟨x, H1, I1, r1, q1⟩ => ?_)
  obtain ⟨c, rfl, q1⟩ := q1
  cases r1
  refine wpAny_truthy_bool ?_
  cases c with
  | false => exact hb pins s1 σ H1 Q I1 q1
  | true => exact ⟨.bl true, H1, I1, rfl, q1⟩
theorem pe_not (ha : PE X a ta) : PE X (.UnaryOp .Not a pos) (tNotV ta) := by
  intro pins s σ H Q I h
  refine UnaryOp_ (thn (ha pins s σ H _ I h) fun v s1 ⟨x, H1, I1, r1, q1⟩ => ?_)
  obtain ⟨c, rfl, q1⟩ := q1
  cases r1
  exact not_of (wpAny_truthy_bool ⟨.bl (!c), H1, I1, rfl, q1⟩)
end
end L2
namespace L2
open PySem PySem.Spec PyProof.Rows
noncomputable def SqL (K : PySem.W.Frag) (H : Hp) (a : Addr) (xs : List V) : Prop :=
  Rd H a (.lst xs) ∨
    ∃ (o : Obj) (its : Array Value) (n : Nat), K.lookup a = some o ∧ o.cls = .type "list" ∧ o.dict = none ∧ o.data = .seq its n ∧ its.size ≤ sizeLine ∧ Vals xs its.toList
noncomputable def SqT (K : PySem.W.Frag) (H : Hp) (a : Addr) (xs : List V) : Prop :=
  Rd H a (.tup xs) ∨
    ∃ (o : Obj) (its : Array Value) (n : Nat), K.lookup a = some o ∧ o.cls = .type "tuple" ∧ o.data = .seq its n ∧ its.size ≤ sizeLine ∧ Vals xs its.toList
noncomputable def absV : Value → Option V
  | .none => some .non
  | .bool b => some (.bl b)
  | .int i _ => some (.int i)
  | .str x _ => some (.str x)
  | .bytes b _ => some (.byt b)
  | .float b _ => some (.flt b)
  | .ref a => some (.ref a)
  | .type n => some (.ty n)
  | _ => none
theorem RelV.abs {x : V} {u : Value} (r : RelV x u) : absV u = some x := by
  cases x with
  | non => cases r; rfl
  | bl _ => cases r; rfl
  | int _ => obtain ⟨t, rfl⟩ := r; rfl
  | str _ => obtain ⟨t, rfl⟩ := r; rfl
  | byt _ => obtain ⟨t, rfl⟩ := r; rfl
  | flt _ => obtain ⟨t, rfl⟩ := r; rfl
  | ref _ => cases r; rfl
  | ty _ => cases r; rfl
theorem RelV.inj {x y : V} {u : Value} (r : RelV x u) (q : RelV y u) : x = y := Option.some.inj (r.abs.symm.trans q.abs)
theorem Vals.inj : ∀ {xs ys : List V} {us : List Value}, Vals xs us → Vals ys us → xs = ys
  | _, _, _, .nil, .nil => rfl
  | _, _, _, .cons r t, .cons r' t' => by rw [r.inj r', Vals.inj t t']
section
variable {X : Cx} {pins : List (Addr × Obj)} {σ : St} {H : Hp} {s : Shared} {a : Addr} {xs ys : List V}
theorem SqL.of {K : PySem.W.Frag} (h : H a = some (.lst xs)) : SqL K H a xs := .inl (.inl h)
theorem SqT.of {K : PySem.W.Frag} (h : H a = some (.tup xs)) : SqT K H a xs := .inl (.inl h)
theorem Inv.list (I : Inv X pins σ H s) (h : SqL X.K H a xs) : ∃ its : List Value, Vals xs its ∧ PlainL s.heap a its.toArray ∧ xs.length ≤ sizeLine := by
  rcases h with h | ⟨o, its, n, hk, hc, hd, hs, hz, r⟩
  · obtain ⟨z, its, n, r, e⟩ := h.ok I.hok
    exact ⟨its, r, ⟨_, n, e, rfl, rfl, rfl⟩, z⟩
  · refine ⟨its.toList, r, ⟨o, n, I.kIn a o hk, hc, hd, by simpa using hs⟩, ?_⟩
    have e := r.length
    simp only [Array.length_toList] at e
    omega
theorem Inv.tuple (I : Inv X pins σ H s) (h : SqT X.K H a xs) : ∃ its : List Value, Vals xs its ∧ IsTup s.heap a its.toArray ∧ xs.length ≤ sizeLine := by
  rcases h with h | ⟨o, its, n, hk, hc, hs, hz, r⟩
  · obtain ⟨z, its, r, p⟩ := h.ok I.hok
    exact ⟨its, r, p, z⟩
  · refine ⟨its.toList, r, ⟨o, I.kIn a o hk, hc, n, by simpa using hs⟩, ?_⟩
    have e := r.length
    simp only [Array.length_toList] at e
    omega
theorem Inv.list_inj (I : Inv X pins σ H s) (h : SqL X.K H a xs) (h' : SqL X.K H a ys) : xs = ys := by
  obtain ⟨its, r, ⟨o, n, e, _, _, d⟩, _⟩ := I.list h
  obtain ⟨its', r', ⟨o', n', e', _, _, d'⟩, _⟩ := I.list h'
  rw [e] at e'; cases e'
  rw [d] at d'
  injection d' with d1 _
  have : its = its' := by simpa using congrArg Array.toList d1
  subst this
  exact r.inj r'
theorem Inv.tuple_inj (I : Inv X pins σ H s) (h : SqT X.K H a xs) (h' : SqT X.K H a ys) : xs = ys := by
  obtain ⟨its, r, ⟨o, e, _, n, d⟩, _⟩ := I.tuple h
  obtain ⟨its', r', ⟨o', e', _, n', d'⟩, _⟩ := I.tuple h'
  rw [e] at e'; cases e'
  rw [d] at d'
  injection d' with d1 _
  have : its = its' := by simpa using congrArg Array.toList d1
  subst this
  exact r.inj r'
end
noncomputable abbrev Cx.wish (X : Cx) (E : Value → Shared → Prop) : Cx := { X with xe := E }
noncomputable abbrev Cx.nox (X : Cx) : Cx := X.wish fun _ _ => False
theorem Cx.Ok.wish {X : Cx} (ok : X.Ok) (E : Value → Shared → Prop) : (X.wish E).Ok :=
  ⟨ok.mod, ok.kind, ok.glob, ok.blt, ok.above, ok.inj, ok.has, ok.cab, ok.hd, ok.frames, ok.stk, ok.exf, ok.bs, ok.bsz, ok.noex, ok.exfs, ok.funs, ok.frf⟩
theorem Cx.Ok.unwish {X : Cx} {E : Value → Shared → Prop} (ok : (X.wish E).Ok) : X.Ok :=
  ⟨ok.mod, ok.kind, ok.glob, ok.blt, ok.above, ok.inj, ok.has, ok.cab, ok.hd, ok.frames, ok.stk, ok.exf, ok.bs, ok.bsz, ok.noex, ok.exfs, ok.funs, ok.frf⟩
section
variable {X : Cx} {pins : List (Addr × Obj)} {σ : St} {H : Hp} {s : Shared} {E : Value → Shared → Prop}
theorem Inv.wish (I : Inv X pins σ H s) (E : Value → Shared → Prop) : Inv (X.wish E) pins σ H s := ⟨I.ok.wish E, I.os, I.bare, I.base, I.loc, I.cell, I.free, I.freeC, I.pin, I.hok, I.len⟩
theorem Inv.unwish (I : Inv (X.wish E) pins σ H s) : Inv X pins σ H s := ⟨I.ok.unwish, I.os, I.bare, I.base, I.loc, I.cell, I.free, I.freeC, I.pin, I.hok, I.len⟩
theorem SP.unwish {D : Ends} {f : Flow} {s' : Shared} (h : SP (X.wish E) pins D f s') : SP X pins D f s' := by
  cases f with
  | next => obtain ⟨σ', H', I, q⟩ := h; exact ⟨σ', H', I.unwish, q⟩
  | brk => obtain ⟨σ', H', I, q⟩ := h; exact ⟨σ', H', I.unwish, q⟩
  | cont => obtain ⟨σ', H', I, q⟩ := h; exact ⟨σ', H', I.unwish, q⟩
  | ret u => obtain ⟨v, σ', H', I, r, q⟩ := h; exact ⟨v, σ', H', I.unwish, r, q⟩
theorem PE.nox {e : Expr} {t : TE} (h : PE X.nox e t) : PE X e t := fun pins s σ H Q I hw =>
  wpAny_mono (h pins s σ H Q (I.wish _) hw) (fun _ _ ⟨v, H', I', r, q⟩ => ⟨v, H', I'.unwish, r, q⟩) fun _ _ z => False.elim z
theorem PT.nox {e : Expr} {t : TT} (h : PT X.nox e t) : PT X e t := fun pins s σ H Q I hw =>
  wpAny_mono (h pins s σ H Q (I.wish _) hw) (fun _ _ ⟨H', I', q⟩ => ⟨H', I'.unwish, q⟩) fun _ _ z => False.elim z
theorem PSs.nox {st : List Stmt} {t : TS} (h : PSs X.nox st t) : PSs X st t := fun pins s σ H D I hw =>
  wpAny_mono (h pins s σ H D (I.wish _) hw) (fun _ _ q => q.unwish) fun _ _ z => False.elim z
end
section
variable {X : Cx} {st : Stmt} {rest : List Stmt} {t u : TS} {e : Expr} {te : TE} {pos : Pos}
noncomputable def tNext : TS := fun D σ H => D.nx σ H
noncomputable def tSeq (t u : TS) : TS := fun D σ H => t { D with nx := u D } σ H
theorem pss_nil : PSs X [] tNext := fun _ _ σ H _ I h => wpAny_execs_nil ⟨σ, H, I, h⟩
theorem pss_cons (h1 : PS X st t) (h2 : PSs X rest u) : PSs X (st :: rest) (tSeq t u) := by
  intro pins s σ H D I h
  refine wpAny_execs_cons (thn (h1 pins s σ H { D with nx := u D } I h) fun f s1 q => ?_)
  cases f with
  | next =>
    obtain ⟨σ', H', I', q⟩ := q
    exact h2 pins s1 σ' H' D I' q
  | ret v => exact q
  | brk => exact q
  | cont => exact q
theorem pss_one (h1 : PS X st t) : PSs X [st] t := by
  intro pins s σ H D I h
  refine wpAny_execs_cons (thn (h1 pins s σ H D I h) fun f s1 q => ?_)
  cases f with
  | next => exact wpAny_execs_nil q
  | ret v => exact q
  | brk => exact q
  | cont => exact q
theorem Inv.quiet {pins : List (Addr × Obj)} {σ : St} {H : Hp} {s : Shared} (I : Inv X pins σ H s) : interactive X.env = false := by simp [interactive, I.ok.kind]
noncomputable def tDrop (te : TE) : TS := fun D σ H => te σ H fun _ H1 => D.nx σ H1
theorem ps_expr (he : PE X e te) (hs : swapsWith e none pos.line X.env = pure false := by rfl) : PS X (.Expr e pos) (tDrop te) := by
  intro pins s σ H D I h
  exact wpAny_Expr_any (thn (he pins s σ H _ I h) fun v s1 ⟨x, H1, I1, r1, q1⟩ => ⟨σ, H1, I1, q1⟩) I.quiet hs
noncomputable def tRet (te : TE) : TS := fun D σ H => te σ H D.rt
theorem ps_ret (he : PE X e te) : PS X (.Return (some e) pos) (tRet te) := by
  intro pins s σ H D I h
  exact wpAny_Return_some (thn (he pins s σ H _ I h) fun v s1 ⟨x, H1, I1, r1, q1⟩ => ⟨x, σ, H1, I1, r1, q1⟩)
noncomputable def tIfS (c : TT) (t u : TS) : TS := fun D σ H => c σ H fun b H1 => if b = true then t D σ H1 else u D σ H1
theorem ps_if {c : Expr} {a b : List Stmt} {tc : TT} (hc : PT X c tc) (ha : PSs X a t) (hb : PSs X b u) : PS X (.If c a b pos) (tIfS tc t u) := by
  intro pins s σ H D I h
  refine wpAny_If (thn (hc pins s σ H _ I h) fun d s1 ⟨H1, I1, q1⟩ => ?_)
  cases d with
  | true => exact ha pins s1 σ H1 D I1 q1
  | false => exact hb pins s1 σ H1 D I1 q1
end
noncomputable abbrev TG := V → St → Hp → (St → Hp → Prop) → Prop
noncomputable abbrev TGs := List V → St → Hp → (St → Hp → Prop) → Prop
noncomputable def PG (X : Cx) (target : Expr) (t : TG) : Prop :=
  ∀ (pins : List (Addr × Obj)) (s : Shared) (σ : St) (H : Hp) (v : V) (u : Value) (Q : St → Hp → Prop), Inv X pins σ H s → RelV v u → t v σ H Q →
    wpAny (model X.prog X.w) X.A (assign target X.env u) (fun _ s' => ∃ σ' H', Inv X pins σ' H' s' ∧ Q σ' H') X.xe s
noncomputable def PGs (X : Cx) (ts : List Expr) (t : TGs) : Prop :=
  ∀ (pins : List (Addr × Obj)) (s : Shared) (σ : St) (H : Hp) (vs : List V) (us : List Value) (Q : St → Hp → Prop), Inv X pins σ H s → Vals vs us → t vs σ H Q →
    wpAny (model X.prog X.w) X.A (assignInOrder ((assignEach ts X.env).map (·.2)) us) (fun _ s' => ∃ σ' H', Inv X pins σ' H' s' ∧ Q σ' H') X.xe s
noncomputable abbrev TSet := V → V → V → Hp → (Hp → Prop) → Prop
noncomputable def PSet (X : Cx) (t : TSet) : Prop :=
  ∀ (pins : List (Addr × Obj)) (s : Shared) (σ : St) (H : Hp) (o i v : V) (ov iv u : Value) (Q : Hp → Prop), Inv X pins σ H s → RelV o ov → RelV i iv → RelV v u → t o i v H Q →
    wpAny (model X.prog X.w) X.A (setItem ov iv u) (fun _ s' => ∃ H', Inv X pins σ H' s' ∧ Q H') X.xe s
section
variable {X : Cx} {pos : Pos}
noncomputable def gName (i : Nat) : TG := fun v σ H Q => Q (σ.set i (some v)) H
theorem pg_name {i : Nat} {x : Str} (hN : X.N.Nodup) (hi : X.N[i]? = some x) (hx : Loc X.env.scope x) (hf : X.fn x = true ∨ X.env.scope.names.lookup x = some .local := by first | exact .inl rfl | exact .inr rfl | assumption) : PG X (.Name x pos) (gName i) := by
  intro pins s σ H v u Q I r h
  exact wpAny_assign_Name (store_ok I hN hi hx r (fun s' I' => ⟨_, H, I', h⟩) hf)
noncomputable def gNil : TGs := fun vs σ H Q => vs = [] ∧ Q σ H
noncomputable def gCons (t : TG) (u : TGs) : TGs := fun vs σ H Q => ∃ v r, vs = v :: r ∧ t v σ H fun σ' H' => u r σ' H' Q
theorem pgs_nil : PGs X [] gNil := by
  intro pins s σ H vs us Q I r h
  obtain ⟨e, h⟩ := h
  subst e
  cases r
  exact assignInOrder_nil ⟨σ, H, I, h⟩
theorem pgs_cons {e : Expr} {es : List Expr} {t : TG} {u : TGs} (h1 : PG X e t) (h2 : PGs X es u)
    (hs : (assignEach (e :: es) X.env).map (·.2) = assign e X.env :: (assignEach es X.env).map (·.2) := by rfl) : PGs X (e :: es) (gCons t u) := by
  intro pins s σ H vs us Q I r h
  obtain ⟨v, vr, e1, h⟩ := h
  subst e1
  cases r with
  | cons r rr =>
    rw [hs]
    refine assignInOrder_cons (thn (h1 pins s σ H _ _ _ I r h) fun _ s1 ⟨σ1, H1, I1, q1⟩ => ?_)
    exact h2 pins s1 σ1 H1 _ _ Q I1 rr q1
noncomputable def gTup (K : PySem.W.Frag) (n : Nat) (t : TGs) : TG := fun v σ H Q => ∃ a xs, v = .ref a ∧ SqT K H a xs ∧ xs.length = n ∧ t xs σ H Q
theorem pg_tup {es : List Expr} {k : Nat} {t : TGs} {n : Nat} (hc : X.calm = true) (h : PGs X es t)
    (hn : (assignEach es X.env).length = n := by rfl) (hst : (assignEach es X.env).findIdx? (·.1) = none := by rfl) : PG X (.Tuple es k pos) (gTup X.K n t) := by
  intro pins s σ H v u Q I r hw
  obtain ⟨a, xs, e1, hq, hl, hw⟩ := hw
  subst e1
  cases r
  obtain ⟨its, rv, ht, hz⟩ := I.tuple hq
  refine assign_Tuple_tuple (I.ok.hd hc) ht (by simp [hn, ← hl, rv.length]) hst fun h' hx => ?_
  have I1 : Inv X pins σ H { s with heap := h' } := I.kept (t' := s.toks) fun b o e => hx b o (Nat.ne_of_lt (Heap.lt_size e)) e
  exact h pins _ σ H xs _ Q I1 (by simpa using rv) hw
noncomputable def gSub (to ti : TE) (t : TSet) : TG := fun v σ H Q => to σ H fun o H1 => ti σ H1 fun i H2 => t o i v H2 fun H3 => Q σ H3
theorem pg_sub {o i : Expr} {to ti : TE} {t : TSet} (ho : PE X o to) (hi : PE X i ti) (hs : PSet X t)
    (ha : ∀ v, assign (.Subscript o i pos) X.env v = (do
      let ov ← holding [v] (eval o X.env)
      let iv ← holding [v, ov] (eval i X.env)
      standAt pos
      holding [v, ov, iv] (setItem ov iv v)
      release [v, ov, iv] []) := by intro _; rfl) : PG X (.Subscript o i pos) (gSub to ti t) := by
  intro pins s σ H v u Q I r h
  rw [ha]
  refine wpAny_bind (wpAny_holding (thn (ho pins s σ H _ I h) fun ov s1 ⟨x, H1, I1, r1, q1⟩ => ?_))
  refine wpAny_bind (wpAny_holding (thn (hi pins s1 σ H1 _ I1 q1) fun iv s2 ⟨y, H2, I2, r2, q2⟩ => ?_))
  refine wpAny_bind (wpAny_standAt (wpAny_bind (wpAny_holding (thn (hs pins s2 σ H2 x y v ov iv u _ I2 r1 r2 r q2) fun _ s3 ⟨H3, I3, q3⟩ => ?_))))
  exact wpAny_release ⟨σ, H3, I3, q3⟩
noncomputable def tAsg (te : TE) (g : TG) : TS := fun D σ H => te σ H fun x H1 => g x σ H1 D.nx
theorem ps_asg {tg e : Expr} {te : TE} {g : TG} (he : PE X e te) (hg : PG X tg g) (hs : swapsWithSole [tg] e pos.line X.env = pure false := by rfl) (hw : swappedStores [tg] e X.env = pure none := by rfl)
    (h1 : (assignEach [tg] X.env).map (·.2) = [assign tg X.env] := by rfl) : PS X (.Assign [tg] e pos) (tAsg te g) := by
  intro pins s σ H D I h
  refine wpAny_Assign_stores (thn (he pins s σ H _ I h) fun v s1 ⟨x, H1, I1, r1, q1⟩ => ?_) hs hw
  rw [h1]
  exact thn (hg pins s1 σ H1 x v _ I1 r1 q1) fun _ s2 q => q
theorem ps_set {i : Nat} {x : Str} {e : Expr} {te : TE} {pos' : Pos} (hN : X.N.Nodup) (hi : X.N[i]? = some x) (hx : Loc X.env.scope x) (he : PE X e te) (hs : swapsWith e (some (.Name x pos')) pos.line X.env = pure false := by rfl) (hf : X.fn x = true ∨ X.env.scope.names.lookup x = some .local := by first | exact .inl rfl | exact .inr rfl | assumption) :
    PS X (.Assign [.Name x pos'] e pos) (tAsg te (gName i)) := by
  intro pins s σ H D I h
  refine wpAny_Assign_Name (thn (he pins s σ H _ I h) fun v s1 ⟨y, H1, I1, r1, q1⟩ => ?_) hs
  exact store_ok I1 hN hi hx r1 (fun s2 I2 => ⟨_, H1, I2, q1⟩) hf
noncomputable def tPar (i j : Nat) (ta : TA) : TS := fun D σ H => ta σ H fun vs H1 => ∃ v w, vs = [v, w] ∧ D.nx ((σ.set i (some v)).set j (some w)) H1
theorem ps_par {i j : Nat} {x y : Str} {a b : Expr} {ta : TA} {px py pt : Pos} {kt k2 pt2} (hc : X.calm = true) (hN : X.N.Nodup) (hi : X.N[i]? = some x) (hj : X.N[j]? = some y) (hij : i ≠ j)
    (hx : X.env.scope.names.lookup x = some .local) (hy : X.env.scope.names.lookup y = some .local) (ha : PA X [a, b] ta)
    (hw : swappedStores [.Tuple [.Name x px, .Name y py] kt pt] (.Tuple [a, b] k2 pt2) X.env = pure (some [x, y]))
    (hs : swapsWithSole [.Tuple [.Name x px, .Name y py] kt pt] (.Tuple [a, b] k2 pt2) pos.line X.env = pure false := by rfl) :
    PS X (.Assign [.Tuple [.Name x px, .Name y py] kt pt] (.Tuple [a, b] k2 pt2) pos) (tPar i j ta) := by
  intro pins s σ H D I h
  rw [exec_Assign_arm]
  refine wpAny_bind (wpAny_standAt ?_)
  rw [hs]
  refine wpAny_bind (wpAny_pure ?_)
  rw [if_neg (by decide)]
  refine wpAny_bind (Tuple_ (thn (ha _ pins s σ H _ I h) fun us s1 ⟨vs, H1, I1, r1, q1⟩ => ?_))
  obtain ⟨v, w, e1, q1⟩ := q1
  subst e1
  obtain ⟨u1, u2, rfl, rv, rw'⟩ : ∃ u1 u2, us = [u1, u2] ∧ RelV v u1 ∧ RelV w u2 := by
    cases r1 with
    | cons p q =>
      cases q with
      | cons p' q' =>
        cases q'
        exact ⟨_, _, rfl, p, p'⟩
  refine wpAny_newObj_type ?_ (by show 2 ≤ sizeLine; decide)
  have I2 : Inv X pins σ H1 { s1 with heap := s1.heap.push { cls := .type "tuple", data := .seq [u1, u2].toArray } } := I1.kept (t' := s1.toks) fun b o e => Heap.get?_push_of_some _ e
  rw [hw]
  refine wpAny_bind (wpAny_pure ?_)
  show wpAny (model X.prog X.w) X.A (do rule "assign.swapped-stores"; let items ← unpackItems (.ref s1.heap.objs.size) 2 none; assignInOrder [fun v => bindName X.env y v, fun v => bindName X.env x v] items.reverse; pure Flow.next) _ _ _
  refine wpAny_bind (wpAny_rule (wpAny_bind (unpackItems_tuple (items := #[u1, u2]) (I.ok.hd hc) (IsTup.new s1.heap _) fun h' hx' => ?_)))
  have I3 := I2.kept (h' := h') (t' := s1.toks) fun b o e => hx' b o (Nat.ne_of_lt (Heap.lt_size e)) e
  show wpAny _ _ (assignInOrder [fun v => bindName X.env y v, fun v => bindName X.env x v] [u2, u1] >>= fun _ => pure Flow.next) _ _ _
  refine wpAny_bind (assignInOrder_cons (wpAny_bindName (store_ok I3 hN hj (.inl hy) rw' (fun s2 I4 => ?_) (.inr hy))))
  refine assignInOrder_cons (wpAny_bindName (store_ok I4 hN hi (.inl hx) rv (fun s3 I5 => assignInOrder_nil (wpAny_pure ?_)) (.inr hx)))
  rw [List.set_comm _ _ (Ne.symm hij)] at I5
  exact ⟨_, H1, I5, q1⟩
end
section
variable {X : Cx} {pos : Pos}
noncomputable def tWhile (c : TT) (tb : TS) : TS := fun D σ H => ∃ W : Nat → St → Hp → Prop, (∃ m, W m σ H) ∧ ∀ m σ H, W m σ H →
  c σ H fun b H1 => if b = true then ∃ N : St → Hp → Prop, (∀ σ' H', N σ' H' → ∃ m', m' < m ∧ W m' σ' H') ∧ tb { D with nx := N, ct := N, bk := D.nx } σ H1 else D.nx σ H1
theorem ps_while {c : Expr} {body : List Stmt} {tc : TT} {tb : TS} (hp : PassesOwn (model X.prog X.w) X.A X.env X.xe) (hc : PT X c tc) (hb : PSs X body tb) : PS X (.While c body [] pos) (tWhile tc tb) := by
  intro pins s σ H D I h
  obtain ⟨W, ⟨m0, w0⟩, turn⟩ := h
  refine wpAny_While (codeAny_whileLoop (fun n s' => ∃ σ' H', Inv X pins σ' H' s' ∧ W n σ' H') ?_ m0 ⟨σ, H, I, w0⟩)
  rintro n s1 ⟨σ1, H1, I1, w1⟩
  refine wpAny_passesOwn hp (thn (hc pins s1 σ1 H1 _ I1 (turn n σ1 H1 w1)) fun b s2 ⟨H2, I2, q2⟩ => ?_)
  cases b with
  | true =>
    obtain ⟨N, hN, q2⟩ := q2
    rw [if_pos rfl]
    refine wpAny_passesOwn hp (thn (hb pins s2 σ1 H2 _ I2 q2) fun f s3 q3 => ?_)
    cases f with
    | next =>
      obtain ⟨σ3, H3, I3, n3⟩ := q3
      obtain ⟨m', hm, w3⟩ := hN σ3 H3 n3
      exact ⟨m', hm, σ3, H3, I3, w3⟩
    | cont =>
      obtain ⟨σ3, H3, I3, n3⟩ := q3
      obtain ⟨m', hm, w3⟩ := hN σ3 H3 n3
      exact ⟨m', hm, σ3, H3, I3, w3⟩
    | brk => exact q3
    | ret v => exact q3
  | false =>
    rw [if_neg Bool.false_ne_true]
    exact wpAny_execs_nil ⟨σ1, H2, I2, q2⟩
end
structure It where
  go : Nat → Hp → Prop
  yld : Nat → Hp → V → Hp → Prop
  stop : Nat → Hp → Prop
noncomputable def FpOk (X : Cx) (pins : List (Addr × Obj)) (H : Hp) (b : Addr) : Prop :=
  H b = none ∧ b ≠ X.env.locals ∧ b ∉ X.fs ∧ (b ∈ X.ex ∨ X.s₀.heap.objs.size ≤ b) ∧ (∀ x c, X.env.cells.lookup x = some c → c ≠ b) ∧ ∀ p ∈ X.pn ++ pins, p.1 ≠ b
theorem Inv.fpOk {X : Cx} {pins : List (Addr × Obj)} {σ : St} {H H' : Hp} {s : Shared} {b : Addr} (I : Inv X pins σ H s) (hb : s.heap.objs.size ≤ b) (hn : H' b = none) : FpOk X pins H' b := by
  refine ⟨hn, Nat.ne_of_gt (Nat.lt_of_lt_of_le I.lt hb), I.nofs hb, .inr (Nat.le_trans I.sz hb), fun x c e z => ?_, fun p hp z => ?_⟩
  · obtain ⟨v, q⟩ := I.cell x c e
    exact absurd (Nat.lt_of_lt_of_le q.lt (by rw [z]; exact hb)) (Nat.lt_irrefl _)
  · exact absurd (Nat.lt_of_lt_of_le (Heap.lt_size (I.pin p hp).1) (by rw [z]; exact hb)) (Nat.lt_irrefl _)
structure Turn (P : Program) (w : World) (K : PySem.W.Frag) (tg : Expr) (J : It) (fp : List Addr) (it : Addr) (tn : Nat → Heap → Prop) : Prop where
  mem : it ∈ fp
  obj : ∀ i h, tn i h → ∀ b ∈ fp, ∃ o, h.get? b = some o ∧ ∀ v, o.data ≠ .cell v
  keep : ∀ i h h', tn i h → (∀ b ∈ fp, ∀ o, h.get? b = some o → h'.get? b = some o) → tn i h'
  item : ∀ (X : Cx), X.prog = P → X.w = w → X.K = K → X.calm = true → ∀ (i : Nat) (pins : List (Addr × Obj)) (s : Shared) (σ : St) (H : Hp) (E : Value → Shared → Prop), Inv X pins σ H s → (∀ b ∈ fp, FpOk X pins H b) → tn i s.heap → J.go i H →
    wpAny (model P w) X.A (pyNext (.ref it)) (fun r s1 => ∃ u, r = some u ∧
      wpAny (model P w) X.A (letOwnedTupleGo tg (.ref it) u) (fun _ s2 => ∃ x H', Inv X pins σ H' s2 ∧ RelV x u ∧ J.yld i H x H' ∧ tn (i + 1) s2.heap ∧ ∀ b ∈ fp, H' b = none) E s1) E s
  done : ∀ (X : Cx), X.prog = P → X.w = w → X.K = K → X.calm = true → ∀ (i : Nat) (pins : List (Addr × Obj)) (s : Shared) (σ : St) (H : Hp) (E : Value → Shared → Prop), Inv X pins σ H s → (∀ b ∈ fp, FpOk X pins H b) → tn i s.heap → J.stop i H →
    wpAny (model P w) X.A (pyNext (.ref it)) (fun r s1 => r = none ∧ Inv X pins σ H s1) E s
  self : ∀ (A : Around) (i : Nat) (s : Shared) (Q : Value → Shared → Prop) (E : Value → Shared → Prop), tn i s.heap → Q (.ref it) s → wpAny (model P w) A (pyIter (.ref it)) Q E s
noncomputable abbrev TI := St → Hp → (It → Hp → Prop) → Prop
noncomputable def PIE (X : Cx) (pins : List (Addr × Obj)) (σ : St) (tg : Expr) (R : It → Hp → Prop) (itv : Value) (s2 : Shared) : Prop :=
  ∃ (it : Addr) (fp : List Addr) (tn : Nat → Heap → Prop) (J : It) (H' : Hp), itv = .ref it ∧ Inv X pins σ H' s2 ∧ Turn X.prog X.w X.K tg J fp it tn ∧ tn 0 s2.heap ∧ (∀ b ∈ fp, FpOk X pins H' b) ∧ R J H'
noncomputable def PI (X : Cx) (tg iter : Expr) (wi : TI) : Prop :=
  ∀ (pins : List (Addr × Obj)) (s : Shared) (σ : St) (H : Hp) (R : It → Hp → Prop), Inv X pins σ H s → wi σ H R →
    wpAny (model X.prog X.w) X.A (eval iter X.env) (fun v s1 => wpAny (model X.prog X.w) X.A (pyIter v) (PIE X pins σ tg R) X.xe s1) X.xe s
theorem go_of {M : Model} {A : Around} {E : Value → Shared → Prop} {s : Shared} {tg : Expr} {it : Addr} {u : Value} {o : Obj} {n : String} {vs : Array Value} {Q : Unit → Shared → Prop} (ho : s.heap.get? it = some o) (hc : o.cls = .type n) (hd : o.data = .fields vs)
    (hn : ["enumerate", "zip", "dict_itemiterator", "dict_reverseitemiterator", "odict_iterator", "itertools.zip_longest", "itertools.pairwise"].contains n = false) (hQ : Q () s) : wpAny M A (letOwnedTupleGo tg (.ref it) u) Q E s := by
  unfold letOwnedTupleGo
  cases tg <;> first
    | exact wpAny_pure hQ
    | (cases u <;> first
        | exact wpAny_pure hQ
        | (refine wpAny_bind (wpAny_load ho ?_)
           rw [hc, hd]
           show wpAny M A (if (["enumerate", "zip", "dict_itemiterator", "dict_reverseitemiterator", "odict_iterator", "itertools.zip_longest", "itertools.pairwise"].contains n && vs[0]? == some (rawInt _)) = true then _ else _) Q E s
           rw [if_neg (by intro h; rw [hn, Bool.false_and] at h; cases h)]
           exact wpAny_pure hQ))
noncomputable def Itl (K : PySem.W.Frag) (a : Addr) : It :=
  ⟨fun i H => ∃ xs x, SqL K H a xs ∧ xs[i]? = some x, fun i H x H' => H' = H ∧ ∀ xs, SqL K H a xs → xs[i]? = some x, fun i H => ∃ xs, SqL K H a xs ∧ xs.length ≤ i⟩
noncomputable def Itt (K : PySem.W.Frag) (a : Addr) : It :=
  ⟨fun i H => ∃ xs x, SqT K H a xs ∧ xs[i]? = some x, fun i H x H' => H' = H ∧ ∀ xs, SqT K H a xs → xs[i]? = some x, fun i H => ∃ xs, SqT K H a xs ∧ xs.length ≤ i⟩
noncomputable def Itr (lo : Int) (n : Nat) : It := ⟨fun i _ => i < n, fun i H x H' => H' = H ∧ x = .int (lo + i), fun i _ => n ≤ i⟩
theorem turn_list {P : Program} {w : World} {K : PySem.W.Frag} {tg : Expr} (a it : Addr) : Turn P w K tg (Itl K a) [it] it (fun i h => h.IsListIter it a i) where
  mem := by simp
  obj := fun i h st b hb => by
    have e : b = it := by simpa using hb
    subst e
    obtain ⟨o, e, c, d⟩ := st
    exact ⟨o, e, fun v z => by rw [d] at z; cases z⟩
  keep := fun i h h' st k => st.at fun o e => k it (by simp) o e
  item := by
    intro X hP hw hK hc i pins s σ H E I hf st hg
    subst hP hw hK
    obtain ⟨xs, x, hq, hx⟩ := hg
    obtain ⟨its, rv, p, hz⟩ := I.list hq
    obtain ⟨u, hu, ru⟩ := rv.get hx
    obtain ⟨f0, f1, f2, f3, f4, f5⟩ := hf it (by simp)
    refine wpAny_pyNext_list_item st p.isList (x := u) (by simpa using hu) fun h' st' sb => ?_
    have I1 : Inv X pins σ H { s with heap := h' } := I.turned (t' := s.toks) (fun b o hb e => (sb.2 b hb).trans e) f0 f1 f3 f4 f5
    obtain ⟨o, e, c, d⟩ := id st'
    exact ⟨u, rfl, go_of (s := { s with heap := h' }) e c d (by decide) ⟨x, H, I1, ru, ⟨rfl, fun ys hy => by rw [I.list_inj hy hq]; exact hx⟩, st', fun b hb => (hf b hb).1⟩⟩
  done := by
    intro X hP hw hK hc i pins s σ H E I hf st hg
    subst hP hw hK
    obtain ⟨xs, hq, hx⟩ := hg
    obtain ⟨its, rv, p, hz⟩ := I.list hq
    obtain ⟨f0, f1, f2, f3, f4, f5⟩ := hf it (by simp)
    have hl := rv.length
    exact wpAny_pyNext_list_end (I.ok.hd hc) st p.isList (by simp; omega) fun h' eb => ⟨rfl, I.turned (t' := s.toks) (fun b o hb e => eb b o hb e) f0 f1 f3 f4 f5⟩
  self := fun _ _ _ _ _ st h => wpAny_pyIter_listiter st h
theorem turn_tuple {P : Program} {w : World} {K : PySem.W.Frag} {tg : Expr} (a it : Addr) : Turn P w K tg (Itt K a) [it] it (fun i h => h.IsTupleIter it a i) where
  mem := by simp
  obj := fun i h st b hb => by
    have e : b = it := by simpa using hb
    subst e
    obtain ⟨o, e, c, d⟩ := st
    exact ⟨o, e, fun v z => by rw [d] at z; cases z⟩
  keep := fun i h h' st k => st.at fun o e => k it (by simp) o e
  item := by
    intro X hP hw hK hc i pins s σ H E I hf st hg
    subst hP hw hK
    obtain ⟨xs, x, hq, hx⟩ := hg
    obtain ⟨its, rv, p, hz⟩ := I.tuple hq
    obtain ⟨u, hu, ru⟩ := rv.get hx
    obtain ⟨f0, f1, f2, f3, f4, f5⟩ := hf it (by simp)
    refine wpAny_pyNext_tuple_item st (show s.heap.IsTuple a its.toArray from p) (x := u) (by simpa using hu) fun h' st' sb => ?_
    have I1 : Inv X pins σ H { s with heap := h' } := I.turned (t' := s.toks) (fun b o hb e => (sb.2 b hb).trans e) f0 f1 f3 f4 f5
    obtain ⟨o, e, c, d⟩ := id st'
    exact ⟨u, rfl, go_of (s := { s with heap := h' }) e c d (by decide) ⟨x, H, I1, ru, ⟨rfl, fun ys hy => by rw [I.tuple_inj hy hq]; exact hx⟩, st', fun b hb => (hf b hb).1⟩⟩
  done := by
    intro X hP hw hK hc i pins s σ H E I hf st hg
    subst hP hw hK
    obtain ⟨xs, hq, hx⟩ := hg
    obtain ⟨its, rv, p, hz⟩ := I.tuple hq
    obtain ⟨f0, f1, f2, f3, f4, f5⟩ := hf it (by simp)
    have hl := rv.length
    exact wpAny_pyNext_tuple_end (I.ok.hd hc) st (show s.heap.IsTuple a its.toArray from p) (by simp; omega) fun h' eb => ⟨rfl, I.turned (t' := s.toks) (fun b o hb e => eb b o hb e) f0 f1 f3 f4 f5⟩
  self := fun _ _ _ _ _ st h => wpAny_pyIter_tupleiter st h
theorem turn_range {P : Program} {w : World} {K : PySem.W.Frag} {tg : Expr} (it : Addr) (lo : Int) (n : Nat) : Turn P w K tg (Itr lo n) [it] it (fun i h => IsRangeIter h it (lo + (i : Nat) * 1) ((n : Int) - (i : Nat)) 1) where
  mem := by simp
  obj := fun i h st b hb => by
    have e : b = it := by simpa using hb
    subst e
    exact ⟨_, st, fun v z => by
      have z' : Data.fields _ = Data.cell v := z
      cases z'⟩
  keep := fun i h h' st k => k it (by simp) _ st
  item := by
    intro X hP hw hK hc i pins s σ H E I hf st hg
    subst hP hw hK
    obtain ⟨f0, f1, f2, f3, f4, f5⟩ := hf it (by simp)
    have W := Walks.range (prog := X.prog) (w := X.w) (I.ok.hd hc) it lo 1 n
    refine W.item i s _ _ hg st fun v h' tk hv st' kk => ?_
    obtain ⟨t, rfl⟩ := hv
    have I1 : Inv X pins σ H { s with heap := h', toks := tk } := I.turned (fun b o hb e => kk b o (by simpa using hb) e) f0 f1 f3 f4 f5
    refine ⟨_, rfl, go_of (s := { s with heap := h', toks := tk }) (n := "range_iterator") st' rfl rfl (by decide) ⟨.int (lo + i), H, I1, ⟨t, ?_⟩, ⟨rfl, rfl⟩, st', fun b hb => (hf b hb).1⟩⟩
    rw [Int.mul_one]
  done := by
    intro X hP hw hK hc i pins s σ H E I hf st hg
    subst hP hw hK
    obtain ⟨f0, f1, f2, f3, f4, f5⟩ := hf it (by simp)
    exact wpAny_pyNext_range_end (I.ok.hd hc) st (by have : n ≤ i := hg; omega) fun h' eb => ⟨rfl, I.turned (t' := s.toks) (fun b o hb e => eb b o hb e) f0 f1 f3 f4 f5⟩
  self := fun _ _ _ _ _ st h => wpAny_pyIter_rangeiter st h
end L2
namespace L2
open PySem PySem.Spec PyProof.Rows
section
variable {X : Cx} {tg : Expr}
noncomputable def iList (K : PySem.W.Frag) (tl : TE) : TI := fun σ H R => tl σ H fun x H1 => ∃ a, x = .ref a ∧ (∃ xs, SqL K H1 a xs) ∧ R (Itl K a) H1
noncomputable def iTup (K : PySem.W.Frag) (tl : TE) : TI := fun σ H R => tl σ H fun x H1 => ∃ a, x = .ref a ∧ (∃ xs, SqT K H1 a xs) ∧ R (Itt K a) H1
theorem pi_list {l : Expr} {tl : TE} (hl : PE X l tl) : PI X tg l (iList X.K tl) := by
  intro pins s σ H R I h
  refine thn (hl pins s σ H _ I h) fun v s1 ⟨x, H1, I1, r1, q1⟩ => ?_
  obtain ⟨a, e, ⟨xs, hq⟩, q⟩ := q1
  subst e
  cases r1
  obtain ⟨its, rv, p, hz⟩ := I1.list hq
  refine wpAny_pyIter_list p.isList ?_
  refine ⟨s1.heap.objs.size, [s1.heap.objs.size], _, _, H1, rfl, I1.kept (t' := s1.toks) fun b o e => Heap.get?_push_of_some _ e, turn_list a _, ⟨_, Heap.get?_push_size _ rfl, rfl, rfl⟩, fun b hb => ?_, q⟩
  have e : b = s1.heap.objs.size := by simpa using hb
  subst e
  exact I1.fpOk (Nat.le_refl _) (I1.hok.fresh (Nat.le_refl _))
theorem pi_tup {l : Expr} {tl : TE} (hl : PE X l tl) : PI X tg l (iTup X.K tl) := by
  intro pins s σ H R I h
  refine thn (hl pins s σ H _ I h) fun v s1 ⟨x, H1, I1, r1, q1⟩ => ?_
  obtain ⟨a, e, ⟨xs, hq⟩, q⟩ := q1
  subst e
  cases r1
  obtain ⟨its, rv, p, hz⟩ := I1.tuple hq
  refine wpAny_pyIter_tuple (show s1.heap.IsTuple a its.toArray from p) ?_
  refine ⟨s1.heap.objs.size, [s1.heap.objs.size], _, _, H1, rfl, I1.kept (t' := s1.toks) fun b o e => Heap.get?_push_of_some _ e, turn_tuple a _, ⟨_, Heap.get?_push_size _ rfl, rfl, rfl⟩, fun b hb => ?_, q⟩
  have e : b = s1.heap.objs.size := by simpa using hb
  subst e
  exact I1.fpOk (Nat.le_refl _) (I1.hok.fresh (Nat.le_refl _))
theorem range_it {pins : List (Addr × Obj)} {σ : St} {H : Hp} {s : Shared} {R : It → Hp → Prop} {E : Value → Shared → Prop} {lo hi : Int} {t u v : Tok} {tk : Nat} (I : Inv X pins σ H s) (h1 : -(2 ^ 62) ≤ lo) (h2 : lo < 2 ^ 62) (h3 : -(2 ^ 62) ≤ hi) (h4 : hi < 2 ^ 62)
    (q : R (Itr lo (hi - lo).toNat) H) : wpAny (model X.prog X.w) X.A (pyIter (.ref s.heap.objs.size)) (PIE X pins σ tg R) E { s with heap := s.heap.push { cls := .type "range", data := .fields #[.int lo t, .int hi u, .int 1 v] }, toks := tk } := by
  refine wpAny_pyIter_range (IsRange.new ..) (small_one h1 h2 h3 h4) ?_
  have I1 : Inv X pins σ H { s with heap := s.heap.push { cls := .type "range", data := .fields #[.int lo t, .int hi u, .int 1 v] }, toks := tk } := I.kept fun b o e => Heap.get?_push_of_some _ e
  refine ⟨(s.heap.push { cls := .type "range", data := .fields #[.int lo t, .int hi u, .int 1 v] }).objs.size, [(s.heap.push { cls := .type "range", data := .fields #[.int lo t, .int hi u, .int 1 v] }).objs.size], _, _, H, rfl,
    I1.kept (t' := tk) fun b o e => Heap.get?_push_of_some _ e, turn_range _ lo (hi - lo).toNat, ?_, fun b hb => ?_, q⟩
  · have e1 : lo + ((0 : Nat) : Int) * 1 = lo := by simp
    have e2 : (((hi - lo).toNat : Nat) : Int) - ((0 : Nat) : Int) = Builtin.Range.rangeSize lo hi 1 := by rw [rangeSize_one]; split <;> omega
    show IsRangeIter _ _ (lo + ((0 : Nat) : Int) * 1) ((((hi - lo).toNat : Nat) : Int) - ((0 : Nat) : Int)) 1
    rw [e1, e2]
    exact Heap.get?_push_size _ rfl
  · have e : b = (s.heap.push { cls := .type "range", data := .fields #[.int lo t, .int hi u, .int 1 v] }).objs.size := by simpa using hb
    subst e
    exact I1.fpOk (Nat.le_refl _) (I1.hok.fresh (Nat.le_refl _))
noncomputable def iRng1 (ta : TA) : TI := fun σ H R => ta σ H fun vs H1 => ∃ j : Int, vs = [.int j] ∧ -(2 ^ 62) ≤ j ∧ j < 2 ^ 62 ∧ R (Itr 0 j.toNat) H1
theorem pi_range1 {a : Expr} {ta : TA} {p pos : Pos} (hg : Gl X "range") (hm : X.mg "range" = none) (ha : PA X [a] ta) (hs : starEach [a] X.env = [(false, eval a X.env)] := by rfl) : PI X tg (.Call (.Name "range" p) [a] [] pos) (iRng1 ta) := by
  intro pins s σ H R I h
  refine Call_ (ld_blt I hg hm boot_range (PyProof.Rows.callWith_type1 (thn (ha pos pins s σ H _ I h) fun us s1 ⟨vs, H1, I1, r1, q1⟩ => ?_) hs rfl))
  obtain ⟨j, e, q1, q2, q⟩ := q1
  subst e
  cases r1 with
  | cons r rr =>
    cases rr
    obtain ⟨t, rfl⟩ := r
    exact call_range_1 (range_it I1 (by omega) (by omega) q1 q2 (by simpa using q))
noncomputable def tFor (wi : TI) (g : TG) (tb : TS) : TS := fun D σ H => wi σ H fun J H1 => ∃ W : Nat → Nat → St → Hp → Prop, (∃ m, W 0 m σ H1) ∧ ∀ i m σ H, W i m σ H →
  (J.stop i H ∧ D.nx σ H) ∨ (J.go i H ∧ ∃ N : St → Hp → Prop, (∀ σ' H', N σ' H' → ∃ m', m' < m ∧ W (i + 1) m' σ' H') ∧ ∀ x H', J.yld i H x H' → g x σ H' fun σ2 H2 => tb { D with nx := N, ct := N, bk := D.nx } σ2 H2)
noncomputable def pinsAt (fp : List Addr) (h : Heap) : List (Addr × Obj) := fp.filterMap fun b => (h.get? b).map fun o => (b, o)
theorem mem_pinsAt {fp : List Addr} {h : Heap} {b : Addr} {o : Obj} (hb : b ∈ fp) (e : h.get? b = some o) : (b, o) ∈ pinsAt fp h := List.mem_filterMap.mpr ⟨b, hb, by rw [e]; rfl⟩
theorem of_pinsAt {fp : List Addr} {h : Heap} {p : Addr × Obj} (hp : p ∈ pinsAt fp h) : p.1 ∈ fp ∧ h.get? p.1 = some p.2 := by
  obtain ⟨b, hb, e⟩ := List.mem_filterMap.mp hp
  cases q : h.get? b with
  | none => rw [q] at e; cases e
  | some o =>
    rw [q] at e
    have e' : (b, o) = p := Option.some.inj e
    subst e'
    exact ⟨hb, q⟩
theorem Inv.pinned {pins : List (Addr × Obj)} {σ : St} {H : Hp} {s : Shared} {fp : List Addr} (I : Inv X pins σ H s) (hf : ∀ b ∈ fp, FpOk X pins H b) (ho : ∀ b ∈ fp, ∃ o, s.heap.get? b = some o ∧ ∀ v, o.data ≠ .cell v) : Inv X (pins ++ pinsAt fp s.heap) σ H s :=
  I.pins_of fun p hp => (List.mem_append.mp hp).elim (fun z => I.pin p (List.mem_append_right _ z)) fun z => by
    obtain ⟨hb, e⟩ := of_pinsAt z
    obtain ⟨f0, f1, f2, _⟩ := hf p.1 hb
    obtain ⟨o, e', d⟩ := ho p.1 hb
    rw [e] at e'; cases e'
    exact ⟨e, f0, f1, f2, d⟩
theorem Inv.unpinned {pins pl : List (Addr × Obj)} {σ : St} {H : Hp} {s : Shared} (I : Inv X (pins ++ pl) σ H s) : Inv X pins σ H s := I.pins_of fun p hp => I.pin p (List.mem_append_right _ (List.mem_append_left _ hp))
theorem ps_for {iter : Expr} {body : List Stmt} {wi : TI} {g : TG} {tb : TS} {pos : Pos} (hp : PassesOwn (model X.prog X.w) X.A X.env X.xe) (hc : X.calm = true) (hi : PI X tg iter wi) (hg : PG X tg g) (hb : PSs X body tb)
    (hs : ∀ x, foldedSetIterable iter X.env x = pure x := by intro _; rfl) : PS X (.For tg iter body [] pos) (tFor wi g tb) := by
  intro pins s σ H D I h
  refine wpAny_For (thn (hi pins s σ H _ I h) fun v s1 h1 => thn h1 fun itv s2 h2 => ?_) hs
  obtain ⟨it, fp, tn, J, H2, e, I2, T, st2, f2, W, ⟨m0, w0⟩, turn⟩ := h2
  subst e
  have stat : ∀ {H' : Hp}, (∀ b ∈ fp, H' b = none) → ∀ b ∈ fp, FpOk X pins H' b := fun hn b hb => ⟨hn b hb, (f2 b hb).2⟩
  refine codeAny_forLoop_any (fun n s' => ∃ i σ' H', Inv X pins σ' H' s' ∧ tn i s'.heap ∧ (∀ b ∈ fp, H' b = none) ∧ W i n σ' H') ?_ m0 ⟨0, σ, H2, I2, st2, fun b hb => (f2 b hb).1, w0⟩
  rintro n s3 ⟨i, σ3, H3, I3, st3, fr3, w3⟩
  rcases turn i n σ3 H3 w3 with ⟨stop, qn⟩ | ⟨go, N, hN, step⟩
  · refine wpAny_passesOwn hp (thn (T.done X rfl rfl rfl hc i pins s3 σ3 H3 X.xe I3 (stat fr3) st3 stop) fun r s4 ⟨hr, I4⟩ => ?_)
    subst hr
    exact wpAny_execs_nil ⟨σ3, H3, I4, qn⟩
  · refine wpAny_passesOwn hp (thn (T.item X rfl rfl rfl hc i pins s3 σ3 H3 X.xe I3 (stat fr3) st3 go) fun r s4 ⟨u, hr, h4⟩ => ?_)
    subst hr
    refine wpAny_passesOwn hp (thn h4 fun _ s5 ⟨x, H5, I5, r5, y5, st5, fr5⟩ => ?_)
    have I5' := I5.pinned (stat fr5) (T.obj _ _ st5)
    refine wpAny_passesOwn hp (thn (hg _ s5 σ3 H5 x u _ I5' r5 (step x H5 y5)) fun _ s6 ⟨σ6, H6, I6, q6⟩ => ?_)
    refine wpAny_passesOwn hp (thn (hb _ s6 σ6 H6 _ I6 q6) fun f s7 q7 => ?_)
    have again : ∀ {σ7 : St} {H7 : Hp}, Inv X (pins ++ pinsAt fp s5.heap) σ7 H7 s7 → N σ7 H7 → ∃ m, m < n ∧ ∃ i σ' H', Inv X pins σ' H' s7 ∧ tn i s7.heap ∧ (∀ b ∈ fp, H' b = none) ∧ W i m σ' H' := fun {σ7 H7} I7 n7 => by
      obtain ⟨m', hm, w7⟩ := hN σ7 H7 n7
      refine ⟨m', hm, i + 1, σ7, H7, I7.unpinned, T.keep _ _ _ st5 fun b hb o e => (I7.pin (b, o) (List.mem_append_right _ (List.mem_append_right _ (mem_pinsAt hb e)))).1, fun b hb => ?_, w7⟩
      obtain ⟨o, e, d⟩ := T.obj _ _ st5 b hb
      exact (I7.pin (b, o) (List.mem_append_right _ (List.mem_append_right _ (mem_pinsAt hb e)))).2.1
    cases f with
    | next => obtain ⟨σ7, H7, I7, n7⟩ := q7; exact again I7 n7
    | cont => obtain ⟨σ7, H7, I7, n7⟩ := q7; exact again I7 n7
    | brk => obtain ⟨σ7, H7, I7, q7⟩ := q7; exact ⟨σ7, H7, I7.unpinned, q7⟩
    | ret v => obtain ⟨x7, σ7, H7, I7, r7, q7⟩ := q7; exact ⟨x7, σ7, H7, I7.unpinned, r7, q7⟩
end
theorem for_list {K : PySem.W.Frag} {a : Addr} {xs : List V} {g : TG} {tb : TS} {D : Ends} {σ : St} {H : Hp} (Pv : Nat → St → Hp → Prop) (h0 : Pv 0 σ H) (hl : ∀ i σ H, i ≤ xs.length → Pv i σ H → SqL K H a xs)
    (hs : ∀ i x σ H, xs[i]? = some x → Pv i σ H → g x σ H fun σ2 H2 => tb { D with nx := Pv (i + 1), ct := Pv (i + 1), bk := D.nx } σ2 H2) (hd : ∀ σ H, Pv xs.length σ H → D.nx σ H) :
    ∃ W : Nat → Nat → St → Hp → Prop, (∃ m, W 0 m σ H) ∧ ∀ i m σ H, W i m σ H →
      ((Itl K a).stop i H ∧ D.nx σ H) ∨ ((Itl K a).go i H ∧ ∃ N : St → Hp → Prop, (∀ σ' H', N σ' H' → ∃ m', m' < m ∧ W (i + 1) m' σ' H') ∧ ∀ x H', (Itl K a).yld i H x H' → g x σ H' fun σ2 H2 => tb { D with nx := N, ct := N, bk := D.nx } σ2 H2) := by
  refine ⟨fun i m σ H => m = xs.length - i ∧ i ≤ xs.length ∧ Pv i σ H, ⟨xs.length, by simp, Nat.zero_le _, h0⟩, ?_⟩
  rintro i m σ H ⟨rfl, hi, p⟩
  have q := hl i σ H hi p
  by_cases hlt : i < xs.length
  · refine .inr ⟨⟨xs, xs[i], q, by simp [hlt]⟩, Pv (i + 1), fun σ' H' p' => ⟨xs.length - (i + 1), by omega, rfl, hlt, p'⟩, fun x H' y => ?_⟩
    obtain ⟨e, y⟩ := y
    subst e
    exact hs i x σ _ (y xs q) p
  · have e : i = xs.length := by omega
    subst e
    exact .inl ⟨⟨xs, q, Nat.le_refl _⟩, hd σ H p⟩
theorem for_range {lo : Int} {n : Nat} {g : TG} {tb : TS} {D : Ends} {σ : St} {H : Hp} (Pv : Nat → St → Hp → Prop) (h0 : Pv 0 σ H)
    (hs : ∀ i σ H, i < n → Pv i σ H → g (.int (lo + i)) σ H fun σ2 H2 => tb { D with nx := Pv (i + 1), ct := Pv (i + 1), bk := D.nx } σ2 H2) (hd : ∀ σ H, Pv n σ H → D.nx σ H) :
    ∃ W : Nat → Nat → St → Hp → Prop, (∃ m, W 0 m σ H) ∧ ∀ i m σ H, W i m σ H →
      ((Itr lo n).stop i H ∧ D.nx σ H) ∨ ((Itr lo n).go i H ∧ ∃ N : St → Hp → Prop, (∀ σ' H', N σ' H' → ∃ m', m' < m ∧ W (i + 1) m' σ' H') ∧ ∀ x H', (Itr lo n).yld i H x H' → g x σ H' fun σ2 H2 => tb { D with nx := N, ct := N, bk := D.nx } σ2 H2) := by
  refine ⟨fun i m σ H => m = n - i ∧ i ≤ n ∧ Pv i σ H, ⟨n, by simp, Nat.zero_le _, h0⟩, ?_⟩
  rintro i m σ H ⟨rfl, hi, p⟩
  by_cases hlt : i < n
  · refine .inr ⟨hlt, Pv (i + 1), fun σ' H' p' => ⟨n - (i + 1), by omega, rfl, hlt, p'⟩, fun x H' y => ?_⟩
    obtain ⟨e, y⟩ := y
    subst e y
    exact hs i σ _ hlt p
  · have e : i = n := by omega
    subst e
    exact .inl ⟨Nat.le_refl _, hd σ H p⟩
theorem while_by {c : TT} {tb : TS} {D : Ends} {σ : St} {H : Hp} (Pv : St → Hp → Prop) (μ : St → Hp → Nat) (h0 : Pv σ H)
    (hs : ∀ σ H, Pv σ H → c σ H fun b H1 => if b = true then tb { D with nx := fun σ' H' => Pv σ' H' ∧ μ σ' H' < μ σ H, ct := fun σ' H' => Pv σ' H' ∧ μ σ' H' < μ σ H, bk := D.nx } σ H1 else D.nx σ H1)
    (mono : ∀ σ H Q Q', (∀ b H1, Q b H1 → Q' b H1) → c σ H Q → c σ H Q') : tWhile c tb D σ H := by
  refine ⟨fun m σ H => m = μ σ H ∧ Pv σ H, ⟨_, rfl, h0⟩, ?_⟩
  rintro m σ H ⟨rfl, p⟩
  refine mono σ H _ _ (fun b H1 q => ?_) (hs σ H p)
  cases b with
  | true => exact ⟨_, fun σ' H' ⟨p', l⟩ => ⟨_, l, rfl, p'⟩, q⟩
  | false => exact q
end L2
namespace L2
open PySem PySem.Spec PyProof.Rows
noncomputable abbrev R2 := V → V → Hp → VK → Prop
noncomputable def OpR (X : Cx) (f : Value → Value → Sem Value) (r : R2) : Prop :=
  ∀ (pins : List (Addr × Obj)) (s : Shared) (σ : St) (H : Hp) (x y : V) (v u : Value) (Q : VK), Inv X pins σ H s → RelV x v → RelV y u → r x y H Q →
    wpAny (model X.prog X.w) X.A (f v u) (EP X pins σ Q) X.xe s
noncomputable def UnR (X : Cx) (f : Value → Sem Value) (r : V → Hp → VK → Prop) : Prop :=
  ∀ (pins : List (Addr × Obj)) (s : Shared) (σ : St) (H : Hp) (x : V) (v : Value) (Q : VK), Inv X pins σ H s → RelV x v → r x H Q →
    wpAny (model X.prog X.w) X.A (f v) (EP X pins σ Q) X.xe s
noncomputable def CallR (X : Cx) (f : Value) (r : List V → Hp → VK → Prop) : Prop :=
  ∀ (pins : List (Addr × Obj)) (s : Shared) (σ : St) (H : Hp) (xs : List V) (us : List Value) (Q : VK), Inv X pins σ H s → Vals xs us → r xs H Q →
    wpAny (model X.prog X.w) X.A (call f us) (EP X pins σ Q) X.xe s
noncomputable def tOp (r : R2) (ta tb : TE) : TE := fun σ H Q => ta σ H fun x H1 => tb σ H1 fun y H2 => r x y H2 Q
noncomputable def tUn (r : V → Hp → VK → Prop) (ta : TE) : TE := fun σ H Q => ta σ H fun x H1 => r x H1 Q
noncomputable def rI (C : Int → Int → Prop) (g : Int → Int → V) : R2 := fun x y H Q => ∃ i j, x = .int i ∧ y = .int j ∧ C i j ∧ Q (g i j) H
noncomputable def rI0 (g : Int → Int → V) : R2 := fun x y H Q => ∃ i j, x = .int i ∧ y = .int j ∧ Q (g i j) H
noncomputable def rU (g : Int → V) : V → Hp → VK → Prop := fun x H Q => ∃ i, x = .int i ∧ Q (g i) H
section
variable {X : Cx} {a b c : Expr} {ta tb tc : TE} {pos : Pos}
theorem binT (ha : PE X a ta) (hb : PE X b tb) {pins : List (Addr × Obj)} {s : Shared} {σ : St} {H : Hp} {R : V → V → Hp → Prop} (I : Inv X pins σ H s)
    (h : ta σ H fun x H1 => tb σ H1 fun y H2 => R x y H2) {Q : Value → Shared → Prop} {f : Value → Value → Sem Value}
    (hf : ∀ v u s2 x y H2, Inv X pins σ H2 s2 → RelV x v → RelV y u → R x y H2 → wpAny (model X.prog X.w) X.A (f v u) Q X.xe s2) :
    wpAny (model X.prog X.w) X.A (eval a X.env) (fun v s₁ => wpAny (model X.prog X.w) X.A (eval b X.env) (fun u s₂ => wpAny (model X.prog X.w) X.A (f v u) Q X.xe s₂) X.xe s₁) X.xe s := by
  refine thn (ha pins s σ H _ I h) fun v s1 ⟨x, H1, I1, r1, q1⟩ => ?_
  refine thn (hb pins s1 σ H1 _ I1 q1) fun u s2 ⟨y, H2, I2, r2, q2⟩ => ?_
  exact hf v u s2 x y H2 I2 r1 r2 q2
theorem pe_op {op : Operator} {r : R2} (ho : OpR X (binaryOp op) r) (ha : PE X a ta) (hb : PE X b tb) : PE X (.BinOp a op b pos) (tOp r ta tb) := by
  intro pins s σ H Q I h
  exact wpAny_BinOp (binT ha hb I h fun v u s2 x y H2 I2 rx ry q => ho pins s2 σ H2 x y v u Q I2 rx ry q)
theorem pe_un {op : UnaryOp} {r : V → Hp → VK → Prop} (ho : UnR X (unaryOp op) r) (ha : PE X a ta) : PE X (.UnaryOp op a pos) (tUn r ta) := by
  intro pins s σ H Q I h
  exact UnaryOp_ (thn (ha pins s σ H _ I h) fun v s1 ⟨x, H1, I1, r1, q1⟩ => ho pins s1 σ H1 x v Q I1 r1 q1)
theorem opI {f : Value → Value → Sem Value} {C : Int → Int → Prop} {g : Int → Int → Int}
    (rule : ∀ (i j : Int) (t u : Tok) (s : Shared) (Q : Value → Shared → Prop) (E : Value → Shared → Prop), C i j → Q (.int (g i j) s.toks) { s with toks := s.toks + 1 } → wpAny (model X.prog X.w) X.A (f (.int i t) (.int j u)) Q E s) :
    OpR X f (rI C fun i j => .int (g i j)) := by
  intro pins s σ H x y v u Q I rx ry h
  obtain ⟨i, j, rfl, rfl, hc, q⟩ := h
  obtain ⟨t, rfl⟩ := rx
  obtain ⟨t', rfl⟩ := ry
  exact rule i j t t' s _ _ hc ⟨.int (g i j), H, I.tok _, ⟨_, rfl⟩, q⟩
theorem opI0 {f : Value → Value → Sem Value} {g : Int → Int → Int}
    (rule : ∀ (i j : Int) (t u : Tok) (s : Shared) (Q : Value → Shared → Prop) (E : Value → Shared → Prop), Q (.int (g i j) s.toks) { s with toks := s.toks + 1 } → wpAny (model X.prog X.w) X.A (f (.int i t) (.int j u)) Q E s) :
    OpR X f (rI0 fun i j => .int (g i j)) := by
  intro pins s σ H x y v u Q I rx ry h
  obtain ⟨i, j, rfl, rfl, q⟩ := h
  obtain ⟨t, rfl⟩ := rx
  obtain ⟨t', rfl⟩ := ry
  exact rule i j t t' s _ _ ⟨.int (g i j), H, I.tok _, ⟨_, rfl⟩, q⟩
theorem opB0 {f : Value → Value → Sem Value} {g : Int → Int → Bool}
    (rule : ∀ (i j : Int) (t u : Tok) (s : Shared) (Q : Value → Shared → Prop) (E : Value → Shared → Prop), Q (.bool (g i j)) s → wpAny (model X.prog X.w) X.A (f (.int i t) (.int j u)) Q E s) :
    OpR X f (rI0 fun i j => .bl (g i j)) := by
  intro pins s σ H x y v u Q I rx ry h
  obtain ⟨i, j, rfl, rfl, q⟩ := h
  obtain ⟨t, rfl⟩ := rx
  obtain ⟨t', rfl⟩ := ry
  exact rule i j t t' s _ _ ⟨.bl (g i j), H, I, rfl, q⟩
noncomputable def CDiv (i j : Int) : Prop := 0 < j ∧ j < 1073741824
noncomputable def CPow (i j : Int) : Prop := 0 ≤ j ∧ j ≤ 1000000 ∧ i.natAbs < 2 ^ 64
noncomputable def CMul (i j : Int) : Prop := (-(2 ^ 64) < i ∧ i < 2 ^ 64) ∨ (-(2 ^ 64) < j ∧ j < 2 ^ 64)
theorem CMul.ok {i j : Int} (h : CMul i j) : IntMulOk i j := by
  rcases h with ⟨h1, h2⟩ | ⟨h1, h2⟩
  · exact .of_left (intBits_le_64 h1 h2)
  · exact .of_right (intBits_le_64 h1 h2)
theorem op_add : OpR X (binaryOp .Add) (rI0 fun i j => .int (i + j)) := opI0 fun _ _ _ _ _ _ _ q => add_int q
theorem op_sub : OpR X (binaryOp .Sub) (rI0 fun i j => .int (i - j)) := opI0 fun _ _ _ _ _ _ _ q => sub_int q
theorem op_mul : OpR X (binaryOp .Mult) (rI CMul fun i j => .int (i * j)) := opI fun _ _ _ _ _ _ _ hc q => mul_int q hc.ok
theorem op_fdiv : OpR X (binaryOp .FloorDiv) (rI CDiv fun i j => .int (i / j)) := opI fun i j _ _ _ _ _ hc q => by
  have h1 : (0 : Int) < j := hc.1
  have h2 : j < 1073741824 := hc.2
  exact floordiv_int (by omega) (by rw [Int.fdiv_eq_ediv_of_nonneg i (by omega)]; exact q) (.inl (PyProof.noPylong_small (by omega)))
theorem op_mod : OpR X (binaryOp .Mod) (rI (fun _ j => 0 < j) fun i j => .int (i % j)) := opI fun i j _ _ _ _ _ hc q => by
  have h1 : (0 : Int) < j := hc
  exact mod_int' (by omega) (by rw [Int.fmod_eq_emod_of_nonneg i (by omega)]; exact q)
theorem op_pow : OpR X (binaryOp .Pow) (rI CPow fun i j => .int (i ^ j.toNat)) := opI fun _ _ _ _ _ _ _ hc q => pow_int_small hc.1 hc.2.1 hc.2.2 q
theorem unI {f : Value → Sem Value} {g : Int → Int}
    (rule : ∀ (i : Int) (t : Tok) (s : Shared) (Q : Value → Shared → Prop) (E : Value → Shared → Prop), Q (.int (g i) s.toks) { s with toks := s.toks + 1 } → wpAny (model X.prog X.w) X.A (f (.int i t)) Q E s) :
    UnR X f (rU fun i => .int (g i)) := by
  intro pins s σ H x v Q I rx h
  obtain ⟨i, rfl, q⟩ := h
  obtain ⟨t, rfl⟩ := rx
  exact rule i t s _ _ ⟨.int (g i), H, I.tok _, ⟨_, rfl⟩, q⟩
theorem un_neg : UnR X (unaryOp .USub) (rU fun i => .int (-i)) := unI fun _ _ _ _ _ q => neg_int q
end
noncomputable def scal : V → V → Bool
  | .non, .non => true | .non, .int _ => true | .int _, .non => true | .non, .bl _ => true | .bl _, .non => true | .non, .str _ => true | .str _, .non => true
  | .int _, .int _ => true | .bl _, .bl _ => true | .str _, .str _ => true | .byt _, .byt _ => true
  | .int _, .str _ => true | .str _, .int _ => true | .bl _, .str _ => true | .str _, .bl _ => true
  | _, _ => false
noncomputable def rEq : R2 := fun x y H Q => scal x y = true ∧ Q (.bl (decide (x = y))) H
theorem dec_int {i j : Int} : decide (V.int i = V.int j) = (i == j) := by
  rw [Bool.eq_iff_iff]
  simp
theorem dec_bl {i j : Bool} : decide (V.bl i = V.bl j) = (i == j) := by
  rw [Bool.eq_iff_iff]
  simp
theorem dec_str {i j : Str} : decide (V.str i = V.str j) = (i == j) := by
  rw [Bool.eq_iff_iff]
  simp
theorem dec_byt {i j : Array UInt8} : decide (V.byt i = V.byt j) = (i.toList == j.toList) := by
  rw [Bool.eq_iff_iff]
  cases i
  cases j
  simp
section
variable {X : Cx} {a b c : Expr} {ta tb tc : TE} {pos : Pos}
theorem fin_bl {pins : List (Addr × Obj)} {σ : St} {H : Hp} {s : Shared} {Q : VK} {k k' : Bool} (I : Inv X pins σ H s) (q : Q (.bl k) H) (e : k = k') : EP X pins σ Q (.bool k') s := by
  subst e
  exact ⟨.bl k, H, I, rfl, q⟩
theorem op_eq : OpR X (compareOp .Eq) rEq := by
  intro pins s σ H x y v u Q I rx ry h
  obtain ⟨hs, q⟩ := h
  cases x with
  | non =>
    cases rx
    cases y with
    | non => cases ry; exact PySem.EqNone.eq_none_none (fin_bl I q (by simp))
    | bl j => cases ry; exact PySem.EqNone.eq_none_bool (fin_bl I q (by simp))
    | int j => obtain ⟨t', rfl⟩ := ry; exact PySem.EqNone.eq_none_int (fin_bl I q (by simp))
    | str j => obtain ⟨t', rfl⟩ := ry; exact PySem.EqNone.eq_none_str (fin_bl I q (by simp))
    | _ => exact absurd (show false = true from hs) Bool.false_ne_true
  | bl i =>
    cases rx
    cases y with
    | non => cases ry; exact PySem.EqNone.eq_bool_none (fin_bl I q (by simp))
    | bl j => cases ry; exact eq_bool (fin_bl I q dec_bl)
    | str j => obtain ⟨t', rfl⟩ := ry; exact PySem.EqMixed.eq_bool_str (fin_bl I q (by simp))
    | _ => exact absurd (show false = true from hs) Bool.false_ne_true
  | int i =>
    obtain ⟨t, rfl⟩ := rx
    cases y with
    | non => cases ry; exact PySem.EqNone.eq_int_none (fin_bl I q (by simp))
    | int j => obtain ⟨t', rfl⟩ := ry; exact eq_int (fin_bl I q dec_int)
    | str j => obtain ⟨t', rfl⟩ := ry; exact PySem.EqMixed.eq_int_str (fin_bl I q (by simp))
    | _ => exact absurd (show false = true from hs) Bool.false_ne_true
  | str i =>
    obtain ⟨t, rfl⟩ := rx
    cases y with
    | non => cases ry; exact PySem.EqNone.eq_str_none (fin_bl I q (by simp))
    | bl j => cases ry; exact PySem.EqMixed.eq_str_bool (fin_bl I q (by simp))
    | int j => obtain ⟨t', rfl⟩ := ry; exact PySem.EqMixed.eq_str_int (fin_bl I q (by simp))
    | str j => obtain ⟨t', rfl⟩ := ry; exact eq_str (fin_bl I q dec_str)
    | _ => exact absurd (show false = true from hs) Bool.false_ne_true
  | byt i =>
    obtain ⟨t, rfl⟩ := rx
    cases y with
    | byt j => obtain ⟨t', rfl⟩ := ry; exact PySem.W.eq_bytes (fin_bl I q dec_byt)
    | _ => exact absurd (show false = true from hs) Bool.false_ne_true
  | _ => cases y <;> exact absurd (show false = true from hs) Bool.false_ne_true
theorem op_lt : OpR X (compareOp .Lt) (rI0 fun i j => .bl (decide (i < j))) := opB0 fun _ _ _ _ _ _ _ q => lt_int q
theorem op_gt : OpR X (compareOp .Gt) (rI0 fun i j => .bl (decide (j < i))) := opB0 fun _ _ _ _ _ _ _ q => gt_int q
theorem op_lt_str : OpR X (compareOp .Lt) (fun x y H Q => ∃ i j, x = .str i ∧ y = .str j ∧ Q (.bl (decide (i.cps.toList < j.cps.toList))) H) := by
  intro pins s σ H x y v u Q I rx ry h
  obtain ⟨i, j, rfl, rfl, q⟩ := h
  obtain ⟨t, rfl⟩ := rx
  obtain ⟨t', rfl⟩ := ry
  exact lt_str (fin_bl I q rfl)
theorem nomark (b : Expr) {op : CmpOp} (h : op ≠ .In := by decide) (h2 : op ≠ .NotIn := by decide) : behindInMarks op b = false := by
  have e1 : (op == CmpOp.In) = false := by cases op <;> first | rfl | exact absurd rfl h
  have e2 : (op == CmpOp.NotIn) = false := by cases op <;> first | rfl | exact absurd rfl h2
  cases b <;> simp [behindInMarks, e1, e2]
theorem pe_cmpR {op : CmpOp} {r : R2} (ho : OpR X (compareOp op) r) (ha : PE X a ta) (hb : PE X b tb) (hm : behindInMarks op b = false) : PE X (.Compare a [op] [b] pos) (tOp r ta tb) := by
  intro pins s σ H Q I h
  exact wpAny_Compare1 (binT ha hb I h fun v u s2 x y H2 I2 rx ry q => ho pins s2 σ H2 x y v u Q I2 rx ry q) hm
noncomputable def tTest (t : TE) : TT := fun σ H Q => t σ H fun x H' => ∃ k, x = .bl k ∧ Q k H'
theorem pt_cmpR {op : CmpOp} {r : R2} (ho : OpR X (compareOp op) r) (ha : PE X a ta) (hb : PE X b tb) (hm : behindInMarks op b = false) : PT X (.Compare a [op] [b] pos) (tTest (tOp r ta tb)) := by
  intro pins s σ H Q I h
  refine wpAny_isTrue_Compare1 (thn (ha pins s σ H _ I h) fun v s1 ⟨x, H1, I1, r1, q1⟩ => thn (hb pins s1 σ H1 _ I1 q1) fun u s2 ⟨y, H2, I2, r2, q2⟩ =>
    thn (ho pins s2 σ H2 x y v u _ I2 r1 r2 q2) fun c s3 ⟨z, H3, I3, r3, k, e, q3⟩ => ?_) hm
  subst e
  cases r3
  exact wpAny_truthy_bool ⟨H3, I3, q3⟩
theorem line63 : (sizeLine : Nat) < 2 ^ 63 := by rw [sizeLine_eq]; decide
theorem op_add_str : OpR X (binaryOp .Add) (fun x y H Q => ∃ i j, x = .str i ∧ y = .str j ∧ i.length + j.length ≤ sizeLine ∧ Q (.str (i ++ j)) H) := by
  intro pins s σ H x y v u Q I rx ry h
  obtain ⟨i, j, rfl, rfl, hz, q⟩ := h
  obtain ⟨t, rfl⟩ := rx
  obtain ⟨t', rfl⟩ := ry
  exact add_str (fun t' tk => ⟨.str (i ++ j), H, I.tok _, ⟨_, rfl⟩, q⟩) hz
theorem vals1 {x : V} {us : List Value} (r : Vals [x] us) : ∃ u, us = [u] ∧ RelV x u := by
  cases r with
  | cons r1 r2 => cases r2; exact ⟨_, rfl, r1⟩
theorem vals2 {x y : V} {us : List Value} (r : Vals [x, y] us) : ∃ u w', us = [u, w'] ∧ RelV x u ∧ RelV y w' := by
  cases r with
  | cons r1 r2 =>
    cases r2 with
    | cons r3 r4 => cases r4; exact ⟨_, _, rfl, r1, r3⟩
theorem call_int1 : CallR X (.type "int") (fun xs H Q => (∃ i, xs = [.int i] ∧ Q (.int i) H) ∨ ∃ k, xs = [.bl k] ∧ Q (.int (if k then 1 else 0)) H) := by
  intro pins s σ H xs us Q I r h
  rcases h with ⟨i, rfl, q⟩ | ⟨k, rfl, q⟩
  · obtain ⟨u, rfl, t, rfl⟩ := vals1 r
    exact call_int_int ⟨.int i, H, I, ⟨_, rfl⟩, q⟩
  · obtain ⟨u, rfl, r1⟩ := vals1 r
    cases r1
    exact call_int_bool ⟨.int (if k then 1 else 0), H, I.tok _, ⟨_, rfl⟩, q⟩
end
end L2
namespace L2
open PySem PySem.Spec PyProof.Rows
structure ObjM (h : Heap) (x dx C : Addr) (mA : Str → Option Value) : Prop where
  obj : h.get? x = some (PySem.W.instObj C dx)
  ns : h.Ns1 dx mA
  ne : dx ≠ x
theorem lookIn_ns {h : Heap} {dx : Addr} {mA : Str → Option Value} (n : h.Ns1 dx mA) : ∃ od, h.get? dx = some od ∧ ∀ name, PySem.W.lookIn name od = some (mA name) := by
  obtain ⟨o, es, ep, ho, hd, hk, _, hm⟩ := n
  refine ⟨o, ho, fun name => ?_⟩
  have e := hm name
  unfold nsFind findBy at e
  rw [← Array.find?_toList] at e
  unfold PySem.W.lookIn
  rw [hd]
  dsimp only
  split
  · rename_i y q
    rw [q] at e
    exact congrArg some e
  · rename_i q
    rw [q] at e
    have a : es.toList.any (·.refKey) = false := by
      rw [List.any_eq_false]
      intro y hy
      obtain ⟨z, t, hkey⟩ := hk y (Array.mem_toList_iff.mp hy)
      simp [DictEntry.refKey, hkey]
    have a' : ¬ es.toList.any (·.refKey) = true := by rw [a]; exact Bool.false_ne_true
    rw [if_neg a']
    exact congrArg some e
theorem ObjM.look {h : Heap} {x dx C : Addr} {mA : Str → Option Value} (I : ObjM h x dx C mA) : ∃ od, PySem.W.InstAt h x (PySem.W.instObj C dx) C (some od) ∧ ∀ name, PySem.W.lookIn name od = some (mA name) :=
  let ⟨od, ho, hl⟩ := lookIn_ns I.ns
  ⟨od, ⟨I.obj, rfl, rfl, ho⟩, hl⟩
section
variable {prog : Program} {w : World} {A : Around} {E : Value → Shared → Prop} {s : Shared} {K : PySem.W.Frag} {x dx C f : Addr} {mA : Str → Option Value} {name : Str} {v : Value}
theorem get_map {expr : Bool} {Q : Value → Shared → Prop} (X : K.In s.heap) (I : ObjM s.heap x dx C mA) (hg : PySem.W.plainGet K C name = true) (hh : PySem.W.hasDictIn K C = true)
    (ha : PySem.W.findIn K (.ref C) name = some none) (hv : mA name = some v) (hv' : PySem.W.handedIn v = true) (h : Q v { s with toks := s.toks + 1 }) :
    wpAny (model prog w) A (getAttr (.ref x) name expr) Q E s := by
  obtain ⟨od, J, hl⟩ := I.look
  exact PySem.W.get_value X J (PySem.W.plainGet_of hg).1 (PySem.W.findObj_own hh ha rfl (by rw [hl, hv])) hv' h
theorem get_meth {pl : Sem Bool} {Q : Value × List Value → Shared → Prop} (X : K.In s.heap) (I : ObjM s.heap x dx C mA) (hg : PySem.W.plainGet K C name = true)
    (hf : PySem.W.findIn K (.ref C) name = some (some (.ref f))) (ht : PySem.W.isFn K (.ref f) = true) (hv : mA name = none) (h : Q (.ref f, [.ref x]) s) :
    wpAny (model prog w) A (getMethod (.ref x) name pl) Q E s := by
  obtain ⟨od, J, hl⟩ := I.look
  exact PySem.W.method_fn X J (PySem.W.plainGet_of hg).1 (PySem.W.plainGet_of hg).2 hf (beq_iff_eq.mp ht) (by show (PySem.W.lookIn name od).map (·.isSome) = some false; rw [hl, hv]; rfl) h
theorem set_map {ns : List Str} {Q : Unit → Shared → Prop} (X : K.In s.heap) (I : ObjM s.heap x dx C mA)
    (hs : PySem.W.findIn K (.ref C) "__setattr__" = some (some (.builtin "object.__setattr__"))) (hp : PySem.W.plainOver K C = true) (ht : PySem.W.takerIn K C name = some none) (hh : PySem.W.hasDictIn K C = true)
    (hw : PySem.Within mA ns) (hsz : ns.length ≤ sizeLine)
    (h : ∀ h', ObjM h' x dx C (fun y => if y = name then some v else mA y) → Heap.SameBut dx s.heap h' → Q () { s with heap := h', toks := s.toks + 2 }) :
    wpAny (model prog w) A (setAttr (.ref x) name v) Q E s := by
  obtain ⟨od, J, hl⟩ := I.look
  refine PySem.W.set_plain X J hs (PySem.W.osa_open (s := { s with toks := s.toks + 1 }) (r := none) X J hp ht fun b => ?_)
  obtain ⟨cd, hc, hd'⟩ := PySem.W.any_some hh
  have hx : s.heap.get? x = some ⟨.ref C, some dx, .plain, #[]⟩ := I.obj
  refine wpAny_bind (wpAny_pure (wpAny_bind (wpAny_bind (wpAny_loadPart hx (wpAny_bind (PySem.W.Looks.here (s := { s with toks := s.toks + 1 }) (PySem.W.looks_clsIn X hc) ?_))))))
  rw [hd']
  refine wpAny_pure (a := some dx) (wpAny_bind (wpAny_pure (wpAny_bind ?_)))
  refine wpAny_nsSet1 (s := { s with toks := s.toks + 1 }) I.ns fun h' hn2 hs2 => ?_
  obtain ⟨oD, esD, epD, hoD, hdD, hcD⟩ := hn2.count (PySem.Within.cons name v hw)
  refine wpAny_bind (wpAny_lookBehind hoD (by rw [hdD]; exact pastItsLine_dict (Nat.le_trans hcD (by rw [List.length_cons]; omega))) ?_)
  exact wpAny_pure (h _ ⟨(hs2.2 _ (Ne.symm I.ne)).trans I.obj, hn2, I.ne⟩ hs2)
theorem make_map {R : Result → Shared → Prop} {vs : List Value} {kw : List (Str × Value)} (X : K.In s.heap) (hm : PySem.W.makesIn K C = true)
    (hi : PySem.W.findIn K (.ref C) "__init__" = some (some (.ref f))) (hf : PySem.W.typeIn K (.ref f) = some (.type "function"))
    (h : codeAny (model prog w) (A.under (.builtin "type.__call__" ⟨.ref C :: vs, kw⟩)) (.call (.ref f) ⟨.ref (s.heap.objs.size + 1) :: vs, kw⟩) (PySem.W.InitBack (s.heap.objs.size + 1) R)
      { s with heap := (s.heap.push PySem.W.emptyDict).push (PySem.W.instObj C s.heap.objs.size) }) :
    codeAny (model prog w) A (.call (.ref C) ⟨vs, kw⟩) R s := by
  obtain ⟨hh, g, d, t, os⟩ := s
  exact PySem.W.make_core (PySem.W.makes_of X hm) (PySem.W.looks_findIn X hi) (fun self => PySem.W.bind_fn X self hf) (.inl rfl) h
end
noncomputable def putF (f : Str) (v : V) : List (Str × V) → List (Str × V)
  | [] => [(f, v)]
  | (g, x) :: r => if g = f then (g, v) :: r else (g, x) :: putF f v r
theorem lookup_putF (f g : Str) (v : V) : ∀ fs : List (Str × V), (putF f v fs).lookup g = if g = f then some v else fs.lookup g
  | [] => by
    show List.lookup g [(f, v)] = _
    by_cases h : g = f
    · have hb : (g == f) = true := beq_iff_eq.mpr h
      simp only [List.lookup, hb, if_pos h]
    · have hb : (g == f) = false := beq_eq_false_iff_ne.mpr h
      simp only [List.lookup, hb, if_neg h]
  | (k, x) :: r => by
    have ih := lookup_putF f g v r
    rw [show putF f v ((k, x) :: r) = (if k = f then (k, v) :: r else (k, x) :: putF f v r) from rfl]
    by_cases hk : k = f
    · rw [if_pos hk]
      by_cases h : g = k
      · have hb : (g == k) = true := beq_iff_eq.mpr h
        simp only [List.lookup, hb, if_pos (h.trans hk)]
      · have hb : (g == k) = false := beq_eq_false_iff_ne.mpr h
        simp only [List.lookup, hb, if_neg (fun e : g = f => h (e.trans hk.symm))]
    · rw [if_neg hk]
      by_cases h : g = k
      · have hb : (g == k) = true := beq_iff_eq.mpr h
        simp only [List.lookup, hb, if_neg (fun e : g = f => hk (h.symm.trans e))]
      · have hb : (g == k) = false := beq_eq_false_iff_ne.mpr h
        simp only [List.lookup, hb]
        exact ih
theorem keys_putF (f : Str) (v : V) : ∀ fs : List (Str × V), f ∈ (putF f v fs).map (·.1) ∧ ∀ g, g ∈ fs.map (·.1) → g ∈ (putF f v fs).map (·.1)
  | [] => ⟨by simp [putF], fun g h => by simp at h⟩
  | (k, x) :: r => by
    obtain ⟨i1, i2⟩ := keys_putF f v r
    rw [show putF f v ((k, x) :: r) = (if k = f then (k, v) :: r else (k, x) :: putF f v r) from rfl]
    by_cases hk : k = f
    · rw [if_pos hk]
      subst hk
      exact ⟨by simp, fun g h => by simpa using h⟩
    · rw [if_neg hk]
      refine ⟨?_, fun g h => ?_⟩
      · rw [List.map_cons]
        exact List.mem_cons_of_mem _ i1
      · rw [List.map_cons] at h ⊢
        rcases List.mem_cons.mp h with e | e
        · exact List.mem_cons.mpr (.inl e)
        · exact List.mem_cons_of_mem _ (i2 g e)
theorem length_putF (f : Str) (v : V) : ∀ fs : List (Str × V), (putF f v fs).length ≤ fs.length + 1
  | [] => by simp [putF]
  | (k, x) :: r => by
    have ih := length_putF f v r
    rw [show putF f v ((k, x) :: r) = (if k = f then (k, v) :: r else (k, x) :: putF f v r) from rfl]
    by_cases hk : k = f
    · rw [if_pos hk, List.length_cons, List.length_cons]; omega
    · rw [if_neg hk, List.length_cons, List.length_cons]; omega
theorem RelO.some_of {v : V} {o : Option Value} (r : RelO (some v) o) : ∃ u, o = some u ∧ RelV v u := by
  cases o with
  | none => exact (show False from r).elim
  | some u => exact ⟨u, rfl, r⟩
theorem RelO.none_of {o : Option Value} (r : RelO none o) : o = none := by
  cases o with
  | none => rfl
  | some u => exact (show False from r).elim
theorem handed_of {v : V} {u : Value} (r : RelV v u) : PySem.W.handedIn u = true := by
  cases v with
  | non => cases (show u = Value.none from r); rfl
  | bl b => cases (show u = Value.bool b from r); rfl
  | int i => obtain ⟨t, e⟩ := (show ∃ t, u = Value.int i t from r); cases e; rfl
  | str x => obtain ⟨t, e⟩ := (show ∃ t, u = Value.str x t from r); cases e; rfl
  | byt b => obtain ⟨t, e⟩ := (show ∃ t, u = Value.bytes b t from r); cases e; rfl
  | flt b => obtain ⟨t, e⟩ := (show ∃ t, u = Value.float b t from r); cases e; rfl
  | ref a => cases (show u = Value.ref a from r); rfl
  | ty n => cases (show u = Value.type n from r); rfl
section
variable {P : Program} {w : World} {H H' : Hp} {h h' : Heap} {a C dx : Addr} {fs fs' : List (Str × V)}
theorem ins_get (hok : HOk P w H h) (e : H a = some (.ins C dx fs)) : ∃ mA, ObjM h a dx C mA ∧ (∀ f, RelO (fs.lookup f) (mA f)) ∧ PySem.Within mA (fs.map (·.1)) ∧ fs.length ≤ 1000 ∧ H dx = some (.own a) := by
  obtain ⟨d, z, ne, ob, mA, n, r, q⟩ := (show ObjOk P w H h a (.ins C dx fs) from hok a _ e)
  exact ⟨mA, ⟨ob, n, ne⟩, r, q, z, d⟩
end
structure Cls (K : PySem.W.Frag) (C : Addr) : Prop where
  pg : PySem.W.plainGet K C Str.empty = true
  hd : PySem.W.hasDictIn K C = true
  po : PySem.W.plainOver K C = true
  sa : PySem.W.findIn K (.ref C) "__setattr__" = some (some (.builtin "object.__setattr__"))
theorem Cls.get {K : PySem.W.Frag} {C : Addr} (c : Cls K C) (f : Str) : PySem.W.plainGet K C f = true := c.pg
noncomputable def NoAttr (K : PySem.W.Frag) (C : Addr) (f : Str) : Prop := PySem.W.findIn K (.ref C) f = some none
theorem NoAttr.taker {K : PySem.W.Frag} {C : Addr} {f : Str} (n : NoAttr K C f) : PySem.W.takerIn K C f = some none := by
  unfold PySem.W.takerIn
  rw [show PySem.W.findIn K (.ref C) f = some none from n]
  rfl
structure Meth (K : PySem.W.Frag) (C : Addr) (m : Str) (f : Addr) : Prop where
  at_ : PySem.W.findIn K (.ref C) m = some (some (.ref f))
  fn : PySem.W.isFn K (.ref f) = true
  kp : PySem.W.keepIn K (.ref f) = true
section
variable {X : Cx} {pins : List (Addr × Obj)} {σ : St} {H : Hp} {s : Shared} {a C dx : Addr} {fs : List (Str × V)} {f : Str} {v : V} {A : Around} {E : Value → Shared → Prop}
theorem getattr_ok {b : Bool} {Q : Value → Shared → Prop} (I : Inv X pins σ H s) (e : H a = some (.ins C dx fs)) (c : Cls X.K C) (n : NoAttr X.K C f) (l : fs.lookup f = some v)
    (h : ∀ u s', Inv X pins σ H s' → RelV v u → Q u s') : wpAny (model X.prog X.w) A (getAttr (.ref a) f b) Q E s := by
  obtain ⟨mA, O, r, _, _, _⟩ := ins_get I.hok e
  obtain ⟨u, hu, ru⟩ := RelO.some_of (v := v) (o := mA f) (by rw [← l]; exact r f)
  exact get_map I.kIn O (c.get f) c.hd n hu (handed_of ru) (h u _ (I.tok _) ru)
theorem getmeth_ok {m : Str} {g : Addr} {pl : Sem Bool} {Q : Value × List Value → Shared → Prop} (I : Inv X pins σ H s) (e : H a = some (.ins C dx fs)) (c : Cls X.K C) (k : Meth X.K C m g) (l : fs.lookup m = none)
    (h : Q (.ref g, [.ref a]) s) : wpAny (model X.prog X.w) A (getMethod (.ref a) m pl) Q E s := by
  obtain ⟨mA, O, r, _, _, _⟩ := ins_get I.hok e
  have hn : mA m = none := RelO.none_of (by rw [← l]; exact r m)
  exact get_meth I.kIn O (c.get m) k.at_ k.fn hn h
theorem setattr_ok {y : V} {u : Value} {Q : Unit → Shared → Prop} (I : Inv X pins σ H s) (e : H a = some (.ins C dx fs)) (c : Cls X.K C) (n : NoAttr X.K C f) (hl : fs.length < 1000) (ry : RelV y u)
    (h : ∀ s', Inv X pins σ (upd H a (.ins C dx (putF f y fs))) s' → Q () s') : wpAny (model X.prog X.w) A (setAttr (.ref a) f u) Q E s := by
  obtain ⟨mA, O, r, wi, _, ho⟩ := ins_get I.hok e
  have hz : (fs.map (·.1)).length ≤ sizeLine := by rw [List.length_map, sizeLine_eq]; omega
  refine set_map I.kIn O c.sa c.po n.taker c.hd wi hz fun h' O' sb => h _ ?_
  have hd : ∃ o, h'.get? dx = some o := let ⟨o, _, _, e', _⟩ := O'.ns; ⟨o, e'⟩
  refine I.write (x := a) (e := dx) (by rw [e]; exact True.intro) (.inr ho) (fun b q hb z => (sb.2 b hb).trans z) hd ?_
  refine ⟨by rw [upd_ne O.ne]; exact ho, ?_, O.ne, O'.obj, _, O'.ns, fun g => ?_, fun g hg => ?_⟩
  · have := length_putF f y fs; omega
  · show RelO ((putF f y fs).lookup g) (if g = f then some u else mA g)
    rw [lookup_putF]
    by_cases q : g = f
    · rw [if_pos q, if_pos q]; exact ry
    · rw [if_neg q, if_neg q]; exact r g
  · by_cases q : g = f
    · rw [q]; exact (keys_putF f y fs).1
    · refine (keys_putF f y fs).2 g (wi g fun z => hg ?_)
      show (if g = f then some u else mA g) = none
      rw [if_neg q]; exact z
theorem Inv.made (I : Inv X pins σ H s) : Inv X pins σ (upd (upd H s.heap.objs.size (.own (s.heap.objs.size + 1))) (s.heap.objs.size + 1) (.ins C s.heap.objs.size []))
    { s with heap := (s.heap.push PySem.W.emptyDict).push (PySem.W.instObj C s.heap.objs.size) } := by
  have e1 : (s.heap.push PySem.W.emptyDict).get? s.heap.objs.size = some PySem.W.emptyDict := Heap.get?_push_size s.heap rfl
  have e2 : ((s.heap.push PySem.W.emptyDict).push (PySem.W.instObj C s.heap.objs.size)).get? (s.heap.objs.size + 1) = some (PySem.W.instObj C s.heap.objs.size) := by
    have := Heap.get?_push_size (s.heap.push PySem.W.emptyDict) (o := PySem.W.instObj C s.heap.objs.size) rfl
    rwa [Heap.size_push] at this
  have e3 : (s.heap.push PySem.W.emptyDict).Ns s.heap.objs.size (fun _ => none) := ⟨PySem.W.emptyDict, #[], _, e1, rfl, (fun e he => absurd he (by simp)), fun _ => rfl⟩
  have I1 := I.laid (a := s.heap.objs.size) (o := .own (s.heap.objs.size + 1)) (h' := s.heap.push PySem.W.emptyDict) (t' := s.toks) (fun b u q => Heap.get?_push_of_some _ q) (Nat.le_refl _) ⟨_, e1⟩
  refine I1.laid (a := s.heap.objs.size + 1) (o := .ins C s.heap.objs.size []) (t' := s.toks) (fun b u q => Heap.get?_push_of_some _ q) (Nat.le_of_eq (Heap.size_push _ _)) ?_
  have ne : s.heap.objs.size ≠ s.heap.objs.size + 1 := Nat.ne_of_lt (Nat.lt_succ_self _)
  refine ⟨by rw [upd_ne ne, upd_same], Nat.zero_le _, ne, e2, fun _ => none, (Heap.Ns1.of_empty e3).at fun o q => Heap.get?_push_of_some _ q, fun _ => True.intro, fun y hy => absurd rfl hy⟩
theorem attr_of {prog : Program} {w : World} {env : Env} {e : Expr} {f : Str} {pos : Pos} {s : Shared} {Q : Value → Shared → Prop} (hb : attributeBase e f env (eval e env) = eval e env)
    (h : wpAny (model prog w) A (eval e env) (fun o s₁ => wpAny (model prog w) A (getAttr o f true) Q E s₁) E s) : wpAny (model prog w) A (eval (.Attribute e f pos) env) Q E s :=
  Attribute_any_ h (by rw [arm_eval_Attribute, hb])
end
noncomputable def tFld (K : PySem.W.Frag) (ta : TE) (f : Str) : TE := fun σ H Q => ta σ H fun x H1 => ∃ a C dx fs v, x = .ref a ∧ H1 a = some (.ins C dx fs) ∧ Cls K C ∧ NoAttr K C f ∧ fs.lookup f = some v ∧ Q v H1
noncomputable def sFld (K : PySem.W.Frag) (ta tv : TE) (f : Str) : TS := fun D σ H => tv σ H fun y H1 => ta σ H1 fun x H2 => ∃ a C dx fs, x = .ref a ∧ H2 a = some (.ins C dx fs) ∧ Cls K C ∧ NoAttr K C f ∧ fs.length < 1000 ∧
  D.nx σ (upd H2 a (.ins C dx (putF f y fs)))
section
variable {X : Cx} {o e value : Expr} {f : Str} {pos pos' tpos : Pos} {ta tv : TE}
theorem pe_fld (he : PE X e ta) (hb : attributeBase e f X.env (eval e X.env) = eval e X.env) : PE X (.Attribute e f pos) (tFld X.K ta f) := by
  intro pins s σ H Q I h
  refine attr_of hb (thn (he pins s σ H _ I h) fun u s1 ⟨x, H1, I1, rx, a, C, dx, fs, v, ex, ea, c, n, l, q⟩ => ?_)
  subst ex
  obtain rfl : u = Value.ref a := rx
  exact getattr_ok I1 ea c n l fun u' s2 I2 ru => ⟨v, H1, I2, ru, q⟩
theorem ps_fld (ha : PE X o ta) (hv : PE X value tv) (hs : swapsWith value (some (.Attribute o f pos')) pos.line X.env = pure false) : PS X (.Assign [.Attribute o f pos'] value pos) (sFld X.K ta tv f) := by
  intro pins s σ H D I h
  refine plainObj_wpAny_Assign_Attribute (thn (hv pins s σ H _ I h) fun u s1 ⟨y, H1, I1, ry, q⟩ => thn (ha pins s1 σ H1 _ I1 q) fun ov s2 ⟨x, H2, I2, rx, a, C, dx, fs, ex, ea, c, n, l, q2⟩ => ?_) hs
  subst ex
  obtain rfl : ov = Value.ref a := rx
  exact setattr_ok I2 ea c n l ry fun s3 I3 => ⟨σ, _, I3, q2⟩
end
section
variable {X : Cx} {pins : List (Addr × Obj)} {σ : St} {H : Hp} {s : Shared} {A : Around} {E : Value → Shared → Prop} {Q : Value → Shared → Prop} {c : Value} {b : Bool}
inductive TyOf (K : PySem.W.Frag) (H : Hp) : V → Value → Prop where
  | non : TyOf K H .non (.type "NoneType")
  | bl (x : Bool) : TyOf K H (.bl x) (.type "bool")
  | int (i : Int) : TyOf K H (.int i) (.type "int")
  | str (x : Str) : TyOf K H (.str x) (.type "str")
  | flt (x : UInt64) : TyOf K H (.flt x) (.type "float")
  | lst {a : Addr} {xs : List V} (e : H a = some (.lst xs)) : TyOf K H (.ref a) (.type "list")
  | frz {a : Addr} {o : Obj} {xs : List V} (e : H a = some (.frz o (.lst xs))) : TyOf K H (.ref a) (.type "list")
  | tup {a : Addr} {xs : List V} (e : H a = some (.tup xs)) : TyOf K H (.ref a) (.type "tuple")
  | dK {a : Addr} {kvs : List (Key × V)} (e : H a = some (.dK kvs)) : TyOf K H (.ref a) (.type "dict")
  | dT {a : Addr} {kvs : List (List Key × V)} (e : H a = some (.dT kvs)) : TyOf K H (.ref a) (.type "dict")
  | ins {a C dx : Addr} {fs : List (Str × V)} (e : H a = some (.ins C dx fs)) (cl : Cls K C) (ha : PySem.W.findIn K (.ref C) "__class__" = some (some (.builtin "object.__class__")))
      (hn : PySem.W.specialIn K (.builtin "object.__class__") "__get__" = some (some (.builtin "getset_descriptor.__get__"))) (htk : PySem.W.takesIn K (.builtin "object.__class__") = some true)
      (hm : PySem.W.mroIn K C (.type "object") = some true) : TyOf K H (.ref a) (.ref C)
theorem isinst_ok {x : V} {u t : Value} (I : Inv X pins σ H s) (rx : RelV x u) (ty : TyOf X.K H x t) (e : PySem.W.kitOne X.K t c = some b) (h : ∀ tk, Q (.bool b) { s with toks := tk }) :
    wpAny (model X.prog X.w) A (call (.builtin "isinstance") [u, c]) Q E s := by
  cases ty with
  | non => cases (show u = Value.none from rx); exact PySem.W.kia_one PySem.W.kitx_none I.kIn True.intro e (fun z => nomatch z) h
  | bl y => cases (show u = Value.bool y from rx); exact PySem.W.kia_one PySem.W.kitx_bool I.kIn True.intro e (fun z => nomatch z) h
  | int i => obtain ⟨t, q⟩ := (show ∃ t, u = Value.int i t from rx); cases q; exact PySem.W.kia_one PySem.W.kitx_int I.kIn True.intro e (fun z => nomatch z) h
  | str y => obtain ⟨t, q⟩ := (show ∃ t, u = Value.str y t from rx); cases q; exact PySem.W.kia_one PySem.W.kitx_str I.kIn True.intro e (fun z => nomatch z) h
  | flt y => obtain ⟨t, q⟩ := (show ∃ t, u = Value.float y t from rx); cases q; exact PySem.W.kia_one PySem.W.kitx_float I.kIn True.intro e (fun z => nomatch z) h
  | @lst a xs ea =>
    cases (show u = Value.ref a from rx)
    obtain ⟨_, _, n, _, h1⟩ := (show ObjOk X.prog X.w H s.heap a (.lst xs) from I.hok a _ ea)
    exact PySem.W.kia_one PySem.W.kitx_list I.kIn ⟨_, h1, rfl⟩ e (fun z => nomatch z) h
  | @frz a ob xs ea =>
    cases (show u = Value.ref a from rx)
    obtain ⟨_, _, _, n, _, h1⟩ := (show ObjOk X.prog X.w H s.heap a (.frz ob (.lst xs)) from I.hok a _ ea)
    exact PySem.W.kia_one PySem.W.kitx_list I.kIn ⟨_, h1, rfl⟩ e (fun z => nomatch z) h
  | @tup a xs ea =>
    cases (show u = Value.ref a from rx)
    obtain ⟨_, _, _, p⟩ := (show ObjOk X.prog X.w H s.heap a (.tup xs) from I.hok a _ ea)
    obtain ⟨o, h1, h2, _⟩ := p
    exact PySem.W.kia_one PySem.W.kitx_tuple I.kIn ⟨o, h1, h2⟩ e (fun z => nomatch z) h
  | @dK a kvs ea =>
    cases (show u = Value.ref a from rx)
    obtain ⟨_, _, vs, _, p⟩ := (show ObjOk X.prog X.w H s.heap a (.dK kvs) from I.hok a _ ea)
    obtain ⟨o, es, ep, h1, h2, _⟩ := p
    exact PySem.W.kia_one PySem.W.kitx_dict I.kIn ⟨o, h1, h2.1⟩ e (fun z => nomatch z) h
  | @dT a kvs ea =>
    cases (show u = Value.ref a from rx)
    obtain ⟨_, _, xs, _, o, es, ep, h1, h2, _⟩ := (show ObjOk X.prog X.w H s.heap a (.dT kvs) from I.hok a _ ea)
    exact PySem.W.kia_one PySem.W.kitx_dict I.kIn ⟨o, h1, h2.1⟩ e (fun z => nomatch z) h
  | @ins a C dx fs ea cl ha hn htk hm =>
    cases (show u = Value.ref a from rx)
    obtain ⟨mA, O, _⟩ := ins_get I.hok ea
    obtain ⟨od, J, _⟩ := O.look
    exact PySem.W.kia_one (PySem.W.kitx_own (cl.get _) cl.hd ha hn htk hm) I.kIn J e (fun z => nomatch z) h
end
end L2
namespace L2
open PySem PySem.Spec PyProof.Rows
structure Room (k : Nat) (A : Around) : Prop where
  hd : A.handled = none
  dp : A.depth + 3 * k + 5 < recursionLimit
  un : A.units + 16 * k + 200 < cLine
theorem Room.mono {j k : Nat} {A : Around} (r : Room k A) (h : j ≤ k) : Room j A := ⟨r.hd, by have := r.dp; omega, by have := r.un; omega⟩
theorem Room.deeper {k : Nat} {A : Around} (r : Room (k + 1) A) (env : Env) : Room k (A.deeper env) :=
  ⟨r.hd, by have := r.dp; show A.depth + 1 + 3 * k + 5 < _; omega, by have := r.un; show A.units + 3 + 16 * k + 200 < _; omega⟩
theorem Room.in1 {k : Nat} {A : Around} (r : Room (k + 1) A) : Room k A.in1 :=
  ⟨r.hd, by have := r.dp; show A.depth + 3 * k + 5 < _; omega, by have := r.un; show A.units + 1 + 16 * k + 200 < _; omega⟩
theorem make_depth {A : Around} {C : Addr} {us : List Value} {kw : List (Str × Value)} : (A.under (.builtin "type.__call__" ⟨.ref C :: us, kw⟩)).depth = A.depth + 1 := by
  first | rfl | simp [Around.under, Code.weight, Code.isCreation, Code.isGuard, Code.isCaller, Code.frames, Code.isFrame, guardIds]
theorem make_units {A : Around} {C : Addr} {us : List Value} {kw : List (Str × Value)} : (A.under (.builtin "type.__call__" ⟨.ref C :: us, kw⟩)).units = A.units + 1 := by
  first | rfl | simp [Around.under, Code.cUnits, Code.frames, Code.isFrame]
theorem Room.make {k : Nat} {A : Around} (r : Room (k + 1) A) (C : Addr) (us : List Value) (kw : List (Str × Value)) : Room k (A.under (.builtin "type.__call__" ⟨.ref C :: us, kw⟩)) :=
  ⟨r.hd, by have := r.dp; rw [make_depth]; omega, by have := r.un; rw [make_units]; omega⟩
theorem Room.depth {k : Nat} {A : Around} (r : Room k A) : A.depth < recursionLimit := by have := r.dp; omega
theorem Room.units {k : Nat} {A : Around} (r : Room k A) : A.units + 64 < cLine := by have := r.un; omega
noncomputable def tNil : TA := fun _ H Q => Q [] H
noncomputable def tCons (ta : TE) (tr : TA) : TA := fun σ H Q => ta σ H fun x H1 => tr σ H1 fun xs H2 => Q (x :: xs) H2
section
variable {X : Cx} {e : Expr} {es : List Expr} {te : TE} {t : TA} {pos : Pos}
theorem pa_nil : PA X [] tNil := fun _ _ _ _ H Q I h => Calls.spliced_nil ⟨[], H, I, .nil, h⟩
theorem pa_cons (ha : PE X e te) (hr : PA X es t) (hs : starEach (e :: es) X.env = (false, eval e X.env) :: starEach es X.env := by rfl) : PA X (e :: es) (tCons te t) := by
  intro pos pins s σ H Q I h
  rw [hs]
  show wpAny _ _ (spliced ((false, eval e X.env) :: backTo pos (starEach es X.env))) _ _ s
  refine Calls.spliced_cons (thn (ha pins s σ H _ I h) fun u s1 ⟨x, H1, I1, r1, q1⟩ => ?_)
  exact thn (hr pos pins s1 σ H1 _ I1 q1) fun us s2 ⟨xs, H2, I2, r2, q2⟩ => ⟨x :: xs, H2, I2, .cons r1 r2, q2⟩
noncomputable def tTup (t : TA) : TE := fun σ H Q => t σ H fun xs H1 => xs.length ≤ sizeLine ∧ ∀ p, H1 p = none → Q (.ref p) (upd H1 p (.tup xs))
noncomputable def tLst (t : TA) : TE := fun σ H Q => t σ H fun xs H1 => xs.length ≤ sizeLine ∧ ∀ p, H1 p = none → Q (.ref p) (upd H1 p (.lst xs))
theorem pe_tup {x1} (h : PA X es t) : PE X (.Tuple es x1 pos) (tTup t) := by
  intro pins s σ H Q I hq
  refine wpAny_Tuple_spliced (thn (h pos pins s σ H _ I hq) fun us s1 ⟨xs, H1, I1, r, z, q⟩ => ⟨by rw [← r.length]; exact z, ?_⟩)
  have hf : H1 s1.heap.objs.size = none := I1.hok.fresh (Nat.le_refl _)
  refine ⟨.ref s1.heap.objs.size, upd H1 s1.heap.objs.size (.tup xs), I1.laid (t' := s1.toks) (fun b u e => Heap.get?_push_of_some _ e) (Nat.le_refl _) ?_, rfl, q _ hf⟩
  exact ⟨z, us, r, ⟨_, Heap.get?_push_size _ rfl, rfl, _, rfl⟩⟩
theorem pe_lst (h : PA X es t) : PE X (.List es pos) (tLst t) := by
  intro pins s σ H Q I hq
  refine wpAny_List_spliced (thn (h pos pins s σ H _ I hq) fun us s1 ⟨xs, H1, I1, r, z, q⟩ => ⟨by rw [← r.length]; exact z, ?_⟩)
  have hf : H1 s1.heap.objs.size = none := I1.hok.fresh (Nat.le_refl _)
  refine ⟨.ref s1.heap.objs.size, upd H1 s1.heap.objs.size (.lst xs), I1.laid (t' := s1.toks) (fun b u e => Heap.get?_push_of_some _ e) (Nat.le_refl _) ?_, rfl, q _ hf⟩
  exact ⟨z, us, 0, r, Heap.get?_push_size _ rfl⟩
end
noncomputable abbrev Sp := List V → Hp → VK → XK → Prop
noncomputable abbrev CXT := List Env → Hp → Shared → XK → Value → Shared → Prop
structure Env0 (P : Program) (w : World) (K : PySem.W.Frag) (mg : Str → Option Value) (base : Heap) (A : Around) (outer : List Env) (s : Shared) (H : Hp) : Prop where
  frames : A.frames = some outer
  mod : Mod K mg base
  bs : ∀ b o, base.get? b = some o → s.heap.get? b = some o ∧ H b = none
  bsz : base.objs.size ≤ s.heap.objs.size
  funs : s.heap.FunFrames base outer
  frf : ∀ b ∈ frs outer, H b = none
  hok : HOk P w H s.heap
  bare : AllBare s.gens
noncomputable def CE (outer : List Env) (P : Program) (w : World) (H : Hp) (s : Shared) (Q : VK) (u : Value) (s' : Shared) : Prop :=
  ∃ v H', s'.os = s.os ∧ AllBare s'.gens ∧ Un (frs outer) [] H H' s.heap s'.heap ∧ HOk P w H' s'.heap ∧ RelV v u ∧ Q v H'
noncomputable def CR (CX : CXT) (outer : List Env) (P : Program) (w : World) (H : Hp) (s : Shared) (Q : VK) (E : XK) (r : Result) (s' : Shared) : Prop :=
  match r with
  | .ok (.ret u) => CE outer P w H s Q u s'
  | .ok _ => False
  | .error e => CX outer H s E e s'
structure FnOk (P : Program) (w : World) (K : PySem.W.Frag) (mg : Str → Option Value) (base : Heap) (CX : CXT) (k : Nat) (f : Addr) (fd : FuncData) (ps : List Str) (sp : Sp) : Prop where
  len : ∀ vs H Q E, sp vs H Q E → vs.length = ps.length
  run : ∀ (A : Around) (outer : List Env) (s : Shared) (H : Hp) (args : Args) (us : List Value) (vs : List V) (Q : VK) (E : XK), Room k A → Env0 P w K mg base A outer s H → BindsTo s fd args (ps.zip us) → Vals vs us → sp vs H Q E →
    codeAny (model P w) A (.call (.ref f) args) (CR CX outer P w H s Q E) s
theorem FnOk.mono {P : Program} {w : World} {K : PySem.W.Frag} {mg : Str → Option Value} {base : Heap} {CX : CXT} {j k : Nat} {f : Addr} {fd : FuncData} {ps : List Str} {sp : Sp} (F : FnOk P w K mg base CX j f fd ps sp) (h : j ≤ k) :
    FnOk P w K mg base CX k f fd ps sp := ⟨F.len, fun A outer s H args us vs Q E hr => F.run A outer s H args us vs Q E (hr.mono h)⟩
theorem FnOk.imp {P : Program} {w : World} {K : PySem.W.Frag} {mg : Str → Option Value} {base : Heap} {CX : CXT} {k : Nat} {f : Addr} {fd : FuncData} {ps : List Str} {sp sp' : Sp} (F : FnOk P w K mg base CX k f fd ps sp)
    (h : ∀ vs H Q E, sp' vs H Q E → sp vs H Q E) : FnOk P w K mg base CX k f fd ps sp' :=
  ⟨fun vs H Q E q => F.len vs H Q E (h _ _ _ _ q), fun A outer s H args us vs Q E hr he hb hv hs => F.run A outer s H args us vs Q E hr he hb hv (h _ _ _ _ hs)⟩
theorem Env0.make {P : Program} {w : World} {K : PySem.W.Frag} {mg : Str → Option Value} {base : Heap} {A : Around} {outer : List Env} {s : Shared} {H : Hp} (e : Env0 P w K mg base A outer s H) (C : Addr) (us : List Value) (kw : List (Str × Value)) :
    Env0 P w K mg base (A.under (.builtin "type.__call__" ⟨.ref C :: us, kw⟩)) outer s H := ⟨by first | exact e.frames | (simpa [Around.under, Code.envs, Code.isFrame, pushEnvs] using e.frames), e.mod, e.bs, e.bsz, e.funs, e.frf, e.hok, e.bare⟩
theorem Env0.in1 {P : Program} {w : World} {K : PySem.W.Frag} {mg : Str → Option Value} {base : Heap} {A : Around} {outer : List Env} {s : Shared} {H : Hp} (e : Env0 P w K mg base A outer s H) :
    Env0 P w K mg base A.in1 outer s H := ⟨e.frames, e.mod, e.bs, e.bsz, e.funs, e.frf, e.hok, e.bare⟩
section
variable {X : Cx} {pins : List (Addr × Obj)} {σ : St} {H : Hp} {s s' : Shared}
theorem Inv.env0 (I : Inv X pins σ H s) : Env0 X.prog X.w X.K X.mg X.base X.A X.stack s H :=
  ⟨I.ok.frames, I.ok.mod, I.bs, Nat.le_trans I.ok.bsz I.sz, I.stack, I.stkFree, I.hok, I.bare⟩
theorem Inv.after {Q : VK} {u : Value} (I : Inv X pins σ H s) (h : CE X.stack X.prog X.w H s Q u s') : EP X pins σ Q u s' := by
  obtain ⟨v, H', os, bare, un, hok, r, q⟩ := h
  obtain ⟨hh, g, d, t, os'⟩ := s'
  obtain rfl : os' = s.os := os
  exact ⟨v, H', I.call (h' := hh) (g' := g) (d' := d) (t' := t) (ch := []) un hok bare (fun b z => absurd z (by simp)), r, q⟩
end
noncomputable def tCall (sp : Sp) (dvs : List V) (E : XK) (t : TA) : TE := fun σ H Q => t σ H fun vs H1 => sp (vs ++ dvs) H1 Q E
noncomputable def tMeth (C : Addr) (m : Str) (sp : Sp) (dvs : List V) (E : XK) (ta : TE) (t : TA) : TE := fun σ H Q => ta σ H fun x H1 => ∃ a dx fs, x = .ref a ∧ H1 a = some (.ins C dx fs) ∧ fs.lookup m = none ∧
  t σ H1 fun vs H2 => sp (x :: (vs ++ dvs)) H2 Q E
noncomputable def tMake (C : Addr) (sp : Sp) (dvs : List V) (E : XK) (t : TA) : TE := fun σ H Q => t σ H fun vs H1 => ∀ x dx, H1 x = none → H1 dx = none → dx ≠ x →
  sp (.ref x :: (vs ++ dvs)) (upd (upd H1 dx (.own x)) x (.ins C dx [])) (fun v H2 => v = .non ∧ Q (.ref x) H2) E
noncomputable def Binds (K : PySem.W.Frag) (fd : FuncData) (ps : List Str) (ds : List Value) : Prop :=
  ∀ (s : Shared) (us : List Value), K.In s.heap → (us ++ ds).length = ps.length → BindsTo s fd ⟨us, []⟩ (ps.zip (us ++ ds))
theorem Binds.all {K : PySem.W.Frag} {fd : FuncData} {ps : List Str} (h : ∀ us : List Value, us.length = ps.length → bindArgs fd ⟨us, []⟩ = pure (ps.zip us)) : Binds K fd ps [] := fun s us _ hl => by
  rw [List.append_nil] at hl ⊢
  exact .of_eq (h us hl)
noncomputable def Passes (CX : CXT) (X : Cx) (E : XK) : Prop := ∀ (pins : List (Addr × Obj)) (σ : St) (H : Hp) (s : Shared) (e : Value) (s' : Shared), Inv X pins σ H s → CX X.stack H s E e s' → X.xe e s'
section
variable {X : Cx} {CX : CXT} {k : Nat} {f C : Addr} {fd : FuncData} {ps : List Str} {sp : Sp} {dvs : List V} {ds : List Value} {E : XK} {x m : Str} {p pos apos : Pos} {e o : Expr} {es : List Expr} {ta : TE} {t : TA}
theorem run_fn {pins : List (Addr × Obj)} {σ : St} {H : Hp} {s : Shared} {Q : VK} {us : List Value} {vs : List V} (F : FnOk X.prog X.w X.K X.mg X.base CX k f fd ps sp) (hr : Room k X.A) (hb : Binds X.K fd ps ds) (hd : Vals dvs ds) (hx : Passes CX X E)
    (I : Inv X pins σ H s) (r : Vals vs us) (h : sp (vs ++ dvs) H Q E) : wpAny (model X.prog X.w) X.A (call (.ref f) us) (EP X pins σ Q) X.xe s := by
  have r2 : Vals (vs ++ dvs) (us ++ ds) := r.append hd
  have hl : (us ++ ds).length = ps.length := by rw [← r2.length]; exact F.len _ _ _ _ h
  refine wpAny_call (codeAny_mono (F.run X.A X.stack s H ⟨us, []⟩ (us ++ ds) (vs ++ dvs) Q E hr I.env0 (hb s us I.kIn hl) r2 h) fun r s' hq => ?_)
  cases r with
  | error e => exact hx pins σ H s e s' I hq
  | ok fl =>
    cases fl with
    | ret u => exact I.after hq
    | next => exact False.elim hq
    | brk => exact False.elim hq
    | cont => exact False.elim hq
theorem pe_call (F : FnOk X.prog X.w X.K X.mg X.base CX k f fd ps sp) (hr : Room k X.A) (hg : Gl X x) (hm : X.mg x = some (.ref f)) (hk : PySem.W.keepIn X.K (.ref f) = true) (hb : Binds X.K fd ps ds) (hd : Vals dvs ds) (hx : Passes CX X E)
    (ha : PA X (e :: es) t) (hdb : (x == ("__debug__" : Str)) = false := by decide) (he : starEach (e :: es) X.env = (false, eval e X.env) :: starEach es X.env := by rfl) (hpl : (backTo pos (starEach es X.env)).any (·.1) = false := by rfl) :
    PE X (.Call (.Name x p) (e :: es) [] pos) (tCall sp dvs E t) := by
  intro pins s σ H Q I h
  refine wpAny_Call_Name_kw (ld_glob I hg hm ?_ hdb)
  refine PySem.W.callWith_K (h₀ := X.base) I.ok.mod.kin hk (thn (ha pos pins s σ H _ I h) fun us s1 ⟨vs, H1, I1, r, q⟩ => ⟨I1.kIn, ?_⟩) he hpl
  exact run_fn F hr hb hd hx I1 r q
theorem pe_meth {pl : Sem Bool} (he : PE X o ta) (c : Cls X.K C) (hm : Meth X.K C m f) (F : FnOk X.prog X.w X.K X.mg X.base CX k f fd ps sp) (hr : Room k X.A) (hb : Binds X.K fd ps ds) (hd : Vals dvs ds) (hx : Passes CX X E) (ha : PA X (e :: es) t)
    (hst : starEach (e :: es) X.env = (false, eval e X.env) :: starEach es X.env := by rfl) (hpl : (backTo pos (starEach es X.env)).any (·.1) = false := by rfl)
    (ht : eval (.Call (.Attribute o m apos) (e :: es) [] pos) X.env = (do
      let ov ← eval o X.env
      standAt apos.atName
      let (f, first) ← holding [ov] (getMethod ov m pl)
      callWith pos f first (backTo pos (starEach (e :: es) X.env)) (backToKw pos (keywordEach [] X.env))) := by rfl) :
    PE X (.Call (.Attribute o m apos) (e :: es) [] pos) (tMeth C m sp dvs E ta t) := by
  intro pins s σ H Q I h
  refine PySem.W.methodCall_KW (pl := pl) (thn (he pins s σ H _ I h) fun u s1 ⟨x, H1, I1, rx, a, dx, fs, ex, ea, l, q⟩ => ?_) ht
  subst ex
  obtain rfl : u = Value.ref a := rx
  refine getmeth_ok I1 ea c hm l ?_
  refine PySem.W.callWith_K (first := [.ref a]) (h₀ := X.base) I.ok.mod.kin hm.kp (thn (ha pos pins s1 σ H1 _ I1 q) fun us s2 ⟨vs, H2, I2, r, q2⟩ => ⟨I2.kIn, ?_⟩) hst hpl
  exact run_fn (us := .ref a :: us) (vs := .ref a :: vs) F hr hb hd hx I2 (.cons rfl r) q2
theorem pe_meth0 {pl : Sem Bool} (he : PE X o ta) (c : Cls X.K C) (hm : Meth X.K C m f) (F : FnOk X.prog X.w X.K X.mg X.base CX k f fd ps sp) (hr : Room k X.A) (hb : Binds X.K fd ps ds) (hd : Vals dvs ds) (hx : Passes CX X E)
    (ht : eval (.Call (.Attribute o m apos) [] [] pos) X.env = (do
      let ov ← eval o X.env
      standAt apos.atName
      let (f, first) ← holding [ov] (getMethod ov m pl)
      callWith pos f first (backTo pos (starEach [] X.env)) (backToKw pos (keywordEach [] X.env))) := by rfl) :
    PE X (.Call (.Attribute o m apos) [] [] pos) (tMeth C m sp dvs E ta tNil) := by
  intro pins s σ H Q I h
  refine PySem.W.methodCall_KW (pl := pl) (thn (he pins s σ H _ I h) fun u s1 ⟨x, H1, I1, rx, a, dx, fs, ex, ea, l, q⟩ => ?_) ht
  subst ex
  obtain rfl : u = Value.ref a := rx
  refine getmeth_ok I1 ea c hm l ?_
  exact PySem.W.callWith_K0 (first := [.ref a]) I1.kIn hm.kp (run_fn (us := [.ref a]) (vs := [.ref a]) F hr hb hd hx I1 (.cons rfl .nil) q)
structure Mk (K : PySem.W.Frag) (C f : Addr) : Prop where
  makes : PySem.W.makesIn K C = true
  init : PySem.W.findIn K (.ref C) "__init__" = some (some (.ref f))
  fn : PySem.W.isFn K (.ref f) = true
  kp : PySem.W.keepIn K (.ref C) = true
theorem run_make {pins : List (Addr × Obj)} {σ : St} {H : Hp} {s : Shared} {Q : VK} {us : List Value} {vs : List V} (M : Mk X.K C f) (F : FnOk X.prog X.w X.K X.mg X.base CX k f fd ps sp) (hr : Room (k + 1) X.A) (hb : Binds X.K fd ps ds) (hd : Vals dvs ds)
    (hx : Passes CX X E) (I : Inv X pins σ H s) (r : Vals vs us)
    (h : ∀ x dx, H x = none → H dx = none → dx ≠ x → sp (.ref x :: (vs ++ dvs)) (upd (upd H dx (.own x)) x (.ins C dx [])) (fun v H2 => v = .non ∧ Q (.ref x) H2) E) :
    wpAny (model X.prog X.w) X.A (call (.ref C) us) (EP X pins σ Q) X.xe s := by
  have hq := h (s.heap.objs.size + 1) s.heap.objs.size (I.hok.fresh (Nat.le_succ _)) (I.hok.fresh (Nat.le_refl _)) (Nat.ne_of_lt (Nat.lt_succ_self _))
  have I2 := Inv.made (C := C) I
  have r2 : Vals (V.ref (s.heap.objs.size + 1) :: (vs ++ dvs)) (Value.ref (s.heap.objs.size + 1) :: (us ++ ds)) := .cons rfl (r.append hd)
  have hl : (Value.ref (s.heap.objs.size + 1) :: us ++ ds).length = ps.length := by
    have e := r2.length
    rw [F.len _ _ _ _ hq] at e
    exact e.symm
  refine wpAny_call (make_map (f := f) I.kIn M.makes M.init (beq_iff_eq.mp M.fn) (codeAny_mono (F.run _ X.stack _ _ ⟨Value.ref (s.heap.objs.size + 1) :: us, []⟩ (Value.ref (s.heap.objs.size + 1) :: (us ++ ds)) _ _ E (hr.make C us [])
    (I2.env0.make C us []) (hb _ (Value.ref (s.heap.objs.size + 1) :: us) I2.kIn hl) r2 hq) fun r s' hq' => ?_))
  cases r with
  | error e => exact hx pins σ _ _ e s' I2 hq'
  | ok fl =>
    cases fl with
    | ret u =>
      obtain ⟨v, H', I3, rv, ev, q3⟩ := I2.after hq'
      subst ev
      exact ⟨rv, ⟨V.ref (s.heap.objs.size + 1), H', I3, rfl, q3⟩⟩
    | next => exact False.elim hq'
    | brk => exact False.elim hq'
    | cont => exact False.elim hq'
theorem pe_make (M : Mk X.K C f) (F : FnOk X.prog X.w X.K X.mg X.base CX k f fd ps sp) (hr : Room (k + 1) X.A) (hg : Gl X x) (hm : X.mg x = some (.ref C)) (hb : Binds X.K fd ps ds) (hd : Vals dvs ds) (hx : Passes CX X E)
    (ha : PA X (e :: es) t) (hdb : (x == ("__debug__" : Str)) = false := by decide) (he : starEach (e :: es) X.env = (false, eval e X.env) :: starEach es X.env := by rfl) (hpl : (backTo pos (starEach es X.env)).any (·.1) = false := by rfl) :
    PE X (.Call (.Name x p) (e :: es) [] pos) (tMake C sp dvs E t) := by
  intro pins s σ H Q I h
  refine wpAny_Call_Name_kw (ld_glob I hg hm ?_ hdb)
  refine PySem.W.callWith_K (h₀ := X.base) I.ok.mod.kin M.kp (thn (ha pos pins s σ H _ I h) fun us s1 ⟨vs, H1, I1, r, q⟩ => ⟨I1.kIn, ?_⟩) he hpl
  exact run_make M F hr hb hd hx I1 r q
theorem pe_make0 (M : Mk X.K C f) (F : FnOk X.prog X.w X.K X.mg X.base CX k f fd ps sp) (hr : Room (k + 1) X.A) (hg : Gl X x) (hm : X.mg x = some (.ref C)) (hb : Binds X.K fd ps ds) (hd : Vals dvs ds) (hx : Passes CX X E)
    (hdb : (x == ("__debug__" : Str)) = false := by decide) : PE X (.Call (.Name x p) [] [] pos) (tMake C sp dvs E tNil) := by
  intro pins s σ H Q I h
  refine wpAny_Call_Name_kw (ld_glob I hg hm ?_ hdb)
  exact PySem.W.callWith_K0 I.kIn M.kp (run_make (us := []) M F hr hb hd hx I .nil h)
end
section
variable {X : Cx} {CX : CXT} {k : Nat} {f C : Addr} {fd : FuncData} {ps ks : List Str} {sp : Sp} {E : XK} {x m : Str} {p pos apos kpos : Pos} {e o : Expr} {es : List Expr} {kws : List Keyword} {te ta : TE} {t tk : TA} {nm : Option Str}
variable {g : List Value → List Value → List Value} {gV : List V → List V → List V}
end
structure FnScope (N P : List Str) (sc : Scope) : Prop where
  kind : sc.kind = .function
  co : sc.isCoroutine = false
  gen : sc.isGenerator = false
  nd : N.Nodup
  pre : N.take P.length = P
  par : ∀ x ∈ P, sc.names.lookup x = some .local ∨ sc.names.lookup x = some .cell
  nofree : ∀ y ∈ sc.names, y.2 ≠ .free
theorem bindL_out {kindOf : Str → Option NameKind} {x : Str} : ∀ {binds : List (Str × Value)} {m : Str → Option Value}, (∀ v, (x, v) ∉ binds) → bindL kindOf binds m x = m x
  | [], _, _ => rfl
  | (n, v) :: r, m, h => by
    unfold bindL
    rw [bindL_out fun w hw => h w (List.mem_cons_of_mem _ hw)]
    split
    · have : x ≠ n := by rintro rfl; exact h v List.mem_cons_self
      simp [this]
    · rfl
theorem bindC_out {kindOf : Str → Option NameKind} {x : Str} : ∀ {binds : List (Str × Value)} {m : Str → Option Value}, (∀ v, (x, v) ∉ binds) → bindC kindOf binds m x = m x
  | [], _, _ => rfl
  | (n, v) :: r, m, h => by
    unfold bindC
    rw [bindC_out fun w hw => h w (List.mem_cons_of_mem _ hw)]
    split
    · rfl
    · have : x ≠ n := by rintro rfl; exact h v List.mem_cons_self
      simp [this]
theorem bindL_get {kindOf : Str → Option NameKind} {x : Str} {v : Value} : ∀ {P : List Str} {vs : List Value} {i : Nat} {m : Str → Option Value}, P.Nodup → P[i]? = some x → vs[i]? = some v → kindOf x = some .local →
    bindL kindOf (P.zip vs) m x = some v
  | [], _, _, _, _, h, _, _ => by simp at h
  | _ :: _, [], _, _, _, _, h, _ => by simp at h
  | p :: P, w :: vs, 0, m, nd, h1, h2, hk => by
    simp at h1 h2; subst h1; subst h2
    show bindL kindOf ((p, w) :: P.zip vs) m p = _
    unfold bindL
    rw [bindL_out fun v hv => (List.nodup_cons.mp nd).1 (List.of_mem_zip hv).1, if_pos hk]
    simp
  | p :: P, w :: vs, i + 1, m, nd, h1, h2, hk => by
    show bindL kindOf ((p, w) :: P.zip vs) m x = _
    unfold bindL
    exact bindL_get (i := i) (List.nodup_cons.mp nd).2 (by simpa using h1) (by simpa using h2) hk
theorem bindC_get {kindOf : Str → Option NameKind} {x : Str} {v : Value} : ∀ {P : List Str} {vs : List Value} {i : Nat} {m : Str → Option Value}, P.Nodup → P[i]? = some x → vs[i]? = some v → kindOf x ≠ some .local →
    bindC kindOf (P.zip vs) m x = some v
  | [], _, _, _, _, h, _, _ => by simp at h
  | _ :: _, [], _, _, _, _, h, _ => by simp at h
  | p :: P, w :: vs, 0, m, nd, h1, h2, hk => by
    simp at h1 h2; subst h1; subst h2
    show bindC kindOf ((p, w) :: P.zip vs) m p = _
    unfold bindC
    rw [bindC_out fun v hv => (List.nodup_cons.mp nd).1 (List.of_mem_zip hv).1, if_neg hk]
    simp
  | p :: P, w :: vs, i + 1, m, nd, h1, h2, hk => by
    show bindC kindOf ((p, w) :: P.zip vs) m x = _
    unfold bindC
    exact bindC_get (i := i) (List.nodup_cons.mp nd).2 (by simpa using h1) (by simpa using h2) hk
noncomputable def start (N : List Str) (vs : List V) : St := vs.map some ++ List.replicate (N.length - vs.length) none
noncomputable def cxOf (CX : CXT) (P : Program) (w : World) (K : PySem.W.Frag) (mg : Str → Option Value) (base : Heap) (N : List Str) (qual : Str) (scope : Scope) (f : Addr) (cd : Value) (A : Around) (outer : List Env) (s : Shared) (H : Hp) (E : XK) : Cx where
  prog := P
  w := w
  K := K
  mg := mg
  base := base
  A := A.deeper (envOfC qual scope s.heap.objs.size f cd)
  N := N
  s₀ := s
  H₀ := H
  env := envOfC qual scope s.heap.objs.size f cd
  outer := outer
  stack := envOfC qual scope s.heap.objs.size f cd :: outer
  ex := []
  calm := true
  fn := fun _ => true
  pn := []
  xe := fun e s' => wpAny (model P w) (A.deeper (envOfC qual scope s.heap.objs.size f cd)) (leaving (envOfC qual scope s.heap.objs.size f cd) e) (fun _ s'' => CX outer H s E e s'') (fun e' s'' => CX outer H s E e' s'') s'
theorem cell_has {sc : Scope} {n : Nat} {x : Str} (h : sc.names.lookup x = some .cell) : ∃ c, (cellsFrom n sc.names []).lookup x = some c := by
  have q := PySem.W.cellsFrom_some sc.names n [] (.inl h)
  exact Option.isSome_iff_exists.mp q
theorem inv_start {CX : CXT} {P : Program} {w : World} {K : PySem.W.Frag} {mg : Str → Option Value} {base : Heap} {N ps : List Str} {qual : Str} {scope : Scope} {f : Addr} {cd : Value} {A : Around} {outer : List Env} {s s1 : Shared} {H : Hp} {E : XK} {us : List Value} {vs : List V}
    (S : FnScope N ps scope) (hd : A.handled = none) (e0 : Env0 P w K mg base A outer s H) (hl : vs.length = ps.length) (r : Vals vs us)
    (x : InCallC s s.heap.objs.size (bindL (envOfC qual scope s.heap.objs.size f cd).kindOf (ps.zip us) fun _ => none) (cellsFrom (s.heap.objs.size + 1) scope.names []) (bindC (envOfC qual scope s.heap.objs.size f cd).kindOf (ps.zip us) fun _ => none) s1) :
    Inv (cxOf CX P w K mg base N qual scope f cd A outer s H E) [] (start N vs) H s1 := by
  have hpl : ps.length ≤ N.length := by have := congrArg List.length S.pre; rw [List.length_take] at this; omega
  obtain ⟨h1, tk, rfl, hk⟩ := x.done
  have noA : ∀ b : Addr, b ∉ (cxOf CX P w K mg base N qual scope f cd A outer s H E).ex := fun b z => absurd (show b ∈ ([] : List Addr) from z) (by simp)
  refine ⟨⟨e0.mod, S.kind, rfl, rfl, Nat.le_refl _, fun y z c h1 h2 => ?_, fun y hy => ?_, fun y c _ h => ?_, fun _ => hd, Around.frames_deeper e0.frames, .inr ⟨rfl, rfl⟩, fun b z => absurd z (noA b), e0.bs, e0.bsz, fun b _ _ => noA b, fun b z => absurd z (noA b), e0.funs, e0.frf⟩,
    rfl, e0.bare, Un.kept hk, ⟨_, x.toInCall.ns, fun i y v h1 h2 h3 => ?_⟩, fun y c h => ⟨_, x.cell y c h⟩, e0.hok.fresh (Nat.le_refl _), fun y c h => ?_, fun p hp => absurd (show p ∈ ([] : List (Addr × Obj)) from hp) (by simp), e0.hok.kept hk, ?_⟩
  · exact name_of_addr x.apart (PySem.mem_of_lookup h1) (PySem.mem_of_lookup h2)
  · have hy : scope.names.lookup y = some .cell ∨ scope.names.lookup y = some .free := hy
    rcases hy with hy | hy
    · exact cell_has hy
    · exact absurd rfl (S.nofree _ (PySem.mem_of_lookup hy))
  · exact Nat.le_of_lt (x.above y c (PySem.mem_of_lookup h))
  · have hi : i < vs.length := by
      unfold start at h2
      by_cases hi : i < vs.length
      · exact hi
      · rw [List.getElem?_append_right (by simpa using hi)] at h2
        rw [List.getElem?_replicate] at h2
        split at h2 <;> cases h2
    have ha : vs[i]? = some v := by
      unfold start at h2
      rw [List.getElem?_append_left (by simpa using hi), List.getElem?_map] at h2
      cases e : vs[i]? with
      | none => rw [e] at h2; cases h2
      | some a => rw [e] at h2; cases h2; rfl
    obtain ⟨u, hu, rv⟩ := r.get ha
    have hp : ps[i]? = some y := by
      rw [← S.pre, List.getElem?_take_of_lt (by omega)]; exact h1
    have ndP : ps.Nodup := by rw [← S.pre]; exact S.nd.sublist (List.take_sublist _ _)
    refine ⟨u, rv, ?_⟩
    rcases S.par y (List.mem_of_getElem? hp) with k | k
    · exact .inl ⟨k, bindL_get ndP hp hu k⟩
    · obtain ⟨c, e⟩ := cell_has (n := s.heap.objs.size + 1) k
      refine .inr ⟨.inl k, c, e, ?_⟩
      have q := x.cell y c e
      rw [bindC_get ndP hp hu (by show scope.names.lookup y ≠ _; rw [k]; decide)] at q
      exact q
  · exact e0.hok.fresh (Nat.le_of_lt (x.above y c (PySem.mem_of_lookup h)))
  · unfold start
    show _ = N.length
    rw [List.length_append, List.length_map, List.length_replicate]
    omega
theorem fn_of {CX : CXT} {P : Program} {w : World} {K : PySem.W.Frag} {mg : Str → Option Value} {base : Heap} {k : Nat} {f : Addr} {name qual : Str} {params : Arguments} {body : List Stmt} {scope : Scope} {dV kV doc pm cdv ct oc : Value} {an od : Option Addr}
    {osl : Array (Option Value)} {N ps : List Str} {sp : Sp} (lk : K.lookup f = some ⟨oc, od, .func (PySem.W.fnOf name qual params body scope dV kV doc pm an cdv ct), osl⟩) (hcd : PySem.W.codeIn K cdv qual = true) (S : FnScope N ps scope)
    (len : ∀ vs H Q E, sp vs H Q E → vs.length = ps.length)
    (hbody : ∀ (A : Around) (outer : List Env) (s : Shared) (H : Hp) (vs : List V) (Q : VK) (E : XK), Room k (A.deeper (envOfC qual scope s.heap.objs.size f cdv)) → sp vs H Q E →
      ∃ t, PSs (cxOf CX P w K mg base N qual scope f cdv A outer s H E) body t ∧ t { nx := fun _ H' => Q .non H', rt := Q } (start N vs) H) :
    FnOk P w K mg base CX (k + 1) f (PySem.W.fnOf name qual params body scope dV kV doc pm an cdv ct) ps sp := by
  refine ⟨len, fun A outer s H args us vs Q E hr e0 hb r hsp => ?_⟩
  have hl := len _ _ _ _ hsp
  have KX : K.In s.heap := e0.mod.kin.keeps fun b o e => (e0.bs b o e).1
  have lim : s.heap.NoLimit := e0.mod.nolimit.keeps fun b o e => (e0.bs b o e).1
  have hkind : ∀ y ∈ ps.zip us, scope.names.lookup y.1 = some .local ∨ (scope.names.lookup y.1 = some .cell ∧ ((cellsFrom (s.heap.objs.size + 1) scope.names []).lookup y.1).isSome = true) := fun ⟨n, v⟩ hy => by
    rcases S.par n (List.of_mem_zip hy).1 with q | q
    · exact .inl q
    · exact .inr ⟨q, PySem.W.cellsFrom_some _ _ _ (.inl q)⟩
  refine codeAny_call_function hr.depth (KX _ _ lk) rfl S.co S.gen rfl (PySem.W.codeRec_of KX hcd) (hb _ _ _ _ ?_)
  refine wpAny_newFunctionEnv_cells S.kind hkind fun env he s1 x => ?_
  subst he
  refine ⟨lim.keeps x.toInCall.keep, codeAny_func ?_⟩
  obtain ⟨t, ht, hq⟩ := hbody A outer s H vs Q E (hr.deeper _) hsp
  have I : Inv (cxOf CX P w K mg base N qual scope f cdv A outer s H E) [] (start N vs) H s1 := inv_start S hr.hd e0 hl r x
  refine wpAny_mono (ht [] s1 (start N vs) H _ I hq) (fun fl s' hs => ?_) fun e s' hs => hs
  have fin : ∀ {σ' : St} {H' : Hp} {v : V} {u : Value}, Inv (cxOf CX P w K mg base N qual scope f cdv A outer s H E) [] σ' H' s' → RelV v u → Q v H' → CE outer P w H s Q u s' :=
    fun {σ' H' v u} J rv q => ⟨v, H', J.os, J.bare, J.base, J.hok, rv, q⟩
  cases fl with
  | ret u =>
    obtain ⟨v, σ', H', J, rv, q⟩ := hs
    exact fin J rv q
  | next =>
    obtain ⟨σ', H', J, q⟩ := hs
    exact fin (v := V.non) (u := Value.none) J rfl q
  | brk =>
    obtain ⟨_, _, _, q⟩ := hs
    exact False.elim q
  | cont =>
    obtain ⟨_, _, _, q⟩ := hs
    exact False.elim q
end L2
namespace L2
open PySem PySem.Spec PyProof.Rows
section
variable {X : Cx} {x : Str} {p pos : Pos} {e : Expr} {es : List Expr} {t : TA} {id T : String} {r : List V → Hp → VK → Prop}
noncomputable def tCB (r : List V → Hp → VK → Prop) (t : TA) : TE := fun σ H Q => t σ H fun vs H1 => r vs H1 Q
theorem pe_callB (hc : CallR X (.builtin id) r) (hg : Gl X x) (hm : X.mg x = none) (hv : bootBuiltins x = some (.builtin id)) (ha : PA X (e :: es) t) (hn : x ≠ "__name__" := by decide) (hdb : (x == ("__debug__" : Str)) = false := by decide)
    (he : starEach (e :: es) X.env = (false, eval e X.env) :: starEach es X.env := by rfl) (hpl : (backTo pos (starEach es X.env)).any (·.1) = false := by rfl) : PE X (.Call (.Name x p) (e :: es) [] pos) (tCB r t) := by
  intro pins s σ H Q I h
  refine wpAny_Call_Name_kw (ld_blt I hg hm hv ?_ hn hdb)
  exact PyProof.Rows.callWith_builtin1 (thn (ha pos pins s σ H _ I h) fun us s1 ⟨vs, H1, I1, r1, q1⟩ => hc pins s1 σ H1 vs us Q I1 r1 q1) he hpl
theorem pe_callTy (hc : CallR X (.type T) r) (hg : Gl X x) (hm : X.mg x = none) (hv : bootBuiltins x = some (.type T)) (ha : PA X (e :: es) t) (hn : x ≠ "__name__" := by decide) (hdb : (x == ("__debug__" : Str)) = false := by decide)
    (he : starEach (e :: es) X.env = (false, eval e X.env) :: starEach es X.env := by rfl) (hpl : (backTo pos (starEach es X.env)).any (·.1) = false := by rfl) : PE X (.Call (.Name x p) (e :: es) [] pos) (tCB r t) := by
  intro pins s σ H Q I h
  refine wpAny_Call_Name_kw (ld_blt I hg hm hv ?_ hn hdb)
  exact PyProof.Rows.callWith_type1 (thn (ha pos pins s σ H _ I h) fun us s1 ⟨vs, H1, I1, r1, q1⟩ => hc pins s1 σ H1 vs us Q I1 r1 q1) he hpl
end
end L2
namespace HT
open PySem PyProof.Rows
section
open PySem.SeqAt
open PySem.AutoSeq1 (wpAny_loadPart')
open PySem.MeetsSeq PySem.MeetsSeq2 PySem.MeetsSeq3
end
section
variable {prog : Program} {w : World} {A : Around} {E : Value → Shared → Prop} {s : Shared}
noncomputable def sIx (n d : Nat) : Option Int → Nat
  | none => d
  | some v => if v < 0 then (v + (n : Int)).toNat else min v.toNat n
theorem sIx_none (n d : Nat) : sIx n d none = d := rfl
theorem sIx_nat (n d k : Nat) : sIx n d (some (k : Int)) = min k n := by
  show (if (k : Int) < 0 then ((k : Int) + (n : Int)).toNat else min (k : Int).toNat n) = min k n
  rw [if_neg (by omega), Int.toNat_natCast]
end
end HT
namespace L2
open PySem PySem.Spec PyProof.Rows
noncomputable abbrev TO := St → Hp → (Option Int → Hp → Prop) → Prop
noncomputable def PO (X : Cx) (e : Option Expr) (t : TO) : Prop :=
  ∀ (pins : List (Addr × Obj)) (s : Shared) (σ : St) (H : Hp) (Q : Option Int → Hp → Prop), Inv X pins σ H s → t σ H Q →
    wpAny (model X.prog X.w) X.A (evalPart e X.env) (fun u s' => ∃ o H', Inv X pins σ H' s' ∧ IsPart u o ∧ Q o H') X.xe s
noncomputable def tNoPart : TO := fun _ H Q => Q none H
noncomputable def tPart (t : TE) : TO := fun σ H Q => t σ H fun x H1 => ∃ i, x = .int i ∧ Q (some i) H1
section
variable {X : Cx} {e : Expr} {te : TE} {lo hi : Option Expr} {tl th : TO} {pos p2 : Pos}
theorem po_none : PO X none tNoPart := by
  intro pins s σ H Q I h
  rw [evalPart_none]
  exact wpAny_pure ⟨none, H, I, .none, h⟩
theorem po_some (h : PE X e te) : PO X (some e) (tPart te) := by
  intro pins s σ H Q I hw
  rw [evalPart_some]
  refine thn (h pins s σ H _ I hw) fun u s1 ⟨x, H1, I1, r1, q1⟩ => ?_
  obtain ⟨i, rfl, q⟩ := q1
  obtain ⟨t, rfl⟩ := r1
  exact ⟨some i, H1, I1, .int i t, q⟩
noncomputable def SlR (X : Cx) (r : V → Option Int → Option Int → Hp → VK → Prop) : Prop :=
  ∀ (pins : List (Addr × Obj)) (s : Shared) (σ : St) (H : Hp) (x : V) (v vl vu : Value) (lo hi : Option Int) (sl : Addr) (Q : VK), Inv X pins σ H s → RelV x v → s.heap.IsSliceOf sl vl vu .none → IsPart vl lo → IsPart vu hi → r x lo hi H Q →
    ∃ T id, typeLookup (.type T) "__getitem__" = pure (some (.builtin id)) ∧ s.TypeIs v T ∧ wpAny (model X.prog X.w) X.A (getItem v (.ref sl)) (EP X pins σ Q) X.xe s
noncomputable def tSl (r : V → Option Int → Option Int → Hp → VK → Prop) (te : TE) (tl th : TO) : TE := fun σ H Q => te σ H fun x H1 => tl σ H1 fun l H2 => th σ H2 fun u H3 => r x l u H3 Q
theorem pe_slice {r : V → Option Int → Option Int → Hp → VK → Prop} (hr : SlR X r) (he : PE X e te) (hl : PO X lo tl) (hu : PO X hi th) : PE X (.Subscript e (.Slice lo hi none p2) pos) (tSl r te tl th) := by
  intro pins s σ H Q I h
  refine Subscript_ (thn (he pins s σ H _ I h) fun v s1 ⟨x, H1, I1, r1, q1⟩ => ?_)
  refine wpAny_Slice (thn (hl pins s1 σ H1 _ I1 q1) fun vl s2 ⟨l, H2, I2, pl, q2⟩ => thn (hu pins s2 σ H2 _ I2 q2) fun vu s3 ⟨u, H3, I3, pu, q3⟩ => ?_)
  rw [evalPart_none]
  refine wpAny_pure ?_
  have I4 : Inv X pins σ H3 { s3 with heap := s3.heap.push { cls := .type "slice", data := .fields #[vl, vu, .none] } } := I3.kept (t' := s3.toks) fun b ob q => Heap.get?_push_of_some _ q
  obtain ⟨T, id, hT, ht, hg⟩ := hr pins { s3 with heap := s3.heap.push { cls := .type "slice", data := .fields #[vl, vu, .none] } } σ H3 x v vl vu l u s3.heap.objs.size Q I4 r1 (Heap.IsSliceOf.new ..) pl pu q3
  show wpAny (model X.prog X.w) X.A (subscriptTail e (.Slice lo hi none p2) v (.ref s3.heap.objs.size)) (EP X pins σ Q) X.xe { s3 with heap := s3.heap.push { cls := .type "slice", data := .fields #[vl, vu, .none] } }
  exact tail_any (ops := [.ref s3.heap.objs.size, v]) ht hT hg (by with_unfolding_all rfl)
noncomputable def cutV (xs : List V) (lo hi : Option Int) : List V := (xs.drop (HT.sIx xs.length 0 lo)).take (HT.sIx xs.length xs.length hi - HT.sIx xs.length 0 lo)
theorem cutV_length (xs : List V) (lo hi : Option Int) : (cutV xs lo hi).length ≤ xs.length := by
  unfold cutV
  rw [List.length_take, List.length_drop]
  omega
end
end L2
namespace L2
open PySem PySem.Spec PyProof.Rows
noncomputable def ixN (n : Nat) (i : Int) : Option Nat := if 0 ≤ i then (if i < n then some i.toNat else none) else if -(n : Int) ≤ i then some (i + n).toNat else none
noncomputable def atI {α : Type} (xs : List α) (i : Int) : Option α := (ixN xs.length i).bind fun j => xs[j]?
theorem ixN_seq {n : Nat} {i : Int} {j : Nat} (h : ixN n i = some j) : seqIndex? i n = some j ∧ j < n ∧ -(n : Int) ≤ i ∧ i < n := by
  unfold ixN at h
  by_cases h0 : 0 ≤ i
  · rw [if_pos h0] at h
    by_cases h1 : i < n
    · rw [if_pos h1] at h
      have e : i.toNat = j := Option.some.inj h
      exact ⟨by rw [seqIndex_of h0 h1, e], by omega, by omega, h1⟩
    · rw [if_neg h1] at h; cases h
  · rw [if_neg h0] at h
    by_cases h1 : -(n : Int) ≤ i
    · rw [if_pos h1] at h
      have e : (i + n).toNat = j := Option.some.inj h
      exact ⟨by rw [seqIndex_neg (by omega) h1, e], by omega, h1, by omega⟩
    · rw [if_neg h1] at h; cases h
theorem atI_get {α : Type} {xs : List α} {i : Int} {v : α} (h : atI xs i = some v) : ∃ j, seqIndex? i xs.length = some j ∧ xs[j]? = some v ∧ j < xs.length ∧ -(xs.length : Int) ≤ i ∧ i < xs.length := by
  unfold atI at h
  cases e : ixN xs.length i with
  | none => rw [e] at h; cases h
  | some j =>
    rw [e] at h
    obtain ⟨h1, h2, h3, h4⟩ := ixN_seq e
    exact ⟨j, h1, h, h2, h3, h4⟩
theorem atI_nat {α : Type} {xs : List α} {j : Nat} {v : α} (h : xs[j]? = some v) : atI xs (j : Int) = some v := by
  have hj : j < xs.length := (List.getElem?_eq_some_iff.mp h).1
  have e : ixN xs.length (j : Int) = some j := by
    unfold ixN
    rw [if_pos (by omega), if_pos (by omega)]; simp
  unfold atI; rw [e]; exact h
noncomputable def PlainIx (b : Expr) : Prop := ∀ o i, subscripted b false o i = operate [o, i] (getItem o i)
noncomputable def IxR (X : Cx) (r : R2) : Prop :=
  ∀ (value slice : Expr) (pins : List (Addr × Obj)) (s : Shared) (σ : St) (H : Hp) (x y : V) (v u : Value) (Q : VK), Inv X pins σ H s → RelV x v → RelV y u → r x y H Q →
    subscripted slice false v u = operate [v, u] (getItem v u) → wpAny (model X.prog X.w) X.A (subscriptTail value slice v u) (EP X pins σ Q) X.xe s
noncomputable def MtR (X : Cx) (id : String) (r : V → List V → Hp → VK → Prop) : Prop :=
  ∀ (pins : List (Addr × Obj)) (s : Shared) (σ : St) (H : Hp) (x : V) (xs : List V) (v : Value) (us : List Value) (Q : VK), Inv X pins σ H s → RelV x v → Vals xs us → r x xs H Q →
    wpAny (model X.prog X.w) X.A (call (.builtin id) (v :: us)) (EP X pins σ Q) X.xe s
section
variable {X : Cx} {a b : Expr} {ta tb : TE} {pos : Pos}
theorem pe_ix {r : R2} (hr : IxR X r) (ha : PE X a ta) (hb : PE X b tb) (hs : PlainIx b) : PE X (.Subscript a b pos) (tOp r ta tb) := by
  intro pins s σ H Q I h
  exact Subscript_ (binT ha hb I h fun v u s2 x y H2 I2 rx ry q => hr a b pins s2 σ H2 x y v u Q I2 rx ry q (hs _ _))
noncomputable def rIxL (K : PySem.W.Frag) : R2 := fun x y H Q => ∃ p xs i v, x = .ref p ∧ y = .int i ∧ SqL K H p xs ∧ atI xs i = some v ∧ Q v H
noncomputable def rIxT (K : PySem.W.Frag) : R2 := fun x y H Q => ∃ p xs i v, x = .ref p ∧ y = .int i ∧ SqT K H p xs ∧ atI xs i = some v ∧ Q v H
noncomputable def rIxS : R2 := fun x y H Q => ∃ z i c, x = .str z ∧ y = .int i ∧ z.length ≤ sizeLine ∧ atI z.cps.toList i = some c ∧ Q (.str ⟨#[c]⟩) H
theorem ix_list : IxR X (rIxL X.K) := by
  intro value slice pins s σ H x y v u Q I rx ry h hs
  obtain ⟨p, xs, i, z, rfl, rfl, hq, he, q⟩ := h
  cases rx
  obtain ⟨t, rfl⟩ := ry
  obtain ⟨its, r, pl, hz⟩ := I.list hq
  obtain ⟨j, h1, h2, h3, h4, h5⟩ := atI_get he
  obtain ⟨w, ew, rw'⟩ := r.get h2
  have hl := r.length
  have hn := line63
  have fin : EP X pins σ Q w s := ⟨z, H, I, rw', q⟩
  by_cases h0 : 0 ≤ i
  · have hj : i.toNat = j := by
      rw [seqIndex_of h0 h5] at h1
      exact Option.some.inj h1
    exact item_listR pl.isList h0 (by omega) (by rw [hj]; simpa using ew) fin hs
  · have hj : (i + (its.toArray.size : Int)).toNat = j := by
      rw [seqIndex_neg (by omega) h4] at h1
      rw [List.size_toArray, ← hl]
      exact Option.some.inj h1
    exact subscriptTail_builtinR (x := w) pl.isList.typeIs slot_list_getitem.lookup
      (wpAny_getItem_list_neg (Q := fun r s' => r = w ∧ EP X pins σ Q r s') pl.isList (by omega) (by rw [List.size_toArray] <;> omega) (by omega) (by rw [hj]; simpa using ew) ⟨rfl, fin⟩) hs
theorem ix_tup : IxR X (rIxT X.K) := by
  intro value slice pins s σ H x y v u Q I rx ry h hs
  obtain ⟨p, xs, i, z, rfl, rfl, hq, he, q⟩ := h
  cases rx
  obtain ⟨t, rfl⟩ := ry
  obtain ⟨its, r, pl, hz⟩ := I.tuple hq
  obtain ⟨j, h1, h2, h3, h4, h5⟩ := atI_get he
  obtain ⟨w, ew, rw'⟩ := r.get h2
  have hl := r.length
  have hn := line63
  have fin : EP X pins σ Q w s := ⟨z, H, I, rw', q⟩
  exact subscriptTail_builtinR (x := w) pl.typeIs slot_tuple_getitem.lookup
    (getItem_tuple (j := j) (Q := fun r s' => r = w ∧ EP X pins σ Q r s') pl (by omega) (by omega) (by rw [List.size_toArray, ← hl]; exact h1) (by simpa using ew) ⟨rfl, fin⟩) hs
theorem ix_str : IxR X rIxS := by
  intro value slice pins s σ H x y v u Q I rx ry h hs
  obtain ⟨z, i, c, rfl, rfl, hz, he, q⟩ := h
  obtain ⟨t, rfl⟩ := rx
  obtain ⟨t', rfl⟩ := ry
  obtain ⟨j, h1, h2, h3, h4, h5⟩ := atI_get he
  have hl : z.cps.toList.length = z.length := by simp [Str.length]
  rw [hl] at h1 h4 h5
  have hn := line63
  exact tail_any (typeIs_str s z t) slot_str_getitem.lookup (getItem_str (c := c) (by
    have e1 : decide (i < -(2 ^ 63 : Int)) = false := decide_eq_false (by omega)
    have e2 : decide (i ≥ 2 ^ 63) = false := decide_eq_false (by omega)
    rw [e1, e2, Bool.or_false]) (by rw [h1]; simpa using h2) ⟨.str ⟨#[c]⟩, H, I.tok _, ⟨_, rfl⟩, q⟩) hs
theorem mapSeq_set (its : List Value) (n j : Nat) (u : Value) : Obj.mapSeq (·.setIfInBounds j u) { cls := .type "list", data := .seq its.toArray n } = { cls := .type "list", data := .seq (its.set j u).toArray n } := by
  simp [Obj.mapSeq]
theorem Inv.lst {pins : List (Addr × Obj)} {σ : St} {H : Hp} {s : Shared} {p : Addr} {xs : List V} (I : Inv X pins σ H s) (h : H p = some (.lst xs)) :
    ∃ (its : List Value) (n : Nat), Vals xs its ∧ s.heap.get? p = some { cls := .type "list", data := .seq its.toArray n } ∧ xs.length ≤ sizeLine := by
  obtain ⟨z, its, n, r, e⟩ := I.hok p _ h
  exact ⟨its, n, r, e, z⟩
theorem Inv.lstUpd {pins : List (Addr × Obj)} {σ : St} {H : Hp} {s : Shared} {p : Addr} {xs ys : List V} {its its' : List Value} {n n' : Nat} {f : Obj → Obj} (I : Inv X pins σ H s) (h : H p = some (.lst xs))
    (ho : s.heap.get? p = some { cls := .type "list", data := .seq its.toArray n }) (hf : f { cls := .type "list", data := .seq its.toArray n } = { cls := .type "list", data := .seq its'.toArray n' }) (r : Vals ys its') (hz : ys.length ≤ sizeLine) (t : Nat) :
    Inv X pins σ (upd H p (.lst ys)) { s with heap := s.heap.update p f, toks := t } := by
  have e : (s.heap.update p f).get? p = some { cls := .type "list", data := .seq its'.toArray n' } := by
    rw [Heap.get?_update_self f ho (by rw [hf] <;> rfl), hf]
  refine I.write (x := p) (e := p) (by rw [h]; trivial) (.inl rfl) (fun b u hb q => (Heap.get?_update_other _ _ (Ne.symm hb)).trans q) ⟨_, e⟩ ?_
  exact ⟨hz, its', n', r, e⟩
noncomputable def rSetL : V → V → V → Hp → (Hp → Prop) → Prop := fun o i v H Q => ∃ p xs k j, o = .ref p ∧ i = .int k ∧ H p = some (.lst xs) ∧ ixN xs.length k = some j ∧ Q (upd H p (.lst (xs.set j v)))
theorem set_list : PSet X rSetL := by
  intro pins s σ H o i v ov iv u Q I ro ri rv h
  obtain ⟨p, xs, k, j, rfl, rfl, hp, hj, q⟩ := h
  cases ro
  obtain ⟨t, rfl⟩ := ri
  obtain ⟨its, n, r, ho, hz⟩ := I.lst hp
  obtain ⟨h1, h2, h3, h4⟩ := ixN_seq hj
  have hl := r.length
  have hn := line63
  have I' : Inv X pins σ (upd H p (.lst (xs.set j v))) { s with heap := s.heap.update p (Obj.mapSeq (·.setIfInBounds j u)) } :=
    I.lstUpd hp ho (mapSeq_set its n j u) (r.set rv j) (by rw [List.length_set]; exact hz) s.toks
  by_cases h0 : 0 ≤ k
  · have hk : k.toNat = j := by
      rw [seqIndex_of h0 h4] at h1
      exact Option.some.inj h1
    exact PySem.W.ki_setAt ho h0 (by omega) (by rw [List.size_toArray, ← hl]; exact h4) (by rw [hk]; exact ⟨_, I', q⟩)
  · have hk : (k + (its.toArray.size : Int)).toNat = j := by
      rw [seqIndex_neg (by omega) h3] at h1
      rw [List.size_toArray, ← hl]
      exact Option.some.inj h1
    exact PySem.W.ki_setBack ho (by omega) (by rw [List.size_toArray, ← hl]; exact h3) (by omega) (by rw [hk]; exact ⟨_, I', q⟩)
theorem slice_bounds (lo hi : Option Int) (n : Nat) : (sliceBounds lo hi none n).1 = ((HT.sIx n 0 lo : Nat) : Int) ∧ (sliceBounds lo hi none n).2.1 = ((HT.sIx n n hi : Nat) : Int) ∧ (sliceBounds lo hi none n).2.2 = 1 := by
  refine ⟨?_, ?_, rfl⟩
  · cases lo with
    | none => simp [sliceBounds, HT.sIx]
    | some i =>
      simp only [sliceBounds, HT.sIx, Option.getD_none, show (1 : Int) > 0 by decide, if_true]
      by_cases h : i < 0
      · simp only [h, if_true] <;> omega
      · simp only [h, if_false] <;> omega
  · cases hi with
    | none => simp [sliceBounds, HT.sIx]
    | some i =>
      simp only [sliceBounds, HT.sIx, Option.getD_none, show (1 : Int) > 0 by decide, if_true]
      by_cases h : i < 0
      · simp only [h, if_true] <;> omega
      · simp only [h, if_false] <;> omega
theorem slicePick_cut (its : List Value) (lo hi : Option Int) : slicePick its.toArray lo hi none = ((its.drop (HT.sIx its.length 0 lo)).take (HT.sIx its.length its.length hi - HT.sIx its.length 0 lo)).toArray := by
  obtain ⟨h1, h2, h3⟩ := slice_bounds lo hi its.toArray.size
  unfold slicePick
  rw [h1, h2, h3]
  simp only [sliceRange_one, pick_run, List.size_toArray] <;> rfl
noncomputable def rSlL (K : PySem.W.Frag) : V → Option Int → Option Int → Hp → VK → Prop := fun x lo hi H Q => ∃ a xs, x = .ref a ∧ SqL K H a xs ∧ ∀ p, H p = none → Q (.ref p) (upd H p (.lst (cutV xs lo hi)))
theorem sl_list : SlR X (rSlL X.K) := by
  intro pins s σ H x v vl vu lo hi sl Q I rx hs pl pu h
  obtain ⟨a, xs, rfl, hx, q⟩ := h
  cases rx
  obtain ⟨its, r, ht, hz⟩ := I.list hx
  have hlen := r.length
  refine ⟨"list", _, slot_list_getitem.lookup, ht.isList.typeIs, ?_⟩
  refine wpAny_getItem_list_slice ht.isList hs pl pu .none (by simp) ?_ (by rw [List.size_toArray] <;> omega)
  rw [slicePick_cut, ← hlen]
  refine ⟨.ref s.heap.objs.size, _, I.laid (t' := s.toks) (o := .lst (cutV xs lo hi)) (fun b ob q => Heap.get?_push_of_some _ q) (Nat.le_refl _) ?_, rfl, q _ (I.hok.fresh (Nat.le_refl _))⟩
  exact ⟨Nat.le_trans (cutV_length xs lo hi) hz, _, 0, (r.drop (HT.sIx xs.length 0 lo)).take (HT.sIx xs.length xs.length hi - HT.sIx xs.length 0 lo), Heap.get?_push_size _ rfl⟩
noncomputable def flatV : V → Bool
  | .non => true
  | .bl _ => true
  | .int _ => true
  | .str _ => true
  | _ => false
noncomputable def eqV : V → V → Bool
  | .non, .non => true
  | .bl a, .bl b => a == b
  | .bl a, .int b => (if a then 1 else 0) == b
  | .int a, .bl b => a == (if b then 1 else 0)
  | .int a, .int b => a == b
  | .str a, .str b => a == b
  | _, _ => false
theorem eqAt_V {A : Around} {s : Shared} {y x : V} {u v : Value} (ry : RelV y u) (rx : RelV x v) (fy : flatV y = true) (fx : flatV x = true) : SeqAt.EqAt A s u v (eqV y x) := by
  cases y with
  | non =>
    cases ry
    cases x with
    | non => cases rx; exact SeqAt.EqAt.same _
    | bl b => cases rx; exact SeqAt.EqAt.none_bool b
    | int b => obtain ⟨t, rfl⟩ := rx; exact SeqAt.EqAt.none_int b t
    | str b => obtain ⟨t, rfl⟩ := rx; exact SeqAt.EqAt.none_str b t
    | _ => exact absurd (show false = true from fx) Bool.false_ne_true
  | bl a =>
    cases ry
    cases x with
    | non => cases rx; exact SeqAt.EqAt.bool_none a
    | bl b => cases rx; exact SeqAt.EqAt.bool_bool a b
    | int b => obtain ⟨t, rfl⟩ := rx; exact SeqAt.EqAt.bool_int a b t
    | str b => obtain ⟨t, rfl⟩ := rx; exact SeqAt.EqAt.bool_str a b t
    | _ => exact absurd (show false = true from fx) Bool.false_ne_true
  | int a =>
    obtain ⟨t', rfl⟩ := ry
    cases x with
    | non => cases rx; exact SeqAt.EqAt.int_none a t'
    | bl b => cases rx; exact SeqAt.EqAt.int_bool a t' b
    | int b => obtain ⟨t, rfl⟩ := rx; exact SeqAt.EqAt.int_int a t' b t
    | str b => obtain ⟨t, rfl⟩ := rx; exact SeqAt.EqAt.int_str a t' b t
    | _ => exact absurd (show false = true from fx) Bool.false_ne_true
  | str a =>
    obtain ⟨t', rfl⟩ := ry
    cases x with
    | non => cases rx; exact SeqAt.EqAt.str_none a t'
    | bl b => cases rx; exact SeqAt.EqAt.str_bool a t' b
    | int b => obtain ⟨t, rfl⟩ := rx; exact SeqAt.EqAt.str_int a t' b t
    | str b => obtain ⟨t, rfl⟩ := rx; exact SeqAt.EqAt.str_str a t' b t
    | _ => exact absurd (show false = true from fx) Bool.false_ne_true
  | _ => exact absurd (show false = true from fy) Bool.false_ne_true
noncomputable def eqU (x : V) (u : Value) : Bool := match u with
  | .none => eqV .non x
  | .bool b => eqV (.bl b) x
  | .int i _ => eqV (.int i) x
  | .str z _ => eqV (.str z) x
  | _ => false
theorem eqU_of {x y : V} {u : Value} (r : RelV y u) (f : flatV y = true) : eqU x u = eqV y x := by
  cases y with
  | non => cases r; rfl
  | bl b => cases r; rfl
  | int i => obtain ⟨t, rfl⟩ := r; rfl
  | str z => obtain ⟨t, rfl⟩ := r; rfl
  | _ => exact absurd (show false = true from f) Bool.false_ne_true
theorem any_eqU {x : V} : ∀ {xs : List V} {us : List Value}, Vals xs us → xs.all flatV = true → us.any (eqU x) = xs.any fun y => eqV y x
  | _, _, .nil, _ => rfl
  | y :: xs, u :: us, .cons r t, f => by
    rw [List.all_cons, Bool.and_eq_true] at f
    rw [List.any_cons, List.any_cons, eqU_of r f.1, any_eqU t f.2]
theorem mem_eqAt {A : Around} {s : Shared} {x : V} {v : Value} (rx : RelV x v) (fx : flatV x = true) : ∀ {xs : List V} {us : List Value}, Vals xs us → xs.all flatV = true → ∀ u ∈ us, SeqAt.EqAt A s u v (eqU x u)
  | _, _, .nil, _ => fun u hu => by cases hu
  | y :: xs, u :: us, .cons r t, f => fun u' hu => by
    rw [List.all_cons, Bool.and_eq_true] at f
    rcases List.mem_cons.mp hu with rfl | hu
    · rw [eqU_of r f.1]; exact eqAt_V r rx f.1 fx
    · exact mem_eqAt rx fx t f.2 u' hu
noncomputable def inV (x : V) (xs : List V) : Bool := xs.any fun y => eqV y x
noncomputable def rIn (K : PySem.W.Frag) (neg : Bool) : R2 := fun x y H Q => ∃ p xs, y = .ref p ∧ (SqL K H p xs ∨ SqT K H p xs) ∧ flatV x = true ∧ xs.all flatV = true ∧ Q (.bl (if neg then !inV x xs else inV x xs)) H
theorem op_in_seq : OpR X (compareOp .In) (rIn X.K false) := by
  intro pins s σ H x y v u Q I rx ry h
  obtain ⟨p, xs, rfl, hq, fx, fs, q⟩ := h
  cases ry
  rcases hq with hq | hq
  · obtain ⟨its, r, pl, hz⟩ := I.list hq
    refine SeqAt.in_listAt (eqU x) pl.isList (fun w hw => mem_eqAt rx fx r fs w (by simpa using hw)) ⟨.bl _, H, I, rfl, ?_⟩
    rw [show its.toArray.any (eqU x) = its.any (eqU x) by simp, any_eqU r fs]
    exact q
  · obtain ⟨its, r, pl, hz⟩ := I.tuple hq
    refine SeqAt.in_tupleAt (eqU x) pl (fun w hw => mem_eqAt rx fx r fs w (by simpa using hw)) ⟨.bl _, H, I, rfl, ?_⟩
    rw [show its.toArray.any (eqU x) = its.any (eqU x) by simp, any_eqU r fs]
    exact q
theorem call_len_seq : CallR X (.builtin "len") (fun xs H Q => ∃ p ys, xs = [.ref p] ∧ (SqL X.K H p ys ∨ SqT X.K H p ys) ∧ Q (.int ys.length) H) := by
  intro pins s σ H xs us Q I r h
  obtain ⟨p, ys, rfl, hq, q⟩ := h
  obtain ⟨u, rfl, rx⟩ := vals1 r
  cases rx
  have hn := line63
  rcases hq with hq | hq
  · obtain ⟨its, r', pl, hz⟩ := I.list hq
    have hlen := r'.length
    exact Calls.call_len_list pl.isList (by simp only [List.size_toArray] <;> omega) ⟨.int ys.length, H, I.tok _, ⟨s.toks + 1, by rw [List.size_toArray, hlen]⟩, q⟩
  · obtain ⟨its, r', pl, hz⟩ := I.tuple hq
    have hlen := r'.length
    exact len_tuple pl (by simp only [List.size_toArray] <;> omega) ⟨.int ys.length, H, I.tok _, ⟨s.toks + 1, by rw [List.size_toArray, hlen]⟩, q⟩
theorem call_list_of : CallR X (.type "list") (fun xs H Q => ∃ p ys, xs = [.ref p] ∧ (SqL X.K H p ys ∨ SqT X.K H p ys) ∧ ∀ l, H l = none → Q (.ref l) (upd H l (.lst ys))) := by
  intro pins s σ H xs us Q I r h
  obtain ⟨p, ys, rfl, hq, q⟩ := h
  obtain ⟨u, rfl, rx⟩ := vals1 r
  cases rx
  have fin : ∀ (its : List Value), Vals ys its → ys.length ≤ sizeLine → ∀ (h' : Heap) (c' : Nat), (∀ b o', s.heap.get? b = some o' → h'.get? b = some o') →
      h'.get? s.heap.objs.size = some { cls := .type "list", dict := none, data := .seq its.toArray c', slots := #[] } → EP X pins σ Q (.ref s.heap.objs.size) { s with heap := h' } := fun its r' hz h' c' kp e =>
    ⟨.ref s.heap.objs.size, _, I.laid (t' := s.toks) kp (Nat.le_refl _) (show ObjOk X.prog X.w _ h' _ (.lst ys) from ⟨hz, its, c', r', e⟩), rfl, q _ (I.hok.fresh (Nat.le_refl _))⟩
  rcases hq with hq | hq
  · obtain ⟨its, r', pl, hz⟩ := I.list hq
    have hlen := r'.length
    obtain ⟨o, ho, hc, n, hd⟩ := pl.isList
    exact call_list_seq p (.inl rfl) ho hc hd (fun h' c' kp e => fin its r' hz h' c' kp e) (by simp only [List.size_toArray] <;> omega)
  · obtain ⟨its, r', pl, hz⟩ := I.tuple hq
    have hlen := r'.length
    obtain ⟨o, ho, hc, n, hd⟩ := pl
    exact call_list_seq p (.inr rfl) ho hc hd (fun h' c' kp e => fin its r' hz h' c' kp e) (by simp only [List.size_toArray] <;> omega)
noncomputable def tyV (K : PySem.W.Frag) (T : String) (x : V) (H : Hp) : Prop := match x with
  | .str _ => T = "str"
  | .int _ => T = "int"
  | .ref p => (T = "list" ∧ ∃ xs, SqL K H p xs) ∨ (T = "tuple" ∧ ∃ o, K.lookup p = some o ∧ o.cls = .type "tuple" ∧ o.dict = none) ∨
      (T = "dict" ∧ ((∃ kvs, H p = some (.dK kvs)) ∨ ∃ kvs, H p = some (.dT kvs))) ∨ (T = "set" ∧ ∃ S n, H p = some (.set S n))
  | _ => False
theorem tyV_is {pins : List (Addr × Obj)} {σ : St} {H : Hp} {s : Shared} {T : String} {x : V} {v : Value} (I : Inv X pins σ H s) (r : RelV x v) (ty : tyV X.K T x H) :
    s.TypeIs v T ∧ ∀ a, v = .ref a → ∃ ob, s.heap.get? a = some ob ∧ ob.dict = none := by
  cases x with
  | str z =>
    obtain ⟨t, rfl⟩ := r
    cases (show T = "str" from ty)
    exact ⟨typeIs_str s z t, fun _ e => nomatch e⟩
  | int i =>
    obtain ⟨t, rfl⟩ := r
    cases (show T = "int" from ty)
    exact ⟨typeIs_int s i t, fun _ e => nomatch e⟩
  | ref p =>
    cases r
    rcases ty with ⟨rfl, xs, hq⟩ | ⟨rfl, o, hk, hc, hd⟩ | ⟨rfl, hk⟩ | ⟨rfl, S, n, hk⟩
    · obtain ⟨its, _, pl, _⟩ := I.list hq
      refine ⟨pl.isList.typeIs, fun a e => ?_⟩
      cases e
      obtain ⟨o, n, e, c, hd, _⟩ := pl
      exact ⟨o, e, hd⟩
    · refine ⟨⟨o, I.kIn p o hk, hc⟩, fun a e => ?_⟩
      cases e
      exact ⟨o, I.kIn _ o hk, hd⟩
    · have z : ∃ o, s.heap.get? p = some o ∧ o.ExactDict := by
        rcases hk with ⟨kvs, hk⟩ | ⟨kvs, hk⟩
        · obtain ⟨_, _, _, _, o, _, _, e, ex, _⟩ := I.hok p _ hk
          exact ⟨o, e, ex⟩
        · obtain ⟨_, _, _, _, o, _, _, e, ex, _⟩ := I.hok p _ hk
          exact ⟨o, e, ex⟩
      obtain ⟨o, e, ex⟩ := z
      refine ⟨⟨o, e, ex.1⟩, fun a e2 => ?_⟩
      cases e2
      exact ⟨o, e, ex.2.1⟩
    · obtain ⟨o, _, _, _, e, ex, _⟩ := I.hok p _ hk
      refine ⟨⟨o, e, ex.1⟩, fun a e2 => ?_⟩
      cases e2
      exact ⟨o, e, ex.2.1⟩
  | _ => exact False.elim ty
noncomputable def tBM0 (K : PySem.W.Frag) (T : String) (r : V → List V → Hp → VK → Prop) (to : TE) : TE := fun σ H Q => to σ H fun x H1 => tyV K T x H1 ∧ r x [] H1 Q
noncomputable def tBM (K : PySem.W.Frag) (T : String) (r : V → List V → Hp → VK → Prop) (to : TE) (t : TA) : TE := fun σ H Q => to σ H fun x H1 => tyV K T x H1 ∧ t σ H1 fun xs H2 => r x xs H2 Q
variable {o e : Expr} {es : List Expr} {to : TE} {t : TA} {name : Str} {apos cpos : Pos} {T id : String} {r : V → List V → Hp → VK → Prop}
theorem pe_bm0 (pa : PlainAttrs T) (slot : Slot T name id) (hty : typeOf (.builtin id) = pure (.type "method_descriptor")) (hm : MtR X id r) (ho : PE X o to)
    (hbase : attributeBase o name X.env (eval o X.env) = eval o X.env := by rfl) (hline : (apos.endLine == cpos.line) = true := by rfl) : PE X (.Call (.Attribute o name apos) [] [] cpos) (tBM0 X.K T r to) := by
  intro pins s σ H Q I h
  refine wpAny_Call_method0_late hbase hline (thn (ho pins s σ H _ I h) fun v s1 ⟨x, H1, I1, r1, ty, q1⟩ => ?_)
  obtain ⟨h1, h2⟩ := tyV_is I1 r1 ty
  exact ⟨T, id, pa, slot, hty, h1, h2, Calls.callWith_builtin rfl (PySem.evalArgs_none (hm pins s1 σ H1 x [] v [] Q I1 r1 .nil q1))⟩
theorem pe_bm (pa : PlainAttrs T) (slot : Slot T name id) (hty : typeOf (.builtin id) = pure (.type "method_descriptor")) (hm : MtR X id r) (ho : PE X o to) (ha : PA X (e :: es) t)
    (hbase : attributeBase o name X.env (eval o X.env) = eval o X.env := by rfl)
    (hfew : ((backTo cpos (starEach (e :: es) X.env)).all (fun x => !x.1) && (backToKw cpos (keywordEach [] X.env)).all (fun x => x.1.isSome)
      && decide ((e :: es).length + ([] : List Keyword).length + (if ([] : List Keyword).isEmpty then 0 else 1) < 30)) = true := by rfl)
    (hline : (apos.endLine == cpos.line) = true := by rfl) (hs : starEach (e :: es) X.env = (false, eval e X.env) :: starEach es X.env := by rfl) (hplain : (backTo cpos (starEach es X.env)).any (·.1) = false := by rfl) :
    PE X (.Call (.Attribute o name apos) (e :: es) [] cpos) (tBM X.K T r to t) := by
  intro pins s σ H Q I h
  refine wpAny_Call_method_late hbase hfew hline rfl (thn (ho pins s σ H _ I h) fun v s1 ⟨x, H1, I1, r1, ty, q1⟩ => ?_)
  obtain ⟨h1, h2⟩ := tyV_is I1 r1 ty
  refine ⟨T, id, pa, slot, hty, h1, h2, ?_⟩
  have hA := ha cpos pins s1 σ H1 _ I1 q1
  rw [hs] at hA ⊢
  refine Calls.callWith_builtin (by show (false || (backTo cpos (starEach es X.env)).any (·.1)) = false; rw [hplain] <;> rfl) (Calls.evalArgs_plain ?_)
  exact thn hA fun us s2 ⟨vs, H2, I2, r2, q2⟩ => hm pins s2 σ H2 x vs v us Q I2 r1 r2 q2
end
end L2
namespace L2
open PySem PySem.Spec PyProof.Rows
noncomputable def MtM (X : Cx) (id : String) (r : V → List V → Hp → VK → Prop) : Prop :=
  ∀ (pins : List (Addr × Obj)) (s : Shared) (σ : St) (H : Hp) (x : V) (xs : List V) (v : Value) (us : List Value) (Q : VK), Inv X pins σ H s → RelV x v → Vals xs us → r x xs H Q →
    wpAny (model X.prog X.w) X.A (call (.builtin id) (v :: us)) (EP X pins σ Q) X.xe s
theorem Vals.one : ∀ {x : V} {us : List Value}, Vals [x] us → ∃ u, us = [u] ∧ RelV x u
  | _, _, .cons r .nil => ⟨_, rfl, r⟩
theorem Vals.two : ∀ {x y : V} {us : List Value}, Vals [x, y] us → ∃ u v, us = [u, v] ∧ RelV x u ∧ RelV y v
  | _, _, _, .cons r (.cons q .nil) => ⟨_, _, rfl, r, q⟩
theorem Vals.zero : ∀ {us : List Value}, Vals [] us → us = []
  | _, .nil => rfl
theorem Vals.dropLast {xs : List V} {us : List Value} (h : Vals xs us) : Vals xs.dropLast us.dropLast := by
  induction h with
  | nil => exact .nil
  | cons r t ih =>
    cases t with
    | nil => exact .nil
    | cons q t' => exact .cons r ih
theorem Vals.eraseIdx : ∀ {xs : List V} {us : List Value} (i : Nat), Vals xs us → Vals (xs.eraseIdx i) (us.eraseIdx i)
  | _, _, _, .nil => .nil
  | _, _, 0, .cons _ t => t
  | _, _, i + 1, .cons r t => .cons r (Vals.eraseIdx i t)
theorem Vals.reverse {xs : List V} {us : List Value} (h : Vals xs us) : Vals xs.reverse us.reverse := by
  induction h with
  | nil => exact .nil
  | cons r t ih => rw [List.reverse_cons, List.reverse_cons]; exact Vals.append ih (.cons r .nil)
theorem erase_last {α : Type} (l : List α) : l.eraseIdx (l.length - 1) = l.dropLast := by
  induction l with
  | nil => rfl
  | cons a r ih =>
    cases r with
    | nil => rfl
    | cons b r =>
      have e : (a :: b :: r).length - 1 = ((b :: r).length - 1) + 1 := by
        have h1 : (a :: b :: r).length = r.length + 2 := rfl
        have h2 : (b :: r).length = r.length + 1 := rfl
        omega
      rw [e, List.eraseIdx_cons_succ, ih]
      all_goals rfl
section
variable {X : Cx} {pins : List (Addr × Obj)} {σ : St} {H : Hp} {s : Shared} {l b : Addr} {xs ys zs : List V}
theorem Inv.lset {its its' : List Value} {n : Nat} {f : Array Value → Array Value} {t' : Nat} (I : Inv X pins σ H s) (hH : H l = some (.lst xs))
    (e : s.heap.get? l = some { cls := .type "list", data := .seq its.toArray n }) (hf : f its.toArray = its'.toArray) (hv : Vals ys its') (hz : ys.length ≤ sizeLine) :
    Inv X pins σ (upd H l (.lst ys)) { s with heap := s.heap.update l (Obj.mapSeq f), toks := t' } := by
  have q := PySem.IsL.update e f
  rw [hf] at q
  refine I.write (x := l) (e := l) (by rw [hH]; exact trivial) (.inl rfl) (fun b' u hb hu => (Heap.get?_update_other s.heap (Obj.mapSeq f) (Ne.symm hb)).trans hu) ⟨_, q⟩ ?_
  exact ⟨hz, its', _, hv, q⟩
theorem Inv.lnew {its : List Value} {t' : Nat} (I : Inv X pins σ H s) (hv : Vals ys its) (hz : ys.length ≤ sizeLine) :
    Inv X pins σ (upd H s.heap.objs.size (.lst ys)) { s with heap := s.heap.push { cls := .type "list", data := .seq its.toArray }, toks := t' } :=
  I.laid (fun _ _ q => Heap.get?_push_of_some _ q) (Nat.le_refl _) ⟨hz, its, 0, hv, Heap.get?_push_size _ rfl⟩
theorem Inv.fresh (I : Inv X pins σ H s) : H s.heap.objs.size = none := I.hok.fresh (Nat.le_refl _)
theorem Inv.lstM (I : Inv X pins σ H s) (hH : H l = some (.lst xs)) : xs.length ≤ sizeLine ∧ ∃ (its : List Value) (n : Nat), Vals xs its ∧ xs.length = its.length ∧ s.heap.get? l = some { cls := .type "list", data := .seq its.toArray n } := by
  obtain ⟨z, its, n, r, e⟩ := I.hok l _ hH
  exact ⟨z, its, n, r, r.length, e⟩
end
section
variable {X : Cx}
noncomputable def rAppend : V → List V → Hp → VK → Prop := fun x vs H Q => ∃ l xs y, x = .ref l ∧ vs = [y] ∧ H l = some (.lst xs) ∧ xs.length < sizeLine ∧ Q .non (upd H l (.lst (xs ++ [y])))
theorem mt_append : MtM X "list.append" rAppend := by
  intro pins s σ H x vs v us Q I rx rv h
  obtain ⟨l, xs, y, rfl, rfl, hH, hz, q⟩ := h
  cases rx
  obtain ⟨u, rfl, ru⟩ := rv.one
  obtain ⟨z, its, n, r, hl, e⟩ := I.lstM hH
  refine call_meets F.slot_list_append ⟨_, e, rfl⟩ F.entry_list_append (F.args_list_append_2 _ _) (PySem.list_append l its.toArray n u (by rw [List.size_toArray]; omega)) ⟨e, ?_⟩
  refine ⟨.non, _, I.lset (its' := its ++ [u]) hH e (by simp) (r.append (.cons ru .nil)) ?_, rfl, q⟩
  rw [List.length_append, List.length_singleton]
  omega
noncomputable def rPop : V → List V → Hp → VK → Prop := fun x vs H Q => ∃ l xs y, x = .ref l ∧ vs = [] ∧ H l = some (.lst xs) ∧ xs[xs.length - 1]? = some y ∧ Q y (upd H l (.lst xs.dropLast))
theorem mt_pop : MtM X "list.pop" rPop := by
  intro pins s σ H x vs v us Q I rx rv h
  obtain ⟨l, xs, y, rfl, rfl, hH, hy, q⟩ := h
  cases rx
  have hus := rv.zero
  subst hus
  obtain ⟨z, its, n, r, hl, e⟩ := I.lstM hH
  obtain ⟨u, hu, ru⟩ := r.get hy
  have hy' : its.toArray[its.toArray.size - 1]? = some u := by
    show its.toArray[its.length - 1]? = some u
    rw [← Array.getElem?_toList, ← hl]
    exact hu
  refine call_meets F.slot_list_pop ⟨_, e, rfl⟩ F.entry_list_pop (F.args_list_pop_1 _) (MeetsSeq.list_pop_last l its.toArray n u hy' (by rw [List.size_toArray]; omega)) ⟨e, ?_⟩
  refine ⟨y, _, I.lset (its' := its.dropLast) hH e ?_ r.dropLast ?_, ru, q⟩
  · show its.toArray.eraseIdxIfInBounds (its.toArray.size - 1) = its.dropLast.toArray
    rw [List.size_toArray, List.eraseIdxIfInBounds_toArray, erase_last]
  · rw [List.length_dropLast]
    omega
noncomputable def rCat : R2 := fun x y H Q => ∃ l b xs zs, x = .ref l ∧ y = .ref b ∧ H l = some (.lst xs) ∧ H b = some (.lst zs) ∧ xs.length + zs.length ≤ sizeLine ∧ ∀ p, H p = none → Q (.ref p) (upd H p (.lst (xs ++ zs)))
theorem op_cat : OpR X (binaryOp .Add) rCat := by
  intro pins s σ H x y v u Q I rx ry h
  obtain ⟨l, b, xs, zs, rfl, rfl, hH, hB, hz, q⟩ := h
  cases rx
  cases ry
  obtain ⟨z, its, n, r, hl, e⟩ := I.lstM hH
  obtain ⟨z2, its2, n2, r2, hl2, e2⟩ := I.lstM hB
  refine PySem.P.add_list e e2 ?_ (by rw [List.size_toArray, List.size_toArray]; omega)
  have ea : its.toArray ++ its2.toArray = (its ++ its2).toArray := by simp
  rw [ea]
  exact ⟨.ref _, _, I.lnew (t' := s.toks) (r.append r2) (by rw [List.length_append]; omega), rfl, q _ I.fresh⟩
end
section
variable {prog : Program} {w : World} {A : Around} {E : Value → Shared → Prop} {s : Shared}
end
section
variable {X : Cx}
end
end L2
namespace Att
open PySem PySem.W PySem.Calls PyProof.Rows
theorem ints_of_wellAll {P : Params} {h : Heap} : ∀ (ns : List Int) (vs : List Value), WellAll P h vs (ns.map WData.int) → IntsAre vs ns := by
  intro ns
  induction ns with
  | nil =>
    intro vs w
    rw [List.map_nil] at w
    cases w
    exact .nil
  | cons n ns ih =>
    intro vs w
    rw [List.map_cons] at w
    cases w with
    | cons a b =>
      cases a
      exact .cons _ _ (ih _ b)
theorem script_of {l : OpenLaw} {n : Nat} (hn : l.most = some n) {P : Params} {h : Heap} {args : List WData} {vals : List Value}
    (hpre : l.row.toRowW.claim.pre args = true) (hwl : WellAll P h vals args) :
    ∃ a vs ns, vals = [Value.ref a] ∧ args = [WData.list (ns.map WData.int)] ∧ h.get? a = some { cls := .type "list", data := .seq vs.toArray } ∧ IntsAre vs ns ∧ ns.length ≤ n := by
  have hsh : WShape.hasAll [] args [.list .int] = true := (pre_splitW hpre).1
  have hc : l.pre.holds [] { args := args } = true := (pre_splitW hpre).2
  obtain ⟨d, r, rfl, h1, h2⟩ := hasAllW_cons hsh
  obtain rfl := hasAllW_nil h2
  obtain ⟨xs, rfl, h3⟩ := hasW_list h1
  obtain ⟨ns, rfl⟩ := items_int h3
  have hlen : ns.length ≤ n := by
    unfold OpenLaw.pre at hc
    have h4 : (WTm.not (.lt (.lit (.int (n : Int))) (.len (.arg 0)))).holds [] { args := [.list (ns.map .int)] } = true := by
      have h4 := (holds_andW hc).1
      rw [hn] at h4
      exact h4
    have h5 := condW_of h4 (w_not (w_lt w_lit (w_len_list (w_arg rfl))))
    rw [List.length_map] at h5
    refine Nat.le_of_not_lt fun q => ?_
    have q' : (n : Int) < ((ns.length : Nat) : Int) := by omega
    first
      | (rw [decide_eq_true q'] at h5; exact absurd h5 (by decide))
      | (simp at h5; omega)
  cases hwl with
  | cons w1 w2 =>
    cases w2
    cases w1 with
    | list ho hall => exact ⟨_, _, ns, rfl, rfl, ho, ints_of_wellAll ns _ hall, hlen⟩
theorem post_true (l : OpenLaw) (args : List WData) : l.row.toRowW.claim.post args (.bool true) args = true :=
  postW_of (r := l.row.toRowW) (X := (true == true))
    (show WShape.has [] (.bool true) .bool = true by first | rfl | decide | simp [WShape.has, WShape.arms, WShape.armsAll])
    (show (WTm.eq .res (.lit (.bool true))).value [] { args := args, res := some (.bool true), after := args } = some (.bool (true == true)) from w_eq_bool (w_res rfl) w_lit) rfl
theorem attach_call {l : OpenLaw} {n : Nat} {q : Program} {loose : List Str} {XP : (Str → Option Value) → Heap → Prop} {YP : World → Heap → Prop} {d : DefRec}
    (hn : l.most = some n) (hdf : d.params.defaults = [])
    (call : ∀ (w : World) (s₀ s₁ : Shared) (mg mb : Str → Option Value) (fa : Addr) (o : Obj) (pm cd doc : Value) (a : Addr) (vs : List Value) (ns : List Int),
      Ground q loose [] XP w s₀ mg mb s₁.heap → YP w s₁.heap →
      s₁.heap.get? fa = some o → o.data = .func (docDef d.name d.params d.body d.scope pm cd doc) → s₁.heap.CodeRec cd d.name → mg d.name = some (.ref fa) →
      s₁.heap.get? a = some { cls := .type "list", data := .seq vs.toArray } → IntsAre vs ns → ns.length ≤ n → s₁.gens = #[] →
      codeAny (model l.prog w) callerA (.call (.ref fa) ⟨[.ref a], []⟩) (fun r s' => r = .ok (.ret (.bool true)) ∧ OldK s₁.heap s'.heap ∧ s'.os = s₁.os ∧ AllBare s'.gens) s₁) :
    WalkO q loose XP YP l.row.toRowW d [] (fun f vs => PySem.call f vs) := by
  intro w s₀ s₁ mg mb G Y fa o pm cd doc dV kV ho hd hcd hD hmg hg args vals as hpre hlay hrd hwl hlo
  obtain rfl : dV = .none := Dflts.none hD hdf
  obtain rfl : kV = .none := Dflts.noKw hD
  obtain ⟨a, vs, ns, rfl, rfl, hobj, hints, hlen⟩ := script_of hn hpre hwl
  refine enter_call (codeAny_mono (call w s₀ s₁ mg mb fa o pm cd doc a vs ns G Y ho (fd_plain hd) hcd hmg hobj hints hlen hg) fun r s' hq => ?_)
  obtain ⟨rfl, h2, h3, h4⟩ := hq
  exact ⟨.inl ⟨.bool true, .bool true, [], rfl, fun _ => rfl, .bool true, post_true l _, fun _ => ⟨List.Pairwise.nil, fun _ hm => (nomatch hm)⟩⟩, h2, h3, h4⟩
section
variable {prog : Program} {w : World} {A : Around} {E : Value → Shared → Prop} {s : Shared} {K : Frag}
end
end Att
namespace L2
open PySem PySem.Spec PyProof.Rows
theorem vals_ints : ∀ {vs : List Value} {ns : List Int}, IntsAre vs ns → Vals (ns.map V.int) vs
  | _, _, .nil => .nil
  | _, _, .cons n t h => .cons ⟨t, rfl⟩ (vals_ints h)
noncomputable def Only (H : Hp) : Prop := ∀ b, H b = none ∨ ∃ o xs, H b = some (.frz o (.lst xs))
theorem law_call {P : Program} {w : World} {K : PySem.W.Frag} {mg mb : Str → Option Value} {CX : CXT} {k : Nat} {fa a : Addr} {fd : FuncData} {x : Str} {sp : Sp} {s₁ : Shared} {vs : List Value} {ns : List Int}
    (KX : K.In s₁.heap) (hns : s₁.heap.Ns mainGlobals mg) (hb : s₁.heap.Ns builtinsNs mb) (hbb : ∀ x : Str, x ≠ "__name__" → mb x = bootBuiltins x) (hlim : s₁.heap.NoLimit) (hg : s₁.gens = #[])
    (ha : s₁.heap.get? a = some { cls := .type "list", data := .seq vs.toArray }) (hi : IntsAre vs ns) (hl : ns.length ≤ sizeLine) (hr : Room k callerA)
    (F : ∀ base : Heap, K.In base → base.Ns mainGlobals mg → FnOk P w K mg base CX k fa fd [x] sp) (hbind : ∀ (s : Shared) (u : Value), BindsTo s fd ⟨[u], []⟩ [(x, u)])
    (hsp : ∀ H : Hp, Only H → SqL K H a (ns.map V.int) → sp [.ref a] H (fun v _ => v = .bl true) fun _ _ _ => False)
    (hCX : ∀ H e s', CX [] H s₁ (fun _ _ _ => False) e s' → False) :
    codeAny (model P w) callerA (.call (.ref fa) ⟨[.ref a], []⟩) (fun r s' => r = .ok (.ret (.bool true)) ∧ OldK s₁.heap s'.heap ∧ s'.os = s₁.os ∧ AllBare s'.gens) s₁ := by
  have rv := vals_ints hi
  have lenV := hi.length
  have core : ∀ H : Hp, Only H → SqL K H a (ns.map V.int) → HOk P w H s₁.heap → (∀ b, H b ≠ none → b = a) → (H a ≠ none → K.lookup a = none) →
      codeAny (model P w) callerA (.call (.ref fa) ⟨[.ref a], []⟩) (fun r s' => r = .ok (.ret (.bool true)) ∧ OldK s₁.heap s'.heap ∧ s'.os = s₁.os ∧ AllBare s'.gens) s₁ := by
    intro H hO hS hok hA hK
    have base_of : ∀ {b : Addr} {o : Obj}, s₁.heap.get? b = some o → H b = none → (hidT s₁.heap H).get? b = some o := fun e n => hidT_get e n
    have noA : ∀ {b : Addr} {o : Obj} {es : Array DictEntry} {ep : Nat}, s₁.heap.get? b = some o → o.data = .dict es ep → H b = none := fun {b o es ep} e d => by
      cases q : H b with
      | none => rfl
      | some u =>
        have e' : b = a := hA b (by rw [q]; simp)
        subst e'
        rw [ha] at e; cases e
        have d' : Data.seq vs.toArray _ = Data.dict es ep := d
        cases d'
    have nsK : ∀ {b : Addr} {m : Str → Option Value}, s₁.heap.Ns b m → (hidT s₁.heap H).Ns b m := fun {b m} ⟨o, es, ep, e, d, r⟩ => ⟨o, es, ep, base_of e (noA e d), d, r⟩
    have hKb : K.In (hidT s₁.heap H) := fun b o e => base_of (KX b o e) (by
      cases q : H b with
      | none => rfl
      | some u =>
        have e' : b = a := hA b (by rw [q]; simp)
        subst e'
        rw [hK (by rw [q]; simp)] at e; cases e)
    have hM : Mod K mg (hidT s₁.heap H) := ⟨hKb, nsK hns, ⟨mb, nsK hb, hbb⟩, let ⟨mc, h1, h2⟩ := hlim; ⟨mc, nsK h1, h2⟩⟩
    have e0 : Env0 P w K mg (hidT s₁.heap H) callerA [] s₁ H := ⟨rfl, hM, fun b o e => of_hidT e, Nat.le_of_eq (hidT_size _ _), trivial, fun b hb => absurd (show b ∈ ([] : List Addr) from hb) (by simp), hok, .of_eq hg⟩
    refine codeAny_mono ((F _ hKb (nsK hns)).run callerA [] s₁ H ⟨[.ref a], []⟩ [.ref a] [.ref a] _ _ hr e0 (hbind s₁ (.ref a)) (.cons rfl .nil) (hsp H hO hS)) fun r s' h => ?_
    cases r with
    | error e => exact (hCX H e s' h).elim
    | ok fl =>
      cases fl with
      | next => exact False.elim h
      | brk => exact False.elim h
      | cont => exact False.elim h
      | ret u =>
        obtain ⟨v, H', os, bare, un, hok', r', q⟩ := h
        have q' : v = .bl true := q
        subst q'
        obtain rfl : u = Value.bool true := r'
        refine ⟨rfl, OldK.of_keep fun b o e => ?_, os, bare⟩
        cases q : H b with
        | none => exact un.keep b o e q (by intro z; exact absurd (show b ∈ ([] : List Addr) from z) (by simp)) (by simp)
        | some u =>
          rcases hO b with z | ⟨ob, xs, z⟩
          · rw [q] at z; cases z
          · have z2 := un.frzs b ob _ z
            obtain ⟨e1, _⟩ := hok b _ z
            obtain ⟨e2, _⟩ := hok' b _ z2
            rw [e] at e1; cases e1
            exact e2
  cases hk : K.lookup a with
  | some o =>
    have e := KX a o hk
    rw [ha] at e
    cases e
    refine core (fun _ => none) (fun _ => .inl rfl) (.inr ⟨_, vs.toArray, _, hk, rfl, rfl, rfl, by rw [List.size_toArray, lenV]; exact hl, by simpa using rv⟩) (fun b u z => by have z' : (none : Option HO) = some u := z; cases z') (fun b z => absurd rfl z) fun z => absurd rfl z
  | none =>
    refine core (fun b => if b = a then some (.frz { cls := .type "list", data := .seq vs.toArray } (.lst (ns.map V.int))) else none) (fun b => ?_) (.inl (.inr ⟨{ cls := .type "list", data := .seq vs.toArray }, if_pos rfl⟩)) (fun b u z => ?_) (fun b z => ?_) fun _ => hk
    · by_cases hb : b = a
      · exact .inr ⟨_, _, if_pos hb⟩
      · exact .inl (if_neg hb)
    · by_cases hb : b = a
      · have z' := (if_pos hb).symm.trans z
        cases z'
        subst hb
        exact ⟨ha, by rw [List.length_map]; exact hl, vs, _, rv, ha⟩
      · have z' := (if_neg hb).symm.trans z
        cases z'
    · by_cases hb : b = a
      · exact hb
      · exact absurd (if_neg hb) z
end L2
namespace L2
open PySem PySem.Spec PyProof.Rows
noncomputable abbrev KOf {K : PySem.W.Frag} {h : Heap} (_ : K.In h) : PySem.W.Frag := K
theorem walk_of {l : PySem.W.OpenLaw} {n k : Nat} {q : Program} {loose : List Str} {XP : (Str → Option Value) → Heap → Prop} {YP : World → Heap → Prop} {d : DefRec} {K : Params → PySem.W.Frag} {CX : World → CXT} {sp : World → Sp} {x : Str}
    (hn : l.most = some n) (hn2 : n ≤ sizeLine) (hdf : d.params.defaults = []) (hr : Room k callerA)
    (hY : ∀ (w : World) (h : Heap), YP w h → (K w.params).In h)
    (F : ∀ (w : World) (mg : Str → Option Value) (fa : Addr) (h : Heap), (K w.params).In h → h.Ns mainGlobals mg → mg d.name = some (.ref fa) →
      ∃ fd : FuncData, (∀ (s : Shared) (u : Value), BindsTo s fd ⟨[u], []⟩ [(x, u)]) ∧
        ∀ base : Heap, (K w.params).In base → base.Ns mainGlobals mg → FnOk l.prog w (K w.params) mg base (CX w) k fa fd [x] (sp w))
    (hsp : ∀ (w : World) (H : Hp) (a : Addr) (ns : List Int), ns.length ≤ n → Only H → SqL (K w.params) H a (ns.map V.int) → sp w [.ref a] H (fun v _ => v = .bl true) fun _ _ _ => False)
    (hCX : ∀ (w : World) (H : Hp) (s : Shared) (e : Value) (s' : Shared), CX w [] H s (fun _ _ _ => False) e s' → False) :
    PySem.W.WalkO q loose XP YP l.row.toRowW d [] (fun f vs => PySem.call f vs) := by
  refine Att.attach_call hn hdf fun w s₀ s₁ mg mb fa o pm cd doc a vs ns G Y ho hd hcd hmg hobj hints hlen hg => ?_
  have KX := hY w _ Y
  obtain ⟨fd, hb, hF⟩ := F w mg fa _ KX G.T.g hmg
  exact law_call KX G.T.g G.T.b G.T.builtins G.T.nolimit hg hobj hints (Nat.le_trans hlen hn2) hr hF hb (fun H hO hS => hsp w H a ns hlen hO hS) fun H e s' => hCX w H s₁ e s'
end L2
namespace L2
open PySem PySem.Spec PyProof.Rows
noncomputable def inClass (s : Stmt) (j : Nat) : Stmt := match s with
  | .ClassDef _ _ _ body _ _ _ _ _ _ _ => body.getD j (.Pass ⟨0, 0, 0, 0⟩)
  | _ => .Pass ⟨0, 0, 0, 0⟩
noncomputable def defArgs (s : Stmt) : Arguments := match s with
  | .FunctionDef _ a _ _ _ _ _ _ _ _ => a
  | _ => { posonlyargs := [], args := [], vararg := none, kwonlyargs := [], kw_defaults := [], kwarg := none, defaults := [] }
noncomputable def defBody (s : Stmt) : List Stmt := match s with
  | .FunctionDef _ _ b _ _ _ _ _ _ _ => b
  | _ => []
noncomputable def defScope (s : Stmt) : Scope := match s with
  | .FunctionDef _ _ _ _ _ _ sc _ _ _ => sc
  | _ => { kind := .function, names := [], isGenerator := false, isCoroutine := false }
noncomputable abbrev CX0 : CXT := fun _ _ _ _ _ _ => False
noncomputable abbrev E0 : XK := fun _ _ _ => False
theorem pass0 {X : Cx} : Passes CX0 X E0 := fun _ _ _ _ _ _ _ h => h.elim
structure Fun (K : PySem.W.Frag) (x qual : Str) (st : Stmt) (f : Addr) (fd : FuncData) : Prop where
  ex : ∃ (oc : Value) (od : Option Addr) (kV doc pm : Value) (an : Option Addr) (cdv ct : Value) (osl : Array (Option Value)),
    fd = PySem.W.fnOf x qual (defArgs st) (defBody st) (defScope st) .none kV doc pm an cdv ct ∧ K.lookup f = some ⟨oc, od, .func fd, osl⟩ ∧ PySem.W.codeIn K cdv qual = true
  kp : PySem.W.keepIn K (.ref f) = true
section
variable {P : Program} {w : World} {K : PySem.W.Frag} {mg : Str → Option Value} {base : Heap}
theorem Fun.ok {x qual : Str} {st : Stmt} {f : Addr} {fd : FuncData} {N ps : List Str} {k : Nat} {sp : Sp} (F : Fun K x qual st f fd) (S : FnScope N ps (defScope st)) (len : ∀ vs H Q E, sp vs H Q E → vs.length = ps.length)
    (hbody : ∀ (cdv : Value) (A : Around) (outer : List Env) (s : Shared) (H : Hp) (vs : List V) (Q : VK) (E : XK), Room k (A.deeper (envOfC qual (defScope st) s.heap.objs.size f cdv)) → sp vs H Q E →
      ∃ t, PSs (cxOf CX0 P w K mg base N qual (defScope st) f cdv A outer s H E).nox (defBody st) t ∧ t { nx := fun _ H' => Q .non H', rt := Q } (start N vs) H) : FnOk P w K mg base CX0 (k + 1) f fd ps sp := by
  obtain ⟨oc, od, kV, doc, pm, an, cdv, ct, osl, rfl, lk, hcd⟩ := F.ex
  refine fn_of lk hcd S len fun A outer s H vs Q E hr hsp => ?_
  obtain ⟨t, h, q⟩ := hbody cdv A outer s H vs Q E hr hsp
  exact ⟨t, h.nox, q⟩
theorem Fun.binds {x qual : Str} {st : Stmt} {f : Addr} {fd : FuncData} {ps : List Str} (F : Fun K x qual st f fd)
    (h : ∀ (kV doc pm : Value) (an : Option Addr) (cdv ct : Value) (us : List Value), us.length = ps.length → bindArgs (PySem.W.fnOf x qual (defArgs st) (defBody st) (defScope st) .none kV doc pm an cdv ct) ⟨us, []⟩ = pure (ps.zip us)) : Binds K fd ps [] := by
  obtain ⟨oc, od, kV, doc, pm, an, cdv, ct, osl, rfl, lk, hcd⟩ := F.ex
  exact .all (h kV doc pm an cdv ct)
theorem fun_mk {x qual : Str} {st : Stmt} {f : Addr} {oc : Value} {od an : Option Addr} {osl : Array (Option Value)} {kV doc pm cdv ct : Value} (l : K.lookup f = some ⟨oc, od, .func (PySem.W.fnOf x qual (defArgs st) (defBody st) (defScope st) .none kV doc pm an cdv ct), osl⟩)
    (c : PySem.W.codeIn K cdv qual = true) (k : PySem.W.keepIn K (.ref f) = true) : Fun K x qual st f (PySem.W.fnOf x qual (defArgs st) (defBody st) (defScope st) .none kV doc pm an cdv ct) := ⟨⟨oc, od, kV, doc, pm, an, cdv, ct, osl, rfl, l, c⟩, k⟩
end
section
variable {X : Cx}
theorem pv (i : Nat) {x : Str} {pos : Pos} (hN : X.N[i]? = some x := by rfl) (hv : Vis X.env.scope x := by first | exact Or.inl rfl | exact Or.inr (Or.inl rfl) | exact Or.inr (Or.inr rfl)) (hd : (x == ("__debug__" : Str)) = false := by decide)
    (hcd : (x == ("__classdict__" : Str)) = false := by decide) : PE X (.Name x pos) (tVar i) := pe_var hN hv hd hcd
end
theorem iteF {A B : Prop} (h : B) : if false = true then A else B := by
  rw [if_neg Bool.false_ne_true]
  exact h
theorem iteT {A B : Prop} (h : A) : if true = true then A else B := by
  rw [if_pos rfl]
  exact h
theorem ite2 {c A B : Prop} [Decidable c] (h1 : c → A) (h2 : ¬ c → B) : if c then A else B := by
  by_cases h : c
  · rw [if_pos h]
    exact h1 h
  · rw [if_neg h]
    exact h2 h
noncomputable def Same (H H' : Hp) : Prop := ∀ b o, H b = some o → H' b = some o
theorem Same.refl (H : Hp) : Same H H := fun _ _ h => h
theorem Same.trans {H H1 H2 : Hp} (a : Same H H1) (b : Same H1 H2) : Same H H2 := fun c o h => b c o (a c o h)
theorem Same.free {H H' : Hp} (e : Same H H') {l : Addr} (h : H' l = Option.none) : H l = Option.none := by
  cases q : H l with
  | none => rfl
  | some o =>
    rw [e l o q] at h
    cases h
theorem Same.seq {K : PySem.W.Frag} {H H' : Hp} {a : Addr} {xs : List V} (e : Same H H') (h : SqL K H a xs) : SqL K H' a xs := by
  rcases h with (h | ⟨o, h⟩) | h
  · exact .inl (.inl (e _ _ h))
  · exact .inl (.inr ⟨o, e _ _ h⟩)
  · exact .inr h
end L2
set_option Elab.async false
set_option linter.all false
set_option maxRecDepth 100000
set_option maxHeartbeats 4000000
namespace L2
open PySem PySem.Spec PyProof.Rows
section
variable {X : Cx}
theorem strsAre_of : ∀ {ys : List Str} {us : List Value}, Vals (ys.map V.str) us → StrsAre us ys
  | [], _, .nil => .nil
  | y :: ys, _, .cons r t => by
    obtain ⟨k, e⟩ := (show ∃ k, _ = Value.str y k from r)
    subst e
    exact .cons y k (strsAre_of t)
theorem mt_join : MtR X "str.join" (fun x xs H Q => ∃ z p ys, x = .str z ∧ xs = [.ref p] ∧ SqL X.K H p (ys.map V.str) ∧ (ys.map (·.length)).sum + ys.length * z.length ≤ 16777216 ∧ Q (.str (Txt.join z ys)) H) := by
  intro pins s σ H x xs v us Q I rx rs h
  obtain ⟨z, p, ys, rfl, rfl, hq, hz, q⟩ := h
  obtain ⟨t, rfl⟩ := rx
  obtain ⟨u, rfl, r1⟩ := vals1 rs
  cases r1
  obtain ⟨its, r, pl, _⟩ := I.list hq
  exact join_list pl.isList (by simpa using strsAre_of r) hz fun t' k => ⟨.str _, H, I.tok _, ⟨_, rfl⟩, q⟩
noncomputable def rSlS : V → Option Int → Option Int → Hp → VK → Prop := fun x lo hi H Q => ∃ z, x = .str z ∧ z.length ≤ sizeLine ∧ Q (.str (Txt.slice z lo hi)) H
theorem sl_str : SlR X rSlS := by
  intro pins s σ H x v vl vu lo hi sl Q I rx hs pl pu h
  obtain ⟨z, rfl, hz, q⟩ := h
  obtain ⟨t, rfl⟩ := rx
  refine ⟨"str", _, PySem.F.slot_str_getitem.lookup, typeIs_str _ _ _, ?_⟩
  cases pl with
  | none =>
    cases pu with
    | none => exact wpAny_getItem_str_slice (l := none) (u := none) (st := none) hs rfl (post_val_or_str ⟨Nat.le_trans (Txt.slice_le z _ _) hz, fun t' k => ⟨.str (Txt.slice z none none), H, I.tok _, ⟨_, rfl⟩, q⟩⟩)
    | int j tj => exact wpAny_getItem_str_slice (l := none) (u := some (j, tj)) (st := none) hs rfl (post_val_or_str ⟨Nat.le_trans (Txt.slice_le z _ _) hz, fun t' k => ⟨.str (Txt.slice z none (some j)), H, I.tok _, ⟨_, rfl⟩, q⟩⟩)
  | int i ti =>
    cases pu with
    | none => exact wpAny_getItem_str_slice (l := some (i, ti)) (u := none) (st := none) hs rfl (post_val_or_str ⟨Nat.le_trans (Txt.slice_le z _ _) hz, fun t' k => ⟨.str (Txt.slice z (some i) none), H, I.tok _, ⟨_, rfl⟩, q⟩⟩)
    | int j tj => exact wpAny_getItem_str_slice (l := some (i, ti)) (u := some (j, tj)) (st := none) hs rfl (post_val_or_str ⟨Nat.le_trans (Txt.slice_le z _ _) hz, fun t' k => ⟨.str (Txt.slice z (some i) (some j)), H, I.tok _, ⟨_, rfl⟩, q⟩⟩)
mutual
inductive DtV (K : PySem.W.Frag) (H : Hp) : V → PyData → Prop
  | non : DtV K H .non .none
  | bl (b : Bool) : DtV K H (.bl b) (.bool b)
  | int (i : Int) : DtV K H (.int i) (.int i)
  | str (x : Str) : DtV K H (.str x) (.str x)
  | lst {a : Addr} {xs : List V} {ds : List PyData} : SqL K H a xs → DtVs K H xs ds → DtV K H (.ref a) (.list ds)
  | tup {a : Addr} {xs : List V} {ds : List PyData} : SqT K H a xs → DtVs K H xs ds → DtV K H (.ref a) (.tuple ds)
inductive DtVs (K : PySem.W.Frag) (H : Hp) : List V → List PyData → Prop
  | nil : DtVs K H [] []
  | cons {x : V} {xs : List V} {d : PyData} {ds : List PyData} : DtV K H x d → DtVs K H xs ds → DtVs K H (x :: xs) (d :: ds)
end
mutual
theorem DtV.reads {pins : List (Addr × Obj)} {σ : St} {H : Hp} {s : Shared} (I : Inv X pins σ H s) : ∀ {x : V} {d : PyData} {u : Value}, DtV X.K H x d → RelV x u → ∃ as, Reads s.heap u d as
  | _, _, _, .non, r => by cases r; exact ⟨_, .none⟩
  | _, _, _, .bl b, r => by cases r; exact ⟨_, .bool b⟩
  | _, _, _, .int i, r => by obtain ⟨t, rfl⟩ := r; exact ⟨_, .int i t⟩
  | _, _, _, .str x, r => by obtain ⟨t, rfl⟩ := r; exact ⟨_, .str x t⟩
  | _, _, _, .lst hq hs, r => by
    cases r
    obtain ⟨its, rv, ⟨o, n, e, c, _, d⟩, _⟩ := I.list hq
    obtain ⟨as, ra⟩ := DtVs.reads I hs rv
    exact ⟨_, .list e c d (by simpa using ra)⟩
  | _, _, _, .tup hq hs, r => by
    cases r
    obtain ⟨its, rv, ⟨o, e, c, n, d⟩, _⟩ := I.tuple hq
    obtain ⟨as, ra⟩ := DtVs.reads I hs rv
    exact ⟨_, .tuple e c d (by simpa using ra)⟩
theorem DtVs.reads {pins : List (Addr × Obj)} {σ : St} {H : Hp} {s : Shared} (I : Inv X pins σ H s) : ∀ {xs : List V} {ds : List PyData} {us : List Value}, DtVs X.K H xs ds → Vals xs us → ∃ as, ReadsAll s.heap us ds as
  | _, _, _, .nil, .nil => ⟨_, .nil⟩
  | _, _, _, .cons h hs, .cons r rs => by
    obtain ⟨as, ra⟩ := DtV.reads I h r
    obtain ⟨bs, rb⟩ := DtVs.reads I hs rs
    exact ⟨_, .cons ra rb⟩
end
noncomputable def rEqD (X : Cx) : R2 := fun x y H Q => ∃ dx dy, DtV X.K H x dx ∧ DtV X.K H y dy ∧ dx.canLay0 = true ∧ dy.canLay0 = true ∧ min dx.depth dy.depth ≤ 100 ∧ Q (.bl (PyData.eqv dx dy)) H
noncomputable def rNeD (X : Cx) : R2 := fun x y H Q => ∃ dx dy, DtV X.K H x dx ∧ DtV X.K H y dy ∧ dx.canLay0 = true ∧ dy.canLay0 = true ∧ min dx.depth dy.depth ≤ 100 ∧ Q (.bl (!PyData.eqv dx dy)) H
theorem op_eqD (hu : X.A.units + 100 < cLine) : OpR X (compareOp .Eq) (rEqD X) := by
  intro pins s σ H x y v u Q I rx ry h
  obtain ⟨dx, dy, hx, hy, lx, ly, hd, q⟩ := h
  obtain ⟨as, ra⟩ := hx.reads I rx
  obtain ⟨bs, rb⟩ := hy.reads I ry
  exact SeqAt.compareEq_reads ra rb lx ly (by (clear ly lx; omega)) ⟨.bl _, H, I, rfl, q⟩
theorem op_neD (hu : X.A.units + 100 < cLine) : OpR X (compareOp .NotEq) (rNeD X) := by
  intro pins s σ H x y v u Q I rx ry h
  obtain ⟨dx, dy, hx, hy, lx, ly, hd, q⟩ := h
  obtain ⟨as, ra⟩ := hx.reads I rx
  obtain ⟨bs, rb⟩ := hy.reads I ry
  exact SeqAt.compareNe_reads ra rb lx ly (by (clear ly lx; omega)) ⟨.bl _, H, I, rfl, q⟩
theorem boolsAre_get : ∀ {bs : List Bool} {us : List Value}, Vals (bs.map V.bl) us → ∀ (i : Nat) (v : Value), us[i]? = some v → ∃ b, bs[i]? = some b ∧ v = .bool b
  | [], _, .nil, i, v, h => by simp at h
  | b :: bs, _, .cons r t, 0, v, h => by
    have r' : _ = Value.bool b := r
    subst r'
    simp at h
    exact ⟨b, by simp, h.symm⟩
  | b :: bs, _, .cons r t, i + 1, v, h => by
    obtain ⟨c, e1, e2⟩ := boolsAre_get t i v (by simpa using h)
    exact ⟨c, by simpa using e1, e2⟩
theorem call_all_bools (hc : X.calm = true) : CallR X (.builtin "all") (fun xs H Q => ∃ (p : Addr) (bs : List Bool), xs = [.ref p] ∧ SqL X.K H p (bs.map V.bl) ∧ Q (.bl (bs.all id)) H) := by
  intro pins s σ H xs us Q I r h
  obtain ⟨p, bs, rfl, hq, q⟩ := h
  obtain ⟨u, rfl, rx⟩ := vals1 r
  cases rx
  obtain ⟨its, rv, pl, hz⟩ := I.list hq
  have hl := pl.isList
  have hlen := rv.length
  rw [List.length_map] at hlen
  have hlt : p < s.heap.objs.size := by obtain ⟨_, e, _⟩ := hl; exact Heap.lt_size e
  refine call_all_walk (wpAny_pyIter_list hl ?_)
  refine ⟨s.heap.objs.size, [s.heap.objs.size, p], [s.heap.objs.size], its.toArray.size, _, _, fun i => (bs[i]?).getD true, rfl, Walks.list (A := X.A.in1) (I.ok.hd hc) _ p (Nat.ne_of_lt hlt) its.toArray,
    ⟨⟨_, Heap.get?_push_size _ rfl, rfl, rfl⟩, hl.push _⟩, fun i v s' Q' E' hP hQ => ?_, fun h' tk hk => ?_⟩
  · obtain ⟨b, e, rfl⟩ := boolsAre_get rv i v (by simpa using hP)
    simp only [e, Option.getD_some] at hQ
    exact wpAny_truthy_bool hQ
  · have e : ((List.range its.toArray.size).all fun i => (bs[i]?).getD true) = bs.all id := by
      rw [List.size_toArray, ← hlen]; exact LSm.range_all bs
    rw [e]
    exact ⟨.bl _, H, I.kept (LSm.kept_iter hk), rfl, q⟩
theorem call_isi : CallR X (.builtin "isinstance") (fun xs H Q => ∃ x c t b, xs = [x, c] ∧ TyOf X.K H x t ∧
    ((∃ n, c = .ty n ∧ PySem.W.kitOne X.K t (.type n) = some b) ∨ (∃ C, c = .ref C ∧ PySem.W.kitOne X.K t (.ref C) = some b)) ∧ Q (.bl b) H) := by
  intro pins s σ H xs us Q I r h
  obtain ⟨x, c, t, b, rfl, ty, hc, q⟩ := h
  obtain ⟨u, w', rfl, rx, rc⟩ := vals2 r
  rcases hc with ⟨n, rfl, e⟩ | ⟨C, rfl, e⟩
  · cases rc
    exact isinst_ok I rx ty e fun tk => ⟨.bl b, H, I.tok tk, rfl, q⟩
  · cases rc
    exact isinst_ok I rx ty e fun tk => ⟨.bl b, H, I.tok tk, rfl, q⟩
end
end L2
set_option Elab.async false
set_option linter.all false
set_option maxRecDepth 100000
set_option maxHeartbeats 4000000
namespace L2
open PySem PySem.Spec PyProof.Rows
section
variable {X : Cx} {pins : List (Addr × Obj)} {σ : St} {H H' : Hp} {s : Shared} {h' : Heap}
theorem Inv.track {a : Addr} {o : HO} (I : Inv X pins σ H s) (hs : X.s₀.heap.get? a = none ∨ a ∈ X.ex) (hn : H a = none) (hL : a ≠ X.env.locals) (hC : ∀ x c, X.env.cells.lookup x = some c → c ≠ a) (hp : ∀ p ∈ X.pn ++ pins, p.1 ≠ a)
    (new : ObjOk X.prog X.w (upd H a o) s.heap a o) : Inv X pins σ (upd H a o) s := by
  refine ⟨I.ok, I.os, I.bare, ⟨I.base.keep, I.base.slot, fun b ob e n hx => ?_, I.base.there, fun b xs e => ?_, fun b ob u e => ?_, fun b ps e => ?_⟩, I.loc, I.cell, ?_, fun x c e => ?_, fun p hp' => ?_, fun b u e => ?_, I.len⟩
  · have hb : b ≠ a := by
      rintro rfl
      rcases hs with z | z
      · rw [z] at e; cases e
      · exact hx z
    rw [upd_ne hb]
    exact I.base.free b ob e n hx
  · have q := I.base.tups b xs e
    rw [upd_ne (ne_of_none q hn)]; exact q
  · have q := I.base.frzs b ob u e
    rw [upd_ne (ne_of_none q hn)]; exact q
  · obtain ⟨m, q⟩ := I.base.tbls b ps e
    exact ⟨m, by rw [upd_ne (ne_of_none q hn)]; exact q⟩
  · rw [upd_ne (Ne.symm hL)]; exact I.free
  · rw [upd_ne (hC x c e)]; exact I.freeC x c e
  · obtain ⟨e, n, r⟩ := I.pin p hp'
    exact ⟨e, by rw [upd_ne (hp p hp')]; exact n, r⟩
  · by_cases hb : b = a
    · subst hb; rw [upd_same] at e; cases e; exact new
    · rw [upd_ne hb] at e
      exact (I.hok b u e).stay (fun c v _ q => q) (fun c q => by rw [upd_ne (ne_of_none q hn)]; exact q) fun c xs q => by rw [upd_ne (ne_of_none q hn)]; exact q
theorem Inv.turnedL {t' : Nat} {fp : List Addr} (I : Inv X pins σ H s) (k : ∀ b o, b ∉ fp → s.heap.get? b = some o → h'.get? b = some o) (hf : ∀ b ∈ fp, FpOk X pins H b) : Inv X pins σ H { s with heap := h', toks := t' } := by
  have nit : ∀ b u, H b = some u → b ∉ fp := fun b u e z => by rw [(hf b z).1] at e; cases e
  refine I.step (g' := s.gens) (d' := s.drawn) (ch := fp) (fun b hb => ?_) (fun b o _ _ hc e _ => k b o hc e) (fun b o _ _ hc e _ => ⟨o.slots, k b o hc e⟩) (fun _ _ _ _ n => n)
    (fun b o hc e => ⟨o, k b o hc e⟩) (fun _ _ e => e) (fun _ _ _ e => e) (fun b ps e => ⟨#[], by rw [e]; simp⟩) (fun m hm => ?_) (fun b u e => ?_) I.bare
  · obtain ⟨f0, f1, f2, f3, f4, f5⟩ := hf b hb
    exact ⟨f3, f1, f4, f5⟩
  · obtain ⟨o, es, ep, ho, r⟩ := hm
    exact ⟨o, es, ep, k _ o (fun z => (hf _ z).2.1 rfl) ho, r⟩
  · refine (I.hok b u e).stay (fun c v hc q => k c v ?_ q) (fun _ q => q) fun _ _ q => q
    rcases hc with z | z
    · rw [z]; exact nit b u e
    · exact nit c _ z
end
section
variable {X : Cx} {tg : Expr}
end
section
variable {X : Cx}
end
end L2
set_option Elab.async false
set_option linter.all false
set_option maxRecDepth 100000
set_option maxHeartbeats 4000000
namespace L2
open PySem
noncomputable def closL (env : Env) : List (Str × NameKind) → List (Str × Addr) → List (Str × Addr)
  | [], cs => cs
  | (n, k) :: r, cs => closL env r (if (k == NameKind.free) = true then (n, (env.cells.lookup n).getD 0) :: cs else cs)
theorem closureFor_eq {scope : Scope} {env : Env} (h : ∀ x ∈ scope.names, x.2 = .free → ∃ c, env.cells.lookup x.1 = some c) : closureFor scope env = pure (closL env scope.names []) := by
  unfold closureFor
  have go : ∀ (names : List (Str × NameKind)) (cs : List (Str × Addr)), (∀ x ∈ names, x.2 = .free → ∃ c, env.cells.lookup x.1 = some c) →
      (forIn names cs fun (x : Str × NameKind) (r : List (Str × Addr)) => (match x with
        | (name, kind) => if (kind == NameKind.free) = true then do let a ← cellOf env name; pure (ForInStep.yield ((name, a) :: r)) else pure (ForInStep.yield r) : Sem (ForInStep (List (Str × Addr))))) = pure (closL env names cs) := by
    intro names
    induction names with
    | nil => intro cs _; rfl
    | cons x r ih =>
      intro cs h
      obtain ⟨n, k⟩ := x
      rw [List.forIn_cons]
      have hr := fun y hy => h y (List.mem_cons_of_mem _ hy)
      cases hk : (k == NameKind.free) with
      | false =>
        simp only [hk, Bool.false_eq_true, if_false]
        show (pure (ForInStep.yield cs) >>= _ : Sem _) = _
        simp only [pure_bind]
        rw [ih cs hr]
        simp only [closL, hk, Bool.false_eq_true, if_false]
      | true =>
        obtain ⟨c, hc⟩ := h (n, k) List.mem_cons_self (by simpa using hk)
        have e : cellOf env n = pure c := by unfold cellOf; rw [show env.cells.lookup n = some c from hc]
        simp only [hk, if_true, e, pure_bind]
        rw [ih _ hr]
        simp only [closL, hk, if_true]
        rw [show env.cells.lookup n = some c from hc]
        rfl
  exact congrArg (fun m : Sem (List (Str × Addr)) => m >>= fun r => pure r) (go scope.names [] h)
theorem closL_some {env : Env} {x : Str} {c : Addr} : ∀ {names : List (Str × NameKind)} {cs : List (Str × Addr)}, (closL env names cs).lookup x = some c → cs.lookup x = some c ∨ ((x, NameKind.free) ∈ names ∧ c = (env.cells.lookup x).getD 0)
  | [], _, h => .inl h
  | (n, k) :: r, cs, h => by
    rcases closL_some (names := r) h with q | ⟨q, e⟩
    · cases hk : (k == NameKind.free) with
      | false => rw [hk] at q; exact .inl q
      | true =>
        rw [hk, if_pos rfl] at q
        have hk' : k = NameKind.free := by simpa using hk
        subst hk'
        cases hx : x == n with
        | true =>
          rw [List.lookup_cons, hx] at q
          have e : x = n := by simpa using hx
          subst e
          exact .inr ⟨List.mem_cons_self, (Option.some.inj q).symm⟩
        | false =>
          rw [List.lookup_cons, hx] at q
          exact .inl q
    · exact .inr ⟨List.mem_cons_of_mem _ q, e⟩
theorem closL_has {env : Env} {x : Str} : ∀ {names : List (Str × NameKind)} {cs : List (Str × Addr)}, (x, NameKind.free) ∈ names ∨ (∃ c, cs.lookup x = some c) → ∃ c, (closL env names cs).lookup x = some c
  | [], _, h => by
    rcases h with h | h
    · cases h
    · exact h
  | (n, k) :: r, cs, h => by
    refine closL_has (names := r) ?_
    rcases h with h | ⟨c, h⟩
    · rcases List.mem_cons.mp h with e | e
      · cases e
        refine .inr ⟨(env.cells.lookup x).getD 0, ?_⟩
        rw [if_pos (by rfl), List.lookup_cons]
        simp
      · exact .inl e
    · refine .inr ?_
      cases hk : (k == NameKind.free) with
      | false => exact ⟨c, h⟩
      | true =>
        rw [if_pos rfl, List.lookup_cons]
        cases hx : x == n with
        | true => exact ⟨_, rfl⟩
        | false => exact ⟨c, h⟩
theorem relabel_free {env : Env} (hf : env.scope.kind = .function) : ∀ {names : List (Str × NameKind)} {x : Str}, names.lookup x = some .free → env.kindOf x = some .cell →
    (names.map fun (n, k) => if (k == NameKind.free && env.scope.kind == .function && env.kindOf n == some .cell) then (n, NameKind.cell) else (n, k)).lookup x = some .cell
  | [], _, h, _ => by simp at h
  | (n, k) :: r, x, h, hc => by
    have ih := @relabel_free env hf r x
    show List.lookup x ((if (k == NameKind.free && env.scope.kind == .function && env.kindOf n == some .cell) = true then (n, NameKind.cell) else (n, k)) :: _) = _
    cases hx : x == n with
    | true =>
      have e : x = n := by simpa using hx
      subst e
      simp only [List.lookup_cons, hx] at h
      cases h
      rw [if_pos (by rw [hf, hc]; rfl)]
      simp [List.lookup_cons]
    | false =>
      simp only [List.lookup_cons, hx] at h
      by_cases hc' : (k == NameKind.free && env.scope.kind == .function && env.kindOf n == some .cell) = true
      · rw [if_pos hc']; simp only [List.lookup_cons, hx]; exact ih h hc
      · rw [if_neg hc']; simp only [List.lookup_cons, hx]; exact ih h hc
theorem relabel_back {env : Env} : ∀ {names : List (Str × NameKind)} {x : Str} {k' : NameKind}, (∀ y ∈ names, y.2 ≠ .cell) → (k' = .cell ∨ k' = .free) →
    (names.map fun (n, k) => if (k == NameKind.free && env.scope.kind == .function && env.kindOf n == some .cell) then (n, NameKind.cell) else (n, k)).lookup x = some k' → (x, NameKind.free) ∈ names
  | [], _, _, _, _, h => by simp at h
  | (n, k) :: r, x, k', hn, hk, h => by
    have ih := @relabel_back env r x k' (fun y hy => hn y (List.mem_cons_of_mem _ hy)) hk
    have h' : List.lookup x ((if (k == NameKind.free && env.scope.kind == .function && env.kindOf n == some .cell) = true then (n, NameKind.cell) else (n, k)) :: r.map fun (n, k) => if (k == NameKind.free && env.scope.kind == .function && env.kindOf n == some .cell) then (n, NameKind.cell) else (n, k)) = some k' := h
    have hn0 : k ≠ .cell := hn (n, k) List.mem_cons_self
    by_cases hc' : (k == NameKind.free && env.scope.kind == .function && env.kindOf n == some .cell) = true
    · rw [if_pos hc', List.lookup_cons] at h'
      have hkf : k = .free := by
        rw [Bool.and_eq_true, Bool.and_eq_true] at hc'
        simpa using hc'.1.1
      cases hx : x == n with
      | true =>
        have e : x = n := by simpa using hx
        subst e
        rw [hkf]
        exact List.mem_cons_self
      | false => rw [hx] at h'; exact List.mem_cons_of_mem _ (ih h')
    · rw [if_neg hc', List.lookup_cons] at h'
      cases hx : x == n with
      | true =>
        rw [hx] at h'
        have e : x = n := by simpa using hx
        subst e
        have e2 : k = k' := Option.some.inj h'
        subst e2
        rcases hk with z | z
        · exact absurd z hn0
        · rw [z]; exact List.mem_cons_self
      | false => rw [hx] at h'; exact List.mem_cons_of_mem _ (ih h')
section
variable {prog : Program} {w : World} {A : Around} {R : Result → Shared → Prop} {s : Shared}
theorem compLoop_any {elt target iter : Expr} {ifs : List Expr} {scope : Scope} {pos : Pos} {it acc : Value} {env : Env} (I : Nat → Shared → Prop)
    (turn : ∀ n s, I n s → wpAny (model prog w) A (pyNext it) (fun r s₁ => match r with
      | none => R (.ok .next) s₁
      | some v => wpAny (model prog w) A (letOwnedTupleGo target it v) (fun _ s₀ => wpAny (model prog w) A (assign target env v) (fun _ s₂ =>
          wpAny (model prog w) A (forIn ifs true fun c r => if r = true then do let ok ← isTrue c env (eval c env); pure (ForInStep.yield ok) else pure (ForInStep.yield r)) (fun ok s₃ =>
            if ok = true then wpAny (model prog w) A (eval elt env) (fun x s₄ =>
              wpAny (model prog w) A (call (.builtin "list.append") [acc, x]) (fun _ s₅ => ∃ m, m < n ∧ I m s₅) (fun _ _ => False) s₄) (fun _ _ => False) s₃
            else ∃ m, m < n ∧ I m s₃) (fun _ _ => False) s₂) (fun _ _ => False) s₀) (fun _ _ => False) s₁) (fun _ _ => False) s)
    (n : Nat) (h : I n s) :
    codeAny (model prog w) A (.compLoop (.ListComp elt [⟨target, iter, ifs, 0⟩] scope pos) 0 it acc env) R s := by
  refine codeAny_loop rfl I (fun n s hI => ?_) n h
  show wpAny _ A ((compTurn (.ListComp elt [⟨target, iter, ifs, 0⟩] scope pos) 0 it acc env).onRaise (fun x => do noteFrame x env; theTreesLotGoes x)) _ _ s
  refine wpAny_noted ?_
  rw [compTurn_list]
  refine wpAny_bind (wpAny_standAt (wpAny_bind (wpAny_mono (turn n s hI) (fun r s₁ h₁ => ?_) fun _ _ h' => h'.elim)))
  cases r with
  | none => exact wpAny_pure h₁
  | some v =>
    refine wpAny_bind (wpAny_mono h₁ (fun _ s₀ h₀ => ?_) fun _ _ h' => h'.elim)
    refine wpAny_bind (wpAny_mono h₀ (fun _ s₂ h₂ => wpAny_bind (wpAny_mono h₂ (fun ok s₃ h₃ => ?_) fun _ _ h' => h'.elim)) fun _ _ h' => h'.elim)
    cases ok with
    | false => exact wpAny_pure ⟨rfl, h₃⟩
    | true =>
      exact wpAny_bind (wpAny_bind (wpAny_mono h₃ (fun x s₄ h₄ => wpAny_bind (wpAny_mono h₄ (fun _ s₅ h₅ => wpAny_pure (wpAny_pure ⟨rfl, h₅⟩)) fun _ _ h' => h'.elim)) fun _ _ h' => h'.elim))
end
end L2
namespace L2
open PySem PySem.Spec PyProof.Rows
noncomputable def cxB (X : Cx) (scope : Scope) (N : List Str) (s₀ : Shared) (H₀ : Hp) (ex : List Addr) : Cx :=
  { X with N := N, s₀ := s₀, H₀ := H₀, env := compEnvC scope (closL X.env scope.names []) s₀.heap.objs.size X.env, outer := X.stack, ex := ex, fn := fun _ => false, pn := [], xe := fun _ _ => False }
section
variable {X : Cx} {c : Expr} {t : TT}
noncomputable def PIfs (X : Cx) (ifs : List Expr) (t : TT) : Prop := ∀ (pins : List (Addr × Obj)) (s : Shared) (σ : St) (H : Hp) (Q : Bool → Hp → Prop), Inv X pins σ H s → t σ H Q →
  wpAny (model X.prog X.w) X.A (forIn ifs true fun c r => if r = true then do let ok ← isTrue c X.env (eval c X.env); pure (ForInStep.yield ok) else pure (ForInStep.yield r)) (TP X pins σ Q) X.xe s
noncomputable def tNoIf : TT := fun _ H Q => Q true H
theorem pf_none : PIfs X [] tNoIf := fun _ _ _ H _ I h => wpAny_tests_nil ⟨H, I, h⟩
theorem pf_one (h : PT X c t) : PIfs X [c] t := fun pins s σ H Q I hq => wpAny_tests_one (h pins s σ H Q I hq)
end
noncomputable def GKeep (own : Nat) (g : TG) : Prop := ∀ x σ H Q Q', g x σ H Q → (∀ σ' H', Q σ' H' → σ'.length = σ.length → (∀ j v, own ≤ j → σ[j]? = some (some v) → σ'[j]? = some (some v)) → Q' σ' H') → g x σ H Q'
noncomputable def GKeeps (own : Nat) (g : TGs) : Prop := ∀ xs σ H Q Q', g xs σ H Q → (∀ σ' H', Q σ' H' → σ'.length = σ.length → (∀ j v, own ≤ j → σ[j]? = some (some v) → σ'[j]? = some (some v)) → Q' σ' H') → g xs σ H Q'
theorem gk_name {own i : Nat} (hi : i < own) : GKeep own (gName i) := fun x σ H Q Q' h k => k _ H h (by simp) fun j v hj e => by rw [List.getElem?_set_ne (by (clear e; omega))]; exact e
theorem gks_nil {own : Nat} : GKeeps own gNil := fun xs σ H Q Q' ⟨e, h⟩ k => ⟨e, k σ H h rfl fun _ _ _ e => e⟩
theorem gks_cons {own : Nat} {t : TG} {u : TGs} (h1 : GKeep own t) (h2 : GKeeps own u) : GKeeps own (gCons t u) := fun xs σ H Q Q' ⟨v, r, e, h⟩ k =>
  ⟨v, r, e, h1 v σ H _ _ h fun σ' H' q l1 k1 => h2 r σ' H' _ _ q fun σ'' H'' q2 l2 k2 => k σ'' H'' q2 (l2.trans l1) fun j w hj e => k2 j w hj (k1 j w hj e)⟩
theorem gk_tup {own n : Nat} {K : PySem.W.Frag} {t : TGs} (h : GKeeps own t) : GKeep own (gTup K n t) := fun x σ H Q Q' ⟨a, xs, e, hq, hl, q⟩ k => ⟨a, xs, e, hq, hl, h xs σ H Q Q' q k⟩
noncomputable def st0 (own : Nat) (caps : List Nat) (σ : St) : St := List.replicate own none ++ caps.map fun j => (σ[j]?).join
noncomputable def CompR (J : It) (g : TG) (tc : TT) (te : TE) (σ0 : St) (Q : VK) (H : Hp) : Prop :=
    ∃ W : Nat → Nat → List V → Hp → Prop, (∃ m, W 0 m [] H) ∧ ∀ i m ys H, W i m ys H →
      (J.stop i H ∧ ys.length ≤ sizeLine ∧ ∀ p, H p = none → Q (.ref p) (upd H p (.lst ys))) ∨
      (J.go i H ∧ ys.length < sizeLine ∧ ∀ x H', J.yld i H x H' → g x σ0 H' fun σ2 H2 => tc σ2 H2 fun b H3 =>
        if b = true then te σ2 H3 fun y H4 => ∃ m', m' < m ∧ W (i + 1) m' (ys ++ [y]) H4 else ∃ m', m' < m ∧ W (i + 1) m' ys H3)
noncomputable def tComp (own : Nat) (caps : List Nat) (wi : TI) (g : TG) (tc : TT) (te : TE) : TE := fun σ H Q => wi σ H fun J H1 => CompR J g tc te (st0 own caps σ) Q H1
theorem mem1 {a : Addr} {o : Obj} : ∀ p ∈ [(a, o)], p.1 = a := fun p hp => by rw [List.mem_singleton.mp hp]
section
variable {X : Cx}
theorem comp_end {scope : Scope} {N : List Str} {pins : List (Addr × Obj)} {σ σ' : St} {H2 He : Hp} {s2 s1 : Shared} {hp h' : Heap} {fp : List Addr} {ys : List V} {its : List Value} {na : Nat} {lo : Obj}
    (I2 : Inv X pins σ H2 s2) (f2 : ∀ b ∈ fp, FpOk X pins H2 b) (ehp : hp = s2.heap.push lo)
    (J : Inv (cxB X scope N { s2 with heap := hp } H2 (s2.heap.objs.size :: fp)) [(s2.heap.objs.size, { cls := .type "list", data := .seq its.toArray na })] σ' He s1)
    (hsb : Heap.SameBut hp.objs.size s1.heap h') (hv : Vals ys its) (hz : ys.length ≤ sizeLine) :
    Inv X pins σ (upd He s2.heap.objs.size (.lst ys)) { s1 with heap := h' } := by
  have hC : hp.objs.size = s2.heap.objs.size + 1 := by rw [ehp, Heap.size_push]
  have below : ∀ {b : Addr} {o : Obj}, s2.heap.get? b = some o → b ≠ hp.objs.size ∧ b ≠ s2.heap.objs.size := fun {b o} e => by
    have q := Heap.lt_size e
    exact ⟨by rw [hC]; exact Nat.ne_of_lt (Nat.lt_succ_of_lt q), Nat.ne_of_lt q⟩
  have up : ∀ {b : Addr} {o : Obj}, s2.heap.get? b = some o → hp.get? b = some o := fun e => by rw [ehp]; exact Heap.get?_push_of_some _ e
  have un : Un (frs X.stack) (s2.heap.objs.size :: fp) H2 He hp s1.heap := J.base
  have nD : ∀ {b : Addr} {o : Obj}, s2.heap.get? b = some o → b ∉ fp → b ∉ s2.heap.objs.size :: fp := fun e hx z => (List.mem_cons.mp z).elim (below e).2 hx
  have hfree : He hp.objs.size = none := J.free
  have u2 : Un (frs X.stack) fp H2 He s2.heap h' := by
    refine ⟨fun b o e n hb hx => ?_, fun b o e n hb hx => ?_, fun b o e n hx => ?_, fun b o e hx => ?_, un.tups, un.frzs, un.tbls⟩
    · exact (hsb.2 b (below e).1).trans (un.keep b o (up e) n hb (nD e hx))
    · obtain ⟨sl, q⟩ := un.slot b o (up e) n hb (nD e hx)
      exact ⟨sl, (hsb.2 b (below e).1).trans q⟩
    · exact un.free b o (up e) n (nD e hx)
    · obtain ⟨o', q⟩ := un.there b o (up e) (nD e hx)
      exact ⟨o', (hsb.2 b (below e).1).trans q⟩
  have hok : HOk X.prog X.w He h' := fun b u e => by
    refine (J.hok b u e).stay (fun c v hc q => (hsb.2 c ?_).trans q) (fun _ q => q) fun _ _ q => q
    rintro rfl
    rcases hc with z | z
    · rw [← z, hfree] at e; cases e
    · rw [hfree] at z; cases z
  have I3 : Inv X pins σ He { s1 with heap := h' } := I2.call' (s' := { s1 with heap := h' }) (ch := fp) J.os u2 hok J.bare fun b hb => by
    obtain ⟨f0, f1, f3, f4, f5, f6⟩ := f2 b hb
    exact ⟨f4, f1, f5, f6⟩
  obtain ⟨pe, pn, _⟩ := J.pin _ (List.mem_append_right _ List.mem_cons_self)
  refine I3.track (.inl (Heap.get?_none_of_le I2.sz)) pn (Nat.ne_of_gt I2.lt) (fun y c' q z => ?_) (fun p hp' z => ?_) ?_
  · obtain ⟨v, q'⟩ := I2.cell y c' q
    exact absurd q'.lt (by rw [z]; exact Nat.lt_irrefl _)
  · exact absurd (Heap.lt_size (I2.pin p hp').1) (by rw [z]; exact Nat.lt_irrefl _)
  · exact ⟨hz, its, na, hv, (hsb.2 _ (by rw [hC]; exact Nat.ne_of_lt (Nat.lt_succ_self _))).trans pe⟩
theorem comp_core {elt target iter : Expr} {ifs : List Expr} {scope sc0 : Scope} {pos : Pos} {N N0 : List Str} {own : Nat} {caps : List Nat} {wi : TI} {g : TG} {tc : TT} {te : TE}
    (hcalm : X.calm = true) (hi : PI X target iter wi)
    (hg : ∀ s₀ H₀ ex, PG (cxB X scope N s₀ H₀ ex) target g) (hc : ∀ s₀ H₀ ex, PIfs (cxB X scope N s₀ H₀ ex) ifs tc) (he : ∀ s₀ H₀ ex, PE (cxB X scope N s₀ H₀ ex) elt te) (hk : GKeep own g)
    (hX : X.N = N0) (hsc : X.env.scope = sc0)
    (hcell : ∀ y ∈ scope.names, y.2 ≠ .cell) (hkind : scope.kind = .function) (hnames : ∀ y ∈ scope.names, y.2 = .local → scope.names.lookup y.1 = some .local)
    (hfree : ∀ y ∈ scope.names, y.2 = .free → sc0.names.lookup y.1 = some .cell) (hN : N.length = own + caps.length)
    (hcap : ∀ p ∈ caps.zip (N.drop own), N0[p.1]? = some p.2 ∧ scope.names.lookup p.2 = some .free)
    (hs : ∀ x, foldedSetIterable iter X.env x = pure x)
    {use : Option (Value → Sem Unit)} {Qf : Value → Shared → Prop} {pins : List (Addr × Obj)} {s : Shared} {σ : St} {H : Hp} {Q : VK} {cpos : Pos} (I : Inv X pins σ H s) (h : tComp own caps wi g tc te σ H Q)
    (hR : ∀ (D C : Addr) (s' : Shared) (He : Hp) (ys : List V) (m : Str → Option Value) (f : Flow), s'.heap.Ns C m → (∀ h', Heap.SameBut C s'.heap h' → Inv X pins σ (upd He D (.lst ys)) { s' with heap := h' }) →
      FpOk X pins (upd He D (.lst ys)) C → Q (.ref D) (upd He D (.lst ys)) → compPost (model X.prog X.w) X.A X.xe use Qf (.ref D) C (.ok f) s') :
    wpAny (model X.prog X.w) X.A (comprehension (.ListComp elt [⟨target, iter, ifs, 0⟩] scope pos) scope X.env cpos (newList []) false (eval iter X.env) use) Qf X.xe s := by
  have hcellOf : ∀ y ∈ scope.names, y.2 = .free → X.env.kindOf y.1 = some .cell := fun y hy e => by
    show X.env.scope.names.lookup y.1 = some .cell
    rw [hsc]; exact hfree y hy e
  refine wpAny_comprehension_free (use := use) rfl hs (closureFor_eq fun y hy e => I.ok.has y.1 (.inl (hcellOf y hy e))) hkind hnames ?_
  refine thn (hi pins s σ H _ I h) fun v s1 h1 => thn h1 fun itv s2 h2 => ?_
  obtain ⟨it, fp, tn, J, H2, e, I2, T, st2, f2, W, ⟨m0, w0⟩, turn⟩ := h2
  subst e
  refine wpAny_newObj_type (wpAny_newFunctionEnv hcell (by intro y hy; simp at hy) (fun h₁ hns₁ hsb₁ => ?_) hkind)
  dsimp only at hns₁ hsb₁ ⊢
  generalize ehp : s2.heap.push { cls := .type "list", dict := none, data := .seq ([] : List Value).toArray } = hp at hns₁ hsb₁ ⊢
  have hC : hp.objs.size = s2.heap.objs.size + 1 := by rw [← ehp, Heap.size_push]
  have hDC : s2.heap.objs.size ≠ hp.objs.size := by rw [hC]; exact Nat.ne_of_lt (Nat.lt_succ_self _)
  have hD0 : hp.get? s2.heap.objs.size = some { cls := .type "list", data := .seq ([] : List Value).toArray } := by rw [← ehp]; exact Heap.get?_push_size _ rfl
  have up : ∀ {b : Addr} {o : Obj}, s2.heap.get? b = some o → hp.get? b = some o := fun e => by rw [← ehp]; exact Heap.get?_push_of_some _ e
  have up1 : ∀ {b : Addr} {o : Obj}, hp.get? b = some o → h₁.get? b = some o := fun {b o} e => hsb₁.extBut b o (Nat.ne_of_lt (Heap.lt_size e)) (Heap.get?_push_of_some _ e)
  have hlt2 : ∀ {b : Addr} {o : Obj}, s2.heap.get? b = some o → b < s2.heap.objs.size := fun e => Heap.lt_size e
  have fpo : ∀ b ∈ fp, ∃ o, s2.heap.get? b = some o := fun b hb => by obtain ⟨o, e, _⟩ := T.obj 0 _ st2 b hb; exact ⟨o, e⟩
  have fpC : ∀ b ∈ fp, b ≠ hp.objs.size ∧ b ≠ s2.heap.objs.size := fun b hb => by
    obtain ⟨o, e⟩ := fpo b hb
    have q := hlt2 e
    exact ⟨by rw [hC]; exact Nat.ne_of_lt (Nat.lt_succ_of_lt q), Nat.ne_of_lt q⟩
  have clos : ∀ {x : Str} {c : Addr}, (closL X.env scope.names []).lookup x = some c → X.env.cells.lookup x = some c ∧ X.env.kindOf x = some .cell := fun {x c} q => by
    rcases closL_some q with z | ⟨z, e⟩
    · cases z
    · have k := hcellOf _ z rfl
      obtain ⟨c', hc'⟩ := I2.ok.has x (.inl k)
      rw [hc'] at e
      have e' : c = c' := e
      subst e'
      exact ⟨hc', k⟩
  have cellLt : ∀ {x : Str} {c : Addr}, (closL X.env scope.names []).lookup x = some c → c < s2.heap.objs.size := fun q => by
    obtain ⟨v, z⟩ := I2.cell _ _ (clos q).1
    exact z.lt
  have stkLt : ∀ b ∈ frs X.stack, b < s2.heap.objs.size := fun b hb => by
    obtain ⟨_, o, ho, _⟩ := I2.stack.mem hb
    exact Heap.lt_size ho
  have ok' : (cxB X scope N { s2 with heap := hp } H2 (s2.heap.objs.size :: fp)).Ok := by
    refine ⟨I2.ok.mod, hkind, I2.ok.glob, I2.ok.blt, Nat.le_refl _, fun x y c q1 q2 => I2.ok.inj x y c (clos q1).1 (clos q2).1, fun x hx => ?_, (fun x c z => by cases z), I2.ok.hd, I2.ok.frames, .inl rfl, fun b hb => ?_, fun b o q => ⟨up (I2.bs b o q).1, (I2.bs b o q).2⟩, ?_, fun b o q hb => ?_, fun b hb => ?_, ?_, fun b hb => I2.stkFree b hb⟩
    · rcases hx with hx | hx
      · exact closL_has (.inl (relabel_back (env := X.env) hcell (.inl rfl) hx))
      · exact closL_has (.inl (relabel_back (env := X.env) hcell (.inr rfl) hx))
    · rcases List.mem_cons.mp hb with rfl | hb
      · exact ⟨by show s2.heap.objs.size ≠ hp.objs.size; exact hDC, fun x c q => Nat.ne_of_lt (cellLt q)⟩
      · exact ⟨(fpC b hb).1, fun x c q => (f2 b hb).2.2.2.2.1 x c (clos q).1⟩
    · show X.base.objs.size ≤ hp.objs.size
      rw [hC]
      exact Nat.le_succ_of_le (Nat.le_trans I2.ok.bsz I2.sz)
    · rcases List.mem_cons.mp hb with rfl | hb
      · exact Nat.lt_irrefl _ (hlt2 (I2.bs _ o q).1)
      · rcases (f2 b hb).2.2.2.1 with z | z
        · exact I2.ok.noex b o q z
        · exact Nat.lt_irrefl _ (Nat.lt_of_lt_of_le (Heap.lt_size (I2.ok.bs b o q).1) z)
    · intro z
      rcases List.mem_cons.mp hb with rfl | hb
      · exact Nat.lt_irrefl _ (stkLt _ z)
      · rcases List.mem_cons.mp (I2.stkSub b z) with q | q
        · exact (f2 b hb).2.1 q
        · exact (f2 b hb).2.2.1 q
    · show hp.FunFrames X.base X.stack
      exact I2.stack.of_keeps fun b o q _ => ⟨o, up q, rfl⟩
  have len0 : (st0 own caps σ).length = N.length := by unfold st0; rw [List.length_append, List.length_replicate, List.length_map, hN]
  have I0 : Inv (cxB X scope N { s2 with heap := hp } H2 (s2.heap.objs.size :: fp)) [] (st0 own caps σ) H2 { s2 with heap := h₁, toks := s2.toks + ([] : List (Str × Value)).length } := by
    refine ⟨ok', rfl, I2.bare, Un.kept fun b o q => up1 q, ⟨_, hns₁, fun i x v e1 e2 e3 => ?_⟩, fun x c q => ?_, I2.hok.fresh (by show s2.heap.objs.size ≤ hp.objs.size; rw [hC]; exact Nat.le_succ _), fun x c q => I2.freeC x c (clos q).1, fun p hp' => absurd (show p ∈ ([] : List (Addr × Obj)) from hp') (by simp), I2.hok.kept fun b o q => up1 (up q), len0⟩
    ·
      unfold st0 at e2
      by_cases hi' : i < own
      · rw [List.getElem?_append_left (by simpa using hi'), List.getElem?_replicate] at e2
        split at e2 <;> cases e2
      · rw [List.getElem?_append_right (by simpa using hi'), List.length_replicate, List.getElem?_map] at e2
        cases ec : caps[i - own]? with
        | none => rw [ec] at e2; cases e2
        | some j =>
          rw [ec] at e2
          have e2' : (σ[j]?).join = some v := Option.some.inj e2
          have hσ : σ[j]? = some (some v) := by
            cases q : σ[j]? with
            | none => rw [q] at e2'; cases e2'
            | some z => rw [q] at e2'; exact congrArg some e2'
          have hx : (N.drop own)[i - own]? = some x := by
            rw [List.getElem?_drop]
            have : own + (i - own) = i := by (clear hσ e2' ec e2 e1 len0 hD0 hDC hC ehp hN hkind hsc hX hcalm; omega)
            rw [this]; exact e1
          have hz : (caps.zip (N.drop own))[i - own]? = some (j, x) := by
            rw [List.getElem?_zip_eq_some]; exact ⟨ec, hx⟩
          obtain ⟨hj, hf⟩ := hcap _ (List.mem_of_getElem? hz)
          rw [← hX] at hj
          have hfm : (x, NameKind.free) ∈ scope.names := PySem.mem_of_lookup hf
          have hk1 := hcellOf _ hfm rfl
          obtain ⟨m, hn, hl⟩ := I2.loc
          obtain ⟨u, ru, lk⟩ := hl j x v hj hσ (.inr (.inl hk1))
          refine ⟨u, ru, .inr ⟨.inl (relabel_free I2.ok.kind hf hk1), ?_⟩⟩
          obtain ⟨c, hc'⟩ := closL_has (env := X.env) (cs := []) (.inl hfm)
          have hc2 := (clos hc').1
          rcases lk with ⟨z, _⟩ | ⟨_, c2, hc3, hcell'⟩
          · rw [hk1] at z; cases z
          · rw [hc2] at hc3
            cases hc3
            obtain ⟨oc, hoc, hod⟩ := hcell'
            exact ⟨c, hc', oc, up1 (up hoc), hod⟩
    · obtain ⟨v, oc, hoc, hod⟩ := I2.cell x c (clos q).1
      exact ⟨v, oc, up1 (up hoc), hod⟩
  have pinD : ∀ {σ' : St} {H' : Hp} {s' : Shared} {its : List Value} {na : Nat}, Inv (cxB X scope N { s2 with heap := hp } H2 (s2.heap.objs.size :: fp)) [] σ' H' s' → H' s2.heap.objs.size = none →
      s'.heap.get? s2.heap.objs.size = some { cls := .type "list", data := .seq its.toArray na } →
      Inv (cxB X scope N { s2 with heap := hp } H2 (s2.heap.objs.size :: fp)) [(s2.heap.objs.size, { cls := .type "list", data := .seq its.toArray na })] σ' H' s' := fun {σ' H' s' its na} I' hn hd => I'.pins_of fun p hp' => by
    have e : p = (s2.heap.objs.size, { cls := .type "list", data := .seq its.toArray na }) := by simpa using hp'
    subst e
    exact ⟨hd, hn, hDC, fun z => Nat.lt_irrefl _ (stkLt _ z), fun v z => nomatch z⟩
  have fpD : ∀ {H' : Hp} {pl : List (Addr × Obj)}, (∀ b ∈ fp, H' b = none) → (∀ p ∈ pl, p.1 = s2.heap.objs.size) → ∀ b ∈ fp, FpOk (cxB X scope N { s2 with heap := hp } H2 (s2.heap.objs.size :: fp)) pl H' b := fun hn hpl b hb => by
    refine ⟨hn b hb, (fpC b hb).1, fun z => ?_, .inl (List.mem_cons_of_mem _ hb), fun x c q => (f2 b hb).2.2.2.2.1 x c (clos q).1, fun p hp' z => ?_⟩
    · rcases List.mem_cons.mp (I2.stkSub b z) with q | q
      · exact (f2 b hb).2.1 q
      · exact (f2 b hb).2.2.1 q
    · exact (fpC b hb).2 (z.symm.trans (hpl p hp'))
  have loop : ∀ s₃ : Shared, s₃ = { s2 with heap := h₁, toks := s2.toks + ([] : List (Str × Value)).length } →
      codeAny (model X.prog X.w) X.A (.compLoop (.ListComp elt [⟨target, iter, ifs, 0⟩] scope pos) 0 (.ref it) (.ref s2.heap.objs.size) (compEnvC scope (closL X.env scope.names []) hp.objs.size X.env))
        (compPost (model X.prog X.w) X.A X.xe use Qf (.ref s2.heap.objs.size) hp.objs.size) s₃ := by
    rintro s₃ rfl
    refine compLoop_any (fun n s' => ∃ i ys its na H', Inv (cxB X scope N { s2 with heap := hp } H2 (s2.heap.objs.size :: fp)) [] (st0 own caps σ) H' s' ∧ tn i s'.heap ∧ (∀ b ∈ fp, H' b = none) ∧ H' s2.heap.objs.size = none ∧
      Vals ys its ∧ s'.heap.get? s2.heap.objs.size = some { cls := .type "list", data := .seq its.toArray na } ∧ W i n ys H') ?_ m0
      ⟨0, [], [], 0, H2, I0, T.keep _ _ _ st2 fun b _ o q => up1 (up q), fun b hb => (f2 b hb).1, I2.hok.fresh (Nat.le_refl _), .nil, up1 hD0, w0⟩
    rintro n s3 ⟨i, ys, its, na, H3, I3, st3, fr3, nD3, rv3, hd3, w3⟩
    have Ip := pinD I3 nD3 hd3
    have f3 := fpD (H' := H3) (pl := [(s2.heap.objs.size, { cls := .type "list", data := .seq its.toArray na })]) fr3 mem1
    rcases turn i n ys H3 w3 with ⟨stop, hz, fin⟩ | ⟨go, hz, step⟩
    · refine thn (T.done (cxB X scope N { s2 with heap := hp } H2 (s2.heap.objs.size :: fp)) rfl rfl rfl hcalm i _ s3 _ H3 _ Ip f3 st3 stop) fun r s4 ⟨hr, I4⟩ => ?_
      subst hr
      obtain ⟨m, hn, _⟩ := I4.loc
      exact hR _ _ _ _ ys m _ hn (fun h' hsb => comp_end I2 f2 ehp.symm I4 hsb rv3 hz) (I2.fpOk (by rw [hC]; exact Nat.le_succ _) (by rw [upd_ne (Ne.symm hDC)]; exact I4.free)) (fin _ (I4.pin _ (List.mem_append_right _ List.mem_cons_self)).2.1)
    · refine thn (T.item (cxB X scope N { s2 with heap := hp } H2 (s2.heap.objs.size :: fp)) rfl rfl rfl hcalm i _ s3 _ H3 _ Ip f3 st3 go) fun r s4 ⟨u, hr, h4⟩ => ?_
      subst hr
      refine thn h4 fun _ s5 ⟨x, H5, I5, r5, y5, st5, fr5⟩ => ?_
      have I5' := I5.pinned (fpD (H' := H5) (pl := [(s2.heap.objs.size, { cls := .type "list", data := .seq its.toArray na })]) fr5 mem1) (T.obj _ _ st5)
      refine thn (hg _ _ _ _ s5 _ H5 x u _ I5' r5 (hk x _ H5 _ _ (step x H5 y5) fun σ' H' q l k => (⟨q, l, k⟩ : _ ∧ _ ∧ _))) fun _ s6 ⟨σ6, H6, I6, q6, l6, k6⟩ => ?_
      refine thn (hc _ _ _ _ s6 σ6 H6 _ I6 q6) fun ok s7 ⟨H7, I7, q7⟩ => ?_
      have weak : ∀ {H' : Hp} {s' : Shared} {pl : List (Addr × Obj)}, Inv (cxB X scope N { s2 with heap := hp } H2 (s2.heap.objs.size :: fp)) pl σ6 H' s' → Inv (cxB X scope N { s2 with heap := hp } H2 (s2.heap.objs.size :: fp)) pl (st0 own caps σ) H' s' := fun I' =>
        I'.weak l6.symm fun j v e => k6 j v (by
          by_cases hj : j < own
          · unfold st0 at e
            rw [List.getElem?_append_left (by simpa using hj), List.getElem?_replicate] at e
            split at e <;> cases e
          · (clear e l6 hz hd3 nD3 len0 hD0 hDC hC ehp hN hkind hsc hX hcalm; omega)) e
      have after : ∀ {H' : Hp} {s' : Shared}, Inv (cxB X scope N { s2 with heap := hp } H2 (s2.heap.objs.size :: fp)) ([(s2.heap.objs.size, { cls := .type "list", data := .seq its.toArray na })] ++ pinsAt fp s5.heap) σ6 H' s' →
          tn (i + 1) s'.heap ∧ (∀ b ∈ fp, H' b = none) ∧ H' s2.heap.objs.size = none ∧ s'.heap.get? s2.heap.objs.size = some { cls := .type "list", data := .seq its.toArray na } := fun I' => by
        refine ⟨T.keep _ _ _ st5 fun b hb o e => (I'.pin (b, o) (List.mem_append_right _ (List.mem_append_right _ (mem_pinsAt hb e)))).1, fun b hb => ?_, ?_, ?_⟩
        · obtain ⟨o, e, d⟩ := T.obj _ _ st5 b hb
          exact (I'.pin (b, o) (List.mem_append_right _ (List.mem_append_right _ (mem_pinsAt hb e)))).2.1
        · exact (I'.pin _ (List.mem_append_right _ (List.mem_append_left _ List.mem_cons_self))).2.1
        · exact (I'.pin _ (List.mem_append_right _ (List.mem_append_left _ List.mem_cons_self))).1
      cases ok with
      | false =>
        rw [if_neg Bool.false_ne_true]
        obtain ⟨m', hm, w7⟩ := (show ∃ m', m' < n ∧ W (i + 1) m' ys H7 by rw [if_neg Bool.false_ne_true] at q7; exact q7)
        obtain ⟨a1, a2, a3, a4⟩ := after I7
        exact ⟨m', hm, i + 1, ys, its, na, H7, (weak I7).pins_of (fun p hp' => absurd hp' (by simp)), a1, a2, a3, rv3, a4, w7⟩
      | true =>
        rw [if_pos rfl]
        rw [if_pos rfl] at q7
        refine thn (he _ _ _ _ s7 σ6 H7 _ I7 q7) fun yv s8 ⟨y, H8, I8, r8, m', hm, w8⟩ => ?_
        obtain ⟨a1, a2, a3, a4⟩ := after I8
        have hl := rv3.length
        refine call_meets F.slot_list_append ⟨_, a4, rfl⟩ F.entry_list_append (F.args_list_append_2 _ _) (PySem.list_append s2.heap.objs.size its.toArray na yv (by rw [List.size_toArray]; (clear a4 a3 hm l6 hd3 nD3 len0 hD0 hDC hC ehp hN hkind hsc hX hcalm; omega))) ⟨a4, ?_⟩
        have I9 : Inv (cxB X scope N { s2 with heap := hp } H2 (s2.heap.objs.size :: fp)) [] (st0 own caps σ) H8 s8 := (weak I8).pins_of (fun p hp' => absurd hp' (by simp))
        have q : (s8.heap.update s2.heap.objs.size (Obj.mapSeq (·.push yv))).get? s2.heap.objs.size = some { cls := .type "list", data := .seq (its ++ [yv]).toArray (na + 1) } := by
          have q := PySem.IsL.update a4 (·.push yv)
          simpa using q
        refine ⟨m', hm, i + 1, ys ++ [y], its ++ [yv], na + 1, H8, I9.turned (it := s2.heap.objs.size) (t' := s8.toks) (fun b o hb e => ?_) a3 (hDC) (.inl List.mem_cons_self) (fun x c z => Nat.ne_of_lt (cellLt z)) (fun p hp' => absurd (show p ∈ ([] : List (Addr × Obj)) from hp') (by simp)), ?_, a2, a3, rv3.append (.cons r8 .nil), q, w8⟩
        · rw [Heap.get?_update_other _ _ (Ne.symm hb)]; exact e
        · exact T.keep _ _ _ a1 fun b hb o e => by rw [Heap.get?_update_other _ _ (Ne.symm (fpC b hb).2)]; exact e
  exact codeAny_compStart_list (loop _ rfl) (T.self _ 0 _ _ _ (T.keep _ _ _ st2 fun b _ o q => up1 (up q)) (loop _ rfl))
theorem pe_comp {elt target iter : Expr} {ifs : List Expr} {scope sc0 : Scope} {pos : Pos} {N N0 : List Str} {own : Nat} {caps : List Nat} {wi : TI} {g : TG} {tc : TT} {te : TE}
    (hcalm : X.calm = true) (hi : PI X target iter wi)
    (hg : ∀ s₀ H₀ ex, PG (cxB X scope N s₀ H₀ ex) target g) (hc : ∀ s₀ H₀ ex, PIfs (cxB X scope N s₀ H₀ ex) ifs tc) (he : ∀ s₀ H₀ ex, PE (cxB X scope N s₀ H₀ ex) elt te) (hk : GKeep own g)
    (hX : X.N = N0) (hsc : X.env.scope = sc0)
    (hcell : ∀ y ∈ scope.names, y.2 ≠ .cell) (hkind : scope.kind = .function) (hnames : ∀ y ∈ scope.names, y.2 = .local → scope.names.lookup y.1 = some .local)
    (hfree : ∀ y ∈ scope.names, y.2 = .free → sc0.names.lookup y.1 = some .cell) (hN : N.length = own + caps.length)
    (hcap : ∀ p ∈ caps.zip (N.drop own), N0[p.1]? = some p.2 ∧ scope.names.lookup p.2 = some .free)
    (hs : ∀ x, foldedSetIterable iter X.env x = pure x := by intro _; rfl) :
    PE X (.ListComp elt [⟨target, iter, ifs, 0⟩] scope pos) (tComp own caps wi g tc te) := by
  intro pins s σ H Q I h
  rw [eval_ListComp]
  exact comp_core hcalm hi hg hc he hk hX hsc hcell hkind hnames hfree hN hcap hs I h fun D C s' He ys m f hn hI _ q => ⟨m, hn, fun h' hsb => ⟨.ref D, _, hI h' hsb, rfl, q⟩⟩
end
end L2
set_option Elab.async false
set_option linter.all false
set_option maxRecDepth 100000
set_option maxHeartbeats 4000000
namespace L2
open PySem PySem.Spec PyProof.Rows
theorem ObjOk.at {P : Program} {w : World} {H : Hp} {h : Heap} {a : Addr} {o : HO} (x : ObjOk P w H h a o) : ∃ ob, h.get? a = some ob := by
  cases o with
  | lst xs => obtain ⟨_, _, _, _, e⟩ := x; exact ⟨_, e⟩
  | tup xs => obtain ⟨_, _, _, ob, e, _⟩ := x; exact ⟨_, e⟩
  | dK kvs => obtain ⟨_, _, _, _, o, _, _, e, _⟩ := x; exact ⟨_, e⟩
  | dT kvs => obtain ⟨_, _, _, _, o, _, _, e, _⟩ := x; exact ⟨_, e⟩
  | set S n => obtain ⟨o, _, _, _, e, _⟩ := x; exact ⟨_, e⟩
  | ins C dx fs => obtain ⟨_, _, _, e, _⟩ := x; exact ⟨_, e⟩
  | own y => obtain ⟨_, e⟩ := x; exact ⟨_, e⟩
  | xd fs => obtain ⟨_, ⟨_, _, _, e, _⟩, _⟩ := x; exact ⟨_, e⟩
  | rng lo hi => obtain ⟨_, _, _, e⟩ := x; exact ⟨_, e⟩
  | frz ob u => obtain ⟨e, _⟩ := x; exact ⟨_, e⟩
  | tbl ps => exact ⟨_, show h.get? a = some _ from x⟩
  | met f y => exact ⟨_, show h.get? a = some _ from x⟩
  | ext φ => obtain ⟨_, ⟨_, e⟩, _⟩ := x; exact ⟨_, e⟩
noncomputable def CX1 (P : Program) (w : World) : CXT := fun outer H s E e s' => ∃ (ea : Addr) (cls a0 : Value) (B : Heap) (H' : Hp),
  e = .ref ea ∧ s'.os = s.os ∧ AllBare s'.gens ∧ Un (frs outer) [] H H' s.heap s'.heap ∧ HOk P w H' s'.heap ∧ Heap.FlyingW B outer ea cls a0 s'.heap ∧
  (∀ b o, s.heap.get? b = some o → H b = none → b ∉ frs outer → B.get? b = some o) ∧ (∀ b o, s.heap.get? b = some o → b ∉ frs outer → ∃ o', B.get? b = some o') ∧
  (∀ b u, H' b = some u → ∃ o, B.get? b = some o) ∧ E cls none H'
theorem CX1.no {P : Program} {w : World} {outer : List Env} {H : Hp} {s s' : Shared} {e : Value} (h : CX1 P w outer H s (fun _ _ _ => False) e s') : False := by
  obtain ⟨_, _, _, _, _, _, _, _, _, _, _, _, _, _, z⟩ := h
  exact z
theorem un_fly {fs : List Addr} {H H' : Hp} {h h1 h2 B base : Heap} {outer : List Env} (hfs : fs = frs outer) (u : Un fs [] H H' h h1) (k1 : ∀ b o, h.get? b = some o → H b = none → b ∉ fs → B.get? b = some o)
    (k3 : ∀ b o, h.get? b = some o → b ∉ fs → ∃ o', B.get? b = some o') (ff : h1.FunFrames base outer) (st : B.StaysIn h2) (up : h1.UpToSlots h2) : Un fs [] H H' h h2 := by
  have fr : ∀ b ∈ fs, ∀ o, h1.get? b = some o → ∃ sl, h2.get? b = some { o with slots := sl } := fun b hb o e => by
    rw [hfs] at hb
    obtain ⟨_, o', e', nf⟩ := ff.mem hb
    rw [e] at e'; cases e'
    exact up b o e nf
  refine ⟨fun b o e n hb _ => st b o (k1 b o e n hb), fun b o e n hb hx => ?_, u.free, fun b o e hx => ?_, u.tups, u.frzs, u.tbls⟩
  · obtain ⟨sl, e1⟩ := u.slot b o e n hb hx
    obtain ⟨sl', e2⟩ := fr b hb _ e1
    exact ⟨sl', e2⟩
  · by_cases hb : b ∈ fs
    · obtain ⟨o1, e1⟩ := u.there b o e hx
      obtain ⟨sl, e2⟩ := fr b hb _ e1
      exact ⟨_, e2⟩
    · obtain ⟨o', e'⟩ := k3 b o e hb
      exact ⟨o', st b o' e'⟩
theorem hok_fly {P : Program} {w : World} {H : Hp} {h1 h2 B : Heap} (x : HOk P w H h1) (k2 : ∀ b u, H b = some u → ∃ o, B.get? b = some o) (s1 : B.StaysIn h1) (s2 : B.StaysIn h2) : HOk P w H h2 := fun b u e => by
  refine (x b u e).stay (fun c v hc q => ?_) (fun _ q => q) fun _ _ q => q
  have ht : ∃ z, H c = some z := by
    rcases hc with z | z
    · subst z; exact ⟨u, e⟩
    · exact ⟨_, z⟩
  obtain ⟨z, ez⟩ := ht
  obtain ⟨o, eo⟩ := k2 c z ez
  have := s1 c o eo
  rw [q] at this; cases this
  exact s2 c v eo
section
variable {P : Program} {w : World} {K : PySem.W.Frag} {mg : Str → Option Value} {base : Heap} {N : List Str} {qual : Str} {scope : Scope} {f : Addr} {cdv : Value} {A : Around} {outer : List Env} {s₀ : Shared} {H₀ : Hp} {E E' : XK}
noncomputable def Raises (X : Cx) (E : XK) : Prop := ∀ (pins : List (Addr × Obj)) (σ : St) (H : Hp) (s : Shared) (h' : Heap) (ea : Addr) (cls : Value) (args : List Value), Inv X pins σ H s → Heap.MadeExcOf s.heap h' ea cls args → E cls none H → X.xe (.ref ea) { s with heap := h' }
theorem raise_out : Raises (cxOf (CX1 P w) P w K mg base N qual scope f cdv A outer s₀ H₀ E) E := by
  intro pins σ H s h' ea cls args I hx hE
  have stk := I.stack
  have hin : ∀ env ∈ (cxOf (CX1 P w) P w K mg base N qual scope f cdv A outer s₀ H₀ E).stack, ∀ b, env.frame = some b → b ∈ frs (cxOf (CX1 P w) P w K mg base N qual scope f cdv A outer s₀ H₀ E).stack := fun env he b hb => List.mem_filterMap.mpr ⟨env, he, hb⟩
  have inB : ∀ {b : Addr} {o : Obj}, s.heap.get? b = some o → b ∉ frs (cxOf (CX1 P w) P w K mg base N qual scope f cdv A outer s₀ H₀ E).stack → (PySem.W.hideAll s.heap (frs (cxOf (CX1 P w) P w K mg base N qual scope f cdv A outer s₀ H₀ E).stack)).get? b = some o := fun e hb => PySem.W.hideAll_get _ e hb
  have hL : ∀ {b : Addr} {o : Obj}, s₀.heap.get? b = some o → b ∉ frs outer → b ∉ frs (cxOf (CX1 P w) P w K mg base N qual scope f cdv A outer s₀ H₀ E).stack := fun {b o} e hb z => by
    rcases List.mem_cons.mp (I.stkSub b z) with q | q
    · have h1 := Heap.lt_size e
      have h2 : s₀.heap.objs.size ≤ (cxOf (CX1 P w) P w K mg base N qual scope f cdv A outer s₀ H₀ E).env.locals := I.ok.above
      rw [q] at h1
      exact Nat.lt_irrefl _ (Nat.lt_of_lt_of_le h1 h2)
    · exact hb q
  show wpAny (model P w) (A.deeper (envOfC qual scope s₀.heap.objs.size f cdv)) (leaving (envOfC qual scope s₀.heap.objs.size f cdv) (.ref ea)) _ _ _
  refine wpAny_leaves_madeW (s := { s with heap := h' }) (h := s.heap) (base := PySem.W.hideAll s.heap (frs (cxOf (CX1 P w) P w K mg base N qual scope f cdv A outer s₀ H₀ E).stack)) I.ok.frames rfl (fun b o q => PySem.W.of_hideAll _ q) (PySem.W.funFrames_hide stk hin) hx fun h'' t fl _ _ up => ?_
  have u0 : Un (frs outer) [] H₀ H s₀.heap s.heap := I.base
  have tr : ∀ b u, H b = some u → b ∉ frs (cxOf (CX1 P w) P w K mg base N qual scope f cdv A outer s₀ H₀ E).stack := fun b u e z => by rw [I.stkFree b z] at e; cases e
  have k1 : ∀ b o, s₀.heap.get? b = some o → H₀ b = none → b ∉ frs outer → (PySem.W.hideAll s.heap (frs (cxOf (CX1 P w) P w K mg base N qual scope f cdv A outer s₀ H₀ E).stack)).get? b = some o := fun b o e n hb => inB (u0.keep b o e n hb (by simp)) (hL e hb)
  have k3 : ∀ b o, s₀.heap.get? b = some o → b ∉ frs outer → ∃ o', (PySem.W.hideAll s.heap (frs (cxOf (CX1 P w) P w K mg base N qual scope f cdv A outer s₀ H₀ E).stack)).get? b = some o' := fun b o e hb => by
    obtain ⟨o', e'⟩ := u0.there b o e (by simp)
    exact ⟨o', inB e' (hL e hb)⟩
  have k2 : ∀ b u, H b = some u → ∃ o, (PySem.W.hideAll s.heap (frs (cxOf (CX1 P w) P w K mg base N qual scope f cdv A outer s₀ H₀ E).stack)).get? b = some o := fun b u e => by
    obtain ⟨o, eo⟩ := (I.hok b u e).at
    exact ⟨o, inB eo (tr b u e)⟩
  exact ⟨ea, cls, .ref t, _, H, rfl, I.os, I.bare, un_fly rfl u0 k1 k3 I.funs fl.1 ((Heap.UpToSlots.of_keeps hx.keeps).trans up), hok_fly I.hok k2 (fun b o q => PySem.W.of_hideAll _ q) fl.1, fl, k1, k3, k2, hE⟩
theorem pass_out (hE : ∀ cls od H', E' cls od H' → E cls od H') : Passes (CX1 P w) (cxOf (CX1 P w) P w K mg base N qual scope f cdv A outer s₀ H₀ E) E' := by
  intro pins σ H s e s' I h
  obtain ⟨ea, cls, a0, B, H', rfl, os, bare, un, hok, fl, k1, k3, k2, hx⟩ := h
  have stk : (cxOf (CX1 P w) P w K mg base N qual scope f cdv A outer s₀ H₀ E).stack = envOfC qual scope s₀.heap.objs.size f cdv :: outer := rfl
  have hfrs : frs (cxOf (CX1 P w) P w K mg base N qual scope f cdv A outer s₀ H₀ E).stack = s₀.heap.objs.size :: frs outer := rfl
  have u0 : Un (frs outer) [] H₀ H s₀.heap s.heap := I.base
  have notL : ∀ {b : Addr} {o : Obj}, s₀.heap.get? b = some o → b ∉ frs outer → b ∉ frs (cxOf (CX1 P w) P w K mg base N qual scope f cdv A outer s₀ H₀ E).stack := fun {b o} e hb z => by
    rw [hfrs] at z
    rcases List.mem_cons.mp z with q | q
    · have h1 := Heap.lt_size e
      rw [q] at h1
      exact Nat.lt_irrefl _ h1
    · exact hb q
  show wpAny (model P w) (A.deeper (envOfC qual scope s₀.heap.objs.size f cdv)) (leaving (envOfC qual scope s₀.heap.objs.size f cdv) (.ref ea)) _ _ _
  refine wpAny_leaves_onW I.ok.frames rfl fl fun h'' fl2 up => ?_
  have u1 : Un (frs outer) [] H₀ H' s₀.heap s'.heap := by
    refine ⟨fun b o e n hb hx => ?_, fun b o e n hb hx => ?_, fun b o e n hx => ?_, fun b o e hx => ?_, fun b xs q => un.tups b xs (u0.tups b xs q), fun b ob u q => un.frzs b ob u (u0.frzs b ob u q), fun b ps q => ?_⟩
    · exact un.keep b o (u0.keep b o e n hb hx) (u0.free b o e n hx) (notL e hb) (by simp)
    · obtain ⟨sl, e1⟩ := u0.slot b o e n hb hx
      obtain ⟨sl', e2⟩ := un.any e1 (u0.free b o e n hx) (by simp)
      exact ⟨sl', e2⟩
    · obtain ⟨o', e1⟩ := u0.there b o e hx
      exact un.free b o' e1 (u0.free b o e n hx) (by simp)
    · obtain ⟨o', e1⟩ := u0.there b o e hx
      exact un.there b o' e1 (by simp)
    · obtain ⟨m1, e1⟩ := u0.tbls b ps q
      obtain ⟨m2, e2⟩ := un.tbls b _ e1
      exact ⟨m1 ++ m2, by rw [e2, Array.append_assoc]⟩
  have K1 : ∀ b o, s₀.heap.get? b = some o → H₀ b = none → b ∉ frs outer → B.get? b = some o := fun b o e n hb => k1 b o (u0.keep b o e n hb (by simp)) (u0.free b o e n (by simp)) (notL e hb)
  have K3 : ∀ b o, s₀.heap.get? b = some o → b ∉ frs outer → ∃ o', B.get? b = some o' := fun b o e hb => by
    obtain ⟨o', e1⟩ := u0.there b o e (by simp)
    exact k3 b o' e1 (notL e hb)
  have ff : s'.heap.FunFrames B outer := by
    obtain ⟨_, _, ⟨_, _, r⟩, _⟩ := fl
    exact r
  exact ⟨ea, cls, a0, B, H', rfl, os.trans I.os, bare, un_fly rfl u1 K1 K3 ff fl2.1 up, hok_fly hok k2 fl.1 fl2.1, fl2, K1, K3, k2, hE _ _ _ hx⟩
end
theorem exc_obj {K : PySem.W.Frag} {h : Heap} {C : Addr} {bmB : List Value} {newId : String} (X : K.In h) (q : PySem.W.excIn K C bmB newId = true) :
    ∃ bm N nm qn bs hdct sn sub ab col dd k0 k1 k2 k3 k5 mN, h.get? C = some (excClassObj nm qn C N bs bm hdct sn sub ab col dd k0 k1 k2 k3 k5 newId) ∧ h.Ns N mN ∧ mN "__init__" = none ∧ OwnTail h bmB bm := by
  unfold PySem.W.excIn at q
  split at q
  · rename_i dd cd sl ho
    split at q
    · rename_i C' bm k0 k1 k2 k3 n k5 hm hs
      simp only [Bool.and_eq_true, beq_iff_eq, Bool.not_eq_true'] at q
      obtain ⟨⟨⟨⟨⟨rfl, rfl⟩, hdel⟩, ht⟩, hok⟩, hni⟩ := q
      obtain ⟨nm, bs, mro, ns, qn, hd, sn, sub, ab, col, del⟩ := cd
      dsimp only at hm hdel hok hni
      subst hm hdel
      have hsl : sl = #[k0, k1, k2, k3, some (.builtin n), k5] := by
        obtain ⟨l⟩ := sl
        simp only at hs
        rw [hs]
      subst hsl
      exact ⟨bm, ns, nm, qn, bs, hd, sn, sub, ab, col, dd, k0, k1, k2, k3, k5, _, X _ _ ho, .of_isNs (PySem.W.isNs_of_in X hok), PySem.W.nsMap_none_of_in X hok hni, PySem.W.tail_of_in X ht⟩
    · cases q
  · cases q
section
variable {X : Cx} {E : XK}
noncomputable def tRaise (C : Addr) (E : XK) (t : TA) : TS := fun _ σ H => t σ H fun vs H1 => vs.length ≤ sizeLine ∧ E (.ref C) none H1
theorem ps_raise {x : Str} {C : Addr} {e : Expr} {es : List Expr} {t : TA} {np cpos pos : Pos} {B Bn newId nid initId inN : String} {bmB bmN : List Value} (hcalm : X.calm = true) (hq : PySem.W.excIn X.K C bmB newId = true)
    (Fn : ExcBaseFacts Bn newId inN bmN) (hBn : bmB.contains (.type Bn) = true) (FB : ExcBaseFacts B nid initId bmB) (hg : Gl X x) (hm : X.mg x = some (.ref C)) (ha : PA X (e :: es) t) (hR : Raises X E)
    (hdb : (x == ("__debug__" : Str)) = false := by decide) (he : starEach (e :: es) X.env = (false, eval e X.env) :: starEach es X.env := by rfl) (hpl : (backTo cpos (starEach es X.env)).any (·.1) = false := by rfl) :
    PS X (.Raise (some (.Call (.Name x np) (e :: es) [] cpos)) none pos) (tRaise C E t) := by
  intro pins s σ H D I h
  obtain ⟨tl, N, nm, qn, bs, hdct, sn, sub, ab, col, dd, k0, k1, k2, k3, k5, mN, hC, hN, hni, T⟩ := exc_obj I.ok.mod.kin hq
  refine wpAny_Raise_call_subU (C := C) (nm := nm) (q := qn) (N := N) (bs := bs) (bm := tl) (hdct := hdct) (sn := sn) (sub := sub) (ab := ab) (col := col) (dd := dd) (k0 := k0) (k1 := k1) (k2 := k2) (k3 := k3) (k5 := k5)
    Fn hBn FB (mN := mN) (T.hasType FB.hasBase) (I.ok.hd hcalm) (by rw [he]; show (false || (backTo cpos (starEach es X.env)).any (·.1)) = false; rw [hpl]; rfl) hni (ld_glob I hg hm ⟨rfl, ?_⟩ hdb)
  have hA := ha cpos pins s σ H _ I h
  rw [he] at hA ⊢
  exact Calls.evalArgs_plain (thn hA fun us s2 ⟨vs, H2, I2, r, hz, hE⟩ => ⟨rfl, by rw [← r.length]; exact hz, I2.bk _ _ hC, hN.keeps I2.bk, T.keeps I2.bk, fun h' ea mk => hR pins σ H2 s2 h' ea (.ref C) us I2 mk hE⟩)
end
section
variable {P : Program} {w : World} {K : PySem.W.Frag} {mg : Str → Option Value} {base : Heap}
theorem Fun.ok1 {x qual : Str} {st : Stmt} {f : Addr} {fd : FuncData} {N ps : List Str} {k : Nat} {sp : Sp} (F : Fun K x qual st f fd) (S : FnScope N ps (defScope st)) (len : ∀ vs H Q E, sp vs H Q E → vs.length = ps.length)
    (hbody : ∀ (cdv : Value) (A : Around) (outer : List Env) (s : Shared) (H : Hp) (vs : List V) (Q : VK) (E : XK), Room k (A.deeper (envOfC qual (defScope st) s.heap.objs.size f cdv)) → sp vs H Q E →
      ∃ t, PSs (cxOf (CX1 P w) P w K mg base N qual (defScope st) f cdv A outer s H E) (defBody st) t ∧ t { nx := fun _ H' => Q .non H', rt := Q } (start N vs) H) : FnOk P w K mg base (CX1 P w) (k + 1) f fd ps sp := by
  obtain ⟨oc, od, kV, doc, pm, an, cdv, ct, osl, rfl, lk, hcd⟩ := F.ex
  exact fn_of lk hcd S len fun A outer s H vs Q E hr hsp => hbody cdv A outer s H vs Q E hr hsp
end
end L2
set_option Elab.async false
set_option linter.all false
set_option maxRecDepth 100000
set_option maxHeartbeats 4000000
namespace L2
open PySem PySem.Spec PyProof.Rows
noncomputable def ExcO (ea C : Addr) : HO := .ext fun h => ∃ o vs, h.get? ea = some o ∧ o.cls = .ref C ∧ o.data = .fields vs
noncomputable abbrev Cx.tr (X : Cx) (p : List (Addr × Obj)) (E : Value → Shared → Prop) : Cx := { X with pn := p, xe := E }
noncomputable def cxH (X : Cx) (ea : Addr) (p : List (Addr × Obj)) : Cx := { X with A := X.A.mark (some (.ref ea)), calm := false, xe := fun _ _ => False, pn := p }
noncomputable def PassS (CX : CXT) (X : Cx) (E : St → XK) : Prop := ∀ (pins : List (Addr × Obj)) (σ : St) (H : Hp) (s : Shared) (e : Value) (s' : Shared), Inv X pins σ H s → CX X.stack H s (E σ) e s' → X.xe e s'
section
variable {X : Cx} {CX : CXT} {k : Nat} {f C : Addr} {fd : FuncData} {ps : List Str} {sp : Sp} {dvs : List V} {ds : List Value} {E : St → XK} {x m : Str} {p pos apos : Pos} {e o : Expr} {es : List Expr} {ta : TE} {t : TA}
end
section
variable {X : Cx} {pins : List (Addr × Obj)} {σ : St} {H : Hp} {s : Shared}
theorem Inv.unset {n : Str} {i : Nat} {m : Str → Option Value} {u : Option Value} {h' : Heap} (I : Inv X pins σ H s) (hN : X.N.Nodup) (hi : X.N[i]? = some n)
    (hl : ∀ (i : Nat) (x : Str) (v : V), X.N[i]? = some x → σ[i]? = some (some v) → Vis X.env.scope x → ∃ u, RelV v u ∧ Look X.env s.heap m x u)
    (hn' : h'.Ns X.env.locals (fun x => if x = n then u else m x)) (hs : Heap.SameBut X.env.locals s.heap h') : Inv X pins (σ.set i none) H { s with heap := h' } := by
  have cne := I.cne
  obtain ⟨m0, ⟨oL, _, _, hoL, _⟩, _⟩ := id I.loc
  have tracked : HOk X.prog X.w H h' := fun b ob e => by
    refine (I.hok b ob e).stay (fun c w' hc q => (hs.2 c ?_).trans q) (fun _ q => q) fun _ _ q => q
    rintro rfl
    have hf := I.free
    rcases hc with hc | hc
    · rw [← hc, hf] at e; cases e
    · rw [hf] at hc; cases hc
  refine ⟨I.ok, I.os, I.bare, ⟨fun b o e n hb hx => ?_, fun b o e n hb hx => ?_, I.base.free, fun b o e hx => ?_, I.base.tups, I.base.frzs, I.base.tbls⟩, ⟨_, hn', fun j y v' e1 e2 e3 => ?_⟩, fun y c e => ?_, I.free, I.freeC, fun p hp => ?_, tracked, by simpa using I.len⟩
  · exact (hs.2 b (Nat.ne_of_lt (Nat.lt_of_lt_of_le (Heap.lt_size e) I.ok.above))).trans (I.base.keep b o e n hb hx)
  · obtain ⟨sl, e1⟩ := I.base.slot b o e n hb hx
    exact ⟨sl, (hs.2 b (Nat.ne_of_lt (Nat.lt_of_lt_of_le (Heap.lt_size e) I.ok.above))).trans e1⟩
  · obtain ⟨o', e1⟩ := I.base.there b o e hx
    exact ⟨o', (hs.2 b (Nat.ne_of_lt (Nat.lt_of_lt_of_le (Heap.lt_size e) I.ok.above))).trans e1⟩
  · by_cases hj : j = i
    · subst hj
      rw [List.getElem?_set] at e2
      rw [if_pos rfl] at e2
      split at e2 <;> cases e2
    · rw [List.getElem?_set_ne (Ne.symm hj)] at e2
      obtain ⟨u', r', q⟩ := hl j y v' e1 e2 e3
      refine ⟨u', r', ?_⟩
      rcases q with ⟨k, e⟩ | ⟨k, c, e, z⟩
      · refine .inl ⟨k, ?_⟩
        have : y ≠ n := fun e => hj (nodup_ix hN e1 (e ▸ hi))
        simp [this, e]
      · exact .inr ⟨k, c, e, z.sameBut hs (cne y c e)⟩
  · obtain ⟨w', z⟩ := I.cell y c e
    exact ⟨w', z.sameBut hs (cne y c e)⟩
  · obtain ⟨e, n, ne, nf, d⟩ := I.pin p hp
    exact ⟨(hs.2 p.1 ne).trans e, n, ne, nf, d⟩
theorem let_go {n : Str} {i : Nat} {pos : Pos} {Q : Unit → Shared → Prop} (I : Inv X pins σ H s) (hN : X.N.Nodup) (hi : X.N[i]? = some n) (hk : X.env.scope.names.lookup n = some .local)
    (h : ∀ s', Inv X pins (σ.set i none) H s' → Q () s') : wpAny (model X.prog X.w) X.A (do bindName X.env n .none; unbindBehindTheSuite X.env n pos) Q X.xe s := by
  have hcls : (X.env.scope.kind == .class || (X.env.scope.kind == .module && X.env.locals != X.env.globals)) = false := by rw [I.ok.kind]; rfl
  refine wpAny_bind (wpAny_bindName (store_ok I hN hi (.inl hk) (show RelV .non .none from rfl) (fun s1 I1 => ?_) (.inr hk)))
  obtain ⟨m, hn, hl⟩ := id I1.loc
  have hiσ : i < σ.length := by rw [I.len]; exact (List.getElem?_eq_some_iff.mp hi).1
  obtain ⟨u, ru, lk⟩ := hl i n .non hi (by rw [List.getElem?_set_self hiσ]) (.inl hk)
  have hm : m n = some u := by
    rcases lk with ⟨_, e⟩ | ⟨z, _⟩
    · exact e
    · have hk' : X.env.kindOf n = some .local := hk
      rw [hk'] at z
      rcases z with z | z <;> cases z
  unfold unbindBehindTheSuite
  refine wpAny_onRaise (wpAny_unbindName_local hk hn hm hcls fun h' u' hn' hs' => ?_)
  have I2 := I1.unset hN hi hl hn' hs'
  rw [List.set_set] at I2
  exact h _ I2
end
section
variable {X : Cx}
noncomputable def tTry (K : PySem.W.Frag) (CH : Addr) (i : Nat) (E : St → XK) (tb ts : TS) : TS := fun D σ H => tb D σ H ∧ ∀ σ' cls H' ea, E σ' cls none H' → H' ea = none →
  ∃ C, cls = .ref C ∧ PySem.W.exmOne K (.ref C) (.ref CH) = some true ∧
    ts { nx := fun σ2 H2 => D.nx (σ2.set i none) H2, rt := D.rt, bk := fun σ2 H2 => D.bk (σ2.set i none) H2, ct := fun σ2 H2 => D.ct (σ2.set i none) H2 } (σ'.set i (some (.ref ea))) (upd H' ea (ExcO ea C))
theorem try_pass {pins : List (Addr × Obj)} {D : Ends} {CH : Addr} {i : Nat} {E : St → XK} {x n : Str} {np pos : Pos} {b₀ : Stmt} {suite : List Stmt} {ts : TS}
    (hstk : X.stack = X.env :: X.outer) (hfr : X.env.frame = some X.env.locals) (hN : X.N.Nodup) (hi : X.N[i]? = some n) (hk : X.env.scope.names.lookup n = some .local) (hg : Gl X x) (hm : X.mg x = some (.ref CH))
    (hs : ∀ ea p, PSs (cxH X ea p) (b₀ :: suite) ts)
    (hc : ∀ σ' cls H' ea, E σ' cls none H' → H' ea = none → ∃ C, cls = .ref C ∧ PySem.W.exmOne X.K (.ref C) (.ref CH) = some true ∧
      ts { nx := fun σ2 H2 => D.nx (σ2.set i none) H2, rt := D.rt, bk := fun σ2 H2 => D.bk (σ2.set i none) H2, ct := fun σ2 H2 => D.ct (σ2.set i none) H2 } (σ'.set i (some (.ref ea))) (upd H' ea (ExcO ea C)))
    (hdb : (x == ("__debug__" : Str)) = false := by decide) :
    PassS (CX1 X.prog X.w) (X.tr (X.pn ++ pins) fun e s₁ => wpAny (model X.prog X.w) X.A (noteFrame e X.env) (fun _ s₂ => wpAny (model X.prog X.w) X.A (setFlight e none) (fun _ s₃ =>
      wpAny (model X.prog X.w) X.A (handleBy e X.env [.ExceptHandler (some (.Name x np)) (some n) (b₀ :: suite) pos]) (SP X pins D) X.xe s₃) X.xe s₂) X.xe s₁) E := by
  intro pins' σ' H1 s1 e s' I1 hx
  obtain ⟨ea, cls, a0, B, H', rfl, os, bare, un, hok, fl, k1, k3, k2, hE⟩ := hx
  have fl' : Heap.FlyingW B (X.env :: X.outer) ea cls a0 s'.heap := hstk ▸ fl
  have hfrm : X.A.frames = some (X.env :: X.outer) := hstk ▸ I1.ok.frames
  have nfr : ea ∉ frs X.stack := fun z => by
    obtain ⟨_, o, ho, nf⟩ := fl.2.2.1.mem z
    obtain ⟨oe, vs, _, _, _, he, _, hd, _⟩ := fl.2.2.2
    rw [he] at ho; cases ho
    exact nf vs hd
  have nE : ∀ {b : Addr} {o : Obj}, s1.heap.get? b = some o → b ≠ ea := fun {b o} q z => by
    subst z
    obtain ⟨o', e'⟩ := k3 b o q nfr
    rw [fl.2.1] at e'; cases e'
  have nH : H' ea = none := by
    cases q : H' ea with
    | none => rfl
    | some u =>
      obtain ⟨o, e'⟩ := k2 ea u q
      rw [fl.2.1] at e'; cases e'
  have go : ∀ {h2 : Heap}, Heap.FlyingW B (X.env :: X.outer) ea cls a0 h2 → s'.heap.UpToSlots h2 → Inv (X.tr (X.pn ++ pins) fun e s₁ => wpAny (model X.prog X.w) X.A (noteFrame e X.env) (fun _ s₂ => wpAny (model X.prog X.w) X.A (setFlight e none) (fun _ s₃ =>
      wpAny (model X.prog X.w) X.A (handleBy e X.env [.ExceptHandler (some (.Name x np)) (some n) (b₀ :: suite) pos]) (SP X pins D) X.xe s₃) X.xe s₂) X.xe s₁) pins' σ' H' { s' with heap := h2 } := fun {h2} fl2 up =>
    I1.call' (s' := { s' with heap := h2 }) (ch := []) os (un_fly rfl un k1 k3 fl.2.2.1 fl2.1 up) (hok_fly hok k2 fl.1 fl2.1) bare fun b z => absurd z (by simp)
  have toH : ∀ {s2 : Shared} {H2 : Hp}, Inv (X.tr (X.pn ++ pins) fun e s₁ => wpAny (model X.prog X.w) X.A (noteFrame e X.env) (fun _ s₂ => wpAny (model X.prog X.w) X.A (setFlight e none) (fun _ s₃ =>
      wpAny (model X.prog X.w) X.A (handleBy e X.env [.ExceptHandler (some (.Name x np)) (some n) (b₀ :: suite) pos]) (SP X pins D) X.xe s₃) X.xe s₂) X.xe s₁) pins' σ' H2 s2 → Inv (cxH X ea (X.pn ++ pins)) [] σ' H2 s2 := fun I =>
    ⟨⟨I.ok.mod, I.ok.kind, I.ok.glob, I.ok.blt, I.ok.above, I.ok.inj, I.ok.has, I.ok.cab, (fun z => by cases z), I.ok.frames, I.ok.stk, I.ok.exf, I.ok.bs, I.ok.bsz, I.ok.noex, I.ok.exfs, I.ok.funs, I.ok.frf⟩,
      I.os, I.bare, I.base, I.loc, I.cell, I.free, I.freeC, fun p hp => I.pin p (List.mem_append_left _ (by have hp' : p ∈ (X.pn ++ pins) ++ [] := hp; rw [List.append_nil] at hp'; exact hp')), I.hok, I.len⟩
  refine wpAny_looks_onW hfrm hfr fl' fun h4 held up4 => ?_
  refine wpAny_landsW held fun h5 fl5 up5 => ?_
  obtain ⟨C, rfl, hexm, hts⟩ := hc σ' cls H' ea hE nH
  have I5 := toH (go fl5 (up4.trans up5))
  refine wpAny_handleBy_cons (codeAny_handlers_test ?_) (by intro q; cases q)
  refine ld_glob I5 hg hm ?_ hdb
  obtain ⟨ob, hob, hobc⟩ := fl5.there
  have LT : PySem.W.Looks (model X.prog X.w) h5 (typeOf (.ref ea)) (.ref C) := by
    rw [← hobc]
    exact (PySem.W.Looks.ld hob).andThen .now
  refine PySem.W.exm_one I5.kIn LT hexm _ _ _ _ (fun _ _ q => q) ?_
  refine codeAny_handlers_suite_as (lands_againW fl5 fun h6 fl6 up6 => ?_)
  have I6 := toH (go fl6 ((up4.trans up5).trans up6))
  have I7 : Inv (cxH X ea (X.pn ++ pins)) [] σ' (upd H' ea (ExcO ea C)) { s' with heap := h6 } := by
    refine I6.track ?_ nH (fun z => ?_) (fun y c q z => ?_) (fun p hp z => ?_) ?_
    · by_cases hx : ea ∈ X.ex
      · exact .inr hx
      · refine .inl ?_
        cases q : X.s₀.heap.get? ea with
        | none => exact q
        | some o =>
          obtain ⟨o', e'⟩ := I1.base.there ea o q hx
          exact absurd rfl (nE e')
    · exact nfr (by rw [hstk]; exact List.mem_filterMap.mpr ⟨X.env, List.mem_cons_self, by rw [hfr]; exact congrArg some z.symm⟩)
    · obtain ⟨v, oc, hoc, _⟩ := I1.cell y c q
      exact nE hoc z
    · exact nE (I1.pin p (List.mem_append_left _ (by have hp' : p ∈ (X.pn ++ pins) ++ [] := hp; rw [List.append_nil] at hp'; exact hp'))).1 z
    · obtain ⟨oe, vs, _, _, _, he, ⟨hcl, _⟩, hd, _⟩ := fl6.2.2.2
      exact ⟨⟨oe, vs, he, hcl, hd⟩, ⟨oe, he⟩, fun h1 h2 ⟨o, ws, q1, q2, q3⟩ k => ⟨o, ws, k o q1, q2, q3⟩⟩
  refine store_ok (X := cxH X ea (X.pn ++ pins)) I7 hN hi (.inl hk) (show RelV (.ref ea) (.ref ea) from rfl) (fun s8 I8 => ?_) (.inr hk)
  refine wpAny_mono (hs ea (X.pn ++ pins) [] s8 _ _ _ I8 hts) (fun fl9 s9 h9 => ?_) fun _ _ z => False.elim z
  have back : ∀ {σ2 : St} {H2 : Hp}, Inv (cxH X ea (X.pn ++ pins)) [] σ2 H2 s9 → Inv X pins σ2 H2 s9 := fun I =>
    ⟨⟨I1.ok.mod, I1.ok.kind, I1.ok.glob, I1.ok.blt, I1.ok.above, I1.ok.inj, I1.ok.has, I1.ok.cab, I1.ok.hd, I1.ok.frames, I1.ok.stk, I1.ok.exf, I1.ok.bs, I1.ok.bsz, I1.ok.noex, I1.ok.exfs, I1.ok.funs, I1.ok.frf⟩,
      I.os, I.bare, I.base, I.loc, I.cell, I.free, I.freeC, fun p hp => I.pin p (List.mem_append_left _ hp), I.hok, I.len⟩
  show wpAny (model X.prog X.w) X.A (do bindName X.env n .none; unbindBehindTheSuite X.env n pos) (fun _ s₃ => SP X pins D fl9 s₃) X.xe s9
  cases fl9 with
  | next =>
    obtain ⟨σ2, H2, I9, q9⟩ := h9
    exact let_go (back I9) hN hi hk fun s10 I10 => ⟨_, H2, I10, q9⟩
  | brk =>
    obtain ⟨σ2, H2, I9, q9⟩ := h9
    exact let_go (back I9) hN hi hk fun s10 I10 => ⟨_, H2, I10, q9⟩
  | cont =>
    obtain ⟨σ2, H2, I9, q9⟩ := h9
    exact let_go (back I9) hN hi hk fun s10 I10 => ⟨_, H2, I10, q9⟩
  | ret u =>
    obtain ⟨v, σ2, H2, I9, rv, q9⟩ := h9
    exact let_go (back I9) hN hi hk fun s10 I10 => ⟨v, _, H2, I10, rv, q9⟩
theorem ps_try {CH : Addr} {i : Nat} (E : St → XK) {x n : Str} {np hpos pos : Pos} {b₀ : Stmt} {suite body : List Stmt} {tb ts : TS}
    (hstk : X.stack = X.env :: X.outer) (hfr : X.env.frame = some X.env.locals) (hN : X.N.Nodup) (hi : X.N[i]? = some n) (hk : X.env.scope.names.lookup n = some .local) (hg : Gl X x) (hm : X.mg x = some (.ref CH))
    (hb : ∀ p xe, PassS (CX1 X.prog X.w) (X.tr p xe) E → PSs (X.tr p xe) body tb) (hs : ∀ ea p, PSs (cxH X ea p) (b₀ :: suite) ts)
    (hdb : (x == ("__debug__" : Str)) = false := by decide) : PS X (.Try body [.ExceptHandler (some (.Name x np)) (some n) (b₀ :: suite) hpos] [] [] pos) (tTry X.K CH i E tb ts) := by
  intro pins s σ H D I h
  obtain ⟨h1, h2⟩ := h
  refine wpAny_Try_except ?_
  have I' : Inv (X.tr (X.pn ++ pins) fun e s₁ => wpAny (model X.prog X.w) X.A (noteFrame e X.env) (fun _ s₂ => wpAny (model X.prog X.w) X.A (setFlight e none) (fun _ s₃ =>
      wpAny (model X.prog X.w) X.A (handleBy e X.env [.ExceptHandler (some (.Name x np)) (some n) (b₀ :: suite) hpos]) (SP X pins D) X.xe s₃) X.xe s₂) X.xe s₁) [] σ H s :=
    ⟨⟨I.ok.mod, I.ok.kind, I.ok.glob, I.ok.blt, I.ok.above, I.ok.inj, I.ok.has, I.ok.cab, I.ok.hd, I.ok.frames, I.ok.stk, I.ok.exf, I.ok.bs, I.ok.bsz, I.ok.noex, I.ok.exfs, I.ok.funs, I.ok.frf⟩,
      I.os, I.bare, I.base, I.loc, I.cell, I.free, I.freeC, fun p hp => I.pin p (by simpa using hp), I.hok, I.len⟩
  have back : ∀ {σ2 : St} {H2 : Hp} {s2 : Shared}, Inv (X.tr (X.pn ++ pins) fun e s₁ => wpAny (model X.prog X.w) X.A (noteFrame e X.env) (fun _ s₂ => wpAny (model X.prog X.w) X.A (setFlight e none) (fun _ s₃ =>
      wpAny (model X.prog X.w) X.A (handleBy e X.env [.ExceptHandler (some (.Name x np)) (some n) (b₀ :: suite) hpos]) (SP X pins D) X.xe s₃) X.xe s₂) X.xe s₁) [] σ2 H2 s2 → Inv X pins σ2 H2 s2 := fun J =>
    ⟨I.ok, J.os, J.bare, J.base, J.loc, J.cell, J.free, J.freeC, fun p hp => J.pin p (List.mem_append_left _ hp), J.hok, J.len⟩
  refine wpAny_mono (hb _ _ (try_pass hstk hfr hN hi hk hg hm hs h2 hdb) [] s σ H D I' h1) (fun f s1 q => ?_) fun e s1 q => q
  cases f with
  | next =>
    obtain ⟨σ2, H2, J, q⟩ := q
    exact wpAny_execs_nil ⟨σ2, H2, back J, q⟩
  | brk => obtain ⟨σ2, H2, J, q⟩ := q; exact ⟨σ2, H2, back J, q⟩
  | cont => obtain ⟨σ2, H2, J, q⟩ := q; exact ⟨σ2, H2, back J, q⟩
  | ret u => obtain ⟨v, σ2, H2, J, r, q⟩ := q; exact ⟨v, σ2, H2, back J, r, q⟩
end
end L2
set_option Elab.async false
set_option linter.all false
set_option maxRecDepth 100000
set_option maxHeartbeats 4000000
namespace L2
open PySem PySem.Spec PyProof.Rows
structure RoomN (k : Nat) (A : Around) : Prop where
  dp : A.depth + 3 * k + 5 < recursionLimit
  un : A.units + 16 * k + 200 < cLine
theorem Room.toN {k : Nat} {A : Around} (r : Room k A) : RoomN k A := ⟨r.dp, r.un⟩
theorem RoomN.mono {j k : Nat} {A : Around} (r : RoomN k A) (h : j ≤ k) : RoomN j A := ⟨by have := r.dp; omega, by have := r.un; omega⟩
theorem RoomN.deeper {k : Nat} {A : Around} (r : RoomN (k + 1) A) (env : Env) : RoomN k (A.deeper env) :=
  ⟨by have := r.dp; show A.depth + 1 + 3 * k + 5 < _; omega, by have := r.un; show A.units + 3 + 16 * k + 200 < _; omega⟩
theorem RoomN.mark {k : Nat} {A : Around} (r : RoomN k A) (e : Option Value) : RoomN k (A.mark e) := ⟨r.dp, r.un⟩
theorem RoomN.depth {k : Nat} {A : Around} (r : RoomN k A) : A.depth < recursionLimit := by have := r.dp; omega
theorem RoomN.units {k : Nat} {A : Around} (r : RoomN k A) : A.units + 100 < cLine := by have := r.un; omega
theorem Room.units100 {k : Nat} {A : Around} (r : Room k A) : A.units + 100 < cLine := r.toN.units
section
variable {X : Cx} {k : Nat} {f C : Addr} {fd : FuncData} {ps : List Str} {sp : List V → Hp → VK → Prop} {dvs : List V} {ds : List Value} {x m : Str} {p pos apos : Pos} {e o : Expr} {es : List Expr} {ta : TE} {t : TA}
end
end L2
namespace PySem.W
open PySem PySem.Spec PySem.Calls PyProof.Rows PySem.Builtin.ObjectAttr PySem.Builtin.Getset_descriptor PySem.Builtin
structure ExcCls (K : Frag) (C : Addr) : Prop where
  cl : (clsIn K C).isSome = true
  ga : findIn K (.ref C) "__getattribute__" = some (some (.builtin "BaseException.__getattribute__"))
  hk : findIn K (.ref C) "__getattr__" = some none
  ha : findIn K (.ref C) "__class__" = some (some (.builtin "object.__class__"))
  hn : specialIn K (.builtin "object.__class__") "__get__" = some (some (.builtin "getset_descriptor.__get__"))
  ht : takesIn K (.builtin "object.__class__") = some true
  hm : mroIn K C (.type "object") = some true
  hb : mroIn K C (.type "BaseException") = some true
section
variable {prog : Program} {w : World} {A : Around} {E : Value → Shared → Prop} {K : Frag} {x C : Addr} {ox : Obj}
theorem class_getE {R : Result → Shared → Prop} {h : Heap} {g : Array GenState} {d : Drawn} {t : Nat} {os : OsState} {tp : Value} (X : K.In h) (L0 : Looks (model prog w) h (typeOf (.ref x)) (.ref C)) (hm : mroIn K C (.type "object") = some true)
    (hq : R (.ok (.ret (.ref C))) ⟨h, g, d, t, os⟩) : codeAny (model prog w) A (.call (.builtin "getset_descriptor.__get__") ⟨[.builtin "object.__class__", .ref x, tp], []⟩) R ⟨h, g, d, t, os⟩ := by
  have L1 := looks_mroIn (M := model prog w) X hm
  refine codeAny_call_builtin KF.slot_gs.plain KF.entry_gs (KF.slot_gs.check _ _ _ _ _ _ _ _ KF.type_class (KF.args_gs _ _ _) ?_)
  unfold Builtin.«getset_descriptor.__get__» descrGet
  rw [dga_obj]
  refine wpAny_bind (wpAny_pure ?_)
  unfold descrGetter descrCheckInstance descrNameAndClass isInstance
  simp only [KF.owner_class]
  repeat lk
  refine ⟨Code.quiet_builtin _ (by decide +kernel), codeAny_builtin KF.entry_class ?_⟩
  unfold Builtin.«object.__class__» shownTypeOf
  repeat lk
  exact hq
theorem exc_class {h : Heap} {g : Array GenState} {d : Drawn} {t : Nat} {os : OsState} {vs : Array Value} {Q : Option Value → Shared → Prop} (X : K.In h) (T : ExcCls K C) (hx : h.get? x = some ox) (hc : ox.cls = .ref C) (hd : ox.data = .fields vs)
    (hq : Q (some (.ref C)) ⟨h, g, d, t + 1, os⟩) : wpAny (model prog w) A (getAttr? (.ref x) "__class__") Q E ⟨h, g, d, t, os⟩ := by
  have L0 : Looks (model prog w) h (typeOf (.ref x)) (.ref C) := hc ▸ (Looks.ld hx).andThen .now
  have L1 := looks_findIn (M := model prog w) X T.ga
  unfold getAttr? getAttrBy? getAttrBy
  refine wpAny_bind (wpAny_mkText (wpAny_bind (wpAny_attempt (wpAny_holding (wpAny_bind (L0.at (wpAny_bind (L1.at ?_))))))))
  show wpAny _ _ (getAttrByItsOwn (.ref x) (.str "__class__" t) (.ref C) (.builtin "BaseException.__getattribute__") false false) _ _ _
  have LH := looks_findIn (M := model prog w) X T.hk
  unfold getAttrByItsOwn callGetattribute boundAndCalled hookBefore
  refine wpAny_bind (LH.at (wpAny_bind (wpAny_attempt (wpAny_holding ?_))))
  rw [if_neg (by simp)]
  refine wpAny_bind (wpAny_of_eq (F.excAttr_ValueError.ga.bind _) ?_)
  refine wpAny_call ?_
  refine codeAny_call_builtin F.excAttr_ValueError.ga.plain F.entry_bexc_ga ?_
  have hsub : Looks (model prog w) h (isSubtype (.ref C) (.type "BaseException")) true := looks_mroIn X T.hb
  have chk : ∀ {A' : Around} {Q' : Unit → Shared → Prop} {E' : Value → Shared → Prop} {t' : Nat}, Q' () ⟨h, g, d, t', os⟩ → wpAny (model prog w) A' (checkBuiltinCall "BaseException.__getattribute__" ⟨[.ref x, .str "__class__" t], []⟩) Q' E' ⟨h, g, d, t', os⟩ := fun hq' => by
    have hkd : builtinKind "BaseException.__getattribute__" = some .slot := by kernel_rfl
    have hsp : splitId "BaseException.__getattribute__" = some ("BaseException", "__getattribute__") := by kernel_rfl
    simp only [checkBuiltinCall, hkd, hsp]
    have LI : Looks (model prog w) h (isInstance (.ref x) (.type "BaseException")) true := L0.andThen hsub
    refine wpAny_bind (LI.at ?_)
    simp only [Bool.not_true, Bool.false_eq_true, if_false]
    have ha := F.args_bexc_ga (.ref x) (.str "__class__" t)
    cases hsig : Manifest.signature? "BaseException.__getattribute__" with
    | none => exact wpAny_pure hq'
    | some sig =>
      simp only [argsOk, hsig] at ha
      have h2 : Bind.checkArgs "BaseException.__getattribute__" sig ⟨[.ref x, .str "__class__" t], []⟩ = pure () := ha
      show wpAny _ _ (Bind.checkArgs "BaseException.__getattribute__" sig ⟨[.ref x, .str "__class__" t], []⟩) _ _ _
      rw [h2]; exact wpAny_pure hq'
  refine chk ?_
  have LF : Looks (model prog w) h (Builtin.ObjectAttr.find (.ref x) (.ref C) "__class__") (Found.bind (.builtin "getset_descriptor.__get__") (.builtin "object.__class__")) := by
    have L1 := looks_findIn (M := model prog w) X T.ha
    have L2 : Looks (model prog w) h (getOf (some (.builtin "object.__class__"))) (some (.builtin "getset_descriptor.__get__")) := looks_specialIn X T.hn
    have L3 := looks_takesIn (M := model prog w) X T.ht
    unfold Builtin.ObjectAttr.find
    exact L1.andThen (L2.andThen ((show Looks (model prog w) h (dataDescriptor? (some (.builtin "object.__class__")) (some (.builtin "getset_descriptor.__get__"))) (some (.builtin "getset_descriptor.__get__", .builtin "object.__class__")) from L3.andThen .now).andThen (Looks.tag .now)))
  show wpAny _ _ (Builtin.«object.__getattribute__» ⟨[.ref x, .str "__class__" t], []⟩) _ _ _
  unfold Builtin.«object.__getattribute__»
  refine wpAny_bind (wpAny_pure (wpAny_bind (wpAny_pure (wpAny_bind (L0.at (wpAny_bind (LF.at ?_)))))))
  show wpAny _ _ (bindTo (.builtin "getset_descriptor.__get__") (.builtin "object.__class__") (.ref x) (.ref C)) _ _ _
  show wpAny _ _ (holding [Value.builtin "object.__class__"] (call (.builtin "getset_descriptor.__get__") [.builtin "object.__class__", .ref x, .ref C]) >>= ret) _ _ _
  refine wpAny_bind (wpAny_holding (wpAny_call (class_getE X L0 T.hm ?_)))
  refine wpAny_pure ?_
  exact handed_on rfl (wpAny_pure hq)
noncomputable def ExcAtH (x C : Addr) (h : Heap) : Prop := ∃ o vs, h.get? x = some o ∧ o.cls = .ref C ∧ o.data = .fields vs
theorem kitx_exc (T : ExcCls K C) : KitX K (.ref x) (.ref C) (ExcAtH x C) where
  ty := fun M h _ ⟨o, vs, e, c, d⟩ => c ▸ (Looks.ld e).andThen .now
  it := fun _ _ X _ => by
    obtain ⟨cdD, hcD⟩ := Option.isSome_iff_exists.mp T.cl
    unfold clsIn at hcD
    split at hcD
    · rename_i c' d' cd' sl' ho
      intro A' Q' E' s' k q
      unfold isType loadHead
      exact wpAny_bind (wpAny_loadPart (k _ _ (X _ _ ho)) (wpAny_pure q))
    · cases hcD
  ne := fun h tp dd its n sl X htp => by
    obtain ⟨cdD, hcD⟩ := Option.isSome_iff_exists.mp T.cl
    refine Bool.eq_false_iff.mpr fun q => ?_
    have e : C = tp := Value.ref.inj (beq_iff_eq.mp q)
    subst e
    unfold clsIn at hcD
    split at hcD
    · rename_i c' d' cd' sl' ho
      have z := (X _ _ ho).symm.trans htp
      cases z
    · cases hcD
  ca := fun {prog w A E Q s} X ⟨o, vs, e, c, d⟩ k => by
    obtain ⟨hh, g, dd, t, os⟩ := s
    exact exc_class X T e c d k
end
end PySem.W
namespace L2
open PySem PySem.Spec PyProof.Rows
theorem vals_refs : ∀ {Cs : List Addr} {its : List Value}, Vals (Cs.map V.ref) its → its = Cs.map Value.ref
  | [], _, .nil => rfl
  | _ :: _, _, .cons r1 r2 => by cases r1; rw [vals_refs r2, List.map_cons]
section
variable {X : Cx}
theorem call_isiE : CallR X (.builtin "isinstance") (fun xs H Q => ∃ ea D c b, xs = [.ref ea, c] ∧ H ea = some (ExcO ea D) ∧ PySem.W.ExcCls X.K D ∧
    ((∃ n, c = .ty n ∧ PySem.W.kitOne X.K (.ref D) (.type n) = some b) ∨ (∃ C, c = .ref C ∧ PySem.W.kitOne X.K (.ref D) (.ref C) = some b) ∨
      (∃ (p : Addr) (Cs : List Addr), c = .ref p ∧ H p = some (.tup (Cs.map V.ref)) ∧ PySem.W.kitAny X.K (.ref D) (Cs.map Value.ref) = some b)) ∧ Q (.bl b) H) := by
  intro pins s σ H xs us Q I r h
  obtain ⟨ea, D, c, b, rfl, hH, T, hc, q⟩ := h
  obtain ⟨u, w', rfl, rx, rc⟩ := vals2 r
  cases rx
  have hE : PySem.W.ExcAtH ea D s.heap := (I.hok ea _ hH).1
  have fin : ∀ tk, EP X pins σ Q (.bool b) { s with toks := tk } := fun tk => ⟨.bl b, H, I.tok tk, rfl, q⟩
  rcases hc with ⟨n, rfl, e⟩ | ⟨C, rfl, e⟩ | ⟨p, Cs, rfl, hp, e⟩
  · cases rc
    exact PySem.W.kia_one (PySem.W.kitx_exc T) I.kIn hE e (fun z => nomatch z) fin
  · cases rc
    exact PySem.W.kia_one (PySem.W.kitx_exc T) I.kIn hE e (fun z => nomatch z) fin
  · cases rc
    obtain ⟨_, its, rv, o, ho, hcl, n, hd⟩ := (show ObjOk X.prog X.w H s.heap p (.tup (Cs.map V.ref)) from I.hok p _ hp)
    have ei : its = Cs.map Value.ref := vals_refs rv
    obtain ⟨cls, dd, data, sl⟩ := o
    have hcl' : cls = .type "tuple" := hcl
    have hd' : data = .seq its.toArray n := hd
    subst hcl' hd'
    exact PySem.W.kia_tup (PySem.W.kitx_exc T) I.kIn hE ho (by rw [ei]; exact e) (fun z => nomatch z) fin
end
end L2
set_option Elab.async false
set_option linter.all false
set_option maxRecDepth 100000
set_option maxHeartbeats 4000000
namespace L2
open PySem PySem.Spec PyProof.Rows
theorem comp_by {J : It} {g : TG} {tc : TT} {te : TE} {σ0 : St} {H : Hp} {Q : VK} (n : Nat) (Pv : Nat → List V → Hp → Prop) (hz : n < sizeLine) (hgo : ∀ i ys H, i < n → Pv i ys H → J.go i H) (hstop : ∀ ys H, Pv n ys H → J.stop n H) (h0 : Pv 0 [] H)
    (hs : ∀ i ys H x H' (N : List V → Hp → Prop), i < n → Pv i ys H → J.yld i H x H' → (∀ ys' H2, Pv (i + 1) ys' H2 → N ys' H2) →
      g x σ0 H' fun σ2 H2 => tc σ2 H2 fun b H3 => if b = true then te σ2 H3 fun y H4 => N (ys ++ [y]) H4 else N ys H3)
    (hd : ∀ ys H, Pv n ys H → ys.length ≤ n → ∀ p, H p = none → Q (.ref p) (upd H p (.lst ys))) :
    CompR J g tc te σ0 Q H := by
  refine ⟨fun i m ys H => m = n - i ∧ i ≤ n ∧ ys.length ≤ i ∧ Pv i ys H, ⟨n, by simp, Nat.zero_le _, Nat.le_refl _, h0⟩, ?_⟩
  rintro i m ys H ⟨rfl, hi, hl, p⟩
  by_cases hlt : i < n
  · refine .inr ⟨hgo i ys H hlt p, by (clear hlt; omega), fun x H' y => ?_⟩
    have key := hs i ys H x H' (fun ys' H2 => (ys'.length ≤ ys.length + 1 → ∃ m', m' < n - i ∧ m' = n - (i + 1) ∧ i + 1 ≤ n ∧ ys'.length ≤ i + 1 ∧ Pv (i + 1) ys' H2)) hlt p y (fun ys' H2 q hle => ⟨n - (i + 1), by (clear hle hl hi hz; omega), rfl, hlt, by (clear hlt hi hz; omega), q⟩)
    have e : (fun σ2 H2 => tc σ2 H2 fun b H3 => if b = true then te σ2 H3 fun y H4 => ((ys ++ [y]).length ≤ ys.length + 1 → ∃ m', m' < n - i ∧ m' = n - (i + 1) ∧ i + 1 ≤ n ∧ (ys ++ [y]).length ≤ i + 1 ∧ Pv (i + 1) (ys ++ [y]) H4)
        else (ys.length ≤ ys.length + 1 → ∃ m', m' < n - i ∧ m' = n - (i + 1) ∧ i + 1 ≤ n ∧ ys.length ≤ i + 1 ∧ Pv (i + 1) ys H3)) =
      (fun σ2 H2 => tc σ2 H2 fun b H3 => if b = true then te σ2 H3 fun y H4 => ∃ m', m' < n - i ∧ m' = n - (i + 1) ∧ i + 1 ≤ n ∧ (ys ++ [y]).length ≤ i + 1 ∧ Pv (i + 1) (ys ++ [y]) H4
        else ∃ m', m' < n - i ∧ m' = n - (i + 1) ∧ i + 1 ≤ n ∧ ys.length ≤ i + 1 ∧ Pv (i + 1) ys H3) := by
      funext σ2 H2
      congr 1
      funext b H3
      have e1 : ∀ (y : V) (H4 : Hp), ((ys ++ [y]).length ≤ ys.length + 1 → ∃ m', m' < n - i ∧ m' = n - (i + 1) ∧ i + 1 ≤ n ∧ (ys ++ [y]).length ≤ i + 1 ∧ Pv (i + 1) (ys ++ [y]) H4) = (∃ m', m' < n - i ∧ m' = n - (i + 1) ∧ i + 1 ≤ n ∧ (ys ++ [y]).length ≤ i + 1 ∧ Pv (i + 1) (ys ++ [y]) H4) := fun y H4 =>
        propext ⟨fun q => q (by simp), fun q _ => q⟩
      have e2 : (ys.length ≤ ys.length + 1 → ∃ m', m' < n - i ∧ m' = n - (i + 1) ∧ i + 1 ≤ n ∧ ys.length ≤ i + 1 ∧ Pv (i + 1) ys H3) = (∃ m', m' < n - i ∧ m' = n - (i + 1) ∧ i + 1 ≤ n ∧ ys.length ≤ i + 1 ∧ Pv (i + 1) ys H3) := propext ⟨fun q => q (by (clear hlt hl hi hz; omega)), fun q _ => q⟩
      simp only [e1, e2]
    rw [e] at key
    exact key
  · have e : i = n := by (clear hl hz; omega)
    subst e
    exact .inl ⟨hstop ys H p, by (clear hlt hi; omega), hd ys H p hl⟩
theorem comp_itr {lo : Int} {n : Nat} {g : TG} {tc : TT} {te : TE} {σ0 : St} {H : Hp} {Q : VK} (Pv : Nat → List V → Hp → Prop) (hz : n < sizeLine) (h0 : Pv 0 [] H)
    (hs : ∀ i ys H (N : List V → Hp → Prop), i < n → Pv i ys H → (∀ ys' H2, Pv (i + 1) ys' H2 → N ys' H2) →
      g (.int (lo + i)) σ0 H fun σ2 H2 => tc σ2 H2 fun b H3 => if b = true then te σ2 H3 fun y H4 => N (ys ++ [y]) H4 else N ys H3)
    (hd : ∀ ys H, Pv n ys H → ys.length ≤ n → ∀ p, H p = none → Q (.ref p) (upd H p (.lst ys))) : CompR (Itr lo n) g tc te σ0 Q H := comp_by n Pv hz (fun i ys H hi _ => hi) (fun ys H _ => Nat.le_refl _) h0
  (fun i ys H v H' N hi p y hN => by
    obtain ⟨e, e2⟩ := y
    subst e e2
    exact hs i ys _ N hi p hN) hd
theorem comp_itl {K : PySem.W.Frag} {a : Addr} {xs : List V} {g : TG} {tc : TT} {te : TE} {σ0 : St} {H : Hp} {Q : VK} (Pv : Nat → List V → Hp → Prop) (hz : xs.length < sizeLine) (hl : ∀ i ys H, Pv i ys H → SqL K H a xs) (h0 : Pv 0 [] H)
    (hs : ∀ i x ys H (N : List V → Hp → Prop), xs[i]? = some x → Pv i ys H → (∀ ys' H2, Pv (i + 1) ys' H2 → N ys' H2) →
      g x σ0 H fun σ2 H2 => tc σ2 H2 fun b H3 => if b = true then te σ2 H3 fun y H4 => N (ys ++ [y]) H4 else N ys H3)
    (hd : ∀ ys H, Pv xs.length ys H → ys.length ≤ xs.length → ∀ p, H p = none → Q (.ref p) (upd H p (.lst ys))) : CompR (Itl K a) g tc te σ0 Q H := comp_by xs.length Pv hz
  (fun i ys H hi p => ⟨xs, xs[i], hl i ys H p, by simp [hi]⟩) (fun ys H p => ⟨xs, hl _ ys H p, Nat.le_refl _⟩) h0
  (fun i ys H v H' N hi p y hN => by
    obtain ⟨e, y⟩ := y
    subst e
    exact hs i v ys _ N (y xs (hl i ys _ p)) p hN) hd
@[elab_as_elim] theorem us1 {α : Type} {p : List α → Prop} (h : ∀ a, p [a]) (us : List α) (hl : us.length = 1) : p us := by
  obtain ⟨a, rfl⟩ := List.length_eq_one_iff.mp hl
  exact h a
@[elab_as_elim] theorem us2 {α : Type} {p : List α → Prop} (h : ∀ a b, p [a, b]) (us : List α) (hl : us.length = 2) : p us := by
  cases us with
  | nil => cases hl
  | cons a r => exact @us1 _ (fun r => p (a :: r)) (fun b => h a b) r (Nat.succ.inj hl)
@[elab_as_elim] theorem us3 {α : Type} {p : List α → Prop} (h : ∀ a b c, p [a, b, c]) (us : List α) (hl : us.length = 3) : p us := by
  cases us with
  | nil => cases hl
  | cons a r => exact @us2 _ (fun r => p (a :: r)) (fun b c => h a b c) r (Nat.succ.inj hl)
@[elab_as_elim] theorem us4 {α : Type} {p : List α → Prop} (h : ∀ a b c d, p [a, b, c, d]) (us : List α) (hl : us.length = 4) : p us := by
  cases us with
  | nil => cases hl
  | cons a r => exact @us3 _ (fun r => p (a :: r)) (fun b c d => h a b c d) r (Nat.succ.inj hl)
end L2
set_option Elab.async false
set_option linter.all false
set_option maxRecDepth 100000
set_option maxHeartbeats 4000000
namespace L2
open PySem PySem.Spec PyProof.Rows
section
variable {X : Cx}
end
end L2
set_option Elab.async false
set_option linter.all false
set_option maxRecDepth 100000
set_option maxHeartbeats 4000000
namespace L2
open PySem PySem.Spec PyProof.Rows
section
variable {X : Cx}
end
end L2
set_option Elab.async false
set_option linter.all false
set_option maxRecDepth 100000
set_option maxHeartbeats 4000000
namespace L2
open PySem PySem.Spec PyProof.Rows
section
variable {X : Cx}
end
end L2
set_option Elab.async false
set_option linter.all false
set_option maxRecDepth 100000
set_option maxHeartbeats 4000000
namespace L2
open PySem PySem.Spec PyProof.Rows
noncomputable def Iel (a : Addr) : It := ⟨fun i H => ∃ xs x, H a = some (.lst xs) ∧ xs[i]? = some x, fun i H v H' => ∃ T x, H T = none ∧ (∀ xs, H a = some (.lst xs) → xs[i]? = some x) ∧ v = .ref T ∧ H' = upd H T (.tup [.int i, x]), fun i H => ∃ xs, H a = some (.lst xs) ∧ i = xs.length⟩
theorem turn_enumL {P : Program} {w : World} {K : PySem.W.Frag} {elts : List Expr} {k : Nat} {pos : Pos} (a e it : Addr) (hei : e ≠ it) :
    Turn P w K (.Tuple elts k pos) (Iel a) [e, it] e (fun i h => (∃ old, IsEnum h e it i old) ∧ h.IsListIter it a i) where
  mem := by simp
  obj := fun i h st b hb => by
    obtain ⟨⟨old, he⟩, o, ho, c, d⟩ := st
    rcases List.mem_cons.mp hb with rfl | hb
    · exact ⟨_, he, fun v z => nomatch z⟩
    · have e : b = it := by simpa using hb
      subst e
      exact ⟨o, ho, fun v z => by rw [d] at z; cases z⟩
  keep := fun i h h' st kk => by
    obtain ⟨⟨old, he⟩, o, ho, r⟩ := st
    exact ⟨⟨old, kk e (by simp) _ he⟩, o, kk it (by simp) o ho, r⟩
  item := by
    intro X hP hw hK hc i pins s σ H E I hf st hg
    subst hP hw hK
    obtain ⟨xs, x, hH, hx⟩ := hg
    obtain ⟨its, rv, p, hz⟩ := I.list (SqL.of hH)
    obtain ⟨u, hu, ru⟩ := rv.get hx
    have hae : a ≠ e := fun z => by rw [z, (hf e (by simp)).1] at hH; cases hH
    have hai : a ≠ it := fun z => by rw [z, (hf it (by simp)).1] at hH; cases hH
    have hil : i < its.toArray.size := by
      have := (List.getElem?_eq_some_iff.mp hu).1
      simpa using this
    have W := WalksT.enumerateD (Draws.list (prog := X.prog) (w := X.w) (A := X.A.in1) (I.ok.hd hc) it a hai its.toArray) e hei (by simp [hei, Ne.symm hae]) (by simp)
    refine W.item i s _ _ hil ⟨st.1, st.2, p.isList⟩ fun T vals h' tk hv hT ht mid kk => ⟨_, rfl, ?_⟩
    obtain ⟨t', y, hy, rfl⟩ := hv
    have hyu : y = u := by
      have h1 : its[i]? = some y := by simpa using hy
      rw [hu] at h1
      exact (Option.some.inj h1).symm
    subst hyu
    refine W.go elts k pos i T _ _ _ mid fun h'' st'' kk2 => ?_
    have keep : ∀ b o, b ∉ [e, it] → s.heap.get? b = some o → h''.get? b = some o := fun b o hb q => kk2 b o hb (kk b o hb q)
    have I1 : Inv X pins σ H { s with heap := h'', toks := tk } := I.turnedL keep hf
    have hn : H T = none := I.hok.fresh hT
    have hTn : T ∉ [e, it] := W.apart i T h' mid
    obtain ⟨ot, hot, hct, n, hdt⟩ := ht
    have I2 : Inv X pins σ (upd H T (.tup [.int i, x])) { s with heap := h'', toks := tk } := by
      refine I1.track (.inl (Heap.get?_none_of_le (Nat.le_trans I.sz hT))) hn (Nat.ne_of_gt (Nat.lt_of_lt_of_le I.lt hT)) (fun y c' q z => ?_) (fun p hp z => ?_) ?_
      · obtain ⟨v, q'⟩ := I.cell y c' q
        exact absurd (Nat.lt_of_lt_of_le q'.lt (by rw [z]; exact hT)) (Nat.lt_irrefl _)
      · exact absurd (Nat.lt_of_lt_of_le (Heap.lt_size (I.pin p hp).1) (by rw [z]; exact hT)) (Nat.lt_irrefl _)
      · exact ⟨by show 2 ≤ sizeLine; decide, [.int i t', y], .cons ⟨_, rfl⟩ (.cons ru .nil), ot, kk2 T ot hTn hot, hct, n, hdt⟩
    refine ⟨.ref T, _, I2, rfl, ⟨T, x, hn, (fun ys hy' => ?_), rfl, rfl⟩, ⟨st''.1, st''.2.1⟩, fun b hb => ?_⟩
    · rw [hH] at hy'
      cases hy'
      exact hx
    · have hbT : b ≠ T := fun z => hTn (z ▸ hb)
      rw [upd_ne hbT]
      exact (hf b hb).1
  done := by
    intro X hP hw hK hc i pins s σ H E I hf st hg
    subst hP hw hK
    obtain ⟨xs, hH, hx⟩ := hg
    obtain ⟨its, rv, p, hz⟩ := I.list (SqL.of hH)
    have hl := rv.length
    have hae : a ≠ e := fun z => by rw [z, (hf e (by simp)).1] at hH; cases hH
    have hai : a ≠ it := fun z => by rw [z, (hf it (by simp)).1] at hH; cases hH
    have W := WalksT.enumerateD (Draws.list (prog := X.prog) (w := X.w) (A := X.A.in1) (I.ok.hd hc) it a hai its.toArray) e hei (by simp [hei, Ne.symm hae]) (by simp)
    have hi : i = its.toArray.size := by rw [hx, hl]; simp
    subst hi
    exact W.done s _ _ ⟨st.1, st.2, p.isList⟩ fun h' tk kk => ⟨rfl, I.turnedL kk hf⟩
  self := fun A i s Q E st h => by
    obtain ⟨⟨old, he⟩, _⟩ := st
    exact wpAny_pyIter_enum he h
noncomputable def iEnumL (ta : TA) : TI := fun σ H R => ta σ H fun vs H1 => ∃ (a : Addr) (xs : List V), vs = [.ref a] ∧ H1 a = some (.lst xs) ∧ R (Iel a) H1
section
variable {X : Cx}
theorem pi_enumL {elts : List Expr} {k : Nat} {tpos p pos : Pos} {a : Expr} {ta : TA} (hg : Gl X "enumerate") (hm : X.mg "enumerate" = none) (ha : PA X [a] ta) (hs : starEach [a] X.env = [(false, eval a X.env)] := by rfl) :
    PI X (.Tuple elts k tpos) (.Call (.Name "enumerate" p) [a] [] pos) (iEnumL ta) := by
  intro pins s σ H R I h
  refine Call_ (ld_blt I hg hm boot_enumerate (PyProof.Rows.callWith_type1 (thn (ha pos pins s σ H _ I h) fun us s1 ⟨vs, H1, I1, r1, q1⟩ => ?_) hs rfl))
  obtain ⟨l, xs, e, hH, q⟩ := q1
  subst e
  obtain ⟨u, rfl, ru⟩ := vals1 r1
  cases ru
  obtain ⟨its, rv, pl, hz⟩ := I1.list (SqL.of hH)
  refine call_enumerate_list pl.isList fun h' he hit hsz hk => ?_
  refine wpAny_pyIter_enum he ?_
  refine ⟨s1.heap.objs.size + 1, [s1.heap.objs.size + 1, s1.heap.objs.size], _, _, H1, rfl, I1.kept (t' := s1.toks) hk, turn_enumL l _ _ (Nat.succ_ne_self _), ⟨⟨_, he⟩, hit⟩, fun b hb => ?_, q⟩
  rcases List.mem_cons.mp hb with rfl | hb
  · exact I1.fpOk (Nat.le_succ _) (I1.hok.fresh (Nat.le_succ _))
  · have e : b = s1.heap.objs.size := by simpa using hb
    subst e
    exact I1.fpOk (Nat.le_refl _) (I1.hok.fresh (Nat.le_refl _))
end
theorem for_iel {a : Addr} {xs : List V} {g : TG} {tb : TS} {D : Ends} {σ : St} {H : Hp} (Pv : Nat → St → Hp → Prop) (h0 : Pv 0 σ H) (hl : ∀ i σ H, i ≤ xs.length → Pv i σ H → H a = some (.lst xs))
    (hs : ∀ i x σ H T, xs[i]? = some x → Pv i σ H → H T = none → g (.ref T) σ (upd H T (.tup [.int i, x])) fun σ2 H2 => tb { D with nx := Pv (i + 1), ct := Pv (i + 1), bk := D.nx } σ2 H2) (hd : ∀ σ H, Pv xs.length σ H → D.nx σ H) :
    ∃ W : Nat → Nat → St → Hp → Prop, (∃ m, W 0 m σ H) ∧ ∀ i m σ H, W i m σ H →
      ((Iel a).stop i H ∧ D.nx σ H) ∨ ((Iel a).go i H ∧ ∃ N : St → Hp → Prop, (∀ σ' H', N σ' H' → ∃ m', m' < m ∧ W (i + 1) m' σ' H') ∧ ∀ x H', (Iel a).yld i H x H' → g x σ H' fun σ2 H2 => tb { D with nx := N, ct := N, bk := D.nx } σ2 H2) := by
  refine ⟨fun i m σ H => m = xs.length - i ∧ i ≤ xs.length ∧ Pv i σ H, ⟨xs.length, by simp, Nat.zero_le _, h0⟩, ?_⟩
  rintro i m σ H ⟨rfl, hi, p⟩
  have q := hl i σ H hi p
  by_cases hlt : i < xs.length
  · refine .inr ⟨⟨xs, xs[i], q, by simp [hlt]⟩, Pv (i + 1), fun σ' H' p' => ⟨xs.length - (i + 1), by omega, rfl, hlt, p'⟩, fun x H' y => ?_⟩
    obtain ⟨T, z, hT, hz, rfl, rfl⟩ := y
    exact hs i z σ H T (hz xs q) p hT
  · have e : i = xs.length := by omega
    subst e
    exact .inl ⟨⟨xs, q, rfl⟩, hd σ H p⟩
end L2
set_option Elab.async false
set_option linter.all false
set_option maxRecDepth 100000
set_option maxHeartbeats 4000000
namespace L2
open PySem PySem.Spec PyProof.Rows
section
variable {X : Cx} {CX : CXT} {k : Nat} {f C : Addr} {fd : FuncData} {ps : List Str} {ds : List Value} {dvs : List V} {sp : Sp} {m : Str} {pos apos : Pos} {e o : Expr} {es : List Expr} {ta : TE} {t : TA} {E : St → XK}
end
end L2
set_option Elab.async false
set_option linter.all false
set_option maxRecDepth 100000
set_option maxHeartbeats 4000000
namespace L2
open PySem PySem.Spec PyProof.Rows
section
variable {X : Cx}
noncomputable def rInsN : V → List V → Hp → VK → Prop := fun x vs H Q => ∃ (l : Addr) (xs : List V) (j : Int) (i : Nat) (y : V), x = .ref l ∧ vs = [.int j, y] ∧ j = (i : Int) ∧ H l = some (.lst xs) ∧ i ≤ xs.length ∧ xs.length < 1000000 ∧ Q .non (upd H l (.lst (xs.take i ++ y :: xs.drop i)))
theorem insN_eq {its : List Value} {w' : Value} {j : Int} {i : Nat} (hj : j = (i : Int)) (hi : i ≤ its.length) : (fun xs : Array Value => have k := if j < 0 then (j + (xs.size : Int)).toNat else min j.toNat xs.size; (xs.extract 0 k).push w' ++ xs.extract k) its.toArray = (its.take i ++ w' :: its.drop i).toArray := by
  have h1 : ¬ (j < 0) := by omega
  have h2 : min j.toNat its.toArray.size = i := by rw [List.size_toArray, hj, Int.toNat_natCast]; omega
  dsimp only
  rw [if_neg h1, h2]
  simp
  exact List.take_of_length_le (by rw [List.length_drop]; exact Nat.le_refl _)
theorem mt_insN : MtM X "list.insert" rInsN := by
  intro pins s σ H x vs v us Q I rx rv h
  obtain ⟨l, xs, j, i, y, rfl, rfl, hj, hH, hi, hz, q⟩ := h
  cases rx
  obtain ⟨u, w', rfl, ⟨t, rfl⟩, rw'⟩ := rv.two
  obtain ⟨z, its, n, r, hl, e⟩ := I.lstM hH
  have hs : (sizeLine : Nat) = 16777216 := sizeLine_eq
  have hfit : Builtin.List.listFitsIndex j = true := fitsIndex_both (by omega) (by omega)
  have hsz : its.toArray.size ≤ sizeLine := by rw [List.size_toArray]; omega
  refine call_meets F.slot_list_insert ⟨_, e, rfl⟩ F.entry_list_insert (F.args_list_insert_3 _ _ _) (AutoSeq1.list_insert_list_int_val_1 l its.toArray n j t w' (by simp [hfit]) hsz) ⟨e, ?_⟩
  refine ⟨.non, _, I.lset (its' := its.take i ++ w' :: its.drop i) hH e (insN_eq hj (by omega)) ((r.take i).append (.cons rw' (r.drop i))) ?_, rfl, q⟩
  rw [List.length_append, List.length_cons, List.length_take, List.length_drop]
  omega
end
end L2
set_option Elab.async false
set_option linter.all false
set_option maxRecDepth 100000
set_option maxHeartbeats 4000000
namespace L2
open PySem PySem.Spec PyProof.Rows
section
variable {X : Cx}
end
end L2
set_option Elab.async false
set_option linter.all false
set_option maxRecDepth 100000
set_option maxHeartbeats 4000000
namespace Gn
open PySem L2 PyProof.Rows PySem.Spec
section
variable {P : Program} {w : World} {K : PySem.W.Frag} {mg : Str → Option Value} {base h : Heap}
noncomputable def isIntV : V → Bool
  | .int _ => true
  | .bl _ => true
  | _ => false
noncomputable def isBlV : V → Bool
  | .bl _ => true
  | _ => false
noncomputable def Known (K : PySem.W.Frag) (H : Hp) (x : V) : Prop := ∃ n, TyOf K H x (.type n)
theorem kit_int {K : PySem.W.Frag} {H : Hp} {x : V} {n : String} (h : TyOf K H x (.type n)) : PySem.W.kitOne K (.type n) (.type "int") = some (isIntV x) := by
  cases h <;> kernel_rfl
theorem kit_bool {K : PySem.W.Frag} {H : Hp} {x : V} {n : String} (h : TyOf K H x (.type n)) : PySem.W.kitOne K (.type n) (.type "bool") = some (isBlV x) := by
  cases h <;> kernel_rfl
theorem Known.same {K : PySem.W.Frag} {H H' : Hp} {x : V} (h : Known K H x) (e : Same H H') : Known K H' x := by
  obtain ⟨n, h⟩ := h
  cases h with
  | non => exact ⟨_, .non⟩
  | bl b => exact ⟨_, .bl b⟩
  | int i => exact ⟨_, .int i⟩
  | str z => exact ⟨_, .str z⟩
  | flt z => exact ⟨_, .flt z⟩
  | lst q => exact ⟨_, .lst (e _ _ q)⟩
  | frz q => exact ⟨_, .frz (e _ _ q)⟩
  | tup q => exact ⟨_, .tup (e _ _ q)⟩
  | dK q => exact ⟨_, .dK (e _ _ q)⟩
  | dT q => exact ⟨_, .dT (e _ _ q)⟩
theorem same_upd {H : Hp} {a : Addr} {o : HO} (h : H a = none) : Same H (upd H a o) := fun b u e => by rw [upd_ne (ne_of_none e h)]; exact e
theorem Same.upd {H H' : Hp} {a : Addr} {o : HO} (s : Same H H') (h : H' a = none) : Same H (upd H' a o) := s.trans (same_upd h)
structure Df (K : PySem.W.Frag) (mg : Str → Option Value) (x : Str) (st : Stmt) (f : Addr) (fd : FuncData) : Prop where
  F : Fun K x x st f fd
  m : mg x = some (.ref f)
theorem b_isi : bootBuiltins "isinstance" = some (.builtin "isinstance") := by decide +kernel
theorem b_int : bootBuiltins "int" = some (.type "int") := by decide +kernel
theorem b_bool : bootBuiltins "bool" = some (.type "bool") := by decide +kernel
theorem b_list : bootBuiltins "list" = some (.type "list") := by decide +kernel
theorem b_tuple : bootBuiltins "tuple" = some (.type "tuple") := by decide +kernel
theorem b_len : bootBuiltins "len" = some (.builtin "len") := by decide +kernel
theorem b_all : bootBuiltins "all" = some (.builtin "all") := by decide +kernel
theorem b_val : bootBuiltins "ValueError" = some (.type "ValueError") := by decide +kernel
theorem binds1 {x p : Str} {st : Stmt} {f : Addr} {fd : FuncData} (F : Fun K x x st f fd)
    (h : ∀ (kV doc pm : Value) (an : Option Addr) (cdv ct : Value) (u : Value), bindArgs (PySem.W.fnOf x x (defArgs st) (defBody st) (defScope st) .none kV doc pm an cdv ct) ⟨[u], []⟩ = pure ([p].zip [u])) : Binds K fd [p] [] :=
  F.binds fun kV doc pm an cdv ct us hl => match us, hl with | [u], _ => h kV doc pm an cdv ct u
theorem g1 {i : Nat} {v : V} {σ : L2.St} {H : Hp} {te : TE} {M : V → Hp → Prop} {N0 : Hp → Prop} (h : te (σ.set i (some v)) H M) : gName i v σ H fun σ2 H2 => tNoIf σ2 H2 fun b H3 => if b = true then te σ2 H3 M else N0 H3 := by
  show if true = true then te (σ.set i (some v)) H M else N0 H
  exact iteT h
structure Ex (K : PySem.W.Frag) (mg : Str → Option Value) (x : Str) (C : Addr) : Prop where
  m : mg x = some (.ref C)
  q : PySem.W.excIn K C [.type "ValueError", .type "Exception", .type "BaseException", .type "object"] "ValueError.__new__" = true
structure DfD (K : PySem.W.Frag) (mg : Str → Option Value) (x : Str) (st : Stmt) (f : Addr) (fd : FuncData) (items : Array Value) : Prop where
  ex : ∃ (oc : Value) (od : Option Addr) (kV doc pm : Value) (an : Option Addr) (cdv ct : Value) (osl : Array (Option Value)) (T : Addr) (o : Obj) (n : Nat),
    fd = PySem.W.fnOf x x (defArgs st) (defBody st) (defScope st) (.ref T) kV doc pm an cdv ct ∧ K.lookup f = some ⟨oc, od, .func fd, osl⟩ ∧ PySem.W.codeIn K cdv x = true ∧ K.lookup T = some o ∧ o.data = .seq items n
  kp : PySem.W.keepIn K (.ref f) = true
  m : mg x = some (.ref f)
theorem DfD.ok1 {x : Str} {st : Stmt} {f : Addr} {fd : FuncData} {items : Array Value} {N ps : List Str} {k : Nat} {sp : Sp} (F : DfD K mg x st f fd items) (S : FnScope N ps (defScope st)) (len : ∀ vs H Q E, sp vs H Q E → vs.length = ps.length)
    (hbody : ∀ (cdv : Value) (A : Around) (outer : List Env) (s : Shared) (H : Hp) (vs : List V) (Q : VK) (E : XK), Room k (A.deeper (envOfC x (defScope st) s.heap.objs.size f cdv)) → sp vs H Q E →
      ∃ t, PSs (cxOf (CX1 P w) P w K mg base N x (defScope st) f cdv A outer s H E) (defBody st) t ∧ t { nx := fun _ H' => Q .non H', rt := Q } (L2.start N vs) H) : FnOk P w K mg base (CX1 P w) (k + 1) f fd ps sp := by
  obtain ⟨oc, od, kV, doc, pm, an, cdv, ct, osl, T, o, n, rfl, lk, hcd, _⟩ := F.ex
  exact fn_of lk hcd S len fun A outer s H vs Q E hr hsp => hbody cdv A outer s H vs Q E hr hsp
theorem DfD.binds {x : Str} {st : Stmt} {f : Addr} {fd : FuncData} {items : Array Value} {ps : List Str} {ds : List Value} (F : DfD K mg x st f fd items)
    (h : ∀ (T : Addr) (kV doc pm : Value) (an : Option Addr) (cdv ct : Value) (us : List Value), (us ++ ds).length = ps.length → ∃ k : Option (Array Value) → Sem (List (Str × Value)),
      bindArgs (PySem.W.fnOf x x (defArgs st) (defBody st) (defScope st) (.ref T) kV doc pm an cdv ct) ⟨us, []⟩ = seqItems? (.ref T) >>= k ∧ k (some items) = pure (ps.zip (us ++ ds))) : Binds K fd ps ds := by
  obtain ⟨oc, od, kV, doc, pm, an, cdv, ct, osl, T, o, n, rfl, lk, hcd, lT, hd⟩ := F.ex
  intro s us X hl
  obtain ⟨k, h1, h2⟩ := h T kV doc pm an cdv ct us hl
  exact BindsTo.of_defaults (T := T) rfl (X _ _ lT) hd h1 h2
noncomputable def goodN (x : V) (least : Int) (most : Option Int) : Bool := match x with
  | .int i => decide (least ≤ i) && (match most with | none => true | some m => decide (i ≤ m))
  | _ => false
noncomputable def mostV : Option Int → V
  | none => .non
  | some m => .int m
noncomputable def spNNum (K : PySem.W.Frag) (C : Addr) : Sp := fun vs H Q E => ∃ (x : V) (l : Int) (m : Option Int), vs = [x, .int l, mostV m] ∧ Known K H x ∧ (goodN x l m = true → Q x H) ∧ (goodN x l m = false → E (.ref C) none H)
theorem dt_ints {K : PySem.W.Frag} {H : Hp} : ∀ (ns : List Int), DtVs K H (ns.map V.int) (ns.map PyData.int)
  | [] => .nil
  | n :: ns => .cons (.int n) (dt_ints ns)
theorem lay_ints : ∀ (ns : List Int), (PyData.list (ns.map PyData.int)).canLay0 = true := by
  intro ns
  induction ns with
  | nil => rfl
  | cons n ns ih => exact ih
theorem Paired.imp2 {α β : Type} {F G : α → β → Prop} : ∀ {l : List α} {m : List β}, Paired F l m → (∀ a b, F a b → G a b) → Paired G l m
  | _, _, .nil, _ => .nil
  | _, _, .cons r t, f => .cons (f _ _ r) (Paired.imp2 t f)
theorem Paired.app {α β : Type} {F : α → β → Prop} {a : α} {b : β} : ∀ {l : List α} {m : List β}, Paired F l m → F a b → Paired F (l ++ [a]) (m ++ [b])
  | _, _, .nil, h => .cons h .nil
  | _, _, .cons r t, h => .cons r (Paired.app t h)
theorem Paired.len {α β : Type} {F : α → β → Prop} : ∀ {l : List α} {m : List β}, Paired F l m → l.length = m.length
  | _, _, .nil => rfl
  | _, _, .cons _ t => by simp [Paired.len t]
theorem PS.nox {X : Cx} {st : Stmt} {t : TS} (h : PS X.nox st t) : PS X st t := fun pins s σ H D I hw =>
  wpAny_mono (h pins s σ H D (I.wish _) hw) (fun _ _ q => q.unwish) fun _ _ z => False.elim z
theorem paired_get {α β : Type} {F : α → β → Prop} : ∀ {l : List α} {m : List β}, Paired F l m → ∀ {i : Nat} {a : α}, l[i]? = some a → ∃ b, m[i]? = some b ∧ F a b
  | _, _, .nil, i, a, h => by simp at h
  | _, _, .cons r t, 0, a, h => by simp at h; subst h; exact ⟨_, rfl, r⟩
  | _, _, .cons r t, i + 1, a, h => by
    obtain ⟨b, h1, h2⟩ := paired_get t (i := i) (a := a) (by simpa using h)
    exact ⟨b, by simpa using h1, h2⟩
theorem mod_ix {r n : Int} (hn : 0 < n) : ∃ j : Nat, (j : Int) = r % n ∧ (j : Int) < n := by
  have h1 := Int.emod_nonneg r (show n ≠ 0 by omega)
  have h2 := Int.emod_lt_of_pos r hn
  exact ⟨(r % n).toNat, by omega, by omega⟩
noncomputable def tIfJ (c : TT) (t u : TS) : TS := fun D σ H => ∃ J : L2.St → Hp → Prop, (c σ H fun b H1 => if b = true then t { D with nx := J } σ H1 else u { D with nx := J } σ H1) ∧ ∀ σ' H', J σ' H' → D.nx σ' H'
theorem ps_ifJ {X : Cx} {c : Expr} {a b : List Stmt} {tc : TT} {t u : TS} {pos : Pos} (hc : PT X c tc) (ha : PSs X a t) (hb : PSs X b u) : PS X (.If c a b pos) (tIfJ tc t u) := by
  intro pins s σ H D I h
  obtain ⟨J, h1, h2⟩ := h
  refine thn (ps_if hc ha hb pins s σ H { D with nx := J } I h1) fun f s1 q => ?_
  cases f with
  | next => obtain ⟨σ', H', I', q⟩ := q; exact ⟨σ', H', I', h2 _ _ q⟩
  | brk => exact q
  | cont => exact q
  | ret u => exact q
theorem pickV {xs : List V} {n L : Int} (h0 : 0 < xs.length) (hL : L = (xs.length : Nat)) : ∃ v ∈ xs, atI xs (n % L) = some v := by
  obtain ⟨j, hj, hjl⟩ := mod_ix (r := n) (n := L) (by omega)
  have hj' : j < xs.length := by omega
  refine ⟨xs[j], List.getElem_mem hj', ?_⟩
  rw [← hj]
  exact atI_nat (List.getElem?_eq_getElem hj')
theorem ixPick {K : PySem.W.Frag} {H : Hp} {p : Addr} {xs : List V} {n L : Int} {Q : VK} (hp : H p = some (.lst xs)) (h0 : 0 < xs.length) (hL : L = (xs.length : Nat)) (h : ∀ v ∈ xs, Q v H) : rIxL K (.ref p) (.int (n % L)) H Q := by
  obtain ⟨v, hv, e⟩ := pickV (n := n) h0 hL
  exact ⟨p, xs, _, v, rfl, rfl, SqL.of hp, e, h v hv⟩
theorem dec_i {a b : Int} (h : a = b) : decide (V.int a = V.int b) = true := by subst h; exact decide_eq_true rfl
theorem dec_n {a b : Int} (h : a ≠ b) : decide (V.int a = V.int b) = false := decide_eq_false fun z => h (by injection z)
theorem PE.imp {X : Cx} {e : Expr} {t t' : TE} (h : PE X e t) (i : ∀ σ H Q, t' σ H Q → t σ H Q) : PE X e t' := fun pins s σ H Q I q => h pins s σ H Q I (i σ H Q q)
theorem ixPickP {K : PySem.W.Frag} {H : Hp} {p : Addr} {xs : List V} {n L : Int} {Q : VK} (R : V → Hp → Prop) (hp : H p = some (.lst xs)) (h0 : 0 < xs.length) (hL : L = (xs.length : Nat)) (hR : ∀ v ∈ xs, R v H) (h : ∀ v, R v H → Q v H) : rIxL K (.ref p) (.int (n % L)) H Q :=
  ixPick hp h0 hL fun v hv => h v (hR v hv)
theorem eqv_same {d : PyData} (h : d.canLay0 = true) : PyData.eqv d d = true := SeqAt.eqv_refl d h
noncomputable def rIsi (K : PySem.W.Frag) : List V → Hp → VK → Prop := fun xs H Q => ∃ x c t b, xs = [x, c] ∧ TyOf K H x t ∧
    ((∃ n, c = .ty n ∧ PySem.W.kitOne K t (.type n) = some b) ∨ (∃ C, c = .ref C ∧ PySem.W.kitOne K t (.ref C) = some b)) ∧ Q (.bl b) H
theorem call_isiK {X : Cx} {K : PySem.W.Frag} (h : X.K = K) : CallR X (.builtin "isinstance") (rIsi K) := by subst h; exact call_isi
theorem ix_listK {X : Cx} {K : PySem.W.Frag} (h : X.K = K) : IxR X (rIxL K) := by subst h; exact ix_list
theorem comp_itt {K : PySem.W.Frag} {a : Addr} {xs : List V} {g : TG} {tc : TT} {te : TE} {σ0 : L2.St} {H : Hp} {Q : VK} (Pv : Nat → List V → Hp → Prop) (hz : xs.length < sizeLine) (hl : ∀ i ys H, Pv i ys H → SqT K H a xs) (h0 : Pv 0 [] H)
    (hs : ∀ i x ys H (N : List V → Hp → Prop), xs[i]? = some x → Pv i ys H → (∀ ys' H2, Pv (i + 1) ys' H2 → N ys' H2) →
      g x σ0 H fun σ2 H2 => tc σ2 H2 fun b H3 => if b = true then te σ2 H3 fun y H4 => N (ys ++ [y]) H4 else N ys H3)
    (hd : ∀ ys H, Pv xs.length ys H → ys.length ≤ xs.length → ∀ p, H p = none → Q (.ref p) (upd H p (.lst ys))) : CompR (Itt K a) g tc te σ0 Q H := comp_by xs.length Pv hz
  (fun i ys H hi p => ⟨xs, xs[i], hl i ys H p, by simp [hi]⟩) (fun ys H p => ⟨xs, hl _ ys H p, Nat.le_refl _⟩) h0
  (fun i ys H v H' N hi p y hN => by
    obtain ⟨e, y⟩ := y
    subst e
    exact hs i v ys _ N (y xs (hl i ys _ p)) p hN) hd
theorem kit_tt {K : PySem.W.Frag} : PySem.W.kitOne K (.type "tuple") (.type "tuple") = some true := by kernel_rfl
theorem kit_ll {K : PySem.W.Frag} : PySem.W.kitOne K (.type "list") (.type "list") = some true := by kernel_rfl
theorem passN {P : Program} {w : World} {X : Cx} : Passes (CX1 P w) X E0 := fun _ _ _ _ _ _ _ h => (CX1.no h).elim
theorem df_mk {x : Str} {st : Stmt} {f : Addr} {oc kV doc pm cd ct : Value} {od an : Option Addr} {sl : Array (Option Value)} (X : K.In h) (G : h.Ns mainGlobals mg) (a : PySem.W.nsIn K mainGlobals x = some (some (.ref f)))
    (l : K.lookup f = some ⟨oc, od, .func (PySem.W.fnOf x x (defArgs st) (defBody st) (defScope st) .none kV doc pm an cd ct), sl⟩) (c : PySem.W.codeIn K cd x = true) (k : PySem.W.keepIn K (.ref f) = true) : ∃ f fd, Df K mg x st f fd :=
  ⟨f, _, fun_mk l c k, PySem.W.mg_of X G a⟩
theorem dfd_mk {x : Str} {st : Stmt} {f T : Addr} {oc kV doc pm cd ct tc : Value} {od an td : Option Addr} {sl tsl : Array (Option Value)} {items : Array Value} {tn : Nat} (X : K.In h) (G : h.Ns mainGlobals mg) (a : PySem.W.nsIn K mainGlobals x = some (some (.ref f)))
    (l : K.lookup f = some ⟨oc, od, .func (PySem.W.fnOf x x (defArgs st) (defBody st) (defScope st) (.ref T) kV doc pm an cd ct), sl⟩) (c : PySem.W.codeIn K cd x = true) (k : PySem.W.keepIn K (.ref f) = true)
    (t : K.lookup T = some ⟨tc, td, .seq items tn, tsl⟩) : ∃ f fd, DfD K mg x st f fd items :=
  ⟨f, _, ⟨oc, od, kV, doc, pm, an, cd, ct, sl, T, _, tn, rfl, l, c, t, rfl⟩, k, PySem.W.mg_of X G a⟩
end
end Gn
set_option Elab.async false
set_option linter.all false
set_option maxRecDepth 100000
set_option maxHeartbeats 4000000
namespace Gn
open PySem PySem.W PySem.Calls PyProof.Rows
end Gn
namespace Gn
open PySem L2 PyProof.Rows PySem.Spec
end Gn
set_option Elab.async false
set_option linter.all false
set_option maxRecDepth 100000
set_option maxHeartbeats 4000000
namespace Gn
open PySem L2 PyProof.Rows PySem.Spec
section
variable {X : Cx}
noncomputable def rIsiE (K : PySem.W.Frag) : List V → Hp → VK → Prop := fun xs H Q => ∃ ea D c b, xs = [.ref ea, c] ∧ H ea = some (ExcO ea D) ∧ PySem.W.ExcCls K D ∧
    ((∃ n, c = .ty n ∧ PySem.W.kitOne K (.ref D) (.type n) = some b) ∨ (∃ C, c = .ref C ∧ PySem.W.kitOne K (.ref D) (.ref C) = some b) ∨
      (∃ (p : Addr) (Cs : List Addr), c = .ref p ∧ H p = some (.tup (Cs.map V.ref)) ∧ PySem.W.kitAny K (.ref D) (Cs.map Value.ref) = some b)) ∧ Q (.bl b) H
theorem call_isiEK {X : Cx} {K : PySem.W.Frag} (h : X.K = K) : CallR X (.builtin "isinstance") (rIsiE K) := by subst h; exact call_isiE
end
theorem cut_take (xs : List V) (k : Nat) : cutV xs none (some (k : Int)) = xs.take k := by
  unfold cutV
  rw [HT.sIx_nat, HT.sIx_none, List.drop_zero, Nat.sub_zero]
  by_cases h : k ≤ xs.length
  · rw [Nat.min_eq_left h]
  · rw [Nat.min_eq_right (by omega), List.take_of_length_le (Nat.le_refl _), List.take_of_length_le (by omega)]
theorem Paired.tk {α β : Type} {F : α → β → Prop} : ∀ (n : Nat) {l : List α} {m : List β}, Paired F l m → Paired F (l.take n) (m.take n)
  | 0, _, _, _ => .nil
  | _ + 1, _, _, .nil => .nil
  | n + 1, _, _, .cons r t => .cons r (Paired.tk n t)
theorem Paired.dp {α β : Type} {F : α → β → Prop} : ∀ (n : Nat) {l : List α} {m : List β}, Paired F l m → Paired F (l.drop n) (m.drop n)
  | 0, _, _, h => h
  | _ + 1, _, _, .nil => .nil
  | n + 1, _, _, .cons _ t => Paired.dp n t
theorem Paired.cat {α β : Type} {F : α → β → Prop} : ∀ {l : List α} {m : List β} {l' : List α} {m' : List β}, Paired F l m → Paired F l' m' → Paired F (l ++ l') (m ++ m')
  | _, _, _, _, .nil, h => h
  | _, _, _, _, .cons r t, h => .cons r (Paired.cat t h)
theorem Paired.at {α β : Type} {F : α → β → Prop} : ∀ {l : List α} {m : List β}, Paired F l m → ∀ {i : Nat} {b : β}, m[i]? = some b → ∃ a, l[i]? = some a ∧ F a b
  | _, _, .nil, i, b, h => by cases i <;> cases h
  | _, _, .cons r t, 0, b, h => by
    have e := Option.some.inj h
    subst e
    exact ⟨_, rfl, r⟩
  | _, _, .cons r t, i + 1, b, h => Paired.at t h
end Gn
set_option Elab.async false
set_option linter.all false
namespace K01
noncomputable def lo (c : Nat) : Nat := if 65 ≤ c ∧ c ≤ 90 then c + 32 else c
noncomputable def isS (c : Nat) : Bool := (decide (97 ≤ c) && decide (c ≤ 122)) || (decide (48 ≤ c) && decide (c ≤ 57))
end K01
set_option maxRecDepth 100000
set_option maxHeartbeats 4000000
namespace K01
open PySem L2
end K01
set_option linter.all false
namespace K03
noncomputable abbrev Fr := Int × Nat
noncomputable def less (x y : Fr) : Bool := decide (x.1 * y.2 < y.1 * x.2)
noncomputable def mkF (a : Int) (b : Nat) : Fr := (a / (Nat.gcd a.natAbs b : Nat), b / Nat.gcd a.natAbs b)
theorem gcd_pos' {a : Int} {b : Nat} (h : 0 < b) : 0 < Nat.gcd a.natAbs b := Nat.gcd_pos_of_pos_right _ h
theorem mkF_up {a : Int} {b : Nat} (h : 0 < b) : (mkF a b).1 * (Nat.gcd a.natAbs b : Nat) = a := by
  have h1 : ((Nat.gcd a.natAbs b : Nat) : Int) ∣ a := Int.ofNat_dvd_left.mpr (Nat.gcd_dvd_left _ _)
  exact Int.ediv_mul_cancel h1
theorem mkF_dn {a : Int} {b : Nat} : (mkF a b).2 * Nat.gcd a.natAbs b = b := Nat.div_mul_cancel (Nat.gcd_dvd_right _ _)
theorem mkF_pos {a : Int} {b : Nat} (h : 0 < b) : 0 < (mkF a b).2 := by
  have := mkF_dn (a := a) (b := b)
  rcases Nat.eq_zero_or_pos (mkF a b).2 with z | z
  · rw [z, Nat.zero_mul] at this; omega
  · exact z
theorem mkF_le {a : Int} {b : Nat} (h : 0 < b) : (mkF a b).2 ≤ b := Nat.div_le_self _ _
theorem mkF_abs {a : Int} {b : Nat} (h : 0 < b) : (mkF a b).1.natAbs ≤ a.natAbs := by
  have h1 := mkF_up (a := a) h
  have h2 : (mkF a b).1.natAbs * Nat.gcd a.natAbs b = a.natAbs := by
    have := congrArg Int.natAbs h1
    rwa [Int.natAbs_mul, Int.natAbs_natCast] at this
  have h3 := gcd_pos' (a := a) h
  exact Nat.le_of_mul_le_mul_right (by rw [h2]; exact Nat.le_mul_of_pos_right _ h3) h3
noncomputable def size (W : Nat) (x : Fr) : Int := x.1 * ((W / x.2 : Nat) : Int)
theorem size_lt {W : Nat} {x y : Fr} (hW : 0 < W) (hx : 0 < x.2) (hy : 0 < y.2) (dx : x.2 ∣ W) (dy : y.2 ∣ W) : decide (size W x < size W y) = less x y := by
  unfold size less
  rw [decide_eq_decide]
  obtain ⟨p, hp⟩ := dx
  obtain ⟨q, hq⟩ := dy
  have e1 : W / x.2 = p := by rw [hp, Nat.mul_div_cancel_left _ hx]
  have e2 : W / y.2 = q := by rw [hq, Nat.mul_div_cancel_left _ hy]
  rw [e1, e2]
  have hpos : (0 : Int) < (W : Int) := by omega
  have h1 : (W : Int) = (x.2 : Int) * (p : Int) := by rw [hp, Int.natCast_mul]
  have h2 : (W : Int) = (y.2 : Int) * (q : Int) := by rw [hq, Int.natCast_mul]
  have hxy : (0 : Int) < (x.2 : Int) * (y.2 : Int) := Int.mul_pos (by omega) (by omega)
  rw [← Int.mul_lt_mul_right hxy]
  have l : x.1 * (p : Int) * ((x.2 : Int) * (y.2 : Int)) = (x.1 * (y.2 : Int)) * (W : Int) := by rw [h1]; grind
  have r : y.1 * (q : Int) * ((x.2 : Int) * (y.2 : Int)) = (y.1 * (x.2 : Int)) * (W : Int) := by rw [h2]; grind
  rw [l, r]
  exact Int.mul_lt_mul_right hpos
noncomputable def ins (x : Fr) (l : List Fr) (k : Nat) : List Fr := l.take k ++ x :: l.drop k
end K03
set_option linter.all false
namespace OR
open K03
noncomputable abbrev Rw := PySem.Str × Fr
structure Sh (x : Fr) : Prop where
  p : 0 < x.2
  g : Nat.gcd x.1.natAbs x.2 = 1
  a : x.1.natAbs < 2 ^ 41
  b : x.2 < 2 ^ 41
structure Vr (x : Rw) : Prop where
  s : Sh x.2
  k : (PySem.PyData.str x.1).canLay0 = true
noncomputable def klt (x y : Rw) : Bool := decide (x.1.cps.toList < y.1.cps.toList)
noncomputable def ahd (x y : Rw) : Bool := decide (y.2.1 * (x.2.2 : Int) < x.2.1 * (y.2.2 : Int)) || (decide (x.2.1 * (y.2.2 : Int) = y.2.1 * (x.2.2 : Int)) && klt x y)
theorem fr_eq {x y : Fr} (hx : Sh x) (hy : Sh y) (e : x.1 * (y.2 : Int) = y.1 * (x.2 : Int)) : x = y := by
  have n : x.1.natAbs * y.2 = y.1.natAbs * x.2 := by
    have := congrArg Int.natAbs e
    rwa [Int.natAbs_mul, Int.natAbs_mul, Int.natAbs_natCast, Int.natAbs_natCast] at this
  have d1 : x.2 ∣ y.2 := by
    have c : Nat.Coprime x.2 x.1.natAbs := by rw [Nat.coprime_comm]; exact hx.g
    exact c.dvd_of_dvd_mul_left (by rw [n]; exact Nat.dvd_mul_left _ _)
  have d2 : y.2 ∣ x.2 := by
    have c : Nat.Coprime y.2 y.1.natAbs := by rw [Nat.coprime_comm]; exact hy.g
    exact c.dvd_of_dvd_mul_left (by rw [← n]; exact Nat.dvd_mul_left _ _)
  have e2 : x.2 = y.2 := Nat.dvd_antisymm d1 d2
  have e1 : x.1 = y.1 := by
    rw [e2] at e
    exact Int.eq_of_mul_eq_mul_right (by have := hy.p; omega) e
  exact Prod.ext e1 e2
theorem st_eq {x y : Rw} (hx : Sh x.2) (hy : Sh y.2) : (if x.2 = y.2 then klt x y else less y.2 x.2) = ahd x y := by
  unfold ahd less
  by_cases h : x.2 = y.2
  · rw [if_pos h, h, decide_eq_false (by omega), decide_eq_true rfl]
    simp
  · rw [if_neg h]
    have : ¬ (x.2.1 * (y.2.2 : Int) = y.2.1 * (x.2.2 : Int)) := fun e => h (fr_eq hx hy e)
    rw [decide_eq_false this]
    simp
theorem ahd_less (x y : Rw) : ahd x y = (less y.2 x.2 || ((!less x.2 y.2 && !less y.2 x.2) && klt x y)) := by
  unfold ahd less
  by_cases h1 : y.2.1 * (x.2.2 : Int) < x.2.1 * (y.2.2 : Int)
  · rw [decide_eq_true h1]; simp
  · by_cases h2 : x.2.1 * (y.2.2 : Int) < y.2.1 * (x.2.2 : Int)
    · rw [decide_eq_false h1, decide_eq_true h2, decide_eq_false (by omega)]; simp
    · rw [decide_eq_false h1, decide_eq_false h2, decide_eq_true (by omega)]; simp
theorem klt_tr {x y z : Rw} (h1 : klt y x = false) (h2 : klt y z = true) : klt x z = true := by
  unfold klt at *
  have a := of_decide_eq_false h1
  have b := of_decide_eq_true h2
  refine decide_eq_true ?_
  by_cases c : x.1.cps.toList < z.1.cps.toList
  · exact c
  · exact absurd b (List.not_lt.mpr (List.le_trans (List.not_lt.mp c) (List.not_lt.mp a)))
theorem klt_as {x y : Rw} (h : klt x y = true) : klt y x = false := by
  unfold klt at *
  exact decide_eq_false fun c => List.lt_irrefl _ (List.lt_trans (of_decide_eq_true h) c)
theorem klt_eq {x y : Rw} (h1 : klt x y = false) (h2 : klt y x = false) : x.1 = y.1 := by
  unfold klt at *
  have e := List.le_antisymm (List.not_lt.mp (of_decide_eq_false h2)) (List.not_lt.mp (of_decide_eq_false h1))
  have e' : x.1.cps = y.1.cps := Array.toList_inj.mp e
  cases hx : x.1; cases hy : y.1
  rw [hx, hy] at e'
  exact congrArg _ e'
theorem ahd_tr {a b x : Rw} (ha : Sh a.2) (hb : Sh b.2) (hx : Sh x.2) (h1 : ahd b a = false) (h2 : ahd b x = true) : ahd a x = true := by
  rw [ahd_less] at *
  have W0 : 0 < a.2.2 * b.2.2 * x.2.2 := Nat.mul_pos (Nat.mul_pos ha.p hb.p) hx.p
  have da : a.2.2 ∣ a.2.2 * b.2.2 * x.2.2 := ⟨b.2.2 * x.2.2, by rw [Nat.mul_assoc]⟩
  have db : b.2.2 ∣ a.2.2 * b.2.2 * x.2.2 := ⟨a.2.2 * x.2.2, by rw [Nat.mul_comm a.2.2, Nat.mul_assoc]⟩
  have dx : x.2.2 ∣ a.2.2 * b.2.2 * x.2.2 := Nat.dvd_mul_left _ _
  rw [← size_lt W0 ha.p hb.p da db, ← size_lt W0 hb.p ha.p db da] at h1
  rw [← size_lt W0 hx.p hb.p dx db, ← size_lt W0 hb.p hx.p db dx] at h2
  rw [← size_lt W0 hx.p ha.p dx da, ← size_lt W0 ha.p hx.p da dx]
  generalize size (a.2.2 * b.2.2 * x.2.2) a.2 = u at *
  generalize size (a.2.2 * b.2.2 * x.2.2) b.2 = v at *
  generalize size (a.2.2 * b.2.2 * x.2.2) x.2 = w at *
  by_cases k1 : klt b a = true
  · rw [k1] at h1
    by_cases k2 : klt b x = true
    · simp [k2] at h1 h2 ⊢
      omega
    · simp [k2] at h1 h2 ⊢
      omega
  · have k1 : klt b a = false := by simpa using k1
    by_cases k2 : klt b x = true
    · have k3 := klt_tr k1 k2
      simp [k1, k2, k3] at h1 h2 ⊢
      omega
    · simp [k1, k2] at h1 h2 ⊢
      omega
theorem ahd_as {x y : Rw} (h : ahd x y = true) : ahd y x = false := by
  unfold ahd at *
  by_cases h1 : y.2.1 * (x.2.2 : Int) < x.2.1 * (y.2.2 : Int)
  · rw [decide_eq_false (show ¬ x.2.1 * (y.2.2 : Int) < y.2.1 * (x.2.2 : Int) by omega), decide_eq_false (show ¬ y.2.1 * (x.2.2 : Int) = x.2.1 * (y.2.2 : Int) by omega)]; rfl
  · rw [decide_eq_false h1] at h
    have h' : (decide (x.2.1 * (y.2.2 : Int) = y.2.1 * (x.2.2 : Int)) && klt x y) = true := by simpa using h
    have e := of_decide_eq_true (Bool.and_eq_true_iff.mp h').1
    rw [klt_as (Bool.and_eq_true_iff.mp h').2, decide_eq_false (by omega)]; simp
theorem ahd_eq {x y : Rw} (hx : Sh x.2) (hy : Sh y.2) (h1 : ahd x y = false) (h2 : ahd y x = false) : x = y := by
  unfold ahd at *
  have a1 := (Bool.or_eq_false_iff.mp h1)
  have a2 := (Bool.or_eq_false_iff.mp h2)
  have b1 := of_decide_eq_false a1.1
  have b2 := of_decide_eq_false a2.1
  have e : x.2.1 * (y.2.2 : Int) = y.2.1 * (x.2.2 : Int) := by omega
  have k1 := a1.2
  have k2 := a2.2
  rw [decide_eq_true e, Bool.true_and] at k1
  rw [decide_eq_true e.symm, Bool.true_and] at k2
  exact Prod.ext (klt_eq k1 k2) (fr_eq hx hy e)
structure Ord (l : List Rw) : Prop where
  o : l.Pairwise fun x y => ahd y x = false
  s : ∀ x ∈ l, Vr x
theorem Ord.nil : Ord [] := ⟨.nil, fun x h => nomatch h⟩
theorem Ord.uniq {l m : List Rw} (p : l.Perm m) (hl : Ord l) (hm : Ord m) : l = m :=
  p.eq_of_pairwise (fun x y hx hy h1 h2 => ahd_eq (hl.s x hx).s (hm.s y hy).s h2 h1) hl.o hm.o
noncomputable def insR (x : Rw) (l : List Rw) (k : Nat) : List Rw := l.take k ++ x :: l.drop k
theorem insR_perm (x : Rw) (l : List Rw) (k : Nat) : (insR x l k).Perm (x :: l) := by
  unfold insR
  have := List.perm_middle (a := x) (l₁ := l.take k) (l₂ := l.drop k)
  rw [List.take_append_drop] at this
  exact this
theorem insR_ord {x : Rw} {l : List Rw} {k : Nat} (h : Ord l) (hx : Vr x) (h1 : ∀ y ∈ l.take k, ahd x y = false) (h2 : ∀ y ∈ l.drop k, ahd y x = false) : Ord (insR x l k) := by
  refine ⟨?_, fun y hy => ?_⟩
  · unfold insR
    rw [List.pairwise_append]
    refine ⟨h.o.take, List.pairwise_cons.mpr ⟨h2, h.o.drop⟩, ?_⟩
    intro a ha b hb
    rcases List.mem_cons.mp hb with q | q
    · rw [q]; exact h1 a ha
    · have hp := h.o
      rw [← List.take_append_drop k l, List.pairwise_append] at hp
      exact hp.2.2 a ha b q
  · rcases List.mem_cons.mp ((insR_perm x l k).mem_iff.mp hy) with q | q
    · rw [q]; exact hx
    · exact h.s y q
structure Bs (x : Rw) (l : List Rw) (low high : Nat) : Prop where
  le : low ≤ high
  hi : high ≤ l.length
  a : ∀ i (h : i < l.length), i < low → ahd l[i] x = true
  b : ∀ i (h : i < l.length), high ≤ i → ahd l[i] x = false
theorem Bs.start (x : Rw) (l : List Rw) : Bs x l 0 l.length := ⟨Nat.zero_le _, Nat.le_refl _, fun i h z => absurd z (by omega), fun i h z => absurd z (by omega)⟩
theorem Bs.up {x : Rw} {l : List Rw} {low high m : Nat} (B : Bs x l low high) (h : Ord l) (hx : Vr x) (m1 : low ≤ m) (m2 : m < high) (hm : m < l.length) (q : ahd l[m] x = true) : Bs x l (m + 1) high := by
  refine ⟨m2, B.hi, fun i hi hlt => ?_, B.b⟩
  rcases Nat.lt_or_ge i m with z | z
  · have hp := List.pairwise_iff_getElem.mp h.o i m hi hm z
    exact ahd_tr (h.s _ (List.getElem_mem hi)).s (h.s _ (List.getElem_mem hm)).s hx.s hp q
  · have e : i = m := by omega
    subst e
    exact q
theorem Bs.down {x : Rw} {l : List Rw} {low high m : Nat} (B : Bs x l low high) (h : Ord l) (hx : Vr x) (m1 : low ≤ m) (m2 : m < high) (hm : m < l.length) (q : ahd l[m] x = false) : Bs x l low m := by
  refine ⟨m1, by omega, B.a, fun i hi hlt => ?_⟩
  rcases Nat.lt_or_ge m i with z | z
  · have hp := List.pairwise_iff_getElem.mp h.o m i hm hi z
    cases e : ahd l[i] x with
    | false => rfl
    | true => rw [ahd_tr (h.s _ (List.getElem_mem hm)).s (h.s _ (List.getElem_mem hi)).s hx.s hp e] at q; cases q
  · have e : i = m := by omega
    subst e
    exact q
theorem Bs.end {x : Rw} {l : List Rw} {k : Nat} (B : Bs x l k k) (h : Ord l) (hx : Vr x) : Ord (insR x l k) := by
  refine insR_ord h hx (fun y hy => ?_) fun y hy => ?_
  · obtain ⟨i, hi, e⟩ := List.getElem_of_mem hy
    rw [List.getElem_take] at e
    rw [List.length_take] at hi
    have := B.a i (by omega) (by omega)
    rw [e] at this
    exact ahd_as this
  · obtain ⟨i, hi, e⟩ := List.getElem_of_mem hy
    rw [List.getElem_drop] at e
    rw [List.length_drop] at hi
    have := B.b (k + i) (by omega) (by omega)
    rw [e] at this
    exact this
theorem lin_end {x : Rw} {l : List Rw} {k : Nat} (h : Ord l) (hx : Vr x) (h1 : ∀ y ∈ l.take k, ahd x y = false) (h2 : ∀ (hk : k < l.length), ahd x l[k] = true) : Ord (insR x l k) := by
  refine insR_ord h hx h1 fun y hy => ?_
  obtain ⟨i, hi, e⟩ := List.getElem_of_mem hy
  rw [List.getElem_drop] at e
  rw [List.length_drop] at hi
  have hk : k < l.length := by omega
  have q := ahd_as (h2 hk)
  cases i with
  | zero => simp only [Nat.add_zero] at e; rw [← e]; exact q
  | succ i =>
    have hp := List.pairwise_iff_getElem.mp h.o k (k + (i + 1)) hk (by omega) (by omega)
    rw [e] at hp
    cases z : ahd y x with
    | false => rfl
    | true =>
      have hy' : Sh y.2 := (h.s _ (List.mem_of_mem_drop hy)).s
      rw [ahd_tr (h.s _ (List.getElem_mem hk)).s hy' hx.s hp z] at q
      cases q
theorem mkF_sh {a b : Nat} (hb : 0 < b) (ha2 : a < 2 ^ 41) (hb2 : b < 2 ^ 41) : Sh (mkF a b) := by
  have h1 := mkF_le (a := (a : Int)) hb
  have h2 := mkF_abs (a := (a : Int)) hb
  rw [Int.natAbs_natCast] at h2
  refine ⟨mkF_pos hb, ?_, by omega, by omega⟩
  have g0 := gcd_pos' (a := (a : Int)) hb
  unfold mkF
  rw [Int.natAbs_natCast] at *
  show Nat.gcd ((a : Int) / (Nat.gcd a b : Nat)).natAbs (b / Nat.gcd a b) = 1
  rw [← Int.natCast_ediv, Int.natAbs_natCast]
  exact Nat.gcd_div_gcd_div_gcd_of_pos_right hb
theorem Ord.take {l : List Rw} (h : Ord l) (n : Nat) : Ord (l.take n) := ⟨h.o.take, fun x hx => h.s x (List.mem_of_mem_take hx)⟩
theorem ex_ins {x : Rw} {l : List Rw} (h : Ord l) (hx : Vr x) : ∃ k, k ≤ l.length ∧ Ord (insR x l k) := by
  have e : l.takeWhile (fun y => ahd y x) ++ l.dropWhile (fun y => ahd y x) = l := List.takeWhile_append_dropWhile
  have et : l.take (l.takeWhile (fun y => ahd y x)).length = l.takeWhile (fun y => ahd y x) := by
    conv => lhs; rw [← e]
    rw [List.take_left' (by rw [e])]
  have ed : l.drop (l.takeWhile (fun y => ahd y x)).length = l.dropWhile (fun y => ahd y x) := by
    conv => lhs; rw [← e]
    rw [List.drop_left' (by rw [e])]
  refine ⟨(l.takeWhile (fun y => ahd y x)).length, ?_, insR_ord h hx (fun y hy => ?_) fun y hy => ?_⟩
  · have := congrArg List.length e
    rw [List.length_append] at this
    omega
  · rw [et] at hy
    exact ahd_as ((List.all_eq_true.mp (List.all_takeWhile (p := fun y => ahd y x) (l := l))) y hy)
  · rw [ed] at hy
    have hp : (l.dropWhile (fun y => ahd y x)).Pairwise fun x y => ahd y x = false := by
      have := h.o
      rw [← e, List.pairwise_append] at this
      exact this.2.1
    cases hl : l.dropWhile (fun y => ahd y x) with
    | nil => rw [hl] at hy; cases hy
    | cons y0 r =>
      have h0 : ahd y0 x = false := by
        have := List.head?_dropWhile_not (fun y => ahd y x) l
        rw [hl] at this
        simpa using this
      rw [hl] at hy hp
      rcases List.mem_cons.mp hy with q | q
      · rw [q]; exact h0
      · have h1 := List.rel_of_pairwise_cons hp q
        have m0 : y0 ∈ l := by rw [← e, hl]; simp
        have m1 : y ∈ l := by rw [← e, hl]; simp [q]
        cases z : ahd y x with
        | false => rfl
        | true => rw [ahd_tr (h.s y0 m0).s (h.s y m1).s hx.s h1 z] at h0; cases h0
theorem best_step {m : Nat} {due due' ins : List Rw} {x : Rw} (ho : Ord due) (ho' : Ord due') (p : due'.Perm (x :: due)) (hi : Ord ins) (pi : ins.Perm (x :: due.take m)) (hx : Vr x) : ins.take m = due'.take m := by
  obtain ⟨k, hk, hO⟩ := ex_ins ho hx
  have e : due' = insR x due k := Ord.uniq (p.trans (insR_perm x due k).symm) ho' hO
  subst e
  by_cases km : k ≤ m
  · have e1 : insR x (due.take m) k = (insR x due k).take (m + 1) := by
      unfold insR
      have l1 : (due.take k).length = k := by rw [List.length_take]; omega
      have a1 : (due.take m).take k = due.take k := by rw [List.take_take, Nat.min_eq_left km]
      have a2 : (due.take k).take (m + 1) = due.take k := List.take_of_length_le (by omega)
      have this : m + 1 - k = (m - k) + 1 := by omega
      have a3 : (x :: due.drop k).take (m + 1 - k) = x :: (due.drop k).take (m - k) := by rw [this, List.take_succ_cons]
      rw [a1, List.drop_take, List.take_append, l1, a2, a3]
    have e2 : ins = insR x (due.take m) k := Ord.uniq (pi.trans (insR_perm x _ k).symm) hi (by rw [e1]; exact hO.take _)
    rw [e2, e1, List.take_take, Nat.min_eq_left (by omega)]
  · have hO2 : Ord (due.take m ++ [x]) := by
      refine ⟨?_, fun y hy => ?_⟩
      · rw [List.pairwise_append]
        refine ⟨ho.o.take, List.pairwise_singleton _ _, fun a ha b hb => ?_⟩
        rw [List.mem_singleton.mp hb]
        have hp := hO.o
        unfold insR at hp
        rw [List.pairwise_append] at hp
        refine hp.2.2 a ?_ x List.mem_cons_self
        have : due.take m = (due.take k).take m := by rw [List.take_take, Nat.min_eq_left (by omega)]
        rw [this] at ha
        exact List.mem_of_mem_take ha
      · rcases List.mem_append.mp hy with q | q
        · exact ho.s y (List.mem_of_mem_take q)
        · rw [List.mem_singleton.mp q]; exact hx
    have e2 : ins = due.take m ++ [x] := Ord.uniq (pi.trans (List.perm_append_singleton x _).symm) hi hO2
    have l1 : (due.take m).length = m := by rw [List.length_take]; omega
    have l2 : (due.take k).length = k := by rw [List.length_take]; omega
    rw [e2, List.take_left' l1]
    unfold insR
    rw [List.take_append_of_le_length (by omega), List.take_take, Nat.min_eq_left (by omega)]
end OR
set_option Elab.async false
set_option linter.all false
set_option maxRecDepth 100000
set_option maxHeartbeats 4000000
namespace K21
open PySem L2 PyProof.Rows PySem.Spec Gn OR
open K03 (Fr less mkF gcd_pos')
open K01 (isS)
theorem op_fdivB {X : Cx} : OpR X (binaryOp .FloorDiv) (rI (fun _ j => 0 < j ∧ j.natAbs.log2 < 9000) fun i j => .int (i / j)) := opI fun i j _ _ _ _ _ hc q => by
  have h1 : (0 : Int) < j := hc.1
  exact floordiv_int (by omega) (by rw [Int.fdiv_eq_ediv_of_nonneg i (by omega)]; exact q) (.inl (PyProof.noPylong_of_log2 hc.2))
theorem log2_lt {j : Int} {m : Nat} (h : j.natAbs < 2 ^ m) (hm : 0 < m) : j.natAbs.log2 < m := by
  by_cases h0 : j.natAbs = 0
  · rw [h0]; simpa using hm
  · exact (Nat.log2_lt h0).mpr h
noncomputable def top (i : Nat) : Stmt := PySem.Challenge.pw_findhall_k21_best_of_all.main.body.getD i (.Pass ⟨0, 0, 0, 0⟩)
noncomputable abbrev sWhole : Stmt := top 5
noncomputable abbrev sNNum : Stmt := top 6
noncomputable abbrev sLess : Stmt := top 8
noncomputable abbrev sAhd : Stmt := top 10
noncomputable abbrev sPut : Stmt := top 11
noncomputable abbrev lMixed : Stmt := top 14
noncomputable abbrev lNumber : Stmt := top 15
noncomputable abbrev lMenu : Stmt := top 16
noncomputable abbrev lWorth : Stmt := top 17
noncomputable abbrev lRows : Stmt := top 18
noncomputable abbrev lAhd : Stmt := top 19
noncomputable abbrev lInRow : Stmt := top 20
noncomputable abbrev lRef : Stmt := top 21
noncomputable abbrev lTold : Stmt := top 22
noncomputable abbrev lLaw : Stmt := top 23
noncomputable abbrev bInit : Stmt := inClass (top 12) 0
noncomputable abbrev bOffer : Stmt := inClass (top 12) 1
noncomputable abbrev bTold : Stmt := inClass (top 12) 2
structure Txt (mg : Str → Option Value) : Prop where
  isi : mg "isinstance" = none
  int : mg "int" = none
  bool : mg "bool" = none
  str : mg "str" = none
  list : mg "list" = none
  tuple : mg "tuple" = none
  len : mg "len" = none
  all : mg "all" = none
  range : mg "range" = none
  enum : mg "enumerate" = none
  val : mg "ValueError" = none
section
variable {P : Program} {w : World} {K : PySem.W.Frag} {mg : Str → Option Value} {base : Heap}
noncomputable def spMixed : Sp := fun vs H Q _ => ∃ n k : Int, vs = [.int n, .int k] ∧ 0 ≤ k ∧ k ≤ 1000000 ∧ ∀ r : Int, 0 ≤ r → r < 2147483629 → Q (.int r) H
theorem scMixed : FnScope ["_law_number_here", "_law_k"] ["_law_number_here", "_law_k"] (defScope lMixed) := ⟨rfl, rfl, rfl, by decide +kernel, rfl, by decide +kernel, by decide +kernel⟩
seal PSs PS PE PT PA PG PI PGs PIfs in
theorem ok_mixed {f : Addr} {fd : FuncData} (D : Df K mg "_law_mixed" lMixed f fd) : FnOk P w K mg base CX0 1 f fd ["_law_number_here", "_law_k"] spMixed := by
  refine D.F.ok scMixed (fun vs H Q E h => ?_) (fun cdv A outer s H vs Q E hr h => ?_)
  · obtain ⟨n, k, rfl, _⟩ := h
    rfl
  · obtain ⟨n, k, rfl, h0, h1, kk⟩ := h
    refine ⟨_, pss_cons (ps_set (i := 0) scMixed.nd rfl (Or.inl rfl) (pe_op op_mod (pe_op op_mul (pe_op op_add (pe_op op_add (pe_op op_mod (pv 0) pe_int) (pe_op op_mul (pe_op op_mul pe_int (pv 1)) (pv 1))) (pe_op op_mul pe_int (pv 1))) pe_int) pe_int))
      (pss_one (ps_ret (pe_op op_mod (pe_op op_mul (pv 0) (pe_op op_add pe_int (pe_op op_mul pe_int (pv 1)))) pe_int))), ?_⟩
    refine ⟨_, rfl, _, _, rfl, rfl, (by show (0 : Int) < 2147483647; decide), _, rfl, _, _, rfl, rfl, .inl ⟨by decide, by decide⟩, _, rfl, _, _, rfl, rfl, .inr ⟨by omega, by omega⟩, _, _, rfl, rfl, _, rfl, _, _, rfl, rfl, .inl ⟨by decide, by decide⟩, _, _, rfl, rfl,
      _, _, rfl, rfl, .inr ⟨by decide, by decide⟩, _, _, rfl, rfl, (by show (0 : Int) < 2147483647; decide), ?_⟩
    have b1 := Int.emod_nonneg ((n % 2147483647 + 7919 * k * k + 31 * k) * 48271) (show (2147483647 : Int) ≠ 0 by decide)
    have b2 := Int.emod_lt_of_pos ((n % 2147483647 + 7919 * k * k + 31 * k) * 48271) (show (0 : Int) < 2147483647 by decide)
    refine ⟨_, rfl, _, rfl, _, _, rfl, rfl, .inl ⟨by decide, by decide⟩, _, _, rfl, rfl, _, _, rfl, rfl, .inl ⟨by omega, by omega⟩, _, _, rfl, rfl, (by show (0 : Int) < 2147483629; decide), ?_⟩
    exact kk _ (Int.emod_nonneg _ (by decide)) (Int.emod_lt_of_pos _ (by decide))
noncomputable def spNumber (K : PySem.W.Frag) : Sp := fun vs H Q _ => ∃ (a : Addr) (ns : List Int) (k : Nat), vs = [.ref a, .int k] ∧ SqL K H a (ns.map V.int) ∧ ns.length ≤ 63 ∧ k ≤ 1000 ∧ ∀ (r : Int) H', 0 ≤ r → r < 2147483629 → Same H H' → Q (.int r) H'
theorem scNumber : FnScope ["_law_script", "_law_k"] ["_law_script", "_law_k"] (defScope lNumber) := ⟨rfl, rfl, rfl, by decide +kernel, rfl, by decide +kernel, by decide +kernel⟩
seal PSs PS PE PT PA PG PI PGs PIfs in
theorem ok_number {f fm : Addr} {fd fdm : FuncData} (D : Df K mg "_law_number" lNumber f fd) (DM : Df K mg "_law_mixed" lMixed fm fdm) (T : Txt mg) : FnOk P w K mg base CX0 2 f fd ["_law_script", "_law_k"] (spNumber K) := by
  have GM : FnOk P w K mg base CX0 1 fm fdm ["_law_number_here", "_law_k"] spMixed := ok_mixed DM
  have bM := DM.F.binds (ps := ["_law_number_here", "_law_k"]) fun _ _ _ _ _ _ us hl => match us, hl with | [_, _], _ => rfl
  refine D.F.ok scNumber (fun vs H Q E h => ?_) (fun cdv A outer s H vs Q E hr h => ?_)
  · obtain ⟨a, ns, k, rfl, _⟩ := h
    rfl
  · obtain ⟨a, ns, k, rfl, hS, hl, hk, kk⟩ := h
    refine ⟨_, pss_cons (ps_if (pt_cmpR (op_eqD hr.units100) (pv 0) (pe_lst pa_nil) (nomark _)) (pss_one (ps_ret (pe_call GM hr rfl DM.m DM.F.kp bM .nil pass0 (pa_cons pe_int (pa_cons (pv 1) pa_nil))))) pss_nil)
      (pss_one (ps_ret (pe_call GM hr rfl DM.m DM.F.kp bM .nil pass0 (pa_cons (pe_ix ix_list (pv 0) (pe_op op_mod (pv 1) (pe_callB call_len_seq rfl T.len b_len (pa_cons (pv 0) pa_nil))) (fun _ _ => rfl)) (pa_cons (pv 1) pa_nil))))), ?_⟩
    refine ⟨_, rfl, Nat.zero_le _, fun p hp => ?_⟩
    have sm : Same H (upd H p (.lst [])) := same_upd hp
    refine ⟨.list (ns.map .int), .list [], .lst (sm.seq hS) (dt_ints ns), .lst (SqL.of upd_same) .nil, lay_ints ns, rfl, Nat.le_trans (Nat.min_le_right _ _) (by decide), _, rfl, ?_⟩
    cases ns with
    | nil =>
      refine iteT ?_
      exact ⟨_, rfl, 17, k, rfl, by omega, by omega, fun r r0 r1 => kk r _ r0 r1 sm⟩
    | cons n ns =>
      refine iteF ?_
      have hn : (0 : Int) < (((n :: ns).map V.int).length : Nat) := by simp
      refine ⟨_, rfl, _, rfl, _, rfl, _, _, rfl, .inl (sm.seq hS), _, _, rfl, rfl, hn, ?_⟩
      have hlt : k % (n :: ns).length < (n :: ns).length := Nat.mod_lt _ (by simp)
      have ei : ((k : Nat) : Int) % ((((n :: ns).map V.int).length : Nat) : Int) = ((k % (n :: ns).length : Nat) : Int) := by rw [List.length_map]; omega
      refine ⟨a, _, _, .int ((n :: ns)[k % (n :: ns).length]), rfl, rfl, sm.seq hS, ?_, _, rfl, _, k, rfl, by omega, by omega, fun r r0 r1 => kk r _ r0 r1 sm⟩
      rw [ei]
      exact atI_nat (by rw [List.getElem?_map, List.getElem?_eq_getElem hlt]; rfl)
noncomputable abbrev FrA (H : Hp) (p : Addr) (x : Fr) : Prop := H p = some (.tup [.int x.1, .int (x.2 : Nat)])
noncomputable def spLess : Sp := fun vs H Q _ => ∃ (p q : Addr) (x y : Fr), vs = [.ref p, .ref q] ∧ FrA H p x ∧ FrA H q y ∧ x.2 < 2 ^ 60 ∧ y.2 < 2 ^ 60 ∧ Q (.bl (less x y)) H
theorem scLess : FnScope ["one", "other"] ["one", "other"] (defScope sLess) := ⟨rfl, rfl, rfl, by decide +kernel, rfl, by decide +kernel, by decide +kernel⟩
seal PSs PS PE PT PA PG PI PGs PIfs in
theorem ok_less {f : Addr} {fd : FuncData} (D : Df K mg "is_less" sLess f fd) : FnOk P w K mg base CX0 1 f fd ["one", "other"] spLess := by
  refine D.F.ok scLess (fun vs H Q E h => ?_) (fun cdv A outer s H vs Q E hr h => ?_)
  · obtain ⟨p, q, x, y, rfl, _⟩ := h
    rfl
  · obtain ⟨p, q, x, y, rfl, hp, hq, sx, sy, k⟩ := h
    refine ⟨_, pss_one (ps_ret (pe_cmpR op_lt (pe_op op_mul (pe_ix ix_tup (pv 0) pe_int (fun _ _ => rfl)) (pe_ix ix_tup (pv 1) pe_int (fun _ _ => rfl))) (pe_op op_mul (pe_ix ix_tup (pv 1) pe_int (fun _ _ => rfl)) (pe_ix ix_tup (pv 0) pe_int (fun _ _ => rfl))) (nomark _))), ?_⟩
    refine ⟨_, rfl, p, _, _, _, rfl, rfl, SqT.of hp, atI_nat (j := 0) rfl, _, rfl, q, _, _, _, rfl, rfl, SqT.of hq, atI_nat (j := 1) rfl, _, _, rfl, rfl, .inr ⟨by omega, by omega⟩, ?_⟩
    exact ⟨_, rfl, q, _, _, _, rfl, rfl, SqT.of hq, atI_nat (j := 0) rfl, _, rfl, p, _, _, _, rfl, rfl, SqT.of hp, atI_nat (j := 1) rfl, _, _, rfl, rfl, .inr ⟨by omega, by omega⟩, _, _, rfl, rfl, k⟩
theorem str_len (z : Str) : z.cps.toList.length = z.length := by simp [Str.length]
noncomputable def codes (x : Str) : List Nat := x.cps.toList
theorem str_len' (a : List Nat) : (⟨a.toArray⟩ : Str).length = a.length := by simp [Str.length]
theorem empty_str : Str.ofString "" = ⟨([] : List Nat).toArray⟩ := rfl
theorem str_app (a b : List Nat) : (⟨a.toArray⟩ : Str) ++ ⟨b.toArray⟩ = ⟨(a ++ b).toArray⟩ := by
  show (⟨a.toArray ++ b.toArray⟩ : Str) = _
  simp
theorem join_codes : ∀ cs : List Nat, PySem.Str.join (Str.ofString "") (cs.map fun c => (⟨#[c]⟩ : Str)) = ⟨cs.toArray⟩
  | [] => rfl
  | [c] => rfl
  | c :: d :: r => by
    show (⟨[c].toArray⟩ : Str) ++ Str.ofString "" ++ PySem.Str.join (Str.ofString "") ((d :: r).map fun c => (⟨#[c]⟩ : Str)) = _
    rw [join_codes (d :: r), empty_str, str_app, str_app]
    rfl
theorem join_eq (cs : List Nat) : Txt.join (Str.ofString "") (cs.map fun c => (⟨#[c]⟩ : Str)) = ⟨cs.toArray⟩ := by
  show Builtin.Str.glued _ _ = _
  rw [StrLaws.glued_eq_join]
  exact join_codes cs
theorem sum_ones (cs : List Nat) : ((cs.map fun c => (⟨#[c]⟩ : Str)).map (·.length)).sum = cs.length := by
  induction cs with
  | nil => rfl
  | cons c r ih => rw [List.map_cons, List.map_cons, List.sum_cons, ih, List.length_cons]; show 1 + _ = _; (clear ih; omega)
theorem slice_mem {z : Str} {l u : Option Int} {c : Nat} (h : c ∈ (Txt.slice z l u).cps.toList) : c ∈ z.cps.toList := by
  unfold Txt.slice at h
  split at h
  · exact h
  · have h' : c ∈ (Builtin.Str.strSliceIndices l u 1 z.length).filterMap (z.cps[·]?) := by simpa using h
    obtain ⟨i, _, e⟩ := List.mem_filterMap.mp h'
    have := Array.mem_of_getElem? e
    simpa using this
theorem slice_all {p : Nat → Bool} {z : Str} (l u : Option Int) (h : z.cps.toList.all p = true) : (Txt.slice z l u).cps.toList.all p = true :=
  List.all_eq_true.mpr fun c hc => List.all_eq_true.mp h c (slice_mem hc)
theorem app_all {p : Nat → Bool} {a b : Str} (ha : a.cps.toList.all p = true) (hb : b.cps.toList.all p = true) : (a ++ b).cps.toList.all p = true := by
  rw [PySem.Str.cps_append, Array.toList_append, List.all_append, ha, hb]
  rfl
theorem all_get {p : Nat → Bool} {l : List Nat} (h : l.all p = true) {i : Nat} (hi : i < l.length) : p l[i] = true := List.all_eq_true.mp h _ (List.getElem_mem hi)
noncomputable def Wm (z : Str) : Prop := z.length ≤ 13 ∧ z.cps.toList.all isS = true
noncomputable def spMenu : Sp := fun vs H Q _ => ∃ n : Int, vs = [.int n] ∧ ∀ a H' (ws : List Str), Same H H' → H' a = some (.lst (ws.map V.str)) → ws.length = 5 → (∀ z ∈ ws, Wm z) → Q (.ref a) H'
theorem scMenu : FnScope ["_law_number_here", "_law_signs", "_law_rest", "_law_k", "_law_size", "_law_at", "_law_found", "_law_sign"] ["_law_number_here"] (defScope lMenu) := ⟨rfl, rfl, rfl, by decide +kernel, rfl, by decide +kernel, by decide +kernel⟩
theorem ndMenu : (["_law_j", "_law_signs", "_law_number_here"] : List Str).Nodup := by decide +kernel
theorem ndMenu2 : (["_law_k", "_law_rest"] : List Str).Nodup := by decide +kernel
seal PSs PS PE PT PA PG PI PGs PIfs in
theorem ok_menu {f fm : Addr} {fd fdm : FuncData} (D : Df K mg "_law_menu" lMenu f fd) (DM : Df K mg "_law_mixed" lMixed fm fdm) (T : Txt mg) : FnOk P w K mg base CX0 2 f fd ["_law_number_here"] spMenu := by
  have GM : FnOk P w K mg base CX0 1 fm fdm ["_law_number_here", "_law_k"] spMixed := ok_mixed DM
  have bM := DM.F.binds (ps := ["_law_number_here", "_law_k"]) fun _ _ _ _ _ _ us hl => us2 (fun _ _ => rfl) us hl
  refine D.F.ok scMenu (fun vs H Q E h => ?_) (fun cdv A outer s H vs Q E hr h => ?_)
  · obtain ⟨n, rfl, _⟩ := h
    rfl
  · obtain ⟨n, rfl, kk⟩ := h
    have hl : (sizeLine : Nat) = 16777216 := sizeLine_eq
    refine ⟨_, pss_cons (ps_set (i := 1) scMenu.nd rfl (Or.inr rfl) pe_str)
      (pss_cons (ps_ifJ (pt_cmpR op_eq (pe_op op_mod (pv 0) pe_int) pe_int (nomark _)) (pss_one (ps_set (i := 1) scMenu.nd rfl (Or.inr rfl) pe_str)) pss_nil)
      (pss_cons (ps_set (i := 2) scMenu.nd rfl (Or.inr rfl) (pe_bm PySem.F.plainAttrs_str PySem.F.slot_str_join PySem.F.type_str_join mt_join pe_str (pa_cons (pe_comp (own := 1) (caps := [1, 0]) (N := ["_law_j", "_law_signs", "_law_number_here"])
          (N0 := ["_law_number_here", "_law_signs", "_law_rest", "_law_k", "_law_size", "_law_at", "_law_found", "_law_sign"]) (sc0 := defScope lMenu) rfl
        (pi_range1 rfl T.range (pa_cons pe_int pa_nil)) (fun _ _ _ => pg_name (i := 0) ndMenu rfl (Or.inl rfl)) (fun _ _ _ => pf_none)
        (fun _ _ _ => pe_ix ix_str (pv 1) (pe_op op_mod (pe_call GM hr rfl DM.m DM.F.kp bM .nil pass0 (pa_cons (pv 2) (pa_cons (pe_op op_add pe_int (pv 0)) pa_nil))) pe_int) (fun _ _ => rfl)) (gk_name (by decide)) rfl rfl
        (by decide +kernel) rfl (by decide +kernel) (by decide +kernel) rfl (by decide +kernel)) pa_nil)))
      (pss_cons (ps_if (pt_cmpR op_eq (pe_op op_mod (pe_op op_fdiv (pv 0) pe_int) pe_int) pe_int (nomark _))
        (pss_one (ps_ret (pe_comp (own := 1) (caps := [2]) (N := ["_law_k", "_law_rest"])
          (N0 := ["_law_number_here", "_law_signs", "_law_rest", "_law_k", "_law_size", "_law_at", "_law_found", "_law_sign"]) (sc0 := defScope lMenu) rfl
          (pi_range1 rfl T.range (pa_cons pe_int pa_nil)) (fun _ _ _ => pg_name (i := 0) ndMenu2 rfl (Or.inl rfl)) (fun _ _ _ => pf_none)
          (fun _ _ _ => pe_slice sl_str (pv 1) po_none (po_some (pe_op op_add (pv 0) pe_int))) (gk_name (by decide)) rfl rfl
          (by decide +kernel) rfl (by decide +kernel) (by decide +kernel) rfl (by decide +kernel)))) pss_nil)
      (pss_cons (ps_set (i := 4) scMenu.nd rfl (Or.inl rfl) (pe_op op_mod (pe_op op_fdiv (pv 0) pe_int) pe_int))
      (pss_cons (ps_set (i := 5) scMenu.nd rfl (Or.inl rfl) (pe_op op_mod (pe_op op_fdiv (pv 0) pe_int) (pe_op op_add (pv 4) pe_int)))
      (pss_cons (ps_set (i := 6) scMenu.nd rfl (Or.inl rfl) (pe_lst pa_nil))
      (pss_cons (ps_for PassesOwn.never rfl (pi_range1 rfl T.range (pa_cons pe_int pa_nil)) (pg_name (i := 3) scMenu.nd rfl (Or.inl rfl))
        (pss_cons (ps_set (i := 7) scMenu.nd rfl (Or.inl rfl) (pe_ix ix_str (pv 1) (pe_op op_mod (pe_op op_add (pe_op op_fdiv (pv 0) pe_int) (pe_op op_mul pe_int (pv 3))) pe_int) (fun _ _ => rfl)))
        (pss_one (ps_expr (pe_bm PySem.F.plainAttrs_list PySem.F.slot_list_append PySem.F.type_list_append mt_append (pv 6)
          (pa_cons (pe_op op_add_str (pe_op op_add_str (pe_slice sl_str (pv 2) po_none (po_some (pv 5))) (pv 7)) (pe_slice sl_str (pv 2) (po_some (pv 5)) (po_some (pv 4)))) pa_nil))))))
      (pss_one (ps_ret (pv 6)))))))))), ?_⟩
    refine ⟨fun σ' H' => H' = H ∧ ∃ S : Str, S.cps.toList.all isS = true ∧ S.length = 26 ∧ σ' = [some (.int n), some (.str S), none, none, none, none, none, none], ?_, ?_⟩
    · refine ⟨_, rfl, _, _, rfl, rfl, (by show (0 : Int) < 3; decide), rfl, _, rfl, ?_⟩
      refine ite2 (fun _ => ?_) (fun _ => ?_)
      · exact ⟨rfl, Str.ofString "0a1b2c3d4e5f6g7h8i9jklmnop", by decide +kernel, by decide +kernel, rfl⟩
      · exact ⟨rfl, Str.ofString "abcdefghijklmnopqrstuvwxyz", by decide +kernel, by decide +kernel, rfl⟩
    · rintro σ' H' ⟨rfl, S, hS, h26, rfl⟩
      have hSl : (codes S).length = 26 := by unfold codes; rw [str_len]; exact h26
      refine ⟨rfl, 6, rfl, by decide, by decide, comp_itr (fun i ys H1 => H1 = H' ∧ ∃ cs : List Nat, cs.length = i ∧ cs.all isS = true ∧ ys = cs.map fun c => V.str ⟨#[c]⟩) (by rw [hl]; decide) ⟨rfl, [], rfl, rfl, rfl⟩ ?_ ?_⟩
      · rintro i ys H1 N hi ⟨rfl, cs, hc, hok, rfl⟩ hN
        have hi6 : i < 6 := hi
        refine g1 ?_
        refine ⟨_, rfl, _, rfl, _, rfl, _, _, rfl, rfl, _, _, rfl, by (clear hi6 hok hc hi hSl h26 hS hl; omega), by (clear hi6 hok hc hSl h26 hS hl; omega), fun r r0 r1 => ?_⟩
        refine ⟨_, _, rfl, rfl, (by show (0 : Int) < 26; decide), ?_⟩
        obtain ⟨j, hj, hjl⟩ := mod_ix (r := r) (n := 26) (by decide)
        have hj' : j < (codes S).length := by (clear hjl r1 r0 hi6 hok hc hi h26 hS hl; omega)
        refine ⟨S, _, (codes S)[j], rfl, rfl, by (clear hj' hjl hj r1 r0 hi6 hok hc hi hSl hS; omega), ?_, hN _ _ ⟨rfl, cs ++ [(codes S)[j]], by simp [hc], by rw [List.all_append, hok]; simp [all_get (p := isS) (l := codes S) hS hj'], by rw [List.map_append]; rfl⟩⟩
        rw [← hj]
        exact atI_nat (List.getElem?_eq_getElem hj')
      · rintro ys H1 ⟨rfl, cs, hc, hok, rfl⟩ _ p hp
        have hc6 : cs.length = 6 := hc
        refine ⟨_, p, cs.map fun c => (⟨#[c]⟩ : Str), rfl, rfl, SqL.of (by rw [upd_same, List.map_map]; rfl), ?_, ?_⟩
        · rw [sum_ones, List.length_map]
          show cs.length + cs.length * 0 ≤ _
          (clear hc6 hp hok hSl h26 hS hl; omega)
        rw [join_eq]
        have sm : Same H1 (upd H1 p (.lst (cs.map fun c => V.str ⟨#[c]⟩))) := same_upd hp
        generalize hG : upd H1 p (.lst (cs.map fun c => V.str ⟨#[c]⟩)) = H2 at sm
        have hR : (⟨cs.toArray⟩ : Str).cps.toList.all isS = true := by simpa using hok
        have hRl : (⟨cs.toArray⟩ : Str).length = 6 := by rw [str_len']; exact hc6
        generalize (⟨cs.toArray⟩ : Str) = R at hR hRl
        refine ⟨_, rfl, _, _, rfl, rfl, ⟨by decide, by decide⟩, _, _, rfl, rfl, (by show (0 : Int) < 3; decide), rfl, _, rfl, ?_⟩
        refine ite2 (fun _ => ?_) (fun _ => ?_)
        · refine ⟨5, rfl, by decide, by decide, comp_itr (fun i ys H3 => H3 = H2 ∧ ∃ ws : List Str, ws.length = i ∧ (∀ z ∈ ws, Wm z) ∧ ys = ws.map V.str) (by rw [hl]; decide) ⟨rfl, [], rfl, fun z hz => by simp at hz, rfl⟩ ?_ ?_⟩
          · rintro i ys H3 N hi ⟨rfl, ws, hw, hok', rfl⟩ hN
            refine g1 ?_
            refine ⟨_, rfl, _, rfl, _, _, rfl, rfl, _, rfl, R, rfl, by (clear hw hG hi hR hc6 hp hok hc hSl h26 hS; omega), hN _ _ ⟨rfl, ws ++ [Txt.slice R none (some ((0 : Int) + i + 1))], by simp [hw], fun z hz => ?_, by rw [List.map_append]; rfl⟩⟩
            rcases List.mem_append.mp hz with q | q
            · exact hok' z q
            · have e : z = Txt.slice R none (some ((0 : Int) + i + 1)) := by simpa using q
              rw [e]
              have := Txt.slice_le R none (some ((0 : Int) + i + 1))
              exact ⟨by (clear e hw hG hi hR hc6 hp hok hc hSl h26 hS hl; omega), slice_all _ _ hR⟩
          · rintro ys H3 ⟨rfl, ws, hw, hok', rfl⟩ _ q hq
            exact kk q _ ws (sm.trans (same_upd hq)) upd_same hw hok'
        · refine ⟨_, rfl, _, _, rfl, rfl, ⟨by decide, by decide⟩, _, _, rfl, rfl, (by show (0 : Int) < 5; decide), ?_⟩
          have s0 := Int.emod_nonneg (n / 9) (show (5 : Int) ≠ 0 by decide)
          refine ⟨_, rfl, _, _, rfl, rfl, ⟨by decide, by decide⟩, _, rfl, _, _, rfl, rfl, _, _, rfl, rfl, (by show (0 : Int) < n / 9 % 5 + 1; (clear s0 hRl hR hG hc6 hp hok hc hSl h26 hS hl; omega)), ?_⟩
          refine ⟨Nat.zero_le _, fun a ha => ?_⟩
          refine ⟨5, rfl, by decide, by decide, for_range (fun i σ H3 => ∃ (ws : List Str) (v3 v7 : Option V), σ = [some (.int n), some (.str S), some (.str R), v3, some (.int (n / 9 % 5)), some (.int (n / 45 % (n / 9 % 5 + 1))), some (.ref a), v7] ∧ Same H1 H3 ∧ H3 a = some (.lst (ws.map V.str)) ∧ ws.length = i ∧ ∀ z ∈ ws, Wm z) ?_ ?_ ?_⟩
          · exact ⟨[], none, none, rfl, sm.trans (same_upd ha), upd_same, rfl, fun z hz => by simp at hz⟩
          · rintro i σ H3 hi ⟨ws, v3, v7, rfl, sm3, hA, hw, hok'⟩
            have hi5 : i < 5 := hi
            refine ⟨_, rfl, _, rfl, _, _, rfl, rfl, ⟨by decide, by decide⟩, _, rfl, _, _, rfl, rfl, .inl ⟨by decide, by decide⟩, _, _, rfl, rfl, _, _, rfl, rfl, (by show (0 : Int) < 26; decide), ?_⟩
            obtain ⟨j, hj, hjl⟩ := mod_ix (r := n / 225 + 5 * (0 + (i : Int))) (n := 26) (by decide)
            have hj' : j < (codes S).length := by (clear hjl hi5 hw hA hi ha s0 hRl hR hG hc6 hp hok hc h26 hS hl; omega)
            refine ⟨S, _, (codes S)[j], rfl, rfl, by (clear hj' hjl hj hi5 hw hA hi ha s0 hRl hR hG hc6 hp hok hc hSl hS; omega), by rw [← hj]; exact atI_nat (List.getElem?_eq_getElem hj'), ?_⟩
            have l1 := Txt.slice_le R none (some (n / 45 % (n / 9 % 5 + 1)))
            have l2 := Txt.slice_le R (some (n / 45 % (n / 9 % 5 + 1))) (some (n / 9 % 5))
            have hone : (⟨#[(codes S)[j]]⟩ : Str).length = 1 := rfl
            refine ⟨_, rfl, .inl ⟨rfl, _, SqL.of hA⟩, _, rfl, _, rfl, _, rfl, R, rfl, by (clear hone l2 l1 hj' hjl hj hi5 hw hA hi ha s0 hR hG hc6 hp hok hc hSl h26 hS; omega), _, rfl, _, _, rfl, rfl, by (clear l2 hjl hj hi5 hw hA hi ha s0 hR hG hc6 hp hok hc hSl h26 hS; omega), _, rfl, _, rfl, _, rfl, _, rfl, _, rfl, R, rfl, by (clear hone l2 l1 hj' hjl hj hi5 hw hA hi ha s0 hR hG hc6 hp hok hc hSl h26 hS; omega), _, _, rfl, rfl, by rw [PySem.Str.length_append]; (clear hjl hj hi5 hw hA hi ha s0 hR hG hc6 hp hok hc hSl h26 hS; omega), ?_⟩
            have hne : a ≠ a → False := fun z => z rfl
            refine ⟨a, _, _, rfl, rfl, hA, by simp; (clear hone l2 l1 hj' hjl hj hi5 hA ha s0 hRl hR hG hc6 hp hok hc hSl h26 hS; omega), ?_⟩
            refine ⟨ws ++ [Txt.slice R none (some (n / 45 % (n / 9 % 5 + 1))) ++ ⟨#[(codes S)[j]]⟩ ++ Txt.slice R (some (n / 45 % (n / 9 % 5 + 1))) (some (n / 9 % 5))], _, _, rfl, fun b u e => ?_, by rw [upd_same, List.map_append]; rfl, by simp [hw], fun z hz => ?_⟩
            · have hb : b ≠ a := fun z => by subst z; rw [sm.free ha] at e; cases e
              rw [upd_ne hb]; exact sm3 b u e
            · rcases List.mem_append.mp hz with q | q
              · exact hok' z q
              · have e : z = Txt.slice R none (some (n / 45 % (n / 9 % 5 + 1))) ++ ⟨#[(codes S)[j]]⟩ ++ Txt.slice R (some (n / 45 % (n / 9 % 5 + 1))) (some (n / 9 % 5)) := by simpa using q
                rw [e]
                refine ⟨by rw [PySem.Str.length_append, PySem.Str.length_append]; (clear e hjl hj hi5 hw hA hi ha s0 hR hG hc6 hp hok hc hSl h26 hS hl; omega), app_all (app_all (slice_all _ _ hR) ?_) (slice_all _ _ hR)⟩
                simp [all_get (p := isS) (l := codes S) hS hj']
          · rintro σ H3 ⟨ws, v3, v7, rfl, sm3, hA, hw, hok'⟩
            exact ⟨_, rfl, kk a H3 ws sm3 hA hw hok'⟩
theorem pickS {ss : List Str} {n L : Int} (h0 : 0 < ss.length) (hL : L = (ss.length : Nat)) : ∃ z ∈ ss, atI (ss.map V.str) (n % L) = some (.str z) := by
  obtain ⟨v, hv, e⟩ := pickV (xs := ss.map V.str) (n := n) (L := L) (by rw [List.length_map]; exact h0) (by rw [List.length_map]; exact hL)
  obtain ⟨z, hz, rfl⟩ := List.mem_map.mp hv
  exact ⟨z, hz, e⟩
structure RwA (H : Hp) (p : Addr) (r : Rw) : Prop where
  ex : ∃ q, H p = some (.tup [.str r.1, .ref q]) ∧ FrA H q r.2
structure RwL (H : Hp) (a : Addr) (rs : List Rw) : Prop where
  ex : ∃ ps : List Addr, H a = some (.lst (ps.map V.ref)) ∧ Paired (RwA H) ps rs
theorem RwA.same {H H' : Hp} {p : Addr} {r : Rw} (h : RwA H p r) (s : Same H H') : RwA H' p r := by
  obtain ⟨q, e, f⟩ := h.ex
  exact ⟨q, s _ _ e, s _ _ f⟩
theorem RwL.same {H H' : Hp} {a : Addr} {rs : List Rw} (h : RwL H a rs) (s : Same H H') : RwL H' a rs := by
  obtain ⟨ps, e, p⟩ := h.ex
  exact ⟨ps, s _ _ e, Paired.imp2 p fun b x q => q.same s⟩
theorem RwA.upd {H : Hp} {a p : Addr} {r : Rw} {xs : List V} {o : HO} (h : RwA H p r) (ha : H a = some (.lst xs)) : RwA (upd H a o) p r := by
  obtain ⟨q, e, f⟩ := h.ex
  refine ⟨q, ?_, ?_⟩
  · rw [upd_ne (fun z => by rw [z, ha] at e; cases e)]; exact e
  · rw [FrA, upd_ne (fun z => by rw [z, FrA, ha] at f; cases f)]; exact f
theorem RwL.put {H : Hp} {a : Addr} {ps qs : List Addr} {rs : List Rw} (ha : H a = some (.lst (ps.map V.ref))) (p : Paired (RwA H) qs rs) : RwL (upd H a (.lst (qs.map V.ref))) a rs :=
  ⟨qs, upd_same, Paired.imp2 p fun _ _ h => h.upd ha⟩
theorem RwL.other {H : Hp} {a b : Addr} {xs : List V} {o : HO} {rs : List Rw} (h : RwL H b rs) (ha : H a = some (.lst xs)) (n : b ≠ a) : RwL (upd H a o) b rs := by
  obtain ⟨ps, e, p⟩ := h.ex
  exact ⟨ps, by rw [upd_ne n]; exact e, Paired.imp2 p fun _ _ h => h.upd ha⟩
theorem same_put {H H' : Hp} {p : Addr} {o : HO} (s : Same H H') (hp : H p = none) : Same H (upd H' p o) := fun b u e => by
  rw [upd_ne (ne_of_none e hp)]; exact s b u e
noncomputable def dFr (x : Fr) : PyData := .tuple [.int x.1, .int (x.2 : Nat)]
noncomputable def dRw (r : Rw) : PyData := .tuple [.str r.1, dFr r.2]
theorem dt_fr {H : Hp} {q : Addr} {x : Fr} (h : FrA H q x) : DtV K H (.ref q) (dFr x) := .tup (SqT.of h) (.cons (.int _) (.cons (.int _) .nil))
theorem dt_rw {H : Hp} {p : Addr} {r : Rw} (h : RwA H p r) : DtV K H (.ref p) (dRw r) := by
  obtain ⟨q, e, f⟩ := h.ex
  exact .tup (SqT.of e) (.cons (.str _) (.cons (dt_fr f) .nil))
theorem dt_rws {H : Hp} {ps : List Addr} {rs : List Rw} (p : Paired (RwA H) ps rs) : DtVs K H (ps.map V.ref) (rs.map dRw) := by
  induction p with
  | nil => exact .nil
  | cons r _ ih => exact .cons (dt_rw r) ih
theorem RwL.dt {H : Hp} {a : Addr} {rs : List Rw} (h : RwL H a rs) : DtV K H (.ref a) (.list (rs.map dRw)) := by
  obtain ⟨ps, e, p⟩ := h.ex
  exact .lst (SqL.of e) (dt_rws p)
theorem lay_rw : ∀ {rs : List Rw}, (∀ x ∈ rs, Vr x) → (PyData.list (rs.map dRw)).canLay0 = true
  | [], _ => rfl
  | x :: rs, h => by
    have i : (PyData.list (rs.map dRw)).canLay0 = true := lay_rw fun y hy => h y (List.mem_cons_of_mem _ hy)
    have e : (PyData.list ((x :: rs).map dRw)).canLay0 = (((PyData.str x.1).canLay0 && true) && (PyData.list (rs.map dRw)).canLay0) := rfl
    rw [e, i, (h x List.mem_cons_self).k]
    rfl
theorem dep_rw (rs : List Rw) (y : PyData) : min (PyData.list (rs.map dRw)).depth y.depth ≤ 100 := by
  have : (PyData.list (rs.map dRw)).depth ≤ 4 := by
    induction rs with
    | nil => decide
    | cons x rs ih =>
      simp only [List.map_cons, PyData.depth, PyData.depthAll, dRw, dFr] at ih ⊢
      omega
  omega
theorem eqv_fr (x y : Fr) : PyData.eqv (dFr x) (dFr y) = decide (x = y) := by
  have h : PyData.eqv (dFr x) (dFr y) = (decide (x.1 = y.1) && (decide ((x.2 : Int) = (y.2 : Int)) && true)) := rfl
  rw [h, Bool.and_true]
  by_cases e : x = y
  · rw [e]; simp
  · rw [decide_eq_false e]
    by_cases e1 : x.1 = y.1
    · have e2 : ¬ ((x.2 : Int) = (y.2 : Int)) := fun z => e (Prod.ext e1 (Int.ofNat.inj z))
      rw [decide_eq_false e2, Bool.and_false]
    · rw [decide_eq_false e1, Bool.false_and]
noncomputable def spAhd : Sp := fun vs H Q _ => ∃ (p q : Addr) (x y : Rw), vs = [.ref p, .ref q] ∧ RwA H p x ∧ RwA H q y ∧ Vr x ∧ Vr y ∧ Q (.bl (ahd x y)) H
theorem scAhd : FnScope ["one", "other"] ["one", "other"] (defScope sAhd) := ⟨rfl, rfl, rfl, by decide +kernel, rfl, by decide +kernel, by decide +kernel⟩
seal PSs PS PE PT PA PG PI PGs PIfs in
theorem ok_ahd {f fl : Addr} {fd fdl : FuncData} (D : Df K mg "stands_ahead" sAhd f fd) (DL : Df K mg "is_less" sLess fl fdl) : FnOk P w K mg base CX0 2 f fd ["one", "other"] spAhd := by
  have GL : FnOk P w K mg base CX0 1 fl fdl ["one", "other"] spLess := ok_less DL
  have bL := DL.F.binds (ps := ["one", "other"]) fun _ _ _ _ _ _ us hl => us2 (fun _ _ => rfl) us hl
  refine D.F.ok scAhd (fun vs H Q E h => ?_) (fun cdv A outer s H vs Q E hr h => ?_)
  · obtain ⟨p, q, x, y, rfl, _⟩ := h
    rfl
  · obtain ⟨p, q, x, y, rfl, hx, hy, sx, sy, k⟩ := h
    refine ⟨_, (pss_cons (ps_if (pt_cmpR (op_eqD hr.units100) (pe_ix ix_tup (pv 0) pe_int (fun _ _ => rfl)) (pe_ix ix_tup (pv 1) pe_int (fun _ _ => rfl)) (nomark _)) (pss_one (ps_ret (pe_cmpR op_lt_str (pe_ix ix_tup (pv 0) pe_int (fun _ _ => rfl)) (pe_ix ix_tup (pv 1) pe_int (fun _ _ => rfl)) (nomark _)))) pss_nil)
      (pss_one (ps_ret (pe_call GL hr rfl DL.m DL.F.kp bL .nil pass0 (pa_cons (pe_ix ix_tup (pv 1) pe_int (fun _ _ => rfl)) (pa_cons (pe_ix ix_tup (pv 0) pe_int (fun _ _ => rfl)) pa_nil)))))), ?_⟩
    obtain ⟨px, ex, fx⟩ := hx.ex
    obtain ⟨py, ey, fy⟩ := hy.ex
    rw [← st_eq sx.s sy.s] at k
    refine ⟨_, rfl, p, _, _, _, rfl, rfl, SqT.of ex, atI_nat (j := 1) rfl, _, rfl, q, _, _, _, rfl, rfl, SqT.of ey, atI_nat (j := 1) rfl, dFr x.2, dFr y.2, dt_fr fx, dt_fr fy, rfl, rfl, Nat.le_trans (Nat.min_le_left _ _) (show 1 ≤ 100 by decide), _, rfl, ?_⟩
    rw [eqv_fr]
    by_cases e : x.2 = y.2
    · rw [if_pos e] at k
      rw [decide_eq_true e]
      refine iteT ?_
      exact ⟨_, rfl, p, _, _, _, rfl, rfl, SqT.of ex, atI_nat (j := 0) rfl, _, rfl, q, _, _, _, rfl, rfl, SqT.of ey, atI_nat (j := 0) rfl, _, _, rfl, rfl, k⟩
    · rw [if_neg e] at k
      rw [decide_eq_false e]
      refine iteF ?_
      exact ⟨_, rfl, q, _, _, _, rfl, rfl, SqT.of ey, atI_nat (j := 1) rfl, _, rfl, p, _, _, _, rfl, rfl, SqT.of ex, atI_nat (j := 1) rfl, py, px, y.2, x.2, rfl, fy, fx, Nat.lt_trans sy.s.b (by decide), Nat.lt_trans sx.s.b (by decide), k⟩
noncomputable def spPut : Sp := fun vs H Q _ => ∃ (a p : Addr) (ps : List Addr) (rs : List Rw) (x : Rw), vs = [.ref a, .ref p] ∧ H a = some (.lst (ps.map V.ref)) ∧ Paired (RwA H) ps rs ∧ RwA H p x ∧ Ord rs ∧ Vr x ∧ rs.length ≤ 1000 ∧
  ∀ k : Nat, Ord (insR x rs k) → Q .non (upd H a (.lst ((ps.take k ++ p :: ps.drop k).map V.ref)))
theorem scPut : FnScope ["ordered", "row", "low", "high", "middle"] ["ordered", "row"] (defScope sPut) := ⟨rfl, rfl, rfl, by decide +kernel, rfl, by decide +kernel, by decide +kernel⟩
seal PSs PS PE PT PA PG PI PGs PIfs in
theorem ok_put {f fl fa : Addr} {fd fdl fda : FuncData} (D : Df K mg "put_in" sPut f fd) (DA : Df K mg "stands_ahead" sAhd fa fda) (DL : Df K mg "is_less" sLess fl fdl) (T : Txt mg) : FnOk P w K mg base CX0 3 f fd ["ordered", "row"] spPut := by
  have GA : FnOk P w K mg base CX0 2 fa fda ["one", "other"] spAhd := ok_ahd DA DL
  have bA := DA.F.binds (ps := ["one", "other"]) fun _ _ _ _ _ _ us hl => us2 (fun _ _ => rfl) us hl
  refine D.F.ok scPut (fun vs H Q E h => ?_) (fun cdv A outer s H vs Q E hr h => ?_)
  · obtain ⟨a, p, ps, rs, x, rfl, _⟩ := h
    rfl
  · obtain ⟨a, p, ps, rs, x, rfl, eA, pA, hx, ho, sx, hl, k⟩ := h
    have plen := Paired.len pA
    refine ⟨_, (pss_cons (ps_set (i := 2) scPut.nd rfl (Or.inl rfl) pe_int)
      (pss_cons (ps_set (i := 3) scPut.nd rfl (Or.inl rfl) (pe_callB call_len_seq rfl T.len b_len (pa_cons (pv 0) pa_nil)))
      (pss_cons (ps_while PassesOwn.never (pt_cmpR op_lt (pv 2) (pv 3) (nomark _)) (pss_cons (ps_set (i := 4) scPut.nd rfl (Or.inl rfl) (pe_op op_fdiv (pe_op op_add (pv 2) (pv 3)) pe_int))
      (pss_one (ps_if (pt_val (pe_call GA hr rfl DA.m DA.F.kp bA .nil pass0 (pa_cons (pe_ix ix_list (pv 0) (pv 4) (fun _ _ => rfl)) (pa_cons (pv 1) pa_nil)))) (pss_one (ps_set (i := 2) scPut.nd rfl (Or.inl rfl) (pe_op op_add (pv 4) pe_int))) (pss_one (ps_set (i := 3) scPut.nd rfl (Or.inl rfl) (pv 4)))))))
      (pss_one (ps_expr (pe_bm PySem.F.plainAttrs_list PySem.F.slot_list_insert PySem.F.type_list_insert mt_insN (pv 0) (pa_cons (pv 2) (pa_cons (pv 1) pa_nil)))))))), ?_⟩
    refine ⟨_, rfl, a, _, rfl, .inl (SqL.of eA), ?_⟩
    rw [List.length_map, plen]
    refine while_by (fun σ H' => ∃ (lo hi : Nat) (m : Option V), σ = [some (.ref a), some (.ref p), some (.int lo), some (.int hi), m] ∧ H' = H ∧ Bs x rs lo hi) (fun σ _ => match σ with | [_, _, some (.int lo), some (.int hi), _] => (hi - lo).toNat | _ => 0) ⟨0, rs.length, none, rfl, rfl, Bs.start x rs⟩ ?_ ?_
    · rintro σ H' ⟨lo, hi, m, rfl, rfl, B⟩
      have ble := B.le
      have bhi := B.hi
      refine ⟨_, rfl, _, rfl, _, _, rfl, rfl, _, rfl, ?_⟩
      by_cases hlt : (lo : Int) < (hi : Int)
      · rw [decide_eq_true hlt]
        refine iteT ?_
        have em : ((lo : Int) + (hi : Int)) / 2 = (((lo + hi) / 2 : Nat) : Int) := by omega
        have hm : (lo + hi) / 2 < rs.length := by omega
        obtain ⟨b, hb, hB⟩ := Paired.at pA (List.getElem?_eq_getElem hm)
        refine ⟨_, rfl, _, rfl, _, _, rfl, rfl, _, _, rfl, rfl, ⟨by decide, by decide⟩, _, rfl, _, rfl, a, _, _, .ref b, rfl, rfl, SqL.of eA, ?_, _, rfl, b, p, rs[(lo + hi) / 2], x, rfl, hB, hx, ho.s _ (List.getElem_mem hm), sx, _, rfl, ?_⟩
        · rw [em]
          exact atI_nat (by rw [List.getElem?_map, hb]; rfl)
        · cases hc : ahd rs[(lo + hi) / 2] x with
          | true =>
            refine iteT ⟨_, rfl, _, _, rfl, rfl, ⟨(lo + hi) / 2 + 1, hi, some (.int (((lo + hi) / 2 : Nat) : Int)), ?_, rfl, B.up ho sx (by omega) (by omega) hm hc⟩, ?_⟩
            · simp only [List.set]
              rw [em]
              rfl
            · show ((hi : Int) - (((lo : Int) + hi) / 2 + 1)).toNat < ((hi : Int) - lo).toNat
              omega
          | false =>
            refine iteF ⟨_, rfl, ⟨lo, (lo + hi) / 2, some (.int (((lo + hi) / 2 : Nat) : Int)), ?_, rfl, B.down ho sx (by omega) (by omega) hm hc⟩, ?_⟩
            · simp only [List.set]
              rw [em]
            · show (((lo : Int) + hi) / 2 - (lo : Int)).toNat < ((hi : Int) - lo).toNat
              omega
      · rw [decide_eq_false hlt]
        have e : hi = lo := by omega
        subst e
        refine iteF ⟨_, rfl, .inl ⟨rfl, _, SqL.of eA⟩, _, rfl, _, rfl, a, _, _, hi, _, rfl, rfl, rfl, eA, by rw [List.length_map]; omega, by rw [List.length_map]; omega, ?_⟩
        have q := k hi (B.end ho sx)
        rw [List.map_append, List.map_cons, List.map_take, List.map_drop] at q
        exact q
    · intro σ H2 Q1 Q2 hq h
      obtain ⟨x1, h1, x2, h2, i, j, e1, e2, b, e3, h3⟩ := h
      exact ⟨x1, h1, x2, h2, i, j, e1, e2, b, e3, hq _ _ h3⟩
noncomputable def Wn (lo : Nat) (v : V) (_ : Hp) : Prop := ∃ m : Nat, v = .int m ∧ lo ≤ m ∧ m ≤ 1000000000002
theorem wn_of {lo : Nat} {i : Int} (h0 : (lo : Int) ≤ i) (h1 : i ≤ 1000000000002) (H : Hp) : Wn lo (.int i) H := ⟨i.toNat, by rw [Int.toNat_of_nonneg (by omega)], by omega, by omega⟩
theorem all4 {Rr : V → Prop} {a b c d : V} (ha : Rr a) (hb : Rr b) (hc : Rr c) (hd : Rr d) : ∀ v ∈ [a, b, c, d], Rr v :=
  List.forall_mem_cons.mpr ⟨ha, List.forall_mem_cons.mpr ⟨hb, List.forall_mem_cons.mpr ⟨hc, List.forall_mem_cons.mpr ⟨hd, fun v hv => nomatch hv⟩⟩⟩⟩
theorem all5 {Rr : V → Prop} {a b c d e : V} (ha : Rr a) (hb : Rr b) (hc : Rr c) (hd : Rr d) (he : Rr e) : ∀ v ∈ [a, b, c, d, e], Rr v :=
  List.forall_mem_cons.mpr ⟨ha, all4 hb hc hd he⟩
theorem md_b (i : Int) {m : Int} (hm : 0 < m) : 0 ≤ i % m ∧ i % m < m := ⟨Int.emod_nonneg _ (by omega), Int.emod_lt_of_pos _ hm⟩
noncomputable def spWorth : Sp := fun vs H Q _ => ∃ n : Int, vs = [.int n] ∧ ∀ p H' x, Same H H' → H p = none → FrA H' p x → Sh x → Q (.ref p) H'
theorem scWorth : FnScope ["_law_number_here", "_law_above", "_law_below", "_law_one", "_law_other"] ["_law_number_here"] (defScope lWorth) := ⟨rfl, rfl, rfl, by decide +kernel, rfl, by decide +kernel, by decide +kernel⟩
seal PSs PS PE PT PA PG PI PGs PIfs in
theorem ok_worth {f : Addr} {fd : FuncData} (D : Df K mg "_law_worth" lWorth f fd) : FnOk P w K mg base CX0 1 f fd ["_law_number_here"] spWorth := by
  refine D.F.ok scWorth (fun vs H Q E h => ?_) (fun cdv A outer s H vs Q E hr h => ?_)
  · obtain ⟨n, rfl, _⟩ := h
    rfl
  · obtain ⟨n, rfl, k⟩ := h
    have hz : (sizeLine : Nat) = 16777216 := sizeLine_eq
    refine ⟨_, (pss_cons (ps_set (i := 1) scWorth.nd rfl (Or.inl rfl) (pe_ix ix_list (pe_lst (pa_cons (pe_op op_mod (pe_op op_fdiv (pv 0) pe_int) pe_int) (pa_cons (pe_op op_mul pe_int (pe_op op_mod (pe_op op_fdiv (pv 0) pe_int) pe_int)) (pa_cons (pe_op op_add (pe_op op_pow pe_int pe_int) (pe_op op_mod (pe_op op_fdiv (pv 0) pe_int) pe_int)) (pa_cons (pe_op op_mod (pe_op op_fdiv (pv 0) pe_int) (pe_op op_pow pe_int pe_int)) pa_nil))))) (pe_op op_mod (pv 0) pe_int) (fun _ _ => rfl)))
      (pss_cons (ps_set (i := 2) scWorth.nd rfl (Or.inl rfl) (pe_ix ix_list (pe_lst (pa_cons pe_int (pa_cons pe_int (pa_cons (pe_op op_add pe_int (pe_op op_mod (pe_op op_fdiv (pv 0) pe_int) pe_int)) (pa_cons (pe_op op_add pe_int (pe_op op_mod (pe_op op_fdiv (pv 0) pe_int) pe_int)) (pa_cons (pe_op op_add (pe_op op_pow pe_int pe_int) (pe_op op_mod (pe_op op_fdiv (pv 0) pe_int) pe_int)) pa_nil)))))) (pe_op op_mod (pe_op op_fdiv (pv 0) pe_int) pe_int) (fun _ _ => rfl)))
      (pss_cons (ps_par (i := 3) (j := 4) rfl scWorth.nd rfl rfl (by decide) rfl rfl (pa_cons (pv 1) (pa_cons (pv 2) pa_nil)) rfl)
      (pss_cons (ps_while PassesOwn.never (pt_cmpR op_gt (pv 4) pe_int (nomark _)) (pss_one (ps_par (i := 3) (j := 4) rfl scWorth.nd rfl rfl (by decide) rfl rfl (pa_cons (pv 4) (pa_cons (pe_op op_sub (pv 3) (pe_op op_mul (pe_op op_fdivB (pv 3) (pv 4)) (pv 4))) pa_nil)) rfl)))
      (pss_one (ps_ret (pe_tup (pa_cons (pe_op op_fdivB (pv 1) (pv 3)) (pa_cons (pe_op op_fdivB (pv 2) (pv 3)) pa_nil))))))))), ?_⟩
    refine ⟨_, rfl, _, _, rfl, rfl, ⟨by decide, by decide⟩, _, _, rfl, rfl, (by show (0 : Int) < 4; decide), _, rfl, _, _, rfl, rfl, ⟨by decide, by decide⟩, _, _, rfl, rfl, (by show (0 : Int) < 9; decide), _, _, rfl, rfl, .inl ⟨by decide, by decide⟩, _, _, rfl, rfl, ⟨by decide, by decide, by decide⟩, _, rfl, _, _, rfl, rfl, ⟨by decide, by decide⟩, _, _, rfl, rfl, (by show (0 : Int) < 3; decide), _, _, rfl, rfl, _, rfl, _, _, rfl, rfl, ⟨by decide, by decide⟩, _, _, rfl, rfl, ⟨by decide, by decide, by decide⟩, _, _, rfl, rfl, (by show (0 : Int) < 10 ^ (9 : Int).toNat; decide), (by show 4 ≤ sizeLine; omega), fun p1 hp1 => ?_⟩
    refine ⟨_, rfl, _, _, rfl, rfl, (by show (0 : Int) < 4; decide), ?_⟩
    refine ixPickP (Wn 0) upd_same (by show 0 < 4; decide) rfl (all4 (Rr := fun v => Wn 0 v _) (wn_of ?_ ?_ _) (wn_of ?_ ?_ _) (wn_of ?_ ?_ _) (wn_of ?_ ?_ _)) ?_
    · exact (md_b _ (by decide)).1
    · have := (md_b (n / 12) (m := 4) (by decide)).2; omega
    · have := (md_b (n / 12) (m := 9) (by decide)).1; omega
    · have := (md_b (n / 12) (m := 9) (by decide)).2; omega
    · have := (md_b (n / 12) (m := 3) (by decide)).1; show (0 : Int) ≤ 10 ^ 12 + _; omega
    · have := (md_b (n / 12) (m := 3) (by decide)).2; show (10 : Int) ^ 12 + _ ≤ _; omega
    · exact (md_b _ (by decide)).1
    · have := (md_b (n / 12) (m := 10 ^ (9 : Int).toNat) (by decide)).2
      have e9 : (10 : Int) ^ (9 : Int).toNat = 1000000000 := by decide
      rw [e9] at this
      show n / 12 % 10 ^ (9 : Int).toNat ≤ _
      rw [e9]
      omega
    rintro v ⟨ab, rfl, a0, a1⟩
    have s1 := same_upd (o := .lst [V.int (n / 12 % 4), V.int (2 * (n / 12 % 9)), V.int (10 ^ (12 : Int).toNat + n / 12 % 3), V.int (n / 12 % 10 ^ (9 : Int).toNat)]) hp1
    generalize upd H p1 _ = H1 at s1 ⊢
    refine ⟨_, rfl, _, _, rfl, rfl, ⟨by decide, by decide⟩, _, _, rfl, rfl, (by show (0 : Int) < 4; decide), _, _, rfl, rfl, _, rfl, _, _, rfl, rfl, ⟨by decide, by decide⟩, _, _, rfl, rfl, (by show (0 : Int) < 6; decide), _, _, rfl, rfl, _, _, rfl, rfl, ⟨by decide, by decide, by decide⟩, _, rfl, _, _, rfl, rfl, ⟨by decide, by decide⟩, _, _, rfl, rfl, (by show (0 : Int) < 3; decide), _, _, rfl, rfl, (by show 5 ≤ sizeLine; omega), fun p2 hp2 => ?_⟩
    refine ⟨_, rfl, _, _, rfl, rfl, ⟨by decide, by decide⟩, _, _, rfl, rfl, (by show (0 : Int) < 5; decide), ?_⟩
    refine ixPickP (Wn 1) upd_same (by show 0 < 5; decide) rfl (all5 (Rr := fun v => Wn 1 v _) (wn_of (by decide) (by decide) _) (wn_of (by decide) (by decide) _) (wn_of ?_ ?_ _) (wn_of ?_ ?_ _) (wn_of ?_ ?_ _)) ?_
    · have := (md_b (n / 48) (m := 4) (by decide)).1; show (1 : Int) ≤ 1 + _; omega
    · have := (md_b (n / 48) (m := 4) (by decide)).2; omega
    · have := (md_b (n / 48) (m := 6) (by decide)).1; show (1 : Int) ≤ 1 + _; omega
    · have := (md_b (n / 48) (m := 6) (by decide)).2; omega
    · have := (md_b (n / 96) (m := 3) (by decide)).1; show (1 : Int) ≤ 10 ^ 12 + _; omega
    · have := (md_b (n / 96) (m := 3) (by decide)).2; show (10 : Int) ^ 12 + _ ≤ _; omega
    rintro v ⟨be, rfl, b0, b1⟩
    have s2 := s1.trans (same_upd (o := .lst [V.int 1, V.int 2, V.int (1 + n / 48 % 4), V.int (1 + n / 48 % 6), V.int (10 ^ (12 : Int).toNat + n / 96 % 3)]) hp2)
    generalize upd H1 p2 _ = H2 at s2 ⊢
    refine ⟨_, rfl, _, rfl, _, _, rfl, ?_⟩
    refine while_by (fun σ H' => ∃ (x y : Nat), σ = [some (.int n), some (.int ab), some (.int be), some (.int x), some (.int y)] ∧ H' = H2 ∧ Nat.gcd x y = Nat.gcd ab be ∧ x ≤ 1000000000002 ∧ y ≤ 1000000000002) (fun σ _ => match σ with | [_, _, _, _, some (.int r)] => r.toNat | _ => 0) ⟨ab, be, rfl, rfl, rfl, a1, b1⟩ ?_ ?_
    · rintro σ H' ⟨x, y, rfl, rfl, he, x1, y1⟩
      refine ⟨_, rfl, _, _, rfl, rfl, _, rfl, ?_⟩
      by_cases hy : (0 : Int) < y
      · rw [decide_eq_true hy]
        refine iteT ?_
        have lg : (y : Int).natAbs.log2 < 9000 := Nat.lt_trans (log2_lt (m := 100) (by rw [Int.natAbs_natCast]; exact Nat.lt_of_le_of_lt y1 (by decide)) (by decide)) (by decide)
        refine ⟨_, rfl, _, rfl, _, rfl, _, rfl, _, _, rfl, rfl, ⟨hy, lg⟩, _, rfl, _, _, rfl, rfl, .inr ⟨by omega, by omega⟩, _, _, rfl, rfl, _, _, rfl, ?_⟩
        have e : (x : Int) - (x : Int) / (y : Int) * (y : Int) = ((x % y : Nat) : Int) := by
          rw [Int.natCast_emod, Int.emod_def, Int.mul_comm]
        have ml := Nat.mod_lt x (show 0 < y by omega)
        refine ⟨⟨y, x % y, ?_, rfl, ?_, y1, by omega⟩, ?_⟩
        · simp only [List.set]
          rw [e]
        · rw [← he, Nat.gcd_comm x y, Nat.gcd_rec y x, Nat.gcd_comm]
        · show ((x : Int) - (x : Int) / (y : Int) * (y : Int)).toNat < (y : Int).toNat
          rw [e]
          omega
      · rw [decide_eq_false hy]
        have y0 : y = 0 := by omega
        subst y0
        rw [Nat.gcd_zero_right] at he
        subst he
        have g0 : 0 < Nat.gcd ab be := Nat.gcd_pos_of_pos_right _ (by omega)
        have lg : ((Nat.gcd ab be : Nat) : Int).natAbs.log2 < 9000 := Nat.lt_trans (log2_lt (m := 100) (by rw [Int.natAbs_natCast]; exact Nat.lt_of_le_of_lt x1 (by decide)) (by decide)) (by decide)
        have c : (0 : Int) < ((Nat.gcd ab be : Nat) : Int) ∧ ((Nat.gcd ab be : Nat) : Int).natAbs.log2 < 9000 := ⟨by omega, lg⟩
        refine iteF ⟨_, rfl, _, rfl, _, _, rfl, rfl, c, _, rfl, _, rfl, _, _, rfl, rfl, c, (by show 2 ≤ sizeLine; omega), fun p hp => k p _ (mkF ab be) (s2.trans (same_upd hp)) ?_ ?_ (mkF_sh (by omega) (by omega) (by omega))⟩
        · exact s2.free hp
        · rw [FrA, upd_same]
          unfold mkF
          rw [Int.natAbs_natCast]
          show some (HO.tup [.int ((ab : Int) / (Nat.gcd ab be : Nat)), .int ((be : Int) / (Nat.gcd ab be : Nat))]) = some (HO.tup [.int ((ab : Int) / (Nat.gcd ab be : Nat)), .int ((be / Nat.gcd ab be : Nat) : Int)])
          rw [Int.natCast_ediv]
    · intro σ H2 Q1 Q2 hq h
      obtain ⟨x1, h1, i, j, e1, e2, b, e3, h3⟩ := h
      exact ⟨x1, h1, i, j, e1, e2, b, e3, hq _ _ h3⟩
theorem lay_isS {z : Str} (h : z.cps.toList.all isS = true) : (PyData.str z).canLay0 = true := by
  show z.cps.all _ = true
  rw [← Array.all_toList]
  refine List.all_eq_true.mpr fun c hc => decide_eq_true ?_
  have := List.all_eq_true.mp h c hc
  unfold isS at this
  simp at this
  omega
noncomputable def Sf (v : V) (_ : Hp) : Prop := ∃ z : Str, v = .str z ∧ z.length ≤ 1 ∧ z.cps.toList.all isS = true
noncomputable def spRows (K : PySem.W.Frag) : Sp := fun vs H Q _ => ∃ (a m : Addr) (ns : List Int) (first many : Nat) (ws : List Str), vs = [.ref a, .int first, .int many, .ref m] ∧ SqL K H a (ns.map V.int) ∧ ns.length ≤ 63 ∧ first ≤ 100 ∧ many ≤ 100 ∧
  H m = some (.lst (ws.map V.str)) ∧ ws.length = 5 ∧ (∀ z ∈ ws, Wm z) ∧ ∀ p H' rs, Same H H' → H p = none → RwL H' p rs → rs.length = many → (∀ x ∈ rs, Vr x) → Q (.ref p) H'
theorem scRows : FnScope ["_law_script", "_law_first", "_law_many", "_law_menu_here", "_law_found", "_law_k", "_law_number_here"] ["_law_script", "_law_first", "_law_many", "_law_menu_here"] (defScope lRows) := ⟨rfl, rfl, rfl, by decide +kernel, rfl, by decide +kernel, by decide +kernel⟩
seal PSs PS PE PT PA PG PI PGs PIfs in
theorem ok_rows {f fn fm fw : Addr} {fd fdn fdm fdw : FuncData} (D : Df K mg "_law_rows" lRows f fd) (DNu : Df K mg "_law_number" lNumber fn fdn) (DM : Df K mg "_law_mixed" lMixed fm fdm) (DW : Df K mg "_law_worth" lWorth fw fdw) (T : Txt mg) :
    FnOk P w K mg base CX0 3 f fd ["_law_script", "_law_first", "_law_many", "_law_menu_here"] (spRows K) := by
  have GNu : FnOk P w K mg base CX0 2 fn fdn ["_law_script", "_law_k"] (spNumber K) := ok_number DNu DM T
  have bNu := DNu.F.binds (ps := ["_law_script", "_law_k"]) fun _ _ _ _ _ _ us hl => us2 (fun _ _ => rfl) us hl
  have GW : FnOk P w K mg base CX0 1 fw fdw ["_law_number_here"] spWorth := ok_worth DW
  have bW := binds1 (p := "_law_number_here") DW.F fun _ _ _ _ _ _ _ => rfl
  refine D.F.ok scRows (fun vs H Q E h => ?_) (fun cdv A outer s H vs Q E hr h => ?_)
  · obtain ⟨a, m, ns, first, many, ws, rfl, _⟩ := h
    rfl
  · obtain ⟨a, m, ns, first, many, ws, rfl, hS, hl, hf, hm, eM, w5, hW, k⟩ := h
    have hz : (sizeLine : Nat) = 16777216 := sizeLine_eq
    refine ⟨_, (pss_cons (ps_set (i := 4) scRows.nd rfl (Or.inl rfl) (pe_lst pa_nil))
      (pss_cons (ps_for PassesOwn.never rfl (pi_range1 rfl T.range (pa_cons (pv 2) pa_nil)) (pg_name (i := 5) scRows.nd rfl (Or.inl rfl)) (pss_cons (ps_set (i := 6) scRows.nd rfl (Or.inl rfl) (pe_call (GNu.mono (by decide)) hr rfl DNu.m DNu.F.kp bNu .nil pass0 (pa_cons (pv 0) (pa_cons (pe_op op_add (pv 1) (pv 5)) pa_nil))))
      (pss_one (ps_expr (pe_bm PySem.F.plainAttrs_list PySem.F.slot_list_append PySem.F.type_list_append mt_append (pv 4) (pa_cons (pe_tup (pa_cons (pe_op op_add_str (pe_ix ix_list (pv 3) (pe_op op_mod (pv 6) pe_int) (fun _ _ => rfl)) (pe_ix ix_list (pe_lst (pa_cons pe_str (pa_cons pe_str (pa_cons pe_str (pa_cons pe_str pa_nil))))) (pe_op op_mod (pe_op op_fdiv (pv 6) pe_int) pe_int) (fun _ _ => rfl))) (pa_cons (pe_call (GW.mono (by decide)) hr rfl DW.m DW.F.kp bW .nil pass0 (pa_cons (pe_op op_fdiv (pv 6) pe_int) pa_nil)) pa_nil))) pa_nil))))))
      (pss_one (ps_ret (pv 4))))), ?_⟩
    refine ⟨Nat.zero_le _, fun p hp => ⟨_, rfl, many, rfl, by omega, by omega, ?_⟩⟩
    refine for_range (fun i σ H' => ∃ (rs : List Rw) (o5 o6 : Option V), σ = [some (.ref a), some (.int first), some (.int many), some (.ref m), some (.ref p), o5, o6] ∧ Same H H' ∧ RwL H' p rs ∧ rs.length = i ∧ ∀ x ∈ rs, Vr x) ?_ ?_ ?_
    · exact ⟨[], none, none, rfl, same_upd hp, ⟨[], upd_same, .nil⟩, rfl, fun x hx => nomatch hx⟩
    · rintro i σ H' hi ⟨rs, o5, o6, rfl, sm, hR, hn, hsh⟩
      have hi' : i < many := by have h : i < (many : Int).toNat := hi; omega
      refine ⟨_, rfl, _, rfl, _, rfl, _, _, rfl, rfl, a, ns, first + i, (by show [V.ref a, V.int ((first : Int) + (0 + (i : Int)))] = _; rw [Int.zero_add]; rfl), sm.seq hS, hl, by omega, fun n H1 n0 n1 s1 => ?_⟩
      obtain ⟨ps, eP, pP⟩ := (hR.same s1).ex
      have plen := Paired.len pP
      refine ⟨_, rfl, .inl ⟨rfl, _, SqL.of eP⟩, _, rfl, _, rfl, _, _, rfl, rfl, (by show (0 : Int) < 5; decide), ?_⟩
      obtain ⟨z, hz1, ez⟩ := pickS (ss := ws) (n := n) (L := 5) (by omega) (by rw [w5]; rfl)
      refine ⟨m, _, _, .str z, rfl, rfl, SqL.of (s1 _ _ (sm _ _ eM)), ez, (by show 4 ≤ sizeLine; omega), fun q hq => ?_⟩
      refine ⟨_, rfl, _, _, rfl, rfl, ⟨by decide, by decide⟩, _, _, rfl, rfl, (by show (0 : Int) < 4; decide), ?_⟩
      refine ixPickP Sf upd_same (by show 0 < 4; decide) rfl (all4 (Rr := fun v => Sf v _) ⟨_, rfl, by decide, by decide +kernel⟩ ⟨_, rfl, by decide, by decide +kernel⟩ ⟨_, rfl, by decide, by decide +kernel⟩ ⟨_, rfl, by decide, by decide +kernel⟩) ?_
      rintro v ⟨y, rfl, hy, hyS⟩
      have wz := (hW z hz1).1
      refine ⟨_, _, rfl, rfl, by omega, _, rfl, _, _, rfl, rfl, ⟨by decide, by decide⟩, n / 20, rfl, fun r H2 x s2 hr2 hF hx => ?_⟩
      have s02 : Same H1 H2 := (same_upd hq).trans s2
      refine ⟨(by show 2 ≤ sizeLine; omega), fun t ht => ?_⟩
      have s3 : Same H1 (upd H2 t (.tup [.str (z ++ y), .ref r])) := s02.trans (same_upd ht)
      have eP3 := s3 _ _ eP
      refine ⟨p, _, _, rfl, rfl, eP3, by rw [List.length_map]; omega, rs ++ [(z ++ y, x)], _, _, rfl, same_put ((sm.trans s1).trans s3) hp, ?_, by rw [List.length_append, hn]; rfl, fun u hu => ?_⟩
      · have pr : Paired (RwA (upd H2 t (.tup [.str (z ++ y), .ref r]))) (ps ++ [t]) (rs ++ [(z ++ y, x)]) := Paired.app (Paired.imp2 pP fun _ _ h => h.same s3) ⟨r, upd_same, same_upd ht _ _ hF⟩
        have := RwL.put eP3 pr
        rw [List.map_append] at this
        exact this
      · rcases List.mem_append.mp hu with q | q
        · exact hsh u q
        · rw [List.mem_singleton.mp q]; exact ⟨hx, lay_isS (app_all (hW z hz1).2 hyS)⟩
    · rintro σ H' ⟨rs, o5, o6, rfl, sm, hR, hn, hsh⟩
      exact ⟨_, rfl, k p H' rs sm hp hR (by rw [hn]; show (many : Int).toNat = many; omega) hsh⟩
theorem scLAhd : FnScope ["_law_one", "_law_other", "_law_here", "_law_there"] ["_law_one", "_law_other"] (defScope lAhd) := ⟨rfl, rfl, rfl, by decide +kernel, rfl, by decide +kernel, by decide +kernel⟩
seal PSs PS PE PT PA PG PI PGs PIfs in
theorem ok_lahd {f : Addr} {fd : FuncData} (D : Df K mg "_law_is_ahead" lAhd f fd) : FnOk P w K mg base CX0 1 f fd ["_law_one", "_law_other"] spAhd := by
  refine D.F.ok scLAhd (fun vs H Q E h => ?_) (fun cdv A outer s H vs Q E hr h => ?_)
  · obtain ⟨p, q, x, y, rfl, _⟩ := h
    rfl
  · obtain ⟨p, q, x, y, rfl, hx, hy, sx, sy, k⟩ := h
    refine ⟨_, (pss_cons (ps_par (i := 2) (j := 3) rfl scLAhd.nd rfl rfl (by decide) rfl rfl (pa_cons (pe_op op_mul (pe_ix ix_tup (pe_ix ix_tup (pv 0) pe_int (fun _ _ => rfl)) pe_int (fun _ _ => rfl)) (pe_ix ix_tup (pe_ix ix_tup (pv 1) pe_int (fun _ _ => rfl)) pe_int (fun _ _ => rfl))) (pa_cons (pe_op op_mul (pe_ix ix_tup (pe_ix ix_tup (pv 1) pe_int (fun _ _ => rfl)) pe_int (fun _ _ => rfl)) (pe_ix ix_tup (pe_ix ix_tup (pv 0) pe_int (fun _ _ => rfl)) pe_int (fun _ _ => rfl))) pa_nil)) rfl)
      (pss_one (ps_ret (pe_or (pe_cmpR op_gt (pv 2) (pv 3) (nomark _)) (pe_one (pe_and (pe_cmpR op_eq (pv 2) (pv 3) (nomark _)) (pe_one (pe_cmpR op_lt_str (pe_ix ix_tup (pv 0) pe_int (fun _ _ => rfl)) (pe_ix ix_tup (pv 1) pe_int (fun _ _ => rfl)) (nomark _))))))))), ?_⟩
    obtain ⟨px, ex, fx⟩ := hx.ex
    obtain ⟨py, ey, fy⟩ := hy.ex
    have bx := sx.s.b
    have by' := sy.s.b
    refine ⟨_, rfl, p, _, _, _, rfl, rfl, SqT.of ex, atI_nat (j := 1) rfl, px, _, _, _, rfl, rfl, SqT.of fx, atI_nat (j := 0) rfl, _, rfl, q, _, _, _, rfl, rfl, SqT.of ey, atI_nat (j := 1) rfl, py, _, _, _, rfl, rfl, SqT.of fy, atI_nat (j := 1) rfl, _, _, rfl, rfl, .inr ⟨by omega, by omega⟩, _, rfl, q, _, _, _, rfl, rfl, SqT.of ey, atI_nat (j := 1) rfl, py, _, _, _, rfl, rfl, SqT.of fy, atI_nat (j := 0) rfl, _, rfl, p, _, _, _, rfl, rfl, SqT.of ex, atI_nat (j := 1) rfl, px, _, _, _, rfl, rfl, SqT.of fx, atI_nat (j := 1) rfl, _, _, rfl, rfl, .inr ⟨by omega, by omega⟩, _, _, rfl, ?_⟩
    refine ⟨_, rfl, _, rfl, _, _, rfl, rfl, _, rfl, ?_⟩
    unfold ahd at k
    by_cases h1 : y.2.1 * (x.2.2 : Int) < x.2.1 * (y.2.2 : Int)
    · rw [decide_eq_true h1] at k ⊢
      exact iteT k
    · rw [decide_eq_false h1] at k ⊢
      refine iteF ⟨_, rfl, _, rfl, rfl, _, rfl, ?_⟩
      by_cases h2 : x.2.1 * (y.2.2 : Int) = y.2.1 * (x.2.2 : Int)
      · rw [dec_i h2]
        rw [decide_eq_true h2] at k
        refine iteT ⟨_, rfl, p, _, _, _, rfl, rfl, SqT.of ex, atI_nat (j := 0) rfl, _, rfl, q, _, _, _, rfl, rfl, SqT.of ey, atI_nat (j := 0) rfl, _, _, rfl, rfl, ?_⟩
        rw [Bool.false_or, Bool.true_and] at k
        exact k
      · rw [dec_n h2]
        rw [decide_eq_false h2] at k
        exact iteF k
theorem PT.imp {X : Cx} {e : Expr} {t t' : TT} (h : PT X e t) (i : ∀ σ H Q, t' σ H Q → t σ H Q) : PT X e t' := fun pins s σ H Q I q => h pins s σ H Q I (i σ H Q q)
noncomputable def goes (x : Rw) (gs : List Rw) (k : Nat) : Bool := match gs[k]? with
  | some y => !ahd x y
  | none => false
noncomputable def tGo (K : PySem.W.Frag) : TT := fun σ H Q => ∃ (r p : Addr) (x : Rw) (qs : List Addr) (gs : List Rw) (k : Nat), σ[1]? = some (some (.ref r)) ∧ σ[2]? = some (some (.ref p)) ∧ σ[3]? = some (some (.int k)) ∧ H r = some (.lst (qs.map V.ref)) ∧ Paired (RwA H) qs gs ∧ RwA H p x ∧ Vr x ∧ (∀ y ∈ gs, Vr y) ∧ Q (goes x gs k) H
theorem goB : ∀ (σ : L2.St) (H : Hp) (Q : Bool → Hp → Prop), tGo K σ H Q → tAnd (tTest (tOp (rI0 fun i j => .bl (decide (i < j))) (tVar 3) (tCB (fun xs H Q => ∃ p ys, xs = [.ref p] ∧ (SqL K H p ys ∨ SqT K H p ys) ∧ Q (.int ys.length) H) (tCons (tVar 1) tNil))))
    (tNot (tB (tCall spAhd [] E0 (tCons (tVar 2) (tCons (tOp (rIxL K) (tVar 1) (tVar 3)) tNil))))) σ H Q := by
  rintro σ H Q ⟨r, p, x, qs, gs, k, h1, h2, h3, e, pr, hx, bx, bg, q⟩
  have plen := Paired.len pr
  refine ⟨_, h3, _, h1, r, _, rfl, .inl (SqL.of e), _, _, rfl, rfl, _, rfl, ?_⟩
  by_cases hk : k < gs.length
  · have hy : gs[k]? = some gs[k] := List.getElem?_eq_getElem hk
    obtain ⟨b, hb, hB⟩ := Paired.at pr hy
    rw [decide_eq_true (show (k : Int) < ((qs.map V.ref).length : Nat) by rw [List.length_map]; omega)]
    refine iteT ⟨_, h2, _, h1, _, h3, r, _, _, .ref b, rfl, rfl, SqL.of e, atI_nat (by rw [List.getElem?_map, hb]; rfl), p, b, x, gs[k], rfl, hx, hB, bx, bg _ (List.getElem_mem hk), _, rfl, ?_⟩
    have ge : goes x gs k = !ahd x gs[k] := by unfold goes; rw [hy]
    rw [ge] at q
    exact q
  · rw [decide_eq_false (show ¬ (k : Int) < ((qs.map V.ref).length : Nat) by rw [List.length_map]; omega)]
    have ge : goes x gs k = false := by unfold goes; rw [List.getElem?_eq_none_iff.mpr (by omega)]
    rw [ge] at q
    exact iteF q
noncomputable def spIn : Sp := fun vs H Q _ => ∃ (a : Addr) (rs : List Rw), vs = [.ref a] ∧ RwL H a rs ∧ (∀ x ∈ rs, Vr x) ∧ rs.length ≤ 1000 ∧ ∀ p H' ms, Same H H' → H p = none → RwL H' p ms → ms.Perm rs → Ord ms → Q (.ref p) H'
theorem scLIn : FnScope ["_law_rows_here", "_law_found", "_law_row", "_law_at"] ["_law_rows_here"] (defScope lInRow) := ⟨rfl, rfl, rfl, by decide +kernel, rfl, by decide +kernel, by decide +kernel⟩
seal PSs PS PE PT PA PG PI PGs PIfs in
theorem ok_lin {f fa : Addr} {fd fda : FuncData} (D : Df K mg "_law_in_row" lInRow f fd) (DA : Df K mg "_law_is_ahead" lAhd fa fda) (T : Txt mg) : FnOk P w K mg base CX0 2 f fd ["_law_rows_here"] spIn := by
  have GA : FnOk P w K mg base CX0 1 fa fda ["_law_one", "_law_other"] spAhd := ok_lahd DA
  have bA := DA.F.binds (ps := ["_law_one", "_law_other"]) fun _ _ _ _ _ _ us hl => us2 (fun _ _ => rfl) us hl
  refine D.F.ok scLIn (fun vs H Q E h => ?_) (fun cdv A outer s H vs Q E hr h => ?_)
  · obtain ⟨a, rs, rfl, _⟩ := h
    rfl
  · obtain ⟨a, rs, rfl, hR, hsh, hl, kk⟩ := h
    refine ⟨_, (pss_cons (ps_set (i := 1) scLIn.nd rfl (Or.inl rfl) (pe_lst pa_nil))
      (pss_cons (ps_for PassesOwn.never rfl (pi_list (pv 0)) (pg_name (i := 2) scLIn.nd rfl (Or.inl rfl)) (pss_cons (ps_set (i := 3) scLIn.nd rfl (Or.inl rfl) pe_int)
      (pss_cons (ps_while PassesOwn.never (PT.imp (t' := tGo K) (PW.pt (pw_and (pt_cmpR op_lt (pv 3) (pe_callB call_len_seq rfl T.len b_len (pa_cons (pv 1) pa_nil)) (nomark _)) (pw_and1 (pt_not (pt_val (pe_call GA hr rfl DA.m DA.F.kp bA .nil pass0 (pa_cons (pv 2) (pa_cons (pe_ix (ix_listK (K := K) rfl) (pv 1) (pv 3) (fun _ _ => rfl)) pa_nil)))))))) goB) (pss_one (ps_set (i := 3) scLIn.nd rfl (Or.inl rfl) (pe_op op_add (pv 3) pe_int))))
      (pss_one (ps_expr (pe_bm PySem.F.plainAttrs_list PySem.F.slot_list_insert PySem.F.type_list_insert mt_insN (pv 1) (pa_cons (pv 3) (pa_cons (pv 2) pa_nil))))))))
      (pss_one (ps_ret (pv 1))))), ?_⟩
    obtain ⟨ps, eA, pA⟩ := hR.ex
    have plen := Paired.len pA
    refine ⟨Nat.zero_le _, fun r hr0 => ⟨_, rfl, a, rfl, ⟨_, SqL.of (same_upd hr0 _ _ eA)⟩, ?_⟩⟩
    refine for_list (xs := ps.map V.ref) (fun i σ H' => ∃ (ms : List Rw) (o2 o3 : Option V), σ = [some (.ref a), some (.ref r), o2, o3] ∧ Same H H' ∧ RwL H' r ms ∧ ms.Perm (rs.take i) ∧ Ord ms) ?_ ?_ ?_ ?_
    · exact ⟨[], none, none, rfl, same_upd hr0, ⟨[], upd_same, .nil⟩, .nil, Ord.nil⟩
    · rintro i σ H' _ ⟨ms, o2, o3, _, sm, _⟩
      exact SqL.of (sm _ _ eA)
    · rintro i v σ H' hv ⟨ms, o2, o3, rfl, sm, hM, hp, ho⟩
      rw [List.getElem?_map] at hv
      cases hpi : ps[i]? with
      | none => rw [hpi] at hv; cases hv
      | some p =>
        rw [hpi] at hv
        have hv' : v = .ref p := (Option.some.inj hv).symm
        subst hv'
        obtain ⟨x, hxi, hx0⟩ := paired_get pA hpi
        have hx : RwA H' p x := hx0.same sm
        have hxm := List.mem_of_getElem? hxi
        have mlen : ms.length ≤ 1000 := by rw [hp.length_eq, List.length_take]; omega
        obtain ⟨qs, eM, pM⟩ := hM.ex
        have fin : ∀ k : Nat, Ord (insR x ms k) → Same H (upd H' r (.lst ((qs.take k ++ p :: qs.drop k).map V.ref))) ∧ RwL (upd H' r (.lst ((qs.take k ++ p :: qs.drop k).map V.ref))) r (insR x ms k) ∧ (insR x ms k).Perm (rs.take (i + 1)) := fun k _ => by
          refine ⟨same_put sm hr0, RwL.put eM (Paired.cat (Paired.tk k pM) (.cons hx (Paired.dp k pM))), ?_⟩
          rw [List.take_add_one, hxi]
          exact ((insR_perm x ms k).trans (hp.cons x)).trans (List.perm_append_singleton x _).symm
        refine while_by (fun σ H2 => ∃ k : Nat, σ = [some (.ref a), some (.ref r), some (.ref p), some (.int k)] ∧ H2 = H' ∧ k ≤ ms.length ∧ ∀ y ∈ ms.take k, ahd x y = false) (fun σ _ => match σ with | [_, _, _, some (.int k)] => ms.length - k.toNat | _ => 0) ⟨0, rfl, rfl, Nat.zero_le _, fun y hy => nomatch hy⟩ ?_ ?_
        · rintro σ H2 ⟨k, rfl, rfl, hk, hle⟩
          have stop : (∀ (hk : k < ms.length), ahd x ms[k] = true) → _ := fun z => fin k (lin_end ho (hsh x hxm) hle z)
          have stopO : (∀ (hk : k < ms.length), ahd x ms[k] = true) → Ord (insR x ms k) := fun z => lin_end ho (hsh x hxm) hle z
          refine ⟨r, p, x, qs, ms, k, rfl, rfl, rfl, eM, pM, hx, hsh x hxm, ho.s, ?_⟩
          have mq := Paired.len pM
          by_cases hlt : k < ms.length
          · have ge : goes x ms k = !ahd x ms[k] := by unfold goes; rw [List.getElem?_eq_getElem hlt]
            rw [ge]
            cases hc : ahd x ms[k] with
            | true =>
              obtain ⟨f1, f2, f3⟩ := stop fun _ => hc
              refine iteF ⟨_, rfl, .inl ⟨rfl, _, SqL.of eM⟩, _, rfl, _, rfl, r, _, _, k, _, rfl, rfl, rfl, eM, by rw [List.length_map]; omega, by rw [List.length_map]; omega, insR x ms k, _, _, rfl, ?_⟩
              rw [List.map_append, List.map_cons, List.map_take, List.map_drop] at f1 f2
              exact ⟨f1, f2, f3, stopO fun _ => hc⟩
            | false =>
              refine iteT ⟨_, rfl, _, _, rfl, rfl, ⟨k + 1, rfl, rfl, hlt, fun y hy => ?_⟩, ?_⟩
              · rw [List.take_add_one, List.getElem?_eq_getElem hlt] at hy
                rcases List.mem_append.mp hy with z | z
                · exact hle y z
                · have e : y = ms[k] := List.mem_singleton.mp z
                  rw [e]
                  exact hc
              · show ms.length - ((k : Int) + 1).toNat < ms.length - (k : Int).toNat
                omega
          · have ge : goes x ms k = false := by unfold goes; rw [List.getElem?_eq_none_iff.mpr (by omega)]
            rw [ge]
            obtain ⟨f1, f2, f3⟩ := stop fun z => absurd z hlt
            refine iteF ⟨_, rfl, .inl ⟨rfl, _, SqL.of eM⟩, _, rfl, _, rfl, r, _, _, k, _, rfl, rfl, rfl, eM, by rw [List.length_map]; omega, by rw [List.length_map]; omega, insR x ms k, _, _, rfl, ?_⟩
            rw [List.map_append, List.map_cons, List.map_take, List.map_drop] at f1 f2
            exact ⟨f1, f2, f3, stopO fun z => absurd z hlt⟩
        · intro σ H2 Q1 Q2 hq h
          obtain ⟨r', p', x', qs', gs', k', e1, e2, e3, e4, e5, e6, e7, e8, e9⟩ := h
          exact ⟨r', p', x', qs', gs', k', e1, e2, e3, e4, e5, e6, e7, e8, hq _ _ e9⟩
    · rintro σ H' ⟨ms, o2, o3, rfl, sm, hM, hp, ho⟩
      rw [List.length_map, List.take_of_length_le (by omega)] at hp
      exact ⟨_, rfl, kk r H' ms sm hr0 hM hp ho⟩
end
end K21
set_option Elab.async false
set_option linter.all false
set_option maxRecDepth 100000
set_option maxHeartbeats 4000000
namespace L2
open PySem PySem.Spec PyProof.Rows
section
variable {X : Cx} {CX : CXT} {k : Nat} {f C : Addr} {fd : FuncData} {ps : List Str} {sp : Sp} {dvs : List V} {ds : List Value} {E : St → XK} {x m : Str} {p pos apos : Pos} {e o : Expr} {es : List Expr} {ta : TE} {t : TA}
noncomputable def tMakeS (C : Addr) (sp : Sp) (dvs : List V) (E : St → XK) (t : TA) : TE := fun σ H Q => t σ H fun vs H1 => ∀ x dx, H1 x = none → H1 dx = none → dx ≠ x →
  sp (.ref x :: (vs ++ dvs)) (upd (upd H1 dx (.own x)) x (.ins C dx [])) (fun v H2 => v = .non ∧ Q (.ref x) H2) (E σ)
theorem run_makeS {pins : List (Addr × Obj)} {σ : St} {H : Hp} {s : Shared} {Q : VK} {us : List Value} {vs : List V} (M : Mk X.K C f) (F : FnOk X.prog X.w X.K X.mg X.base CX k f fd ps sp) (hr : Room (k + 1) X.A) (hb : Binds X.K fd ps ds) (hd : Vals dvs ds)
    (hx : PassS CX X E) (I : Inv X pins σ H s) (r : Vals vs us)
    (h : ∀ x dx, H x = none → H dx = none → dx ≠ x → sp (.ref x :: (vs ++ dvs)) (upd (upd H dx (.own x)) x (.ins C dx [])) (fun v H2 => v = .non ∧ Q (.ref x) H2) (E σ)) :
    wpAny (model X.prog X.w) X.A (call (.ref C) us) (EP X pins σ Q) X.xe s := by
  have hq := h (s.heap.objs.size + 1) s.heap.objs.size (I.hok.fresh (Nat.le_succ _)) (I.hok.fresh (Nat.le_refl _)) (Nat.ne_of_lt (Nat.lt_succ_self _))
  have I2 := Inv.made (C := C) I
  have r2 : Vals (V.ref (s.heap.objs.size + 1) :: (vs ++ dvs)) (Value.ref (s.heap.objs.size + 1) :: (us ++ ds)) := .cons rfl (r.append hd)
  have hl : (Value.ref (s.heap.objs.size + 1) :: us ++ ds).length = ps.length := by
    have e := r2.length
    rw [F.len _ _ _ _ hq] at e
    exact e.symm
  refine wpAny_call (make_map (f := f) I.kIn M.makes M.init (beq_iff_eq.mp M.fn) (codeAny_mono (F.run _ X.stack _ _ ⟨Value.ref (s.heap.objs.size + 1) :: us, []⟩ (Value.ref (s.heap.objs.size + 1) :: (us ++ ds)) _ _ (E σ) (hr.make C us [])
    (I2.env0.make C us []) (hb _ (Value.ref (s.heap.objs.size + 1) :: us) I2.kIn hl) r2 hq) fun r s' hq' => ?_))
  cases r with
  | error e => exact hx pins σ _ _ e s' I2 hq'
  | ok fl =>
    cases fl with
    | ret u =>
      obtain ⟨v, H', I3, rv, ev, q3⟩ := I2.after hq'
      subst ev
      exact ⟨rv, ⟨V.ref (s.heap.objs.size + 1), H', I3, rfl, q3⟩⟩
    | next => exact False.elim hq'
    | brk => exact False.elim hq'
    | cont => exact False.elim hq'
theorem pe_makeS (M : Mk X.K C f) (F : FnOk X.prog X.w X.K X.mg X.base CX k f fd ps sp) (hr : Room (k + 1) X.A) (hg : Gl X x) (hm : X.mg x = some (.ref C)) (hb : Binds X.K fd ps ds) (hd : Vals dvs ds) (hx : PassS CX X E)
    (ha : PA X (e :: es) t) (hdb : (x == ("__debug__" : Str)) = false := by decide) (he : starEach (e :: es) X.env = (false, eval e X.env) :: starEach es X.env := by rfl) (hpl : (backTo pos (starEach es X.env)).any (·.1) = false := by rfl) :
    PE X (.Call (.Name x p) (e :: es) [] pos) (tMakeS C sp dvs E t) := by
  intro pins s σ H Q I h
  refine wpAny_Call_Name_kw (ld_glob I hg hm ?_ hdb)
  refine PySem.W.callWith_K (h₀ := X.base) I.ok.mod.kin M.kp (thn (ha pos pins s σ H _ I h) fun us s1 ⟨vs, H1, I1, r, q⟩ => ⟨I1.kIn, ?_⟩) he hpl
  exact run_makeS M F hr hb hd hx I1 r q
end
end L2
namespace K21
open PySem L2 PyProof.Rows PySem.Spec Gn OR
open K03 (Fr less mkF gcd_pos')
open K01 (isS)
section
variable {P : Program} {w : World} {K : PySem.W.Frag} {mg : Str → Option Value} {base : Heap} {C CH CN CT : Addr}
structure FnD (K : PySem.W.Frag) (x qual : Str) (st : Stmt) (f : Addr) (fd : FuncData) (items : Array Value) : Prop where
  ex : ∃ (oc : Value) (od : Option Addr) (kV doc pm : Value) (an : Option Addr) (cdv ct : Value) (osl : Array (Option Value)) (T : Addr) (o : Obj) (n : Nat),
    fd = PySem.W.fnOf x qual (defArgs st) (defBody st) (defScope st) (.ref T) kV doc pm an cdv ct ∧ K.lookup f = some ⟨oc, od, .func fd, osl⟩ ∧ PySem.W.codeIn K cdv qual = true ∧ K.lookup T = some o ∧ o.data = .seq items n
theorem FnD.ok1 {x qual : Str} {st : Stmt} {f : Addr} {fd : FuncData} {items : Array Value} {N ps : List Str} {k : Nat} {sp : Sp} (F : FnD K x qual st f fd items) (S : FnScope N ps (defScope st)) (len : ∀ vs H Q E, sp vs H Q E → vs.length = ps.length)
    (hbody : ∀ (cdv : Value) (A : Around) (outer : List Env) (s : Shared) (H : Hp) (vs : List V) (Q : VK) (E : XK), Room k (A.deeper (envOfC qual (defScope st) s.heap.objs.size f cdv)) → sp vs H Q E →
      ∃ t, PSs (cxOf (CX1 P w) P w K mg base N qual (defScope st) f cdv A outer s H E) (defBody st) t ∧ t { nx := fun _ H' => Q .non H', rt := Q } (L2.start N vs) H) : FnOk P w K mg base (CX1 P w) (k + 1) f fd ps sp := by
  obtain ⟨oc, od, kV, doc, pm, an, cdv, ct, osl, T, o, n, rfl, lk, hcd, _⟩ := F.ex
  exact fn_of lk hcd S len fun A outer s H vs Q E hr hsp => hbody cdv A outer s H vs Q E hr hsp
theorem FnD.binds {x qual : Str} {st : Stmt} {f : Addr} {fd : FuncData} {items : Array Value} {ps : List Str} {ds : List Value} (F : FnD K x qual st f fd items)
    (h : ∀ (T : Addr) (kV doc pm : Value) (an : Option Addr) (cdv ct : Value) (us : List Value), (us ++ ds).length = ps.length → ∃ k : Option (Array Value) → Sem (List (Str × Value)),
      bindArgs (PySem.W.fnOf x qual (defArgs st) (defBody st) (defScope st) (.ref T) kV doc pm an cdv ct) ⟨us, []⟩ = seqItems? (.ref T) >>= k ∧ k (some items) = pure (ps.zip (us ++ ds))) : Binds K fd ps ds := by
  obtain ⟨oc, od, kV, doc, pm, an, cdv, ct, osl, T, o, n, rfl, lk, hcd, lT, hd⟩ := F.ex
  intro s us X hl
  obtain ⟨k, h1, h2⟩ := h T kV doc pm an cdv ct us hl
  exact BindsTo.of_defaults (T := T) rfl (X _ _ lT) hd h1 h2
noncomputable def spWhole (K : PySem.W.Frag) : Sp := fun vs H Q _ => ∃ x, vs = [x] ∧ Known K H x ∧ Q (.bl (isIntV x && !isBlV x)) H
theorem scWhole : FnScope ["thing"] ["thing"] (defScope sWhole) := ⟨rfl, rfl, rfl, by decide +kernel, rfl, by decide +kernel, by decide +kernel⟩
seal PSs PS PE PT PA PG PI PGs PIfs in
theorem ok_whole {f : Addr} {fd : FuncData} (D : Df K mg "is_whole" sWhole f fd) (T : Txt mg) : FnOk P w K mg base CX0 1 f fd ["thing"] (spWhole K) := by
  refine D.F.ok scWhole (fun vs H Q E h => ?_) (fun cdv A outer s H vs Q E hr h => ?_)
  · obtain ⟨x, rfl, _⟩ := h
    rfl
  · obtain ⟨x, rfl, ⟨n, hty⟩, k⟩ := h
    refine ⟨_, pss_one (ps_ret (pe_and (pe_callB call_isi rfl T.isi b_isi (pa_cons (pv 0) (pa_cons (pe_bltn (v := .ty "int") rfl T.int b_int rfl) pa_nil)))
      (pe_one (pe_not (pe_callB call_isi rfl T.isi b_isi (pa_cons (pv 0) (pa_cons (pe_bltn (v := .ty "bool") rfl T.bool b_bool rfl) pa_nil))))))), ?_⟩
    refine ⟨_, rfl, x, .ty "int", _, _, rfl, hty, .inl ⟨_, rfl, kit_int hty⟩, _, rfl, ?_⟩
    cases hi : isIntV x with
    | false =>
      rw [hi] at k
      exact iteF k
    | true =>
      rw [hi] at k
      refine iteT ?_
      exact ⟨_, rfl, x, .ty "bool", _, _, rfl, hty, .inl ⟨_, rfl, kit_bool hty⟩, _, rfl, k⟩
theorem scNNum : FnScope ["thing", "least", "most"] ["thing", "least", "most"] (defScope sNNum) := ⟨rfl, rfl, rfl, by decide +kernel, rfl, by decide +kernel, by decide +kernel⟩
seal PSs PS PE PT PA PG PI PGs PIfs in
theorem ok_nnum {f fw C : Addr} {fd fdw : FuncData} (D : DfD K mg "need_number" sNNum f fd #[.none]) (DW : Df K mg "is_whole" sWhole fw fdw) (X : Ex K mg "BadNumber" C) (T : Txt mg) : FnOk P w K mg base (CX1 P w) 2 f fd ["thing", "least", "most"] (spNNum K C) := by
  have GW : FnOk P w K mg base CX0 1 fw fdw ["thing"] (spWhole K) := ok_whole DW T
  have bW := binds1 (p := "thing") DW.F fun _ _ _ _ _ _ _ => rfl
  refine D.ok1 scNNum (fun vs H Q E h => ?_) (fun cdv A outer s H vs Q E hr h => ?_)
  · obtain ⟨x, l, m, rfl, _⟩ := h
    rfl
  · obtain ⟨x, l, m, rfl, hk, k1, k2⟩ := h
    refine ⟨_, pss_cons (ps_if (pt_not (pt_val (pe_call GW hr rfl DW.m DW.F.kp bW .nil pass0 (pa_cons (pv 0) pa_nil)))) (pss_one (ps_raise rfl X.q PySem.F.excBase_ValueError (by decide +kernel) PySem.F.excBase_ValueError rfl X.m (pa_cons pe_str pa_nil) raise_out)) pss_nil)
      (pss_cons (ps_if (pt_cmpR op_lt (pv 0) (pv 1) (nomark _)) (pss_one (ps_raise rfl X.q PySem.F.excBase_ValueError (by decide +kernel) PySem.F.excBase_ValueError rfl X.m (pa_cons pe_str pa_nil) raise_out)) pss_nil)
      (pss_cons (ps_if (PW.pt (pw_and (pt_cmp (pc_notN (pv 2))) (pw_and1 (pt_cmpR op_gt (pv 0) (pv 2) (nomark _))))) (pss_one (ps_raise rfl X.q PySem.F.excBase_ValueError (by decide +kernel) PySem.F.excBase_ValueError rfl X.m (pa_cons pe_str pa_nil) raise_out)) pss_nil)
      (pss_one (ps_ret (pv 0))))), ?_⟩
    refine ⟨_, rfl, x, rfl, hk, _, rfl, ?_⟩
    cases hx : isIntV x && !isBlV x with
    | false =>
      refine iteT ⟨by show 1 ≤ sizeLine; decide, k2 ?_⟩
      cases x <;> first | rfl | cases hx
    | true =>
      obtain ⟨i, rfl⟩ : ∃ i, x = .int i := by cases x <;> first | exact ⟨_, rfl⟩ | cases hx
      refine iteF ?_
      refine ⟨_, rfl, _, rfl, _, _, rfl, rfl, _, rfl, ?_⟩
      by_cases hl : i < l
      · rw [decide_eq_true hl]
        refine iteT ⟨by show 1 ≤ sizeLine; decide, k2 ?_⟩
        show (decide (l ≤ i) && _) = false
        rw [decide_eq_false (by omega), Bool.false_and]
      · rw [decide_eq_false hl]
        refine iteF ⟨_, rfl, _, rfl, ?_⟩
        cases m with
        | none =>
          refine iteF (iteF ⟨_, rfl, k1 ?_⟩)
          show (decide (l ≤ i) && true) = true
          rw [decide_eq_true (by omega)]; rfl
        | some m =>
          refine iteT ⟨_, rfl, _, rfl, _, _, rfl, rfl, _, rfl, ?_⟩
          by_cases hm : m < i
          · rw [decide_eq_true hm]
            refine iteT ⟨by show 1 ≤ sizeLine; decide, k2 ?_⟩
            show (decide (l ≤ i) && decide (i ≤ m)) = false
            rw [decide_eq_false (show ¬ i ≤ m by omega), Bool.and_false]
          · rw [decide_eq_false hm]
            refine iteF ⟨_, rfl, k1 ?_⟩
            show (decide (l ≤ i) && decide (i ≤ m)) = true
            rw [decide_eq_true (by omega), decide_eq_true (by omega)]; rfl
theorem mr_ne : ¬ (("most" : Str) = "rows") := by decide +kernel
noncomputable def flds (m : Int) (p : Addr) : List (Str × V) := putF "rows" (.ref p) (putF "most" (.int m) [])
theorem flds_most (m : Int) (p : Addr) : (flds m p).lookup ("most" : Str) = some (.int m) := by
  unfold flds
  rw [lookup_putF, if_neg mr_ne, lookup_putF, if_pos rfl]
theorem flds_rows (m : Int) (p : Addr) : (flds m p).lookup ("rows" : Str) = some (.ref p) := by
  unfold flds
  rw [lookup_putF, if_pos rfl]
theorem flds_no (m : Int) (p : Addr) {x : Str} (h1 : ¬ x = "rows") (h2 : ¬ x = "most") : (flds m p).lookup x = none := by
  unfold flds
  rw [lookup_putF, if_neg h1, lookup_putF, if_neg h2]
  rfl
structure TxtC (K : PySem.W.Frag) (mg : Str → Option Value) (C : Addr) : Prop where
  cl : Cls K C
  nM : NoAttr K C "most"
  nR : NoAttr K C "rows"
  mgC : mg "Best" = some (.ref C)
structure BsA (C : Addr) (H : Hp) (x p : Addr) (m : Nat) : Prop where
  ob : ∃ dx, H x = some (.ins C dx (flds (m : Int) p))
noncomputable def SameBut (x : Addr) (H H' : Hp) : Prop := ∀ b o, H b = some o → b ≠ x → H' b = some o
noncomputable def spInit (K : PySem.W.Frag) (C CN : Addr) : Sp := fun vs H Q E => ∃ (x dx : Addr) (v : V), vs = [.ref x, v] ∧ H x = some (.ins C dx []) ∧ Known K H v ∧
  (∀ (m : Nat) p H', v = .int m → H p = none → BsA C H' x p m → H' p = some (.lst []) → SameBut x H H' → Q .non H') ∧ (goodN v 0 none = false → E (.ref CN) none H)
theorem good_nat {x : V} (h : goodN x 0 none = true) : ∃ n : Nat, x = .int (n : Int) := by
  cases x <;> first | cases h | skip
  rename_i i
  have h' : (decide ((0 : Int) ≤ i) && true) = true := h
  rw [Bool.and_true] at h'
  exact ⟨i.toNat, by rw [Int.toNat_of_nonneg (of_decide_eq_true h')]⟩
theorem scInit : FnScope ["self", "most"] ["self", "most"] (defScope bInit) := ⟨rfl, rfl, rfl, by decide +kernel, rfl, by decide +kernel, by decide +kernel⟩
seal PSs PS PE PT PA PG PI PGs PIfs in
theorem ok_init {f fn : Addr} {fd fdn : FuncData} {items : Array Value} (F : FnD K "__init__" "Best.__init__" bInit f fd items) (B : TxtC K mg C) (DN : DfD K mg "need_number" sNNum fn fdn #[.none]) (GN : FnOk P w K mg base (CX1 P w) 2 fn fdn ["thing", "least", "most"] (spNNum K CN)) : FnOk P w K mg base (CX1 P w) 3 f fd ["self", "most"] (spInit K C CN) := by
  have bN2 := DN.binds (ps := ["thing", "least", "most"]) (ds := [.none]) fun T kV doc pm an cdv ct us hl => match us, (show us.length = 2 by simpa using hl) with | [_, _], _ => ⟨_, rfl, rfl⟩
  refine F.ok1 scInit (fun vs H Q E h => ?_) (fun cdv A outer s H vs Q E hr h => ?_)
  · obtain ⟨x, dx, v, rfl, _⟩ := h
    rfl
  · obtain ⟨x, dx, v, rfl, hx, hk, k1, k2⟩ := h
    refine ⟨_, pss_cons (ps_fld (pv 0) (pe_call GN hr rfl DN.m DN.kp bN2 (dvs := [.non]) (.cons rfl .nil) (pass_out (E' := E) fun _ _ _ h => h) (pa_cons (pv 1) (pa_cons pe_int pa_nil))) rfl) (pss_one (ps_fld (pv 0) (pe_lst pa_nil) rfl)), ?_⟩
    refine ⟨_, rfl, v, 0, none, rfl, hk, fun hg => ?_, k2⟩
    obtain ⟨m, rfl⟩ := good_nat hg
    refine ⟨_, rfl, x, C, dx, [], rfl, hx, B.cl, B.nM, (by show 0 < 1000; decide), Nat.zero_le _, fun p hp => ⟨_, rfl, x, C, dx, putF "most" (.int (m : Int)) [], rfl, ?_, B.cl, B.nR, (by show 1 < 1000; decide), ?_⟩⟩
    · have hpx : x ≠ p := fun z => by rw [← z, upd_same] at hp; cases hp
      rw [upd_ne hpx, upd_same]
    · have hpx : p ≠ x := fun z => by rw [z, upd_same] at hp; cases hp
      have hp0 : H p = none := by rw [upd_ne hpx] at hp; exact hp
      refine k1 m p _ rfl hp0 ⟨dx, upd_same⟩ (by rw [upd_ne hpx, upd_same]) fun b u e hb => ?_
      rw [upd_ne hb, upd_ne (ne_of_none e hp0), upd_ne hb]
      exact e
theorem RwL.ne {H : Hp} {a x : Addr} {rs : List Rw} {o : HO} (h : RwL H a rs) (hx : H x = some o) (nt : ∀ ts, o ≠ .lst ts) : a ≠ x := fun z => by
  obtain ⟨ps, h1, _⟩ := h.ex
  rw [z, hx] at h1
  exact nt _ (Option.some.inj h1)
noncomputable def spOffer (C : Addr) : Sp := fun vs H Q _ => ∃ (x p q : Addr) (m : Nat) (rs : List Rw) (r : Rw), vs = [.ref x, .str r.1, .ref q] ∧ BsA C H x p m ∧ RwL H p rs ∧ Ord rs ∧ rs.length ≤ m ∧ rs.length ≤ 100 ∧ FrA H q r.2 ∧ Vr r ∧
  ∀ (H' : Hp) (ins : List Rw), OR.Ord ins → ins.Perm (r :: rs) → RwL H' p (ins.take m) → SameBut p H H' → Q .non H'
theorem scOffer : FnScope ["self", "key", "worth"] ["self", "key", "worth"] (defScope bOffer) := ⟨rfl, rfl, rfl, by decide +kernel, rfl, by decide +kernel, by decide +kernel⟩
seal PSs PS PE PT PA PG PI PGs PIfs in
theorem ok_offer {f fp fa fl : Addr} {fd fdp fda fdl : FuncData} (F : Fun K "offer" "Best.offer" bOffer f fd) (B : TxtC K mg C) (DP : Df K mg "put_in" sPut fp fdp) (DA : Df K mg "stands_ahead" sAhd fa fda) (DL : Df K mg "is_less" sLess fl fdl) (T : Txt mg) : FnOk P w K mg base CX0 4 f fd ["self", "key", "worth"] (spOffer C) := by
  have GP : FnOk P w K mg base CX0 3 fp fdp ["ordered", "row"] spPut := ok_put DP DA DL T
  have bP := DP.F.binds (ps := ["ordered", "row"]) fun _ _ _ _ _ _ us hl => us2 (fun _ _ => rfl) us hl
  refine F.ok scOffer (fun vs H Q E h => ?_) (fun cdv A outer s H vs Q E hr h => ?_)
  · obtain ⟨x, p, q, m, rs, r, rfl, _⟩ := h
    rfl
  · obtain ⟨x, p, q, m, rs, r, rfl, hB, hR, ho, hm, hl, hq, hv, k⟩ := h
    have hz : (sizeLine : Nat) = 16777216 := sizeLine_eq
    obtain ⟨dx, hx⟩ := hB.ob
    obtain ⟨ps, eP, pP⟩ := hR.ex
    have plen := Paired.len pP
    have npx : p ≠ x := hR.ne hx fun ts z => by cases z
    refine ⟨_, (pss_cons (ps_expr (pe_call GP hr rfl DP.m DP.F.kp bP .nil pass0 (pa_cons (pe_fld (pv 0) rfl) (pa_cons (pe_tup (pa_cons (pv 1) (pa_cons (pv 2) pa_nil))) pa_nil))))
      (pss_one (ps_if (pt_cmpR op_gt (pe_callB call_len_seq rfl T.len b_len (pa_cons (pe_fld (pv 0) rfl) pa_nil)) (pe_fld (pv 0) rfl) (nomark _)) (pss_one (ps_expr (pe_bm0 PySem.F.plainAttrs_list PySem.F.slot_list_pop PySem.F.type_list_pop mt_pop (pe_fld (pv 0) rfl)))) pss_nil))), ?_⟩
    refine ⟨_, rfl, x, C, dx, _, _, rfl, hx, B.cl, B.nR, flds_rows _ _, _, rfl, _, rfl, (by show 2 ≤ sizeLine; omega), fun t ht => ?_⟩
    have s1 := same_upd (o := .tup [.str r.1, .ref q]) ht
    have nt : H t = none := ht
    have hT : RwA (upd H t (.tup [.str r.1, .ref q])) t r := ⟨q, upd_same, s1 _ _ hq⟩
    have eP1 := s1 _ _ eP
    have hx1 := s1 _ _ hx
    have pP1 := Paired.imp2 pP fun _ _ h => RwA.same h s1
    generalize upd H t (.tup [.str r.1, .ref q]) = H1 at s1 hT eP1 hx1 pP1
    refine ⟨p, t, ps, rs, r, rfl, eP1, pP1, hT, ho, hv, by omega, fun j hj => ?_⟩
    have hI : RwL (upd H1 p (.lst ((ps.take j ++ t :: ps.drop j).map V.ref))) p (insR r rs j) := RwL.put eP1 (Paired.cat (Paired.tk j pP1) (.cons hT (Paired.dp j pP1)))
    have hx2 : (upd H1 p (.lst ((ps.take j ++ t :: ps.drop j).map V.ref))) x = some (.ins C dx (flds (m : Int) p)) := by rw [upd_ne (Ne.symm npx)]; exact hx1
    have sb : SameBut p H (upd H1 p (.lst ((ps.take j ++ t :: ps.drop j).map V.ref))) := fun b u e hb => by rw [upd_ne hb]; exact s1 _ _ e
    generalize upd H1 p (.lst ((ps.take j ++ t :: ps.drop j).map V.ref)) = H2 at hI hx2 sb
    have ip := insR_perm r rs j
    have il : (insR r rs j).length = rs.length + 1 := ip.length_eq
    obtain ⟨us, eU, pU⟩ := hI.ex
    have ulen := Paired.len pU
    refine ⟨_, rfl, x, C, dx, _, _, rfl, hx2, B.cl, B.nR, flds_rows _ _, p, _, rfl, .inl (SqL.of eU), _, rfl, x, C, dx, _, _, rfl, hx2, B.cl, B.nM, flds_most _ _, _, _, rfl, rfl, _, rfl, ?_⟩
    rw [List.length_map]
    by_cases hgt : (m : Int) < ((us.length : Nat) : Int)
    · rw [decide_eq_true hgt]
      have h0 : 0 < us.length := by omega
      refine iteT ⟨_, rfl, x, C, dx, _, _, rfl, hx2, B.cl, B.nR, flds_rows _ _, .inl ⟨rfl, _, SqL.of eU⟩, p, _, .ref (us[us.length - 1]'(by omega)), rfl, rfl, eU, ?_, ?_⟩
      · rw [List.length_map, List.getElem?_map, List.getElem?_eq_getElem (by omega)]; rfl
      · have hd := RwL.put (qs := us.dropLast) (rs := (insR r rs j).dropLast) eU (by rw [List.dropLast_eq_take, List.dropLast_eq_take, ulen]; exact Paired.tk _ pU)
        have e1 : (insR r rs j).dropLast = (insR r rs j).take m := by rw [List.dropLast_eq_take]; congr 1; omega
        rw [e1, List.map_dropLast] at hd
        exact k _ _ hj ip hd fun b u e hb => by rw [upd_ne hb]; exact sb b u e hb
    · rw [decide_eq_false hgt]
      refine iteF (k _ _ hj ip ?_ sb)
      rw [List.take_of_length_le (by omega)]
      exact hI
noncomputable def spTold (C : Addr) : Sp := fun vs H Q _ => ∃ (x p : Addr) (m : Nat) (rs : List Rw), vs = [.ref x] ∧ BsA C H x p m ∧ RwL H p rs ∧ ∀ u, H u = none → ∀ H', Same H H' → RwL H' u rs → Q (.ref u) H'
theorem scTold : FnScope ["self"] ["self"] (defScope bTold) := ⟨rfl, rfl, rfl, by decide +kernel, rfl, by decide +kernel, by decide +kernel⟩
seal PSs PS PE PT PA PG PI PGs PIfs in
theorem ok_told {f : Addr} {fd : FuncData} (F : Fun K "told" "Best.told" bTold f fd) (B : TxtC K mg C) (T : Txt mg) : FnOk P w K mg base CX0 1 f fd ["self"] (spTold C) := by
  refine F.ok scTold (fun vs H Q E h => ?_) (fun cdv A outer s H vs Q E hr h => ?_)
  · obtain ⟨x, p, m, rs, rfl, _⟩ := h
    rfl
  · obtain ⟨x, p, m, rs, rfl, hB, hR, k⟩ := h
    obtain ⟨dx, hx⟩ := hB.ob
    obtain ⟨ps, eP, pP⟩ := hR.ex
    refine ⟨_, pss_one (ps_ret (pe_callTy call_list_of rfl T.list b_list (pa_cons (pe_fld (pv 0) rfl) pa_nil))), ?_⟩
    exact ⟨_, rfl, x, C, dx, _, _, rfl, hx, B.cl, B.nR, flds_rows _ _, p, _, rfl, .inl (SqL.of eP), fun u hu => k u hu _ (same_upd hu) ⟨ps, upd_same, Paired.imp2 pP fun _ _ h => h.same (same_upd hu)⟩⟩
theorem ndRow : (["_law_row"] : List Str).Nodup := by decide +kernel
theorem all_rep : ∀ n : Nat, (List.replicate n true).all id = true
  | 0 => rfl
  | n + 1 => by rw [List.replicate_succ, List.all_cons, all_rep n]; rfl
structure HdA (H : Hp) (t : Addr) (u v : Addr) (rs : List Rw) : Prop where
  t : H t = some (.tup [.ref u, .ref v])
  u : RwL H u rs
  v : RwL H v rs
  o : ∀ x ∈ rs, Vr x
noncomputable def spTR (C : Addr) : Sp := fun vs H Q _ => ∃ (x p d ph : Addr) (m : Nat) (due : List Rw) (hs : List V), vs = [.ref x, .ref d, .int m, .ref ph] ∧ BsA C H x p m ∧ RwL H p (due.take m) ∧ RwL H d due ∧ Ord due ∧ due.length ≤ 100 ∧ H ph = some (.lst hs) ∧ hs.length ≤ 1000 ∧ p ≠ ph ∧ d ≠ ph ∧
  ∀ H' t u v rs, H u = none → H v = none → HdA H' t u v rs → H' ph = some (.lst (hs ++ [.ref t])) → SameBut ph H H' → Q (.bl true) H'
theorem zz_vr : Vr (("zz" : Str), ((0, 1) : Fr)) := ⟨⟨by decide, by decide, by decide, by decide⟩, by decide +kernel⟩
theorem scTR : FnScope ["_law_best", "_law_due", "_law_most", "_law_held", "_law_found"] ["_law_best", "_law_due", "_law_most", "_law_held"] (defScope lTold) := ⟨rfl, rfl, rfl, by decide +kernel, rfl, by decide +kernel, by decide +kernel⟩
seal PSs PS PE PT PA PG PI PGs PIfs in
theorem ok_tr {f ft : Addr} {fd fdt : FuncData} (D : Df K mg "_law_told_right" lTold f fd) (B : TxtC K mg C) (FT : Fun K "told" "Best.told" bTold ft fdt) (mT : Meth K C "told" ft) (T : Txt mg) : FnOk P w K mg base CX0 2 f fd ["_law_best", "_law_due", "_law_most", "_law_held"] (spTR C) := by
  have GT : FnOk P w K mg base CX0 1 ft fdt ["self"] (spTold C) := ok_told FT B T
  have bT := FT.binds (ps := ["self"]) fun _ _ _ _ _ _ us hl => match us, hl with | [_], _ => rfl
  refine D.F.ok scTR (fun vs H Q E h => ?_) (fun cdv A outer s H vs Q E hr h => ?_)
  · obtain ⟨x, p, d, ph, m, due, hs, rfl, _⟩ := h
    rfl
  · obtain ⟨x, p, d, ph, m, due, hs, rfl, hB, hP, hD, ho, hl, eH, hhl, nph, ndh, k⟩ := h
    have hz : (sizeLine : Nat) = 16777216 := sizeLine_eq
    obtain ⟨dx, hx⟩ := hB.ob
    have nhx : x ≠ ph := fun z => by rw [z, eH] at hx; cases hx
    have tl : (due.take m).length ≤ 100 := by rw [List.length_take]; omega
    have hoT := ho.take m
    refine ⟨_, (pss_cons (ps_set (i := 4) scTR.nd rfl (Or.inl rfl) (pe_meth0 (pv 0) B.cl mT (GT.mono (by decide)) hr bT .nil pass0))
      (pss_cons (ps_if (PW.pt (pw_or (pt_not (pt_val (pe_callB (call_isiK (K := K) rfl) rfl T.isi b_isi (pa_cons (pv 4) (pa_cons (pe_bltn (v := .ty "list") rfl T.list b_list rfl) pa_nil))))) (pw_or (pt_cmpR (op_neD hr.units100) (pv 4) (pe_slice sl_list (pv 1) po_none (po_some (pv 2))) (nomark _)) (pw_or1 (pt_not (pt_val (pe_callB (call_all_bools rfl) rfl T.all b_all (pa_cons (pe_comp (own := 1) (caps := []) (N := ["_law_row"]) (N0 := ["_law_best", "_law_due", "_law_most", "_law_held", "_law_found"]) (sc0 := defScope lTold) rfl (pi_list (pv 4)) (fun _ _ _ => pg_name (i := 0) ndRow rfl (Or.inl rfl)) (fun _ _ _ => pf_none) (fun _ _ _ => pe_callB (call_isiK (K := K) rfl) rfl T.isi b_isi (pa_cons (pv 0) (pa_cons (pe_bltn (v := .ty "tuple") rfl T.tuple b_tuple rfl) pa_nil))) (gk_name (by decide)) rfl rfl
        (by decide +kernel) rfl (by decide +kernel) (by decide +kernel) rfl (by decide +kernel)) pa_nil)))))))) (pss_one (ps_ret pe_bl)) pss_nil)
      (pss_cons (ps_expr (pe_bm PySem.F.plainAttrs_list PySem.F.slot_list_append PySem.F.type_list_append mt_append (pv 4) (pa_cons (pe_tup (pa_cons pe_str (pa_cons (pe_tup (pa_cons pe_int (pa_cons pe_int pa_nil))) pa_nil))) pa_nil)))
      (pss_cons (ps_expr (pe_bm PySem.F.plainAttrs_list PySem.F.slot_list_append PySem.F.type_list_append mt_append (pv 3) (pa_cons (pe_tup (pa_cons (pv 4) (pa_cons (pe_callTy call_list_of rfl T.list b_list (pa_cons (pv 4) pa_nil)) pa_nil))) pa_nil)))
      (pss_one (ps_ret (pe_cmpR (op_eqD hr.units100) (pe_meth0 (pv 0) B.cl mT (GT.mono (by decide)) hr bT .nil pass0) (pe_slice sl_list (pv 1) po_none (po_some (pv 2))) (nomark _)))))))), ?_⟩
    have noT : (flds (m : Int) p).lookup ("told" : Str) = none := flds_no _ _ (by decide +kernel) (by decide +kernel)
    refine ⟨_, rfl, x, dx, _, rfl, hx, noT, x, p, m, _, rfl, hB, hP, fun u hu H1 s1 hU => ?_⟩
    obtain ⟨us, eU, pU⟩ := hU.ex
    have ulen := Paired.len pU
    refine ⟨_, rfl, .ref u, .ty "list", _, true, rfl, .lst eU, .inl ⟨_, rfl, kit_ll⟩, _, rfl, iteF ?_⟩
    have hD1 := hD.same s1
    obtain ⟨ds, eD, pD⟩ := hD1.ex
    refine ⟨_, rfl, _, rfl, _, rfl, _, rfl, d, _, rfl, SqL.of eD, fun c hc => ?_⟩
    have s2 := same_upd (o := .lst (cutV (ds.map V.ref) none (some (m : Int)))) hc
    have hC : RwL (upd H1 c (.lst (cutV (ds.map V.ref) none (some (m : Int))))) c (due.take m) := ⟨ds.take m, by rw [upd_same, cut_take, List.map_take], Paired.imp2 (Paired.tk m pD) fun _ _ h => h.same s2⟩
    refine ⟨.list ((due.take m).map dRw), .list ((due.take m).map dRw), (hU.same s2).dt, hC.dt, lay_rw hoT.s, lay_rw hoT.s, dep_rw _ _, _, rfl, ?_⟩
    rw [eqv_same (lay_rw hoT.s)]
    refine iteF ?_
    have t2 := s1.trans s2
    have eU2 := s2 _ _ eU
    have pU2 := Paired.imp2 pU fun _ _ h => RwA.same h s2
    generalize upd H1 c (.lst (cutV (ds.map V.ref) none (some (m : Int)))) = H2 at s2 hC t2 eU2 pU2
    refine ⟨_, rfl, u, rfl, ⟨_, SqL.of eU2⟩, ?_⟩
    refine comp_itl (xs := us.map V.ref) (fun i ys H' => H' = H2 ∧ ys = (List.replicate i true).map V.bl) (by rw [List.length_map]; omega) (fun i ys H' q => by rw [q.1]; exact SqL.of eU2) ⟨rfl, rfl⟩ ?_ ?_
    · rintro i v ys H' N hv ⟨rfl, rfl⟩ hN
      rw [List.getElem?_map] at hv
      cases hpi : us[i]? with
      | none => rw [hpi] at hv; cases hv
      | some b =>
        rw [hpi] at hv
        have hv' : v = .ref b := (Option.some.inj hv).symm
        subst hv'
        obtain ⟨y, _, hy⟩ := paired_get pU2 hpi
        obtain ⟨q, ey, _⟩ := hy.ex
        refine g1 ?_
        exact ⟨_, rfl, .ref b, .ty "tuple", _, true, rfl, .tup ey, .inl ⟨_, rfl, kit_tt⟩, hN _ _ ⟨rfl, by rw [List.replicate_succ', List.map_append]; rfl⟩⟩
    rintro ys H' ⟨rfl, rfl⟩ _ q hq
    refine ⟨q, List.replicate (us.map V.ref).length true, rfl, SqL.of upd_same, ?_⟩
    rw [all_rep]
    refine ⟨_, rfl, iteF ?_⟩
    have t3 := t2.trans (same_upd (o := .lst ((List.replicate (us.map V.ref).length true).map V.bl)) hq)
    have eU3 := same_upd (o := .lst ((List.replicate (us.map V.ref).length true).map V.bl)) hq _ _ eU2
    have pU3 := Paired.imp2 pU2 fun _ _ h => RwA.same h (same_upd (o := .lst ((List.replicate (us.map V.ref).length true).map V.bl)) hq)
    generalize upd H' q (.lst ((List.replicate (us.map V.ref).length true).map V.bl)) = H3 at t3 eU3 pU3
    refine ⟨_, rfl, .inl ⟨rfl, _, SqL.of eU3⟩, (by show 2 ≤ sizeLine; omega), fun z1 hz1 => ⟨(by show 2 ≤ sizeLine; omega), fun z2 hz2 => ?_⟩⟩
    have s4 := Same.upd (o := .tup [.str "zz", .ref z1]) (same_upd (o := .tup [.int 0, .int 1]) hz1) hz2
    have eU4 := s4 _ _ eU3
    have hZ : RwA (upd (upd H3 z1 (.tup [.int 0, .int 1])) z2 (.tup [.str "zz", .ref z1])) z2 (("zz" : Str), ((0, 1) : Fr)) := ⟨z1, upd_same, same_upd hz2 _ _ upd_same⟩
    have pU4 := Paired.imp2 pU3 fun _ _ h => RwA.same h s4
    generalize upd (upd H3 z1 (.tup [.int 0, .int 1])) z2 (.tup [.str "zz", .ref z1]) = H4 at s4 eU4 hZ pU4
    have t4 := t3.trans s4
    refine ⟨u, _, _, rfl, rfl, eU4, by rw [List.length_map]; omega, ?_⟩
    have hU5 : RwL (upd H4 u (.lst (us.map V.ref ++ [.ref z2]))) u (due.take m ++ [(("zz" : Str), ((0, 1) : Fr))]) := by
      have q := RwL.put eU4 (Paired.app pU4 hZ)
      rw [List.map_append] at q
      exact q
    have t5 : Same H (upd H4 u (.lst (us.map V.ref ++ [.ref z2]))) := same_put t4 hu
    generalize upd H4 u (.lst (us.map V.ref ++ [.ref z2])) = H5 at hU5 t5
    obtain ⟨vs5, eV5, pV5⟩ := hU5.ex
    have eH5 := t5 _ _ eH
    refine ⟨_, rfl, .inl ⟨rfl, _, SqL.of eH5⟩, _, rfl, _, rfl, u, _, rfl, .inl (SqL.of eV5), fun v hv => ⟨(by show 2 ≤ sizeLine; omega), fun t ht => ?_⟩⟩
    have s6 := Same.upd (o := .tup [.ref u, .ref v]) (same_upd (o := .lst (vs5.map V.ref)) hv) ht
    have hv0 : H v = none := t5.free hv
    have hV6 : RwL (upd (upd H5 v (.lst (vs5.map V.ref))) t (.tup [.ref u, .ref v])) v (due.take m ++ [(("zz" : Str), ((0, 1) : Fr))]) := ⟨vs5, same_upd ht _ _ upd_same, Paired.imp2 pV5 fun _ _ h => h.same s6⟩
    have hU6 := hU5.same s6
    have eT6 : (upd (upd H5 v (.lst (vs5.map V.ref))) t (.tup [.ref u, .ref v])) t = some (.tup [.ref u, .ref v]) := upd_same
    have eH6 := s6 _ _ eH5
    have t6 := t5.trans s6
    generalize upd (upd H5 v (.lst (vs5.map V.ref))) t (.tup [.ref u, .ref v]) = H6 at s6 hV6 hU6 eT6 eH6 t6
    refine ⟨ph, _, _, rfl, rfl, eH6, by omega, ?_⟩
    have nu : u ≠ ph := fun z => by rw [z, eH] at hu; cases hu
    have nv : v ≠ ph := fun z => by rw [z, eH] at hv0; cases hv0
    have ntp : t ≠ ph := fun z => by rw [z, eH6] at eT6; cases eT6
    have hh7 : HdA (upd H6 ph (.lst (hs ++ [.ref t]))) t u v (due.take m ++ [(("zz" : Str), ((0, 1) : Fr))]) := ⟨by rw [upd_ne ntp]; exact eT6, hU6.other eH6 nu, hV6.other eH6 nv, fun y hy => by
      rcases List.mem_append.mp hy with q | q
      · exact hoT.s y q
      · rw [List.mem_singleton.mp q]; exact zz_vr⟩
    have sb7 : SameBut ph H (upd H6 ph (.lst (hs ++ [.ref t]))) := fun b o e hb => by rw [upd_ne hb]; exact t6 _ _ e
    have e7 : (upd H6 ph (.lst (hs ++ [.ref t]))) ph = some (.lst (hs ++ [.ref t])) := upd_same
    have hP7 : RwL (upd H6 ph (.lst (hs ++ [.ref t]))) p (due.take m) := (hP.same t6).other eH6 nph
    have hD7 : RwL (upd H6 ph (.lst (hs ++ [.ref t]))) d due := (hD.same t6).other eH6 ndh
    have hx7 : (upd H6 ph (.lst (hs ++ [.ref t]))) x = some (.ins C dx (flds (m : Int) p)) := by rw [upd_ne nhx]; exact t6 _ _ hx
    generalize upd H6 ph (.lst (hs ++ [.ref t])) = H7 at hh7 sb7 e7 hP7 hD7 hx7
    refine ⟨_, rfl, x, dx, _, rfl, hx7, noT, x, p, m, _, rfl, ⟨dx, hx7⟩, hP7, fun u8 hu8 H8 s8 hU8 => ?_⟩
    obtain ⟨ds8, eD8, pD8⟩ := (hD7.same s8).ex
    refine ⟨_, rfl, _, rfl, _, rfl, d, _, rfl, SqL.of eD8, fun c9 hc9 => ?_⟩
    have s9 := same_upd (o := .lst (cutV (ds8.map V.ref) none (some (m : Int)))) hc9
    have hC9 : RwL (upd H8 c9 (.lst (cutV (ds8.map V.ref) none (some (m : Int))))) c9 (due.take m) := ⟨ds8.take m, by rw [upd_same, cut_take, List.map_take], Paired.imp2 (Paired.tk m pD8) fun _ _ h => h.same s9⟩
    refine ⟨.list ((due.take m).map dRw), .list ((due.take m).map dRw), (hU8.same s9).dt, hC9.dt, lay_rw hoT.s, lay_rw hoT.s, dep_rw _ _, ?_⟩
    rw [eqv_same (lay_rw hoT.s)]
    have t9 := s8.trans s9
    exact k _ t u v _ hu hv0 ⟨t9 _ _ hh7.t, hh7.u.same t9, hh7.v.same t9, hh7.o⟩ (t9 _ _ e7) fun b o e hb => t9 _ _ (sb7 b o e hb)
structure Cl (mg : Str → Option Value) (CH CN CT : Addr) : Prop where
  h : mg "HallError" = some (.ref CH)
  n : mg "BadNumber" = some (.ref CN)
  t : mg "BadText" = some (.ref CT)
structure CF (K : PySem.W.Frag) (CH CN CT : Addr) : Prop where
  x : PySem.W.ExcCls K CN
  n : PySem.W.kitOne K (.ref CN) (.ref CN) = some true
  t : PySem.W.kitOne K (.ref CN) (.ref CT) = some false
  v : PySem.W.kitOne K (.ref CN) (.type "ValueError") = some true
  e : PySem.W.exmOne K (.ref CN) (.ref CH) = some true
noncomputable def spRef (K : PySem.W.Frag) : Sp := fun vs H Q _ => ∃ v : V, vs = [v] ∧ Known K H v ∧ goodN v 0 none = false ∧ ∀ H', Same H H' → Q (.bl true) H'
theorem scRef : FnScope ["_law_odd", "e"] ["_law_odd"] (defScope lRef) := ⟨rfl, rfl, rfl, by decide +kernel, rfl, by decide +kernel, by decide +kernel⟩
seal PSs PS PE PT PA PG PI PGs PIfs in
theorem ok_ref {f fb : Addr} {fd fdb : FuncData} {items : Array Value} (D : Df K mg "_law_refused" lRef f fd) (X : Cl mg CH CN CT) (F : CF K CH CN CT) (B : TxtC K mg C) (FB : FnD K "__init__" "Best.__init__" bInit fb fdb items) (M : L2.Mk K C fb) (GB : FnOk P w K mg base (CX1 P w) 3 fb fdb ["self", "most"] (spInit K C CN)) (bB : Binds K fdb ["self", "most"] []) (T : Txt mg) : FnOk P w K mg base CX0 5 f fd ["_law_odd"] (spRef K) := by
  refine D.F.ok scRef (fun vs H Q E h => ?_) (fun cdv A outer s H vs Q E hr h => ?_)
  · obtain ⟨v, rfl, _⟩ := h
    rfl
  · obtain ⟨v, rfl, hk, hb, kk⟩ := h
    refine ⟨_, (pss_cons (ps_try (CH := CH) (i := 1) (fun σ cls _ H' => σ = [some v, none] ∧ Same H H' ∧ cls = .ref CN) rfl rfl scRef.nd rfl rfl rfl X.h
        (fun p xe hx => (pss_one (ps_expr (pe_makeS M GB hr rfl B.mgC bB .nil hx (pa_cons (pv 0) pa_nil)))))
        (fun ea p => (pss_one (ps_ret (pe_and (pe_callB (call_isiEK (K := K) rfl) rfl T.isi b_isi (pa_cons (pv 1) (pa_cons (pe_glob (v := .ref CN) rfl X.n rfl) pa_nil))) (pe_and (pe_callB (call_isiEK (K := K) rfl) rfl T.isi b_isi (pa_cons (pv 1) (pa_cons (pe_bltn (v := .ty "ValueError") rfl T.val b_val rfl) pa_nil))) (pe_one (pe_not (pe_callB (call_isiEK (K := K) rfl) rfl T.isi b_isi (pa_cons (pv 1) (pa_cons (pe_glob (v := .ref CT) rfl X.t rfl) pa_nil)))))))))))
      (pss_one (ps_ret pe_bl))), ?_⟩
    refine ⟨?_, ?_⟩
    · refine ⟨_, rfl, fun x dx nx ndx nex => ?_⟩
      have s1 : Same H (upd (upd H dx (.own x)) x (.ins C dx [])) := fun b u e => by rw [upd_ne (ne_of_none e nx), upd_ne (ne_of_none e ndx)]; exact e
      refine ⟨x, dx, v, rfl, upd_same, hk.same s1, fun m p H' e => ?_, fun _ => ⟨rfl, s1, rfl⟩⟩
      subst e
      have : (decide ((0 : Int) ≤ (m : Int)) && true) = false := hb
      rw [decide_eq_true (by omega)] at this
      cases this
    · rintro σ' cls H' ea ⟨rfl, sm, rfl⟩ hn
      refine ⟨_, rfl, F.e, _, rfl, ea, CN, _, true, rfl, upd_same, F.x, .inr (.inl ⟨_, rfl, F.n⟩), _, rfl, iteT ?_⟩
      refine ⟨_, rfl, ea, CN, _, true, rfl, upd_same, F.x, .inl ⟨_, rfl, F.v⟩, _, rfl, iteT ?_⟩
      exact ⟨_, rfl, ea, CN, _, false, rfl, upd_same, F.x, .inr (.inl ⟨_, rfl, F.t⟩), _, rfl, kk _ (Same.upd sm hn)⟩
end
end K21
set_option Elab.async false
set_option linter.all false
set_option maxRecDepth 100000
set_option maxHeartbeats 4000000
namespace K21
open PySem L2 PyProof.Rows PySem.Spec Gn OR
open K03 (Fr less mkF gcd_pos')
open K01 (isS)
section
variable {P : Program} {w : World} {K : PySem.W.Frag} {mg : Str → Option Value} {base : Heap} {C CH CN CT : Addr}
theorem RwA.but {H H' : Hp} {a q : Addr} {r : Rw} {xs : List V} (s : SameBut a H H') (ha : H a = some (.lst xs)) (h : RwA H q r) : RwA H' q r := by
  obtain ⟨t, e, f⟩ := h.ex
  exact ⟨t, s _ _ e (fun z => by rw [z, ha] at e; cases e), s _ _ f (fun z => by rw [z, FrA, ha] at f; cases f)⟩
theorem RwL.but {H H' : Hp} {a b : Addr} {rs : List Rw} {xs : List V} (s : SameBut a H H') (ha : H a = some (.lst xs)) (h : RwL H b rs) (n : b ≠ a) : RwL H' b rs := by
  obtain ⟨ps, e, pr⟩ := h.ex
  exact ⟨ps, s _ _ e n, Paired.imp2 pr fun _ _ q => q.but s ha⟩
theorem HdA.same {H H' : Hp} {t u v : Addr} {rs : List Rw} (h : HdA H t u v rs) (s : Same H H') : HdA H' t u v rs := ⟨s _ _ h.t, h.u.same s, h.v.same s, h.o⟩
theorem HdA.but {H H' : Hp} {a t u v : Addr} {rs : List Rw} {xs : List V} (s : SameBut a H H') (ha : H a = some (.lst xs)) (h : HdA H t u v rs) (nu : u ≠ a) (nv : v ≠ a) : HdA H' t u v rs :=
  ⟨s _ _ h.t (fun z => by have := h.t; rw [z, ha] at this; cases this), h.u.but s ha nu, h.v.but s ha nv, h.o⟩
noncomputable def put {α : Type} (f : Nat → α) (k : Nat) (v : α) : Nat → α := fun i => if i = k then v else f i
theorem put_same {α : Type} (f : Nat → α) (k : Nat) (v : α) : put f k v k = v := if_pos rfl
theorem put_ne {α : Type} {f : Nat → α} {k i : Nat} {v : α} (h : ¬ i = k) : put f k v i = f i := if_neg h
structure Out (p : Nat → Addr) (pd ph a : Addr) : Prop where
  p : ∀ i, i < 2 → a ≠ p i
  d : a ≠ pd
  h : a ≠ ph
structure Bq (C : Addr) (H0 B : Hp) (pb pm pd ph pr : Addr) (x p : Nat → Addr) (m : Nat → Nat) (rs : List Rw) : Prop where
  pp : p 0 ≠ p 1
  ppd : ∀ i, i < 2 → p i ≠ pd
  pph : ∀ i, i < 2 → p i ≠ ph
  dh : pd ≠ ph
  fp : ∀ i, i < 2 → H0 (p i) = none
  fd : H0 pd = none
  fh : H0 ph = none
  lp : ∀ i, i < 2 → ∃ xs, B (p i) = some (.lst xs)
  ld : ∃ xs, B pd = some (.lst xs)
  lh : ∃ xs, B ph = some (.lst xs)
  b : B pb = some (.lst [.ref (x 0), .ref (x 1)])
  bo : Out p pd ph pb
  em : B pm = some (.lst [.int (m 0 : Int), .int (m 1 : Int)])
  mo : Out p pd ph pm
  x : ∀ j, j < 2 → BsA C B (x j) (p j) (m j)
  r : RwL B pr rs
  ro : Out p pd ph pr
  v : ∀ y ∈ rs, Vr y
structure Iv (H0 B H : Hp) (pd ph : Addr) (p d : Nat → Addr) (tk due : Nat → List Rw) (hs : List V) : Prop where
  s : Same H0 H
  k : ∀ b o, B b = some o → Out p pd ph b → H b = some o
  q : ∀ j, j < 2 → RwL H (p j) (tk j)
  dd : H pd = some (.lst [.ref (d 0), .ref (d 1)])
  e : ∀ j, j < 2 → RwL H (d j) (due j)
  eo : ∀ j, j < 2 → Out p pd ph (d j)
  hh : H ph = some (.lst hs)
  hd : ∀ v ∈ hs, ∃ t u w rs, v = .ref t ∧ HdA H t u w rs ∧ Out p pd ph u ∧ Out p pd ph w
section
variable {H0 B H H' : Hp} {pb pm pd ph pr : Addr} {x p d : Nat → Addr} {m : Nat → Nat} {rs : List Rw} {tk due : Nat → List Rw} {hs : List V}
theorem Iv.same (h : Iv H0 B H pd ph p d tk due hs) (s : Same H H') : Iv H0 B H' pd ph p d tk due hs :=
  ⟨h.s.trans s, fun b o e n => s _ _ (h.k b o e n), fun j hj => (h.q j hj).same s, s _ _ h.dd, fun j hj => (h.e j hj).same s, h.eo, s _ _ h.hh, fun v hv => let ⟨t, u, w, rs, e, a, b, c⟩ := h.hd v hv; ⟨t, u, w, rs, e, a.same s, b, c⟩⟩
theorem Iv.fresh (h : Iv H0 B H pd ph p d tk due hs) {a : Addr} (ha : H a = none) : Out p pd ph a :=
  ⟨fun i hi z => (by obtain ⟨ps, e, _⟩ := (h.q i hi).ex; rw [← z, ha] at e; cases e), fun z => (by have := h.dd; rw [← z, ha] at this; cases this), fun z => (by have := h.hh; rw [← z, ha] at this; cases this)⟩
theorem Bq.tup (b : Bq C H0 B pb pm pd ph pr x p m rs) {a : Addr} {o : HO} (e : B a = some o) (n : ∀ ts, o ≠ .lst ts) : Out p pd ph a :=
  ⟨fun i hi z => (by obtain ⟨xs, f⟩ := b.lp i hi; rw [← z, e] at f; exact n _ (Option.some.inj f)), fun z => (by obtain ⟨xs, f⟩ := b.ld; rw [← z, e] at f; exact n _ (Option.some.inj f)), fun z => (by obtain ⟨xs, f⟩ := b.lh; rw [← z, e] at f; exact n _ (Option.some.inj f))⟩
theorem Iv.rows (h : Iv H0 B H pd ph p d tk due hs) (b : Bq C H0 B pb pm pd ph pr x p m rs) : RwL H pr rs := by
  obtain ⟨ps, e, pr'⟩ := b.r.ex
  refine ⟨ps, h.k _ _ e b.ro, Paired.imp2 pr' fun c y q => ?_⟩
  obtain ⟨t, e1, e2⟩ := q.ex
  exact ⟨t, h.k _ _ e1 (b.tup e1 fun ts z => by cases z), h.k _ _ e2 (b.tup e2 fun ts z => by cases z)⟩
theorem Iv.bx (h : Iv H0 B H pd ph p d tk due hs) (b : Bq C H0 B pb pm pd ph pr x p m rs) {j : Nat} (hj : j < 2) : BsA C H (x j) (p j) (m j) := by
  obtain ⟨dx, e⟩ := (b.x j hj).ob
  exact ⟨dx, h.k _ _ e (b.tup e fun ts z => by cases z)⟩
theorem two {k : Nat} (h : k < 2) : k = 0 ∨ k = 1 := by omega
theorem Bq.pne (b : Bq C H0 B pb pm pd ph pr x p m rs) {i j : Nat} (hi : i < 2) (hj : j < 2) (n : i ≠ j) : p i ≠ p j := by
  rcases two hi with rfl | rfl <;> rcases two hj with rfl | rfl
  · exact absurd rfl n
  · exact b.pp
  · exact Ne.symm b.pp
  · exact absurd rfl n
theorem Iv.offer (h : Iv H0 B H pd ph p d tk due hs) (b : Bq C H0 B pb pm pd ph pr x p m rs) {j : Nat} (hj : j < 2) {l : List Rw} (s : SameBut (p j) H H') (r : RwL H' (p j) l) : Iv H0 B H' pd ph p d (put tk j l) due hs := by
  obtain ⟨ps, ea, _⟩ := (h.q j hj).ex
  refine ⟨fun c o e => s _ _ (h.s _ _ e) (ne_of_none e (b.fp j hj)), fun c o e n => s _ _ (h.k c o e n) (n.p j hj), fun i hi => ?_, s _ _ h.dd (Ne.symm (b.ppd j hj)), fun i hi => (h.e i hi).but s ea ((h.eo i hi).p j hj), h.eo, s _ _ h.hh (Ne.symm (b.pph j hj)), fun v hv => ?_⟩
  · by_cases e : i = j
    · subst e; rw [put_same]; exact r
    · rw [put_ne e]; exact (h.q i hi).but s ea (b.pne hi hj e)
  · obtain ⟨t, u, w, rs, e1, a1, a2, a3⟩ := h.hd v hv
    exact ⟨t, u, w, rs, e1, a1.but s ea (a2.p j hj) (a3.p j hj), a2, a3⟩
theorem Iv.setd (h : Iv H0 B H pd ph p d tk due hs) (b : Bq C H0 B pb pm pd ph pr x p m rs) {j : Nat} (hj : j < 2) {d' : Addr} {l : List Rw} (r : RwL H d' l) (n : Out p pd ph d') : Iv H0 B (upd H pd (.lst ([.ref (d 0), .ref (d 1)].set j (.ref d')))) pd ph p (put d j d') tk (put due j l) hs := by
  have s : SameBut pd H (upd H pd (.lst ([.ref (d 0), .ref (d 1)].set j (.ref d')))) := fun b u e hb => by rw [upd_ne hb]; exact e
  refine ⟨fun c o e => s _ _ (h.s _ _ e) (ne_of_none e b.fd), fun c o e n => s _ _ (h.k c o e n) n.d, fun i hi => (h.q i hi).but s h.dd (b.ppd i hi), ?_, fun i hi => ?_, fun i hi => ?_, s _ _ h.hh (Ne.symm b.dh), fun v hv => ?_⟩
  · rw [upd_same]
    rcases two hj with rfl | rfl <;> rfl
  · by_cases e : i = j
    · subst e; rw [put_same, put_same]; exact r.but s h.dd n.d
    · rw [put_ne e, put_ne e]; exact (h.e i hi).but s h.dd (h.eo i hi).d
  · by_cases e : i = j
    · subst e; rw [put_same]; exact n
    · rw [put_ne e]; exact h.eo i hi
  · obtain ⟨t, u, w, rs, e1, a1, a2, a3⟩ := h.hd v hv
    exact ⟨t, u, w, rs, e1, a1.but s h.dd a2.d a3.d, a2, a3⟩
theorem Iv.tr (h : Iv H0 B H pd ph p d tk due hs) (b : Bq C H0 B pb pm pd ph pr x p m rs) {j : Nat} (hj : j < 2) (ht : tk j = (due j).take (m j)) (ho : OR.Ord (due j)) (hl : (due j).length ≤ 100) (hn : hs.length ≤ 1000) {Q : VK} {E : XK} (k : ∀ H' hs', Iv H0 B H' pd ph p d tk due hs' → hs'.length = hs.length + 1 → SameBut ph H H' → Q (.bl true) H') :
    spTR C [.ref (x j), .ref (d j), .int (m j : Int), .ref ph] H Q E := by
  refine ⟨x j, p j, d j, ph, m j, due j, hs, rfl, h.bx b hj, by rw [← ht]; exact h.q j hj, h.e j hj, ho, hl, h.hh, hn, b.pph j hj, (h.eo j hj).h, fun H' t u v l hu hv hA e7 s => ?_⟩
  refine k H' (hs ++ [.ref t]) ⟨fun c o e => s _ _ (h.s _ _ e) (ne_of_none e b.fh), fun c o e n => s _ _ (h.k c o e n) n.h, fun i hi => (h.q i hi).but s h.hh (b.pph i hi), s _ _ h.dd b.dh, fun i hi => (h.e i hi).but s h.hh (h.eo i hi).h, h.eo, e7, fun v' hv' => ?_⟩ (by rw [List.length_append]; rfl) s
  rcases List.mem_append.mp hv' with q | q
  · obtain ⟨t, u, w, rs, e1, a1, a2, a3⟩ := h.hd v' q
    exact ⟨t, u, w, rs, e1, a1.but s h.hh a2.h a3.h, a2, a3⟩
  · exact ⟨t, u, v, l, List.mem_singleton.mp q, hA, h.fresh hu, h.fresh hv⟩
end
theorem good_no {m : Nat} (bad : goodN (.int (m : Int)) 0 none = false) : False := by
  have : (decide ((0 : Int) ≤ (m : Int)) && true) = false := bad
  rw [decide_eq_true (by omega)] at this
  cases this
theorem nat_of {n m : Nat} (e : V.int (n : Int) = V.int (m : Int)) : m = n := by injection e with e; exact Int.ofNat.inj e.symm
theorem mk_free {H : Hp} {x dx p : Addr} (nx : H x = none) (ndx : H dx = none) (h : (upd (upd H dx (.own x)) x (.ins C dx [])) p = none) : H p = none := by
  by_cases e : p = x
  · rw [e]; exact nx
  · rw [upd_ne e] at h
    by_cases e' : p = dx
    · rw [e']; exact ndx
    · rw [upd_ne e'] at h; exact h
theorem mk_same {H H' : Hp} {x dx : Addr} (nx : H x = none) (ndx : H dx = none) (sb : SameBut x (upd (upd H dx (.own x)) x (.ins C dx [])) H') : Same H H' := fun b u e => sb _ _ (by rw [upd_ne (ne_of_none e nx), upd_ne (ne_of_none e ndx)]; exact e) (ne_of_none e nx)
theorem rng_put {α β : Type} (f : α → β) (g : Nat → α) (i : Nat) (v : α) : ((List.range (i + 1)).map fun j => f (put g i v j)) = ((List.range i).map fun j => f (g j)) ++ [f v] := by
  rw [List.range_succ, List.map_append]
  congr 1
  · refine List.map_congr_left fun j hj => ?_
    rw [put_ne (by have := List.mem_range.mp hj; omega)]
  · show [f (put g i v i)] = _
    rw [put_same]
theorem set_last {α : Type} (l : List α) (a b : α) : (l ++ [a]).set l.length b = l ++ [b] := by simp
theorem ixN_of {n i : Nat} (h : i < n) : ixN n (i : Int) = some i := by
  unfold ixN
  rw [if_pos (by omega)]
  simp [h]
theorem tnil_ {σ : L2.St} {H : Hp} {F : List V → Hp → Prop} (h : F [] H) : tNil σ H F := h
structure Ms (C : Addr) (H1 H : Hp) (pb pm : Addr) (i : Nat) (x p : Nat → Addr) (m : Nat → Nat) : Prop where
  s : Same H1 H
  b : H pb = some (.lst ((List.range i).map fun j => V.ref (x j)))
  em : H pm = some (.lst ((List.range i).map fun j => V.int (m j : Int)))
  x : ∀ j, j < i → BsA C H (x j) (p j) (m j)
  e : ∀ j, j < i → H (p j) = some (.lst [])
  pb : ∀ j, j < i → p j ≠ pb
  pm : ∀ j, j < i → p j ≠ pm
  f : ∀ j, j < i → H1 (p j) = none
  pp : ∀ j l, j < l → l < i → p j ≠ p l
theorem Ms.same {H1 H H' : Hp} {pb pm : Addr} {i : Nat} {x p : Nat → Addr} {m : Nat → Nat} (h : Ms C H1 H pb pm i x p m) (s : Same H H') : Ms C H1 H' pb pm i x p m :=
  ⟨h.s.trans s, s _ _ h.b, s _ _ h.em, fun j hj => let ⟨dx, e⟩ := (h.x j hj).ob; ⟨dx, s _ _ e⟩, fun j hj => s _ _ (h.e j hj), h.pb, h.pm, h.f, h.pp⟩
theorem Ms.more {H1 H H' : Hp} {pb pm : Addr} {i : Nat} {x p : Nat → Addr} {m : Nat → Nat} {x' p' : Addr} {m' : Nat} (h : Ms C H1 H pb pm i x p m) (nb : pb ≠ pm) (fb : H1 pb = none) (fm : H1 pm = none)
    (k : ∀ b o, H b = some o → b ≠ pb → b ≠ pm → H' b = some o) (eb : H' pb = some (.lst (((List.range i).map fun j => V.ref (x j)) ++ [.ref x']))) (em : H' pm = some (.lst (((List.range i).map fun j => V.int (m j : Int)) ++ [.int (m' : Int)])))
    (hp : H p' = none) (hB : BsA C H' x' p' m') (hP : H' p' = some (.lst [])) (n1 : p' ≠ pb) (n2 : p' ≠ pm) : Ms C H1 H' pb pm (i + 1) (put x i x') (put p i p') (put m i m') := by
  have lt : ∀ {j}, j < i + 1 → j ≠ i → j < i := fun h1 h2 => by omega
  refine ⟨fun b o e => k _ _ (h.s _ _ e) (ne_of_none e fb) (ne_of_none e fm), by rw [eb]; exact congrArg (fun z => some (HO.lst z)) (rng_put V.ref x i x').symm, by rw [em]; exact congrArg (fun z => some (HO.lst z)) (rng_put (fun n : Nat => V.int (n : Int)) m i m').symm, fun j hj => ?_, fun j hj => ?_, fun j hj => ?_, fun j hj => ?_, fun j hj => ?_, fun j l hjl hl => ?_⟩
  · by_cases e : j = i
    · subst e; rw [put_same, put_same, put_same]; exact hB
    · rw [put_ne e, put_ne e, put_ne e]
      obtain ⟨dx, q⟩ := (h.x j (lt hj e)).ob
      exact ⟨dx, k _ _ q (fun z => by rw [z, h.b] at q; cases q) (fun z => by rw [z, h.em] at q; cases q)⟩
  · by_cases e : j = i
    · subst e; rw [put_same]; exact hP
    · rw [put_ne e]; exact k _ _ (h.e j (lt hj e)) (h.pb j (lt hj e)) (h.pm j (lt hj e))
  · by_cases e : j = i
    · subst e; rw [put_same]; exact n1
    · rw [put_ne e]; exact h.pb j (lt hj e)
  · by_cases e : j = i
    · subst e; rw [put_same]; exact n2
    · rw [put_ne e]; exact h.pm j (lt hj e)
  · by_cases e : j = i
    · subst e; rw [put_same]; exact h.s.free hp
    · rw [put_ne e]; exact h.f j (lt hj e)
  · have ej : j ≠ i := by omega
    rw [put_ne ej]
    by_cases e : l = i
    · subst e
      rw [put_same]
      exact ne_of_none (h.e j (by omega)) hp
    · rw [put_ne e]; exact h.pp j l hjl (lt hl e)
end
end K21
set_option Elab.async false
set_option linter.all false
set_option maxRecDepth 100000
set_option maxHeartbeats 4000000
namespace K21
open PySem L2 PyProof.Rows PySem.Spec Gn OR
open K03 (Fr less mkF gcd_pos')
open K01 (isS)
section
variable {P : Program} {w : World} {K : PySem.W.Frag} {mg : Str → Option Value} {base : Heap} {C CH CN CT : Addr}
theorem ndT : (["_law_one", "_law_bests", "_law_dues", "_law_held", "_law_mosts"] : List Str).Nodup := by decide +kernel
theorem ndH : (["_law_one", "_law_copy"] : List Str).Nodup := by decide +kernel
noncomputable def rNeDK (K : PySem.W.Frag) : R2 := fun x y H Q => ∃ dx dy, DtV K H x dx ∧ DtV K H y dy ∧ dx.canLay0 = true ∧ dy.canLay0 = true ∧ min dx.depth dy.depth ≤ 100 ∧ Q (.bl (!PyData.eqv dx dy)) H
theorem op_neDK {X : Cx} {K : PySem.W.Frag} (h : X.K = K) (hu : X.A.units + 100 < cLine) : OpR X (compareOp .NotEq) (rNeDK K) := by subst h; exact op_neD hu
theorem at2 {α : Type} (f : Nat → α) {j : Nat} (h : j < 2) : atI [f 0, f 1] (j : Int) = some (f j) := by
  rcases two h with rfl | rfl
  · exact atI_nat (j := 0) rfl
  · exact atI_nat (j := 1) rfl
theorem pick2 {H : Hp} {u : Addr} {a b : Int} {bb : Bool} {Q : VK} (e : H u = some (.lst [.int a, .int b])) (ha : 0 ≤ a ∧ a ≤ 20) (hb : 0 ≤ b ∧ b ≤ 20) (k : ∀ mv : Nat, mv ≤ 20 → Q (.int (mv : Int)) H) : rIxL K (.ref u) (.int (if bb then 1 else 0)) H Q := by
  cases bb with
  | false =>
    refine ⟨u, _, _, .int a, rfl, rfl, SqL.of e, atI_nat (j := 0) rfl, ?_⟩
    have := k a.toNat (by omega)
    rwa [Int.toNat_of_nonneg ha.1] at this
  | true =>
    refine ⟨u, _, _, .int b, rfl, rfl, SqL.of e, atI_nat (j := 1) rfl, ?_⟩
    have := k b.toNat (by omega)
    rwa [Int.toNat_of_nonneg hb.1] at this
noncomputable def Od (K : PySem.W.Frag) (v : V) (H : Hp) : Prop := Known K H v ∧ goodN v 0 none = false
theorem odd8 {H : Hp} {l t : Addr} {i : Int} (hl : H l = some (.lst [.int 3])) (ht : H t = some (.tup [.int 2])) (hi : i < 0) : ∀ v ∈ [V.non, .bl true, .str (Str.ofString "10"), .int (-1), .ref l, .int i, .bl false, .ref t], Od K v H := by
  refine List.forall_mem_cons.mpr ⟨⟨⟨_, .non⟩, rfl⟩, List.forall_mem_cons.mpr ⟨⟨⟨_, .bl _⟩, rfl⟩, List.forall_mem_cons.mpr ⟨⟨⟨_, .str _⟩, rfl⟩, List.forall_mem_cons.mpr ⟨⟨⟨_, .int _⟩, rfl⟩, List.forall_mem_cons.mpr ⟨⟨⟨_, .lst hl⟩, rfl⟩, List.forall_mem_cons.mpr ⟨⟨⟨_, .int _⟩, ?_⟩, List.forall_mem_cons.mpr ⟨⟨⟨_, .bl _⟩, rfl⟩, List.forall_mem_cons.mpr ⟨⟨⟨_, .tup ht⟩, rfl⟩, fun v hv => nomatch hv⟩⟩⟩⟩⟩⟩⟩⟩
  show (decide ((0 : Int) ≤ i) && true) = false
  rw [decide_eq_false (by omega)]
  rfl
noncomputable def Or2 (v : V) (H : Hp) : Prop := ∃ (q : Addr) (i j : Nat), v = .ref q ∧ H q = some (.lst [.int (i : Int), .int (j : Int)]) ∧ i < 2 ∧ j < 2
noncomputable def spLaw (K : PySem.W.Frag) : Sp := fun vs H Q _ => ∃ (a : Addr) (ns : List Int), vs = [.ref a] ∧ SqL K H a (ns.map V.int) ∧ ns.length ≤ 63 ∧ ∀ H', Q (.bl true) H'
theorem scLaw : FnScope ["_law_script", "_law_menu_here", "_law_number_here", "_law_bests", "_law_mosts", "_law_k", "_law_dues", "_law_held", "_law_rows_here", "_law_row", "_law_who", "_law_order", "_law_odd"] ["_law_script"] (defScope lLaw) := ⟨rfl, rfl, rfl, by decide +kernel, rfl, by decide +kernel, by decide +kernel⟩
seal PSs PS PE PT PA PG PI PGs PIfs in
theorem ok_law {f fWh fNN fL fA fP fMi fNu fMe fW fRo fLA fLi fRf fTR fB fO fT : Addr} {fd fdWh fdNN fdL fdA fdP fdMi fdNu fdMe fdW fdRo fdLA fdLi fdRf fdTR fdB fdO fdT : FuncData} {tk10 : Tok} (D : Df K mg "law" lLaw f fd) (T : Txt mg) (X : Cl mg CH CN CT) (F : CF K CH CN CT) (XN : Ex K mg "BadNumber" CN) (B : TxtC K mg C)
    (FB : FnD K "__init__" "Best.__init__" bInit fB fdB #[.int 10 tk10]) (M : L2.Mk K C fB) (FO : Fun K "offer" "Best.offer" bOffer fO fdO) (mO : Meth K C "offer" fO) (FT : Fun K "told" "Best.told" bTold fT fdT) (mT : Meth K C "told" fT)
    (DWh : Df K mg "is_whole" sWhole fWh fdWh) (DL : Df K mg "is_less" sLess fL fdL) (DA : Df K mg "stands_ahead" sAhd fA fdA) (DP : Df K mg "put_in" sPut fP fdP) (DMi : Df K mg "_law_mixed" lMixed fMi fdMi) (DNu : Df K mg "_law_number" lNumber fNu fdNu) (DMe : Df K mg "_law_menu" lMenu fMe fdMe)
    (DW : Df K mg "_law_worth" lWorth fW fdW) (DRo : Df K mg "_law_rows" lRows fRo fdRo) (DLA : Df K mg "_law_is_ahead" lAhd fLA fdLA) (DLi : Df K mg "_law_in_row" lInRow fLi fdLi) (DRf : Df K mg "_law_refused" lRef fRf fdRf) (DTR : Df K mg "_law_told_right" lTold fTR fdTR) (DNN : DfD K mg "need_number" sNNum fNN fdNN #[.none]) :
    FnOk P w K mg base CX0 6 f fd ["_law_script"] (spLaw K) := by
  have GN : FnOk P w K mg base (CX1 P w) 2 fNN fdNN ["thing", "least", "most"] (spNNum K CN) := ok_nnum DNN DWh XN T
  have GB0 : FnOk P w K mg base (CX1 P w) 3 fB fdB ["self", "most"] (spInit K C CN) := ok_init FB B DNN GN
  have GB : FnOk P w K mg base (CX1 P w) 4 fB fdB ["self", "most"] (spInit K C CN) := GB0.mono (by decide)
  have bB : Binds K fdB ["self", "most"] [] := FB.binds (ps := ["self", "most"]) (ds := []) fun T kV doc pm an cdv ct us hl => match us, (show us.length = 2 by simpa using hl) with | [_, _], _ => ⟨_, rfl, rfl⟩
  have bB1 : Binds K fdB ["self", "most"] [.int 10 tk10] := FB.binds (ps := ["self", "most"]) (ds := [.int 10 tk10]) fun T kV doc pm an cdv ct us hl => match us, (show us.length = 1 by simpa using hl) with | [_], _ => ⟨_, rfl, rfl⟩
  have GO : FnOk P w K mg base CX0 4 fO fdO ["self", "key", "worth"] (spOffer C) := ok_offer FO B DP DA DL T
  have bO := FO.binds (ps := ["self", "key", "worth"]) fun _ _ _ _ _ _ us hl => us3 (fun _ _ _ => rfl) us hl
  have GTR : FnOk P w K mg base CX0 2 fTR fdTR ["_law_best", "_law_due", "_law_most", "_law_held"] (spTR C) := ok_tr DTR B FT mT T
  have bTR := DTR.F.binds (ps := ["_law_best", "_law_due", "_law_most", "_law_held"]) fun _ _ _ _ _ _ us hl => us4 (fun _ _ _ _ => rfl) us hl
  have GRf : FnOk P w K mg base CX0 5 fRf fdRf ["_law_odd"] (spRef K) := ok_ref DRf X F B FB M GB0 bB T
  have bRf := binds1 (p := "_law_odd") DRf.F fun _ _ _ _ _ _ _ => rfl
  have GNu : FnOk P w K mg base CX0 2 fNu fdNu ["_law_script", "_law_k"] (spNumber K) := ok_number DNu DMi T
  have bNu := DNu.F.binds (ps := ["_law_script", "_law_k"]) fun _ _ _ _ _ _ us hl => us2 (fun _ _ => rfl) us hl
  have GMe : FnOk P w K mg base CX0 2 fMe fdMe ["_law_number_here"] spMenu := ok_menu DMe DMi T
  have bMe := binds1 (p := "_law_number_here") DMe.F fun _ _ _ _ _ _ _ => rfl
  have GRo : FnOk P w K mg base CX0 3 fRo fdRo ["_law_script", "_law_first", "_law_many", "_law_menu_here"] (spRows K) := ok_rows DRo DNu DMi DW T
  have bRo := DRo.F.binds (ps := ["_law_script", "_law_first", "_law_many", "_law_menu_here"]) fun _ _ _ _ _ _ us hl => us4 (fun _ _ _ _ => rfl) us hl
  have GLi : FnOk P w K mg base CX0 2 fLi fdLi ["_law_rows_here"] spIn := ok_lin DLi DLA T
  have bLi := binds1 (p := "_law_rows_here") DLi.F fun _ _ _ _ _ _ _ => rfl
  refine D.F.ok scLaw (fun vs H Q E h => ?_) (fun cdv A outer s H vs Q E hr h => ?_)
  · obtain ⟨a, ns, rfl, _⟩ := h
    rfl
  · obtain ⟨a, ns, rfl, hS, hlen, kk⟩ := h
    have hz : (sizeLine : Nat) = 16777216 := sizeLine_eq
    have md := fun (i : Int) {m : Int} (hm : 0 < m) => And.intro (Int.emod_nonneg i (show m ≠ 0 by omega)) (Int.emod_lt_of_pos i hm)
    refine ⟨_, (pss_cons (ps_set (i := 1) scLaw.nd rfl (Or.inl rfl) (pe_call (GMe.mono (by decide)) hr rfl DMe.m DMe.F.kp bMe .nil pass0 (pa_cons (pe_call (GNu.mono (by decide)) hr rfl DNu.m DNu.F.kp bNu .nil pass0 (pa_cons (pv 0) (pa_cons pe_int pa_nil))) pa_nil)))
      (pss_cons (ps_set (i := 2) scLaw.nd rfl (Or.inl rfl) (pe_call (GNu.mono (by decide)) hr rfl DNu.m DNu.F.kp bNu .nil pass0 (pa_cons (pv 0) (pa_cons pe_int pa_nil))))
      (pss_cons (ps_asg (pe_tup (pa_cons (pe_lst pa_nil) (pa_cons (pe_lst pa_nil) pa_nil))) (pg_tup (n := 2) rfl (pgs_cons (pg_name (i := 3) scLaw.nd rfl (Or.inr rfl)) (pgs_cons (pg_name (i := 4) scLaw.nd rfl (Or.inr rfl)) pgs_nil))))
      (pss_cons (ps_for PassesOwn.never rfl (pi_range1 rfl T.range (pa_cons pe_int pa_nil)) (pg_name (i := 5) scLaw.nd rfl (Or.inl rfl)) (pss_cons (ps_expr (pe_bm PySem.F.plainAttrs_list PySem.F.slot_list_append PySem.F.type_list_append mt_append (pv 4) (pa_cons (pe_ix (ix_listK (K := K) rfl) (pe_lst (pa_cons (pe_op op_mod (pe_op op_fdiv (pv 2) (pe_op op_add pe_int (pe_op op_mul pe_int (pv 5)))) pe_int) (pa_cons (pe_op op_add pe_int (pe_op op_mod (pe_op op_fdiv (pv 2) pe_int) pe_int)) pa_nil))) (pe_callTy call_int1 rfl T.int b_int (pa_cons (pe_cmpR op_in_seq (pe_op op_mod (pe_op op_fdiv (pv 2) pe_int) pe_int) (pe_tup (pa_cons pe_int (pa_cons (pe_op op_add pe_int (pv 5)) pa_nil))) (by with_unfolding_all rfl)) pa_nil)) (fun _ _ => rfl)) pa_nil)))
      (pss_cons (ps_expr (pe_bm PySem.F.plainAttrs_list PySem.F.slot_list_append PySem.F.type_list_append mt_append (pv 3) (pa_cons (pe_make M GB hr rfl B.mgC bB .nil passN (pa_cons (pe_ix ix_list (pv 4) (pv 5) (fun _ _ => rfl)) pa_nil)) pa_nil)))
      (pss_one (ps_if (pt_cmpR op_eq (pe_op op_mod (pe_op op_fdiv (pv 2) pe_int) pe_int) (pv 5) (nomark _)) (pss_cons (ps_asg pe_int (pg_sub (pv 4) (pv 5) set_list))
      (pss_one (ps_asg (pe_make0 M GB hr rfl B.mgC bB1 (dvs := [.int 10]) (.cons ⟨tk10, rfl⟩ .nil) passN) (pg_sub (pv 3) (pv 5) set_list)))) pss_nil)))))
      (pss_cons (ps_set (i := 6) scLaw.nd rfl (Or.inr rfl) (pe_lst (pa_cons (pe_lst pa_nil) (pa_cons (pe_lst pa_nil) pa_nil))))
      (pss_cons (ps_set (i := 7) scLaw.nd rfl (Or.inr rfl) (pe_lst pa_nil))
      (pss_cons (ps_set (i := 8) scLaw.nd rfl (Or.inl rfl) (pe_call (GRo.mono (by decide)) hr rfl DRo.m DRo.F.kp bRo .nil pass0 (pa_cons (pv 0) (pa_cons pe_int (pa_cons (pe_ix (ix_listK (K := K) rfl) (pe_lst (pa_cons (pe_op op_mod (pe_op op_fdiv (pv 2) pe_int) pe_int) (pa_cons (pe_op op_add pe_int (pe_op op_mod (pe_op op_fdiv (pv 2) pe_int) pe_int)) pa_nil))) (pe_op op_mod (pe_op op_fdiv (pv 2) pe_int) pe_int) (fun _ _ => rfl)) (pa_cons (pv 1) pa_nil))))))
      (pss_cons (ps_for PassesOwn.never rfl (pi_enumL rfl T.enum (pa_cons (pv 8) pa_nil)) (pg_tup (n := 2) rfl (pgs_cons (pg_name (i := 5) scLaw.nd rfl (Or.inl rfl)) (pgs_cons (pg_name (i := 9) scLaw.nd rfl (Or.inl rfl)) pgs_nil))) (pss_cons (ps_set (i := 10) scLaw.nd rfl (Or.inl rfl) (pe_op op_mod (pe_call (GNu.mono (by decide)) hr rfl DNu.m DNu.F.kp bNu .nil pass0 (pa_cons (pv 0) (pa_cons (pe_op op_add pe_int (pv 5)) pa_nil))) pe_int))
      (pss_cons (ps_if (pt_cmp (pc_notN (pe_meth (pe_ix ix_list (pv 3) (pv 10) (fun _ _ => rfl)) B.cl mO (GO.mono (by decide)) hr bO .nil pass0 (pa_cons (pe_ix ix_tup (pv 9) pe_int (fun _ _ => rfl)) (pa_cons (pe_ix ix_tup (pv 9) pe_int (fun _ _ => rfl)) pa_nil))))) (pss_one (ps_ret pe_bl)) pss_nil)
      (pss_cons (ps_asg (pe_call (GLi.mono (by decide)) hr rfl DLi.m DLi.F.kp bLi .nil pass0 (pa_cons (pe_op op_cat (pe_ix ix_list (pv 6) (pv 10) (fun _ _ => rfl)) (pe_lst (pa_cons (pv 9) pa_nil))) pa_nil)) (pg_sub (pv 6) (pv 10) set_list))
      (pss_cons (ps_set (i := 11) scLaw.nd rfl (Or.inl rfl) (pe_ix (ix_listK (K := K) rfl) (pe_lst (pa_cons (pe_lst (pa_cons pe_int (pa_cons pe_int pa_nil))) (pa_cons (pe_lst (pa_cons pe_int (pa_cons pe_int pa_nil))) pa_nil))) (pe_op op_mod (pe_op op_fdiv (pe_call (GNu.mono (by decide)) hr rfl DNu.m DNu.F.kp bNu .nil pass0 (pa_cons (pv 0) (pa_cons (pe_op op_add pe_int (pv 5)) pa_nil))) pe_int) pe_int) (fun _ _ => rfl)))
      (pss_one (ps_if (pt_not (pt_val (pe_callB (call_all_bools rfl) rfl T.all b_all (pa_cons (pe_comp (own := 1) (caps := [3, 6, 7, 4]) (N := ["_law_one", "_law_bests", "_law_dues", "_law_held", "_law_mosts"]) (N0 := ["_law_script", "_law_menu_here", "_law_number_here", "_law_bests", "_law_mosts", "_law_k", "_law_dues", "_law_held", "_law_rows_here", "_law_row", "_law_who", "_law_order", "_law_odd"]) (sc0 := defScope lLaw) rfl (pi_list (pv 11)) (fun _ _ _ => pg_name (i := 0) ndT rfl (Or.inl rfl)) (fun _ _ _ => pf_none) (fun _ _ _ => pe_call (GTR.mono (by decide)) hr rfl DTR.m DTR.F.kp bTR .nil pass0 (pa_cons (pe_ix (ix_listK (K := K) rfl) (pv 1) (pv 0) (fun _ _ => rfl)) (pa_cons (pe_ix (ix_listK (K := K) rfl) (pv 2) (pv 0) (fun _ _ => rfl)) (pa_cons (pe_ix (ix_listK (K := K) rfl) (pv 4) (pv 0) (fun _ _ => rfl)) (pa_cons (pv 3) pa_nil))))) (gk_name (by decide)) rfl rfl
        (by decide +kernel) rfl (by decide +kernel) (by decide +kernel) rfl (by decide +kernel)) pa_nil)))) (pss_one (ps_ret pe_bl)) pss_nil)))))))
      (pss_cons (ps_if (pt_not (pt_val (pe_callB (call_all_bools rfl) rfl T.all b_all (pa_cons (pe_comp (own := 1) (caps := [3, 6, 7, 4]) (N := ["_law_one", "_law_bests", "_law_dues", "_law_held", "_law_mosts"]) (N0 := ["_law_script", "_law_menu_here", "_law_number_here", "_law_bests", "_law_mosts", "_law_k", "_law_dues", "_law_held", "_law_rows_here", "_law_row", "_law_who", "_law_order", "_law_odd"]) (sc0 := defScope lLaw) rfl (pi_tup (pe_tup (pa_cons pe_int (pa_cons pe_int pa_nil)))) (fun _ _ _ => pg_name (i := 0) ndT rfl (Or.inl rfl)) (fun _ _ _ => pf_none) (fun _ _ _ => pe_call (GTR.mono (by decide)) hr rfl DTR.m DTR.F.kp bTR .nil pass0 (pa_cons (pe_ix (ix_listK (K := K) rfl) (pv 1) (pv 0) (fun _ _ => rfl)) (pa_cons (pe_ix (ix_listK (K := K) rfl) (pv 2) (pv 0) (fun _ _ => rfl)) (pa_cons (pe_ix (ix_listK (K := K) rfl) (pv 4) (pv 0) (fun _ _ => rfl)) (pa_cons (pv 3) pa_nil))))) (gk_name (by decide)) rfl rfl
        (by decide +kernel) rfl (by decide +kernel) (by decide +kernel) rfl (by decide +kernel)) pa_nil)))) (pss_one (ps_ret pe_bl)) pss_nil)
      (pss_cons (ps_set (i := 12) scLaw.nd rfl (Or.inl rfl) (pe_ix (ix_listK (K := K) rfl) (pe_lst (pa_cons pe_non (pa_cons pe_bl (pa_cons pe_str (pa_cons (pe_un un_neg pe_int) (pa_cons (pe_lst (pa_cons pe_int pa_nil)) (pa_cons (pe_op op_sub pe_int (pe_op op_pow pe_int pe_int)) (pa_cons pe_bl (pa_cons (pe_tup (pa_cons pe_int pa_nil)) pa_nil))))))))) (pe_op op_mod (pv 2) pe_int) (fun _ _ => rfl)))
      (pss_one (ps_ret (pe_and (pe_call GRf hr rfl DRf.m DRf.F.kp bRf .nil pass0 (pa_cons (pv 12) pa_nil)) (pe_one (pe_cmpR (op_eqD hr.units100) (pe_comp (own := 2) (caps := []) (N := ["_law_one", "_law_copy"]) (N0 := ["_law_script", "_law_menu_here", "_law_number_here", "_law_bests", "_law_mosts", "_law_k", "_law_dues", "_law_held", "_law_rows_here", "_law_row", "_law_who", "_law_order", "_law_odd"]) (sc0 := defScope lLaw) rfl (pi_list (pv 7)) (fun _ _ _ => pg_tup (n := 2) rfl (pgs_cons (pg_name (i := 0) ndH rfl (Or.inl rfl)) (pgs_cons (pg_name (i := 1) ndH rfl (Or.inl rfl)) pgs_nil))) (fun _ _ _ => pf_one (pt_cmpR (op_neDK (K := K) rfl hr.units100) (pv 0) (pv 1) (nomark _))) (fun _ _ _ => pv 0) (gk_tup (gks_cons (gk_name (by decide)) (gks_cons (gk_name (by decide)) gks_nil))) rfl rfl
        (by decide +kernel) rfl (by decide +kernel) (by decide +kernel) rfl (by decide +kernel)) (pe_lst pa_nil) (nomark _)))))))))))))))), ?_⟩
    refine ⟨_, rfl, a, ns, 0, rfl, hS, hlen, by decide, fun n0 H1 _ _ s1 => ⟨n0, rfl, fun mn H2 ws s2 eM w5 hW => ?_⟩⟩
    have t2 := s1.trans s2
    refine ⟨_, rfl, a, ns, 1, rfl, t2.seq hS, hlen, by decide, fun n H3 n0' n1' s3 => ?_⟩
    have t3 := t2.trans s3
    have eM3 := s3 _ _ eM
    refine ⟨Nat.zero_le _, fun pb hpb => ⟨Nat.zero_le _, fun pm hpm => ⟨(by show 2 ≤ sizeLine; omega), fun tt htt => ⟨tt, _, rfl, SqT.of upd_same, rfl, _, _, rfl, _, _, rfl, rfl, ?_⟩⟩⟩⟩
    have nbm : pb ≠ pm := ne_of_none upd_same hpm
    have hpm3 : H3 pm = none := (same_upd hpb).free hpm
    have s4 := Same.upd (o := .tup [.ref pb, .ref pm]) (Same.upd (o := .lst []) (same_upd (o := .lst ([] : List V)) hpb) hpm) htt
    have eb := same_upd (o := .tup [.ref pb, .ref pm]) htt _ _ (same_upd (o := .lst []) hpm _ _ (upd_same (H := H3) (a := pb) (o := .lst [])))
    have em := same_upd (o := .tup [.ref pb, .ref pm]) htt _ _ (upd_same (H := upd H3 pb (.lst [])) (a := pm) (o := .lst []))
    change (upd (upd (upd H3 pb (.lst [])) pm (.lst [])) tt (.tup [.ref pb, .ref pm])) pb = _ at eb
    change (upd (upd (upd H3 pb (.lst [])) pm (.lst [])) tt (.tup [.ref pb, .ref pm])) pm = _ at em
    generalize upd (upd (upd H3 pb (.lst [])) pm (.lst [])) tt (.tup [.ref pb, .ref pm]) = H4 at s4 eb em
    refine ⟨2, rfl, by decide, by decide, ?_⟩
    refine for_range (fun i σ H' => ∃ (x p : Nat → Addr) (m : Nat → Nat) (o5 : Option V), σ = [some (.ref a), some (.ref mn), some (.int n), some (.ref pb), some (.ref pm), o5, none, none, none, none, none, none, none] ∧ Ms C H3 H' pb pm i x p m) ?_ ?_ ?_
    · exact ⟨fun _ => 0, fun _ => 0, fun _ => 0, none, rfl, s4, eb, em, (fun j hj => absurd hj (by omega)), (fun j hj => absurd hj (by omega)), (fun j hj => absurd hj (by omega)), (fun j hj => absurd hj (by omega)), (fun j hj => absurd hj (by omega)), fun j l _ hj => absurd hj (by omega)⟩
    · rintro i σ H5 hi ⟨x, p, m, o5, rfl, hM⟩
      have hi2 : i < 2 := hi
      have L1 : ((List.range i).map fun j => V.int (m j : Int)).length = i := by rw [List.length_map, List.length_range]
      have L2' : ((List.range i).map fun j => V.ref (x j)).length = i := by rw [List.length_map, List.length_range]
      have m6 := md (n / (1 + 5 * (0 + (i : Int)))) (m := 6) (by decide)
      have m66 := md (n / 288) (m := 6) (by decide)
      refine ⟨_, rfl, .inl ⟨rfl, _, SqL.of hM.em⟩, _, rfl, _, rfl, _, _, rfl, rfl, .inl ⟨by decide, by decide⟩, _, _, rfl, rfl, _, _, rfl, rfl, ⟨by omega, by omega⟩, _, _, rfl, rfl, (by show (0 : Int) < 6; decide), _, rfl, _, _, rfl, rfl, ⟨by decide, by decide⟩, _, _, rfl, rfl, (by show (0 : Int) < 6; decide), _, _, rfl, rfl, (by show 2 ≤ sizeLine; omega), fun u hu => ?_⟩
      refine ⟨_, rfl, _, _, rfl, rfl, ⟨by decide, by decide⟩, _, _, rfl, rfl, (by show (0 : Int) < 8; decide), _, rfl, _, _, rfl, rfl, (by show 2 ≤ sizeLine; omega), fun tq htq => ⟨tq, _, rfl, .inr (SqT.of upd_same), rfl, rfl, .inr ⟨_, rfl, ?_⟩⟩⟩
      refine pick2 (same_upd htq _ _ upd_same) ⟨m6.1, by omega⟩ ⟨by show (0 : Int) ≤ 9 + _; omega, by show (9 : Int) + _ ≤ 20; omega⟩ fun mv hmv => ?_
      have s6 : Same H5 (upd (upd H5 u (.lst [V.int (n / (1 + 5 * (0 + (i : Int))) % 6), .int (9 + n / 288 % 6)])) tq (.tup [.int 2, .int (3 + (0 + (i : Int)))])) := Same.upd (same_upd hu) htq
      generalize upd (upd H5 u (.lst [V.int (n / (1 + 5 * (0 + (i : Int))) % 6), .int (9 + n / 288 % 6)])) tq (.tup [.int 2, .int (3 + (0 + (i : Int)))]) = H6 at s6
      have hM6 := hM.same s6
      refine ⟨pm, _, _, rfl, rfl, hM6.em, by rw [L1]; omega, ?_⟩
      have K7 : ∀ b o, H6 b = some o → b ≠ pb → b ≠ pm → (upd H6 pm (.lst (((List.range i).map fun j => V.int (m j : Int)) ++ [.int (mv : Int)]))) b = some o := fun b o e _ hb => by rw [upd_ne hb]; exact e
      have e7b : (upd H6 pm (.lst (((List.range i).map fun j => V.int (m j : Int)) ++ [.int (mv : Int)]))) pb = some (.lst ((List.range i).map fun j => V.ref (x j))) := by rw [upd_ne nbm]; exact hM6.b
      have e7m : (upd H6 pm (.lst (((List.range i).map fun j => V.int (m j : Int)) ++ [.int (mv : Int)]))) pm = some (.lst (((List.range i).map fun j => V.int (m j : Int)) ++ [.int (mv : Int)])) := upd_same
      have f7 : ∀ {c}, (upd H6 pm (.lst (((List.range i).map fun j => V.int (m j : Int)) ++ [.int (mv : Int)]))) c = none → H6 c = none ∧ c ≠ pm := fun {c} h => by
        have n : c ≠ pm := fun z => by rw [z, upd_same] at h; cases h
        exact ⟨by rw [upd_ne n] at h; exact h, n⟩
      generalize upd H6 pm (.lst (((List.range i).map fun j => V.int (m j : Int)) ++ [.int (mv : Int)])) = H7 at K7 e7b e7m f7
      refine ⟨_, rfl, .inl ⟨rfl, _, SqL.of e7b⟩, _, rfl, _, rfl, pm, _, _, .int (mv : Int), rfl, rfl, SqL.of e7m, ?_, ?_⟩
      · show atI _ (0 + (i : Int)) = _
        rw [Int.zero_add]
        refine atI_nat ?_
        rw [List.getElem?_append_right (by rw [L1]; exact Nat.le_refl _), L1, Nat.sub_self]
        rfl
      intro xq dq nxq ndq neq
      refine ⟨xq, dq, _, rfl, upd_same, ⟨_, .int _⟩, fun m' p' H8 e hp0 hB' hP' sb => ⟨rfl, ?_⟩, fun bad => (good_no bad).elim⟩
      have em' : m' = mv := nat_of e
      rw [em'] at hB'
      have s8 := mk_same nxq ndq sb
      have hp' := mk_free nxq ndq hp0
      have hx' := nxq
      obtain ⟨x', hxx⟩ : ∃ x', x' = xq := ⟨_, rfl⟩
      subst hxx
      refine ⟨pb, _, _, rfl, rfl, s8 _ _ e7b, by rw [L2']; omega, ?_⟩
      have np'b : p' ≠ pb := fun z => by rw [z, e7b] at hp'; cases hp'
      have np'm : p' ≠ pm := (f7 hp').2
      obtain ⟨dx', ex'⟩ := hB'.ob
      have nx'b : x' ≠ pb := fun z => by rw [z, s8 _ _ e7b] at ex'; cases ex'
      have nx'm : x' ≠ pm := fun z => by rw [z, s8 _ _ e7m] at ex'; cases ex'
      have K9 : ∀ b o, H6 b = some o → b ≠ pb → b ≠ pm → (upd H8 pb (.lst (((List.range i).map fun j => V.ref (x j)) ++ [.ref x']))) b = some o := fun b o e h1 h2 => by rw [upd_ne h1]; exact s8 _ _ (K7 b o e h1 h2)
      have e9b : (upd H8 pb (.lst (((List.range i).map fun j => V.ref (x j)) ++ [.ref x']))) pb = some (.lst (((List.range i).map fun j => V.ref (x j)) ++ [.ref x'])) := upd_same
      have e9m : (upd H8 pb (.lst (((List.range i).map fun j => V.ref (x j)) ++ [.ref x']))) pm = some (.lst (((List.range i).map fun j => V.int (m j : Int)) ++ [.int (mv : Int)])) := by rw [upd_ne (Ne.symm nbm)]; exact s8 _ _ e7m
      have B9 : BsA C (upd H8 pb (.lst (((List.range i).map fun j => V.ref (x j)) ++ [.ref x']))) x' p' mv := ⟨dx', by rw [upd_ne nx'b]; exact ex'⟩
      have P9 : (upd H8 pb (.lst (((List.range i).map fun j => V.ref (x j)) ++ [.ref x']))) p' = some (.lst []) := by rw [upd_ne np'b]; exact hP'
      generalize upd H8 pb (.lst (((List.range i).map fun j => V.ref (x j)) ++ [.ref x'])) = H9 at K9 e9b e9m B9 P9
      refine ⟨_, rfl, _, _, rfl, rfl, ⟨by decide, by decide⟩, _, _, rfl, rfl, (by show (0 : Int) < 8; decide), _, rfl, rfl, _, rfl, ite2 (fun _ => ?_) fun _ => ?_⟩
      · have ix : ∀ {k : Nat}, i < k → ixN k (0 + (i : Int)) = some i := fun h => by rw [Int.zero_add]; exact ixN_of h
        refine ⟨_, rfl, _, rfl, pm, _, _, i, rfl, rfl, e9m, ix (by rw [List.length_append, L1]; show i < i + 1; omega), ?_⟩
        have eset : ((((List.range i).map fun j => V.int (m j : Int)) ++ [V.int (mv : Int)]).set i (V.int 10)) = ((List.range i).map fun j => V.int (m j : Int)) ++ [V.int (10 : Int)] := by
          have q := set_last ((List.range i).map fun j => V.int (m j : Int)) (.int (mv : Int)) (.int 10)
          rwa [L1] at q
        rw [eset]
        have K10 : ∀ b o, H6 b = some o → b ≠ pb → b ≠ pm → (upd H9 pm (.lst (((List.range i).map fun j => V.int (m j : Int)) ++ [.int (10 : Int)]))) b = some o := fun b o e h1 h2 => by rw [upd_ne h2]; exact K9 b o e h1 h2
        have e10b : (upd H9 pm (.lst (((List.range i).map fun j => V.int (m j : Int)) ++ [.int (10 : Int)]))) pb = some (.lst (((List.range i).map fun j => V.ref (x j)) ++ [.ref x'])) := by rw [upd_ne nbm]; exact e9b
        have e10m : (upd H9 pm (.lst (((List.range i).map fun j => V.int (m j : Int)) ++ [.int (10 : Int)]))) pm = some (.lst (((List.range i).map fun j => V.int (m j : Int)) ++ [.int (10 : Int)])) := upd_same
        generalize upd H9 pm (.lst (((List.range i).map fun j => V.int (m j : Int)) ++ [.int (10 : Int)])) = H10 at K10 e10b e10m
        intro xq dq nxq ndq neq
        refine ⟨xq, dq, _, rfl, upd_same, ⟨_, .int _⟩, fun m'' p'' H11 e hp0' hB'' hP'' sb' => ⟨rfl, ?_⟩, fun bad => (good_no (m := 10) bad).elim⟩
        have em'' : m'' = 10 := nat_of (n := 10) e
        rw [em''] at hB''
        have s11 := mk_same nxq ndq sb'
        have hp'' := mk_free nxq ndq hp0'
        obtain ⟨x'', hxx''⟩ : ∃ x'', x'' = xq := ⟨_, rfl⟩
        subst hxx''
        refine ⟨_, rfl, _, rfl, pb, _, _, i, rfl, rfl, s11 _ _ e10b, ix (by rw [List.length_append, L2']; show i < i + 1; omega), ?_⟩
        have eset2 : ((((List.range i).map fun j => V.ref (x j)) ++ [V.ref x']).set i (V.ref x'')) = ((List.range i).map fun j => V.ref (x j)) ++ [V.ref x''] := by
          have q := set_last ((List.range i).map fun j => V.ref (x j)) (.ref x') (.ref x'')
          rwa [L2'] at q
        rw [eset2]
        obtain ⟨dx'', ex''⟩ := hB''.ob
        have n1 : p'' ≠ pb := fun z => by rw [z, e10b] at hp''; cases hp''
        have n2 : p'' ≠ pm := fun z => by rw [z, e10m] at hp''; cases hp''
        have n3 : x'' ≠ pb := fun z => by rw [z, s11 _ _ e10b] at ex''; cases ex''
        have hp6 : H6 p'' = none := by
          cases e : H6 p'' with
          | none => rfl
          | some o => rw [K10 _ _ e n1 n2] at hp''; cases hp''
        refine ⟨put x i x'', put p i p'', put m i 10, _, rfl, hM6.more nbm hpb hpm3 (fun b o e h1 h2 => by rw [upd_ne h1]; exact s11 _ _ (K10 b o e h1 h2)) upd_same (by rw [upd_ne (Ne.symm nbm)]; exact s11 _ _ e10m) hp6 ⟨dx'', by rw [upd_ne n3]; exact ex''⟩ (by rw [upd_ne n1]; exact hP'') n1 n2⟩
      · exact ⟨put x i x', put p i p', put m i mv, _, rfl, hM6.more nbm hpb hpm3 K9 e9b e9m (f7 hp').1 B9 P9 np'b np'm⟩
    · rintro σ H5 ⟨x, p, m, o5, rfl, hM⟩
      replace hM : Ms C H3 H5 pb pm 2 x p m := hM
      have t5 := t3.trans hM.s
      refine ⟨Nat.zero_le _, fun d0 hd0 => ⟨Nat.zero_le _, fun d1 hd1 => ⟨(by show 2 ≤ sizeLine; omega), fun pd hpd => ?_⟩⟩⟩
      have s6 := Same.upd (o := .lst [.ref d0, .ref d1]) (Same.upd (o := .lst []) (same_upd (o := .lst ([] : List V)) hd0) hd1) hpd
      have ed0 := same_upd (o := .lst [.ref d0, .ref d1]) hpd _ _ (same_upd (o := .lst []) hd1 _ _ (upd_same (H := H5) (a := d0) (o := .lst [])))
      have ed1 := same_upd (o := .lst [.ref d0, .ref d1]) hpd _ _ (upd_same (H := upd H5 d0 (.lst [])) (a := d1) (o := .lst []))
      have edd : (upd (upd (upd H5 d0 (.lst [])) d1 (.lst [])) pd (.lst [.ref d0, .ref d1])) pd = some (.lst [.ref d0, .ref d1]) := upd_same
      change (upd (upd (upd H5 d0 (.lst [])) d1 (.lst [])) pd (.lst [.ref d0, .ref d1])) d0 = _ at ed0
      change (upd (upd (upd H5 d0 (.lst [])) d1 (.lst [])) pd (.lst [.ref d0, .ref d1])) d1 = _ at ed1
      have hd1' := (same_upd (o := .lst ([] : List V)) hd0).free hd1
      have hpd' := (Same.upd (o := .lst []) (same_upd (o := .lst ([] : List V)) hd0) hd1).free hpd
      have nd0 : d0 ≠ pd := fun z => by rw [← z] at hpd; rw [upd_ne (ne_of_none upd_same hd1), upd_same] at hpd; cases hpd
      have nd1 : d1 ≠ pd := fun z => by rw [← z, upd_same] at hpd; cases hpd
      generalize upd (upd (upd H5 d0 (.lst [])) d1 (.lst [])) pd (.lst [.ref d0, .ref d1]) = H6 at s6 ed0 ed1 edd
      refine ⟨Nat.zero_le _, fun ph hph => ?_⟩
      have s7 := same_upd (o := .lst ([] : List V)) hph
      have ehh : (upd H6 ph (.lst [])) ph = some (.lst []) := upd_same
      generalize upd H6 ph (.lst []) = H7 at s7 ehh
      have t7 : Same H H7 := (t5.trans s6).trans s7
      have m31 := md (n / 180) (m := 31) (by decide)
      have m12 := md (n / 180) (m := 12) (by decide)
      refine ⟨_, rfl, _, rfl, _, _, rfl, rfl, ⟨by decide, by decide⟩, _, _, rfl, rfl, (by show (0 : Int) < 31; decide), _, rfl, _, _, rfl, rfl, ⟨by decide, by decide⟩, _, _, rfl, rfl, (by show (0 : Int) < 12; decide), _, _, rfl, rfl, (by show 2 ≤ sizeLine; omega), fun u8 hu8 => ⟨_, rfl, _, _, rfl, rfl, ⟨by decide, by decide⟩, _, _, rfl, rfl, (by show (0 : Int) < 2; decide), ?_⟩⟩
      refine ixPickP (fun v _ => ∃ c : Nat, v = .int (c : Int) ∧ c ≤ 31) upd_same (by show 0 < 2; decide) rfl (List.forall_mem_cons.mpr ⟨⟨(n / 180 % 31).toNat, by rw [Int.toNat_of_nonneg m31.1], by omega⟩, List.forall_mem_cons.mpr ⟨⟨(20 + n / 180 % 12).toNat, by rw [Int.toNat_of_nonneg (by omega)], by omega⟩, fun v hv => nomatch hv⟩⟩) ?_
      rintro v ⟨many, rfl, hmany⟩
      have s8 := same_upd (o := .lst [V.int (n / 180 % 31), .int (20 + n / 180 % 12)]) hu8
      generalize upd H7 u8 (.lst [V.int (n / 180 % 31), .int (20 + n / 180 % 12)]) = H8 at s8
      have t58 := (s6.trans s7).trans s8
      refine ⟨_, rfl, a, mn, ns, 2, many, ws, rfl, (t7.trans s8).seq hS, hlen, by decide, by omega, t58 _ _ (hM.s _ _ eM3), w5, hW, fun pr H9 rs s9 hpr hR hn hV => ?_⟩
      have t59 := t58.trans s9
      have t9 : Same H H9 := t5.trans t59
      have e6p : ∀ i, i < 2 → H6 (p i) = some (.lst []) := fun i hi => s6 _ _ (hM.e i hi)
      have out : ∀ {c}, (∀ i, i < 2 → c ≠ p i) → c ≠ pd → c ≠ ph → Out p pd ph c := fun h1 h2 h3 => ⟨h1, h2, h3⟩
      have bq : Bq C H H9 pb pm pd ph pr x p m rs := by
        refine ⟨hM.pp 0 1 (by decide) (by decide), fun i hi => ne_of_none (hM.e i hi) hpd', fun i hi => ne_of_none (e6p i hi) hph, ne_of_none edd hph, fun i hi => t3.free (hM.f i hi), t5.free hpd', (t5.trans s6).free hph, fun i hi => ⟨_, t59 _ _ (hM.e i hi)⟩, ⟨_, s9 _ _ (s8 _ _ (s7 _ _ edd))⟩, ⟨_, s9 _ _ (s8 _ _ ehh)⟩, t59 _ _ hM.b, ?_, t59 _ _ hM.em, ?_, fun j hj => ?_, hR, ?_, hV⟩
        · exact out (fun i hi => Ne.symm (hM.pb i hi)) (ne_of_none hM.b hpd') (ne_of_none (s6 _ _ hM.b) hph)
        · exact out (fun i hi => Ne.symm (hM.pm i hi)) (ne_of_none hM.em hpd') (ne_of_none (s6 _ _ hM.em) hph)
        · obtain ⟨dx, q⟩ := (hM.x j hj).ob
          exact ⟨dx, t59 _ _ q⟩
        · exact out (fun i hi z => by rw [z, t58 _ _ (hM.e i hi)] at hpr; cases hpr) (fun z => by rw [z, s8 _ _ (s7 _ _ edd)] at hpr; cases hpr) (fun z => by rw [z, s8 _ _ ehh] at hpr; cases hpr)
      obtain ⟨ps, eB, pB⟩ := hR.ex
      have plen := Paired.len pB
      have iv0 : Iv H H9 H9 pd ph p (put (fun _ => d1) 0 d0) (fun _ => []) (fun _ => []) [] := by
        refine ⟨t9, fun b o e _ => e, fun j hj => ⟨[], t59 _ _ (hM.e j hj), .nil⟩, s9 _ _ (s8 _ _ (s7 _ _ edd)), fun j hj => ?_, fun j hj => ?_, s9 _ _ (s8 _ _ ehh), fun v hv => nomatch hv⟩
        · rcases two hj with rfl | rfl
          · exact ⟨[], s9 _ _ (s8 _ _ (s7 _ _ ed0)), .nil⟩
          · exact ⟨[], s9 _ _ (s8 _ _ (s7 _ _ ed1)), .nil⟩
        · rcases two hj with rfl | rfl
          · exact out (fun i hi (z : d0 = p i) => by have q := hM.e i hi; rw [← z, hd0] at q; cases q) nd0 (ne_of_none ed0 hph)
          · exact out (fun i hi (z : d1 = p i) => by have q := hM.e i hi; rw [← z, hd1'] at q; cases q) nd1 (ne_of_none ed1 hph)
      refine ⟨_, rfl, pr, _, rfl, eB, ?_⟩
      refine for_iel (xs := ps.map V.ref) (fun i σ H' => ∃ (d : Nat → Addr) (tk due : Nat → List Rw) (hs : List V) (o5 o9 o10 o11 : Option V), σ = [some (.ref a), some (.ref mn), some (.int n), some (.ref pb), some (.ref pm), o5, some (.ref pd), some (.ref ph), some (.ref pr), o9, o10, o11, none] ∧ Iv H H9 H' pd ph p d tk due hs ∧ (∀ j, j < 2 → tk j = (due j).take (m j)) ∧ (∀ j, j < 2 → OR.Ord (due j)) ∧ (∀ j, j < 2 → (due j).length ≤ i) ∧ hs.length ≤ 2 * i) ?_ ?_ ?_ ?_
      · exact ⟨_, _, _, [], _, none, none, none, rfl, iv0, fun j _ => List.take_nil.symm, fun j _ => OR.Ord.nil, fun j _ => Nat.zero_le _, Nat.zero_le _⟩
      · rintro i σ G _ ⟨d, tk, due, hs, _, _, _, _, _, iv, _⟩
        exact iv.k _ _ eB bq.ro
      · rintro i v σ G Tt hv ⟨d, tk, due, hs, o5, o9, o10, o11, rfl, iv, htk, hod, hdl, hhl⟩ hTt
        rw [List.getElem?_map] at hv
        cases hpi : ps[i]? with
        | none => rw [hpi] at hv; cases hv
        | some q =>
          rw [hpi] at hv
          have hv' : v = .ref q := (Option.some.inj hv).symm
          subst hv'
          obtain ⟨r, hri, hrB⟩ := paired_get pB hpi
          have hi31 : i < 31 := by have := (List.getElem?_eq_some_iff.mp hpi).1; omega
          have hVr := hV r (List.mem_of_getElem? hri)
          have iv1 := iv.same (same_upd (o := .tup [.int (i : Int), .ref q]) hTt)
          refine ⟨Tt, _, rfl, SqT.of upd_same, rfl, _, _, rfl, _, _, rfl, rfl, ?_⟩
          generalize upd G Tt (.tup [.int (i : Int), .ref q]) = G1 at iv1
          refine ⟨_, rfl, _, rfl, _, _, rfl, rfl, a, ns, 40 + i, rfl, iv1.s.seq hS, hlen, by omega, fun r1 G2 _ _ s2 => ?_⟩
          have iv2 := iv1.same s2
          obtain ⟨wh, hwh, hw2⟩ := mod_ix (r := r1) (n := 2) (by decide)
          have hw : wh < 2 := by omega
          refine ⟨_, _, rfl, rfl, (by show (0 : Int) < 2; decide), ?_⟩
          show gName 10 (V.int (r1 % 2)) _ _ _
          rw [← hwh]
          have eb2 := iv2.k _ _ bq.b bq.bo
          obtain ⟨dx, ex⟩ := (iv2.bx bq hw).ob
          have tupO : ∀ {b o}, H9 b = some o → (∀ ts, o ≠ .lst ts) → G2 b = some o := fun e h => iv2.k _ _ e (bq.tup e h)
          obtain ⟨fq, e1, e2⟩ := hrB.ex
          have e1' := tupO e1 fun ts z => by cases z
          have e2' := tupO e2 fun ts z => by cases z
          have tkl : (tk wh).length ≤ 31 := by rw [htk wh hw, List.length_take]; have := hdl wh hw; omega
          refine ⟨_, rfl, _, rfl, pb, _, _, .ref (x wh), rfl, rfl, SqL.of eb2, at2 (fun j => V.ref (x j)) hw, x wh, dx, _, rfl, ex, flds_no _ _ (by decide +kernel) (by decide +kernel), _, rfl, q, _, _, _, rfl, rfl, SqT.of e1', atI_nat (j := 0) rfl, _, rfl, q, _, _, _, rfl, rfl, SqT.of e1', atI_nat (j := 1) rfl, ?_⟩
          refine ⟨x wh, p wh, fq, m wh, tk wh, r, rfl, iv2.bx bq hw, iv2.q wh hw, by rw [htk wh hw]; exact (hod wh hw).take _, by rw [htk wh hw, List.length_take]; omega, by omega, e2', hVr, fun G3 ins oI pI hI sI => ?_⟩
          refine ⟨_, rfl, iteF ?_⟩
          have iv3 := iv2.offer bq hw sI hI
          have dl := hdl wh hw
          have hr3 : RwA G3 q r := ⟨fq, sI _ _ e1' (fun z => by obtain ⟨xs, f⟩ := bq.lp wh hw; rw [← z, e1] at f; cases f), sI _ _ e2' (fun z => by obtain ⟨xs, f⟩ := bq.lp wh hw; rw [← z, e2] at f; cases f)⟩
          refine ⟨_, rfl, _, rfl, pd, _, _, .ref (d wh), rfl, rfl, SqL.of iv3.dd, at2 (fun j => V.ref (d j)) hw, _, rfl, (by show 1 ≤ sizeLine; omega), fun l1 hl1 => ?_⟩
          have s4 := same_upd (o := .lst [.ref q]) hl1
          have hL1 : RwL (upd G3 l1 (.lst [.ref q])) l1 [r] := ⟨[q], upd_same, .cons (hr3.same s4) .nil⟩
          generalize upd G3 l1 (.lst [.ref q]) = G4 at s4 hL1
          have iv4 := iv3.same s4
          obtain ⟨us, eU, pU⟩ := (iv4.e wh hw).ex
          obtain ⟨vs', eV, pV⟩ := hL1.ex
          have ul := Paired.len pU
          have vl := Paired.len pV
          refine ⟨d wh, l1, _, _, rfl, rfl, eU, eV, (by rw [List.length_map, List.length_map, ul, vl]; show _ + 1 ≤ _; omega), fun l2 hl2 => ?_⟩
          have s5 := same_upd (o := .lst (us.map V.ref ++ vs'.map V.ref)) hl2
          have hL2 : RwL (upd G4 l2 (.lst (us.map V.ref ++ vs'.map V.ref))) l2 (due wh ++ [r]) := ⟨us ++ vs', by rw [upd_same, List.map_append], Paired.imp2 (Paired.cat pU pV) fun _ _ h => h.same s5⟩
          generalize upd G4 l2 (.lst (us.map V.ref ++ vs'.map V.ref)) = G5 at s5 hL2
          have iv5 := iv4.same s5
          refine ⟨l2, due wh ++ [r], rfl, hL2, fun y hy => ?_, by rw [List.length_append]; show _ + 1 ≤ _; omega, fun dn G6 ms s6' hdn hMs pMs oMs => ?_⟩
          · rcases List.mem_append.mp hy with z | z
            · exact (hod wh hw).s y z
            · rw [List.mem_singleton.mp z]; exact hVr
          have iv6 := iv5.same s6'
          have on6 := iv5.fresh hdn
          refine ⟨_, rfl, _, rfl, pd, _, _, wh, rfl, rfl, iv6.dd, ixN_of (by show wh < 2; exact hw), ?_⟩
          have iv7 := iv6.setd bq hw hMs on6
          generalize upd G6 pd (.lst ([.ref (d 0), .ref (d 1)].set wh (.ref dn))) = G7 at iv7
          have pms : ms.Perm (r :: due wh) := pMs.trans (List.perm_append_singleton r (due wh))
          have tk7 : ∀ j, j < 2 → put tk wh (ins.take (m wh)) j = (put due wh ms j).take (m j) := fun j hj => by
            by_cases e : j = wh
            · subst e
              rw [put_same, put_same]
              exact best_step (hod j hj) oMs pms oI (by rw [← htk j hj]; exact pI) hVr
            · rw [put_ne e, put_ne e]; exact htk j hj
          have od7 : ∀ j, j < 2 → OR.Ord (put due wh ms j) := fun j hj => by
            by_cases e : j = wh
            · subst e; rw [put_same]; exact oMs
            · rw [put_ne e]; exact hod j hj
          have dl7 : ∀ j, j < 2 → (put due wh ms j).length ≤ i + 1 := fun j hj => by
            by_cases e : j = wh
            · subst e; rw [put_same, pms.length_eq]; show _ + 1 ≤ _; omega
            · rw [put_ne e]; have := hdl j hj; omega
          generalize put tk wh (ins.take (m wh)) = tk' at iv7 tk7
          generalize put due wh ms = due' at iv7 tk7 od7 dl7
          generalize put d wh dn = d' at iv7
          refine ⟨(by show 2 ≤ sizeLine; omega), fun q1 hq1 => ⟨(by show 2 ≤ sizeLine; omega), fun q2 hq2 => ⟨(by show 2 ≤ sizeLine; omega), fun q3 hq3 => ?_⟩⟩⟩
          have s8' := Same.upd (o := .lst [.ref q1, .ref q2]) (Same.upd (o := .lst [.int 1, .int 0]) (same_upd (o := .lst [.int 0, .int 1]) hq1) hq2) hq3
          have f1 := same_upd (o := .lst [.ref q1, .ref q2]) hq3 _ _ (same_upd (o := .lst [.int 1, .int 0]) hq2 _ _ (upd_same (H := G7) (a := q1) (o := .lst [.int 0, .int 1])))
          have f2 := same_upd (o := .lst [.ref q1, .ref q2]) hq3 _ _ (upd_same (H := upd G7 q1 (.lst [.int 0, .int 1])) (a := q2) (o := .lst [.int 1, .int 0]))
          have f3 : (upd (upd (upd G7 q1 (.lst [.int 0, .int 1])) q2 (.lst [.int 1, .int 0])) q3 (.lst [.ref q1, .ref q2])) q3 = some (.lst [.ref q1, .ref q2]) := upd_same
          change (upd (upd (upd G7 q1 (.lst [.int 0, .int 1])) q2 (.lst [.int 1, .int 0])) q3 (.lst [.ref q1, .ref q2])) q1 = _ at f1
          change (upd (upd (upd G7 q1 (.lst [.int 0, .int 1])) q2 (.lst [.int 1, .int 0])) q3 (.lst [.ref q1, .ref q2])) q2 = _ at f2
          generalize upd (upd (upd G7 q1 (.lst [.int 0, .int 1])) q2 (.lst [.int 1, .int 0])) q3 (.lst [.ref q1, .ref q2]) = G8 at s8' f1 f2 f3
          have iv8 := iv7.same s8'
          refine ⟨_, rfl, _, rfl, _, _, rfl, rfl, a, ns, 40 + i, rfl, iv8.s.seq hS, hlen, by omega, fun r2 G9 _ _ s9' => ?_⟩
          have iv9 := iv8.same s9'
          refine ⟨_, _, rfl, rfl, ⟨by decide, by decide⟩, _, _, rfl, rfl, (by show (0 : Int) < 2; decide), ?_⟩
          refine ixPickP Or2 (s9' _ _ f3) (by show 0 < 2; decide) rfl (List.forall_mem_cons.mpr ⟨⟨q1, 0, 1, rfl, s9' _ _ f1, by decide, by decide⟩, List.forall_mem_cons.mpr ⟨⟨q2, 1, 0, rfl, s9' _ _ f2, by decide, by decide⟩, fun v hv => nomatch hv⟩⟩) ?_
          rintro v ⟨qo, i1, i2, rfl, eqo, hi1, hi2⟩
          refine ⟨_, rfl, qo, rfl, ⟨_, SqL.of eqo⟩, ?_⟩
          have nqo : qo ≠ ph := fun z => by
            have e : hs = [.int (i1 : Int), .int (i2 : Int)] := by
              have q := iv9.hh
              rw [← z, eqo] at q
              injection q with q
              injection q with q
              exact q.symm
            obtain ⟨t, u, w, l, e', _⟩ := iv9.hd (.int (i1 : Int)) (by rw [e]; exact List.mem_cons_self)
            cases e'
          refine comp_itl (xs := [.int (i1 : Int), .int (i2 : Int)]) (fun c ys G' => ∃ hs', Iv H H9 G' pd ph p d' tk' due' hs' ∧ hs'.length = hs.length + c ∧ G' qo = some (.lst [.int (i1 : Int), .int (i2 : Int)]) ∧ ys = (List.replicate c true).map V.bl) (by show 2 < sizeLine; omega) (fun c ys G' q => by obtain ⟨_, _, _, q, _⟩ := q; exact SqL.of q) ⟨hs, iv9, rfl, eqo, rfl⟩ ?_ ?_
          · rintro c v ys G' N hv ⟨hs', ivc, hcl, eqc, rfl⟩ hN
            obtain ⟨j, rfl, hj⟩ : ∃ j : Nat, v = .int (j : Int) ∧ j < 2 := by
              match c, hv with
              | 0, hv => exact ⟨i1, (Option.some.inj hv).symm, hi1⟩
              | 1, hv => exact ⟨i2, (Option.some.inj hv).symm, hi2⟩
            have hc2 : c < 2 := (List.getElem?_eq_some_iff.mp hv).1
            refine g1 ?_
            refine ⟨_, rfl, _, rfl, pb, _, _, .ref (x j), rfl, rfl, SqL.of (ivc.k _ _ bq.b bq.bo), at2 (fun j => V.ref (x j)) hj, _, rfl, _, rfl, pd, _, _, .ref (d' j), rfl, rfl, SqL.of ivc.dd, at2 (fun j => V.ref (d' j)) hj, _, rfl, _, rfl, pm, _, _, .int (m j : Int), rfl, rfl, SqL.of (ivc.k _ _ bq.em bq.mo), at2 (fun j => V.int (m j : Int)) hj, _, rfl, tnil_ ?_⟩
            refine ivc.tr bq hj (tk7 j hj) (od7 j hj) (by have := dl7 j hj; omega) (by omega) fun G'' hs'' iv'' l'' sb => hN _ _ ⟨hs'', iv'', by rw [l'', hcl]; omega, ?_, by rw [List.replicate_succ', List.map_append]; rfl⟩
            exact sb _ _ eqc nqo
          · rintro ys G' ⟨hs', ivc, hcl, eqc, rfl⟩ _ u hu
            refine ⟨u, List.replicate 2 true, rfl, SqL.of upd_same, ?_⟩
            rw [all_rep]
            refine ⟨_, rfl, iteF ⟨d', tk', due', hs', _, _, _, _, rfl, ivc.same (same_upd hu), tk7, od7, dl7, ?_⟩⟩
            have : hs'.length = hs.length + 2 := hcl
            omega
      · rintro σ G ⟨d, tk, due, hs, o5, o9, o10, o11, rfl, iv, htk, hod, hdl, hhl⟩
        have hpl : (ps.map V.ref).length ≤ 31 := by rw [List.length_map]; omega
        refine ⟨(by show 2 ≤ sizeLine; omega), fun t2 ht2 => ⟨t2, rfl, ⟨_, SqT.of upd_same⟩, ?_⟩⟩
        have iv1 := iv.same (same_upd (o := .tup [.int 0, .int 1]) ht2)
        have et2 : (upd G t2 (.tup [.int 0, .int 1])) t2 = some (.tup [.int 0, .int 1]) := upd_same
        generalize upd G t2 (.tup [.int 0, .int 1]) = G1 at iv1 et2
        refine comp_itt (xs := [.int 0, .int 1]) (fun c ys G' => ∃ hs', Iv H H9 G' pd ph p d tk due hs' ∧ hs'.length = hs.length + c ∧ G' t2 = some (.tup [.int 0, .int 1]) ∧ ys = (List.replicate c true).map V.bl) (by show 2 < sizeLine; omega) (fun c ys G' q => by obtain ⟨_, _, _, q, _⟩ := q; exact SqT.of q) ⟨hs, iv1, rfl, et2, rfl⟩ ?_ ?_
        · rintro c v ys G' N hv ⟨hs', ivc, hcl, eqc, rfl⟩ hN
          obtain ⟨j, rfl, hj⟩ : ∃ j : Nat, v = .int (j : Int) ∧ j < 2 := by
            match c, hv with
            | 0, hv => exact ⟨0, (Option.some.inj hv).symm, by decide⟩
            | 1, hv => exact ⟨1, (Option.some.inj hv).symm, by decide⟩
          have hc2 : c < 2 := (List.getElem?_eq_some_iff.mp hv).1
          refine g1 ?_
          refine ⟨_, rfl, _, rfl, pb, _, _, .ref (x j), rfl, rfl, SqL.of (ivc.k _ _ bq.b bq.bo), at2 (fun j => V.ref (x j)) hj, _, rfl, _, rfl, pd, _, _, .ref (d j), rfl, rfl, SqL.of ivc.dd, at2 (fun j => V.ref (d j)) hj, _, rfl, _, rfl, pm, _, _, .int (m j : Int), rfl, rfl, SqL.of (ivc.k _ _ bq.em bq.mo), at2 (fun j => V.int (m j : Int)) hj, _, rfl, tnil_ ?_⟩
          refine ivc.tr bq hj (htk j hj) (hod j hj) (by have := hdl j hj; omega) (by omega) fun G'' hs'' iv'' l'' sb => hN _ _ ⟨hs'', iv'', by rw [l'', hcl]; omega, ?_, by rw [List.replicate_succ', List.map_append]; rfl⟩
          exact sb _ _ eqc (fun z => by rw [z, ivc.hh] at eqc; cases eqc)
        · rintro ys G' ⟨hs', ivc, hcl, eqc, rfl⟩ _ u hu
          refine ⟨u, List.replicate 2 true, rfl, SqL.of upd_same, ?_⟩
          rw [all_rep]
          refine ⟨_, rfl, iteF ?_⟩
          have iv2 := ivc.same (same_upd (o := .lst ((List.replicate 2 true).map V.bl)) hu)
          have hl2 : hs'.length ≤ 100 := by have : hs'.length = hs.length + 2 := hcl; omega
          generalize upd G' u (.lst ((List.replicate 2 true).map V.bl)) = G2 at iv2
          refine ⟨_, rfl, (by show 1 ≤ sizeLine; omega), fun u1 hu1 => ⟨_, _, rfl, rfl, ⟨by decide, by decide, by decide⟩, _, _, rfl, rfl, (by show 1 ≤ sizeLine; omega), fun u2 hu2 => ⟨(by show 8 ≤ sizeLine; omega), fun u3 hu3 => ⟨_, rfl, _, _, rfl, rfl, (by show (0 : Int) < 8; decide), ?_⟩⟩⟩⟩
          have s3' := Same.upd (o := .lst [V.non, .bl true, .str (Str.ofString "10"), .int (-1), .ref u1, .int (0 - 10 ^ (9 : Int).toNat), .bl false, .ref u2]) (Same.upd (o := .tup [.int 2]) (same_upd (o := .lst [.int 3]) hu1) hu2) hu3
          have k1 := same_upd (o := .lst [V.non, .bl true, .str (Str.ofString "10"), .int (-1), .ref u1, .int (0 - 10 ^ (9 : Int).toNat), .bl false, .ref u2]) hu3 _ _ (same_upd (o := .tup [.int 2]) hu2 _ _ (upd_same (H := G2) (a := u1) (o := .lst [.int 3])))
          have k2 := same_upd (o := .lst [V.non, .bl true, .str (Str.ofString "10"), .int (-1), .ref u1, .int (0 - 10 ^ (9 : Int).toNat), .bl false, .ref u2]) hu3 _ _ (upd_same (H := upd G2 u1 (.lst [.int 3])) (a := u2) (o := .tup [.int 2]))
          refine ixPickP (Od K) upd_same (by show 0 < 8; decide) rfl (odd8 k1 k2 (by decide)) ?_
          rintro od ⟨kod, bod⟩
          have iv3 := iv2.same s3'
          generalize upd (upd (upd G2 u1 (.lst [.int 3])) u2 (.tup [.int 2])) u3 (.lst [V.non, .bl true, .str (Str.ofString "10"), .int (-1), .ref u1, .int (0 - 10 ^ (9 : Int).toNat), .bl false, .ref u2]) = G3 at iv3 kod
          refine ⟨_, rfl, od, rfl, kod, bod, fun G4 s4' => ⟨_, rfl, iteT ?_⟩⟩
          have iv4 := iv3.same s4'
          refine ⟨_, rfl, ph, rfl, ⟨_, SqL.of iv4.hh⟩, ?_⟩
          refine comp_itl (xs := hs') (fun c ys G' => G' = G4 ∧ ys = []) (by omega) (fun c ys G' q => by rw [q.1]; exact SqL.of iv4.hh) ⟨rfl, rfl⟩ ?_ ?_
          · rintro c v ys G' N hv ⟨rfl, rfl⟩ hN
            obtain ⟨t, u', w', l, rfl, hA, _, _⟩ := iv4.hd v (List.mem_of_getElem? hv)
            refine ⟨t, _, rfl, SqT.of hA.t, rfl, _, _, rfl, _, _, rfl, rfl, ?_⟩
            refine ⟨_, rfl, _, rfl, .list (l.map dRw), .list (l.map dRw), hA.u.dt, hA.v.dt, lay_rw hA.o, lay_rw hA.o, dep_rw _ _, _, rfl, ?_⟩
            rw [eqv_same (lay_rw hA.o)]
            exact iteF (hN _ _ ⟨rfl, rfl⟩)
          · rintro ys G' ⟨rfl, rfl⟩ _ u' hu'
            refine ⟨Nat.zero_le _, fun u'' hu'' => ?_⟩
            refine ⟨.list [], .list [], .lst (SqL.of (same_upd hu'' _ _ upd_same)) .nil, .lst (SqL.of upd_same) .nil, rfl, rfl, by decide, ?_⟩
            exact kk _
end
end K21
set_option Elab.async false
set_option linter.all false
set_option maxRecDepth 100000
set_option maxHeartbeats 4000000
namespace K21
open PySem L2 PyProof.Rows PySem.Spec Gn
section
variable {P : Program} {w : World} {K : PySem.W.Frag} {mg : Str → Option Value} {base h : Heap}
theorem txt_mk (X : K.In h) (G : h.Ns mainGlobals mg)
    (n0 : PySem.W.nsIn K mainGlobals "isinstance" = some none) (n1 : PySem.W.nsIn K mainGlobals "int" = some none) (n2 : PySem.W.nsIn K mainGlobals "bool" = some none) (n3 : PySem.W.nsIn K mainGlobals "str" = some none) (n4 : PySem.W.nsIn K mainGlobals "list" = some none) (n5 : PySem.W.nsIn K mainGlobals "tuple" = some none) (n6 : PySem.W.nsIn K mainGlobals "len" = some none) (n7 : PySem.W.nsIn K mainGlobals "all" = some none) (n8 : PySem.W.nsIn K mainGlobals "range" = some none) (n9 : PySem.W.nsIn K mainGlobals "enumerate" = some none) (n10 : PySem.W.nsIn K mainGlobals "ValueError" = some none) : Txt mg where
  isi := PySem.W.mg_none_of X G n0
  int := PySem.W.mg_none_of X G n1
  bool := PySem.W.mg_none_of X G n2
  str := PySem.W.mg_none_of X G n3
  list := PySem.W.mg_none_of X G n4
  tuple := PySem.W.mg_none_of X G n5
  len := PySem.W.mg_none_of X G n6
  all := PySem.W.mg_none_of X G n7
  range := PySem.W.mg_none_of X G n8
  enum := PySem.W.mg_none_of X G n9
  val := PySem.W.mg_none_of X G n10
theorem cl_mk {CH CN CT : Addr} (X : K.In h) (G : h.Ns mainGlobals mg) (a : PySem.W.nsIn K mainGlobals "HallError" = some (some (.ref CH))) (b : PySem.W.nsIn K mainGlobals "BadNumber" = some (some (.ref CN)))
    (c : PySem.W.nsIn K mainGlobals "BadText" = some (some (.ref CT)))
    {cd : ClassData} (cl : PySem.W.clsIn K CN = some cd) (ga : PySem.W.findIn K (.ref CN) "__getattribute__" = some (some (.builtin "BaseException.__getattribute__"))) (hk : PySem.W.findIn K (.ref CN) "__getattr__" = some none)
    (ha : PySem.W.findIn K (.ref CN) "__class__" = some (some (.builtin "object.__class__"))) (hn : PySem.W.specialIn K (.builtin "object.__class__") "__get__" = some (some (.builtin "getset_descriptor.__get__"))) (ht : PySem.W.takesIn K (.builtin "object.__class__") = some true)
    (hm : PySem.W.mroIn K CN (.type "object") = some true) (hb : PySem.W.mroIn K CN (.type "BaseException") = some true)
    (n : PySem.W.kitOne K (.ref CN) (.ref CN) = some true) (t : PySem.W.kitOne K (.ref CN) (.ref CT) = some false)
    (v : PySem.W.kitOne K (.ref CN) (.type "ValueError") = some true) (e : PySem.W.exmOne K (.ref CN) (.ref CH) = some true)
    (q : PySem.W.excIn K CN [.type "ValueError", .type "Exception", .type "BaseException", .type "object"] "ValueError.__new__" = true) :
    ∃ CH CN CT, Cl mg CH CN CT ∧ CF K CH CN CT ∧ Ex K mg "BadNumber" CN :=
  ⟨CH, CN, CT, ⟨PySem.W.mg_of X G a, PySem.W.mg_of X G b, PySem.W.mg_of X G c⟩, ⟨⟨by rw [cl]; rfl, ga, hk, ha, hn, ht, hm, hb⟩, n, t, v, e⟩, PySem.W.mg_of X G b, q⟩
noncomputable def Bst (K : PySem.W.Frag) (mg : Str → Option Value) : Prop := ∃ (C f1 f2 f3 : Addr) (d1 d2 d3 : FuncData) (tk : Tok), TxtC K mg C ∧ FnD K "__init__" "Best.__init__" bInit f1 d1 #[.int 10 tk] ∧ L2.Mk K C f1 ∧ Fun K "offer" "Best.offer" bOffer f2 d2 ∧ Meth K C "offer" f2 ∧ Fun K "told" "Best.told" bTold f3 d3 ∧ Meth K C "told" f3
theorem bst_mk {C f1 f2 f3 T : Addr} {od1 an1 od2 an2 od3 an3 td : Option Addr} {sl1 sl2 sl3 tsl : Array (Option Value)} {oc1 kV1 dc1 pm1 cd1 ct1 oc2 kV2 dc2 pm2 cd2 ct2 oc3 kV3 dc3 pm3 cd3 ct3 tc : Value} {items : Array Value} {tn : Nat}
    (X : K.In h) (G : h.Ns mainGlobals mg) (aC : PySem.W.nsIn K mainGlobals "Best" = some (some (.ref C)))
    (a1 : PySem.W.findIn K (.ref C) "__init__" = some (some (.ref f1))) (i1 : PySem.W.isFn K (.ref f1) = true) (l1 : K.lookup f1 = some ⟨oc1, od1, .func (PySem.W.fnOf "__init__" "Best.__init__" (defArgs bInit) (defBody bInit) (defScope bInit) (.ref T) kV1 dc1 pm1 an1 cd1 ct1), sl1⟩) (c1 : PySem.W.codeIn K cd1 "Best.__init__" = true) (k1 : PySem.W.keepIn K (.ref f1) = true)
    (a2 : PySem.W.findIn K (.ref C) "offer" = some (some (.ref f2))) (i2 : PySem.W.isFn K (.ref f2) = true) (l2 : K.lookup f2 = some ⟨oc2, od2, .func (PySem.W.fnOf "offer" "Best.offer" (defArgs bOffer) (defBody bOffer) (defScope bOffer) .none kV2 dc2 pm2 an2 cd2 ct2), sl2⟩) (c2 : PySem.W.codeIn K cd2 "Best.offer" = true) (k2 : PySem.W.keepIn K (.ref f2) = true)
    (a3 : PySem.W.findIn K (.ref C) "told" = some (some (.ref f3))) (i3 : PySem.W.isFn K (.ref f3) = true) (l3 : K.lookup f3 = some ⟨oc3, od3, .func (PySem.W.fnOf "told" "Best.told" (defArgs bTold) (defBody bTold) (defScope bTold) .none kV3 dc3 pm3 an3 cd3 ct3), sl3⟩) (c3 : PySem.W.codeIn K cd3 "Best.told" = true) (k3 : PySem.W.keepIn K (.ref f3) = true)
    (t : K.lookup T = some ⟨tc, td, .seq items tn, tsl⟩) (e : ∃ tk, items = #[.int 10 tk])
    (pg : PySem.W.plainGet K C Str.empty = true) (hd : PySem.W.hasDictIn K C = true) (po : PySem.W.plainOver K C = true) (sa : PySem.W.findIn K (.ref C) "__setattr__" = some (some (.builtin "object.__setattr__"))) (mk : PySem.W.makesIn K C = true) (kc : PySem.W.keepIn K (.ref C) = true)
    (nM : PySem.W.findIn K (.ref C) "most" = some none) (nR : PySem.W.findIn K (.ref C) "rows" = some none) : Bst K mg := by
  obtain ⟨tk, rfl⟩ := e
  exact ⟨C, f1, f2, f3, _, _, _, tk, ⟨⟨pg, hd, po, sa⟩, nM, nR, PySem.W.mg_of X G aC⟩, ⟨⟨oc1, od1, kV1, dc1, pm1, an1, cd1, ct1, sl1, T, _, tn, rfl, l1, c1, t, rfl⟩⟩, ⟨mk, a1, i1, kc⟩, fun_mk l2 c2 k2, ⟨a2, i2, k2⟩, fun_mk l3 c3 k3, ⟨a3, i3, k3⟩⟩
theorem law_all (T : Txt mg) (C : ∃ CH CN CT, Cl mg CH CN CT ∧ CF K CH CN CT ∧ Ex K mg "BadNumber" CN) (W : Bst K mg)
    (d1 : ∃ f fd, Df K mg "is_whole" sWhole f fd)
    (d2 : ∃ f fd, Df K mg "is_less" sLess f fd)
    (d3 : ∃ f fd, Df K mg "stands_ahead" sAhd f fd)
    (d4 : ∃ f fd, Df K mg "put_in" sPut f fd)
    (e1 : ∃ f fd, Df K mg "_law_mixed" lMixed f fd)
    (e2 : ∃ f fd, Df K mg "_law_number" lNumber f fd)
    (e3 : ∃ f fd, Df K mg "_law_menu" lMenu f fd)
    (e4 : ∃ f fd, Df K mg "_law_worth" lWorth f fd)
    (e5 : ∃ f fd, Df K mg "_law_rows" lRows f fd)
    (e6 : ∃ f fd, Df K mg "_law_is_ahead" lAhd f fd)
    (e7 : ∃ f fd, Df K mg "_law_in_row" lInRow f fd)
    (e8 : ∃ f fd, Df K mg "_law_refused" lRef f fd)
    (e9 : ∃ f fd, Df K mg "_law_told_right" lTold f fd)
    (g1 : ∃ f fd, DfD K mg "need_number" sNNum f fd #[.none])
    {f : Addr} {fd : FuncData} (D : Df K mg "law" lLaw f fd) : FnOk P w K mg base CX0 6 f fd ["_law_script"] (spLaw K) := by
  obtain ⟨CH, CN, CT, C, F, XN⟩ := C
  obtain ⟨CB, f1, f2, f3, j1, j2, j3, tk, TC, FB, Mk, FO, mO, FT, mT⟩ := W
  obtain ⟨_, _, Xd1⟩ := d1
  obtain ⟨_, _, Xd2⟩ := d2
  obtain ⟨_, _, Xd3⟩ := d3
  obtain ⟨_, _, Xd4⟩ := d4
  obtain ⟨_, _, Xe1⟩ := e1
  obtain ⟨_, _, Xe2⟩ := e2
  obtain ⟨_, _, Xe3⟩ := e3
  obtain ⟨_, _, Xe4⟩ := e4
  obtain ⟨_, _, Xe5⟩ := e5
  obtain ⟨_, _, Xe6⟩ := e6
  obtain ⟨_, _, Xe7⟩ := e7
  obtain ⟨_, _, Xe8⟩ := e8
  obtain ⟨_, _, Xe9⟩ := e9
  obtain ⟨_, _, Xg1⟩ := g1
  exact ok_law D T C F XN TC FB Mk FO mO FT mT Xd1 Xd2 Xd3 Xd4 Xe1 Xe2 Xe3 Xe4 Xe5 Xe6 Xe7 Xe8 Xe9 Xg1
theorem law_mk {f fa : Addr} {oc kV doc pm cd ct : Value} {od an : Option Addr} {sl : Array (Option Value)} (X : K.In h) (G : h.Ns mainGlobals mg) (hfa : mg "law" = some (.ref fa)) (a : PySem.W.nsIn K mainGlobals "law" = some (some (.ref f)))
    (l : K.lookup f = some ⟨oc, od, .func (PySem.W.fnOf "law" "law" (defArgs lLaw) (defBody lLaw) (defScope lLaw) .none kV doc pm an cd ct), sl⟩) (c : PySem.W.codeIn K cd "law" = true) (k : PySem.W.keepIn K (.ref f) = true)
    (ok : ∀ (fd : FuncData) (base : Heap), Df K mg "law" lLaw f fd → FnOk P w K mg base CX0 6 f fd ["_law_script"] (spLaw K)) :
    ∃ fd : FuncData, (∀ (s : Shared) (v : Value), BindsTo s fd ⟨[v], []⟩ [("_law_script", v)]) ∧ ∀ base : Heap, K.In base → base.Ns mainGlobals mg → FnOk P w K mg base CX0 6 fa fd ["_law_script"] (spLaw K) := by
  have e := hfa.symm.trans (PySem.W.mg_of X G a)
  cases e
  exact ⟨PySem.W.fnOf "law" "law" (defArgs lLaw) (defBody lLaw) (defScope lLaw) .none kV doc pm an cd ct, fun s v => .of_eq rfl, fun base _ _ => ok _ base ⟨fun_mk l c k, PySem.W.mg_of X G a⟩⟩
end
theorem walk {l : PySem.W.OpenLaw} {q : Program} {loose : List Str} {XP : (Str → Option Value) → Heap → Prop} {YP : World → Heap → Prop} {d : DefRec} {K : Params → PySem.W.Frag} (hn : l.most = some 63) (hdf : d.params.defaults = [])
    (hY : ∀ (w : World) (h : Heap), YP w h → (K w.params).In h)
    (F : ∀ (w : World) (mg : Str → Option Value) (fa : Addr) (h : Heap), (K w.params).In h → h.Ns mainGlobals mg → mg d.name = some (.ref fa) →
      ∃ fd : FuncData, (∀ (s : Shared) (u : Value), BindsTo s fd ⟨[u], []⟩ [("_law_script", u)]) ∧ ∀ base : Heap, (K w.params).In base → base.Ns mainGlobals mg → FnOk l.prog w (K w.params) mg base CX0 6 fa fd ["_law_script"] (spLaw (K w.params))) :
    PySem.W.WalkO q loose XP YP l.row.toRowW d [] (fun f vs => PySem.call f vs) :=
  L2.walk_of (n := 63) (k := 6) (x := "_law_script") (CX := fun _ => CX0) (sp := fun w => spLaw (K w.params)) hn (by decide) hdf ⟨rfl, by decide, by decide⟩ hY F (fun _ _ a ns hl _ hS => ⟨a, ns, rfl, hS, hl, fun _ => rfl⟩) fun _ _ _ _ _ z => z
end K21
set_option Elab.async false
set_option linter.all false
open PySem PySem.W PyProof.Rows
set_option maxRecDepth 100000 in
set_option maxHeartbeats 0 in
theorem PySem.Challenge.cw_findhall_k21_best_of_all_holds : PySem.Challenge.rw_findhall_k21_best_of_all.Holds := by
  w_on; o_law; k_head; (case hw => w_witness2)
  k_fill
  refine K21.walk (l := PySem.Challenge.rw_findhall_k21_best_of_all) rfl rfl (fun w h Y => PySem.W.kIn_of Y) ?F
  case F =>
    intro w mg fa h KX G hmg
    have T : K21.Txt mg := by
      refine' K21.txt_mk KX G ?n0 ?n1 ?n2 ?n3 ?n4 ?n5 ?n6 ?n7 ?n8 ?n9 ?n10
      (case n0 => k_is)
      (case n1 => k_is)
      (case n2 => k_is)
      (case n3 => k_is)
      (case n4 => k_is)
      (case n5 => k_is)
      (case n6 => k_is)
      (case n7 => k_is)
      (case n8 => k_is)
      (case n9 => k_is)
      (case n10 => k_is)
    have d1 : ∃ f fd, Gn.Df (L2.KOf KX) mg "is_whole" K21.sWhole f fd := by
      dsimp only [L2.KOf]
      refine' Gn.df_mk KX G ?a ?l ?c ?k
      (case a => k_is); (case l => k_is); (case c => k_is); (case k => k_is)
    have d2 : ∃ f fd, Gn.Df (L2.KOf KX) mg "is_less" K21.sLess f fd := by
      dsimp only [L2.KOf]
      refine' Gn.df_mk KX G ?a ?l ?c ?k
      (case a => k_is); (case l => k_is); (case c => k_is); (case k => k_is)
    have d3 : ∃ f fd, Gn.Df (L2.KOf KX) mg "stands_ahead" K21.sAhd f fd := by
      dsimp only [L2.KOf]
      refine' Gn.df_mk KX G ?a ?l ?c ?k
      (case a => k_is); (case l => k_is); (case c => k_is); (case k => k_is)
    have d4 : ∃ f fd, Gn.Df (L2.KOf KX) mg "put_in" K21.sPut f fd := by
      dsimp only [L2.KOf]
      refine' Gn.df_mk KX G ?a ?l ?c ?k
      (case a => k_is); (case l => k_is); (case c => k_is); (case k => k_is)
    have e1 : ∃ f fd, Gn.Df (L2.KOf KX) mg "_law_mixed" K21.lMixed f fd := by
      dsimp only [L2.KOf]
      refine' Gn.df_mk KX G ?a ?l ?c ?k
      (case a => k_is); (case l => k_is); (case c => k_is); (case k => k_is)
    have e2 : ∃ f fd, Gn.Df (L2.KOf KX) mg "_law_number" K21.lNumber f fd := by
      dsimp only [L2.KOf]
      refine' Gn.df_mk KX G ?a ?l ?c ?k
      (case a => k_is); (case l => k_is); (case c => k_is); (case k => k_is)
    have e3 : ∃ f fd, Gn.Df (L2.KOf KX) mg "_law_menu" K21.lMenu f fd := by
      dsimp only [L2.KOf]
      refine' Gn.df_mk KX G ?a ?l ?c ?k
      (case a => k_is); (case l => k_is); (case c => k_is); (case k => k_is)
    have e4 : ∃ f fd, Gn.Df (L2.KOf KX) mg "_law_worth" K21.lWorth f fd := by
      dsimp only [L2.KOf]
      refine' Gn.df_mk KX G ?a ?l ?c ?k
      (case a => k_is); (case l => k_is); (case c => k_is); (case k => k_is)
    have e5 : ∃ f fd, Gn.Df (L2.KOf KX) mg "_law_rows" K21.lRows f fd := by
      dsimp only [L2.KOf]
      refine' Gn.df_mk KX G ?a ?l ?c ?k
      (case a => k_is); (case l => k_is); (case c => k_is); (case k => k_is)
    have e6 : ∃ f fd, Gn.Df (L2.KOf KX) mg "_law_is_ahead" K21.lAhd f fd := by
      dsimp only [L2.KOf]
      refine' Gn.df_mk KX G ?a ?l ?c ?k
      (case a => k_is); (case l => k_is); (case c => k_is); (case k => k_is)
    have e7 : ∃ f fd, Gn.Df (L2.KOf KX) mg "_law_in_row" K21.lInRow f fd := by
      dsimp only [L2.KOf]
      refine' Gn.df_mk KX G ?a ?l ?c ?k
      (case a => k_is); (case l => k_is); (case c => k_is); (case k => k_is)
    have e8 : ∃ f fd, Gn.Df (L2.KOf KX) mg "_law_refused" K21.lRef f fd := by
      dsimp only [L2.KOf]
      refine' Gn.df_mk KX G ?a ?l ?c ?k
      (case a => k_is); (case l => k_is); (case c => k_is); (case k => k_is)
    have e9 : ∃ f fd, Gn.Df (L2.KOf KX) mg "_law_told_right" K21.lTold f fd := by
      dsimp only [L2.KOf]
      refine' Gn.df_mk KX G ?a ?l ?c ?k
      (case a => k_is); (case l => k_is); (case c => k_is); (case k => k_is)
    have g1 : ∃ f fd, Gn.DfD (L2.KOf KX) mg "need_number" K21.sNNum f fd #[.none] := by
      dsimp only [L2.KOf]
      refine' Gn.dfd_mk KX G ?a ?l ?c ?k ?t
      (case a => k_is); (case l => k_is); (case c => k_is); (case k => k_is); (case t => k_is)
    have hC : ∃ CH CN CT, K21.Cl mg CH CN CT ∧ K21.CF (L2.KOf KX) CH CN CT ∧ Gn.Ex (L2.KOf KX) mg "BadNumber" CN := by
      dsimp only [L2.KOf]
      refine' K21.cl_mk KX G ?a ?b ?c ?s1 ?s2 ?s3 ?s4 ?s5 ?s6 ?s7 ?s8 ?k1 ?k2 ?k3 ?x1 ?x2
      (case a => k_is)
      (case b => k_is)
      (case c => k_is)
      (case s1 => k_is)
      (case s2 => k_is)
      (case s3 => k_is)
      (case s4 => k_is)
      (case s5 => k_is)
      (case s6 => k_is)
      (case s7 => k_is)
      (case s8 => k_is)
      (case k1 => kit_is)
      (case k2 => kit_is)
      (case k3 => kit_is)
      (case x1 => kts_exm)
      (case x2 => k_exc)
    have W : K21.Bst (L2.KOf KX) mg := by
      dsimp only [L2.KOf]
      refine' K21.bst_mk KX G ?zaC ?za1 ?zi1 ?zl1 ?zc1 ?zk1 ?za2 ?zi2 ?zl2 ?zc2 ?zk2 ?za3 ?zi3 ?zl3 ?zc3 ?zk3 ?zt ?ze ?zpg ?zhd ?zpo ?zsa ?zmk ?zkc ?znM ?znR
      (case zaC => k_is)
      (case za1 => k_is)
      (case zi1 => k_is)
      (case zl1 => k_is)
      (case zc1 => k_is)
      (case zk1 => k_is)
      (case za2 => k_is)
      (case zi2 => k_is)
      (case zl2 => k_is)
      (case zc2 => k_is)
      (case zk2 => k_is)
      (case za3 => k_is)
      (case zi3 => k_is)
      (case zl3 => k_is)
      (case zc3 => k_is)
      (case zk3 => k_is)
      (case zt => k_is)
      (case ze => exact ⟨_, rfl⟩)
      (case zpg => k_is)
      (case zhd => k_is)
      (case zpo => k_is)
      (case zsa => k_is)
      (case zmk => k_is)
      (case zkc => k_is)
      (case znM => k_is)
      (case znR => k_is)
    refine' K21.law_mk KX G hmg ?a ?l ?c ?k fun fd base D => K21.law_all T hC W d1 d2 d3 d4 e1 e2 e3 e4 e5 e6 e7 e8 e9 g1 D
    (case a => k_is); (case l => k_is); (case c => k_is); (case k => k_is)
