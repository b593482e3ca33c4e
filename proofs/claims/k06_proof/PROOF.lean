import PyProof.Rows.All
import Wide.All
import OpenK.AllK
import Wide.FinOn
import PyProof.EqAt
import PyProof.EqKinds
import PyProof.TupleCall
import Lean
import PySem.Challenge.RW_findhall_k06_spoilt_parts
set_option Elab.async false
set_option linter.all false
set_option maxRecDepth 100000
namespace L2
open PySem PySem.Spec PyProof.Rows
noncomputable abbrev Key := Sum Int Str
noncomputable def keyIs : Key → Value → Bool
  | .inl k, v => Value.isInt k v
  | .inr x, v => Value.isStrOf x v
noncomputable def keyH (w : World) : Key → Int
  | .inl k => hashInt k
  | .inr x => hashStr w x
theorem keyIs_shape : ∀ {k : Key} {v : Value}, keyIs k v = true → (∃ i t, k = Sum.inl i ∧ v = Value.int i t) ∨ (∃ x t, k = Sum.inr x ∧ v = Value.str x t)
  | .inl i, v, h => by
    obtain ⟨t, e⟩ := Value.isInt_shape (k := i) (v := v) h
    exact .inl ⟨i, t, rfl, e⟩
  | .inr x, v, h => by
    obtain ⟨t, e⟩ := Value.isStrOf_shape (x := x) (v := v) h
    exact .inr ⟨x, t, rfl, e⟩
theorem key_ll (a b : Int) : decide ((Sum.inl a : Key) = Sum.inl b) = (a == b) := by
  by_cases e : a = b
  · subst e; simp
  · have h : ¬ (Sum.inl a : Key) = Sum.inl b := fun q => e (Sum.inl.inj q)
    rw [decide_eq_false h]
    exact (beq_eq_false_iff_ne.mpr e).symm
theorem key_rr (a b : Str) : decide ((Sum.inr a : Key) = Sum.inr b) = decide (a = b) := by
  by_cases e : a = b
  · subst e; simp
  · have h : ¬ (Sum.inr a : Key) = Sum.inr b := fun q => e (Sum.inr.inj q)
    rw [decide_eq_false h, decide_eq_false e]
theorem key_lr (a : Int) (b : Str) : decide ((Sum.inl a : Key) = Sum.inr b) = false := decide_eq_false (fun q => nomatch q)
theorem key_rl (a : Str) (b : Int) : decide ((Sum.inr a : Key) = Sum.inl b) = false := decide_eq_false (fun q => nomatch q)
noncomputable def mixKind (prog : Program) (w : World) : PySem.KeyKind prog w Key where
  is := keyIs
  hash := keyH w
  inj := fun v a b ha hb => by
    rcases keyIs_shape ha with ⟨i, t, rfl, rfl⟩ | ⟨x, t, rfl, rfl⟩
    · rcases keyIs_shape hb with ⟨j, u, rfl, e⟩ | ⟨y, u, rfl, e⟩
      · injection e with e1 _; rw [e1]
      · exact nomatch e
    · rcases keyIs_shape hb with ⟨j, u, rfl, e⟩ | ⟨y, u, rfl, e⟩
      · exact nomatch e
      · injection e with e1 _; rw [e1]
  byValue := fun k v h => by
    rcases keyIs_shape h with ⟨i, t, rfl, rfl⟩ | ⟨x, t, rfl, rfl⟩ <;> rfl
  pyHash := fun hv h => by
    rcases keyIs_shape hv with ⟨i, t, rfl, rfl⟩ | ⟨x, t, rfl, rfl⟩
    · exact wpAny_pyHash_int h
    · exact wpAny_pyHash_str h
  eqBool := fun hu hv h => by
    rcases keyIs_shape hu with ⟨i, t, rfl, rfl⟩ | ⟨x, t, rfl, rfl⟩
    · rcases keyIs_shape hv with ⟨j, u, rfl, rfl⟩ | ⟨y, u, rfl, rfl⟩
      · rw [key_ll] at h; exact wpAny_eqBool_int h
      · rw [key_lr] at h; exact SeqAt.EqAt.int_str i t y u _ _ _ _ h
    · rcases keyIs_shape hv with ⟨j, u, rfl, rfl⟩ | ⟨y, u, rfl, rfl⟩
      · rw [key_rl] at h; exact SeqAt.EqAt.str_int x t j u _ _ _ _ h
      · rw [key_rr] at h; exact wpAny_eqBool_str h
  «strs» := fun k x t v h => by
    rcases keyIs_shape h with ⟨i, u, rfl, e⟩ | ⟨y, u, rfl, e⟩
    · exact nomatch e
    · injection e with e1 _
      subst e1
      cases v <;> rfl
end L2
namespace L2
open PySem PySem.Spec PyProof.Rows
inductive V where
  | non | bl (b : Bool) | int (i : Int) | str (x : Str) | byt (b : Array UInt8) | flt (b : UInt64) | ref (a : Addr) | ty (n : String)
  deriving DecidableEq
noncomputable def RelV : V → Value → Prop
  | .non, u => u = Value.none
  | .bl b, u => u = Value.bool b
  | .int i, u => ∃ t, u = Value.int i t
  | .str x, u => ∃ t, u = Value.str x t
  | .byt b, u => ∃ t, u = Value.bytes b t
  | .flt b, u => ∃ t, u = Value.float b t
  | .ref a, u => u = Value.ref a
  | .ty n, u => u = Value.type n
noncomputable abbrev Vals : List V → List Value → Prop := Paired RelV
theorem Vals.length {xs : List V} {us : List Value} (r : Vals xs us) : xs.length = us.length := Paired.length r
theorem Vals.get : ∀ {xs : List V} {us : List Value} {i : Nat} {x : V}, Vals xs us → xs[i]? = some x → ∃ u, us[i]? = some u ∧ RelV x u
  | _, _, _, _, .nil, e => by simp at e
  | _, _, 0, _, .cons r _, e => by simp at e; subst e; exact ⟨_, rfl, r⟩
  | _, _, i + 1, x, .cons _ t, e => by
    obtain ⟨u, h1, h2⟩ := Vals.get (i := i) (x := x) t (by simpa using e)
    exact ⟨u, by simpa using h1, h2⟩
theorem Vals.set {x : V} {u : Value} (r : RelV x u) : ∀ {xs : List V} {us : List Value} (i : Nat), Vals xs us → Vals (xs.set i x) (us.set i u)
  | _, _, _, .nil => .nil
  | _, _, 0, .cons _ t => .cons r t
  | _, _, i + 1, .cons q t => .cons q (Vals.set r i t)
theorem Vals.append : ∀ {xs ys : List V} {us ws : List Value}, Vals xs us → Vals ys ws → Vals (xs ++ ys) (us ++ ws)
  | _, _, _, _, .nil, s => s
  | _, _, _, _, .cons r t, s => .cons r (Vals.append t s)
theorem Vals.take : ∀ {xs : List V} {us : List Value} (n : Nat), Vals xs us → Vals (xs.take n) (us.take n)
  | _, _, 0, _ => .nil
  | _, _, _ + 1, .nil => .nil
  | _, _, n + 1, .cons r t => .cons r (Vals.take n t)
theorem Vals.drop : ∀ {xs : List V} {us : List Value} (n : Nat), Vals xs us → Vals (xs.drop n) (us.drop n)
  | _, _, 0, r => r
  | _, _, _ + 1, .nil => .nil
  | _, _, n + 1, .cons _ t => Vals.drop n t
theorem Vals.none_of : ∀ {xs : List V} {us : List Value} {i : Nat}, Vals xs us → xs[i]? = none → us[i]? = none := fun {xs us i} r e => by
  have h1 := r.length
  have h2 : xs.length ≤ i := List.getElem?_eq_none_iff.mp e
  exact List.getElem?_eq_none_iff.mpr (by omega)
noncomputable def RelO : Option V → Option Value → Prop
  | some v, some u => RelV v u
  | none, none => True
  | _, _ => False
noncomputable def KV {κ : Type} : List (κ × V) → List (κ × Value) → Prop := Paired fun (p : κ × V) (q : κ × Value) => p.1 = q.1 ∧ RelV p.2 q.2
noncomputable def kV : Key → V
  | .inl i => .int i
  | .inr x => .str x
inductive HO where
  | lst (xs : List V)
  | tup (xs : List V)
  | dK (kvs : List (Key × V)) | dT (kvs : List (List Key × V))
  | set (S : Int → Bool) (n : Nat)
  | ins (C dx : Addr) (fs : List (Str × V))
  | own (x : Addr)
  | xd (fs : List (Str × V))
  | met (f x : Addr)
  | rng (lo hi : Int)
  | frz (o : Obj) (u : HO)
  | tbl (ps : Array Value)
  | ext (φ : Heap → Prop)
noncomputable abbrev Hp := Addr → Option HO
noncomputable def upd (H : Hp) (a : Addr) (o : HO) : Hp := fun b => if b = a then some o else H b
theorem upd_same {H : Hp} {a : Addr} {o : HO} : upd H a o a = some o := by unfold upd; rw [if_pos rfl]
theorem upd_ne {H : Hp} {a b : Addr} {o : HO} (h : b ≠ a) : upd H a o b = H b := by unfold upd; rw [if_neg h]
theorem upd_upd {H : Hp} {a : Addr} {o u : HO} : upd (upd H a o) a u = upd H a u := by
  funext b; unfold upd; split <;> rfl
theorem ne_of_none {H : Hp} {a b : Addr} {o : HO} (h : H a = some o) (h' : H b = none) : a ≠ b := by
  intro e; subst e; rw [h] at h'; cases h'
section
variable (P : Program) (w : World)
noncomputable def ObjOk (H : Hp) (h : Heap) (a : Addr) : HO → Prop
  | .lst xs => xs.length ≤ sizeLine ∧ ∃ (its : List Value) (n : Nat), Vals xs its ∧ h.get? a = some { cls := .type "list", data := .seq its.toArray n }
  | .tup xs => xs.length ≤ sizeLine ∧ ∃ its : List Value, Vals xs its ∧ IsTup h a its.toArray
  | .dK kvs => kvs.length ≤ sizeLine ∧ (a == sysModules) = false ∧ ∃ vs, KV kvs vs ∧ h.DictOf (mixKind P w) a vs
  | .dT kvs => kvs.length ≤ sizeLine ∧ (a == sysModules) = false ∧ ∃ xs : List (List Key × Addr × Value),
      Paired (fun (p : List Key × V) (q : List Key × Addr × Value) => p.1 = q.1 ∧ H q.2.1 = some (.tup (p.1.map kV)) ∧ RelV p.2 q.2.2) kvs xs ∧
      ∃ o es ep, h.get? a = some o ∧ o.ExactDict ∧ o.data = .dict es ep ∧ es.toList = xs.map (entryOfKey (tupleKind (mixKind P w))) ∧ (xs.map (·.1)).Nodup
  | .set S n => h.SetOf (intKind P w) a S n
  | .ins C dx fs => H dx = some (.own a) ∧ fs.length ≤ 1000 ∧ dx ≠ a ∧ h.get? a = some (PySem.W.instObj C dx) ∧
      ∃ mA, h.Ns1 dx mA ∧ (∀ f, RelO (fs.lookup f) (mA f)) ∧ PySem.Within mA (fs.map (·.1))
  | .own _ => ∃ o, h.get? a = some o
  | .xd fs => ∃ mA, h.Ns1 a mA ∧ ∀ f, RelO (fs.lookup f) (mA f)
  | .rng lo hi => ∃ t u v, h.get? a = some { cls := .type "range", data := .fields #[.int lo t, .int hi u, .int 1 v] }
  | .frz o u => h.get? a = some o ∧ ObjOk H h a u
  | .tbl ps => h.get? a = some { cls := .none, data := .fields ps }
  | .met f x => h.get? a = some (PySem.W.methodObj (.ref f) (.ref x))
  | .ext φ => φ h ∧ (∃ o, h.get? a = some o) ∧ ∀ h1 h2 : Heap, φ h1 → (∀ o, h1.get? a = some o → h2.get? a = some o) → φ h2
noncomputable def HOk (H : Hp) (h : Heap) : Prop := ∀ a o, H a = some o → ObjOk P w H h a o
end
section
variable {P : Program} {w : World} {H H' : Hp} {h h' : Heap} {a : Addr} {o : HO}
theorem ObjOk.lt (x : ObjOk P w H h a o) : a < h.objs.size := by
  cases o with
  | lst xs => obtain ⟨_, _, _, _, e⟩ := x; exact Heap.lt_size e
  | tup xs => obtain ⟨_, _, _, p⟩ := x; exact p.lt
  | dK kvs => obtain ⟨_, _, _, _, o, _, _, e, _⟩ := x; exact Heap.lt_size e
  | dT kvs => obtain ⟨_, _, _, _, o, _, _, e, _⟩ := x; exact Heap.lt_size e
  | set S n => obtain ⟨o, _, _, _, e, _⟩ := x; exact Heap.lt_size e
  | ins C dx fs => obtain ⟨_, _, _, e, _⟩ := x; exact Heap.lt_size e
  | own y => obtain ⟨_, e⟩ := x; exact Heap.lt_size e
  | xd fs => obtain ⟨_, ⟨_, _, _, e, _⟩, _⟩ := x; exact Heap.lt_size e
  | rng lo hi => obtain ⟨_, _, _, e⟩ := x; exact Heap.lt_size e
  | frz ob u => obtain ⟨e, _⟩ := x; exact Heap.lt_size e
  | tbl ps => exact Heap.lt_size (show h.get? a = some _ from x)
  | met f y => exact Heap.lt_size (show h.get? a = some _ from x)
  | ext φ => obtain ⟨_, ⟨_, e⟩, _⟩ := x; exact Heap.lt_size e
theorem Paired.mapP {α β : Type} {F G : α → β → Prop} : ∀ {l₁ : List α} {l₂ : List β}, Paired F l₁ l₂ → (∀ a b, F a b → G a b) → Paired G l₁ l₂
  | _, _, .nil, _ => .nil
  | _, _, .cons r t, f => .cons (f _ _ r) (Paired.mapP t f)
theorem ObjOk.stay (x : ObjOk P w H h a o) (k : ∀ b u, (b = a ∨ H b = some (.own a)) → h.get? b = some u → h'.get? b = some u)
    (ho : ∀ b, H b = some (.own a) → H' b = some (.own a)) (ht : ∀ b xs, H b = some (.tup xs) → H' b = some (.tup xs)) : ObjOk P w H' h' a o := by
  induction o with
  | lst xs => obtain ⟨z, its, n, r, e⟩ := x; exact ⟨z, its, n, r, k _ _ (.inl rfl) e⟩
  | tup xs => obtain ⟨z, its, r, ob, e, c⟩ := x; exact ⟨z, its, r, ob, k _ _ (.inl rfl) e, c⟩
  | dK kvs => obtain ⟨z, y, vs, r, ob, es, ep, e, c⟩ := x; exact ⟨z, y, vs, r, ob, es, ep, k _ _ (.inl rfl) e, c⟩
  | dT kvs =>
    obtain ⟨z, y, xs, r, ob, es, ep, e, c⟩ := x
    exact ⟨z, y, xs, Paired.mapP r fun p q z => ⟨z.1, ht _ _ z.2.1, z.2.2⟩, ob, es, ep, k _ _ (.inl rfl) e, c⟩
  | set S n => obtain ⟨ob, es, ep, t, e, c⟩ := x; exact ⟨ob, es, ep, t, k _ _ (.inl rfl) e, c⟩
  | ins C dx fs =>
    obtain ⟨d, z, ne, e, mA, ⟨od, es, ep, e2, c⟩, r⟩ := x
    exact ⟨ho _ d, z, ne, k _ _ (.inl rfl) e, mA, ⟨od, es, ep, k _ _ (.inr d) e2, c⟩, r⟩
  | own y => obtain ⟨ob, e⟩ := x; exact ⟨ob, k _ _ (.inl rfl) e⟩
  | xd fs => obtain ⟨mA, ⟨od, es, ep, e, c⟩, r⟩ := x; exact ⟨mA, ⟨od, es, ep, k _ _ (.inl rfl) e, c⟩, r⟩
  | rng lo hi => obtain ⟨t, u, v, e⟩ := x; exact ⟨t, u, v, k _ _ (.inl rfl) e⟩
  | frz ob u ih => obtain ⟨e, q⟩ := x; exact ⟨k _ _ (.inl rfl) e, ih q⟩
  | tbl ps =>
    have e : h.get? a = some { cls := .none, data := .fields ps } := x
    show h'.get? a = some { cls := .none, data := .fields ps }
    exact k a _ (.inl rfl) e
  | met f y =>
    have e : h.get? a = some (PySem.W.methodObj (.ref f) (.ref y)) := x
    show h'.get? a = some (PySem.W.methodObj (.ref f) (.ref y))
    exact k a _ (.inl rfl) e
  | ext φ => obtain ⟨p, ⟨o, e⟩, st⟩ := x; exact ⟨st _ _ p fun o q => k _ _ (.inl rfl) q, ⟨o, k _ _ (.inl rfl) e⟩, st⟩
theorem HOk.lt (x : HOk P w H h) (e : H a = some o) : a < h.objs.size := (x a o e).lt
theorem HOk.fresh (x : HOk P w H h) (e : h.objs.size ≤ a) : H a = none := by
  cases q : H a with
  | none => rfl
  | some u => exact absurd (Nat.lt_of_lt_of_le (x.lt q) e) (Nat.lt_irrefl _)
theorem HOk.kept (x : HOk P w H h) (k : ∀ b u, h.get? b = some u → h'.get? b = some u) : HOk P w H h' := fun a o e =>
  (x a o e).stay (fun b u _ q => k b u q) (fun _ q => q) fun _ _ q => q
theorem HOk.laid (x : HOk P w H h) (k : ∀ b u, h.get? b = some u → h'.get? b = some u) (hp : h.objs.size ≤ a) (new : ObjOk P w (upd H a o) h' a o) : HOk P w (upd H a o) h' := fun b u e => by
  have hn := x.fresh hp
  by_cases hb : b = a
  · subst hb; rw [upd_same] at e; cases e; exact new
  · rw [upd_ne hb] at e
    exact (x b u e).stay (fun c v _ q => k c v q) (fun c q => by rw [upd_ne (ne_of_none q hn)]; exact q) fun c xs q => by rw [upd_ne (ne_of_none q hn)]; exact q
end
noncomputable def Rd (H : Hp) (a : Addr) (u : HO) : Prop := H a = some u ∨ ∃ o, H a = some (.frz o u)
theorem Rd.of {H : Hp} {a : Addr} {u : HO} (h : H a = some u) : Rd H a u := .inl h
theorem Rd.ok {P : Program} {w : World} {H : Hp} {h : Heap} {a : Addr} {u : HO} (r : Rd H a u) (x : HOk P w H h) : ObjOk P w H h a u := by
  rcases r with r | ⟨o, r⟩
  · exact x a u r
  · obtain ⟨_, q⟩ := x a _ r
    exact q
noncomputable def Mut : Option HO → Prop
  | some (.lst _) => True
  | some (.dK _) => True
  | some (.dT _) => True
  | some (.set _ _) => True
  | some (.ins _ _ _) => True
  | some (.ext _) => True
  | _ => False
section
variable {P : Program} {w : World} {H : Hp} {h h' : Heap} {x e : Addr} {o' : HO}
theorem HOk.write (ok : HOk P w H h) (mu : Mut (H x)) (he : e = x ∨ H e = some (.own x)) (k : ∀ b u, b ≠ e → h.get? b = some u → h'.get? b = some u) (heo : ∃ u, h'.get? e = some u)
    (new : ObjOk P w (upd H x o') h' x o') : HOk P w (upd H x o') h' := fun b u q => by
  have nown : ∀ c y, H c = some (.own y) → c ≠ x := fun c y r z => by subst z; rw [r] at mu; exact mu
  have ntup : ∀ c xs, H c = some (.tup xs) → c ≠ x := fun c xs r z => by subst z; rw [r] at mu; exact mu
  by_cases hb : b = x
  · subst hb; rw [upd_same] at q; cases q; exact new
  · rw [upd_ne hb] at q
    by_cases hbe : b = e
    · have q' : H b = some (.own x) := by
        rcases he with z | z
        · exact absurd (hbe.trans z) hb
        · rw [hbe]; exact z
      rw [q] at q'; cases q'
      obtain ⟨v, hv⟩ := heo
      exact ⟨v, by rw [hbe]; exact hv⟩
    · refine (ok b u q).stay (fun c v hc r => k c v ?_ r) (fun c r => by rw [upd_ne (nown c b r)]; exact r) fun c xs r => by rw [upd_ne (ntup c xs r)]; exact r
      rcases hc with rfl | hc
      · exact hbe
      · rintro rfl
        rcases he with z | z
        · exact nown c b hc z
        · rw [hc] at z; cases z; exact hb rfl
end
structure Un (fs ex : List Addr) (H H' : Hp) (h h' : Heap) : Prop where
  keep : ∀ b o, h.get? b = some o → H b = none → b ∉ fs → b ∉ ex → h'.get? b = some o
  slot : ∀ b o, h.get? b = some o → H b = none → b ∈ fs → b ∉ ex → ∃ sl, h'.get? b = some { o with slots := sl }
  free : ∀ b o, h.get? b = some o → H b = none → b ∉ ex → H' b = none
  there : ∀ b o, h.get? b = some o → b ∉ ex → ∃ o', h'.get? b = some o'
  tups : ∀ b xs, H b = some (.tup xs) → H' b = some (.tup xs)
  frzs : ∀ b o u, H b = some (.frz o u) → H' b = some (.frz o u)
  tbls : ∀ b ps, H b = some (.tbl ps) → ∃ more, H' b = some (.tbl (ps ++ more))
section
variable {fs fs' ex ex' : List Addr} {H H1 H2 : Hp} {h h1 h2 h' : Heap} {a x e : Addr} {o : HO}
theorem Un.any (u : Un fs ex H H1 h h1) {b : Addr} {ob : Obj} (q : h.get? b = some ob) (n : H b = none) (hx : b ∉ ex) : ∃ sl, h1.get? b = some { ob with slots := sl } := by
  by_cases hb : b ∈ fs
  · exact u.slot b ob q n hb hx
  · exact ⟨ob.slots, u.keep b ob q n hb hx⟩
theorem Un.trans (a : Un fs ex H H1 h h1) (b : Un fs ex H1 H2 h1 h2) : Un fs ex H H2 h h2 where
  keep := fun c ob q n hc hx => b.keep c ob (a.keep c ob q n hc hx) (a.free c ob q n hx) hc hx
  slot := fun c ob q n hc hx => by
    obtain ⟨sl, e1⟩ := a.slot c ob q n hc hx
    obtain ⟨sl', e2⟩ := b.slot c _ e1 (a.free c ob q n hx) hc hx
    exact ⟨sl', e2⟩
  free := fun c ob q n hx => by
    obtain ⟨o', e1⟩ := a.there c ob q hx
    exact b.free c o' e1 (a.free c ob q n hx) hx
  there := fun c ob q hx => by
    obtain ⟨o', e1⟩ := a.there c ob q hx
    exact b.there c o' e1 hx
  tups := fun c xs q => b.tups c xs (a.tups c xs q)
  frzs := fun c ob xs q => b.frzs c ob xs (a.frzs c ob xs q)
  tbls := fun c ps q => by
    obtain ⟨m1, e1⟩ := a.tbls c ps q
    obtain ⟨m2, e2⟩ := b.tbls c _ e1
    exact ⟨m1 ++ m2, by rw [e2, Array.append_assoc]⟩
theorem Un.kept (k : ∀ b u, h.get? b = some u → h'.get? b = some u) : Un fs ex H H h h' :=
  ⟨fun b ob q _ _ _ => k b ob q, fun b ob q _ _ _ => ⟨ob.slots, k b ob q⟩, fun _ _ _ n _ => n, fun b ob q _ => ⟨ob, k b ob q⟩, fun _ _ q => q, fun _ _ _ q => q, fun _ ps q => ⟨#[], by rw [q]; simp⟩⟩
theorem Un.refl : Un fs ex H H h h := Un.kept fun _ _ q => q
theorem Un.laid (k : ∀ b u, h.get? b = some u → h'.get? b = some u) (hp : h.objs.size ≤ a) (hn : H a = none) : Un fs ex H (upd H a o) h h' where
  keep := fun b u q _ _ _ => k b u q
  slot := fun b u q _ _ _ => ⟨u.slots, k b u q⟩
  free := fun b u q n _ => by rw [upd_ne (Nat.ne_of_lt (Nat.lt_of_lt_of_le (Heap.lt_size q) hp))]; exact n
  there := fun b u q _ => ⟨u, k b u q⟩
  tups := fun b xs q => by rw [upd_ne (ne_of_none q hn)]; exact q
  frzs := fun b u xs q => by rw [upd_ne (ne_of_none q hn)]; exact q
  tbls := fun b ps q => ⟨#[], by rw [upd_ne (ne_of_none q hn), q]; simp⟩
theorem Un.write (mu : Mut (H x)) (he : e = x ∨ H e = some (.own x)) (k : ∀ b u, b ≠ e → h.get? b = some u → h'.get? b = some u) (heo : ∃ u, h'.get? e = some u) : Un fs ex H (upd H x o) h h' := by
  have hx : ∀ b, H b = none → b ≠ x := fun b n z => by subst z; rw [n] at mu; exact mu
  have hb : ∀ b, H b = none → b ≠ e := fun b n z => by
    subst z
    rcases he with r | r
    · exact hx b n r
    · rw [n] at r; cases r
  have hm : ∀ b u, H b = some u → ¬ Mut (some u) → b ≠ x := fun b u q nm z => by subst z; rw [q] at mu; exact nm mu
  refine ⟨fun b u q n _ _ => k b u (hb b n) q, fun b u q n _ _ => ⟨u.slots, k b u (hb b n) q⟩, fun b u q n _ => by rw [upd_ne (hx b n)]; exact n, fun b u q _ => ?_,
    fun b xs q => by rw [upd_ne (hm b _ q fun z => z)]; exact q, fun b u xs q => by rw [upd_ne (hm b _ q fun z => z)]; exact q, fun b ps q => ⟨#[], by rw [upd_ne (hm b _ q fun z => z), q]; simp⟩⟩
  by_cases hbe : b = e
  · subst hbe; exact heo
  · exact ⟨u, k b u hbe q⟩
theorem Un.mono (u : Un fs ex H H1 h h1) (hs : ∀ b ∈ fs, b ∈ fs') (hx : ∀ b ∈ ex, b ∈ ex') : Un fs' ex' H H1 h h1 :=
  ⟨fun b ob q n hb he => u.keep b ob q n (fun z => hb (hs b z)) fun z => he (hx b z), fun _ _ q n _ he => u.any q n fun z => he (hx _ z), fun b ob q n he => u.free b ob q n fun z => he (hx b z), fun b ob q he => u.there b ob q fun z => he (hx b z), u.tups, u.frzs, u.tbls⟩
end
noncomputable def trk (h : Heap) (H : Hp) : List Addr := (List.range h.objs.size).filter fun a => (H a).isSome
noncomputable def hidT (h : Heap) (H : Hp) : Heap := PySem.W.hideAll h (trk h H)
theorem hidT_size (h : Heap) (H : Hp) : (hidT h H).objs.size = h.objs.size := PySem.W.hideAll_size _ _
theorem hidT_get {h : Heap} {H : Hp} {b : Addr} {o : Obj} (e : h.get? b = some o) (n : H b = none) : (hidT h H).get? b = some o :=
  PySem.W.hideAll_get _ e fun hm => by
    have q : (H b).isSome = true := (List.mem_filter.mp hm).2
    rw [n] at q; simp at q
theorem of_hidT {h : Heap} {H : Hp} {b : Addr} {o : Obj} (e : (hidT h H).get? b = some o) : h.get? b = some o ∧ H b = none := by
  have e' : h.get? b = some o := PySem.W.of_hideAll (trk h H) e
  refine ⟨e', ?_⟩
  cases q : H b with
  | none => rfl
  | some x =>
    have hm : b ∈ trk h H := List.mem_filter.mpr ⟨List.mem_range.mpr (Heap.lt_size e'), by simp [q]⟩
    have z : (hidT h H).get? b = none := PySem.W.hideAll_none (trk h H) hm
    rw [z] at e; cases e
noncomputable def allNews (g h : Heap) (L : Addr) : List (Addr × Obj) := (List.range h.objs.size).filterMap fun a => if a = L ∨ (g.get? a).isSome = true then none else (h.get? a).map fun o => (a, o)
noncomputable def rest (g h : Heap) (L d : Addr) : List (Addr × Obj) := (allNews g h L).filter fun p => decide (p.1 ≠ d)
end L2
namespace L2
open PySem PySem.Spec PyProof.Rows
structure Mod (K : PySem.W.Frag) (mg : Str → Option Value) (base : Heap) : Prop where
  kin : K.In base
  glob : base.Ns mainGlobals mg
  blt : ∃ mb, base.Ns builtinsNs mb ∧ ∀ x : Str, x ≠ "__name__" → mb x = bootBuiltins x
  nolimit : base.NoLimit
structure Cx where
  prog : Program
  w : World
  K : PySem.W.Frag
  mg : Str → Option Value
  base : Heap
  A : Around
  N : List Str
  s₀ : Shared
  H₀ : Hp
  env : Env
  outer : List Env
  stack : List Env
  ex : List Addr
  fn : Str → Bool
  calm : Bool
  pn : List (Addr × Obj)
  xe : Value → Shared → Prop
noncomputable def frs (l : List Env) : List Addr := l.filterMap (·.frame)
noncomputable abbrev Cx.fs (X : Cx) : List Addr := frs X.outer
noncomputable def Vis (sc : Scope) (x : Str) : Prop := sc.names.lookup x = some .local ∨ sc.names.lookup x = some .cell ∨ sc.names.lookup x = some .free
noncomputable def Loc (sc : Scope) (x : Str) : Prop := sc.names.lookup x = some .local ∨ sc.names.lookup x = some .cell
noncomputable def Look (env : Env) (h : Heap) (m : Str → Option Value) (x : Str) (u : Value) : Prop :=
  (env.kindOf x = some .local ∧ m x = some u) ∨ ((env.kindOf x = some .cell ∨ env.kindOf x = some .free) ∧ ∃ c, env.cells.lookup x = some c ∧ h.IsCell c (some u))
structure Cx.Ok (X : Cx) : Prop where
  mod : Mod X.K X.mg X.base
  kind : X.env.scope.kind = .function
  glob : X.env.globals = mainGlobals
  blt : X.env.builtins = builtinsNs
  above : X.s₀.heap.objs.size ≤ X.env.locals
  inj : ∀ x y c, X.env.cells.lookup x = some c → X.env.cells.lookup y = some c → x = y
  has : ∀ x, (X.env.kindOf x = some .cell ∨ X.env.kindOf x = some .free) → ∃ c, X.env.cells.lookup x = some c
  cab : ∀ x c, X.fn x = true → X.env.cells.lookup x = some c → X.s₀.heap.objs.size ≤ c
  hd : X.calm = true → X.A.handled = none
  frames : X.A.frames = some X.stack
  stk : X.stack = X.outer ∨ (X.stack = X.env :: X.outer ∧ X.env.frame = some X.env.locals)
  exf : ∀ b ∈ X.ex, b ≠ X.env.locals ∧ ∀ x c, X.env.cells.lookup x = some c → c ≠ b
  bs : ∀ b o, X.base.get? b = some o → X.s₀.heap.get? b = some o ∧ X.H₀ b = none
  bsz : X.base.objs.size ≤ X.s₀.heap.objs.size
  noex : ∀ b o, X.base.get? b = some o → b ∉ X.ex
  exfs : ∀ b ∈ X.ex, b ∉ X.fs
  funs : X.s₀.heap.FunFrames X.base X.outer
  frf : ∀ b ∈ X.fs, X.H₀ b = none
structure Inv (X : Cx) (pins : List (Addr × Obj)) (σ : List (Option V)) (H : Hp) (s : Shared) : Prop where
  ok : X.Ok
  os : s.os = X.s₀.os
  bare : AllBare s.gens
  base : Un X.fs X.ex X.H₀ H X.s₀.heap s.heap
  loc : ∃ m, s.heap.Ns X.env.locals m ∧ ∀ (i : Nat) (x : Str) (v : V), X.N[i]? = some x → σ[i]? = some (some v) → Vis X.env.scope x → ∃ u, RelV v u ∧ Look X.env s.heap m x u
  cell : ∀ x c, X.env.cells.lookup x = some c → ∃ v, s.heap.IsCell c v
  free : H X.env.locals = none
  freeC : ∀ x c, X.env.cells.lookup x = some c → H c = none
  pin : ∀ p ∈ X.pn ++ pins, s.heap.get? p.1 = some p.2 ∧ H p.1 = none ∧ p.1 ≠ X.env.locals ∧ p.1 ∉ X.fs ∧ ∀ v, p.2.data ≠ .cell v
  hok : HOk X.prog X.w H s.heap
  len : σ.length = X.N.length
section
variable {X : Cx} {pins : List (Addr × Obj)} {σ : List (Option V)} {H H' : Hp} {s : Shared} {h' : Heap}
theorem Cx.Ok.nofr (ok : X.Ok) {b : Addr} {o : Obj} (e : X.base.get? b = some o) : b ∉ X.fs := fun hb => by
  have := (ok.funs.mem hb).1
  rw [e] at this; cases this
theorem Inv.bs (I : Inv X pins σ H s) : ∀ b o, X.base.get? b = some o → s.heap.get? b = some o ∧ H b = none := fun b o e =>
  ⟨I.base.keep b o (I.ok.bs b o e).1 (I.ok.bs b o e).2 (I.ok.nofr e) (I.ok.noex b o e), I.base.free b o (I.ok.bs b o e).1 (I.ok.bs b o e).2 (I.ok.noex b o e)⟩
theorem Inv.bk (I : Inv X pins σ H s) : ∀ b o, X.base.get? b = some o → s.heap.get? b = some o := fun b o e => (I.bs b o e).1
theorem Inv.mod (I : Inv X pins σ H s) : Mod X.K X.mg X.base := I.ok.mod
theorem Inv.kIn (I : Inv X pins σ H s) : X.K.In s.heap := I.ok.mod.kin.keeps I.bk
theorem Inv.nolimit (I : Inv X pins σ H s) : s.heap.NoLimit := I.ok.mod.nolimit.keeps I.bk
theorem Inv.fr (I : Inv X pins σ H s) : ∃ m, Fr X.base X.env.locals s.heap m :=
  let ⟨m, hn, _⟩ := I.loc
  ⟨m, hn, I.bk, Nat.le_trans I.ok.bsz I.ok.above⟩
theorem Inv.lt (I : Inv X pins σ H s) : X.env.locals < s.heap.objs.size := let ⟨_, hn, _⟩ := I.loc; hn.lt
theorem Inv.sz (I : Inv X pins σ H s) : X.s₀.heap.objs.size ≤ s.heap.objs.size := Nat.le_trans I.ok.above (Nat.le_of_lt I.lt)
theorem Inv.nofs (I : Inv X pins σ H s) {a : Addr} (h : s.heap.objs.size ≤ a) : a ∉ X.fs := fun hb => by
  obtain ⟨_, o, ho, _⟩ := I.ok.funs.mem hb
  exact absurd (Nat.lt_of_lt_of_le (Heap.lt_size ho) (Nat.le_trans I.sz h)) (Nat.lt_irrefl _)
theorem Inv.cne (I : Inv X pins σ H s) : ∀ x c, X.env.cells.lookup x = some c → c ≠ X.env.locals := fun x c e z => by
  obtain ⟨v, o, ho, hd⟩ := I.cell x c e
  obtain ⟨m, ⟨o', es, ep, ho', hd', _⟩, _⟩ := I.loc
  rw [z, ho'] at ho; cases ho; rw [hd'] at hd; cases hd
theorem Inv.funs (I : Inv X pins σ H s) : s.heap.FunFrames X.base X.outer := by
  have all : ∀ (l : List Env), (∀ b ∈ frs l, b ∈ X.fs) → X.s₀.heap.FunFrames X.base l → s.heap.FunFrames X.base l := by
    intro l
    induction l with
    | nil => intro _ _; trivial
    | cons env r ih =>
      intro hs hl
      obtain ⟨hk, ⟨L, o, hf, hn, ho, hd⟩, hr⟩ := hl
      have hL : L ∈ X.fs := hs L (by unfold frs; rw [List.filterMap_cons, hf]; exact List.mem_cons_self)
      obtain ⟨sl, e⟩ := I.base.slot L o ho (I.ok.frf L hL) hL fun z => I.ok.exfs L z hL
      exact ⟨hk, ⟨L, _, hf, hn, e, hd⟩, ih (fun b hb => hs b (by unfold frs; rw [List.filterMap_cons, hf]; exact List.mem_cons_of_mem _ hb)) hr⟩
  exact all X.outer (fun _ hb => hb) I.ok.funs
theorem Inv.stack (I : Inv X pins σ H s) : s.heap.FunFrames X.base X.stack := by
  rcases I.ok.stk with e | ⟨e, hf⟩
  · rw [e]; exact I.funs
  · rw [e]
    obtain ⟨m, hn, _⟩ := I.loc
    refine .cons (by rw [I.ok.kind]; decide) hf hn ?_ I.funs
    exact Heap.get?_none_of_le (Nat.le_trans I.ok.bsz I.ok.above)
theorem Inv.stkSub (I : Inv X pins σ H s) : ∀ b ∈ frs X.stack, b ∈ X.env.locals :: X.fs := fun b hb => by
  rcases I.ok.stk with e | ⟨e, hf⟩
  · rw [e] at hb; exact List.mem_cons_of_mem _ hb
  · rw [e] at hb
    unfold frs at hb
    rw [List.filterMap_cons, hf] at hb
    exact hb
theorem Inv.stkFree (I : Inv X pins σ H s) : ∀ b ∈ frs X.stack, H b = none := fun b hb => by
  rcases List.mem_cons.mp (I.stkSub b hb) with e | hb
  · rw [e]; exact I.free
  · obtain ⟨_, o, ho, _⟩ := I.ok.funs.mem hb
    exact I.base.free b o ho (I.ok.frf b hb) fun z => I.ok.exfs b z hb
theorem Inv.step {g' : Array GenState} {t' : Nat} {d' : Drawn} {ch : List Addr} (I : Inv X pins σ H s)
    (hch : ∀ b ∈ ch, (b ∈ X.ex ∨ X.s₀.heap.objs.size ≤ b) ∧ b ≠ X.env.locals ∧ (∀ x c, X.env.cells.lookup x = some c → c ≠ b) ∧ ∀ p ∈ X.pn ++ pins, p.1 ≠ b)
    (keep : ∀ b o, b ≠ X.env.locals → b ∉ X.fs → b ∉ ch → s.heap.get? b = some o → H b = none → h'.get? b = some o)
    (slot : ∀ b o, b ≠ X.env.locals → b ∈ X.fs → b ∉ ch → s.heap.get? b = some o → H b = none → ∃ sl, h'.get? b = some { o with slots := sl }) (free : ∀ b o, b ∉ ch → s.heap.get? b = some o → H b = none → H' b = none)
    (there : ∀ b o, b ∉ ch → s.heap.get? b = some o → ∃ o', h'.get? b = some o')
    (tups : ∀ b xs, H b = some (.tup xs) → H' b = some (.tup xs)) (frzs : ∀ b o u, H b = some (.frz o u) → H' b = some (.frz o u)) (tbls : ∀ b ps, H b = some (.tbl ps) → ∃ more, H' b = some (.tbl (ps ++ more)))
    (ns : ∀ m, s.heap.Ns X.env.locals m → h'.Ns X.env.locals m) (hok : HOk X.prog X.w H' h') (hg : AllBare g') :
    Inv X pins σ H' { s with heap := h', gens := g', drawn := d', toks := t' } := by
  have neL : ∀ b o, X.s₀.heap.get? b = some o → b ≠ X.env.locals := fun b o e => Nat.ne_of_lt (Nat.lt_of_lt_of_le (Heap.lt_size e) I.ok.above)
  have neC : ∀ b o, X.s₀.heap.get? b = some o → b ∉ X.ex → b ∉ ch := fun b o e hx hb => by
    rcases (hch b hb).1 with z | z
    · exact hx z
    · exact absurd (Nat.lt_of_lt_of_le (Heap.lt_size e) z) (Nat.lt_irrefl _)
  have cellK : ∀ x c, X.env.cells.lookup x = some c → ∀ v, s.heap.IsCell c v → h'.IsCell c v := fun x c e v ⟨o, ho, hd⟩ => by
    have nch : c ∉ ch := fun z => (hch c z).2.2.1 x c e rfl
    by_cases hc : c ∈ X.fs
    · obtain ⟨sl, q⟩ := slot c o (I.cne x c e) hc nch ho (I.freeC x c e)
      exact ⟨_, q, hd⟩
    · exact ⟨o, keep c o (I.cne x c e) hc nch ho (I.freeC x c e), hd⟩
  refine ⟨I.ok, I.os, hg, ⟨fun b o e n hb hx => ?_, fun b o e n hb hx => ?_, fun b o e n hx => ?_, fun b o e hx => ?_, fun b xs e => tups b xs (I.base.tups b xs e), fun b o xs e => frzs b o xs (I.base.frzs b o xs e), fun b ps e => ?_⟩, ?_, fun x c e => ?_, ?_, fun x c e => ?_, fun p hp => ?_, hok, I.len⟩
  · exact keep b o (neL b o e) hb (neC b o e hx) (I.base.keep b o e n hb hx) (I.base.free b o e n hx)
  · obtain ⟨sl, e1⟩ := I.base.slot b o e n hb hx
    obtain ⟨sl', e2⟩ := slot b _ (neL b o e) hb (neC b o e hx) e1 (I.base.free b o e n hx)
    exact ⟨sl', e2⟩
  · obtain ⟨o', e1⟩ := I.base.there b o e hx
    exact free b o' (neC b o e hx) e1 (I.base.free b o e n hx)
  · obtain ⟨o', e1⟩ := I.base.there b o e hx
    exact there b o' (neC b o e hx) e1
  · obtain ⟨m1, e1⟩ := I.base.tbls b ps e
    obtain ⟨m2, e2⟩ := tbls b _ e1
    exact ⟨m1 ++ m2, by rw [e2, Array.append_assoc]⟩
  · obtain ⟨m, hn, hl⟩ := I.loc
    refine ⟨m, ns m hn, fun i x v e1 e2 e3 => ?_⟩
    obtain ⟨u, r, l⟩ := hl i x v e1 e2 e3
    refine ⟨u, r, ?_⟩
    rcases l with l | ⟨k, c, e, z⟩
    · exact .inl l
    · exact .inr ⟨k, c, e, cellK x c e _ z⟩
  · obtain ⟨v, z⟩ := I.cell x c e
    exact ⟨v, cellK x c e v z⟩
  · obtain ⟨m, ⟨o, _, _, ho, _⟩, _⟩ := I.loc
    exact free _ o (fun z => (hch _ z).2.1 rfl) ho I.free
  · obtain ⟨v, o, ho, hd⟩ := I.cell x c e
    exact free c o (fun z => (hch c z).2.2.1 x c e rfl) ho (I.freeC x c e)
  · obtain ⟨e, n, ne, nf, d⟩ := I.pin p hp
    have nch : p.1 ∉ ch := fun z => (hch p.1 z).2.2.2 p hp rfl
    exact ⟨keep p.1 p.2 ne nf nch e n, free p.1 p.2 nch e n, ne, nf, d⟩
theorem Inv.un {t' : Nat} (I : Inv X pins σ H s) (u : Un X.fs [] H H' s.heap h') (hok : HOk X.prog X.w H' h') : Inv X pins σ H' { s with heap := h', toks := t' } := by
  obtain ⟨m, ⟨o, es, ep, ho, r⟩, _⟩ := id I.loc
  obtain ⟨sl, hL⟩ := u.any ho I.free (by simp)
  exact I.step (g' := s.gens) (d' := s.drawn) (ch := []) (fun _ z => nomatch z) (fun b o _ hb _ e n => u.keep b o e n hb (by simp)) (fun b o _ hb _ e n => u.slot b o e n hb (by simp)) (fun b o _ e n => u.free b o e n (by simp)) (fun b o _ e => u.there b o e (by simp)) u.tups u.frzs u.tbls (fun m' hm => by
    obtain ⟨o', es', ep', ho', r'⟩ := hm
    rw [ho] at ho'; cases ho'
    exact ⟨_, es', ep', hL, r'⟩) hok I.bare
theorem Inv.call {g' : Array GenState} {t' : Nat} {d' : Drawn} {ch : List Addr} (I : Inv X pins σ H s) (u : Un (frs X.stack) ch H H' s.heap h') (hok : HOk X.prog X.w H' h') (hg : AllBare g')
    (hch : ∀ b ∈ ch, (b ∈ X.ex ∨ X.s₀.heap.objs.size ≤ b) ∧ b ≠ X.env.locals ∧ (∀ x c, X.env.cells.lookup x = some c → c ≠ b) ∧ ∀ p ∈ X.pn ++ pins, p.1 ≠ b) :
    Inv X pins σ H' { s with heap := h', gens := g', drawn := d', toks := t' } := by
  obtain ⟨m, ⟨o, es, ep, ho, r⟩, _⟩ := id I.loc
  obtain ⟨sl, hL⟩ := u.any ho I.free fun z => (hch _ z).2.1 rfl
  exact I.step (ch := ch) hch (fun b o hL hb hc e n => u.keep b o e n (fun z => (List.mem_cons.mp (I.stkSub b z)).elim hL hb) hc) (fun b o _ _ hc e n => u.any e n hc) (fun b o hc e n => u.free b o e n hc) (fun b o hc e => u.there b o e hc) u.tups u.frzs u.tbls (fun m' hm => by
    obtain ⟨o', es', ep', ho', r'⟩ := hm
    rw [ho] at ho'; cases ho'
    exact ⟨_, es', ep', hL, r'⟩) hok hg
theorem Inv.turned {t' : Nat} {it : Addr} (I : Inv X pins σ H s) (k : ∀ b o, b ≠ it → s.heap.get? b = some o → h'.get? b = some o) (hn : H it = none) (hL : it ≠ X.env.locals)
    (h1 : it ∈ X.ex ∨ X.s₀.heap.objs.size ≤ it) (h2 : ∀ x c, X.env.cells.lookup x = some c → c ≠ it) (h3 : ∀ p ∈ X.pn ++ pins, p.1 ≠ it) : Inv X pins σ H { s with heap := h', toks := t' } := by
  have nit : ∀ b u, H b = some u → b ≠ it := fun b u e z => by rw [z, hn] at e; cases e
  refine I.step (g' := s.gens) (d' := s.drawn) (ch := [it]) (fun b hb => ?_) (fun b o _ _ hc e _ => k b o (fun z => hc (by simp [z])) e) (fun b o _ _ hc e _ => ⟨o.slots, k b o (fun z => hc (by simp [z])) e⟩) (fun _ _ _ _ n => n)
    (fun b o hc e => ⟨o, k b o (fun z => hc (by simp [z])) e⟩) (fun _ _ e => e) (fun _ _ _ e => e) (fun b ps e => ⟨#[], by rw [e]; simp⟩) (fun m hm => ?_) (fun b u e => ?_) I.bare
  · have e : b = it := by simpa using hb
    subst e
    exact ⟨h1, hL, h2, h3⟩
  · obtain ⟨o, es, ep, ho, r⟩ := hm
    exact ⟨o, es, ep, k _ o (Ne.symm hL) ho, r⟩
  · refine (I.hok b u e).stay (fun c v hc q => k c v ?_ q) (fun _ q => q) fun _ _ q => q
    rcases hc with z | z
    · rw [z]; exact nit b u e
    · exact nit c _ z
theorem Inv.tok (I : Inv X pins σ H s) (t : Nat) : Inv X pins σ H { s with toks := t } := I.un (h' := s.heap) (t' := t) Un.refl I.hok
theorem Inv.kept {t' : Nat} (I : Inv X pins σ H s) (k : ∀ b u, s.heap.get? b = some u → h'.get? b = some u) : Inv X pins σ H { s with heap := h', toks := t' } := I.un (Un.kept k) (I.hok.kept k)
theorem Inv.laid {a : Addr} {o : HO} {t' : Nat} (I : Inv X pins σ H s) (k : ∀ b u, s.heap.get? b = some u → h'.get? b = some u) (hp : s.heap.objs.size ≤ a) (new : ObjOk X.prog X.w (upd H a o) h' a o) :
    Inv X pins σ (upd H a o) { s with heap := h', toks := t' } := I.un (Un.laid k hp (I.hok.fresh hp)) (I.hok.laid k hp new)
theorem Inv.write {x e : Addr} {o : HO} {t' : Nat} (I : Inv X pins σ H s) (mu : Mut (H x)) (he : e = x ∨ H e = some (.own x)) (k : ∀ b u, b ≠ e → s.heap.get? b = some u → h'.get? b = some u) (heo : ∃ u, h'.get? e = some u)
    (new : ObjOk X.prog X.w (upd H x o) h' x o) : Inv X pins σ (upd H x o) { s with heap := h', toks := t' } := I.un (Un.write mu he k heo) (I.hok.write mu he k heo new)
theorem Inv.weak {σ' : List (Option V)} (I : Inv X pins σ H s) (hl : σ'.length = σ.length) (w : ∀ (i : Nat) v, σ'[i]? = some (some v) → σ[i]? = some (some v)) : Inv X pins σ' H s :=
  ⟨I.ok, I.os, I.bare, I.base, let ⟨m, hn, hl'⟩ := I.loc; ⟨m, hn, fun i x v e1 e2 e3 => hl' i x v e1 (w i v e2) e3⟩, I.cell, I.free, I.freeC, I.pin, I.hok, hl.trans I.len⟩
theorem Inv.pins_of {pins' : List (Addr × Obj)} (I : Inv X pins σ H s) (h : ∀ p ∈ pins', s.heap.get? p.1 = some p.2 ∧ H p.1 = none ∧ p.1 ≠ X.env.locals ∧ p.1 ∉ X.fs ∧ ∀ v, p.2.data ≠ .cell v) : Inv X pins' σ H s :=
  ⟨I.ok, I.os, I.bare, I.base, I.loc, I.cell, I.free, I.freeC, fun p hp => (List.mem_append.mp hp).elim (fun z => I.pin p (List.mem_append_left _ z)) (h p), I.hok, I.len⟩
theorem nodup_ix {N : List Str} (hN : N.Nodup) {i j : Nat} {x : Str} (a : N[i]? = some x) (b : N[j]? = some x) : i = j := by
  obtain ⟨h1, e1⟩ := List.getElem?_eq_some_iff.mp a
  obtain ⟨h2, e2⟩ := List.getElem?_eq_some_iff.mp b
  exact (List.getElem_inj hN).mp (e1.trans e2.symm)
theorem store_ok2 {M : Model} {A : Around} {E : Value → Shared → Prop} {i : Nat} {x : Str} {v : V} {u : Value} {Q : Unit → Shared → Prop} (I : Inv X pins σ H s) (hN : X.N.Nodup) (hi : X.N[i]? = some x) (hx : Loc X.env.scope x) (r : RelV v u)
    (h : ∀ s', Inv X pins (σ.set i (some v)) H s' → (∃ a, Heap.SameBut a s.heap s'.heap ∧ (a = X.env.locals ∨ X.env.cells.lookup x = some a)) → Q () s') (hf : X.fn x = true ∨ X.env.scope.names.lookup x = some .local := by first | exact .inl rfl | exact .inr rfl | assumption) : wpAny M A (storeName X.env x u) Q E s := by
  obtain ⟨m, hn, hl⟩ := id I.loc
  have hcls : (X.env.scope.kind == .class || (X.env.scope.kind == .module && X.env.locals != X.env.globals)) = false := by rw [I.ok.kind]; rfl
  have hiσ : i < σ.length := by rw [I.len]; exact (List.getElem?_eq_some_iff.mp hi).1
  have cne := I.cne
  have tracked : ∀ {a : Addr} {h' : Heap}, (∃ o, s.heap.get? a = some o ∧ H a = none) → Heap.SameBut a s.heap h' → HOk X.prog X.w H h' := fun {a h'} ha hs b ob e => by
    obtain ⟨_, _, hfree⟩ := ha
    refine (I.hok b ob e).stay (fun c w' hc q => (hs.2 c ?_).trans q) (fun _ q => q) fun _ _ q => q
    rintro rfl
    rcases hc with rfl | hc
    · rw [hfree] at e; cases e
    · rw [hfree] at hc; cases hc
  rcases hx with hk | hk
  · refine wpAny_storeName_local hk hn (fun h' hn' hs => ?_) hcls
    obtain ⟨oL, _, _, hoL, _⟩ := id hn
    refine h _ ⟨I.ok, I.os, I.bare, ⟨fun b o e n hb hx => ?_, fun b o e n hb hx => ?_, I.base.free, fun b o e hx => ?_, I.base.tups, I.base.frzs, I.base.tbls⟩, ⟨_, hn', fun j y v' e1 e2 e3 => ?_⟩, fun y c e => ?_, I.free, I.freeC, fun p hp => ?_, tracked ⟨oL, hoL, I.free⟩ hs, by simpa using I.len⟩ ⟨_, hs, .inl rfl⟩
    · exact (hs.2 b (Nat.ne_of_lt (Nat.lt_of_lt_of_le (Heap.lt_size e) I.ok.above))).trans (I.base.keep b o e n hb hx)
    · obtain ⟨sl, e1⟩ := I.base.slot b o e n hb hx
      exact ⟨sl, (hs.2 b (Nat.ne_of_lt (Nat.lt_of_lt_of_le (Heap.lt_size e) I.ok.above))).trans e1⟩
    · obtain ⟨o', e1⟩ := I.base.there b o e hx
      exact ⟨o', (hs.2 b (Nat.ne_of_lt (Nat.lt_of_lt_of_le (Heap.lt_size e) I.ok.above))).trans e1⟩
    · by_cases hj : j = i
      · subst hj
        rw [hi] at e1; cases e1
        rw [List.getElem?_set_self hiσ] at e2
        cases e2
        exact ⟨u, r, .inl ⟨hk, by simp⟩⟩
      · rw [List.getElem?_set_ne (Ne.symm hj)] at e2
        obtain ⟨u', r', q⟩ := hl j y v' e1 e2 e3
        refine ⟨u', r', ?_⟩
        rcases q with ⟨k, e⟩ | ⟨k, c, e, z⟩
        · refine .inl ⟨k, ?_⟩
          have : y ≠ x := fun e => hj (nodup_ix hN e1 (e ▸ hi))
          simp [this, e]
        · exact .inr ⟨k, c, e, z.sameBut hs (cne y c e)⟩
    · obtain ⟨w', z⟩ := I.cell y c e
      exact ⟨w', z.sameBut hs (cne y c e)⟩
    · obtain ⟨e, n, ne, nf, d⟩ := I.pin p hp
      exact ⟨(hs.2 p.1 ne).trans e, n, ne, nf, d⟩
  · have hfn : X.fn x = true := by
      rcases hf with z | z
      · exact z
      · rw [z] at hk; cases hk
    obtain ⟨c, hc⟩ := I.ok.has x (.inl hk)
    obtain ⟨w', z⟩ := I.cell x c hc
    refine wpAny_storeName_cell I.ok.kind hk hc z (fun h' hc' hs => ?_)
    obtain ⟨oc, hoc, hocd⟩ := id z
    refine h { s with heap := h' } ⟨I.ok, I.os, I.bare, ⟨fun b o e n hb hx => ?_, fun b o e n hb hx => ?_, I.base.free, fun b o e hx => ?_, I.base.tups, I.base.frzs, I.base.tbls⟩, ⟨m, hn.sameBut hs (Ne.symm (cne x c hc)), fun j y v' e1 e2 e3 => ?_⟩, fun y c' e => ?_, I.free, I.freeC, fun p hp => ?_, tracked ⟨oc, hoc, I.freeC x c hc⟩ hs, by simpa using I.len⟩ ⟨c, hs, .inr hc⟩
    · exact (hs.2 b (Nat.ne_of_lt (Nat.lt_of_lt_of_le (Heap.lt_size e) (I.ok.cab x c hfn hc)))).trans (I.base.keep b o e n hb hx)
    · obtain ⟨sl, e1⟩ := I.base.slot b o e n hb hx
      exact ⟨sl, (hs.2 b (Nat.ne_of_lt (Nat.lt_of_lt_of_le (Heap.lt_size e) (I.ok.cab x c hfn hc)))).trans e1⟩
    · obtain ⟨o', e1⟩ := I.base.there b o e hx
      exact ⟨o', (hs.2 b (Nat.ne_of_lt (Nat.lt_of_lt_of_le (Heap.lt_size e) (I.ok.cab x c hfn hc)))).trans e1⟩
    · by_cases hj : j = i
      · subst hj
        rw [hi] at e1; cases e1
        rw [List.getElem?_set_self hiσ] at e2
        cases e2
        exact ⟨u, r, .inr ⟨.inl hk, c, hc, hc'⟩⟩
      · rw [List.getElem?_set_ne (Ne.symm hj)] at e2
        obtain ⟨u', r', q⟩ := hl j y v' e1 e2 e3
        refine ⟨u', r', ?_⟩
        rcases q with q | ⟨k, c', e, z'⟩
        · exact .inl q
        · refine .inr ⟨k, c', e, z'.sameBut hs ?_⟩
          rintro rfl
          exact hj (nodup_ix hN e1 (I.ok.inj _ _ _ e hc ▸ hi))
    · by_cases hcc : c' = c
      · subst hcc; exact ⟨_, hc'⟩
      · obtain ⟨w2, z2⟩ := I.cell y c' e
        exact ⟨w2, z2.sameBut hs hcc⟩
    · obtain ⟨e, n, ne, nf, d⟩ := I.pin p hp
      refine ⟨(hs.2 p.1 ?_).trans e, n, ne, nf, d⟩
      intro q
      rw [q, hoc] at e
      have q' : oc = p.2 := Option.some.inj e
      exact d w' (by rw [← q']; exact hocd)
theorem store_ok {M : Model} {A : Around} {E : Value → Shared → Prop} {i : Nat} {x : Str} {v : V} {u : Value} {Q : Unit → Shared → Prop} (I : Inv X pins σ H s) (hN : X.N.Nodup) (hi : X.N[i]? = some x) (hx : Loc X.env.scope x) (r : RelV v u)
    (h : ∀ s', Inv X pins (σ.set i (some v)) H s' → Q () s') (hf : X.fn x = true ∨ X.env.scope.names.lookup x = some .local := by first | exact .inl rfl | exact .inr rfl | assumption) : wpAny M A (storeName X.env x u) Q E s :=
  store_ok2 I hN hi hx r (fun s' I' _ => h s' I') hf
theorem Inv.call' {s' : Shared} {ch : List Addr} (I : Inv X pins σ H s) (ho : s'.os = s.os) (u : Un (frs X.stack) ch H H' s.heap s'.heap) (hok : HOk X.prog X.w H' s'.heap) (hg : AllBare s'.gens)
    (hch : ∀ b ∈ ch, (b ∈ X.ex ∨ X.s₀.heap.objs.size ≤ b) ∧ b ≠ X.env.locals ∧ (∀ x c, X.env.cells.lookup x = some c → c ≠ b) ∧ ∀ p ∈ X.pn ++ pins, p.1 ≠ b) : Inv X pins σ H' s' := by
  obtain ⟨h', g', d', t', o'⟩ := s'
  have e : o' = s.os := ho
  subst e
  exact I.call (g' := g') (t' := t') (d' := d') u hok hg hch
end
noncomputable abbrev XK := Value → Option Addr → Hp → Prop
noncomputable abbrev St := List (Option V)
noncomputable abbrev VK := V → Hp → Prop
noncomputable abbrev TE := St → Hp → VK → Prop
noncomputable abbrev TT := St → Hp → (Bool → Hp → Prop) → Prop
noncomputable abbrev TA := St → Hp → (List V → Hp → Prop) → Prop
structure Ends where
  nx : St → Hp → Prop
  rt : VK
  bk : St → Hp → Prop := fun _ _ => False
  ct : St → Hp → Prop := fun _ _ => False
noncomputable abbrev TS := Ends → St → Hp → Prop
noncomputable def EP (X : Cx) (pins : List (Addr × Obj)) (σ : St) (Q : VK) (u : Value) (s' : Shared) : Prop := ∃ v H', Inv X pins σ H' s' ∧ RelV v u ∧ Q v H'
noncomputable def TP (X : Cx) (pins : List (Addr × Obj)) (σ : St) (Q : Bool → Hp → Prop) (b : Bool) (s' : Shared) : Prop := ∃ H', Inv X pins σ H' s' ∧ Q b H'
noncomputable def AP (X : Cx) (pins : List (Addr × Obj)) (σ : St) (Q : List V → Hp → Prop) (us : List Value) (s' : Shared) : Prop := ∃ vs H', Inv X pins σ H' s' ∧ Vals vs us ∧ Q vs H'
noncomputable def SP (X : Cx) (pins : List (Addr × Obj)) (D : Ends) (f : Flow) (s' : Shared) : Prop :=
  match f with
  | .next => ∃ σ' H', Inv X pins σ' H' s' ∧ D.nx σ' H'
  | .brk => ∃ σ' H', Inv X pins σ' H' s' ∧ D.bk σ' H'
  | .cont => ∃ σ' H', Inv X pins σ' H' s' ∧ D.ct σ' H'
  | .ret u => ∃ v σ' H', Inv X pins σ' H' s' ∧ RelV v u ∧ D.rt v H'
noncomputable def PE (X : Cx) (e : Expr) (t : TE) : Prop :=
  ∀ (pins : List (Addr × Obj)) (s : Shared) (σ : St) (H : Hp) (Q : VK), Inv X pins σ H s → t σ H Q → wpAny (model X.prog X.w) X.A (eval e X.env) (EP X pins σ Q) X.xe s
noncomputable def PT (X : Cx) (e : Expr) (t : TT) : Prop :=
  ∀ (pins : List (Addr × Obj)) (s : Shared) (σ : St) (H : Hp) (Q : Bool → Hp → Prop), Inv X pins σ H s → t σ H Q → wpAny (model X.prog X.w) X.A (isTrue e X.env (eval e X.env)) (TP X pins σ Q) X.xe s
noncomputable def PW (X : Cx) (e : Expr) (t : TT) : Prop :=
  ∀ (whole : Sem Value) (pins : List (Addr × Obj)) (s : Shared) (σ : St) (H : Hp) (Q : Bool → Hp → Prop), Inv X pins σ H s → t σ H Q → wpAny (model X.prog X.w) X.A (isTrue e X.env whole) (TP X pins σ Q) X.xe s
theorem PW.pt {X : Cx} {e : Expr} {t : TT} (h : PW X e t) : PT X e t := h _
noncomputable def PA (X : Cx) (es : List Expr) (t : TA) : Prop :=
  ∀ (pos : Pos) (pins : List (Addr × Obj)) (s : Shared) (σ : St) (H : Hp) (Q : List V → Hp → Prop), Inv X pins σ H s → t σ H Q → wpAny (model X.prog X.w) X.A (spliced (backTo pos (starEach es X.env))) (AP X pins σ Q) X.xe s
noncomputable def PS (X : Cx) (st : Stmt) (t : TS) : Prop :=
  ∀ (pins : List (Addr × Obj)) (s : Shared) (σ : St) (H : Hp) (D : Ends), Inv X pins σ H s → t D σ H → wpAny (model X.prog X.w) X.A (exec st X.env) (SP X pins D) X.xe s
noncomputable def PSs (X : Cx) (st : List Stmt) (t : TS) : Prop :=
  ∀ (pins : List (Addr × Obj)) (s : Shared) (σ : St) (H : Hp) (D : Ends), Inv X pins σ H s → t D σ H → wpAny (model X.prog X.w) X.A (execs st X.env) (SP X pins D) X.xe s
theorem thn {α : Type} {t : Sem α} {Q Q' : α → Shared → Prop} {M : Model} {A : Around} {E : Value → Shared → Prop} {s : Shared} (h : wpAny M A t Q E s) (hQ : ∀ a s, Q a s → Q' a s) : wpAny M A t Q' E s := wpAny_mono h hQ fun _ _ x => x
end L2
namespace L2
open PySem PySem.Spec PyProof.Rows
section
variable {X : Cx}
noncomputable def tVar (i : Nat) : TE := fun σ H Q => ∃ v, σ[i]? = some (some v) ∧ Q v H
noncomputable def tC (v : V) : TE := fun _ H Q => Q v H
theorem pe_var {i : Nat} {x : Str} {pos : Pos} (hN : X.N[i]? = some x) (hv : Vis X.env.scope x) (hd : (x == ("__debug__" : Str)) = false := by decide) (hcd : (x == ("__classdict__" : Str)) = false := by decide) : PE X (.Name x pos) (tVar i) := by
  intro pins s σ H Q I h
  obtain ⟨v, e, h⟩ := h
  obtain ⟨m, hn, hl⟩ := I.loc
  obtain ⟨u, r, l⟩ := hl i x v hN e hv
  have fin : EP X pins σ Q u s := ⟨v, H, I, r, h⟩
  rcases l with ⟨hk, hm⟩ | ⟨hk, c, hc, hcell⟩
  · exact wpAny_Name (wpAny_loadName_local I.ok.kind hk hn hm fin) hd
  · rcases hk with hk | hk
    · exact wpAny_Name (wpAny_loadName_cell I.ok.kind hk hc hcell fin) hd
    · exact wpAny_Name (wpAny_loadName_free I.ok.kind hk hc hcell fin hcd) hd
theorem pe_int {i j pos} : PE X (.Constant (.int i) j pos) (tC (.int i)) := fun _ _ _ H _ I h => wpAny_Constant_int ⟨.int i, H, I.tok _, ⟨_, rfl⟩, h⟩
theorem pe_bl {b j pos} : PE X (.Constant (.bool b) j pos) (tC (.bl b)) := fun _ _ _ H _ I h => Constant_bool ⟨.bl b, H, I, rfl, h⟩
theorem pe_non {j pos} : PE X (.Constant .none j pos) (tC .non) := fun _ _ _ H _ I h => Constant_none ⟨.non, H, I, rfl, h⟩
theorem pe_str {x j pos} : PE X (.Constant (.str x) j pos) (tC (.str x)) := fun _ _ _ H _ I h => Calls.Constant_str ⟨.str x, H, I.tok _, ⟨_, rfl⟩, h⟩
noncomputable def Gl (X : Cx) (x : Str) : Prop := X.env.kindOf x = some .globalImplicit
theorem ld_glob {E : Value → Shared → Prop} {pins : List (Addr × Obj)} {s : Shared} {σ : St} {H : Hp} {x : Str} {u : Value} {pos : Pos} {Q : Value → Shared → Prop} (I : Inv X pins σ H s) (hg : Gl X x) (hm : X.mg x = some u) (h : Q u s)
    (hd : (x == ("__debug__" : Str)) = false := by decide) : wpAny (model X.prog X.w) X.A (eval (.Name x pos) X.env) Q E s :=
  Calls.Name_function_global I.ok.kind hg (Calls.loadGlobal_global (by rw [I.ok.glob]; exact I.mod.glob.keeps I.bk) hm h) hd
theorem ld_blt {E : Value → Shared → Prop} {pins : List (Addr × Obj)} {s : Shared} {σ : St} {H : Hp} {x : Str} {u : Value} {pos : Pos} {Q : Value → Shared → Prop} (I : Inv X pins σ H s) (hg : Gl X x) (hm : X.mg x = none) (hv : bootBuiltins x = some u) (h : Q u s)
    (hn : x ≠ "__name__" := by decide) (hd : (x == ("__debug__" : Str)) = false := by decide) : wpAny (model X.prog X.w) X.A (eval (.Name x pos) X.env) Q E s := by
  obtain ⟨mb, h1, h2⟩ := I.mod.blt
  exact Calls.Name_function_global I.ok.kind hg (Calls.loadGlobal_builtin (by rw [I.ok.glob]; exact I.mod.glob.keeps I.bk) hm (by rw [I.ok.blt]; exact h1.keeps I.bk) ((h2 x hn).trans hv) h) hd
theorem pe_glob {x : Str} {v : V} {u : Value} {pos : Pos} (hg : Gl X x) (hm : X.mg x = some u) (r : RelV v u) (hd : (x == ("__debug__" : Str)) = false := by decide) : PE X (.Name x pos) (tC v) :=
  fun _ _ _ H _ I h => ld_glob I hg hm ⟨v, H, I, r, h⟩ hd
theorem pe_bltn {x : Str} {v : V} {u : Value} {pos : Pos} (hg : Gl X x) (hm : X.mg x = none) (hv : bootBuiltins x = some u) (r : RelV v u) (hn : x ≠ "__name__" := by decide) (hd : (x == ("__debug__" : Str)) = false := by decide) : PE X (.Name x pos) (tC v) :=
  fun _ _ _ H _ I h => ld_blt I hg hm hv ⟨v, H, I, r, h⟩ hn hd
variable {a b : Expr} {ta tb : TE} {pos : Pos}
noncomputable def PC (X : Cx) (op : CmpOp) (a b : Expr) (t : TE) : Prop :=
  ∀ (pins : List (Addr × Obj)) (s : Shared) (σ : St) (H : Hp) (Q : VK), Inv X pins σ H s → t σ H Q →
    wpAny (model X.prog X.w) X.A (eval a X.env) (fun v s₁ => wpAny (model X.prog X.w) X.A (eval b X.env) (fun u s₂ => wpAny (model X.prog X.w) X.A (compareOp op v u) (EP X pins σ Q) X.xe s₂) X.xe s₁) X.xe s
theorem nobehind (b : Expr) {op : CmpOp} (h : op ≠ .In) (h2 : op ≠ .NotIn) : behindInMarks op b = false := by
  have e1 : (op == CmpOp.In) = false := by cases op <;> first | rfl | exact absurd rfl h
  have e2 : (op == CmpOp.NotIn) = false := by cases op <;> first | rfl | exact absurd rfl h2
  cases b <;> simp [behindInMarks, e1, e2]
noncomputable def tIsN (ta : TE) : TE := fun σ H Q => ta σ H fun x H1 => Q (.bl (decide (x = .non))) H1
noncomputable def tNotN (ta : TE) : TE := fun σ H Q => ta σ H fun x H1 => Q (.bl (!decide (x = .non))) H1
theorem RelV.none_iff {x : V} {v : Value} (r : RelV x v) : (v == Value.none) = decide (x = .non) := by
  cases x with
  | non => cases r; rfl
  | bl _ => cases r; rfl
  | int _ => obtain ⟨t, rfl⟩ := r; rfl
  | str _ => obtain ⟨t, rfl⟩ := r; rfl
  | byt _ => obtain ⟨t, rfl⟩ := r; rfl
  | flt _ => obtain ⟨t, rfl⟩ := r; rfl
  | ref _ => cases r; rfl
  | ty _ => cases r; rfl
theorem pc_isN {j pos'} (ha : PE X a ta) : PC X .Is a (.Constant .none j pos') (tIsN ta) := by
  intro pins s σ H Q I h
  refine thn (ha pins s σ H _ I h) fun v s1 ⟨x, H1, I1, r1, q1⟩ => ?_
  exact Constant_none (is_none_gen ⟨.bl _, H1, I1, by rw [r1.none_iff]; rfl, q1⟩)
theorem pc_notN {j pos'} (ha : PE X a ta) : PC X .IsNot a (.Constant .none j pos') (tNotN ta) := by
  intro pins s σ H Q I h
  refine thn (ha pins s σ H _ I h) fun v s1 ⟨x, H1, I1, r1, q1⟩ => ?_
  exact Constant_none (isnot_none_gen ⟨.bl _, H1, I1, by rw [r1.none_iff]; rfl, q1⟩)
noncomputable def tB (t : TE) : TT := fun σ H Q => t σ H fun x H1 => ∃ c, x = .bl c ∧ Q c H1
theorem pe_cmp {op : CmpOp} {t : TE} (h : PC X op a b t) (h1 : behindInMarks op b = false := by first | exact nobehind _ (by decide) (by decide) | rfl) : PE X (.Compare a [op] [b] pos) t := fun pins s σ H Q I hw => wpAny_Compare1 (h pins s σ H Q I hw) h1
theorem pt_cmp {op : CmpOp} {t : TE} (h : PC X op a b t) (h1 : behindInMarks op b = false := by first | exact nobehind _ (by decide) (by decide) | rfl) : PT X (.Compare a [op] [b] pos) (tB t) := by
  intro pins s σ H Q I hw
  refine wpAny_isTrue_Compare1 (thn (h pins s σ H _ I hw) fun v s1 h1 => thn h1 fun u s2 h2 => thn h2 fun c s3 ⟨x, H1, I1, r1, q1⟩ => ?_) h1
  obtain ⟨d, rfl, q⟩ := q1
  cases r1
  exact wpAny_truthy_bool ⟨H1, I1, q⟩
theorem pt_val {e : Expr} {t : TE} (h : PE X e t) (he : ∀ whole, isTrue e X.env whole = (do let v ← whole; standAt e.pos; holding [v] (truthy v)) := by intro _; rfl) : PT X e (tB t) := by
  intro pins s σ H Q I hw
  refine isTrue_plain (thn (h pins s σ H _ I hw) fun v s1 ⟨x, H1, I1, r1, q1⟩ => ?_) (he _)
  obtain ⟨d, rfl, q⟩ := q1
  cases r1
  exact wpAny_truthy_bool ⟨H1, I1, q⟩
variable {tA tB' : TT} {rest : List Expr}
noncomputable def tAnd (t u : TT) : TT := fun σ H Q => t σ H fun c H1 => if c = true then u σ H1 Q else Q false H1
noncomputable def tOr (t u : TT) : TT := fun σ H Q => t σ H fun c H1 => if c = true then Q true H1 else u σ H1 Q
noncomputable def tNot (t : TT) : TT := fun σ H Q => t σ H fun c H1 => Q (!c) H1
theorem pw_and1 (ha : PT X a tA) : PW X (.BoolOp .And [a] pos) tA := by
  intro wh pins s σ H Q I h
  refine isTrue_and (thn (ha pins s σ H Q I h) fun c s1 e => ?_)
  cases c with
  | true => exact isTrue_and_nil e
  | false => exact e
theorem pw_or1 (ha : PT X a tA) : PW X (.BoolOp .Or [a] pos) tA := by
  intro wh pins s σ H Q I h
  refine isTrue_or (thn (ha pins s σ H Q I h) fun c s1 e => ?_)
  cases c with
  | false => exact isTrue_or_nil e
  | true => exact e
theorem pw_and (ha : PT X a tA) (hb : PW X (.BoolOp .And (b :: rest) pos) tB') : PW X (.BoolOp .And (a :: b :: rest) pos) (tAnd tA tB') := by
  intro wh pins s σ H Q I h
  refine isTrue_and (thn (ha pins s σ H _ I h) fun c s1 ⟨H1, I1, q1⟩ => ?_)
  cases c with
  | true => exact hb wh pins s1 σ H1 Q I1 q1
  | false => exact ⟨H1, I1, q1⟩
theorem pw_or (ha : PT X a tA) (hb : PW X (.BoolOp .Or (b :: rest) pos) tB') : PW X (.BoolOp .Or (a :: b :: rest) pos) (tOr tA tB') := by
  intro wh pins s σ H Q I h
  refine isTrue_or (thn (ha pins s σ H _ I h) fun c s1 ⟨H1, I1, q1⟩ => ?_)
  cases c with
  | true => exact ⟨H1, I1, q1⟩
  | false => exact hb wh pins s1 σ H1 Q I1 q1
theorem pt_not (ha : PT X a tA) : PT X (.UnaryOp .Not a pos) (tNot tA) := by
  intro pins s σ H Q I h
  exact isTrue_not (ha pins s σ H (fun c H1 => Q (!c) H1) I h)
noncomputable def tAndV (ta tb : TE) : TE := fun σ H Q => ta σ H fun x H1 => ∃ c, x = .bl c ∧ if c = true then tb σ H1 Q else Q (.bl false) H1
noncomputable def tOrV (ta tb : TE) : TE := fun σ H Q => ta σ H fun x H1 => ∃ c, x = .bl c ∧ if c = true then Q (.bl true) H1 else tb σ H1 Q
noncomputable def tNotV (ta : TE) : TE := fun σ H Q => ta σ H fun x H1 => ∃ c, x = .bl c ∧ Q (.bl (!c)) H1
theorem pe_one {op} {t : TE} (h : PE X a t) : PE X (.BoolOp op [a] pos) t := fun pins s σ H Q I hw => BoolOp_one (h pins s σ H Q I hw)
theorem pe_and (ha : PE X a ta) (hb : PE X (.BoolOp .And (b :: rest) pos) tb) : PE X (.BoolOp .And (a :: b :: rest) pos) (tAndV ta tb) := by
  intro pins s σ H Q I h
  refine BoolOp_and (thn (ha pins s σ H _ I h) fun v s1 ⟨x, H1, I1, r1, q1⟩ => ?_)
  obtain ⟨c, rfl, q1⟩ := q1
  cases r1
  refine wpAny_truthy_bool ?_
  cases c with
  | true => exact hb pins s1 σ H1 Q I1 q1
  | false => exact ⟨.bl false, H1, I1, rfl, q1⟩
theorem pe_or (ha : PE X a ta) (hb : PE X (.BoolOp .Or (b :: rest) pos) tb) : PE X (.BoolOp .Or (a :: b :: rest) pos) (tOrV ta tb) := by
  intro pins s σ H Q I h
  refine BoolOp_or (thn (ha pins s σ H _ I h) fun v s1 ⟨x, H1, I1, r1, q1⟩ => ?_)
  obtain ⟨c, rfl, q1⟩ := q1
  cases r1
  refine wpAny_truthy_bool ?_
  cases c with
  | false => exact hb pins s1 σ H1 Q I1 q1
  | true => exact ⟨.bl true, H1, I1, rfl, q1⟩
theorem pe_not (ha : PE X a ta) : PE X (.UnaryOp .Not a pos) (tNotV ta) := by
  intro pins s σ H Q I h
  refine UnaryOp_ (thn (ha pins s σ H _ I h) fun v s1 ⟨x, H1, I1, r1, q1⟩ => ?_)
  obtain ⟨c, rfl, q1⟩ := q1
  cases r1
  exact not_of (wpAny_truthy_bool ⟨.bl (!c), H1, I1, rfl, q1⟩)
noncomputable def tIf (t : TT) (ta tb : TE) : TE := fun σ H Q => t σ H fun c H1 => if c = true then ta σ H1 Q else tb σ H1 Q
theorem pe_ifExp {c : Expr} (hc : PT X c tA) (ha : PE X a ta) (hb : PE X b tb) : PE X (.IfExp c a b pos) (tIf tA ta tb) := by
  intro pins s σ H Q I h
  refine wpAny_IfExp (thn (hc pins s σ H _ I h) fun d s1 ⟨H1, I1, q1⟩ => ?_)
  cases d with
  | true => exact ha pins s1 σ H1 Q I1 q1
  | false => exact hb pins s1 σ H1 Q I1 q1
end
end L2
namespace L2
open PySem PySem.Spec PyProof.Rows
noncomputable def SqL (K : PySem.W.Frag) (H : Hp) (a : Addr) (xs : List V) : Prop :=
  Rd H a (.lst xs) ∨
    ∃ (o : Obj) (its : Array Value) (n : Nat), K.lookup a = some o ∧ o.cls = .type "list" ∧ o.dict = none ∧ o.data = .seq its n ∧ its.size ≤ sizeLine ∧ Vals xs its.toList
noncomputable def SqT (K : PySem.W.Frag) (H : Hp) (a : Addr) (xs : List V) : Prop :=
  Rd H a (.tup xs) ∨
    ∃ (o : Obj) (its : Array Value) (n : Nat), K.lookup a = some o ∧ o.cls = .type "tuple" ∧ o.data = .seq its n ∧ its.size ≤ sizeLine ∧ Vals xs its.toList
noncomputable def absV : Value → Option V
  | .none => some .non
  | .bool b => some (.bl b)
  | .int i _ => some (.int i)
  | .str x _ => some (.str x)
  | .bytes b _ => some (.byt b)
  | .float b _ => some (.flt b)
  | .ref a => some (.ref a)
  | .type n => some (.ty n)
  | _ => none
theorem RelV.abs {x : V} {u : Value} (r : RelV x u) : absV u = some x := by
  cases x with
  | non => cases r; rfl
  | bl _ => cases r; rfl
  | int _ => obtain ⟨t, rfl⟩ := r; rfl
  | str _ => obtain ⟨t, rfl⟩ := r; rfl
  | byt _ => obtain ⟨t, rfl⟩ := r; rfl
  | flt _ => obtain ⟨t, rfl⟩ := r; rfl
  | ref _ => cases r; rfl
  | ty _ => cases r; rfl
theorem RelV.inj {x y : V} {u : Value} (r : RelV x u) (q : RelV y u) : x = y := Option.some.inj (r.abs.symm.trans q.abs)
theorem Vals.inj : ∀ {xs ys : List V} {us : List Value}, Vals xs us → Vals ys us → xs = ys
  | _, _, _, .nil, .nil => rfl
  | _, _, _, .cons r t, .cons r' t' => by rw [r.inj r', Vals.inj t t']
section
variable {X : Cx} {pins : List (Addr × Obj)} {σ : St} {H : Hp} {s : Shared} {a : Addr} {xs ys : List V}
theorem SqL.of {K : PySem.W.Frag} (h : H a = some (.lst xs)) : SqL K H a xs := .inl (.inl h)
theorem SqT.of {K : PySem.W.Frag} (h : H a = some (.tup xs)) : SqT K H a xs := .inl (.inl h)
theorem Inv.list (I : Inv X pins σ H s) (h : SqL X.K H a xs) : ∃ its : List Value, Vals xs its ∧ PlainL s.heap a its.toArray ∧ xs.length ≤ sizeLine := by
  rcases h with h | ⟨o, its, n, hk, hc, hd, hs, hz, r⟩
  · obtain ⟨z, its, n, r, e⟩ := h.ok I.hok
    exact ⟨its, r, ⟨_, n, e, rfl, rfl, rfl⟩, z⟩
  · refine ⟨its.toList, r, ⟨o, n, I.kIn a o hk, hc, hd, by simpa using hs⟩, ?_⟩
    have e := r.length
    simp only [Array.length_toList] at e
    omega
theorem Inv.tuple (I : Inv X pins σ H s) (h : SqT X.K H a xs) : ∃ its : List Value, Vals xs its ∧ IsTup s.heap a its.toArray ∧ xs.length ≤ sizeLine := by
  rcases h with h | ⟨o, its, n, hk, hc, hs, hz, r⟩
  · obtain ⟨z, its, r, p⟩ := h.ok I.hok
    exact ⟨its, r, p, z⟩
  · refine ⟨its.toList, r, ⟨o, I.kIn a o hk, hc, n, by simpa using hs⟩, ?_⟩
    have e := r.length
    simp only [Array.length_toList] at e
    omega
theorem Inv.list_inj (I : Inv X pins σ H s) (h : SqL X.K H a xs) (h' : SqL X.K H a ys) : xs = ys := by
  obtain ⟨its, r, ⟨o, n, e, _, _, d⟩, _⟩ := I.list h
  obtain ⟨its', r', ⟨o', n', e', _, _, d'⟩, _⟩ := I.list h'
  rw [e] at e'; cases e'
  rw [d] at d'
  injection d' with d1 _
  have : its = its' := by simpa using congrArg Array.toList d1
  subst this
  exact r.inj r'
theorem Inv.tuple_inj (I : Inv X pins σ H s) (h : SqT X.K H a xs) (h' : SqT X.K H a ys) : xs = ys := by
  obtain ⟨its, r, ⟨o, e, _, n, d⟩, _⟩ := I.tuple h
  obtain ⟨its', r', ⟨o', e', _, n', d'⟩, _⟩ := I.tuple h'
  rw [e] at e'; cases e'
  rw [d] at d'
  injection d' with d1 _
  have : its = its' := by simpa using congrArg Array.toList d1
  subst this
  exact r.inj r'
end
noncomputable abbrev Cx.wish (X : Cx) (E : Value → Shared → Prop) : Cx := { X with xe := E }
noncomputable abbrev Cx.nox (X : Cx) : Cx := X.wish fun _ _ => False
theorem Cx.Ok.wish {X : Cx} (ok : X.Ok) (E : Value → Shared → Prop) : (X.wish E).Ok :=
  ⟨ok.mod, ok.kind, ok.glob, ok.blt, ok.above, ok.inj, ok.has, ok.cab, ok.hd, ok.frames, ok.stk, ok.exf, ok.bs, ok.bsz, ok.noex, ok.exfs, ok.funs, ok.frf⟩
theorem Cx.Ok.unwish {X : Cx} {E : Value → Shared → Prop} (ok : (X.wish E).Ok) : X.Ok :=
  ⟨ok.mod, ok.kind, ok.glob, ok.blt, ok.above, ok.inj, ok.has, ok.cab, ok.hd, ok.frames, ok.stk, ok.exf, ok.bs, ok.bsz, ok.noex, ok.exfs, ok.funs, ok.frf⟩
section
variable {X : Cx} {pins : List (Addr × Obj)} {σ : St} {H : Hp} {s : Shared} {E : Value → Shared → Prop}
theorem Inv.wish (I : Inv X pins σ H s) (E : Value → Shared → Prop) : Inv (X.wish E) pins σ H s := ⟨I.ok.wish E, I.os, I.bare, I.base, I.loc, I.cell, I.free, I.freeC, I.pin, I.hok, I.len⟩
theorem Inv.unwish (I : Inv (X.wish E) pins σ H s) : Inv X pins σ H s := ⟨I.ok.unwish, I.os, I.bare, I.base, I.loc, I.cell, I.free, I.freeC, I.pin, I.hok, I.len⟩
theorem SP.unwish {D : Ends} {f : Flow} {s' : Shared} (h : SP (X.wish E) pins D f s') : SP X pins D f s' := by
  cases f with
  | next => obtain ⟨σ', H', I, q⟩ := h; exact ⟨σ', H', I.unwish, q⟩
  | brk => obtain ⟨σ', H', I, q⟩ := h; exact ⟨σ', H', I.unwish, q⟩
  | cont => obtain ⟨σ', H', I, q⟩ := h; exact ⟨σ', H', I.unwish, q⟩
  | ret u => obtain ⟨v, σ', H', I, r, q⟩ := h; exact ⟨v, σ', H', I.unwish, r, q⟩
theorem PE.nox {e : Expr} {t : TE} (h : PE X.nox e t) : PE X e t := fun pins s σ H Q I hw =>
  wpAny_mono (h pins s σ H Q (I.wish _) hw) (fun _ _ ⟨v, H', I', r, q⟩ => ⟨v, H', I'.unwish, r, q⟩) fun _ _ z => False.elim z
theorem PT.nox {e : Expr} {t : TT} (h : PT X.nox e t) : PT X e t := fun pins s σ H Q I hw =>
  wpAny_mono (h pins s σ H Q (I.wish _) hw) (fun _ _ ⟨H', I', q⟩ => ⟨H', I'.unwish, q⟩) fun _ _ z => False.elim z
theorem PSs.nox {st : List Stmt} {t : TS} (h : PSs X.nox st t) : PSs X st t := fun pins s σ H D I hw =>
  wpAny_mono (h pins s σ H D (I.wish _) hw) (fun _ _ q => q.unwish) fun _ _ z => False.elim z
end
section
variable {X : Cx} {st : Stmt} {rest : List Stmt} {t u : TS} {e : Expr} {te : TE} {pos : Pos}
noncomputable def tNext : TS := fun D σ H => D.nx σ H
noncomputable def tSeq (t u : TS) : TS := fun D σ H => t { D with nx := u D } σ H
theorem pss_nil : PSs X [] tNext := fun _ _ σ H _ I h => wpAny_execs_nil ⟨σ, H, I, h⟩
theorem pss_cons (h1 : PS X st t) (h2 : PSs X rest u) : PSs X (st :: rest) (tSeq t u) := by
  intro pins s σ H D I h
  refine wpAny_execs_cons (thn (h1 pins s σ H { D with nx := u D } I h) fun f s1 q => ?_)
  cases f with
  | next =>
    obtain ⟨σ', H', I', q⟩ := q
    exact h2 pins s1 σ' H' D I' q
  | ret v => exact q
  | brk => exact q
  | cont => exact q
theorem pss_one (h1 : PS X st t) : PSs X [st] t := by
  intro pins s σ H D I h
  refine wpAny_execs_cons (thn (h1 pins s σ H D I h) fun f s1 q => ?_)
  cases f with
  | next => exact wpAny_execs_nil q
  | ret v => exact q
  | brk => exact q
  | cont => exact q
theorem Inv.quiet {pins : List (Addr × Obj)} {σ : St} {H : Hp} {s : Shared} (I : Inv X pins σ H s) : interactive X.env = false := by simp [interactive, I.ok.kind]
noncomputable def tDrop (te : TE) : TS := fun D σ H => te σ H fun _ H1 => D.nx σ H1
theorem ps_expr (he : PE X e te) (hs : swapsWith e none pos.line X.env = pure false := by rfl) : PS X (.Expr e pos) (tDrop te) := by
  intro pins s σ H D I h
  exact wpAny_Expr_any (thn (he pins s σ H _ I h) fun v s1 ⟨x, H1, I1, r1, q1⟩ => ⟨σ, H1, I1, q1⟩) I.quiet hs
noncomputable def tRet (te : TE) : TS := fun D σ H => te σ H D.rt
theorem ps_ret (he : PE X e te) : PS X (.Return (some e) pos) (tRet te) := by
  intro pins s σ H D I h
  exact wpAny_Return_some (thn (he pins s σ H _ I h) fun v s1 ⟨x, H1, I1, r1, q1⟩ => ⟨x, σ, H1, I1, r1, q1⟩)
noncomputable def tIfS (c : TT) (t u : TS) : TS := fun D σ H => c σ H fun b H1 => if b = true then t D σ H1 else u D σ H1
theorem ps_if {c : Expr} {a b : List Stmt} {tc : TT} (hc : PT X c tc) (ha : PSs X a t) (hb : PSs X b u) : PS X (.If c a b pos) (tIfS tc t u) := by
  intro pins s σ H D I h
  refine wpAny_If (thn (hc pins s σ H _ I h) fun d s1 ⟨H1, I1, q1⟩ => ?_)
  cases d with
  | true => exact ha pins s1 σ H1 D I1 q1
  | false => exact hb pins s1 σ H1 D I1 q1
noncomputable def tNever : TS := fun _ _ _ => False
theorem ps_never : PS X st tNever := fun _ _ _ _ _ _ h => h.elim
end
noncomputable abbrev TG := V → St → Hp → (St → Hp → Prop) → Prop
noncomputable abbrev TGs := List V → St → Hp → (St → Hp → Prop) → Prop
noncomputable def PG (X : Cx) (target : Expr) (t : TG) : Prop :=
  ∀ (pins : List (Addr × Obj)) (s : Shared) (σ : St) (H : Hp) (v : V) (u : Value) (Q : St → Hp → Prop), Inv X pins σ H s → RelV v u → t v σ H Q →
    wpAny (model X.prog X.w) X.A (assign target X.env u) (fun _ s' => ∃ σ' H', Inv X pins σ' H' s' ∧ Q σ' H') X.xe s
noncomputable def PGs (X : Cx) (ts : List Expr) (t : TGs) : Prop :=
  ∀ (pins : List (Addr × Obj)) (s : Shared) (σ : St) (H : Hp) (vs : List V) (us : List Value) (Q : St → Hp → Prop), Inv X pins σ H s → Vals vs us → t vs σ H Q →
    wpAny (model X.prog X.w) X.A (assignInOrder ((assignEach ts X.env).map (·.2)) us) (fun _ s' => ∃ σ' H', Inv X pins σ' H' s' ∧ Q σ' H') X.xe s
noncomputable abbrev TIp := V → V → Hp → VK → Prop
noncomputable def PIp (X : Cx) (op : Operator) (t : TIp) : Prop :=
  ∀ (pins : List (Addr × Obj)) (s : Shared) (σ : St) (H : Hp) (x y : V) (v u : Value) (Q : VK), Inv X pins σ H s → RelV x v → RelV y u → t x y H Q →
    wpAny (model X.prog X.w) X.A (inplaceOp op v u) (EP X pins σ Q) X.xe s
section
variable {X : Cx} {pos : Pos}
noncomputable def gName (i : Nat) : TG := fun v σ H Q => Q (σ.set i (some v)) H
theorem pg_name {i : Nat} {x : Str} (hN : X.N.Nodup) (hi : X.N[i]? = some x) (hx : Loc X.env.scope x) (hf : X.fn x = true ∨ X.env.scope.names.lookup x = some .local := by first | exact .inl rfl | exact .inr rfl | assumption) : PG X (.Name x pos) (gName i) := by
  intro pins s σ H v u Q I r h
  exact wpAny_assign_Name (store_ok I hN hi hx r (fun s' I' => ⟨_, H, I', h⟩) hf)
noncomputable def gNil : TGs := fun vs σ H Q => vs = [] ∧ Q σ H
noncomputable def gCons (t : TG) (u : TGs) : TGs := fun vs σ H Q => ∃ v r, vs = v :: r ∧ t v σ H fun σ' H' => u r σ' H' Q
theorem pgs_nil : PGs X [] gNil := by
  intro pins s σ H vs us Q I r h
  obtain ⟨e, h⟩ := h
  subst e
  cases r
  exact assignInOrder_nil ⟨σ, H, I, h⟩
theorem pgs_cons {e : Expr} {es : List Expr} {t : TG} {u : TGs} (h1 : PG X e t) (h2 : PGs X es u)
    (hs : (assignEach (e :: es) X.env).map (·.2) = assign e X.env :: (assignEach es X.env).map (·.2) := by rfl) : PGs X (e :: es) (gCons t u) := by
  intro pins s σ H vs us Q I r h
  obtain ⟨v, vr, e1, h⟩ := h
  subst e1
  cases r with
  | cons r rr =>
    rw [hs]
    refine assignInOrder_cons (thn (h1 pins s σ H _ _ _ I r h) fun _ s1 ⟨σ1, H1, I1, q1⟩ => ?_)
    exact h2 pins s1 σ1 H1 _ _ Q I1 rr q1
noncomputable def gTup (K : PySem.W.Frag) (n : Nat) (t : TGs) : TG := fun v σ H Q => ∃ a xs, v = .ref a ∧ SqT K H a xs ∧ xs.length = n ∧ t xs σ H Q
theorem pg_tup {es : List Expr} {k : Nat} {t : TGs} {n : Nat} (hc : X.calm = true) (h : PGs X es t)
    (hn : (assignEach es X.env).length = n := by rfl) (hst : (assignEach es X.env).findIdx? (·.1) = none := by rfl) : PG X (.Tuple es k pos) (gTup X.K n t) := by
  intro pins s σ H v u Q I r hw
  obtain ⟨a, xs, e1, hq, hl, hw⟩ := hw
  subst e1
  cases r
  obtain ⟨its, rv, ht, hz⟩ := I.tuple hq
  refine assign_Tuple_tuple (I.ok.hd hc) ht (by simp [hn, ← hl, rv.length]) hst fun h' hx => ?_
  have I1 : Inv X pins σ H { s with heap := h' } := I.kept (t' := s.toks) fun b o e => hx b o (Nat.ne_of_lt (Heap.lt_size e)) e
  exact h pins _ σ H xs _ Q I1 (by simpa using rv) hw
noncomputable def tAsg (te : TE) (g : TG) : TS := fun D σ H => te σ H fun x H1 => g x σ H1 D.nx
theorem ps_set {i : Nat} {x : Str} {e : Expr} {te : TE} {pos' : Pos} (hN : X.N.Nodup) (hi : X.N[i]? = some x) (hx : Loc X.env.scope x) (he : PE X e te) (hs : swapsWith e (some (.Name x pos')) pos.line X.env = pure false := by rfl) (hf : X.fn x = true ∨ X.env.scope.names.lookup x = some .local := by first | exact .inl rfl | exact .inr rfl | assumption) :
    PS X (.Assign [.Name x pos'] e pos) (tAsg te (gName i)) := by
  intro pins s σ H D I h
  refine wpAny_Assign_Name (thn (he pins s σ H _ I h) fun v s1 ⟨y, H1, I1, r1, q1⟩ => ?_) hs
  exact store_ok I1 hN hi hx r1 (fun s2 I2 => ⟨_, H1, I2, q1⟩) hf
noncomputable def tAug (i : Nat) (te : TE) (ti : TIp) : TS := fun D σ H => ∃ x, σ[i]? = some (some x) ∧ te σ H fun y H1 => ti x y H1 fun z H2 => D.nx (σ.set i (some z)) H2
theorem ps_aug {i : Nat} {x : Str} {e : Expr} {te : TE} {op : Operator} {ti : TIp} {pos' : Pos} (hN : X.N.Nodup) (hi : X.N[i]? = some x) (hx : Loc X.env.scope x) (he : PE X e te) (ho : PIp X op ti) (hf : X.fn x = true ∨ X.env.scope.names.lookup x = some .local := by first | exact .inl rfl | exact .inr rfl | assumption) :
    PS X (.AugAssign (.Name x pos') op e pos) (tAug i te ti) := by
  intro pins s σ H D I h
  obtain ⟨v, e1, h⟩ := h
  obtain ⟨m, hn, hl⟩ := I.loc
  have vis : Vis X.env.scope x := by rcases hx with k | k; exact .inl k; exact .inr (.inl k)
  obtain ⟨u, r, l⟩ := hl i x v hi e1 vis
  refine wpAny_AugAssign_Name ?_
  have go : wpAny (model X.prog X.w) X.A (eval e X.env) (fun w s₂ => wpAny (model X.prog X.w) X.A (inplaceOp op u w) (fun r s₃ => wpAny (model X.prog X.w) X.A (storeName X.env x r) (fun _ => SP X pins D .next) X.xe s₃) X.xe s₂) X.xe s := by
    refine thn (he pins s σ H _ I h) fun w s1 ⟨y, H1, I1, r1, q1⟩ => ?_
    refine thn (ho pins s1 σ H1 v y u w _ I1 r r1 q1) fun z s2 ⟨zv, H2, I2, r2, q2⟩ => ?_
    exact store_ok I2 hN hi hx r2 (fun s3 I3 => ⟨_, H2, I3, q2⟩) hf
  rcases l with ⟨hk, hm⟩ | ⟨hk, c, hc, hcell⟩
  · exact wpAny_loadName_local I.ok.kind hk hn hm go
  · rcases hk with hk | hk
    · exact wpAny_loadName_cell I.ok.kind hk hc hcell go
    · rcases hx with k | k
      · have : X.env.scope.names.lookup x = some .free := hk
        rw [k] at this; cases this
      · have : X.env.scope.names.lookup x = some .free := hk
        rw [k] at this; cases this
noncomputable def ipI (f : Int → Int → Int) : TIp := fun x y H Q => ∃ i j, x = .int i ∧ y = .int j ∧ Q (.int (f i j)) H
theorem ip_add : PIp X .Add (ipI fun i j => i + j) := by
  intro pins s σ H x y v u Q I r1 r2 h
  obtain ⟨i, j, e1, e2, q⟩ := h
  subst e1; subst e2
  obtain ⟨t, rfl⟩ := r1
  obtain ⟨t', rfl⟩ := r2
  exact iadd_int ⟨.int _, H, I.tok _, ⟨_, rfl⟩, q⟩
end
section
variable {X : Cx} {pos : Pos}
noncomputable def tWhile (c : TT) (tb : TS) : TS := fun D σ H => ∃ W : Nat → St → Hp → Prop, (∃ m, W m σ H) ∧ ∀ m σ H, W m σ H →
  c σ H fun b H1 => if b = true then ∃ N : St → Hp → Prop, (∀ σ' H', N σ' H' → ∃ m', m' < m ∧ W m' σ' H') ∧ tb { D with nx := N, ct := N, bk := D.nx } σ H1 else D.nx σ H1
theorem ps_while {c : Expr} {body : List Stmt} {tc : TT} {tb : TS} (hp : PassesOwn (model X.prog X.w) X.A X.env X.xe) (hc : PT X c tc) (hb : PSs X body tb) : PS X (.While c body [] pos) (tWhile tc tb) := by
  intro pins s σ H D I h
  obtain ⟨W, ⟨m0, w0⟩, turn⟩ := h
  refine wpAny_While (codeAny_whileLoop (fun n s' => ∃ σ' H', Inv X pins σ' H' s' ∧ W n σ' H') ?_ m0 ⟨σ, H, I, w0⟩)
  rintro n s1 ⟨σ1, H1, I1, w1⟩
  refine wpAny_passesOwn hp (thn (hc pins s1 σ1 H1 _ I1 (turn n σ1 H1 w1)) fun b s2 ⟨H2, I2, q2⟩ => ?_)
  cases b with
  | true =>
    obtain ⟨N, hN, q2⟩ := q2
    rw [if_pos rfl]
    refine wpAny_passesOwn hp (thn (hb pins s2 σ1 H2 _ I2 q2) fun f s3 q3 => ?_)
    cases f with
    | next =>
      obtain ⟨σ3, H3, I3, n3⟩ := q3
      obtain ⟨m', hm, w3⟩ := hN σ3 H3 n3
      exact ⟨m', hm, σ3, H3, I3, w3⟩
    | cont =>
      obtain ⟨σ3, H3, I3, n3⟩ := q3
      obtain ⟨m', hm, w3⟩ := hN σ3 H3 n3
      exact ⟨m', hm, σ3, H3, I3, w3⟩
    | brk => exact q3
    | ret v => exact q3
  | false =>
    rw [if_neg Bool.false_ne_true]
    exact wpAny_execs_nil ⟨σ1, H2, I2, q2⟩
end
structure It where
  go : Nat → Hp → Prop
  yld : Nat → Hp → V → Hp → Prop
  stop : Nat → Hp → Prop
noncomputable def FpOk (X : Cx) (pins : List (Addr × Obj)) (H : Hp) (b : Addr) : Prop :=
  H b = none ∧ b ≠ X.env.locals ∧ b ∉ X.fs ∧ (b ∈ X.ex ∨ X.s₀.heap.objs.size ≤ b) ∧ (∀ x c, X.env.cells.lookup x = some c → c ≠ b) ∧ ∀ p ∈ X.pn ++ pins, p.1 ≠ b
theorem Inv.fpOk {X : Cx} {pins : List (Addr × Obj)} {σ : St} {H H' : Hp} {s : Shared} {b : Addr} (I : Inv X pins σ H s) (hb : s.heap.objs.size ≤ b) (hn : H' b = none) : FpOk X pins H' b := by
  refine ⟨hn, Nat.ne_of_gt (Nat.lt_of_lt_of_le I.lt hb), I.nofs hb, .inr (Nat.le_trans I.sz hb), fun x c e z => ?_, fun p hp z => ?_⟩
  · obtain ⟨v, q⟩ := I.cell x c e
    exact absurd (Nat.lt_of_lt_of_le q.lt (by rw [z]; exact hb)) (Nat.lt_irrefl _)
  · exact absurd (Nat.lt_of_lt_of_le (Heap.lt_size (I.pin p hp).1) (by rw [z]; exact hb)) (Nat.lt_irrefl _)
structure Turn (P : Program) (w : World) (K : PySem.W.Frag) (tg : Expr) (J : It) (fp : List Addr) (it : Addr) (tn : Nat → Heap → Prop) : Prop where
  mem : it ∈ fp
  obj : ∀ i h, tn i h → ∀ b ∈ fp, ∃ o, h.get? b = some o ∧ ∀ v, o.data ≠ .cell v
  keep : ∀ i h h', tn i h → (∀ b ∈ fp, ∀ o, h.get? b = some o → h'.get? b = some o) → tn i h'
  item : ∀ (X : Cx), X.prog = P → X.w = w → X.K = K → X.calm = true → ∀ (i : Nat) (pins : List (Addr × Obj)) (s : Shared) (σ : St) (H : Hp) (E : Value → Shared → Prop), Inv X pins σ H s → (∀ b ∈ fp, FpOk X pins H b) → tn i s.heap → J.go i H →
    wpAny (model P w) X.A (pyNext (.ref it)) (fun r s1 => ∃ u, r = some u ∧
      wpAny (model P w) X.A (letOwnedTupleGo tg (.ref it) u) (fun _ s2 => ∃ x H', Inv X pins σ H' s2 ∧ RelV x u ∧ J.yld i H x H' ∧ tn (i + 1) s2.heap ∧ ∀ b ∈ fp, H' b = none) E s1) E s
  done : ∀ (X : Cx), X.prog = P → X.w = w → X.K = K → X.calm = true → ∀ (i : Nat) (pins : List (Addr × Obj)) (s : Shared) (σ : St) (H : Hp) (E : Value → Shared → Prop), Inv X pins σ H s → (∀ b ∈ fp, FpOk X pins H b) → tn i s.heap → J.stop i H →
    wpAny (model P w) X.A (pyNext (.ref it)) (fun r s1 => r = none ∧ Inv X pins σ H s1) E s
  self : ∀ (A : Around) (i : Nat) (s : Shared) (Q : Value → Shared → Prop) (E : Value → Shared → Prop), tn i s.heap → Q (.ref it) s → wpAny (model P w) A (pyIter (.ref it)) Q E s
noncomputable abbrev TI := St → Hp → (It → Hp → Prop) → Prop
noncomputable def PIE (X : Cx) (pins : List (Addr × Obj)) (σ : St) (tg : Expr) (R : It → Hp → Prop) (itv : Value) (s2 : Shared) : Prop :=
  ∃ (it : Addr) (fp : List Addr) (tn : Nat → Heap → Prop) (J : It) (H' : Hp), itv = .ref it ∧ Inv X pins σ H' s2 ∧ Turn X.prog X.w X.K tg J fp it tn ∧ tn 0 s2.heap ∧ (∀ b ∈ fp, FpOk X pins H' b) ∧ R J H'
noncomputable def PI (X : Cx) (tg iter : Expr) (wi : TI) : Prop :=
  ∀ (pins : List (Addr × Obj)) (s : Shared) (σ : St) (H : Hp) (R : It → Hp → Prop), Inv X pins σ H s → wi σ H R →
    wpAny (model X.prog X.w) X.A (eval iter X.env) (fun v s1 => wpAny (model X.prog X.w) X.A (pyIter v) (PIE X pins σ tg R) X.xe s1) X.xe s
theorem go_of {M : Model} {A : Around} {E : Value → Shared → Prop} {s : Shared} {tg : Expr} {it : Addr} {u : Value} {o : Obj} {n : String} {vs : Array Value} {Q : Unit → Shared → Prop} (ho : s.heap.get? it = some o) (hc : o.cls = .type n) (hd : o.data = .fields vs)
    (hn : ["enumerate", "zip", "dict_itemiterator", "dict_reverseitemiterator", "odict_iterator", "itertools.zip_longest", "itertools.pairwise"].contains n = false) (hQ : Q () s) : wpAny M A (letOwnedTupleGo tg (.ref it) u) Q E s := by
  unfold letOwnedTupleGo
  cases tg <;> first
    | exact wpAny_pure hQ
    | (cases u <;> first
        | exact wpAny_pure hQ
        | (refine wpAny_bind (wpAny_load ho ?_)
           rw [hc, hd]
           show wpAny M A (if (["enumerate", "zip", "dict_itemiterator", "dict_reverseitemiterator", "odict_iterator", "itertools.zip_longest", "itertools.pairwise"].contains n && vs[0]? == some (rawInt _)) = true then _ else _) Q E s
           rw [if_neg (by intro h; rw [hn, Bool.false_and] at h; cases h)]
           exact wpAny_pure hQ))
noncomputable def Itl (K : PySem.W.Frag) (a : Addr) : It :=
  ⟨fun i H => ∃ xs x, SqL K H a xs ∧ xs[i]? = some x, fun i H x H' => H' = H ∧ ∀ xs, SqL K H a xs → xs[i]? = some x, fun i H => ∃ xs, SqL K H a xs ∧ xs.length ≤ i⟩
noncomputable def Itt (K : PySem.W.Frag) (a : Addr) : It :=
  ⟨fun i H => ∃ xs x, SqT K H a xs ∧ xs[i]? = some x, fun i H x H' => H' = H ∧ ∀ xs, SqT K H a xs → xs[i]? = some x, fun i H => ∃ xs, SqT K H a xs ∧ xs.length ≤ i⟩
noncomputable def Itr (lo : Int) (n : Nat) : It := ⟨fun i _ => i < n, fun i H x H' => H' = H ∧ x = .int (lo + i), fun i _ => n ≤ i⟩
theorem turn_list {P : Program} {w : World} {K : PySem.W.Frag} {tg : Expr} (a it : Addr) : Turn P w K tg (Itl K a) [it] it (fun i h => h.IsListIter it a i) where
  mem := by simp
  obj := fun i h st b hb => by
    have e : b = it := by simpa using hb
    subst e
    obtain ⟨o, e, c, d⟩ := st
    exact ⟨o, e, fun v z => by rw [d] at z; cases z⟩
  keep := fun i h h' st k => st.at fun o e => k it (by simp) o e
  item := by
    intro X hP hw hK hc i pins s σ H E I hf st hg
    subst hP hw hK
    obtain ⟨xs, x, hq, hx⟩ := hg
    obtain ⟨its, rv, p, hz⟩ := I.list hq
    obtain ⟨u, hu, ru⟩ := rv.get hx
    obtain ⟨f0, f1, f2, f3, f4, f5⟩ := hf it (by simp)
    refine wpAny_pyNext_list_item st p.isList (x := u) (by simpa using hu) fun h' st' sb => ?_
    have I1 : Inv X pins σ H { s with heap := h' } := I.turned (t' := s.toks) (fun b o hb e => (sb.2 b hb).trans e) f0 f1 f3 f4 f5
    obtain ⟨o, e, c, d⟩ := id st'
    exact ⟨u, rfl, go_of (s := { s with heap := h' }) e c d (by decide) ⟨x, H, I1, ru, ⟨rfl, fun ys hy => by rw [I.list_inj hy hq]; exact hx⟩, st', fun b hb => (hf b hb).1⟩⟩
  done := by
    intro X hP hw hK hc i pins s σ H E I hf st hg
    subst hP hw hK
    obtain ⟨xs, hq, hx⟩ := hg
    obtain ⟨its, rv, p, hz⟩ := I.list hq
    obtain ⟨f0, f1, f2, f3, f4, f5⟩ := hf it (by simp)
    have hl := rv.length
    exact wpAny_pyNext_list_end (I.ok.hd hc) st p.isList (by simp; omega) fun h' eb => ⟨rfl, I.turned (t' := s.toks) (fun b o hb e => eb b o hb e) f0 f1 f3 f4 f5⟩
  self := fun _ _ _ _ _ st h => wpAny_pyIter_listiter st h
theorem turn_tuple {P : Program} {w : World} {K : PySem.W.Frag} {tg : Expr} (a it : Addr) : Turn P w K tg (Itt K a) [it] it (fun i h => h.IsTupleIter it a i) where
  mem := by simp
  obj := fun i h st b hb => by
    have e : b = it := by simpa using hb
    subst e
    obtain ⟨o, e, c, d⟩ := st
    exact ⟨o, e, fun v z => by rw [d] at z; cases z⟩
  keep := fun i h h' st k => st.at fun o e => k it (by simp) o e
  item := by
    intro X hP hw hK hc i pins s σ H E I hf st hg
    subst hP hw hK
    obtain ⟨xs, x, hq, hx⟩ := hg
    obtain ⟨its, rv, p, hz⟩ := I.tuple hq
    obtain ⟨u, hu, ru⟩ := rv.get hx
    obtain ⟨f0, f1, f2, f3, f4, f5⟩ := hf it (by simp)
    refine wpAny_pyNext_tuple_item st (show s.heap.IsTuple a its.toArray from p) (x := u) (by simpa using hu) fun h' st' sb => ?_
    have I1 : Inv X pins σ H { s with heap := h' } := I.turned (t' := s.toks) (fun b o hb e => (sb.2 b hb).trans e) f0 f1 f3 f4 f5
    obtain ⟨o, e, c, d⟩ := id st'
    exact ⟨u, rfl, go_of (s := { s with heap := h' }) e c d (by decide) ⟨x, H, I1, ru, ⟨rfl, fun ys hy => by rw [I.tuple_inj hy hq]; exact hx⟩, st', fun b hb => (hf b hb).1⟩⟩
  done := by
    intro X hP hw hK hc i pins s σ H E I hf st hg
    subst hP hw hK
    obtain ⟨xs, hq, hx⟩ := hg
    obtain ⟨its, rv, p, hz⟩ := I.tuple hq
    obtain ⟨f0, f1, f2, f3, f4, f5⟩ := hf it (by simp)
    have hl := rv.length
    exact wpAny_pyNext_tuple_end (I.ok.hd hc) st (show s.heap.IsTuple a its.toArray from p) (by simp; omega) fun h' eb => ⟨rfl, I.turned (t' := s.toks) (fun b o hb e => eb b o hb e) f0 f1 f3 f4 f5⟩
  self := fun _ _ _ _ _ st h => wpAny_pyIter_tupleiter st h
theorem turn_range {P : Program} {w : World} {K : PySem.W.Frag} {tg : Expr} (it : Addr) (lo : Int) (n : Nat) : Turn P w K tg (Itr lo n) [it] it (fun i h => IsRangeIter h it (lo + (i : Nat) * 1) ((n : Int) - (i : Nat)) 1) where
  mem := by simp
  obj := fun i h st b hb => by
    have e : b = it := by simpa using hb
    subst e
    exact ⟨_, st, fun v z => by
      have z' : Data.fields _ = Data.cell v := z
      cases z'⟩
  keep := fun i h h' st k => k it (by simp) _ st
  item := by
    intro X hP hw hK hc i pins s σ H E I hf st hg
    subst hP hw hK
    obtain ⟨f0, f1, f2, f3, f4, f5⟩ := hf it (by simp)
    have W := Walks.range (prog := X.prog) (w := X.w) (I.ok.hd hc) it lo 1 n
    refine W.item i s _ _ hg st fun v h' tk hv st' kk => ?_
    obtain ⟨t, rfl⟩ := hv
    have I1 : Inv X pins σ H { s with heap := h', toks := tk } := I.turned (fun b o hb e => kk b o (by simpa using hb) e) f0 f1 f3 f4 f5
    refine ⟨_, rfl, go_of (s := { s with heap := h', toks := tk }) (n := "range_iterator") st' rfl rfl (by decide) ⟨.int (lo + i), H, I1, ⟨t, ?_⟩, ⟨rfl, rfl⟩, st', fun b hb => (hf b hb).1⟩⟩
    rw [Int.mul_one]
  done := by
    intro X hP hw hK hc i pins s σ H E I hf st hg
    subst hP hw hK
    obtain ⟨f0, f1, f2, f3, f4, f5⟩ := hf it (by simp)
    exact wpAny_pyNext_range_end (I.ok.hd hc) st (by have : n ≤ i := hg; omega) fun h' eb => ⟨rfl, I.turned (t' := s.toks) (fun b o hb e => eb b o hb e) f0 f1 f3 f4 f5⟩
  self := fun _ _ _ _ _ st h => wpAny_pyIter_rangeiter st h
end L2
namespace L2
open PySem PySem.Spec PyProof.Rows
section
variable {X : Cx} {tg : Expr}
noncomputable def iList (K : PySem.W.Frag) (tl : TE) : TI := fun σ H R => tl σ H fun x H1 => ∃ a, x = .ref a ∧ (∃ xs, SqL K H1 a xs) ∧ R (Itl K a) H1
noncomputable def iTup (K : PySem.W.Frag) (tl : TE) : TI := fun σ H R => tl σ H fun x H1 => ∃ a, x = .ref a ∧ (∃ xs, SqT K H1 a xs) ∧ R (Itt K a) H1
theorem pi_list {l : Expr} {tl : TE} (hl : PE X l tl) : PI X tg l (iList X.K tl) := by
  intro pins s σ H R I h
  refine thn (hl pins s σ H _ I h) fun v s1 ⟨x, H1, I1, r1, q1⟩ => ?_
  obtain ⟨a, e, ⟨xs, hq⟩, q⟩ := q1
  subst e
  cases r1
  obtain ⟨its, rv, p, hz⟩ := I1.list hq
  refine wpAny_pyIter_list p.isList ?_
  refine ⟨s1.heap.objs.size, [s1.heap.objs.size], _, _, H1, rfl, I1.kept (t' := s1.toks) fun b o e => Heap.get?_push_of_some _ e, turn_list a _, ⟨_, Heap.get?_push_size _ rfl, rfl, rfl⟩, fun b hb => ?_, q⟩
  have e : b = s1.heap.objs.size := by simpa using hb
  subst e
  exact I1.fpOk (Nat.le_refl _) (I1.hok.fresh (Nat.le_refl _))
theorem pi_tup {l : Expr} {tl : TE} (hl : PE X l tl) : PI X tg l (iTup X.K tl) := by
  intro pins s σ H R I h
  refine thn (hl pins s σ H _ I h) fun v s1 ⟨x, H1, I1, r1, q1⟩ => ?_
  obtain ⟨a, e, ⟨xs, hq⟩, q⟩ := q1
  subst e
  cases r1
  obtain ⟨its, rv, p, hz⟩ := I1.tuple hq
  refine wpAny_pyIter_tuple (show s1.heap.IsTuple a its.toArray from p) ?_
  refine ⟨s1.heap.objs.size, [s1.heap.objs.size], _, _, H1, rfl, I1.kept (t' := s1.toks) fun b o e => Heap.get?_push_of_some _ e, turn_tuple a _, ⟨_, Heap.get?_push_size _ rfl, rfl, rfl⟩, fun b hb => ?_, q⟩
  have e : b = s1.heap.objs.size := by simpa using hb
  subst e
  exact I1.fpOk (Nat.le_refl _) (I1.hok.fresh (Nat.le_refl _))
theorem range_it {pins : List (Addr × Obj)} {σ : St} {H : Hp} {s : Shared} {R : It → Hp → Prop} {E : Value → Shared → Prop} {lo hi : Int} {t u v : Tok} {tk : Nat} (I : Inv X pins σ H s) (h1 : -(2 ^ 62) ≤ lo) (h2 : lo < 2 ^ 62) (h3 : -(2 ^ 62) ≤ hi) (h4 : hi < 2 ^ 62)
    (q : R (Itr lo (hi - lo).toNat) H) : wpAny (model X.prog X.w) X.A (pyIter (.ref s.heap.objs.size)) (PIE X pins σ tg R) E { s with heap := s.heap.push { cls := .type "range", data := .fields #[.int lo t, .int hi u, .int 1 v] }, toks := tk } := by
  refine wpAny_pyIter_range (IsRange.new ..) (small_one h1 h2 h3 h4) ?_
  have I1 : Inv X pins σ H { s with heap := s.heap.push { cls := .type "range", data := .fields #[.int lo t, .int hi u, .int 1 v] }, toks := tk } := I.kept fun b o e => Heap.get?_push_of_some _ e
  refine ⟨(s.heap.push { cls := .type "range", data := .fields #[.int lo t, .int hi u, .int 1 v] }).objs.size, [(s.heap.push { cls := .type "range", data := .fields #[.int lo t, .int hi u, .int 1 v] }).objs.size], _, _, H, rfl,
    I1.kept (t' := tk) fun b o e => Heap.get?_push_of_some _ e, turn_range _ lo (hi - lo).toNat, ?_, fun b hb => ?_, q⟩
  · have e1 : lo + ((0 : Nat) : Int) * 1 = lo := by simp
    have e2 : (((hi - lo).toNat : Nat) : Int) - ((0 : Nat) : Int) = Builtin.Range.rangeSize lo hi 1 := by rw [rangeSize_one]; split <;> omega
    show IsRangeIter _ _ (lo + ((0 : Nat) : Int) * 1) ((((hi - lo).toNat : Nat) : Int) - ((0 : Nat) : Int)) 1
    rw [e1, e2]
    exact Heap.get?_push_size _ rfl
  · have e : b = (s.heap.push { cls := .type "range", data := .fields #[.int lo t, .int hi u, .int 1 v] }).objs.size := by simpa using hb
    subst e
    exact I1.fpOk (Nat.le_refl _) (I1.hok.fresh (Nat.le_refl _))
noncomputable def iRng1 (ta : TA) : TI := fun σ H R => ta σ H fun vs H1 => ∃ j : Int, vs = [.int j] ∧ -(2 ^ 62) ≤ j ∧ j < 2 ^ 62 ∧ R (Itr 0 j.toNat) H1
theorem pi_range1 {a : Expr} {ta : TA} {p pos : Pos} (hg : Gl X "range") (hm : X.mg "range" = none) (ha : PA X [a] ta) (hs : starEach [a] X.env = [(false, eval a X.env)] := by rfl) : PI X tg (.Call (.Name "range" p) [a] [] pos) (iRng1 ta) := by
  intro pins s σ H R I h
  refine Call_ (ld_blt I hg hm boot_range (PyProof.Rows.callWith_type1 (thn (ha pos pins s σ H _ I h) fun us s1 ⟨vs, H1, I1, r1, q1⟩ => ?_) hs rfl))
  obtain ⟨j, e, q1, q2, q⟩ := q1
  subst e
  cases r1 with
  | cons r rr =>
    cases rr
    obtain ⟨t, rfl⟩ := r
    exact call_range_1 (range_it I1 (by omega) (by omega) q1 q2 (by simpa using q))
noncomputable def tFor (wi : TI) (g : TG) (tb : TS) : TS := fun D σ H => wi σ H fun J H1 => ∃ W : Nat → Nat → St → Hp → Prop, (∃ m, W 0 m σ H1) ∧ ∀ i m σ H, W i m σ H →
  (J.stop i H ∧ D.nx σ H) ∨ (J.go i H ∧ ∃ N : St → Hp → Prop, (∀ σ' H', N σ' H' → ∃ m', m' < m ∧ W (i + 1) m' σ' H') ∧ ∀ x H', J.yld i H x H' → g x σ H' fun σ2 H2 => tb { D with nx := N, ct := N, bk := D.nx } σ2 H2)
noncomputable def pinsAt (fp : List Addr) (h : Heap) : List (Addr × Obj) := fp.filterMap fun b => (h.get? b).map fun o => (b, o)
theorem mem_pinsAt {fp : List Addr} {h : Heap} {b : Addr} {o : Obj} (hb : b ∈ fp) (e : h.get? b = some o) : (b, o) ∈ pinsAt fp h := List.mem_filterMap.mpr ⟨b, hb, by rw [e]; rfl⟩
theorem of_pinsAt {fp : List Addr} {h : Heap} {p : Addr × Obj} (hp : p ∈ pinsAt fp h) : p.1 ∈ fp ∧ h.get? p.1 = some p.2 := by
  obtain ⟨b, hb, e⟩ := List.mem_filterMap.mp hp
  cases q : h.get? b with
  | none => rw [q] at e; cases e
  | some o =>
    rw [q] at e
    have e' : (b, o) = p := Option.some.inj e
    subst e'
    exact ⟨hb, q⟩
theorem Inv.pinned {pins : List (Addr × Obj)} {σ : St} {H : Hp} {s : Shared} {fp : List Addr} (I : Inv X pins σ H s) (hf : ∀ b ∈ fp, FpOk X pins H b) (ho : ∀ b ∈ fp, ∃ o, s.heap.get? b = some o ∧ ∀ v, o.data ≠ .cell v) : Inv X (pins ++ pinsAt fp s.heap) σ H s :=
  I.pins_of fun p hp => (List.mem_append.mp hp).elim (fun z => I.pin p (List.mem_append_right _ z)) fun z => by
    obtain ⟨hb, e⟩ := of_pinsAt z
    obtain ⟨f0, f1, f2, _⟩ := hf p.1 hb
    obtain ⟨o, e', d⟩ := ho p.1 hb
    rw [e] at e'; cases e'
    exact ⟨e, f0, f1, f2, d⟩
theorem Inv.unpinned {pins pl : List (Addr × Obj)} {σ : St} {H : Hp} {s : Shared} (I : Inv X (pins ++ pl) σ H s) : Inv X pins σ H s := I.pins_of fun p hp => I.pin p (List.mem_append_right _ (List.mem_append_left _ hp))
theorem ps_for {iter : Expr} {body : List Stmt} {wi : TI} {g : TG} {tb : TS} {pos : Pos} (hp : PassesOwn (model X.prog X.w) X.A X.env X.xe) (hc : X.calm = true) (hi : PI X tg iter wi) (hg : PG X tg g) (hb : PSs X body tb)
    (hs : ∀ x, foldedSetIterable iter X.env x = pure x := by intro _; rfl) : PS X (.For tg iter body [] pos) (tFor wi g tb) := by
  intro pins s σ H D I h
  refine wpAny_For (thn (hi pins s σ H _ I h) fun v s1 h1 => thn h1 fun itv s2 h2 => ?_) hs
  obtain ⟨it, fp, tn, J, H2, e, I2, T, st2, f2, W, ⟨m0, w0⟩, turn⟩ := h2
  subst e
  have stat : ∀ {H' : Hp}, (∀ b ∈ fp, H' b = none) → ∀ b ∈ fp, FpOk X pins H' b := fun hn b hb => ⟨hn b hb, (f2 b hb).2⟩
  refine codeAny_forLoop_any (fun n s' => ∃ i σ' H', Inv X pins σ' H' s' ∧ tn i s'.heap ∧ (∀ b ∈ fp, H' b = none) ∧ W i n σ' H') ?_ m0 ⟨0, σ, H2, I2, st2, fun b hb => (f2 b hb).1, w0⟩
  rintro n s3 ⟨i, σ3, H3, I3, st3, fr3, w3⟩
  rcases turn i n σ3 H3 w3 with ⟨stop, qn⟩ | ⟨go, N, hN, step⟩
  · refine wpAny_passesOwn hp (thn (T.done X rfl rfl rfl hc i pins s3 σ3 H3 X.xe I3 (stat fr3) st3 stop) fun r s4 ⟨hr, I4⟩ => ?_)
    subst hr
    exact wpAny_execs_nil ⟨σ3, H3, I4, qn⟩
  · refine wpAny_passesOwn hp (thn (T.item X rfl rfl rfl hc i pins s3 σ3 H3 X.xe I3 (stat fr3) st3 go) fun r s4 ⟨u, hr, h4⟩ => ?_)
    subst hr
    refine wpAny_passesOwn hp (thn h4 fun _ s5 ⟨x, H5, I5, r5, y5, st5, fr5⟩ => ?_)
    have I5' := I5.pinned (stat fr5) (T.obj _ _ st5)
    refine wpAny_passesOwn hp (thn (hg _ s5 σ3 H5 x u _ I5' r5 (step x H5 y5)) fun _ s6 ⟨σ6, H6, I6, q6⟩ => ?_)
    refine wpAny_passesOwn hp (thn (hb _ s6 σ6 H6 _ I6 q6) fun f s7 q7 => ?_)
    have again : ∀ {σ7 : St} {H7 : Hp}, Inv X (pins ++ pinsAt fp s5.heap) σ7 H7 s7 → N σ7 H7 → ∃ m, m < n ∧ ∃ i σ' H', Inv X pins σ' H' s7 ∧ tn i s7.heap ∧ (∀ b ∈ fp, H' b = none) ∧ W i m σ' H' := fun {σ7 H7} I7 n7 => by
      obtain ⟨m', hm, w7⟩ := hN σ7 H7 n7
      refine ⟨m', hm, i + 1, σ7, H7, I7.unpinned, T.keep _ _ _ st5 fun b hb o e => (I7.pin (b, o) (List.mem_append_right _ (List.mem_append_right _ (mem_pinsAt hb e)))).1, fun b hb => ?_, w7⟩
      obtain ⟨o, e, d⟩ := T.obj _ _ st5 b hb
      exact (I7.pin (b, o) (List.mem_append_right _ (List.mem_append_right _ (mem_pinsAt hb e)))).2.1
    cases f with
    | next => obtain ⟨σ7, H7, I7, n7⟩ := q7; exact again I7 n7
    | cont => obtain ⟨σ7, H7, I7, n7⟩ := q7; exact again I7 n7
    | brk => obtain ⟨σ7, H7, I7, q7⟩ := q7; exact ⟨σ7, H7, I7.unpinned, q7⟩
    | ret v => obtain ⟨x7, σ7, H7, I7, r7, q7⟩ := q7; exact ⟨x7, σ7, H7, I7.unpinned, r7, q7⟩
end
theorem for_list {K : PySem.W.Frag} {a : Addr} {xs : List V} {g : TG} {tb : TS} {D : Ends} {σ : St} {H : Hp} (Pv : Nat → St → Hp → Prop) (h0 : Pv 0 σ H) (hl : ∀ i σ H, i ≤ xs.length → Pv i σ H → SqL K H a xs)
    (hs : ∀ i x σ H, xs[i]? = some x → Pv i σ H → g x σ H fun σ2 H2 => tb { D with nx := Pv (i + 1), ct := Pv (i + 1), bk := D.nx } σ2 H2) (hd : ∀ σ H, Pv xs.length σ H → D.nx σ H) :
    ∃ W : Nat → Nat → St → Hp → Prop, (∃ m, W 0 m σ H) ∧ ∀ i m σ H, W i m σ H →
      ((Itl K a).stop i H ∧ D.nx σ H) ∨ ((Itl K a).go i H ∧ ∃ N : St → Hp → Prop, (∀ σ' H', N σ' H' → ∃ m', m' < m ∧ W (i + 1) m' σ' H') ∧ ∀ x H', (Itl K a).yld i H x H' → g x σ H' fun σ2 H2 => tb { D with nx := N, ct := N, bk := D.nx } σ2 H2) := by
  refine ⟨fun i m σ H => m = xs.length - i ∧ i ≤ xs.length ∧ Pv i σ H, ⟨xs.length, by simp, Nat.zero_le _, h0⟩, ?_⟩
  rintro i m σ H ⟨rfl, hi, p⟩
  have q := hl i σ H hi p
  by_cases hlt : i < xs.length
  · refine .inr ⟨⟨xs, xs[i], q, by simp [hlt]⟩, Pv (i + 1), fun σ' H' p' => ⟨xs.length - (i + 1), by omega, rfl, hlt, p'⟩, fun x H' y => ?_⟩
    obtain ⟨e, y⟩ := y
    subst e
    exact hs i x σ _ (y xs q) p
  · have e : i = xs.length := by omega
    subst e
    exact .inl ⟨⟨xs, q, Nat.le_refl _⟩, hd σ H p⟩
theorem for_tup {K : PySem.W.Frag} {a : Addr} {xs : List V} {g : TG} {tb : TS} {D : Ends} {σ : St} {H : Hp} (Pv : Nat → St → Hp → Prop) (h0 : Pv 0 σ H) (hl : ∀ i σ H, i ≤ xs.length → Pv i σ H → SqT K H a xs)
    (hs : ∀ i x σ H, xs[i]? = some x → Pv i σ H → g x σ H fun σ2 H2 => tb { D with nx := Pv (i + 1), ct := Pv (i + 1), bk := D.nx } σ2 H2) (hd : ∀ σ H, Pv xs.length σ H → D.nx σ H) :
    ∃ W : Nat → Nat → St → Hp → Prop, (∃ m, W 0 m σ H) ∧ ∀ i m σ H, W i m σ H →
      ((Itt K a).stop i H ∧ D.nx σ H) ∨ ((Itt K a).go i H ∧ ∃ N : St → Hp → Prop, (∀ σ' H', N σ' H' → ∃ m', m' < m ∧ W (i + 1) m' σ' H') ∧ ∀ x H', (Itt K a).yld i H x H' → g x σ H' fun σ2 H2 => tb { D with nx := N, ct := N, bk := D.nx } σ2 H2) := by
  refine ⟨fun i m σ H => m = xs.length - i ∧ i ≤ xs.length ∧ Pv i σ H, ⟨xs.length, by simp, Nat.zero_le _, h0⟩, ?_⟩
  rintro i m σ H ⟨rfl, hi, p⟩
  have q := hl i σ H hi p
  by_cases hlt : i < xs.length
  · refine .inr ⟨⟨xs, xs[i], q, by simp [hlt]⟩, Pv (i + 1), fun σ' H' p' => ⟨xs.length - (i + 1), by omega, rfl, hlt, p'⟩, fun x H' y => ?_⟩
    obtain ⟨e, y⟩ := y
    subst e
    exact hs i x σ _ (y xs q) p
  · have e : i = xs.length := by omega
    subst e
    exact .inl ⟨⟨xs, q, Nat.le_refl _⟩, hd σ H p⟩
theorem for_range {lo : Int} {n : Nat} {g : TG} {tb : TS} {D : Ends} {σ : St} {H : Hp} (Pv : Nat → St → Hp → Prop) (h0 : Pv 0 σ H)
    (hs : ∀ i σ H, i < n → Pv i σ H → g (.int (lo + i)) σ H fun σ2 H2 => tb { D with nx := Pv (i + 1), ct := Pv (i + 1), bk := D.nx } σ2 H2) (hd : ∀ σ H, Pv n σ H → D.nx σ H) :
    ∃ W : Nat → Nat → St → Hp → Prop, (∃ m, W 0 m σ H) ∧ ∀ i m σ H, W i m σ H →
      ((Itr lo n).stop i H ∧ D.nx σ H) ∨ ((Itr lo n).go i H ∧ ∃ N : St → Hp → Prop, (∀ σ' H', N σ' H' → ∃ m', m' < m ∧ W (i + 1) m' σ' H') ∧ ∀ x H', (Itr lo n).yld i H x H' → g x σ H' fun σ2 H2 => tb { D with nx := N, ct := N, bk := D.nx } σ2 H2) := by
  refine ⟨fun i m σ H => m = n - i ∧ i ≤ n ∧ Pv i σ H, ⟨n, by simp, Nat.zero_le _, h0⟩, ?_⟩
  rintro i m σ H ⟨rfl, hi, p⟩
  by_cases hlt : i < n
  · refine .inr ⟨hlt, Pv (i + 1), fun σ' H' p' => ⟨n - (i + 1), by omega, rfl, hlt, p'⟩, fun x H' y => ?_⟩
    obtain ⟨e, y⟩ := y
    subst e y
    exact hs i σ _ hlt p
  · have e : i = n := by omega
    subst e
    exact .inl ⟨Nat.le_refl _, hd σ H p⟩
theorem while_by {c : TT} {tb : TS} {D : Ends} {σ : St} {H : Hp} (Pv : St → Hp → Prop) (μ : St → Hp → Nat) (h0 : Pv σ H)
    (hs : ∀ σ H, Pv σ H → c σ H fun b H1 => if b = true then tb { D with nx := fun σ' H' => Pv σ' H' ∧ μ σ' H' < μ σ H, ct := fun σ' H' => Pv σ' H' ∧ μ σ' H' < μ σ H, bk := D.nx } σ H1 else D.nx σ H1)
    (mono : ∀ σ H Q Q', (∀ b H1, Q b H1 → Q' b H1) → c σ H Q → c σ H Q') : tWhile c tb D σ H := by
  refine ⟨fun m σ H => m = μ σ H ∧ Pv σ H, ⟨_, rfl, h0⟩, ?_⟩
  rintro m σ H ⟨rfl, p⟩
  refine mono σ H _ _ (fun b H1 q => ?_) (hs σ H p)
  cases b with
  | true => exact ⟨_, fun σ' H' ⟨p', l⟩ => ⟨_, l, rfl, p'⟩, q⟩
  | false => exact q
end L2
namespace L2
open PySem PySem.Spec PyProof.Rows
noncomputable abbrev R2 := V → V → Hp → VK → Prop
noncomputable def OpR (X : Cx) (f : Value → Value → Sem Value) (r : R2) : Prop :=
  ∀ (pins : List (Addr × Obj)) (s : Shared) (σ : St) (H : Hp) (x y : V) (v u : Value) (Q : VK), Inv X pins σ H s → RelV x v → RelV y u → r x y H Q →
    wpAny (model X.prog X.w) X.A (f v u) (EP X pins σ Q) X.xe s
noncomputable def UnR (X : Cx) (f : Value → Sem Value) (r : V → Hp → VK → Prop) : Prop :=
  ∀ (pins : List (Addr × Obj)) (s : Shared) (σ : St) (H : Hp) (x : V) (v : Value) (Q : VK), Inv X pins σ H s → RelV x v → r x H Q →
    wpAny (model X.prog X.w) X.A (f v) (EP X pins σ Q) X.xe s
noncomputable def CallR (X : Cx) (f : Value) (r : List V → Hp → VK → Prop) : Prop :=
  ∀ (pins : List (Addr × Obj)) (s : Shared) (σ : St) (H : Hp) (xs : List V) (us : List Value) (Q : VK), Inv X pins σ H s → Vals xs us → r xs H Q →
    wpAny (model X.prog X.w) X.A (call f us) (EP X pins σ Q) X.xe s
noncomputable def tOp (r : R2) (ta tb : TE) : TE := fun σ H Q => ta σ H fun x H1 => tb σ H1 fun y H2 => r x y H2 Q
noncomputable def tUn (r : V → Hp → VK → Prop) (ta : TE) : TE := fun σ H Q => ta σ H fun x H1 => r x H1 Q
noncomputable def rI (C : Int → Int → Prop) (g : Int → Int → V) : R2 := fun x y H Q => ∃ i j, x = .int i ∧ y = .int j ∧ C i j ∧ Q (g i j) H
noncomputable def rI0 (g : Int → Int → V) : R2 := fun x y H Q => ∃ i j, x = .int i ∧ y = .int j ∧ Q (g i j) H
noncomputable def rU (g : Int → V) : V → Hp → VK → Prop := fun x H Q => ∃ i, x = .int i ∧ Q (g i) H
section
variable {X : Cx} {a b c : Expr} {ta tb tc : TE} {pos : Pos}
theorem binT (ha : PE X a ta) (hb : PE X b tb) {pins : List (Addr × Obj)} {s : Shared} {σ : St} {H : Hp} {R : V → V → Hp → Prop} (I : Inv X pins σ H s)
    (h : ta σ H fun x H1 => tb σ H1 fun y H2 => R x y H2) {Q : Value → Shared → Prop} {f : Value → Value → Sem Value}
    (hf : ∀ v u s2 x y H2, Inv X pins σ H2 s2 → RelV x v → RelV y u → R x y H2 → wpAny (model X.prog X.w) X.A (f v u) Q X.xe s2) :
    wpAny (model X.prog X.w) X.A (eval a X.env) (fun v s₁ => wpAny (model X.prog X.w) X.A (eval b X.env) (fun u s₂ => wpAny (model X.prog X.w) X.A (f v u) Q X.xe s₂) X.xe s₁) X.xe s := by
  refine thn (ha pins s σ H _ I h) fun v s1 ⟨x, H1, I1, r1, q1⟩ => ?_
  refine thn (hb pins s1 σ H1 _ I1 q1) fun u s2 ⟨y, H2, I2, r2, q2⟩ => ?_
  exact hf v u s2 x y H2 I2 r1 r2 q2
theorem pe_op {op : Operator} {r : R2} (ho : OpR X (binaryOp op) r) (ha : PE X a ta) (hb : PE X b tb) : PE X (.BinOp a op b pos) (tOp r ta tb) := by
  intro pins s σ H Q I h
  exact wpAny_BinOp (binT ha hb I h fun v u s2 x y H2 I2 rx ry q => ho pins s2 σ H2 x y v u Q I2 rx ry q)
theorem pe_un {op : UnaryOp} {r : V → Hp → VK → Prop} (ho : UnR X (unaryOp op) r) (ha : PE X a ta) : PE X (.UnaryOp op a pos) (tUn r ta) := by
  intro pins s σ H Q I h
  exact UnaryOp_ (thn (ha pins s σ H _ I h) fun v s1 ⟨x, H1, I1, r1, q1⟩ => ho pins s1 σ H1 x v Q I1 r1 q1)
theorem opI {f : Value → Value → Sem Value} {C : Int → Int → Prop} {g : Int → Int → Int}
    (rule : ∀ (i j : Int) (t u : Tok) (s : Shared) (Q : Value → Shared → Prop) (E : Value → Shared → Prop), C i j → Q (.int (g i j) s.toks) { s with toks := s.toks + 1 } → wpAny (model X.prog X.w) X.A (f (.int i t) (.int j u)) Q E s) :
    OpR X f (rI C fun i j => .int (g i j)) := by
  intro pins s σ H x y v u Q I rx ry h
  obtain ⟨i, j, rfl, rfl, hc, q⟩ := h
  obtain ⟨t, rfl⟩ := rx
  obtain ⟨t', rfl⟩ := ry
  exact rule i j t t' s _ _ hc ⟨.int (g i j), H, I.tok _, ⟨_, rfl⟩, q⟩
theorem opI0 {f : Value → Value → Sem Value} {g : Int → Int → Int}
    (rule : ∀ (i j : Int) (t u : Tok) (s : Shared) (Q : Value → Shared → Prop) (E : Value → Shared → Prop), Q (.int (g i j) s.toks) { s with toks := s.toks + 1 } → wpAny (model X.prog X.w) X.A (f (.int i t) (.int j u)) Q E s) :
    OpR X f (rI0 fun i j => .int (g i j)) := by
  intro pins s σ H x y v u Q I rx ry h
  obtain ⟨i, j, rfl, rfl, q⟩ := h
  obtain ⟨t, rfl⟩ := rx
  obtain ⟨t', rfl⟩ := ry
  exact rule i j t t' s _ _ ⟨.int (g i j), H, I.tok _, ⟨_, rfl⟩, q⟩
theorem opB0 {f : Value → Value → Sem Value} {g : Int → Int → Bool}
    (rule : ∀ (i j : Int) (t u : Tok) (s : Shared) (Q : Value → Shared → Prop) (E : Value → Shared → Prop), Q (.bool (g i j)) s → wpAny (model X.prog X.w) X.A (f (.int i t) (.int j u)) Q E s) :
    OpR X f (rI0 fun i j => .bl (g i j)) := by
  intro pins s σ H x y v u Q I rx ry h
  obtain ⟨i, j, rfl, rfl, q⟩ := h
  obtain ⟨t, rfl⟩ := rx
  obtain ⟨t', rfl⟩ := ry
  exact rule i j t t' s _ _ ⟨.bl (g i j), H, I, rfl, q⟩
noncomputable def CDiv (i j : Int) : Prop := 0 < j ∧ j < 1073741824
noncomputable def CPow (i j : Int) : Prop := 0 ≤ j ∧ j ≤ 1000000 ∧ i.natAbs < 2 ^ 64
noncomputable def CMul (i j : Int) : Prop := (-(2 ^ 64) < i ∧ i < 2 ^ 64) ∨ (-(2 ^ 64) < j ∧ j < 2 ^ 64)
theorem CMul.ok {i j : Int} (h : CMul i j) : IntMulOk i j := by
  rcases h with ⟨h1, h2⟩ | ⟨h1, h2⟩
  · exact .of_left (intBits_le_64 h1 h2)
  · exact .of_right (intBits_le_64 h1 h2)
theorem op_add : OpR X (binaryOp .Add) (rI0 fun i j => .int (i + j)) := opI0 fun _ _ _ _ _ _ _ q => add_int q
theorem op_sub : OpR X (binaryOp .Sub) (rI0 fun i j => .int (i - j)) := opI0 fun _ _ _ _ _ _ _ q => sub_int q
theorem op_mul : OpR X (binaryOp .Mult) (rI CMul fun i j => .int (i * j)) := opI fun _ _ _ _ _ _ _ hc q => mul_int q hc.ok
theorem op_fdiv : OpR X (binaryOp .FloorDiv) (rI CDiv fun i j => .int (i / j)) := opI fun i j _ _ _ _ _ hc q => by
  have h1 : (0 : Int) < j := hc.1
  have h2 : j < 1073741824 := hc.2
  exact floordiv_int (by omega) (by rw [Int.fdiv_eq_ediv_of_nonneg i (by omega)]; exact q) (.inl (PyProof.noPylong_small (by omega)))
theorem op_mod : OpR X (binaryOp .Mod) (rI (fun _ j => 0 < j) fun i j => .int (i % j)) := opI fun i j _ _ _ _ _ hc q => by
  have h1 : (0 : Int) < j := hc
  exact mod_int' (by omega) (by rw [Int.fmod_eq_emod_of_nonneg i (by omega)]; exact q)
theorem op_pow : OpR X (binaryOp .Pow) (rI CPow fun i j => .int (i ^ j.toNat)) := opI fun _ _ _ _ _ _ _ hc q => pow_int_small hc.1 hc.2.1 hc.2.2 q
theorem unI {f : Value → Sem Value} {g : Int → Int}
    (rule : ∀ (i : Int) (t : Tok) (s : Shared) (Q : Value → Shared → Prop) (E : Value → Shared → Prop), Q (.int (g i) s.toks) { s with toks := s.toks + 1 } → wpAny (model X.prog X.w) X.A (f (.int i t)) Q E s) :
    UnR X f (rU fun i => .int (g i)) := by
  intro pins s σ H x v Q I rx h
  obtain ⟨i, rfl, q⟩ := h
  obtain ⟨t, rfl⟩ := rx
  exact rule i t s _ _ ⟨.int (g i), H, I.tok _, ⟨_, rfl⟩, q⟩
theorem un_neg : UnR X (unaryOp .USub) (rU fun i => .int (-i)) := unI fun _ _ _ _ _ q => neg_int q
end
noncomputable def scal : V → V → Bool
  | .non, .non => true | .non, .int _ => true | .int _, .non => true | .non, .bl _ => true | .bl _, .non => true | .non, .str _ => true | .str _, .non => true
  | .int _, .int _ => true | .bl _, .bl _ => true | .str _, .str _ => true | .byt _, .byt _ => true
  | .int _, .str _ => true | .str _, .int _ => true | .bl _, .str _ => true | .str _, .bl _ => true
  | _, _ => false
noncomputable def rEq : R2 := fun x y H Q => scal x y = true ∧ Q (.bl (decide (x = y))) H
noncomputable def rNe : R2 := fun x y H Q => scal x y = true ∧ Q (.bl (!decide (x = y))) H
theorem dec_int {i j : Int} : decide (V.int i = V.int j) = (i == j) := by
  rw [Bool.eq_iff_iff]
  simp
theorem dec_bl {i j : Bool} : decide (V.bl i = V.bl j) = (i == j) := by
  rw [Bool.eq_iff_iff]
  simp
theorem dec_str {i j : Str} : decide (V.str i = V.str j) = (i == j) := by
  rw [Bool.eq_iff_iff]
  simp
theorem dec_byt {i j : Array UInt8} : decide (V.byt i = V.byt j) = (i.toList == j.toList) := by
  rw [Bool.eq_iff_iff]
  cases i
  cases j
  simp
section
variable {X : Cx} {a b c : Expr} {ta tb tc : TE} {pos : Pos}
theorem fin_bl {pins : List (Addr × Obj)} {σ : St} {H : Hp} {s : Shared} {Q : VK} {k k' : Bool} (I : Inv X pins σ H s) (q : Q (.bl k) H) (e : k = k') : EP X pins σ Q (.bool k') s := by
  subst e
  exact ⟨.bl k, H, I, rfl, q⟩
theorem op_eq : OpR X (compareOp .Eq) rEq := by
  intro pins s σ H x y v u Q I rx ry h
  obtain ⟨hs, q⟩ := h
  cases x with
  | non =>
    cases rx
    cases y with
    | non => cases ry; exact PySem.EqNone.eq_none_none (fin_bl I q (by simp))
    | bl j => cases ry; exact PySem.EqNone.eq_none_bool (fin_bl I q (by simp))
    | int j => obtain ⟨t', rfl⟩ := ry; exact PySem.EqNone.eq_none_int (fin_bl I q (by simp))
    | str j => obtain ⟨t', rfl⟩ := ry; exact PySem.EqNone.eq_none_str (fin_bl I q (by simp))
    | _ => exact absurd (show false = true from hs) Bool.false_ne_true
  | bl i =>
    cases rx
    cases y with
    | non => cases ry; exact PySem.EqNone.eq_bool_none (fin_bl I q (by simp))
    | bl j => cases ry; exact eq_bool (fin_bl I q dec_bl)
    | str j => obtain ⟨t', rfl⟩ := ry; exact PySem.EqMixed.eq_bool_str (fin_bl I q (by simp))
    | _ => exact absurd (show false = true from hs) Bool.false_ne_true
  | int i =>
    obtain ⟨t, rfl⟩ := rx
    cases y with
    | non => cases ry; exact PySem.EqNone.eq_int_none (fin_bl I q (by simp))
    | int j => obtain ⟨t', rfl⟩ := ry; exact eq_int (fin_bl I q dec_int)
    | str j => obtain ⟨t', rfl⟩ := ry; exact PySem.EqMixed.eq_int_str (fin_bl I q (by simp))
    | _ => exact absurd (show false = true from hs) Bool.false_ne_true
  | str i =>
    obtain ⟨t, rfl⟩ := rx
    cases y with
    | non => cases ry; exact PySem.EqNone.eq_str_none (fin_bl I q (by simp))
    | bl j => cases ry; exact PySem.EqMixed.eq_str_bool (fin_bl I q (by simp))
    | int j => obtain ⟨t', rfl⟩ := ry; exact PySem.EqMixed.eq_str_int (fin_bl I q (by simp))
    | str j => obtain ⟨t', rfl⟩ := ry; exact eq_str (fin_bl I q dec_str)
    | _ => exact absurd (show false = true from hs) Bool.false_ne_true
  | byt i =>
    obtain ⟨t, rfl⟩ := rx
    cases y with
    | byt j => obtain ⟨t', rfl⟩ := ry; exact PySem.W.eq_bytes (fin_bl I q dec_byt)
    | _ => exact absurd (show false = true from hs) Bool.false_ne_true
  | _ => cases y <;> exact absurd (show false = true from hs) Bool.false_ne_true
theorem op_ne : OpR X (compareOp .NotEq) rNe := by
  intro pins s σ H x y v u Q I rx ry h
  obtain ⟨hs, q⟩ := h
  cases x with
  | non =>
    cases rx
    cases y with
    | non => cases ry; exact PySem.EqNone.ne_none_none (fin_bl I q (by simp))
    | bl j => cases ry; exact PySem.EqNone.ne_none_bool (fin_bl I q (by simp))
    | int j => obtain ⟨t', rfl⟩ := ry; exact PySem.EqNone.ne_none_int (fin_bl I q (by simp))
    | str j => obtain ⟨t', rfl⟩ := ry; exact PySem.EqNone.ne_none_str (fin_bl I q (by simp))
    | _ => exact absurd (show false = true from hs) Bool.false_ne_true
  | bl i =>
    cases rx
    cases y with
    | non => cases ry; exact PySem.EqNone.ne_bool_none (fin_bl I q (by simp))
    | bl j => cases ry; exact ne_bool (fin_bl I q (congrArg not dec_bl))
    | str j => obtain ⟨t', rfl⟩ := ry; exact PySem.EqMixed.ne_bool_str (fin_bl I q (by simp))
    | _ => exact absurd (show false = true from hs) Bool.false_ne_true
  | int i =>
    obtain ⟨t, rfl⟩ := rx
    cases y with
    | non => cases ry; exact PySem.EqNone.ne_int_none (fin_bl I q (by simp))
    | int j => obtain ⟨t', rfl⟩ := ry; exact ne_int (fin_bl I q (congrArg not dec_int))
    | str j => obtain ⟨t', rfl⟩ := ry; exact PySem.EqMixed.ne_int_str (fin_bl I q (by simp))
    | _ => exact absurd (show false = true from hs) Bool.false_ne_true
  | str i =>
    obtain ⟨t, rfl⟩ := rx
    cases y with
    | non => cases ry; exact PySem.EqNone.ne_str_none (fin_bl I q (by simp))
    | bl j => cases ry; exact PySem.EqMixed.ne_str_bool (fin_bl I q (by simp))
    | int j => obtain ⟨t', rfl⟩ := ry; exact PySem.EqMixed.ne_str_int (fin_bl I q (by simp))
    | str j => obtain ⟨t', rfl⟩ := ry; exact ne_str (fin_bl I q (congrArg not dec_str))
    | _ => exact absurd (show false = true from hs) Bool.false_ne_true
  | byt i =>
    obtain ⟨t, rfl⟩ := rx
    cases y with
    | byt j => obtain ⟨t', rfl⟩ := ry; exact PySem.W.ne_bytes (fin_bl I q (congrArg not dec_byt))
    | _ => exact absurd (show false = true from hs) Bool.false_ne_true
  | _ => cases y <;> exact absurd (show false = true from hs) Bool.false_ne_true
theorem op_lt : OpR X (compareOp .Lt) (rI0 fun i j => .bl (decide (i < j))) := opB0 fun _ _ _ _ _ _ _ q => lt_int q
theorem op_le : OpR X (compareOp .LtE) (rI0 fun i j => .bl (decide (i ≤ j))) := opB0 fun _ _ _ _ _ _ _ q => le_int q
theorem op_gt : OpR X (compareOp .Gt) (rI0 fun i j => .bl (decide (j < i))) := opB0 fun _ _ _ _ _ _ _ q => gt_int q
theorem op_ge : OpR X (compareOp .GtE) (rI0 fun i j => .bl (decide (j ≤ i))) := opB0 fun _ _ _ _ _ _ _ q => ge_int q
theorem nomark (b : Expr) {op : CmpOp} (h : op ≠ .In := by decide) (h2 : op ≠ .NotIn := by decide) : behindInMarks op b = false := by
  have e1 : (op == CmpOp.In) = false := by cases op <;> first | rfl | exact absurd rfl h
  have e2 : (op == CmpOp.NotIn) = false := by cases op <;> first | rfl | exact absurd rfl h2
  cases b <;> simp [behindInMarks, e1, e2]
theorem pe_cmpR {op : CmpOp} {r : R2} (ho : OpR X (compareOp op) r) (ha : PE X a ta) (hb : PE X b tb) (hm : behindInMarks op b = false) : PE X (.Compare a [op] [b] pos) (tOp r ta tb) := by
  intro pins s σ H Q I h
  exact wpAny_Compare1 (binT ha hb I h fun v u s2 x y H2 I2 rx ry q => ho pins s2 σ H2 x y v u Q I2 rx ry q) hm
noncomputable def tTest (t : TE) : TT := fun σ H Q => t σ H fun x H' => ∃ k, x = .bl k ∧ Q k H'
theorem pt_cmpR {op : CmpOp} {r : R2} (ho : OpR X (compareOp op) r) (ha : PE X a ta) (hb : PE X b tb) (hm : behindInMarks op b = false) : PT X (.Compare a [op] [b] pos) (tTest (tOp r ta tb)) := by
  intro pins s σ H Q I h
  refine wpAny_isTrue_Compare1 (thn (ha pins s σ H _ I h) fun v s1 ⟨x, H1, I1, r1, q1⟩ => thn (hb pins s1 σ H1 _ I1 q1) fun u s2 ⟨y, H2, I2, r2, q2⟩ =>
    thn (ho pins s2 σ H2 x y v u _ I2 r1 r2 q2) fun c s3 ⟨z, H3, I3, r3, k, e, q3⟩ => ?_) hm
  subst e
  cases r3
  exact wpAny_truthy_bool ⟨H3, I3, q3⟩
noncomputable def tChain (r r' : R2) (ta tb tc : TE) : TE := fun σ H Q => ta σ H fun x H1 => tb σ H1 fun y H2 => r x y H2 fun z H3 => ∃ k, z = .bl k ∧
  (if k = true then tc σ H3 fun w' H4 => r' y w' H4 Q else Q (.bl false) H3)
theorem pt_chain {op op' : CmpOp} {r r' : R2} (ho : OpR X (compareOp op) r) (ho' : OpR X (compareOp op') r') (ha : PE X a ta) (hb : PE X b tb) (hc : PE X c tc)
    (hm : lastMarks [op, op'] [b, c] = false := by with_unfolding_all rfl) : PT X (.Compare a [op, op'] [b, c] pos) (tTest (tChain r r' ta tb tc)) := by
  intro pins s σ H Q I h
  refine isTrue_chain (thn (ha pins s σ H _ I h) fun v s1 ⟨x, H1, I1, r1, q1⟩ => test_link (thn (hb pins s1 σ H1 _ I1 q1) fun u s2 ⟨y, H2, I2, r2, q2⟩ =>
    thn (ho pins s2 σ H2 x y v u _ I2 r1 r2 q2) fun d s3 ⟨z, H3, I3, r3, k, e, q3⟩ => ?_)) hm
  subst e
  cases r3
  refine wpAny_truthy_bool ?_
  cases k with
  | false =>
    obtain ⟨k', e', q'⟩ := q3
    cases e'
    exact ite_ff ⟨H3, I3, q'⟩
  | true =>
    refine ite_tt (test_last (thn (hc pins s3 σ H3 _ I3 q3) fun w' s4 ⟨z', H4, I4, r4, q4⟩ => thn (ho' pins s4 σ H4 y z' u w' _ I4 r2 r4 q4) fun d' s5 ⟨z2, H5, I5, r5, k2, e2, q5⟩ => ?_))
    subst e2
    cases r5
    exact wpAny_truthy_bool ⟨H5, I5, q5⟩
theorem line63 : (sizeLine : Nat) < 2 ^ 63 := by rw [sizeLine_eq]; decide
theorem vals1 {x : V} {us : List Value} (r : Vals [x] us) : ∃ u, us = [u] ∧ RelV x u := by
  cases r with
  | cons r1 r2 => cases r2; exact ⟨_, rfl, r1⟩
theorem vals2 {x y : V} {us : List Value} (r : Vals [x, y] us) : ∃ u w', us = [u, w'] ∧ RelV x u ∧ RelV y w' := by
  cases r with
  | cons r1 r2 =>
    cases r2 with
    | cons r3 r4 => cases r4; exact ⟨_, _, rfl, r1, r3⟩
end
end L2
namespace L2
open PySem PySem.Spec PyProof.Rows
structure ObjM (h : Heap) (x dx C : Addr) (mA : Str → Option Value) : Prop where
  obj : h.get? x = some (PySem.W.instObj C dx)
  ns : h.Ns1 dx mA
  ne : dx ≠ x
theorem lookIn_ns {h : Heap} {dx : Addr} {mA : Str → Option Value} (n : h.Ns1 dx mA) : ∃ od, h.get? dx = some od ∧ ∀ name, PySem.W.lookIn name od = some (mA name) := by
  obtain ⟨o, es, ep, ho, hd, hk, _, hm⟩ := n
  refine ⟨o, ho, fun name => ?_⟩
  have e := hm name
  unfold nsFind findBy at e
  rw [← Array.find?_toList] at e
  unfold PySem.W.lookIn
  rw [hd]
  dsimp only
  split
  · rename_i y q
    rw [q] at e
    exact congrArg some e
  · rename_i q
    rw [q] at e
    have a : es.toList.any (·.refKey) = false := by
      rw [List.any_eq_false]
      intro y hy
      obtain ⟨z, t, hkey⟩ := hk y (Array.mem_toList_iff.mp hy)
      simp [DictEntry.refKey, hkey]
    have a' : ¬ es.toList.any (·.refKey) = true := by rw [a]; exact Bool.false_ne_true
    rw [if_neg a']
    exact congrArg some e
theorem ObjM.look {h : Heap} {x dx C : Addr} {mA : Str → Option Value} (I : ObjM h x dx C mA) : ∃ od, PySem.W.InstAt h x (PySem.W.instObj C dx) C (some od) ∧ ∀ name, PySem.W.lookIn name od = some (mA name) :=
  let ⟨od, ho, hl⟩ := lookIn_ns I.ns
  ⟨od, ⟨I.obj, rfl, rfl, ho⟩, hl⟩
section
variable {prog : Program} {w : World} {A : Around} {E : Value → Shared → Prop} {s : Shared} {K : PySem.W.Frag} {x dx C f : Addr} {mA : Str → Option Value} {name : Str} {v : Value}
theorem get_map {expr : Bool} {Q : Value → Shared → Prop} (X : K.In s.heap) (I : ObjM s.heap x dx C mA) (hg : PySem.W.plainGet K C name = true) (hh : PySem.W.hasDictIn K C = true)
    (ha : PySem.W.findIn K (.ref C) name = some none) (hv : mA name = some v) (hv' : PySem.W.handedIn v = true) (h : Q v { s with toks := s.toks + 1 }) :
    wpAny (model prog w) A (getAttr (.ref x) name expr) Q E s := by
  obtain ⟨od, J, hl⟩ := I.look
  exact PySem.W.get_value X J (PySem.W.plainGet_of hg).1 (PySem.W.findObj_own hh ha rfl (by rw [hl, hv])) hv' h
theorem get_meth {pl : Sem Bool} {Q : Value × List Value → Shared → Prop} (X : K.In s.heap) (I : ObjM s.heap x dx C mA) (hg : PySem.W.plainGet K C name = true)
    (hf : PySem.W.findIn K (.ref C) name = some (some (.ref f))) (ht : PySem.W.isFn K (.ref f) = true) (hv : mA name = none) (h : Q (.ref f, [.ref x]) s) :
    wpAny (model prog w) A (getMethod (.ref x) name pl) Q E s := by
  obtain ⟨od, J, hl⟩ := I.look
  exact PySem.W.method_fn X J (PySem.W.plainGet_of hg).1 (PySem.W.plainGet_of hg).2 hf (beq_iff_eq.mp ht) (by show (PySem.W.lookIn name od).map (·.isSome) = some false; rw [hl, hv]; rfl) h
theorem set_map {ns : List Str} {Q : Unit → Shared → Prop} (X : K.In s.heap) (I : ObjM s.heap x dx C mA)
    (hs : PySem.W.findIn K (.ref C) "__setattr__" = some (some (.builtin "object.__setattr__"))) (hp : PySem.W.plainOver K C = true) (ht : PySem.W.takerIn K C name = some none) (hh : PySem.W.hasDictIn K C = true)
    (hw : PySem.Within mA ns) (hsz : ns.length ≤ sizeLine)
    (h : ∀ h', ObjM h' x dx C (fun y => if y = name then some v else mA y) → Heap.SameBut dx s.heap h' → Q () { s with heap := h', toks := s.toks + 2 }) :
    wpAny (model prog w) A (setAttr (.ref x) name v) Q E s := by
  obtain ⟨od, J, hl⟩ := I.look
  refine PySem.W.set_plain X J hs (PySem.W.osa_open (s := { s with toks := s.toks + 1 }) (r := none) X J hp ht fun b => ?_)
  obtain ⟨cd, hc, hd'⟩ := PySem.W.any_some hh
  have hx : s.heap.get? x = some ⟨.ref C, some dx, .plain, #[]⟩ := I.obj
  refine wpAny_bind (wpAny_pure (wpAny_bind (wpAny_bind (wpAny_loadPart hx (wpAny_bind (PySem.W.Looks.here (s := { s with toks := s.toks + 1 }) (PySem.W.looks_clsIn X hc) ?_))))))
  rw [hd']
  refine wpAny_pure (a := some dx) (wpAny_bind (wpAny_pure (wpAny_bind ?_)))
  refine wpAny_nsSet1 (s := { s with toks := s.toks + 1 }) I.ns fun h' hn2 hs2 => ?_
  obtain ⟨oD, esD, epD, hoD, hdD, hcD⟩ := hn2.count (PySem.Within.cons name v hw)
  refine wpAny_bind (wpAny_lookBehind hoD (by rw [hdD]; exact pastItsLine_dict (Nat.le_trans hcD (by rw [List.length_cons]; omega))) ?_)
  exact wpAny_pure (h _ ⟨(hs2.2 _ (Ne.symm I.ne)).trans I.obj, hn2, I.ne⟩ hs2)
theorem make_map {R : Result → Shared → Prop} {vs : List Value} {kw : List (Str × Value)} (X : K.In s.heap) (hm : PySem.W.makesIn K C = true)
    (hi : PySem.W.findIn K (.ref C) "__init__" = some (some (.ref f))) (hf : PySem.W.typeIn K (.ref f) = some (.type "function"))
    (h : codeAny (model prog w) (A.under (.builtin "type.__call__" ⟨.ref C :: vs, kw⟩)) (.call (.ref f) ⟨.ref (s.heap.objs.size + 1) :: vs, kw⟩) (PySem.W.InitBack (s.heap.objs.size + 1) R)
      { s with heap := (s.heap.push PySem.W.emptyDict).push (PySem.W.instObj C s.heap.objs.size) }) :
    codeAny (model prog w) A (.call (.ref C) ⟨vs, kw⟩) R s := by
  obtain ⟨hh, g, d, t, os⟩ := s
  exact PySem.W.make_core (PySem.W.makes_of X hm) (PySem.W.looks_findIn X hi) (fun self => PySem.W.bind_fn X self hf) (.inl rfl) h
end
noncomputable def putF (f : Str) (v : V) : List (Str × V) → List (Str × V)
  | [] => [(f, v)]
  | (g, x) :: r => if g = f then (g, v) :: r else (g, x) :: putF f v r
theorem lookup_putF (f g : Str) (v : V) : ∀ fs : List (Str × V), (putF f v fs).lookup g = if g = f then some v else fs.lookup g
  | [] => by
    show List.lookup g [(f, v)] = _
    by_cases h : g = f
    · have hb : (g == f) = true := beq_iff_eq.mpr h
      simp only [List.lookup, hb, if_pos h]
    · have hb : (g == f) = false := beq_eq_false_iff_ne.mpr h
      simp only [List.lookup, hb, if_neg h]
  | (k, x) :: r => by
    have ih := lookup_putF f g v r
    rw [show putF f v ((k, x) :: r) = (if k = f then (k, v) :: r else (k, x) :: putF f v r) from rfl]
    by_cases hk : k = f
    · rw [if_pos hk]
      by_cases h : g = k
      · have hb : (g == k) = true := beq_iff_eq.mpr h
        simp only [List.lookup, hb, if_pos (h.trans hk)]
      · have hb : (g == k) = false := beq_eq_false_iff_ne.mpr h
        simp only [List.lookup, hb, if_neg (fun e : g = f => h (e.trans hk.symm))]
    · rw [if_neg hk]
      by_cases h : g = k
      · have hb : (g == k) = true := beq_iff_eq.mpr h
        simp only [List.lookup, hb, if_neg (fun e : g = f => hk (h.symm.trans e))]
      · have hb : (g == k) = false := beq_eq_false_iff_ne.mpr h
        simp only [List.lookup, hb]
        exact ih
theorem keys_putF (f : Str) (v : V) : ∀ fs : List (Str × V), f ∈ (putF f v fs).map (·.1) ∧ ∀ g, g ∈ fs.map (·.1) → g ∈ (putF f v fs).map (·.1)
  | [] => ⟨by simp [putF], fun g h => by simp at h⟩
  | (k, x) :: r => by
    obtain ⟨i1, i2⟩ := keys_putF f v r
    rw [show putF f v ((k, x) :: r) = (if k = f then (k, v) :: r else (k, x) :: putF f v r) from rfl]
    by_cases hk : k = f
    · rw [if_pos hk]
      subst hk
      exact ⟨by simp, fun g h => by simpa using h⟩
    · rw [if_neg hk]
      refine ⟨?_, fun g h => ?_⟩
      · rw [List.map_cons]
        exact List.mem_cons_of_mem _ i1
      · rw [List.map_cons] at h ⊢
        rcases List.mem_cons.mp h with e | e
        · exact List.mem_cons.mpr (.inl e)
        · exact List.mem_cons_of_mem _ (i2 g e)
theorem length_putF (f : Str) (v : V) : ∀ fs : List (Str × V), (putF f v fs).length ≤ fs.length + 1
  | [] => by simp [putF]
  | (k, x) :: r => by
    have ih := length_putF f v r
    rw [show putF f v ((k, x) :: r) = (if k = f then (k, v) :: r else (k, x) :: putF f v r) from rfl]
    by_cases hk : k = f
    · rw [if_pos hk, List.length_cons, List.length_cons]; omega
    · rw [if_neg hk, List.length_cons, List.length_cons]; omega
theorem RelO.some_of {v : V} {o : Option Value} (r : RelO (some v) o) : ∃ u, o = some u ∧ RelV v u := by
  cases o with
  | none => exact (show False from r).elim
  | some u => exact ⟨u, rfl, r⟩
theorem RelO.none_of {o : Option Value} (r : RelO none o) : o = none := by
  cases o with
  | none => rfl
  | some u => exact (show False from r).elim
theorem handed_of {v : V} {u : Value} (r : RelV v u) : PySem.W.handedIn u = true := by
  cases v with
  | non => cases (show u = Value.none from r); rfl
  | bl b => cases (show u = Value.bool b from r); rfl
  | int i => obtain ⟨t, e⟩ := (show ∃ t, u = Value.int i t from r); cases e; rfl
  | str x => obtain ⟨t, e⟩ := (show ∃ t, u = Value.str x t from r); cases e; rfl
  | byt b => obtain ⟨t, e⟩ := (show ∃ t, u = Value.bytes b t from r); cases e; rfl
  | flt b => obtain ⟨t, e⟩ := (show ∃ t, u = Value.float b t from r); cases e; rfl
  | ref a => cases (show u = Value.ref a from r); rfl
  | ty n => cases (show u = Value.type n from r); rfl
section
variable {P : Program} {w : World} {H H' : Hp} {h h' : Heap} {a C dx : Addr} {fs fs' : List (Str × V)}
theorem ins_get (hok : HOk P w H h) (e : H a = some (.ins C dx fs)) : ∃ mA, ObjM h a dx C mA ∧ (∀ f, RelO (fs.lookup f) (mA f)) ∧ PySem.Within mA (fs.map (·.1)) ∧ fs.length ≤ 1000 ∧ H dx = some (.own a) := by
  obtain ⟨d, z, ne, ob, mA, n, r, q⟩ := (show ObjOk P w H h a (.ins C dx fs) from hok a _ e)
  exact ⟨mA, ⟨ob, n, ne⟩, r, q, z, d⟩
end
structure Cls (K : PySem.W.Frag) (C : Addr) : Prop where
  pg : PySem.W.plainGet K C Str.empty = true
  hd : PySem.W.hasDictIn K C = true
  po : PySem.W.plainOver K C = true
  sa : PySem.W.findIn K (.ref C) "__setattr__" = some (some (.builtin "object.__setattr__"))
theorem Cls.get {K : PySem.W.Frag} {C : Addr} (c : Cls K C) (f : Str) : PySem.W.plainGet K C f = true := c.pg
noncomputable def NoAttr (K : PySem.W.Frag) (C : Addr) (f : Str) : Prop := PySem.W.findIn K (.ref C) f = some none
theorem NoAttr.taker {K : PySem.W.Frag} {C : Addr} {f : Str} (n : NoAttr K C f) : PySem.W.takerIn K C f = some none := by
  unfold PySem.W.takerIn
  rw [show PySem.W.findIn K (.ref C) f = some none from n]
  rfl
structure Meth (K : PySem.W.Frag) (C : Addr) (m : Str) (f : Addr) : Prop where
  at_ : PySem.W.findIn K (.ref C) m = some (some (.ref f))
  fn : PySem.W.isFn K (.ref f) = true
  kp : PySem.W.keepIn K (.ref f) = true
section
variable {X : Cx} {pins : List (Addr × Obj)} {σ : St} {H : Hp} {s : Shared} {a C dx : Addr} {fs : List (Str × V)} {f : Str} {v : V} {A : Around} {E : Value → Shared → Prop}
theorem getattr_ok {b : Bool} {Q : Value → Shared → Prop} (I : Inv X pins σ H s) (e : H a = some (.ins C dx fs)) (c : Cls X.K C) (n : NoAttr X.K C f) (l : fs.lookup f = some v)
    (h : ∀ u s', Inv X pins σ H s' → RelV v u → Q u s') : wpAny (model X.prog X.w) A (getAttr (.ref a) f b) Q E s := by
  obtain ⟨mA, O, r, _, _, _⟩ := ins_get I.hok e
  obtain ⟨u, hu, ru⟩ := RelO.some_of (v := v) (o := mA f) (by rw [← l]; exact r f)
  exact get_map I.kIn O (c.get f) c.hd n hu (handed_of ru) (h u _ (I.tok _) ru)
theorem getmeth_ok {m : Str} {g : Addr} {pl : Sem Bool} {Q : Value × List Value → Shared → Prop} (I : Inv X pins σ H s) (e : H a = some (.ins C dx fs)) (c : Cls X.K C) (k : Meth X.K C m g) (l : fs.lookup m = none)
    (h : Q (.ref g, [.ref a]) s) : wpAny (model X.prog X.w) A (getMethod (.ref a) m pl) Q E s := by
  obtain ⟨mA, O, r, _, _, _⟩ := ins_get I.hok e
  have hn : mA m = none := RelO.none_of (by rw [← l]; exact r m)
  exact get_meth I.kIn O (c.get m) k.at_ k.fn hn h
theorem setattr_ok {y : V} {u : Value} {Q : Unit → Shared → Prop} (I : Inv X pins σ H s) (e : H a = some (.ins C dx fs)) (c : Cls X.K C) (n : NoAttr X.K C f) (hl : fs.length < 1000) (ry : RelV y u)
    (h : ∀ s', Inv X pins σ (upd H a (.ins C dx (putF f y fs))) s' → Q () s') : wpAny (model X.prog X.w) A (setAttr (.ref a) f u) Q E s := by
  obtain ⟨mA, O, r, wi, _, ho⟩ := ins_get I.hok e
  have hz : (fs.map (·.1)).length ≤ sizeLine := by rw [List.length_map, sizeLine_eq]; omega
  refine set_map I.kIn O c.sa c.po n.taker c.hd wi hz fun h' O' sb => h _ ?_
  have hd : ∃ o, h'.get? dx = some o := let ⟨o, _, _, e', _⟩ := O'.ns; ⟨o, e'⟩
  refine I.write (x := a) (e := dx) (by rw [e]; exact True.intro) (.inr ho) (fun b q hb z => (sb.2 b hb).trans z) hd ?_
  refine ⟨by rw [upd_ne O.ne]; exact ho, ?_, O.ne, O'.obj, _, O'.ns, fun g => ?_, fun g hg => ?_⟩
  · have := length_putF f y fs; omega
  · show RelO ((putF f y fs).lookup g) (if g = f then some u else mA g)
    rw [lookup_putF]
    by_cases q : g = f
    · rw [if_pos q, if_pos q]; exact ry
    · rw [if_neg q, if_neg q]; exact r g
  · by_cases q : g = f
    · rw [q]; exact (keys_putF f y fs).1
    · refine (keys_putF f y fs).2 g (wi g fun z => hg ?_)
      show (if g = f then some u else mA g) = none
      rw [if_neg q]; exact z
theorem Inv.made (I : Inv X pins σ H s) : Inv X pins σ (upd (upd H s.heap.objs.size (.own (s.heap.objs.size + 1))) (s.heap.objs.size + 1) (.ins C s.heap.objs.size []))
    { s with heap := (s.heap.push PySem.W.emptyDict).push (PySem.W.instObj C s.heap.objs.size) } := by
  have e1 : (s.heap.push PySem.W.emptyDict).get? s.heap.objs.size = some PySem.W.emptyDict := Heap.get?_push_size s.heap rfl
  have e2 : ((s.heap.push PySem.W.emptyDict).push (PySem.W.instObj C s.heap.objs.size)).get? (s.heap.objs.size + 1) = some (PySem.W.instObj C s.heap.objs.size) := by
    have := Heap.get?_push_size (s.heap.push PySem.W.emptyDict) (o := PySem.W.instObj C s.heap.objs.size) rfl
    rwa [Heap.size_push] at this
  have e3 : (s.heap.push PySem.W.emptyDict).Ns s.heap.objs.size (fun _ => none) := ⟨PySem.W.emptyDict, #[], _, e1, rfl, (fun e he => absurd he (by simp)), fun _ => rfl⟩
  have I1 := I.laid (a := s.heap.objs.size) (o := .own (s.heap.objs.size + 1)) (h' := s.heap.push PySem.W.emptyDict) (t' := s.toks) (fun b u q => Heap.get?_push_of_some _ q) (Nat.le_refl _) ⟨_, e1⟩
  refine I1.laid (a := s.heap.objs.size + 1) (o := .ins C s.heap.objs.size []) (t' := s.toks) (fun b u q => Heap.get?_push_of_some _ q) (Nat.le_of_eq (Heap.size_push _ _)) ?_
  have ne : s.heap.objs.size ≠ s.heap.objs.size + 1 := Nat.ne_of_lt (Nat.lt_succ_self _)
  refine ⟨by rw [upd_ne ne, upd_same], Nat.zero_le _, ne, e2, fun _ => none, (Heap.Ns1.of_empty e3).at fun o q => Heap.get?_push_of_some _ q, fun _ => True.intro, fun y hy => absurd rfl hy⟩
theorem attr_of {prog : Program} {w : World} {env : Env} {e : Expr} {f : Str} {pos : Pos} {s : Shared} {Q : Value → Shared → Prop} (hb : attributeBase e f env (eval e env) = eval e env)
    (h : wpAny (model prog w) A (eval e env) (fun o s₁ => wpAny (model prog w) A (getAttr o f true) Q E s₁) E s) : wpAny (model prog w) A (eval (.Attribute e f pos) env) Q E s :=
  Attribute_any_ h (by rw [arm_eval_Attribute, hb])
end
noncomputable def tFld (K : PySem.W.Frag) (ta : TE) (f : Str) : TE := fun σ H Q => ta σ H fun x H1 => ∃ a C dx fs v, x = .ref a ∧ H1 a = some (.ins C dx fs) ∧ Cls K C ∧ NoAttr K C f ∧ fs.lookup f = some v ∧ Q v H1
noncomputable def sFld (K : PySem.W.Frag) (ta tv : TE) (f : Str) : TS := fun D σ H => tv σ H fun y H1 => ta σ H1 fun x H2 => ∃ a C dx fs, x = .ref a ∧ H2 a = some (.ins C dx fs) ∧ Cls K C ∧ NoAttr K C f ∧ fs.length < 1000 ∧
  D.nx σ (upd H2 a (.ins C dx (putF f y fs)))
section
variable {X : Cx} {o e value : Expr} {f : Str} {pos pos' tpos : Pos} {ta tv : TE}
theorem pe_fld (he : PE X e ta) (hb : attributeBase e f X.env (eval e X.env) = eval e X.env) : PE X (.Attribute e f pos) (tFld X.K ta f) := by
  intro pins s σ H Q I h
  refine attr_of hb (thn (he pins s σ H _ I h) fun u s1 ⟨x, H1, I1, rx, a, C, dx, fs, v, ex, ea, c, n, l, q⟩ => ?_)
  subst ex
  obtain rfl : u = Value.ref a := rx
  exact getattr_ok I1 ea c n l fun u' s2 I2 ru => ⟨v, H1, I2, ru, q⟩
theorem ps_fld (ha : PE X o ta) (hv : PE X value tv) (hs : swapsWith value (some (.Attribute o f pos')) pos.line X.env = pure false) : PS X (.Assign [.Attribute o f pos'] value pos) (sFld X.K ta tv f) := by
  intro pins s σ H D I h
  refine plainObj_wpAny_Assign_Attribute (thn (hv pins s σ H _ I h) fun u s1 ⟨y, H1, I1, ry, q⟩ => thn (ha pins s1 σ H1 _ I1 q) fun ov s2 ⟨x, H2, I2, rx, a, C, dx, fs, ex, ea, c, n, l, q2⟩ => ?_) hs
  subst ex
  obtain rfl : ov = Value.ref a := rx
  exact setattr_ok I2 ea c n l ry fun s3 I3 => ⟨σ, _, I3, q2⟩
end
section
variable {X : Cx} {pins : List (Addr × Obj)} {σ : St} {H : Hp} {s : Shared} {A : Around} {E : Value → Shared → Prop} {Q : Value → Shared → Prop} {c : Value} {b : Bool}
inductive TyOf (K : PySem.W.Frag) (H : Hp) : V → Value → Prop where
  | non : TyOf K H .non (.type "NoneType")
  | bl (x : Bool) : TyOf K H (.bl x) (.type "bool")
  | int (i : Int) : TyOf K H (.int i) (.type "int")
  | str (x : Str) : TyOf K H (.str x) (.type "str")
  | flt (x : UInt64) : TyOf K H (.flt x) (.type "float")
  | lst {a : Addr} {xs : List V} (e : H a = some (.lst xs)) : TyOf K H (.ref a) (.type "list")
  | frz {a : Addr} {o : Obj} {xs : List V} (e : H a = some (.frz o (.lst xs))) : TyOf K H (.ref a) (.type "list")
  | tup {a : Addr} {xs : List V} (e : H a = some (.tup xs)) : TyOf K H (.ref a) (.type "tuple")
  | dK {a : Addr} {kvs : List (Key × V)} (e : H a = some (.dK kvs)) : TyOf K H (.ref a) (.type "dict")
  | dT {a : Addr} {kvs : List (List Key × V)} (e : H a = some (.dT kvs)) : TyOf K H (.ref a) (.type "dict")
  | ins {a C dx : Addr} {fs : List (Str × V)} (e : H a = some (.ins C dx fs)) (cl : Cls K C) (ha : PySem.W.findIn K (.ref C) "__class__" = some (some (.builtin "object.__class__")))
      (hn : PySem.W.specialIn K (.builtin "object.__class__") "__get__" = some (some (.builtin "getset_descriptor.__get__"))) (htk : PySem.W.takesIn K (.builtin "object.__class__") = some true)
      (hm : PySem.W.mroIn K C (.type "object") = some true) : TyOf K H (.ref a) (.ref C)
theorem isinst_ok {x : V} {u t : Value} (I : Inv X pins σ H s) (rx : RelV x u) (ty : TyOf X.K H x t) (e : PySem.W.kitOne X.K t c = some b) (h : ∀ tk, Q (.bool b) { s with toks := tk }) :
    wpAny (model X.prog X.w) A (call (.builtin "isinstance") [u, c]) Q E s := by
  cases ty with
  | non => cases (show u = Value.none from rx); exact PySem.W.kia_one PySem.W.kitx_none I.kIn True.intro e (fun z => nomatch z) h
  | bl y => cases (show u = Value.bool y from rx); exact PySem.W.kia_one PySem.W.kitx_bool I.kIn True.intro e (fun z => nomatch z) h
  | int i => obtain ⟨t, q⟩ := (show ∃ t, u = Value.int i t from rx); cases q; exact PySem.W.kia_one PySem.W.kitx_int I.kIn True.intro e (fun z => nomatch z) h
  | str y => obtain ⟨t, q⟩ := (show ∃ t, u = Value.str y t from rx); cases q; exact PySem.W.kia_one PySem.W.kitx_str I.kIn True.intro e (fun z => nomatch z) h
  | flt y => obtain ⟨t, q⟩ := (show ∃ t, u = Value.float y t from rx); cases q; exact PySem.W.kia_one PySem.W.kitx_float I.kIn True.intro e (fun z => nomatch z) h
  | @lst a xs ea =>
    cases (show u = Value.ref a from rx)
    obtain ⟨_, _, n, _, h1⟩ := (show ObjOk X.prog X.w H s.heap a (.lst xs) from I.hok a _ ea)
    exact PySem.W.kia_one PySem.W.kitx_list I.kIn ⟨_, h1, rfl⟩ e (fun z => nomatch z) h
  | @frz a ob xs ea =>
    cases (show u = Value.ref a from rx)
    obtain ⟨_, _, _, n, _, h1⟩ := (show ObjOk X.prog X.w H s.heap a (.frz ob (.lst xs)) from I.hok a _ ea)
    exact PySem.W.kia_one PySem.W.kitx_list I.kIn ⟨_, h1, rfl⟩ e (fun z => nomatch z) h
  | @tup a xs ea =>
    cases (show u = Value.ref a from rx)
    obtain ⟨_, _, _, p⟩ := (show ObjOk X.prog X.w H s.heap a (.tup xs) from I.hok a _ ea)
    obtain ⟨o, h1, h2, _⟩ := p
    exact PySem.W.kia_one PySem.W.kitx_tuple I.kIn ⟨o, h1, h2⟩ e (fun z => nomatch z) h
  | @dK a kvs ea =>
    cases (show u = Value.ref a from rx)
    obtain ⟨_, _, vs, _, p⟩ := (show ObjOk X.prog X.w H s.heap a (.dK kvs) from I.hok a _ ea)
    obtain ⟨o, es, ep, h1, h2, _⟩ := p
    exact PySem.W.kia_one PySem.W.kitx_dict I.kIn ⟨o, h1, h2.1⟩ e (fun z => nomatch z) h
  | @dT a kvs ea =>
    cases (show u = Value.ref a from rx)
    obtain ⟨_, _, xs, _, o, es, ep, h1, h2, _⟩ := (show ObjOk X.prog X.w H s.heap a (.dT kvs) from I.hok a _ ea)
    exact PySem.W.kia_one PySem.W.kitx_dict I.kIn ⟨o, h1, h2.1⟩ e (fun z => nomatch z) h
  | @ins a C dx fs ea cl ha hn htk hm =>
    cases (show u = Value.ref a from rx)
    obtain ⟨mA, O, _⟩ := ins_get I.hok ea
    obtain ⟨od, J, _⟩ := O.look
    exact PySem.W.kia_one (PySem.W.kitx_own (cl.get _) cl.hd ha hn htk hm) I.kIn J e (fun z => nomatch z) h
end
end L2
namespace L2
open PySem PySem.Spec PyProof.Rows
structure Room (k : Nat) (A : Around) : Prop where
  hd : A.handled = none
  dp : A.depth + 3 * k + 5 < recursionLimit
  un : A.units + 16 * k + 200 < cLine
theorem Room.mono {j k : Nat} {A : Around} (r : Room k A) (h : j ≤ k) : Room j A := ⟨r.hd, by have := r.dp; omega, by have := r.un; omega⟩
theorem Room.deeper {k : Nat} {A : Around} (r : Room (k + 1) A) (env : Env) : Room k (A.deeper env) :=
  ⟨r.hd, by have := r.dp; show A.depth + 1 + 3 * k + 5 < _; omega, by have := r.un; show A.units + 3 + 16 * k + 200 < _; omega⟩
theorem Room.in1 {k : Nat} {A : Around} (r : Room (k + 1) A) : Room k A.in1 :=
  ⟨r.hd, by have := r.dp; show A.depth + 3 * k + 5 < _; omega, by have := r.un; show A.units + 1 + 16 * k + 200 < _; omega⟩
theorem make_depth {A : Around} {C : Addr} {us : List Value} {kw : List (Str × Value)} : (A.under (.builtin "type.__call__" ⟨.ref C :: us, kw⟩)).depth = A.depth + 1 := by
  first | rfl | simp [Around.under, Code.weight, Code.isCreation, Code.isGuard, Code.isCaller, Code.frames, Code.isFrame, guardIds]
theorem make_units {A : Around} {C : Addr} {us : List Value} {kw : List (Str × Value)} : (A.under (.builtin "type.__call__" ⟨.ref C :: us, kw⟩)).units = A.units + 1 := by
  first | rfl | simp [Around.under, Code.cUnits, Code.frames, Code.isFrame]
theorem Room.make {k : Nat} {A : Around} (r : Room (k + 1) A) (C : Addr) (us : List Value) (kw : List (Str × Value)) : Room k (A.under (.builtin "type.__call__" ⟨.ref C :: us, kw⟩)) :=
  ⟨r.hd, by have := r.dp; rw [make_depth]; omega, by have := r.un; rw [make_units]; omega⟩
theorem Room.depth {k : Nat} {A : Around} (r : Room k A) : A.depth < recursionLimit := by have := r.dp; omega
theorem Room.units {k : Nat} {A : Around} (r : Room k A) : A.units + 64 < cLine := by have := r.un; omega
noncomputable def tNil : TA := fun _ H Q => Q [] H
noncomputable def tCons (ta : TE) (tr : TA) : TA := fun σ H Q => ta σ H fun x H1 => tr σ H1 fun xs H2 => Q (x :: xs) H2
section
variable {X : Cx} {e : Expr} {es : List Expr} {te : TE} {t : TA} {pos : Pos}
theorem pa_nil : PA X [] tNil := fun _ _ _ _ H Q I h => Calls.spliced_nil ⟨[], H, I, .nil, h⟩
theorem pa_cons (ha : PE X e te) (hr : PA X es t) (hs : starEach (e :: es) X.env = (false, eval e X.env) :: starEach es X.env := by rfl) : PA X (e :: es) (tCons te t) := by
  intro pos pins s σ H Q I h
  rw [hs]
  show wpAny _ _ (spliced ((false, eval e X.env) :: backTo pos (starEach es X.env))) _ _ s
  refine Calls.spliced_cons (thn (ha pins s σ H _ I h) fun u s1 ⟨x, H1, I1, r1, q1⟩ => ?_)
  exact thn (hr pos pins s1 σ H1 _ I1 q1) fun us s2 ⟨xs, H2, I2, r2, q2⟩ => ⟨x :: xs, H2, I2, .cons r1 r2, q2⟩
noncomputable def tTup (t : TA) : TE := fun σ H Q => t σ H fun xs H1 => xs.length ≤ sizeLine ∧ ∀ p, H1 p = none → Q (.ref p) (upd H1 p (.tup xs))
noncomputable def tLst (t : TA) : TE := fun σ H Q => t σ H fun xs H1 => xs.length ≤ sizeLine ∧ ∀ p, H1 p = none → Q (.ref p) (upd H1 p (.lst xs))
theorem pe_tup {x1} (h : PA X es t) : PE X (.Tuple es x1 pos) (tTup t) := by
  intro pins s σ H Q I hq
  refine wpAny_Tuple_spliced (thn (h pos pins s σ H _ I hq) fun us s1 ⟨xs, H1, I1, r, z, q⟩ => ⟨by rw [← r.length]; exact z, ?_⟩)
  have hf : H1 s1.heap.objs.size = none := I1.hok.fresh (Nat.le_refl _)
  refine ⟨.ref s1.heap.objs.size, upd H1 s1.heap.objs.size (.tup xs), I1.laid (t' := s1.toks) (fun b u e => Heap.get?_push_of_some _ e) (Nat.le_refl _) ?_, rfl, q _ hf⟩
  exact ⟨z, us, r, ⟨_, Heap.get?_push_size _ rfl, rfl, _, rfl⟩⟩
theorem pe_lst (h : PA X es t) : PE X (.List es pos) (tLst t) := by
  intro pins s σ H Q I hq
  refine wpAny_List_spliced (thn (h pos pins s σ H _ I hq) fun us s1 ⟨xs, H1, I1, r, z, q⟩ => ⟨by rw [← r.length]; exact z, ?_⟩)
  have hf : H1 s1.heap.objs.size = none := I1.hok.fresh (Nat.le_refl _)
  refine ⟨.ref s1.heap.objs.size, upd H1 s1.heap.objs.size (.lst xs), I1.laid (t' := s1.toks) (fun b u e => Heap.get?_push_of_some _ e) (Nat.le_refl _) ?_, rfl, q _ hf⟩
  exact ⟨z, us, 0, r, Heap.get?_push_size _ rfl⟩
end
noncomputable abbrev Sp := List V → Hp → VK → XK → Prop
noncomputable abbrev CXT := List Env → Hp → Shared → XK → Value → Shared → Prop
structure Env0 (P : Program) (w : World) (K : PySem.W.Frag) (mg : Str → Option Value) (base : Heap) (A : Around) (outer : List Env) (s : Shared) (H : Hp) : Prop where
  frames : A.frames = some outer
  mod : Mod K mg base
  bs : ∀ b o, base.get? b = some o → s.heap.get? b = some o ∧ H b = none
  bsz : base.objs.size ≤ s.heap.objs.size
  funs : s.heap.FunFrames base outer
  frf : ∀ b ∈ frs outer, H b = none
  hok : HOk P w H s.heap
  bare : AllBare s.gens
noncomputable def CE (outer : List Env) (P : Program) (w : World) (H : Hp) (s : Shared) (Q : VK) (u : Value) (s' : Shared) : Prop :=
  ∃ v H', s'.os = s.os ∧ AllBare s'.gens ∧ Un (frs outer) [] H H' s.heap s'.heap ∧ HOk P w H' s'.heap ∧ RelV v u ∧ Q v H'
noncomputable def CR (CX : CXT) (outer : List Env) (P : Program) (w : World) (H : Hp) (s : Shared) (Q : VK) (E : XK) (r : Result) (s' : Shared) : Prop :=
  match r with
  | .ok (.ret u) => CE outer P w H s Q u s'
  | .ok _ => False
  | .error e => CX outer H s E e s'
structure FnOk (P : Program) (w : World) (K : PySem.W.Frag) (mg : Str → Option Value) (base : Heap) (CX : CXT) (k : Nat) (f : Addr) (fd : FuncData) (ps : List Str) (sp : Sp) : Prop where
  len : ∀ vs H Q E, sp vs H Q E → vs.length = ps.length
  run : ∀ (A : Around) (outer : List Env) (s : Shared) (H : Hp) (args : Args) (us : List Value) (vs : List V) (Q : VK) (E : XK), Room k A → Env0 P w K mg base A outer s H → BindsTo s fd args (ps.zip us) → Vals vs us → sp vs H Q E →
    codeAny (model P w) A (.call (.ref f) args) (CR CX outer P w H s Q E) s
theorem FnOk.mono {P : Program} {w : World} {K : PySem.W.Frag} {mg : Str → Option Value} {base : Heap} {CX : CXT} {j k : Nat} {f : Addr} {fd : FuncData} {ps : List Str} {sp : Sp} (F : FnOk P w K mg base CX j f fd ps sp) (h : j ≤ k) :
    FnOk P w K mg base CX k f fd ps sp := ⟨F.len, fun A outer s H args us vs Q E hr => F.run A outer s H args us vs Q E (hr.mono h)⟩
theorem FnOk.imp {P : Program} {w : World} {K : PySem.W.Frag} {mg : Str → Option Value} {base : Heap} {CX : CXT} {k : Nat} {f : Addr} {fd : FuncData} {ps : List Str} {sp sp' : Sp} (F : FnOk P w K mg base CX k f fd ps sp)
    (h : ∀ vs H Q E, sp' vs H Q E → sp vs H Q E) : FnOk P w K mg base CX k f fd ps sp' :=
  ⟨fun vs H Q E q => F.len vs H Q E (h _ _ _ _ q), fun A outer s H args us vs Q E hr he hb hv hs => F.run A outer s H args us vs Q E hr he hb hv (h _ _ _ _ hs)⟩
theorem Env0.make {P : Program} {w : World} {K : PySem.W.Frag} {mg : Str → Option Value} {base : Heap} {A : Around} {outer : List Env} {s : Shared} {H : Hp} (e : Env0 P w K mg base A outer s H) (C : Addr) (us : List Value) (kw : List (Str × Value)) :
    Env0 P w K mg base (A.under (.builtin "type.__call__" ⟨.ref C :: us, kw⟩)) outer s H := ⟨by first | exact e.frames | (simpa [Around.under, Code.envs, Code.isFrame, pushEnvs] using e.frames), e.mod, e.bs, e.bsz, e.funs, e.frf, e.hok, e.bare⟩
theorem Env0.in1 {P : Program} {w : World} {K : PySem.W.Frag} {mg : Str → Option Value} {base : Heap} {A : Around} {outer : List Env} {s : Shared} {H : Hp} (e : Env0 P w K mg base A outer s H) :
    Env0 P w K mg base A.in1 outer s H := ⟨e.frames, e.mod, e.bs, e.bsz, e.funs, e.frf, e.hok, e.bare⟩
section
variable {X : Cx} {pins : List (Addr × Obj)} {σ : St} {H : Hp} {s s' : Shared}
theorem Inv.env0 (I : Inv X pins σ H s) : Env0 X.prog X.w X.K X.mg X.base X.A X.stack s H :=
  ⟨I.ok.frames, I.ok.mod, I.bs, Nat.le_trans I.ok.bsz I.sz, I.stack, I.stkFree, I.hok, I.bare⟩
theorem Inv.after {Q : VK} {u : Value} (I : Inv X pins σ H s) (h : CE X.stack X.prog X.w H s Q u s') : EP X pins σ Q u s' := by
  obtain ⟨v, H', os, bare, un, hok, r, q⟩ := h
  obtain ⟨hh, g, d, t, os'⟩ := s'
  obtain rfl : os' = s.os := os
  exact ⟨v, H', I.call (h' := hh) (g' := g) (d' := d) (t' := t) (ch := []) un hok bare (fun b z => absurd z (by simp)), r, q⟩
end
noncomputable def tCall (sp : Sp) (dvs : List V) (E : XK) (t : TA) : TE := fun σ H Q => t σ H fun vs H1 => sp (vs ++ dvs) H1 Q E
noncomputable def tMeth (C : Addr) (m : Str) (sp : Sp) (dvs : List V) (E : XK) (ta : TE) (t : TA) : TE := fun σ H Q => ta σ H fun x H1 => ∃ a dx fs, x = .ref a ∧ H1 a = some (.ins C dx fs) ∧ fs.lookup m = none ∧
  t σ H1 fun vs H2 => sp (x :: (vs ++ dvs)) H2 Q E
noncomputable def Binds (K : PySem.W.Frag) (fd : FuncData) (ps : List Str) (ds : List Value) : Prop :=
  ∀ (s : Shared) (us : List Value), K.In s.heap → (us ++ ds).length = ps.length → BindsTo s fd ⟨us, []⟩ (ps.zip (us ++ ds))
theorem Binds.all {K : PySem.W.Frag} {fd : FuncData} {ps : List Str} (h : ∀ us : List Value, us.length = ps.length → bindArgs fd ⟨us, []⟩ = pure (ps.zip us)) : Binds K fd ps [] := fun s us _ hl => by
  rw [List.append_nil] at hl ⊢
  exact .of_eq (h us hl)
noncomputable def Passes (CX : CXT) (X : Cx) (E : XK) : Prop := ∀ (pins : List (Addr × Obj)) (σ : St) (H : Hp) (s : Shared) (e : Value) (s' : Shared), Inv X pins σ H s → CX X.stack H s E e s' → X.xe e s'
section
variable {X : Cx} {CX : CXT} {k : Nat} {f C : Addr} {fd : FuncData} {ps : List Str} {sp : Sp} {dvs : List V} {ds : List Value} {E : XK} {x m : Str} {p pos apos : Pos} {e o : Expr} {es : List Expr} {ta : TE} {t : TA}
theorem run_fn {pins : List (Addr × Obj)} {σ : St} {H : Hp} {s : Shared} {Q : VK} {us : List Value} {vs : List V} (F : FnOk X.prog X.w X.K X.mg X.base CX k f fd ps sp) (hr : Room k X.A) (hb : Binds X.K fd ps ds) (hd : Vals dvs ds) (hx : Passes CX X E)
    (I : Inv X pins σ H s) (r : Vals vs us) (h : sp (vs ++ dvs) H Q E) : wpAny (model X.prog X.w) X.A (call (.ref f) us) (EP X pins σ Q) X.xe s := by
  have r2 : Vals (vs ++ dvs) (us ++ ds) := r.append hd
  have hl : (us ++ ds).length = ps.length := by rw [← r2.length]; exact F.len _ _ _ _ h
  refine wpAny_call (codeAny_mono (F.run X.A X.stack s H ⟨us, []⟩ (us ++ ds) (vs ++ dvs) Q E hr I.env0 (hb s us I.kIn hl) r2 h) fun r s' hq => ?_)
  cases r with
  | error e => exact hx pins σ H s e s' I hq
  | ok fl =>
    cases fl with
    | ret u => exact I.after hq
    | next => exact False.elim hq
    | brk => exact False.elim hq
    | cont => exact False.elim hq
theorem pe_call (F : FnOk X.prog X.w X.K X.mg X.base CX k f fd ps sp) (hr : Room k X.A) (hg : Gl X x) (hm : X.mg x = some (.ref f)) (hk : PySem.W.keepIn X.K (.ref f) = true) (hb : Binds X.K fd ps ds) (hd : Vals dvs ds) (hx : Passes CX X E)
    (ha : PA X (e :: es) t) (hdb : (x == ("__debug__" : Str)) = false := by decide) (he : starEach (e :: es) X.env = (false, eval e X.env) :: starEach es X.env := by rfl) (hpl : (backTo pos (starEach es X.env)).any (·.1) = false := by rfl) :
    PE X (.Call (.Name x p) (e :: es) [] pos) (tCall sp dvs E t) := by
  intro pins s σ H Q I h
  refine wpAny_Call_Name_kw (ld_glob I hg hm ?_ hdb)
  refine PySem.W.callWith_K (h₀ := X.base) I.ok.mod.kin hk (thn (ha pos pins s σ H _ I h) fun us s1 ⟨vs, H1, I1, r, q⟩ => ⟨I1.kIn, ?_⟩) he hpl
  exact run_fn F hr hb hd hx I1 r q
theorem pe_meth0 {pl : Sem Bool} (he : PE X o ta) (c : Cls X.K C) (hm : Meth X.K C m f) (F : FnOk X.prog X.w X.K X.mg X.base CX k f fd ps sp) (hr : Room k X.A) (hb : Binds X.K fd ps ds) (hd : Vals dvs ds) (hx : Passes CX X E)
    (ht : eval (.Call (.Attribute o m apos) [] [] pos) X.env = (do
      let ov ← eval o X.env
      standAt apos.atName
      let (f, first) ← holding [ov] (getMethod ov m pl)
      callWith pos f first (backTo pos (starEach [] X.env)) (backToKw pos (keywordEach [] X.env))) := by rfl) :
    PE X (.Call (.Attribute o m apos) [] [] pos) (tMeth C m sp dvs E ta tNil) := by
  intro pins s σ H Q I h
  refine PySem.W.methodCall_KW (pl := pl) (thn (he pins s σ H _ I h) fun u s1 ⟨x, H1, I1, rx, a, dx, fs, ex, ea, l, q⟩ => ?_) ht
  subst ex
  obtain rfl : u = Value.ref a := rx
  refine getmeth_ok I1 ea c hm l ?_
  exact PySem.W.callWith_K0 (first := [.ref a]) I1.kIn hm.kp (run_fn (us := [.ref a]) (vs := [.ref a]) F hr hb hd hx I1 (.cons rfl .nil) q)
structure Mk (K : PySem.W.Frag) (C f : Addr) : Prop where
  makes : PySem.W.makesIn K C = true
  init : PySem.W.findIn K (.ref C) "__init__" = some (some (.ref f))
  fn : PySem.W.isFn K (.ref f) = true
  kp : PySem.W.keepIn K (.ref C) = true
end
noncomputable def PK (X : Cx) (kws : List Keyword) (t : TA) : Prop :=
  ∀ (pos : Pos) (pins : List (Addr × Obj)) (s : Shared) (σ : St) (H : Hp) (Q : List V → Hp → Prop), Inv X pins σ H s → t σ H Q → wpAny (model X.prog X.w) X.A (evalAll ((backToKw pos (keywordEach kws X.env)).map (·.2))) (AP X pins σ Q) X.xe s
section
variable {X : Cx} {CX : CXT} {k : Nat} {f C : Addr} {fd : FuncData} {ps ks : List Str} {sp : Sp} {E : XK} {x m : Str} {p pos apos kpos : Pos} {e o : Expr} {es : List Expr} {kws : List Keyword} {te ta : TE} {t tk : TA} {nm : Option Str}
theorem pk_nil : PK X [] tNil := fun _ _ _ _ H Q I h => wpAny_evalAll_nil ⟨[], H, I, .nil, h⟩
variable {g : List Value → List Value → List Value} {gV : List V → List V → List V}
end
structure FnScope (N P : List Str) (sc : Scope) : Prop where
  kind : sc.kind = .function
  co : sc.isCoroutine = false
  gen : sc.isGenerator = false
  nd : N.Nodup
  pre : N.take P.length = P
  par : ∀ x ∈ P, sc.names.lookup x = some .local ∨ sc.names.lookup x = some .cell
  nofree : ∀ y ∈ sc.names, y.2 ≠ .free
theorem bindL_out {kindOf : Str → Option NameKind} {x : Str} : ∀ {binds : List (Str × Value)} {m : Str → Option Value}, (∀ v, (x, v) ∉ binds) → bindL kindOf binds m x = m x
  | [], _, _ => rfl
  | (n, v) :: r, m, h => by
    unfold bindL
    rw [bindL_out fun w hw => h w (List.mem_cons_of_mem _ hw)]
    split
    · have : x ≠ n := by rintro rfl; exact h v List.mem_cons_self
      simp [this]
    · rfl
theorem bindC_out {kindOf : Str → Option NameKind} {x : Str} : ∀ {binds : List (Str × Value)} {m : Str → Option Value}, (∀ v, (x, v) ∉ binds) → bindC kindOf binds m x = m x
  | [], _, _ => rfl
  | (n, v) :: r, m, h => by
    unfold bindC
    rw [bindC_out fun w hw => h w (List.mem_cons_of_mem _ hw)]
    split
    · rfl
    · have : x ≠ n := by rintro rfl; exact h v List.mem_cons_self
      simp [this]
theorem bindL_get {kindOf : Str → Option NameKind} {x : Str} {v : Value} : ∀ {P : List Str} {vs : List Value} {i : Nat} {m : Str → Option Value}, P.Nodup → P[i]? = some x → vs[i]? = some v → kindOf x = some .local →
    bindL kindOf (P.zip vs) m x = some v
  | [], _, _, _, _, h, _, _ => by simp at h
  | _ :: _, [], _, _, _, _, h, _ => by simp at h
  | p :: P, w :: vs, 0, m, nd, h1, h2, hk => by
    simp at h1 h2; subst h1; subst h2
    show bindL kindOf ((p, w) :: P.zip vs) m p = _
    unfold bindL
    rw [bindL_out fun v hv => (List.nodup_cons.mp nd).1 (List.of_mem_zip hv).1, if_pos hk]
    simp
  | p :: P, w :: vs, i + 1, m, nd, h1, h2, hk => by
    show bindL kindOf ((p, w) :: P.zip vs) m x = _
    unfold bindL
    exact bindL_get (i := i) (List.nodup_cons.mp nd).2 (by simpa using h1) (by simpa using h2) hk
theorem bindC_get {kindOf : Str → Option NameKind} {x : Str} {v : Value} : ∀ {P : List Str} {vs : List Value} {i : Nat} {m : Str → Option Value}, P.Nodup → P[i]? = some x → vs[i]? = some v → kindOf x ≠ some .local →
    bindC kindOf (P.zip vs) m x = some v
  | [], _, _, _, _, h, _, _ => by simp at h
  | _ :: _, [], _, _, _, _, h, _ => by simp at h
  | p :: P, w :: vs, 0, m, nd, h1, h2, hk => by
    simp at h1 h2; subst h1; subst h2
    show bindC kindOf ((p, w) :: P.zip vs) m p = _
    unfold bindC
    rw [bindC_out fun v hv => (List.nodup_cons.mp nd).1 (List.of_mem_zip hv).1, if_neg hk]
    simp
  | p :: P, w :: vs, i + 1, m, nd, h1, h2, hk => by
    show bindC kindOf ((p, w) :: P.zip vs) m x = _
    unfold bindC
    exact bindC_get (i := i) (List.nodup_cons.mp nd).2 (by simpa using h1) (by simpa using h2) hk
noncomputable def start (N : List Str) (vs : List V) : St := vs.map some ++ List.replicate (N.length - vs.length) none
noncomputable def cxOf (CX : CXT) (P : Program) (w : World) (K : PySem.W.Frag) (mg : Str → Option Value) (base : Heap) (N : List Str) (qual : Str) (scope : Scope) (f : Addr) (cd : Value) (A : Around) (outer : List Env) (s : Shared) (H : Hp) (E : XK) : Cx where
  prog := P
  w := w
  K := K
  mg := mg
  base := base
  A := A.deeper (envOfC qual scope s.heap.objs.size f cd)
  N := N
  s₀ := s
  H₀ := H
  env := envOfC qual scope s.heap.objs.size f cd
  outer := outer
  stack := envOfC qual scope s.heap.objs.size f cd :: outer
  ex := []
  calm := true
  fn := fun _ => true
  pn := []
  xe := fun e s' => wpAny (model P w) (A.deeper (envOfC qual scope s.heap.objs.size f cd)) (leaving (envOfC qual scope s.heap.objs.size f cd) e) (fun _ s'' => CX outer H s E e s'') (fun e' s'' => CX outer H s E e' s'') s'
theorem cell_has {sc : Scope} {n : Nat} {x : Str} (h : sc.names.lookup x = some .cell) : ∃ c, (cellsFrom n sc.names []).lookup x = some c := by
  have q := PySem.W.cellsFrom_some sc.names n [] (.inl h)
  exact Option.isSome_iff_exists.mp q
theorem inv_start {CX : CXT} {P : Program} {w : World} {K : PySem.W.Frag} {mg : Str → Option Value} {base : Heap} {N ps : List Str} {qual : Str} {scope : Scope} {f : Addr} {cd : Value} {A : Around} {outer : List Env} {s s1 : Shared} {H : Hp} {E : XK} {us : List Value} {vs : List V}
    (S : FnScope N ps scope) (hd : A.handled = none) (e0 : Env0 P w K mg base A outer s H) (hl : vs.length = ps.length) (r : Vals vs us)
    (x : InCallC s s.heap.objs.size (bindL (envOfC qual scope s.heap.objs.size f cd).kindOf (ps.zip us) fun _ => none) (cellsFrom (s.heap.objs.size + 1) scope.names []) (bindC (envOfC qual scope s.heap.objs.size f cd).kindOf (ps.zip us) fun _ => none) s1) :
    Inv (cxOf CX P w K mg base N qual scope f cd A outer s H E) [] (start N vs) H s1 := by
  have hpl : ps.length ≤ N.length := by have := congrArg List.length S.pre; rw [List.length_take] at this; omega
  obtain ⟨h1, tk, rfl, hk⟩ := x.done
  have noA : ∀ b : Addr, b ∉ (cxOf CX P w K mg base N qual scope f cd A outer s H E).ex := fun b z => absurd (show b ∈ ([] : List Addr) from z) (by simp)
  refine ⟨⟨e0.mod, S.kind, rfl, rfl, Nat.le_refl _, fun y z c h1 h2 => ?_, fun y hy => ?_, fun y c _ h => ?_, fun _ => hd, Around.frames_deeper e0.frames, .inr ⟨rfl, rfl⟩, fun b z => absurd z (noA b), e0.bs, e0.bsz, fun b _ _ => noA b, fun b z => absurd z (noA b), e0.funs, e0.frf⟩,
    rfl, e0.bare, Un.kept hk, ⟨_, x.toInCall.ns, fun i y v h1 h2 h3 => ?_⟩, fun y c h => ⟨_, x.cell y c h⟩, e0.hok.fresh (Nat.le_refl _), fun y c h => ?_, fun p hp => absurd (show p ∈ ([] : List (Addr × Obj)) from hp) (by simp), e0.hok.kept hk, ?_⟩
  · exact name_of_addr x.apart (PySem.mem_of_lookup h1) (PySem.mem_of_lookup h2)
  · have hy : scope.names.lookup y = some .cell ∨ scope.names.lookup y = some .free := hy
    rcases hy with hy | hy
    · exact cell_has hy
    · exact absurd rfl (S.nofree _ (PySem.mem_of_lookup hy))
  · exact Nat.le_of_lt (x.above y c (PySem.mem_of_lookup h))
  · have hi : i < vs.length := by
      unfold start at h2
      by_cases hi : i < vs.length
      · exact hi
      · rw [List.getElem?_append_right (by simpa using hi)] at h2
        rw [List.getElem?_replicate] at h2
        split at h2 <;> cases h2
    have ha : vs[i]? = some v := by
      unfold start at h2
      rw [List.getElem?_append_left (by simpa using hi), List.getElem?_map] at h2
      cases e : vs[i]? with
      | none => rw [e] at h2; cases h2
      | some a => rw [e] at h2; cases h2; rfl
    obtain ⟨u, hu, rv⟩ := r.get ha
    have hp : ps[i]? = some y := by
      rw [← S.pre, List.getElem?_take_of_lt (by omega)]; exact h1
    have ndP : ps.Nodup := by rw [← S.pre]; exact S.nd.sublist (List.take_sublist _ _)
    refine ⟨u, rv, ?_⟩
    rcases S.par y (List.mem_of_getElem? hp) with k | k
    · exact .inl ⟨k, bindL_get ndP hp hu k⟩
    · obtain ⟨c, e⟩ := cell_has (n := s.heap.objs.size + 1) k
      refine .inr ⟨.inl k, c, e, ?_⟩
      have q := x.cell y c e
      rw [bindC_get ndP hp hu (by show scope.names.lookup y ≠ _; rw [k]; decide)] at q
      exact q
  · exact e0.hok.fresh (Nat.le_of_lt (x.above y c (PySem.mem_of_lookup h)))
  · unfold start
    show _ = N.length
    rw [List.length_append, List.length_map, List.length_replicate]
    omega
theorem fn_of {CX : CXT} {P : Program} {w : World} {K : PySem.W.Frag} {mg : Str → Option Value} {base : Heap} {k : Nat} {f : Addr} {name qual : Str} {params : Arguments} {body : List Stmt} {scope : Scope} {dV kV doc pm cdv ct oc : Value} {an od : Option Addr}
    {osl : Array (Option Value)} {N ps : List Str} {sp : Sp} (lk : K.lookup f = some ⟨oc, od, .func (PySem.W.fnOf name qual params body scope dV kV doc pm an cdv ct), osl⟩) (hcd : PySem.W.codeIn K cdv qual = true) (S : FnScope N ps scope)
    (len : ∀ vs H Q E, sp vs H Q E → vs.length = ps.length)
    (hbody : ∀ (A : Around) (outer : List Env) (s : Shared) (H : Hp) (vs : List V) (Q : VK) (E : XK), Room k (A.deeper (envOfC qual scope s.heap.objs.size f cdv)) → sp vs H Q E →
      ∃ t, PSs (cxOf CX P w K mg base N qual scope f cdv A outer s H E) body t ∧ t { nx := fun _ H' => Q .non H', rt := Q } (start N vs) H) :
    FnOk P w K mg base CX (k + 1) f (PySem.W.fnOf name qual params body scope dV kV doc pm an cdv ct) ps sp := by
  refine ⟨len, fun A outer s H args us vs Q E hr e0 hb r hsp => ?_⟩
  have hl := len _ _ _ _ hsp
  have KX : K.In s.heap := e0.mod.kin.keeps fun b o e => (e0.bs b o e).1
  have lim : s.heap.NoLimit := e0.mod.nolimit.keeps fun b o e => (e0.bs b o e).1
  have hkind : ∀ y ∈ ps.zip us, scope.names.lookup y.1 = some .local ∨ (scope.names.lookup y.1 = some .cell ∧ ((cellsFrom (s.heap.objs.size + 1) scope.names []).lookup y.1).isSome = true) := fun ⟨n, v⟩ hy => by
    rcases S.par n (List.of_mem_zip hy).1 with q | q
    · exact .inl q
    · exact .inr ⟨q, PySem.W.cellsFrom_some _ _ _ (.inl q)⟩
  refine codeAny_call_function hr.depth (KX _ _ lk) rfl S.co S.gen rfl (PySem.W.codeRec_of KX hcd) (hb _ _ _ _ ?_)
  refine wpAny_newFunctionEnv_cells S.kind hkind fun env he s1 x => ?_
  subst he
  refine ⟨lim.keeps x.toInCall.keep, codeAny_func ?_⟩
  obtain ⟨t, ht, hq⟩ := hbody A outer s H vs Q E (hr.deeper _) hsp
  have I : Inv (cxOf CX P w K mg base N qual scope f cdv A outer s H E) [] (start N vs) H s1 := inv_start S hr.hd e0 hl r x
  refine wpAny_mono (ht [] s1 (start N vs) H _ I hq) (fun fl s' hs => ?_) fun e s' hs => hs
  have fin : ∀ {σ' : St} {H' : Hp} {v : V} {u : Value}, Inv (cxOf CX P w K mg base N qual scope f cdv A outer s H E) [] σ' H' s' → RelV v u → Q v H' → CE outer P w H s Q u s' :=
    fun {σ' H' v u} J rv q => ⟨v, H', J.os, J.bare, J.base, J.hok, rv, q⟩
  cases fl with
  | ret u =>
    obtain ⟨v, σ', H', J, rv, q⟩ := hs
    exact fin J rv q
  | next =>
    obtain ⟨σ', H', J, q⟩ := hs
    exact fin (v := V.non) (u := Value.none) J rfl q
  | brk =>
    obtain ⟨_, _, _, q⟩ := hs
    exact False.elim q
  | cont =>
    obtain ⟨_, _, _, q⟩ := hs
    exact False.elim q
end L2
namespace L2
open PySem PySem.Spec PyProof.Rows
section
variable {X : Cx} {x : Str} {p pos : Pos} {e : Expr} {es : List Expr} {t : TA} {id T : String} {r : List V → Hp → VK → Prop}
noncomputable def tCB (r : List V → Hp → VK → Prop) (t : TA) : TE := fun σ H Q => t σ H fun vs H1 => r vs H1 Q
theorem pe_callB (hc : CallR X (.builtin id) r) (hg : Gl X x) (hm : X.mg x = none) (hv : bootBuiltins x = some (.builtin id)) (ha : PA X (e :: es) t) (hn : x ≠ "__name__" := by decide) (hdb : (x == ("__debug__" : Str)) = false := by decide)
    (he : starEach (e :: es) X.env = (false, eval e X.env) :: starEach es X.env := by rfl) (hpl : (backTo pos (starEach es X.env)).any (·.1) = false := by rfl) : PE X (.Call (.Name x p) (e :: es) [] pos) (tCB r t) := by
  intro pins s σ H Q I h
  refine wpAny_Call_Name_kw (ld_blt I hg hm hv ?_ hn hdb)
  exact PyProof.Rows.callWith_builtin1 (thn (ha pos pins s σ H _ I h) fun us s1 ⟨vs, H1, I1, r1, q1⟩ => hc pins s1 σ H1 vs us Q I1 r1 q1) he hpl
theorem pe_callTy (hc : CallR X (.type T) r) (hg : Gl X x) (hm : X.mg x = none) (hv : bootBuiltins x = some (.type T)) (ha : PA X (e :: es) t) (hn : x ≠ "__name__" := by decide) (hdb : (x == ("__debug__" : Str)) = false := by decide)
    (he : starEach (e :: es) X.env = (false, eval e X.env) :: starEach es X.env := by rfl) (hpl : (backTo pos (starEach es X.env)).any (·.1) = false := by rfl) : PE X (.Call (.Name x p) (e :: es) [] pos) (tCB r t) := by
  intro pins s σ H Q I h
  refine wpAny_Call_Name_kw (ld_blt I hg hm hv ?_ hn hdb)
  exact PyProof.Rows.callWith_type1 (thn (ha pos pins s σ H _ I h) fun us s1 ⟨vs, H1, I1, r1, q1⟩ => hc pins s1 σ H1 vs us Q I1 r1 q1) he hpl
end
end L2
namespace HT
open PySem PyProof.Rows
section
open PySem.SeqAt
open PySem.AutoSeq1 (wpAny_loadPart')
open PySem.MeetsSeq PySem.MeetsSeq2 PySem.MeetsSeq3
end
section
variable {prog : Program} {w : World} {A : Around} {E : Value → Shared → Prop} {s : Shared}
noncomputable def sIx (n d : Nat) : Option Int → Nat
  | none => d
  | some v => if v < 0 then (v + (n : Int)).toNat else min v.toNat n
theorem sIx_none (n d : Nat) : sIx n d none = d := rfl
theorem sIx_nat (n d k : Nat) : sIx n d (some (k : Int)) = min k n := by
  show (if (k : Int) < 0 then ((k : Int) + (n : Int)).toNat else min (k : Int).toNat n) = min k n
  rw [if_neg (by omega), Int.toNat_natCast]
end
end HT
namespace L2
open PySem PySem.Spec PyProof.Rows
noncomputable abbrev TO := St → Hp → (Option Int → Hp → Prop) → Prop
noncomputable def PO (X : Cx) (e : Option Expr) (t : TO) : Prop :=
  ∀ (pins : List (Addr × Obj)) (s : Shared) (σ : St) (H : Hp) (Q : Option Int → Hp → Prop), Inv X pins σ H s → t σ H Q →
    wpAny (model X.prog X.w) X.A (evalPart e X.env) (fun u s' => ∃ o H', Inv X pins σ H' s' ∧ IsPart u o ∧ Q o H') X.xe s
noncomputable def tNoPart : TO := fun _ H Q => Q none H
noncomputable def tPart (t : TE) : TO := fun σ H Q => t σ H fun x H1 => ∃ i, x = .int i ∧ Q (some i) H1
section
variable {X : Cx} {e : Expr} {te : TE} {lo hi : Option Expr} {tl th : TO} {pos p2 : Pos}
theorem po_none : PO X none tNoPart := by
  intro pins s σ H Q I h
  rw [evalPart_none]
  exact wpAny_pure ⟨none, H, I, .none, h⟩
theorem po_some (h : PE X e te) : PO X (some e) (tPart te) := by
  intro pins s σ H Q I hw
  rw [evalPart_some]
  refine thn (h pins s σ H _ I hw) fun u s1 ⟨x, H1, I1, r1, q1⟩ => ?_
  obtain ⟨i, rfl, q⟩ := q1
  obtain ⟨t, rfl⟩ := r1
  exact ⟨some i, H1, I1, .int i t, q⟩
noncomputable def SlR (X : Cx) (r : V → Option Int → Option Int → Hp → VK → Prop) : Prop :=
  ∀ (pins : List (Addr × Obj)) (s : Shared) (σ : St) (H : Hp) (x : V) (v vl vu : Value) (lo hi : Option Int) (sl : Addr) (Q : VK), Inv X pins σ H s → RelV x v → s.heap.IsSliceOf sl vl vu .none → IsPart vl lo → IsPart vu hi → r x lo hi H Q →
    ∃ T id, typeLookup (.type T) "__getitem__" = pure (some (.builtin id)) ∧ s.TypeIs v T ∧ wpAny (model X.prog X.w) X.A (getItem v (.ref sl)) (EP X pins σ Q) X.xe s
noncomputable def tSl (r : V → Option Int → Option Int → Hp → VK → Prop) (te : TE) (tl th : TO) : TE := fun σ H Q => te σ H fun x H1 => tl σ H1 fun l H2 => th σ H2 fun u H3 => r x l u H3 Q
theorem pe_slice {r : V → Option Int → Option Int → Hp → VK → Prop} (hr : SlR X r) (he : PE X e te) (hl : PO X lo tl) (hu : PO X hi th) : PE X (.Subscript e (.Slice lo hi none p2) pos) (tSl r te tl th) := by
  intro pins s σ H Q I h
  refine Subscript_ (thn (he pins s σ H _ I h) fun v s1 ⟨x, H1, I1, r1, q1⟩ => ?_)
  refine wpAny_Slice (thn (hl pins s1 σ H1 _ I1 q1) fun vl s2 ⟨l, H2, I2, pl, q2⟩ => thn (hu pins s2 σ H2 _ I2 q2) fun vu s3 ⟨u, H3, I3, pu, q3⟩ => ?_)
  rw [evalPart_none]
  refine wpAny_pure ?_
  have I4 : Inv X pins σ H3 { s3 with heap := s3.heap.push { cls := .type "slice", data := .fields #[vl, vu, .none] } } := I3.kept (t' := s3.toks) fun b ob q => Heap.get?_push_of_some _ q
  obtain ⟨T, id, hT, ht, hg⟩ := hr pins { s3 with heap := s3.heap.push { cls := .type "slice", data := .fields #[vl, vu, .none] } } σ H3 x v vl vu l u s3.heap.objs.size Q I4 r1 (Heap.IsSliceOf.new ..) pl pu q3
  show wpAny (model X.prog X.w) X.A (subscriptTail e (.Slice lo hi none p2) v (.ref s3.heap.objs.size)) (EP X pins σ Q) X.xe { s3 with heap := s3.heap.push { cls := .type "slice", data := .fields #[vl, vu, .none] } }
  exact tail_any (ops := [.ref s3.heap.objs.size, v]) ht hT hg (by with_unfolding_all rfl)
noncomputable def cutV (xs : List V) (lo hi : Option Int) : List V := (xs.drop (HT.sIx xs.length 0 lo)).take (HT.sIx xs.length xs.length hi - HT.sIx xs.length 0 lo)
theorem cutV_length (xs : List V) (lo hi : Option Int) : (cutV xs lo hi).length ≤ xs.length := by
  unfold cutV
  rw [List.length_take, List.length_drop]
  omega
end
end L2
namespace L2
open PySem PySem.Spec PyProof.Rows
noncomputable def ixN (n : Nat) (i : Int) : Option Nat := if 0 ≤ i then (if i < n then some i.toNat else none) else if -(n : Int) ≤ i then some (i + n).toNat else none
noncomputable def atI {α : Type} (xs : List α) (i : Int) : Option α := (ixN xs.length i).bind fun j => xs[j]?
theorem ixN_seq {n : Nat} {i : Int} {j : Nat} (h : ixN n i = some j) : seqIndex? i n = some j ∧ j < n ∧ -(n : Int) ≤ i ∧ i < n := by
  unfold ixN at h
  by_cases h0 : 0 ≤ i
  · rw [if_pos h0] at h
    by_cases h1 : i < n
    · rw [if_pos h1] at h
      have e : i.toNat = j := Option.some.inj h
      exact ⟨by rw [seqIndex_of h0 h1, e], by omega, by omega, h1⟩
    · rw [if_neg h1] at h; cases h
  · rw [if_neg h0] at h
    by_cases h1 : -(n : Int) ≤ i
    · rw [if_pos h1] at h
      have e : (i + n).toNat = j := Option.some.inj h
      exact ⟨by rw [seqIndex_neg (by omega) h1, e], by omega, h1, by omega⟩
    · rw [if_neg h1] at h; cases h
theorem atI_get {α : Type} {xs : List α} {i : Int} {v : α} (h : atI xs i = some v) : ∃ j, seqIndex? i xs.length = some j ∧ xs[j]? = some v ∧ j < xs.length ∧ -(xs.length : Int) ≤ i ∧ i < xs.length := by
  unfold atI at h
  cases e : ixN xs.length i with
  | none => rw [e] at h; cases h
  | some j =>
    rw [e] at h
    obtain ⟨h1, h2, h3, h4⟩ := ixN_seq e
    exact ⟨j, h1, h, h2, h3, h4⟩
theorem atI_nat {α : Type} {xs : List α} {j : Nat} {v : α} (h : xs[j]? = some v) : atI xs (j : Int) = some v := by
  have hj : j < xs.length := (List.getElem?_eq_some_iff.mp h).1
  have e : ixN xs.length (j : Int) = some j := by
    unfold ixN
    rw [if_pos (by omega), if_pos (by omega)]; simp
  unfold atI; rw [e]; exact h
theorem atI_last {α : Type} (xs : List α) (v : α) : atI (xs ++ [v]) (-1) = some v := by
  have hl : (xs ++ [v]).length = xs.length + 1 := by simp
  have e : ixN (xs ++ [v]).length (-1) = some xs.length := by
    unfold ixN
    rw [hl, if_neg (by decide), if_pos (by omega)]
    congr 1
    omega
  unfold atI
  rw [e]
  show (xs ++ [v])[xs.length]? = some v
  simp
noncomputable def PlainIx (b : Expr) : Prop := ∀ o i, subscripted b false o i = operate [o, i] (getItem o i)
noncomputable def IxR (X : Cx) (r : R2) : Prop :=
  ∀ (value slice : Expr) (pins : List (Addr × Obj)) (s : Shared) (σ : St) (H : Hp) (x y : V) (v u : Value) (Q : VK), Inv X pins σ H s → RelV x v → RelV y u → r x y H Q →
    subscripted slice false v u = operate [v, u] (getItem v u) → wpAny (model X.prog X.w) X.A (subscriptTail value slice v u) (EP X pins σ Q) X.xe s
noncomputable def MtR (X : Cx) (id : String) (r : V → List V → Hp → VK → Prop) : Prop :=
  ∀ (pins : List (Addr × Obj)) (s : Shared) (σ : St) (H : Hp) (x : V) (xs : List V) (v : Value) (us : List Value) (Q : VK), Inv X pins σ H s → RelV x v → Vals xs us → r x xs H Q →
    wpAny (model X.prog X.w) X.A (call (.builtin id) (v :: us)) (EP X pins σ Q) X.xe s
section
variable {X : Cx} {a b : Expr} {ta tb : TE} {pos : Pos}
theorem pe_ix {r : R2} (hr : IxR X r) (ha : PE X a ta) (hb : PE X b tb) (hs : PlainIx b) : PE X (.Subscript a b pos) (tOp r ta tb) := by
  intro pins s σ H Q I h
  exact Subscript_ (binT ha hb I h fun v u s2 x y H2 I2 rx ry q => hr a b pins s2 σ H2 x y v u Q I2 rx ry q (hs _ _))
noncomputable def rIxL (K : PySem.W.Frag) : R2 := fun x y H Q => ∃ p xs i v, x = .ref p ∧ y = .int i ∧ SqL K H p xs ∧ atI xs i = some v ∧ Q v H
noncomputable def rIxT (K : PySem.W.Frag) : R2 := fun x y H Q => ∃ p xs i v, x = .ref p ∧ y = .int i ∧ SqT K H p xs ∧ atI xs i = some v ∧ Q v H
theorem ix_list : IxR X (rIxL X.K) := by
  intro value slice pins s σ H x y v u Q I rx ry h hs
  obtain ⟨p, xs, i, z, rfl, rfl, hq, he, q⟩ := h
  cases rx
  obtain ⟨t, rfl⟩ := ry
  obtain ⟨its, r, pl, hz⟩ := I.list hq
  obtain ⟨j, h1, h2, h3, h4, h5⟩ := atI_get he
  obtain ⟨w, ew, rw'⟩ := r.get h2
  have hl := r.length
  have hn := line63
  have fin : EP X pins σ Q w s := ⟨z, H, I, rw', q⟩
  by_cases h0 : 0 ≤ i
  · have hj : i.toNat = j := by
      rw [seqIndex_of h0 h5] at h1
      exact Option.some.inj h1
    exact item_listR pl.isList h0 (by omega) (by rw [hj]; simpa using ew) fin hs
  · have hj : (i + (its.toArray.size : Int)).toNat = j := by
      rw [seqIndex_neg (by omega) h4] at h1
      rw [List.size_toArray, ← hl]
      exact Option.some.inj h1
    exact subscriptTail_builtinR (x := w) pl.isList.typeIs slot_list_getitem.lookup
      (wpAny_getItem_list_neg (Q := fun r s' => r = w ∧ EP X pins σ Q r s') pl.isList (by omega) (by rw [List.size_toArray] <;> omega) (by omega) (by rw [hj]; simpa using ew) ⟨rfl, fin⟩) hs
theorem ix_tup : IxR X (rIxT X.K) := by
  intro value slice pins s σ H x y v u Q I rx ry h hs
  obtain ⟨p, xs, i, z, rfl, rfl, hq, he, q⟩ := h
  cases rx
  obtain ⟨t, rfl⟩ := ry
  obtain ⟨its, r, pl, hz⟩ := I.tuple hq
  obtain ⟨j, h1, h2, h3, h4, h5⟩ := atI_get he
  obtain ⟨w, ew, rw'⟩ := r.get h2
  have hl := r.length
  have hn := line63
  have fin : EP X pins σ Q w s := ⟨z, H, I, rw', q⟩
  exact subscriptTail_builtinR (x := w) pl.typeIs slot_tuple_getitem.lookup
    (getItem_tuple (j := j) (Q := fun r s' => r = w ∧ EP X pins σ Q r s') pl (by omega) (by omega) (by rw [List.size_toArray, ← hl]; exact h1) (by simpa using ew) ⟨rfl, fin⟩) hs
theorem Inv.lst {pins : List (Addr × Obj)} {σ : St} {H : Hp} {s : Shared} {p : Addr} {xs : List V} (I : Inv X pins σ H s) (h : H p = some (.lst xs)) :
    ∃ (its : List Value) (n : Nat), Vals xs its ∧ s.heap.get? p = some { cls := .type "list", data := .seq its.toArray n } ∧ xs.length ≤ sizeLine := by
  obtain ⟨z, its, n, r, e⟩ := I.hok p _ h
  exact ⟨its, n, r, e, z⟩
theorem slice_bounds (lo hi : Option Int) (n : Nat) : (sliceBounds lo hi none n).1 = ((HT.sIx n 0 lo : Nat) : Int) ∧ (sliceBounds lo hi none n).2.1 = ((HT.sIx n n hi : Nat) : Int) ∧ (sliceBounds lo hi none n).2.2 = 1 := by
  refine ⟨?_, ?_, rfl⟩
  · cases lo with
    | none => simp [sliceBounds, HT.sIx]
    | some i =>
      simp only [sliceBounds, HT.sIx, Option.getD_none, show (1 : Int) > 0 by decide, if_true]
      by_cases h : i < 0
      · simp only [h, if_true] <;> omega
      · simp only [h, if_false] <;> omega
  · cases hi with
    | none => simp [sliceBounds, HT.sIx]
    | some i =>
      simp only [sliceBounds, HT.sIx, Option.getD_none, show (1 : Int) > 0 by decide, if_true]
      by_cases h : i < 0
      · simp only [h, if_true] <;> omega
      · simp only [h, if_false] <;> omega
theorem slicePick_cut (its : List Value) (lo hi : Option Int) : slicePick its.toArray lo hi none = ((its.drop (HT.sIx its.length 0 lo)).take (HT.sIx its.length its.length hi - HT.sIx its.length 0 lo)).toArray := by
  obtain ⟨h1, h2, h3⟩ := slice_bounds lo hi its.toArray.size
  unfold slicePick
  rw [h1, h2, h3]
  simp only [sliceRange_one, pick_run, List.size_toArray] <;> rfl
noncomputable def rSlL (K : PySem.W.Frag) : V → Option Int → Option Int → Hp → VK → Prop := fun x lo hi H Q => ∃ a xs, x = .ref a ∧ SqL K H a xs ∧ ∀ p, H p = none → Q (.ref p) (upd H p (.lst (cutV xs lo hi)))
theorem sl_list : SlR X (rSlL X.K) := by
  intro pins s σ H x v vl vu lo hi sl Q I rx hs pl pu h
  obtain ⟨a, xs, rfl, hx, q⟩ := h
  cases rx
  obtain ⟨its, r, ht, hz⟩ := I.list hx
  have hlen := r.length
  refine ⟨"list", _, slot_list_getitem.lookup, ht.isList.typeIs, ?_⟩
  refine wpAny_getItem_list_slice ht.isList hs pl pu .none (by simp) ?_ (by rw [List.size_toArray] <;> omega)
  rw [slicePick_cut, ← hlen]
  refine ⟨.ref s.heap.objs.size, _, I.laid (t' := s.toks) (o := .lst (cutV xs lo hi)) (fun b ob q => Heap.get?_push_of_some _ q) (Nat.le_refl _) ?_, rfl, q _ (I.hok.fresh (Nat.le_refl _))⟩
  exact ⟨Nat.le_trans (cutV_length xs lo hi) hz, _, 0, (r.drop (HT.sIx xs.length 0 lo)).take (HT.sIx xs.length xs.length hi - HT.sIx xs.length 0 lo), Heap.get?_push_size _ rfl⟩
theorem call_len_seq : CallR X (.builtin "len") (fun xs H Q => ∃ p ys, xs = [.ref p] ∧ (SqL X.K H p ys ∨ SqT X.K H p ys) ∧ Q (.int ys.length) H) := by
  intro pins s σ H xs us Q I r h
  obtain ⟨p, ys, rfl, hq, q⟩ := h
  obtain ⟨u, rfl, rx⟩ := vals1 r
  cases rx
  have hn := line63
  rcases hq with hq | hq
  · obtain ⟨its, r', pl, hz⟩ := I.list hq
    have hlen := r'.length
    exact Calls.call_len_list pl.isList (by simp only [List.size_toArray] <;> omega) ⟨.int ys.length, H, I.tok _, ⟨s.toks + 1, by rw [List.size_toArray, hlen]⟩, q⟩
  · obtain ⟨its, r', pl, hz⟩ := I.tuple hq
    have hlen := r'.length
    exact len_tuple pl (by simp only [List.size_toArray] <;> omega) ⟨.int ys.length, H, I.tok _, ⟨s.toks + 1, by rw [List.size_toArray, hlen]⟩, q⟩
theorem call_list_of : CallR X (.type "list") (fun xs H Q => ∃ p ys, xs = [.ref p] ∧ (SqL X.K H p ys ∨ SqT X.K H p ys) ∧ ∀ l, H l = none → Q (.ref l) (upd H l (.lst ys))) := by
  intro pins s σ H xs us Q I r h
  obtain ⟨p, ys, rfl, hq, q⟩ := h
  obtain ⟨u, rfl, rx⟩ := vals1 r
  cases rx
  have fin : ∀ (its : List Value), Vals ys its → ys.length ≤ sizeLine → ∀ (h' : Heap) (c' : Nat), (∀ b o', s.heap.get? b = some o' → h'.get? b = some o') →
      h'.get? s.heap.objs.size = some { cls := .type "list", dict := none, data := .seq its.toArray c', slots := #[] } → EP X pins σ Q (.ref s.heap.objs.size) { s with heap := h' } := fun its r' hz h' c' kp e =>
    ⟨.ref s.heap.objs.size, _, I.laid (t' := s.toks) kp (Nat.le_refl _) (show ObjOk X.prog X.w _ h' _ (.lst ys) from ⟨hz, its, c', r', e⟩), rfl, q _ (I.hok.fresh (Nat.le_refl _))⟩
  rcases hq with hq | hq
  · obtain ⟨its, r', pl, hz⟩ := I.list hq
    have hlen := r'.length
    obtain ⟨o, ho, hc, n, hd⟩ := pl.isList
    exact call_list_seq p (.inl rfl) ho hc hd (fun h' c' kp e => fin its r' hz h' c' kp e) (by simp only [List.size_toArray] <;> omega)
  · obtain ⟨its, r', pl, hz⟩ := I.tuple hq
    have hlen := r'.length
    obtain ⟨o, ho, hc, n, hd⟩ := pl
    exact call_list_seq p (.inr rfl) ho hc hd (fun h' c' kp e => fin its r' hz h' c' kp e) (by simp only [List.size_toArray] <;> omega)
theorem call_tuple_of : CallR X (.type "tuple") (fun xs H Q => ∃ p ys, xs = [.ref p] ∧ ((SqL X.K H p ys ∧ ∀ l, H l = none → Q (.ref l) (upd H l (.tup ys))) ∨ (SqT X.K H p ys ∧ Q (.ref p) H))) := by
  intro pins s σ H xs us Q I r h
  obtain ⟨p, ys, rfl, h⟩ := h
  obtain ⟨u, rfl, rx⟩ := vals1 r
  cases rx
  rcases h with ⟨hq, q⟩ | ⟨hq, q⟩
  · obtain ⟨its, r', pl, hz⟩ := I.list hq
    have hlen := r'.length
    refine call_tuple_list pl.isList (fun h' kp => ?_) (by simp only [List.size_toArray] <;> omega)
    have I1 : Inv X pins σ H { s with heap := h' } := I.kept (t' := s.toks) kp
    have I2 : Inv X pins σ (upd H h'.objs.size (.tup ys)) { s with heap := h'.push { cls := .type "tuple", data := .seq its.toArray } } :=
      I1.laid (t' := s.toks) (fun b o e => Heap.get?_push_of_some _ e) (Nat.le_refl _) (show ObjOk X.prog X.w _ _ _ (.tup ys) from ⟨hz, its, r', IsTup.new _ _⟩)
    exact ⟨.ref h'.objs.size, _, I2, rfl, q _ (I1.hok.fresh (Nat.le_refl _))⟩
  · obtain ⟨its, r', pl, hz⟩ := I.tuple hq
    exact call_tuple_same pl ⟨.ref p, H, I, rfl, q⟩
noncomputable def tyV (K : PySem.W.Frag) (T : String) (x : V) (H : Hp) : Prop := match x with
  | .str _ => T = "str"
  | .int _ => T = "int"
  | .ref p => (T = "list" ∧ ∃ xs, SqL K H p xs) ∨ (T = "tuple" ∧ ∃ o, K.lookup p = some o ∧ o.cls = .type "tuple" ∧ o.dict = none) ∨
      (T = "dict" ∧ ((∃ kvs, H p = some (.dK kvs)) ∨ ∃ kvs, H p = some (.dT kvs))) ∨ (T = "set" ∧ ∃ S n, H p = some (.set S n))
  | _ => False
theorem tyV_is {pins : List (Addr × Obj)} {σ : St} {H : Hp} {s : Shared} {T : String} {x : V} {v : Value} (I : Inv X pins σ H s) (r : RelV x v) (ty : tyV X.K T x H) :
    s.TypeIs v T ∧ ∀ a, v = .ref a → ∃ ob, s.heap.get? a = some ob ∧ ob.dict = none := by
  cases x with
  | str z =>
    obtain ⟨t, rfl⟩ := r
    cases (show T = "str" from ty)
    exact ⟨typeIs_str s z t, fun _ e => nomatch e⟩
  | int i =>
    obtain ⟨t, rfl⟩ := r
    cases (show T = "int" from ty)
    exact ⟨typeIs_int s i t, fun _ e => nomatch e⟩
  | ref p =>
    cases r
    rcases ty with ⟨rfl, xs, hq⟩ | ⟨rfl, o, hk, hc, hd⟩ | ⟨rfl, hk⟩ | ⟨rfl, S, n, hk⟩
    · obtain ⟨its, _, pl, _⟩ := I.list hq
      refine ⟨pl.isList.typeIs, fun a e => ?_⟩
      cases e
      obtain ⟨o, n, e, c, hd, _⟩ := pl
      exact ⟨o, e, hd⟩
    · refine ⟨⟨o, I.kIn p o hk, hc⟩, fun a e => ?_⟩
      cases e
      exact ⟨o, I.kIn _ o hk, hd⟩
    · have z : ∃ o, s.heap.get? p = some o ∧ o.ExactDict := by
        rcases hk with ⟨kvs, hk⟩ | ⟨kvs, hk⟩
        · obtain ⟨_, _, _, _, o, _, _, e, ex, _⟩ := I.hok p _ hk
          exact ⟨o, e, ex⟩
        · obtain ⟨_, _, _, _, o, _, _, e, ex, _⟩ := I.hok p _ hk
          exact ⟨o, e, ex⟩
      obtain ⟨o, e, ex⟩ := z
      refine ⟨⟨o, e, ex.1⟩, fun a e2 => ?_⟩
      cases e2
      exact ⟨o, e, ex.2.1⟩
    · obtain ⟨o, _, _, _, e, ex, _⟩ := I.hok p _ hk
      refine ⟨⟨o, e, ex.1⟩, fun a e2 => ?_⟩
      cases e2
      exact ⟨o, e, ex.2.1⟩
  | _ => exact False.elim ty
noncomputable def tBM (K : PySem.W.Frag) (T : String) (r : V → List V → Hp → VK → Prop) (to : TE) (t : TA) : TE := fun σ H Q => to σ H fun x H1 => tyV K T x H1 ∧ t σ H1 fun xs H2 => r x xs H2 Q
variable {o e : Expr} {es : List Expr} {to : TE} {t : TA} {name : Str} {apos cpos : Pos} {T id : String} {r : V → List V → Hp → VK → Prop}
theorem pe_bm (pa : PlainAttrs T) (slot : Slot T name id) (hty : typeOf (.builtin id) = pure (.type "method_descriptor")) (hm : MtR X id r) (ho : PE X o to) (ha : PA X (e :: es) t)
    (hbase : attributeBase o name X.env (eval o X.env) = eval o X.env := by rfl)
    (hfew : ((backTo cpos (starEach (e :: es) X.env)).all (fun x => !x.1) && (backToKw cpos (keywordEach [] X.env)).all (fun x => x.1.isSome)
      && decide ((e :: es).length + ([] : List Keyword).length + (if ([] : List Keyword).isEmpty then 0 else 1) < 30)) = true := by rfl)
    (hline : (apos.endLine == cpos.line) = true := by rfl) (hs : starEach (e :: es) X.env = (false, eval e X.env) :: starEach es X.env := by rfl) (hplain : (backTo cpos (starEach es X.env)).any (·.1) = false := by rfl) :
    PE X (.Call (.Attribute o name apos) (e :: es) [] cpos) (tBM X.K T r to t) := by
  intro pins s σ H Q I h
  refine wpAny_Call_method_late hbase hfew hline rfl (thn (ho pins s σ H _ I h) fun v s1 ⟨x, H1, I1, r1, ty, q1⟩ => ?_)
  obtain ⟨h1, h2⟩ := tyV_is I1 r1 ty
  refine ⟨T, id, pa, slot, hty, h1, h2, ?_⟩
  have hA := ha cpos pins s1 σ H1 _ I1 q1
  rw [hs] at hA ⊢
  refine Calls.callWith_builtin (by show (false || (backTo cpos (starEach es X.env)).any (·.1)) = false; rw [hplain] <;> rfl) (Calls.evalArgs_plain ?_)
  exact thn hA fun us s2 ⟨vs, H2, I2, r2, q2⟩ => hm pins s2 σ H2 x vs v us Q I2 r1 r2 q2
end
end L2
namespace L2
open PySem PySem.Spec PyProof.Rows
noncomputable def MtM (X : Cx) (id : String) (r : V → List V → Hp → VK → Prop) : Prop :=
  ∀ (pins : List (Addr × Obj)) (s : Shared) (σ : St) (H : Hp) (x : V) (xs : List V) (v : Value) (us : List Value) (Q : VK), Inv X pins σ H s → RelV x v → Vals xs us → r x xs H Q →
    wpAny (model X.prog X.w) X.A (call (.builtin id) (v :: us)) (EP X pins σ Q) X.xe s
theorem Vals.one : ∀ {x : V} {us : List Value}, Vals [x] us → ∃ u, us = [u] ∧ RelV x u
  | _, _, .cons r .nil => ⟨_, rfl, r⟩
theorem Vals.zero : ∀ {us : List Value}, Vals [] us → us = []
  | _, .nil => rfl
section
variable {X : Cx} {pins : List (Addr × Obj)} {σ : St} {H : Hp} {s : Shared} {l b : Addr} {xs ys zs : List V}
theorem Inv.lset {its its' : List Value} {n : Nat} {f : Array Value → Array Value} {t' : Nat} (I : Inv X pins σ H s) (hH : H l = some (.lst xs))
    (e : s.heap.get? l = some { cls := .type "list", data := .seq its.toArray n }) (hf : f its.toArray = its'.toArray) (hv : Vals ys its') (hz : ys.length ≤ sizeLine) :
    Inv X pins σ (upd H l (.lst ys)) { s with heap := s.heap.update l (Obj.mapSeq f), toks := t' } := by
  have q := PySem.IsL.update e f
  rw [hf] at q
  refine I.write (x := l) (e := l) (by rw [hH]; exact trivial) (.inl rfl) (fun b' u hb hu => (Heap.get?_update_other s.heap (Obj.mapSeq f) (Ne.symm hb)).trans hu) ⟨_, q⟩ ?_
  exact ⟨hz, its', _, hv, q⟩
theorem Inv.lnew {its : List Value} {t' : Nat} (I : Inv X pins σ H s) (hv : Vals ys its) (hz : ys.length ≤ sizeLine) :
    Inv X pins σ (upd H s.heap.objs.size (.lst ys)) { s with heap := s.heap.push { cls := .type "list", data := .seq its.toArray }, toks := t' } :=
  I.laid (fun _ _ q => Heap.get?_push_of_some _ q) (Nat.le_refl _) ⟨hz, its, 0, hv, Heap.get?_push_size _ rfl⟩
theorem Inv.fresh (I : Inv X pins σ H s) : H s.heap.objs.size = none := I.hok.fresh (Nat.le_refl _)
theorem Inv.lstM (I : Inv X pins σ H s) (hH : H l = some (.lst xs)) : xs.length ≤ sizeLine ∧ ∃ (its : List Value) (n : Nat), Vals xs its ∧ xs.length = its.length ∧ s.heap.get? l = some { cls := .type "list", data := .seq its.toArray n } := by
  obtain ⟨z, its, n, r, e⟩ := I.hok l _ hH
  exact ⟨z, its, n, r, r.length, e⟩
theorem notLongL {n : Nat} (h : n ≤ sizeLine) : Builtin.List.listTooLong n = false := by
  unfold Builtin.List.listTooLong
  exact decide_eq_false (by omega)
end
section
variable {X : Cx}
noncomputable def rAppend : V → List V → Hp → VK → Prop := fun x vs H Q => ∃ l xs y, x = .ref l ∧ vs = [y] ∧ H l = some (.lst xs) ∧ xs.length < sizeLine ∧ Q .non (upd H l (.lst (xs ++ [y])))
theorem mt_append : MtM X "list.append" rAppend := by
  intro pins s σ H x vs v us Q I rx rv h
  obtain ⟨l, xs, y, rfl, rfl, hH, hz, q⟩ := h
  cases rx
  obtain ⟨u, rfl, ru⟩ := rv.one
  obtain ⟨z, its, n, r, hl, e⟩ := I.lstM hH
  refine call_meets F.slot_list_append ⟨_, e, rfl⟩ F.entry_list_append (F.args_list_append_2 _ _) (PySem.list_append l its.toArray n u (by rw [List.size_toArray]; omega)) ⟨e, ?_⟩
  refine ⟨.non, _, I.lset (its' := its ++ [u]) hH e (by simp) (r.append (.cons ru .nil)) ?_, rfl, q⟩
  rw [List.length_append, List.length_singleton]
  omega
noncomputable def rExtend : V → List V → Hp → VK → Prop := fun x vs H Q => ∃ l b xs zs, x = .ref l ∧ vs = [.ref b] ∧ H l = some (.lst xs) ∧ H b = some (.lst zs) ∧ xs.length + zs.length ≤ sizeLine ∧ Q .non (upd H l (.lst (xs ++ zs)))
theorem mt_extend : MtM X "list.extend" rExtend := by
  intro pins s σ H x vs v us Q I rx rv h
  obtain ⟨l, b, xs, zs, rfl, rfl, hH, hB, hz, q⟩ := h
  cases rx
  obtain ⟨u, rfl, ru⟩ := rv.one
  cases ru
  obtain ⟨z, its, n, r, hl, e⟩ := I.lstM hH
  obtain ⟨z2, its2, n2, r2, hl2, e2⟩ := I.lstM hB
  have hsz : its.toArray.size + its2.toArray.size ≤ sizeLine := by rw [List.size_toArray, List.size_toArray]; omega
  have hlong : ¬ (!its.toArray.isEmpty && Builtin.List.listTooLong (its.toArray.size + its2.toArray.size)) = true := by
    rw [notLongL hsz, Bool.and_false]
    exact Bool.false_ne_true
  refine call_meets F.slot_list_extend ⟨_, e, rfl⟩ F.entry_list_extend (F.args_list_extend_2 _ _)
    (AutoSeq1.list_extend_list_list_0 l its.toArray n b its2.toArray n2 hlong (by rw [List.size_toArray]; omega) (by omega)) ⟨e, e2, ?_⟩
  refine ⟨.non, _, I.lset (its' := its ++ its2) hH e (by simp) (r.append r2) ?_, rfl, q⟩
  rw [List.length_append]
  omega
noncomputable def rCat : R2 := fun x y H Q => ∃ l b xs zs, x = .ref l ∧ y = .ref b ∧ H l = some (.lst xs) ∧ H b = some (.lst zs) ∧ xs.length + zs.length ≤ sizeLine ∧ ∀ p, H p = none → Q (.ref p) (upd H p (.lst (xs ++ zs)))
theorem op_cat : OpR X (binaryOp .Add) rCat := by
  intro pins s σ H x y v u Q I rx ry h
  obtain ⟨l, b, xs, zs, rfl, rfl, hH, hB, hz, q⟩ := h
  cases rx
  cases ry
  obtain ⟨z, its, n, r, hl, e⟩ := I.lstM hH
  obtain ⟨z2, its2, n2, r2, hl2, e2⟩ := I.lstM hB
  refine PySem.P.add_list e e2 ?_ (by rw [List.size_toArray, List.size_toArray]; omega)
  have ea : its.toArray ++ its2.toArray = (its ++ its2).toArray := by simp
  rw [ea]
  exact ⟨.ref _, _, I.lnew (t' := s.toks) (r.append r2) (by rw [List.length_append]; omega), rfl, q _ I.fresh⟩
end
section
variable {prog : Program} {w : World} {A : Around} {E : Value → Shared → Prop} {s : Shared}
end
section
variable {X : Cx}
end
end L2
namespace Att
open PySem PySem.W PySem.Calls PyProof.Rows
theorem ints_of_wellAll {P : Params} {h : Heap} : ∀ (ns : List Int) (vs : List Value), WellAll P h vs (ns.map WData.int) → IntsAre vs ns := by
  intro ns
  induction ns with
  | nil =>
    intro vs w
    rw [List.map_nil] at w
    cases w
    exact .nil
  | cons n ns ih =>
    intro vs w
    rw [List.map_cons] at w
    cases w with
    | cons a b =>
      cases a
      exact .cons _ _ (ih _ b)
theorem script_of {l : OpenLaw} {n : Nat} (hn : l.most = some n) {P : Params} {h : Heap} {args : List WData} {vals : List Value}
    (hpre : l.row.toRowW.claim.pre args = true) (hwl : WellAll P h vals args) :
    ∃ a vs ns, vals = [Value.ref a] ∧ args = [WData.list (ns.map WData.int)] ∧ h.get? a = some { cls := .type "list", data := .seq vs.toArray } ∧ IntsAre vs ns ∧ ns.length ≤ n := by
  have hsh : WShape.hasAll [] args [.list .int] = true := (pre_splitW hpre).1
  have hc : l.pre.holds [] { args := args } = true := (pre_splitW hpre).2
  obtain ⟨d, r, rfl, h1, h2⟩ := hasAllW_cons hsh
  obtain rfl := hasAllW_nil h2
  obtain ⟨xs, rfl, h3⟩ := hasW_list h1
  obtain ⟨ns, rfl⟩ := items_int h3
  have hlen : ns.length ≤ n := by
    unfold OpenLaw.pre at hc
    have h4 : (WTm.not (.lt (.lit (.int (n : Int))) (.len (.arg 0)))).holds [] { args := [.list (ns.map .int)] } = true := by
      have h4 := (holds_andW hc).1
      rw [hn] at h4
      exact h4
    have h5 := condW_of h4 (w_not (w_lt w_lit (w_len_list (w_arg rfl))))
    rw [List.length_map] at h5
    refine Nat.le_of_not_lt fun q => ?_
    have q' : (n : Int) < ((ns.length : Nat) : Int) := by omega
    first
      | (rw [decide_eq_true q'] at h5; exact absurd h5 (by decide))
      | (simp at h5; omega)
  cases hwl with
  | cons w1 w2 =>
    cases w2
    cases w1 with
    | list ho hall => exact ⟨_, _, ns, rfl, rfl, ho, ints_of_wellAll ns _ hall, hlen⟩
theorem post_true (l : OpenLaw) (args : List WData) : l.row.toRowW.claim.post args (.bool true) args = true :=
  postW_of (r := l.row.toRowW) (X := (true == true))
    (show WShape.has [] (.bool true) .bool = true by first | rfl | decide | simp [WShape.has, WShape.arms, WShape.armsAll])
    (show (WTm.eq .res (.lit (.bool true))).value [] { args := args, res := some (.bool true), after := args } = some (.bool (true == true)) from w_eq_bool (w_res rfl) w_lit) rfl
section
variable {prog : Program} {w : World} {A : Around} {E : Value → Shared → Prop} {s : Shared} {K : Frag}
end
end Att
namespace L2
open PySem PySem.Spec PyProof.Rows
theorem vals_ints : ∀ {vs : List Value} {ns : List Int}, IntsAre vs ns → Vals (ns.map V.int) vs
  | _, _, .nil => .nil
  | _, _, .cons n t h => .cons ⟨t, rfl⟩ (vals_ints h)
noncomputable def Only (H : Hp) : Prop := ∀ b, H b = none ∨ ∃ o xs, H b = some (.frz o (.lst xs))
theorem law_call {P : Program} {w : World} {K : PySem.W.Frag} {mg mb : Str → Option Value} {CX : CXT} {k : Nat} {fa a : Addr} {fd : FuncData} {x : Str} {sp : Sp} {s₁ : Shared} {vs : List Value} {ns : List Int}
    (KX : K.In s₁.heap) (hns : s₁.heap.Ns mainGlobals mg) (hb : s₁.heap.Ns builtinsNs mb) (hbb : ∀ x : Str, x ≠ "__name__" → mb x = bootBuiltins x) (hlim : s₁.heap.NoLimit) (hg : s₁.gens = #[])
    (ha : s₁.heap.get? a = some { cls := .type "list", data := .seq vs.toArray }) (hi : IntsAre vs ns) (hl : ns.length ≤ sizeLine) (hr : Room k callerA)
    (F : ∀ base : Heap, K.In base → base.Ns mainGlobals mg → FnOk P w K mg base CX k fa fd [x] sp) (hbind : ∀ (s : Shared) (u : Value), BindsTo s fd ⟨[u], []⟩ [(x, u)])
    (hsp : ∀ H : Hp, Only H → SqL K H a (ns.map V.int) → sp [.ref a] H (fun v _ => v = .bl true) fun _ _ _ => False)
    (hCX : ∀ H e s', CX [] H s₁ (fun _ _ _ => False) e s' → False) :
    codeAny (model P w) callerA (.call (.ref fa) ⟨[.ref a], []⟩) (fun r s' => r = .ok (.ret (.bool true)) ∧ OldK s₁.heap s'.heap ∧ s'.os = s₁.os ∧ AllBare s'.gens) s₁ := by
  have rv := vals_ints hi
  have lenV := hi.length
  have core : ∀ H : Hp, Only H → SqL K H a (ns.map V.int) → HOk P w H s₁.heap → (∀ b, H b ≠ none → b = a) → (H a ≠ none → K.lookup a = none) →
      codeAny (model P w) callerA (.call (.ref fa) ⟨[.ref a], []⟩) (fun r s' => r = .ok (.ret (.bool true)) ∧ OldK s₁.heap s'.heap ∧ s'.os = s₁.os ∧ AllBare s'.gens) s₁ := by
    intro H hO hS hok hA hK
    have base_of : ∀ {b : Addr} {o : Obj}, s₁.heap.get? b = some o → H b = none → (hidT s₁.heap H).get? b = some o := fun e n => hidT_get e n
    have noA : ∀ {b : Addr} {o : Obj} {es : Array DictEntry} {ep : Nat}, s₁.heap.get? b = some o → o.data = .dict es ep → H b = none := fun {b o es ep} e d => by
      cases q : H b with
      | none => rfl
      | some u =>
        have e' : b = a := hA b (by rw [q]; simp)
        subst e'
        rw [ha] at e; cases e
        have d' : Data.seq vs.toArray _ = Data.dict es ep := d
        cases d'
    have nsK : ∀ {b : Addr} {m : Str → Option Value}, s₁.heap.Ns b m → (hidT s₁.heap H).Ns b m := fun {b m} ⟨o, es, ep, e, d, r⟩ => ⟨o, es, ep, base_of e (noA e d), d, r⟩
    have hKb : K.In (hidT s₁.heap H) := fun b o e => base_of (KX b o e) (by
      cases q : H b with
      | none => rfl
      | some u =>
        have e' : b = a := hA b (by rw [q]; simp)
        subst e'
        rw [hK (by rw [q]; simp)] at e; cases e)
    have hM : Mod K mg (hidT s₁.heap H) := ⟨hKb, nsK hns, ⟨mb, nsK hb, hbb⟩, let ⟨mc, h1, h2⟩ := hlim; ⟨mc, nsK h1, h2⟩⟩
    have e0 : Env0 P w K mg (hidT s₁.heap H) callerA [] s₁ H := ⟨rfl, hM, fun b o e => of_hidT e, Nat.le_of_eq (hidT_size _ _), trivial, fun b hb => absurd (show b ∈ ([] : List Addr) from hb) (by simp), hok, .of_eq hg⟩
    refine codeAny_mono ((F _ hKb (nsK hns)).run callerA [] s₁ H ⟨[.ref a], []⟩ [.ref a] [.ref a] _ _ hr e0 (hbind s₁ (.ref a)) (.cons rfl .nil) (hsp H hO hS)) fun r s' h => ?_
    cases r with
    | error e => exact (hCX H e s' h).elim
    | ok fl =>
      cases fl with
      | next => exact False.elim h
      | brk => exact False.elim h
      | cont => exact False.elim h
      | ret u =>
        obtain ⟨v, H', os, bare, un, hok', r', q⟩ := h
        have q' : v = .bl true := q
        subst q'
        obtain rfl : u = Value.bool true := r'
        refine ⟨rfl, OldK.of_keep fun b o e => ?_, os, bare⟩
        cases q : H b with
        | none => exact un.keep b o e q (by intro z; exact absurd (show b ∈ ([] : List Addr) from z) (by simp)) (by simp)
        | some u =>
          rcases hO b with z | ⟨ob, xs, z⟩
          · rw [q] at z; cases z
          · have z2 := un.frzs b ob _ z
            obtain ⟨e1, _⟩ := hok b _ z
            obtain ⟨e2, _⟩ := hok' b _ z2
            rw [e] at e1; cases e1
            exact e2
  cases hk : K.lookup a with
  | some o =>
    have e := KX a o hk
    rw [ha] at e
    cases e
    refine core (fun _ => none) (fun _ => .inl rfl) (.inr ⟨_, vs.toArray, _, hk, rfl, rfl, rfl, by rw [List.size_toArray, lenV]; exact hl, by simpa using rv⟩) (fun b u z => by have z' : (none : Option HO) = some u := z; cases z') (fun b z => absurd rfl z) fun z => absurd rfl z
  | none =>
    refine core (fun b => if b = a then some (.frz { cls := .type "list", data := .seq vs.toArray } (.lst (ns.map V.int))) else none) (fun b => ?_) (.inl (.inr ⟨{ cls := .type "list", data := .seq vs.toArray }, if_pos rfl⟩)) (fun b u z => ?_) (fun b z => ?_) fun _ => hk
    · by_cases hb : b = a
      · exact .inr ⟨_, _, if_pos hb⟩
      · exact .inl (if_neg hb)
    · by_cases hb : b = a
      · have z' := (if_pos hb).symm.trans z
        cases z'
        subst hb
        exact ⟨ha, by rw [List.length_map]; exact hl, vs, _, rv, ha⟩
      · have z' := (if_neg hb).symm.trans z
        cases z'
    · by_cases hb : b = a
      · exact hb
      · exact absurd (if_neg hb) z
end L2
namespace L2
open PySem PySem.Spec PyProof.Rows
noncomputable abbrev KOf {K : PySem.W.Frag} {h : Heap} (_ : K.In h) : PySem.W.Frag := K
end L2
namespace L2
open PySem PySem.Spec PyProof.Rows
noncomputable def inClass (s : Stmt) (j : Nat) : Stmt := match s with
  | .ClassDef _ _ _ body _ _ _ _ _ _ _ => body.getD j (.Pass ⟨0, 0, 0, 0⟩)
  | _ => .Pass ⟨0, 0, 0, 0⟩
noncomputable def defArgs (s : Stmt) : Arguments := match s with
  | .FunctionDef _ a _ _ _ _ _ _ _ _ => a
  | _ => { posonlyargs := [], args := [], vararg := none, kwonlyargs := [], kw_defaults := [], kwarg := none, defaults := [] }
noncomputable def defBody (s : Stmt) : List Stmt := match s with
  | .FunctionDef _ _ b _ _ _ _ _ _ _ => b
  | _ => []
noncomputable def defScope (s : Stmt) : Scope := match s with
  | .FunctionDef _ _ _ _ _ _ sc _ _ _ => sc
  | _ => { kind := .function, names := [], isGenerator := false, isCoroutine := false }
noncomputable abbrev CX0 : CXT := fun _ _ _ _ _ _ => False
noncomputable abbrev E0 : XK := fun _ _ _ => False
theorem pass0 {X : Cx} : Passes CX0 X E0 := fun _ _ _ _ _ _ _ h => h.elim
structure Fun (K : PySem.W.Frag) (x qual : Str) (st : Stmt) (f : Addr) (fd : FuncData) : Prop where
  ex : ∃ (oc : Value) (od : Option Addr) (kV doc pm : Value) (an : Option Addr) (cdv ct : Value) (osl : Array (Option Value)),
    fd = PySem.W.fnOf x qual (defArgs st) (defBody st) (defScope st) .none kV doc pm an cdv ct ∧ K.lookup f = some ⟨oc, od, .func fd, osl⟩ ∧ PySem.W.codeIn K cdv qual = true
  kp : PySem.W.keepIn K (.ref f) = true
section
variable {P : Program} {w : World} {K : PySem.W.Frag} {mg : Str → Option Value} {base : Heap}
theorem Fun.ok {x qual : Str} {st : Stmt} {f : Addr} {fd : FuncData} {N ps : List Str} {k : Nat} {sp : Sp} (F : Fun K x qual st f fd) (S : FnScope N ps (defScope st)) (len : ∀ vs H Q E, sp vs H Q E → vs.length = ps.length)
    (hbody : ∀ (cdv : Value) (A : Around) (outer : List Env) (s : Shared) (H : Hp) (vs : List V) (Q : VK) (E : XK), Room k (A.deeper (envOfC qual (defScope st) s.heap.objs.size f cdv)) → sp vs H Q E →
      ∃ t, PSs (cxOf CX0 P w K mg base N qual (defScope st) f cdv A outer s H E).nox (defBody st) t ∧ t { nx := fun _ H' => Q .non H', rt := Q } (start N vs) H) : FnOk P w K mg base CX0 (k + 1) f fd ps sp := by
  obtain ⟨oc, od, kV, doc, pm, an, cdv, ct, osl, rfl, lk, hcd⟩ := F.ex
  refine fn_of lk hcd S len fun A outer s H vs Q E hr hsp => ?_
  obtain ⟨t, h, q⟩ := hbody cdv A outer s H vs Q E hr hsp
  exact ⟨t, h.nox, q⟩
theorem Fun.binds {x qual : Str} {st : Stmt} {f : Addr} {fd : FuncData} {ps : List Str} (F : Fun K x qual st f fd)
    (h : ∀ (kV doc pm : Value) (an : Option Addr) (cdv ct : Value) (us : List Value), us.length = ps.length → bindArgs (PySem.W.fnOf x qual (defArgs st) (defBody st) (defScope st) .none kV doc pm an cdv ct) ⟨us, []⟩ = pure (ps.zip us)) : Binds K fd ps [] := by
  obtain ⟨oc, od, kV, doc, pm, an, cdv, ct, osl, rfl, lk, hcd⟩ := F.ex
  exact .all (h kV doc pm an cdv ct)
theorem fun_mk {x qual : Str} {st : Stmt} {f : Addr} {oc : Value} {od an : Option Addr} {osl : Array (Option Value)} {kV doc pm cdv ct : Value} (l : K.lookup f = some ⟨oc, od, .func (PySem.W.fnOf x qual (defArgs st) (defBody st) (defScope st) .none kV doc pm an cdv ct), osl⟩)
    (c : PySem.W.codeIn K cdv qual = true) (k : PySem.W.keepIn K (.ref f) = true) : Fun K x qual st f (PySem.W.fnOf x qual (defArgs st) (defBody st) (defScope st) .none kV doc pm an cdv ct) := ⟨⟨oc, od, kV, doc, pm, an, cdv, ct, osl, rfl, l, c⟩, k⟩
end
section
variable {X : Cx}
theorem pv (i : Nat) {x : Str} {pos : Pos} (hN : X.N[i]? = some x := by rfl) (hv : Vis X.env.scope x := by first | exact Or.inl rfl | exact Or.inr (Or.inl rfl) | exact Or.inr (Or.inr rfl)) (hd : (x == ("__debug__" : Str)) = false := by decide)
    (hcd : (x == ("__classdict__" : Str)) = false := by decide) : PE X (.Name x pos) (tVar i) := pe_var hN hv hd hcd
end
theorem iteF {A B : Prop} (h : B) : if false = true then A else B := by
  rw [if_neg Bool.false_ne_true]
  exact h
theorem iteT {A B : Prop} (h : A) : if true = true then A else B := by
  rw [if_pos rfl]
  exact h
theorem ite2 {c A B : Prop} [Decidable c] (h1 : c → A) (h2 : ¬ c → B) : if c then A else B := by
  by_cases h : c
  · rw [if_pos h]
    exact h1 h
  · rw [if_neg h]
    exact h2 h
noncomputable def Same (H H' : Hp) : Prop := ∀ b o, H b = some o → H' b = some o
theorem Same.refl (H : Hp) : Same H H := fun _ _ h => h
theorem Same.trans {H H1 H2 : Hp} (a : Same H H1) (b : Same H1 H2) : Same H H2 := fun c o h => b c o (a c o h)
theorem Same.free {H H' : Hp} (e : Same H H') {l : Addr} (h : H' l = Option.none) : H l = Option.none := by
  cases q : H l with
  | none => rfl
  | some o =>
    rw [e l o q] at h
    cases h
theorem Same.seq {K : PySem.W.Frag} {H H' : Hp} {a : Addr} {xs : List V} (e : Same H H') (h : SqL K H a xs) : SqL K H' a xs := by
  rcases h with (h | ⟨o, h⟩) | h
  · exact .inl (.inl (e _ _ h))
  · exact .inl (.inr ⟨o, e _ _ h⟩)
  · exact .inr h
end L2
set_option Elab.async false
set_option linter.all false
set_option maxRecDepth 100000
set_option maxHeartbeats 4000000
namespace L2
open PySem PySem.Spec PyProof.Rows
section
variable {X : Cx}
mutual
inductive DtV (K : PySem.W.Frag) (H : Hp) : V → PyData → Prop
  | non : DtV K H .non .none
  | bl (b : Bool) : DtV K H (.bl b) (.bool b)
  | int (i : Int) : DtV K H (.int i) (.int i)
  | str (x : Str) : DtV K H (.str x) (.str x)
  | lst {a : Addr} {xs : List V} {ds : List PyData} : SqL K H a xs → DtVs K H xs ds → DtV K H (.ref a) (.list ds)
  | tup {a : Addr} {xs : List V} {ds : List PyData} : SqT K H a xs → DtVs K H xs ds → DtV K H (.ref a) (.tuple ds)
inductive DtVs (K : PySem.W.Frag) (H : Hp) : List V → List PyData → Prop
  | nil : DtVs K H [] []
  | cons {x : V} {xs : List V} {d : PyData} {ds : List PyData} : DtV K H x d → DtVs K H xs ds → DtVs K H (x :: xs) (d :: ds)
end
mutual
theorem DtV.reads {pins : List (Addr × Obj)} {σ : St} {H : Hp} {s : Shared} (I : Inv X pins σ H s) : ∀ {x : V} {d : PyData} {u : Value}, DtV X.K H x d → RelV x u → ∃ as, Reads s.heap u d as
  | _, _, _, .non, r => by cases r; exact ⟨_, .none⟩
  | _, _, _, .bl b, r => by cases r; exact ⟨_, .bool b⟩
  | _, _, _, .int i, r => by obtain ⟨t, rfl⟩ := r; exact ⟨_, .int i t⟩
  | _, _, _, .str x, r => by obtain ⟨t, rfl⟩ := r; exact ⟨_, .str x t⟩
  | _, _, _, .lst hq hs, r => by
    cases r
    obtain ⟨its, rv, ⟨o, n, e, c, _, d⟩, _⟩ := I.list hq
    obtain ⟨as, ra⟩ := DtVs.reads I hs rv
    exact ⟨_, .list e c d (by simpa using ra)⟩
  | _, _, _, .tup hq hs, r => by
    cases r
    obtain ⟨its, rv, ⟨o, e, c, n, d⟩, _⟩ := I.tuple hq
    obtain ⟨as, ra⟩ := DtVs.reads I hs rv
    exact ⟨_, .tuple e c d (by simpa using ra)⟩
theorem DtVs.reads {pins : List (Addr × Obj)} {σ : St} {H : Hp} {s : Shared} (I : Inv X pins σ H s) : ∀ {xs : List V} {ds : List PyData} {us : List Value}, DtVs X.K H xs ds → Vals xs us → ∃ as, ReadsAll s.heap us ds as
  | _, _, _, .nil, .nil => ⟨_, .nil⟩
  | _, _, _, .cons h hs, .cons r rs => by
    obtain ⟨as, ra⟩ := DtV.reads I h r
    obtain ⟨bs, rb⟩ := DtVs.reads I hs rs
    exact ⟨_, .cons ra rb⟩
end
noncomputable def rEqD (X : Cx) : R2 := fun x y H Q => ∃ dx dy, DtV X.K H x dx ∧ DtV X.K H y dy ∧ dx.canLay0 = true ∧ dy.canLay0 = true ∧ min dx.depth dy.depth ≤ 100 ∧ Q (.bl (PyData.eqv dx dy)) H
noncomputable def rNeD (X : Cx) : R2 := fun x y H Q => ∃ dx dy, DtV X.K H x dx ∧ DtV X.K H y dy ∧ dx.canLay0 = true ∧ dy.canLay0 = true ∧ min dx.depth dy.depth ≤ 100 ∧ Q (.bl (!PyData.eqv dx dy)) H
theorem op_eqD (hu : X.A.units + 100 < cLine) : OpR X (compareOp .Eq) (rEqD X) := by
  intro pins s σ H x y v u Q I rx ry h
  obtain ⟨dx, dy, hx, hy, lx, ly, hd, q⟩ := h
  obtain ⟨as, ra⟩ := hx.reads I rx
  obtain ⟨bs, rb⟩ := hy.reads I ry
  exact SeqAt.compareEq_reads ra rb lx ly (by (clear ly lx; omega)) ⟨.bl _, H, I, rfl, q⟩
theorem op_neD (hu : X.A.units + 100 < cLine) : OpR X (compareOp .NotEq) (rNeD X) := by
  intro pins s σ H x y v u Q I rx ry h
  obtain ⟨dx, dy, hx, hy, lx, ly, hd, q⟩ := h
  obtain ⟨as, ra⟩ := hx.reads I rx
  obtain ⟨bs, rb⟩ := hy.reads I ry
  exact SeqAt.compareNe_reads ra rb lx ly (by (clear ly lx; omega)) ⟨.bl _, H, I, rfl, q⟩
theorem boolsAre_get : ∀ {bs : List Bool} {us : List Value}, Vals (bs.map V.bl) us → ∀ (i : Nat) (v : Value), us[i]? = some v → ∃ b, bs[i]? = some b ∧ v = .bool b
  | [], _, .nil, i, v, h => by simp at h
  | b :: bs, _, .cons r t, 0, v, h => by
    have r' : _ = Value.bool b := r
    subst r'
    simp at h
    exact ⟨b, by simp, h.symm⟩
  | b :: bs, _, .cons r t, i + 1, v, h => by
    obtain ⟨c, e1, e2⟩ := boolsAre_get t i v (by simpa using h)
    exact ⟨c, by simpa using e1, e2⟩
theorem call_all_bools (hc : X.calm = true) : CallR X (.builtin "all") (fun xs H Q => ∃ (p : Addr) (bs : List Bool), xs = [.ref p] ∧ SqL X.K H p (bs.map V.bl) ∧ Q (.bl (bs.all id)) H) := by
  intro pins s σ H xs us Q I r h
  obtain ⟨p, bs, rfl, hq, q⟩ := h
  obtain ⟨u, rfl, rx⟩ := vals1 r
  cases rx
  obtain ⟨its, rv, pl, hz⟩ := I.list hq
  have hl := pl.isList
  have hlen := rv.length
  rw [List.length_map] at hlen
  have hlt : p < s.heap.objs.size := by obtain ⟨_, e, _⟩ := hl; exact Heap.lt_size e
  refine call_all_walk (wpAny_pyIter_list hl ?_)
  refine ⟨s.heap.objs.size, [s.heap.objs.size, p], [s.heap.objs.size], its.toArray.size, _, _, fun i => (bs[i]?).getD true, rfl, Walks.list (A := X.A.in1) (I.ok.hd hc) _ p (Nat.ne_of_lt hlt) its.toArray,
    ⟨⟨_, Heap.get?_push_size _ rfl, rfl, rfl⟩, hl.push _⟩, fun i v s' Q' E' hP hQ => ?_, fun h' tk hk => ?_⟩
  · obtain ⟨b, e, rfl⟩ := boolsAre_get rv i v (by simpa using hP)
    simp only [e, Option.getD_some] at hQ
    exact wpAny_truthy_bool hQ
  · have e : ((List.range its.toArray.size).all fun i => (bs[i]?).getD true) = bs.all id := by
      rw [List.size_toArray, ← hlen]; exact LSm.range_all bs
    rw [e]
    exact ⟨.bl _, H, I.kept (LSm.kept_iter hk), rfl, q⟩
theorem call_isi : CallR X (.builtin "isinstance") (fun xs H Q => ∃ x c t b, xs = [x, c] ∧ TyOf X.K H x t ∧
    ((∃ n, c = .ty n ∧ PySem.W.kitOne X.K t (.type n) = some b) ∨ (∃ C, c = .ref C ∧ PySem.W.kitOne X.K t (.ref C) = some b)) ∧ Q (.bl b) H) := by
  intro pins s σ H xs us Q I r h
  obtain ⟨x, c, t, b, rfl, ty, hc, q⟩ := h
  obtain ⟨u, w', rfl, rx, rc⟩ := vals2 r
  rcases hc with ⟨n, rfl, e⟩ | ⟨C, rfl, e⟩
  · cases rc
    exact isinst_ok I rx ty e fun tk => ⟨.bl b, H, I.tok tk, rfl, q⟩
  · cases rc
    exact isinst_ok I rx ty e fun tk => ⟨.bl b, H, I.tok tk, rfl, q⟩
end
end L2
set_option Elab.async false
set_option linter.all false
set_option maxRecDepth 100000
set_option maxHeartbeats 4000000
namespace L2
open PySem PySem.Spec PyProof.Rows
section
variable {X : Cx} {pins : List (Addr × Obj)} {σ : St} {H H' : Hp} {s : Shared} {h' : Heap}
theorem Inv.track {a : Addr} {o : HO} (I : Inv X pins σ H s) (hs : X.s₀.heap.get? a = none ∨ a ∈ X.ex) (hn : H a = none) (hL : a ≠ X.env.locals) (hC : ∀ x c, X.env.cells.lookup x = some c → c ≠ a) (hp : ∀ p ∈ X.pn ++ pins, p.1 ≠ a)
    (new : ObjOk X.prog X.w (upd H a o) s.heap a o) : Inv X pins σ (upd H a o) s := by
  refine ⟨I.ok, I.os, I.bare, ⟨I.base.keep, I.base.slot, fun b ob e n hx => ?_, I.base.there, fun b xs e => ?_, fun b ob u e => ?_, fun b ps e => ?_⟩, I.loc, I.cell, ?_, fun x c e => ?_, fun p hp' => ?_, fun b u e => ?_, I.len⟩
  · have hb : b ≠ a := by
      rintro rfl
      rcases hs with z | z
      · rw [z] at e; cases e
      · exact hx z
    rw [upd_ne hb]
    exact I.base.free b ob e n hx
  · have q := I.base.tups b xs e
    rw [upd_ne (ne_of_none q hn)]; exact q
  · have q := I.base.frzs b ob u e
    rw [upd_ne (ne_of_none q hn)]; exact q
  · obtain ⟨m, q⟩ := I.base.tbls b ps e
    exact ⟨m, by rw [upd_ne (ne_of_none q hn)]; exact q⟩
  · rw [upd_ne (Ne.symm hL)]; exact I.free
  · rw [upd_ne (hC x c e)]; exact I.freeC x c e
  · obtain ⟨e, n, r⟩ := I.pin p hp'
    exact ⟨e, by rw [upd_ne (hp p hp')]; exact n, r⟩
  · by_cases hb : b = a
    · subst hb; rw [upd_same] at e; cases e; exact new
    · rw [upd_ne hb] at e
      exact (I.hok b u e).stay (fun c v _ q => q) (fun c q => by rw [upd_ne (ne_of_none q hn)]; exact q) fun c xs q => by rw [upd_ne (ne_of_none q hn)]; exact q
theorem Inv.turnedL {t' : Nat} {fp : List Addr} (I : Inv X pins σ H s) (k : ∀ b o, b ∉ fp → s.heap.get? b = some o → h'.get? b = some o) (hf : ∀ b ∈ fp, FpOk X pins H b) : Inv X pins σ H { s with heap := h', toks := t' } := by
  have nit : ∀ b u, H b = some u → b ∉ fp := fun b u e z => by rw [(hf b z).1] at e; cases e
  refine I.step (g' := s.gens) (d' := s.drawn) (ch := fp) (fun b hb => ?_) (fun b o _ _ hc e _ => k b o hc e) (fun b o _ _ hc e _ => ⟨o.slots, k b o hc e⟩) (fun _ _ _ _ n => n)
    (fun b o hc e => ⟨o, k b o hc e⟩) (fun _ _ e => e) (fun _ _ _ e => e) (fun b ps e => ⟨#[], by rw [e]; simp⟩) (fun m hm => ?_) (fun b u e => ?_) I.bare
  · obtain ⟨f0, f1, f2, f3, f4, f5⟩ := hf b hb
    exact ⟨f3, f1, f4, f5⟩
  · obtain ⟨o, es, ep, ho, r⟩ := hm
    exact ⟨o, es, ep, k _ o (fun z => (hf _ z).2.1 rfl) ho, r⟩
  · refine (I.hok b u e).stay (fun c v hc q => k c v ?_ q) (fun _ q => q) fun _ _ q => q
    rcases hc with z | z
    · rw [z]; exact nit b u e
    · exact nit c _ z
end
section
variable {X : Cx} {tg : Expr}
end
section
variable {X : Cx}
end
end L2
set_option Elab.async false
set_option linter.all false
set_option maxRecDepth 100000
set_option maxHeartbeats 4000000
namespace L2
open PySem
noncomputable def closL (env : Env) : List (Str × NameKind) → List (Str × Addr) → List (Str × Addr)
  | [], cs => cs
  | (n, k) :: r, cs => closL env r (if (k == NameKind.free) = true then (n, (env.cells.lookup n).getD 0) :: cs else cs)
theorem closureFor_eq {scope : Scope} {env : Env} (h : ∀ x ∈ scope.names, x.2 = .free → ∃ c, env.cells.lookup x.1 = some c) : closureFor scope env = pure (closL env scope.names []) := by
  unfold closureFor
  have go : ∀ (names : List (Str × NameKind)) (cs : List (Str × Addr)), (∀ x ∈ names, x.2 = .free → ∃ c, env.cells.lookup x.1 = some c) →
      (forIn names cs fun (x : Str × NameKind) (r : List (Str × Addr)) => (match x with
        | (name, kind) => if (kind == NameKind.free) = true then do let a ← cellOf env name; pure (ForInStep.yield ((name, a) :: r)) else pure (ForInStep.yield r) : Sem (ForInStep (List (Str × Addr))))) = pure (closL env names cs) := by
    intro names
    induction names with
    | nil => intro cs _; rfl
    | cons x r ih =>
      intro cs h
      obtain ⟨n, k⟩ := x
      rw [List.forIn_cons]
      have hr := fun y hy => h y (List.mem_cons_of_mem _ hy)
      cases hk : (k == NameKind.free) with
      | false =>
        simp only [hk, Bool.false_eq_true, if_false]
        show (pure (ForInStep.yield cs) >>= _ : Sem _) = _
        simp only [pure_bind]
        rw [ih cs hr]
        simp only [closL, hk, Bool.false_eq_true, if_false]
      | true =>
        obtain ⟨c, hc⟩ := h (n, k) List.mem_cons_self (by simpa using hk)
        have e : cellOf env n = pure c := by unfold cellOf; rw [show env.cells.lookup n = some c from hc]
        simp only [hk, if_true, e, pure_bind]
        rw [ih _ hr]
        simp only [closL, hk, if_true]
        rw [show env.cells.lookup n = some c from hc]
        rfl
  exact congrArg (fun m : Sem (List (Str × Addr)) => m >>= fun r => pure r) (go scope.names [] h)
theorem closL_some {env : Env} {x : Str} {c : Addr} : ∀ {names : List (Str × NameKind)} {cs : List (Str × Addr)}, (closL env names cs).lookup x = some c → cs.lookup x = some c ∨ ((x, NameKind.free) ∈ names ∧ c = (env.cells.lookup x).getD 0)
  | [], _, h => .inl h
  | (n, k) :: r, cs, h => by
    rcases closL_some (names := r) h with q | ⟨q, e⟩
    · cases hk : (k == NameKind.free) with
      | false => rw [hk] at q; exact .inl q
      | true =>
        rw [hk, if_pos rfl] at q
        have hk' : k = NameKind.free := by simpa using hk
        subst hk'
        cases hx : x == n with
        | true =>
          rw [List.lookup_cons, hx] at q
          have e : x = n := by simpa using hx
          subst e
          exact .inr ⟨List.mem_cons_self, (Option.some.inj q).symm⟩
        | false =>
          rw [List.lookup_cons, hx] at q
          exact .inl q
    · exact .inr ⟨List.mem_cons_of_mem _ q, e⟩
theorem closL_has {env : Env} {x : Str} : ∀ {names : List (Str × NameKind)} {cs : List (Str × Addr)}, (x, NameKind.free) ∈ names ∨ (∃ c, cs.lookup x = some c) → ∃ c, (closL env names cs).lookup x = some c
  | [], _, h => by
    rcases h with h | h
    · cases h
    · exact h
  | (n, k) :: r, cs, h => by
    refine closL_has (names := r) ?_
    rcases h with h | ⟨c, h⟩
    · rcases List.mem_cons.mp h with e | e
      · cases e
        refine .inr ⟨(env.cells.lookup x).getD 0, ?_⟩
        rw [if_pos (by rfl), List.lookup_cons]
        simp
      · exact .inl e
    · refine .inr ?_
      cases hk : (k == NameKind.free) with
      | false => exact ⟨c, h⟩
      | true =>
        rw [if_pos rfl, List.lookup_cons]
        cases hx : x == n with
        | true => exact ⟨_, rfl⟩
        | false => exact ⟨c, h⟩
theorem relabel_free {env : Env} (hf : env.scope.kind = .function) : ∀ {names : List (Str × NameKind)} {x : Str}, names.lookup x = some .free → env.kindOf x = some .cell →
    (names.map fun (n, k) => if (k == NameKind.free && env.scope.kind == .function && env.kindOf n == some .cell) then (n, NameKind.cell) else (n, k)).lookup x = some .cell
  | [], _, h, _ => by simp at h
  | (n, k) :: r, x, h, hc => by
    have ih := @relabel_free env hf r x
    show List.lookup x ((if (k == NameKind.free && env.scope.kind == .function && env.kindOf n == some .cell) = true then (n, NameKind.cell) else (n, k)) :: _) = _
    cases hx : x == n with
    | true =>
      have e : x = n := by simpa using hx
      subst e
      simp only [List.lookup_cons, hx] at h
      cases h
      rw [if_pos (by rw [hf, hc]; rfl)]
      simp [List.lookup_cons]
    | false =>
      simp only [List.lookup_cons, hx] at h
      by_cases hc' : (k == NameKind.free && env.scope.kind == .function && env.kindOf n == some .cell) = true
      · rw [if_pos hc']; simp only [List.lookup_cons, hx]; exact ih h hc
      · rw [if_neg hc']; simp only [List.lookup_cons, hx]; exact ih h hc
theorem relabel_back {env : Env} : ∀ {names : List (Str × NameKind)} {x : Str} {k' : NameKind}, (∀ y ∈ names, y.2 ≠ .cell) → (k' = .cell ∨ k' = .free) →
    (names.map fun (n, k) => if (k == NameKind.free && env.scope.kind == .function && env.kindOf n == some .cell) then (n, NameKind.cell) else (n, k)).lookup x = some k' → (x, NameKind.free) ∈ names
  | [], _, _, _, _, h => by simp at h
  | (n, k) :: r, x, k', hn, hk, h => by
    have ih := @relabel_back env r x k' (fun y hy => hn y (List.mem_cons_of_mem _ hy)) hk
    have h' : List.lookup x ((if (k == NameKind.free && env.scope.kind == .function && env.kindOf n == some .cell) = true then (n, NameKind.cell) else (n, k)) :: r.map fun (n, k) => if (k == NameKind.free && env.scope.kind == .function && env.kindOf n == some .cell) then (n, NameKind.cell) else (n, k)) = some k' := h
    have hn0 : k ≠ .cell := hn (n, k) List.mem_cons_self
    by_cases hc' : (k == NameKind.free && env.scope.kind == .function && env.kindOf n == some .cell) = true
    · rw [if_pos hc', List.lookup_cons] at h'
      have hkf : k = .free := by
        rw [Bool.and_eq_true, Bool.and_eq_true] at hc'
        simpa using hc'.1.1
      cases hx : x == n with
      | true =>
        have e : x = n := by simpa using hx
        subst e
        rw [hkf]
        exact List.mem_cons_self
      | false => rw [hx] at h'; exact List.mem_cons_of_mem _ (ih h')
    · rw [if_neg hc', List.lookup_cons] at h'
      cases hx : x == n with
      | true =>
        rw [hx] at h'
        have e : x = n := by simpa using hx
        subst e
        have e2 : k = k' := Option.some.inj h'
        subst e2
        rcases hk with z | z
        · exact absurd z hn0
        · rw [z]; exact List.mem_cons_self
      | false => rw [hx] at h'; exact List.mem_cons_of_mem _ (ih h')
section
variable {prog : Program} {w : World} {A : Around} {R : Result → Shared → Prop} {s : Shared}
theorem compLoop_any {elt target iter : Expr} {ifs : List Expr} {scope : Scope} {pos : Pos} {it acc : Value} {env : Env} (I : Nat → Shared → Prop)
    (turn : ∀ n s, I n s → wpAny (model prog w) A (pyNext it) (fun r s₁ => match r with
      | none => R (.ok .next) s₁
      | some v => wpAny (model prog w) A (letOwnedTupleGo target it v) (fun _ s₀ => wpAny (model prog w) A (assign target env v) (fun _ s₂ =>
          wpAny (model prog w) A (forIn ifs true fun c r => if r = true then do let ok ← isTrue c env (eval c env); pure (ForInStep.yield ok) else pure (ForInStep.yield r)) (fun ok s₃ =>
            if ok = true then wpAny (model prog w) A (eval elt env) (fun x s₄ =>
              wpAny (model prog w) A (call (.builtin "list.append") [acc, x]) (fun _ s₅ => ∃ m, m < n ∧ I m s₅) (fun _ _ => False) s₄) (fun _ _ => False) s₃
            else ∃ m, m < n ∧ I m s₃) (fun _ _ => False) s₂) (fun _ _ => False) s₀) (fun _ _ => False) s₁) (fun _ _ => False) s)
    (n : Nat) (h : I n s) :
    codeAny (model prog w) A (.compLoop (.ListComp elt [⟨target, iter, ifs, 0⟩] scope pos) 0 it acc env) R s := by
  refine codeAny_loop rfl I (fun n s hI => ?_) n h
  show wpAny _ A ((compTurn (.ListComp elt [⟨target, iter, ifs, 0⟩] scope pos) 0 it acc env).onRaise (fun x => do noteFrame x env; theTreesLotGoes x)) _ _ s
  refine wpAny_noted ?_
  rw [compTurn_list]
  refine wpAny_bind (wpAny_standAt (wpAny_bind (wpAny_mono (turn n s hI) (fun r s₁ h₁ => ?_) fun _ _ h' => h'.elim)))
  cases r with
  | none => exact wpAny_pure h₁
  | some v =>
    refine wpAny_bind (wpAny_mono h₁ (fun _ s₀ h₀ => ?_) fun _ _ h' => h'.elim)
    refine wpAny_bind (wpAny_mono h₀ (fun _ s₂ h₂ => wpAny_bind (wpAny_mono h₂ (fun ok s₃ h₃ => ?_) fun _ _ h' => h'.elim)) fun _ _ h' => h'.elim)
    cases ok with
    | false => exact wpAny_pure ⟨rfl, h₃⟩
    | true =>
      exact wpAny_bind (wpAny_bind (wpAny_mono h₃ (fun x s₄ h₄ => wpAny_bind (wpAny_mono h₄ (fun _ s₅ h₅ => wpAny_pure (wpAny_pure ⟨rfl, h₅⟩)) fun _ _ h' => h'.elim)) fun _ _ h' => h'.elim))
end
end L2
namespace L2
open PySem PySem.Spec PyProof.Rows
noncomputable def cxB (X : Cx) (scope : Scope) (N : List Str) (s₀ : Shared) (H₀ : Hp) (ex : List Addr) : Cx :=
  { X with N := N, s₀ := s₀, H₀ := H₀, env := compEnvC scope (closL X.env scope.names []) s₀.heap.objs.size X.env, outer := X.stack, ex := ex, fn := fun _ => false, pn := [], xe := fun _ _ => False }
section
variable {X : Cx} {c : Expr} {t : TT}
noncomputable def PIfs (X : Cx) (ifs : List Expr) (t : TT) : Prop := ∀ (pins : List (Addr × Obj)) (s : Shared) (σ : St) (H : Hp) (Q : Bool → Hp → Prop), Inv X pins σ H s → t σ H Q →
  wpAny (model X.prog X.w) X.A (forIn ifs true fun c r => if r = true then do let ok ← isTrue c X.env (eval c X.env); pure (ForInStep.yield ok) else pure (ForInStep.yield r)) (TP X pins σ Q) X.xe s
noncomputable def tNoIf : TT := fun _ H Q => Q true H
theorem pf_none : PIfs X [] tNoIf := fun _ _ _ H _ I h => wpAny_tests_nil ⟨H, I, h⟩
end
noncomputable def GKeep (own : Nat) (g : TG) : Prop := ∀ x σ H Q Q', g x σ H Q → (∀ σ' H', Q σ' H' → σ'.length = σ.length → (∀ j v, own ≤ j → σ[j]? = some (some v) → σ'[j]? = some (some v)) → Q' σ' H') → g x σ H Q'
noncomputable def GKeeps (own : Nat) (g : TGs) : Prop := ∀ xs σ H Q Q', g xs σ H Q → (∀ σ' H', Q σ' H' → σ'.length = σ.length → (∀ j v, own ≤ j → σ[j]? = some (some v) → σ'[j]? = some (some v)) → Q' σ' H') → g xs σ H Q'
theorem gk_name {own i : Nat} (hi : i < own) : GKeep own (gName i) := fun x σ H Q Q' h k => k _ H h (by simp) fun j v hj e => by rw [List.getElem?_set_ne (by (clear e; omega))]; exact e
theorem gks_nil {own : Nat} : GKeeps own gNil := fun xs σ H Q Q' ⟨e, h⟩ k => ⟨e, k σ H h rfl fun _ _ _ e => e⟩
theorem gks_cons {own : Nat} {t : TG} {u : TGs} (h1 : GKeep own t) (h2 : GKeeps own u) : GKeeps own (gCons t u) := fun xs σ H Q Q' ⟨v, r, e, h⟩ k =>
  ⟨v, r, e, h1 v σ H _ _ h fun σ' H' q l1 k1 => h2 r σ' H' _ _ q fun σ'' H'' q2 l2 k2 => k σ'' H'' q2 (l2.trans l1) fun j w hj e => k2 j w hj (k1 j w hj e)⟩
theorem gk_tup {own n : Nat} {K : PySem.W.Frag} {t : TGs} (h : GKeeps own t) : GKeep own (gTup K n t) := fun x σ H Q Q' ⟨a, xs, e, hq, hl, q⟩ k => ⟨a, xs, e, hq, hl, h xs σ H Q Q' q k⟩
noncomputable def st0 (own : Nat) (caps : List Nat) (σ : St) : St := List.replicate own none ++ caps.map fun j => (σ[j]?).join
noncomputable def CompR (J : It) (g : TG) (tc : TT) (te : TE) (σ0 : St) (Q : VK) (H : Hp) : Prop :=
    ∃ W : Nat → Nat → List V → Hp → Prop, (∃ m, W 0 m [] H) ∧ ∀ i m ys H, W i m ys H →
      (J.stop i H ∧ ys.length ≤ sizeLine ∧ ∀ p, H p = none → Q (.ref p) (upd H p (.lst ys))) ∨
      (J.go i H ∧ ys.length < sizeLine ∧ ∀ x H', J.yld i H x H' → g x σ0 H' fun σ2 H2 => tc σ2 H2 fun b H3 =>
        if b = true then te σ2 H3 fun y H4 => ∃ m', m' < m ∧ W (i + 1) m' (ys ++ [y]) H4 else ∃ m', m' < m ∧ W (i + 1) m' ys H3)
noncomputable def tComp (own : Nat) (caps : List Nat) (wi : TI) (g : TG) (tc : TT) (te : TE) : TE := fun σ H Q => wi σ H fun J H1 => CompR J g tc te (st0 own caps σ) Q H1
theorem mem1 {a : Addr} {o : Obj} : ∀ p ∈ [(a, o)], p.1 = a := fun p hp => by rw [List.mem_singleton.mp hp]
section
variable {X : Cx}
theorem comp_end {scope : Scope} {N : List Str} {pins : List (Addr × Obj)} {σ σ' : St} {H2 He : Hp} {s2 s1 : Shared} {hp h' : Heap} {fp : List Addr} {ys : List V} {its : List Value} {na : Nat} {lo : Obj}
    (I2 : Inv X pins σ H2 s2) (f2 : ∀ b ∈ fp, FpOk X pins H2 b) (ehp : hp = s2.heap.push lo)
    (J : Inv (cxB X scope N { s2 with heap := hp } H2 (s2.heap.objs.size :: fp)) [(s2.heap.objs.size, { cls := .type "list", data := .seq its.toArray na })] σ' He s1)
    (hsb : Heap.SameBut hp.objs.size s1.heap h') (hv : Vals ys its) (hz : ys.length ≤ sizeLine) :
    Inv X pins σ (upd He s2.heap.objs.size (.lst ys)) { s1 with heap := h' } := by
  have hC : hp.objs.size = s2.heap.objs.size + 1 := by rw [ehp, Heap.size_push]
  have below : ∀ {b : Addr} {o : Obj}, s2.heap.get? b = some o → b ≠ hp.objs.size ∧ b ≠ s2.heap.objs.size := fun {b o} e => by
    have q := Heap.lt_size e
    exact ⟨by rw [hC]; exact Nat.ne_of_lt (Nat.lt_succ_of_lt q), Nat.ne_of_lt q⟩
  have up : ∀ {b : Addr} {o : Obj}, s2.heap.get? b = some o → hp.get? b = some o := fun e => by rw [ehp]; exact Heap.get?_push_of_some _ e
  have un : Un (frs X.stack) (s2.heap.objs.size :: fp) H2 He hp s1.heap := J.base
  have nD : ∀ {b : Addr} {o : Obj}, s2.heap.get? b = some o → b ∉ fp → b ∉ s2.heap.objs.size :: fp := fun e hx z => (List.mem_cons.mp z).elim (below e).2 hx
  have hfree : He hp.objs.size = none := J.free
  have u2 : Un (frs X.stack) fp H2 He s2.heap h' := by
    refine ⟨fun b o e n hb hx => ?_, fun b o e n hb hx => ?_, fun b o e n hx => ?_, fun b o e hx => ?_, un.tups, un.frzs, un.tbls⟩
    · exact (hsb.2 b (below e).1).trans (un.keep b o (up e) n hb (nD e hx))
    · obtain ⟨sl, q⟩ := un.slot b o (up e) n hb (nD e hx)
      exact ⟨sl, (hsb.2 b (below e).1).trans q⟩
    · exact un.free b o (up e) n (nD e hx)
    · obtain ⟨o', q⟩ := un.there b o (up e) (nD e hx)
      exact ⟨o', (hsb.2 b (below e).1).trans q⟩
  have hok : HOk X.prog X.w He h' := fun b u e => by
    refine (J.hok b u e).stay (fun c v hc q => (hsb.2 c ?_).trans q) (fun _ q => q) fun _ _ q => q
    rintro rfl
    rcases hc with z | z
    · rw [← z, hfree] at e; cases e
    · rw [hfree] at z; cases z
  have I3 : Inv X pins σ He { s1 with heap := h' } := I2.call' (s' := { s1 with heap := h' }) (ch := fp) J.os u2 hok J.bare fun b hb => by
    obtain ⟨f0, f1, f3, f4, f5, f6⟩ := f2 b hb
    exact ⟨f4, f1, f5, f6⟩
  obtain ⟨pe, pn, _⟩ := J.pin _ (List.mem_append_right _ List.mem_cons_self)
  refine I3.track (.inl (Heap.get?_none_of_le I2.sz)) pn (Nat.ne_of_gt I2.lt) (fun y c' q z => ?_) (fun p hp' z => ?_) ?_
  · obtain ⟨v, q'⟩ := I2.cell y c' q
    exact absurd q'.lt (by rw [z]; exact Nat.lt_irrefl _)
  · exact absurd (Heap.lt_size (I2.pin p hp').1) (by rw [z]; exact Nat.lt_irrefl _)
  · exact ⟨hz, its, na, hv, (hsb.2 _ (by rw [hC]; exact Nat.ne_of_lt (Nat.lt_succ_self _))).trans pe⟩
theorem comp_core {elt target iter : Expr} {ifs : List Expr} {scope sc0 : Scope} {pos : Pos} {N N0 : List Str} {own : Nat} {caps : List Nat} {wi : TI} {g : TG} {tc : TT} {te : TE}
    (hcalm : X.calm = true) (hi : PI X target iter wi)
    (hg : ∀ s₀ H₀ ex, PG (cxB X scope N s₀ H₀ ex) target g) (hc : ∀ s₀ H₀ ex, PIfs (cxB X scope N s₀ H₀ ex) ifs tc) (he : ∀ s₀ H₀ ex, PE (cxB X scope N s₀ H₀ ex) elt te) (hk : GKeep own g)
    (hX : X.N = N0) (hsc : X.env.scope = sc0)
    (hcell : ∀ y ∈ scope.names, y.2 ≠ .cell) (hkind : scope.kind = .function) (hnames : ∀ y ∈ scope.names, y.2 = .local → scope.names.lookup y.1 = some .local)
    (hfree : ∀ y ∈ scope.names, y.2 = .free → sc0.names.lookup y.1 = some .cell) (hN : N.length = own + caps.length)
    (hcap : ∀ p ∈ caps.zip (N.drop own), N0[p.1]? = some p.2 ∧ scope.names.lookup p.2 = some .free)
    (hs : ∀ x, foldedSetIterable iter X.env x = pure x)
    {use : Option (Value → Sem Unit)} {Qf : Value → Shared → Prop} {pins : List (Addr × Obj)} {s : Shared} {σ : St} {H : Hp} {Q : VK} {cpos : Pos} (I : Inv X pins σ H s) (h : tComp own caps wi g tc te σ H Q)
    (hR : ∀ (D C : Addr) (s' : Shared) (He : Hp) (ys : List V) (m : Str → Option Value) (f : Flow), s'.heap.Ns C m → (∀ h', Heap.SameBut C s'.heap h' → Inv X pins σ (upd He D (.lst ys)) { s' with heap := h' }) →
      FpOk X pins (upd He D (.lst ys)) C → Q (.ref D) (upd He D (.lst ys)) → compPost (model X.prog X.w) X.A X.xe use Qf (.ref D) C (.ok f) s') :
    wpAny (model X.prog X.w) X.A (comprehension (.ListComp elt [⟨target, iter, ifs, 0⟩] scope pos) scope X.env cpos (newList []) false (eval iter X.env) use) Qf X.xe s := by
  have hcellOf : ∀ y ∈ scope.names, y.2 = .free → X.env.kindOf y.1 = some .cell := fun y hy e => by
    show X.env.scope.names.lookup y.1 = some .cell
    rw [hsc]; exact hfree y hy e
  refine wpAny_comprehension_free (use := use) rfl hs (closureFor_eq fun y hy e => I.ok.has y.1 (.inl (hcellOf y hy e))) hkind hnames ?_
  refine thn (hi pins s σ H _ I h) fun v s1 h1 => thn h1 fun itv s2 h2 => ?_
  obtain ⟨it, fp, tn, J, H2, e, I2, T, st2, f2, W, ⟨m0, w0⟩, turn⟩ := h2
  subst e
  refine wpAny_newObj_type (wpAny_newFunctionEnv hcell (by intro y hy; simp at hy) (fun h₁ hns₁ hsb₁ => ?_) hkind)
  dsimp only at hns₁ hsb₁ ⊢
  generalize ehp : s2.heap.push { cls := .type "list", dict := none, data := .seq ([] : List Value).toArray } = hp at hns₁ hsb₁ ⊢
  have hC : hp.objs.size = s2.heap.objs.size + 1 := by rw [← ehp, Heap.size_push]
  have hDC : s2.heap.objs.size ≠ hp.objs.size := by rw [hC]; exact Nat.ne_of_lt (Nat.lt_succ_self _)
  have hD0 : hp.get? s2.heap.objs.size = some { cls := .type "list", data := .seq ([] : List Value).toArray } := by rw [← ehp]; exact Heap.get?_push_size _ rfl
  have up : ∀ {b : Addr} {o : Obj}, s2.heap.get? b = some o → hp.get? b = some o := fun e => by rw [← ehp]; exact Heap.get?_push_of_some _ e
  have up1 : ∀ {b : Addr} {o : Obj}, hp.get? b = some o → h₁.get? b = some o := fun {b o} e => hsb₁.extBut b o (Nat.ne_of_lt (Heap.lt_size e)) (Heap.get?_push_of_some _ e)
  have hlt2 : ∀ {b : Addr} {o : Obj}, s2.heap.get? b = some o → b < s2.heap.objs.size := fun e => Heap.lt_size e
  have fpo : ∀ b ∈ fp, ∃ o, s2.heap.get? b = some o := fun b hb => by obtain ⟨o, e, _⟩ := T.obj 0 _ st2 b hb; exact ⟨o, e⟩
  have fpC : ∀ b ∈ fp, b ≠ hp.objs.size ∧ b ≠ s2.heap.objs.size := fun b hb => by
    obtain ⟨o, e⟩ := fpo b hb
    have q := hlt2 e
    exact ⟨by rw [hC]; exact Nat.ne_of_lt (Nat.lt_succ_of_lt q), Nat.ne_of_lt q⟩
  have clos : ∀ {x : Str} {c : Addr}, (closL X.env scope.names []).lookup x = some c → X.env.cells.lookup x = some c ∧ X.env.kindOf x = some .cell := fun {x c} q => by
    rcases closL_some q with z | ⟨z, e⟩
    · cases z
    · have k := hcellOf _ z rfl
      obtain ⟨c', hc'⟩ := I2.ok.has x (.inl k)
      rw [hc'] at e
      have e' : c = c' := e
      subst e'
      exact ⟨hc', k⟩
  have cellLt : ∀ {x : Str} {c : Addr}, (closL X.env scope.names []).lookup x = some c → c < s2.heap.objs.size := fun q => by
    obtain ⟨v, z⟩ := I2.cell _ _ (clos q).1
    exact z.lt
  have stkLt : ∀ b ∈ frs X.stack, b < s2.heap.objs.size := fun b hb => by
    obtain ⟨_, o, ho, _⟩ := I2.stack.mem hb
    exact Heap.lt_size ho
  have ok' : (cxB X scope N { s2 with heap := hp } H2 (s2.heap.objs.size :: fp)).Ok := by
    refine ⟨I2.ok.mod, hkind, I2.ok.glob, I2.ok.blt, Nat.le_refl _, fun x y c q1 q2 => I2.ok.inj x y c (clos q1).1 (clos q2).1, fun x hx => ?_, (fun x c z => by cases z), I2.ok.hd, I2.ok.frames, .inl rfl, fun b hb => ?_, fun b o q => ⟨up (I2.bs b o q).1, (I2.bs b o q).2⟩, ?_, fun b o q hb => ?_, fun b hb => ?_, ?_, fun b hb => I2.stkFree b hb⟩
    · rcases hx with hx | hx
      · exact closL_has (.inl (relabel_back (env := X.env) hcell (.inl rfl) hx))
      · exact closL_has (.inl (relabel_back (env := X.env) hcell (.inr rfl) hx))
    · rcases List.mem_cons.mp hb with rfl | hb
      · exact ⟨by show s2.heap.objs.size ≠ hp.objs.size; exact hDC, fun x c q => Nat.ne_of_lt (cellLt q)⟩
      · exact ⟨(fpC b hb).1, fun x c q => (f2 b hb).2.2.2.2.1 x c (clos q).1⟩
    · show X.base.objs.size ≤ hp.objs.size
      rw [hC]
      exact Nat.le_succ_of_le (Nat.le_trans I2.ok.bsz I2.sz)
    · rcases List.mem_cons.mp hb with rfl | hb
      · exact Nat.lt_irrefl _ (hlt2 (I2.bs _ o q).1)
      · rcases (f2 b hb).2.2.2.1 with z | z
        · exact I2.ok.noex b o q z
        · exact Nat.lt_irrefl _ (Nat.lt_of_lt_of_le (Heap.lt_size (I2.ok.bs b o q).1) z)
    · intro z
      rcases List.mem_cons.mp hb with rfl | hb
      · exact Nat.lt_irrefl _ (stkLt _ z)
      · rcases List.mem_cons.mp (I2.stkSub b z) with q | q
        · exact (f2 b hb).2.1 q
        · exact (f2 b hb).2.2.1 q
    · show hp.FunFrames X.base X.stack
      exact I2.stack.of_keeps fun b o q _ => ⟨o, up q, rfl⟩
  have len0 : (st0 own caps σ).length = N.length := by unfold st0; rw [List.length_append, List.length_replicate, List.length_map, hN]
  have I0 : Inv (cxB X scope N { s2 with heap := hp } H2 (s2.heap.objs.size :: fp)) [] (st0 own caps σ) H2 { s2 with heap := h₁, toks := s2.toks + ([] : List (Str × Value)).length } := by
    refine ⟨ok', rfl, I2.bare, Un.kept fun b o q => up1 q, ⟨_, hns₁, fun i x v e1 e2 e3 => ?_⟩, fun x c q => ?_, I2.hok.fresh (by show s2.heap.objs.size ≤ hp.objs.size; rw [hC]; exact Nat.le_succ _), fun x c q => I2.freeC x c (clos q).1, fun p hp' => absurd (show p ∈ ([] : List (Addr × Obj)) from hp') (by simp), I2.hok.kept fun b o q => up1 (up q), len0⟩
    ·
      unfold st0 at e2
      by_cases hi' : i < own
      · rw [List.getElem?_append_left (by simpa using hi'), List.getElem?_replicate] at e2
        split at e2 <;> cases e2
      · rw [List.getElem?_append_right (by simpa using hi'), List.length_replicate, List.getElem?_map] at e2
        cases ec : caps[i - own]? with
        | none => rw [ec] at e2; cases e2
        | some j =>
          rw [ec] at e2
          have e2' : (σ[j]?).join = some v := Option.some.inj e2
          have hσ : σ[j]? = some (some v) := by
            cases q : σ[j]? with
            | none => rw [q] at e2'; cases e2'
            | some z => rw [q] at e2'; exact congrArg some e2'
          have hx : (N.drop own)[i - own]? = some x := by
            rw [List.getElem?_drop]
            have : own + (i - own) = i := by (clear hσ e2' ec e2 e1 len0 hD0 hDC hC ehp hN hkind hsc hX hcalm; omega)
            rw [this]; exact e1
          have hz : (caps.zip (N.drop own))[i - own]? = some (j, x) := by
            rw [List.getElem?_zip_eq_some]; exact ⟨ec, hx⟩
          obtain ⟨hj, hf⟩ := hcap _ (List.mem_of_getElem? hz)
          rw [← hX] at hj
          have hfm : (x, NameKind.free) ∈ scope.names := PySem.mem_of_lookup hf
          have hk1 := hcellOf _ hfm rfl
          obtain ⟨m, hn, hl⟩ := I2.loc
          obtain ⟨u, ru, lk⟩ := hl j x v hj hσ (.inr (.inl hk1))
          refine ⟨u, ru, .inr ⟨.inl (relabel_free I2.ok.kind hf hk1), ?_⟩⟩
          obtain ⟨c, hc'⟩ := closL_has (env := X.env) (cs := []) (.inl hfm)
          have hc2 := (clos hc').1
          rcases lk with ⟨z, _⟩ | ⟨_, c2, hc3, hcell'⟩
          · rw [hk1] at z; cases z
          · rw [hc2] at hc3
            cases hc3
            obtain ⟨oc, hoc, hod⟩ := hcell'
            exact ⟨c, hc', oc, up1 (up hoc), hod⟩
    · obtain ⟨v, oc, hoc, hod⟩ := I2.cell x c (clos q).1
      exact ⟨v, oc, up1 (up hoc), hod⟩
  have pinD : ∀ {σ' : St} {H' : Hp} {s' : Shared} {its : List Value} {na : Nat}, Inv (cxB X scope N { s2 with heap := hp } H2 (s2.heap.objs.size :: fp)) [] σ' H' s' → H' s2.heap.objs.size = none →
      s'.heap.get? s2.heap.objs.size = some { cls := .type "list", data := .seq its.toArray na } →
      Inv (cxB X scope N { s2 with heap := hp } H2 (s2.heap.objs.size :: fp)) [(s2.heap.objs.size, { cls := .type "list", data := .seq its.toArray na })] σ' H' s' := fun {σ' H' s' its na} I' hn hd => I'.pins_of fun p hp' => by
    have e : p = (s2.heap.objs.size, { cls := .type "list", data := .seq its.toArray na }) := by simpa using hp'
    subst e
    exact ⟨hd, hn, hDC, fun z => Nat.lt_irrefl _ (stkLt _ z), fun v z => nomatch z⟩
  have fpD : ∀ {H' : Hp} {pl : List (Addr × Obj)}, (∀ b ∈ fp, H' b = none) → (∀ p ∈ pl, p.1 = s2.heap.objs.size) → ∀ b ∈ fp, FpOk (cxB X scope N { s2 with heap := hp } H2 (s2.heap.objs.size :: fp)) pl H' b := fun hn hpl b hb => by
    refine ⟨hn b hb, (fpC b hb).1, fun z => ?_, .inl (List.mem_cons_of_mem _ hb), fun x c q => (f2 b hb).2.2.2.2.1 x c (clos q).1, fun p hp' z => ?_⟩
    · rcases List.mem_cons.mp (I2.stkSub b z) with q | q
      · exact (f2 b hb).2.1 q
      · exact (f2 b hb).2.2.1 q
    · exact (fpC b hb).2 (z.symm.trans (hpl p hp'))
  have loop : ∀ s₃ : Shared, s₃ = { s2 with heap := h₁, toks := s2.toks + ([] : List (Str × Value)).length } →
      codeAny (model X.prog X.w) X.A (.compLoop (.ListComp elt [⟨target, iter, ifs, 0⟩] scope pos) 0 (.ref it) (.ref s2.heap.objs.size) (compEnvC scope (closL X.env scope.names []) hp.objs.size X.env))
        (compPost (model X.prog X.w) X.A X.xe use Qf (.ref s2.heap.objs.size) hp.objs.size) s₃ := by
    rintro s₃ rfl
    refine compLoop_any (fun n s' => ∃ i ys its na H', Inv (cxB X scope N { s2 with heap := hp } H2 (s2.heap.objs.size :: fp)) [] (st0 own caps σ) H' s' ∧ tn i s'.heap ∧ (∀ b ∈ fp, H' b = none) ∧ H' s2.heap.objs.size = none ∧
      Vals ys its ∧ s'.heap.get? s2.heap.objs.size = some { cls := .type "list", data := .seq its.toArray na } ∧ W i n ys H') ?_ m0
      ⟨0, [], [], 0, H2, I0, T.keep _ _ _ st2 fun b _ o q => up1 (up q), fun b hb => (f2 b hb).1, I2.hok.fresh (Nat.le_refl _), .nil, up1 hD0, w0⟩
    rintro n s3 ⟨i, ys, its, na, H3, I3, st3, fr3, nD3, rv3, hd3, w3⟩
    have Ip := pinD I3 nD3 hd3
    have f3 := fpD (H' := H3) (pl := [(s2.heap.objs.size, { cls := .type "list", data := .seq its.toArray na })]) fr3 mem1
    rcases turn i n ys H3 w3 with ⟨stop, hz, fin⟩ | ⟨go, hz, step⟩
    · refine thn (T.done (cxB X scope N { s2 with heap := hp } H2 (s2.heap.objs.size :: fp)) rfl rfl rfl hcalm i _ s3 _ H3 _ Ip f3 st3 stop) fun r s4 ⟨hr, I4⟩ => ?_
      subst hr
      obtain ⟨m, hn, _⟩ := I4.loc
      exact hR _ _ _ _ ys m _ hn (fun h' hsb => comp_end I2 f2 ehp.symm I4 hsb rv3 hz) (I2.fpOk (by rw [hC]; exact Nat.le_succ _) (by rw [upd_ne (Ne.symm hDC)]; exact I4.free)) (fin _ (I4.pin _ (List.mem_append_right _ List.mem_cons_self)).2.1)
    · refine thn (T.item (cxB X scope N { s2 with heap := hp } H2 (s2.heap.objs.size :: fp)) rfl rfl rfl hcalm i _ s3 _ H3 _ Ip f3 st3 go) fun r s4 ⟨u, hr, h4⟩ => ?_
      subst hr
      refine thn h4 fun _ s5 ⟨x, H5, I5, r5, y5, st5, fr5⟩ => ?_
      have I5' := I5.pinned (fpD (H' := H5) (pl := [(s2.heap.objs.size, { cls := .type "list", data := .seq its.toArray na })]) fr5 mem1) (T.obj _ _ st5)
      refine thn (hg _ _ _ _ s5 _ H5 x u _ I5' r5 (hk x _ H5 _ _ (step x H5 y5) fun σ' H' q l k => (⟨q, l, k⟩ : _ ∧ _ ∧ _))) fun _ s6 ⟨σ6, H6, I6, q6, l6, k6⟩ => ?_
      refine thn (hc _ _ _ _ s6 σ6 H6 _ I6 q6) fun ok s7 ⟨H7, I7, q7⟩ => ?_
      have weak : ∀ {H' : Hp} {s' : Shared} {pl : List (Addr × Obj)}, Inv (cxB X scope N { s2 with heap := hp } H2 (s2.heap.objs.size :: fp)) pl σ6 H' s' → Inv (cxB X scope N { s2 with heap := hp } H2 (s2.heap.objs.size :: fp)) pl (st0 own caps σ) H' s' := fun I' =>
        I'.weak l6.symm fun j v e => k6 j v (by
          by_cases hj : j < own
          · unfold st0 at e
            rw [List.getElem?_append_left (by simpa using hj), List.getElem?_replicate] at e
            split at e <;> cases e
          · (clear e l6 hz hd3 nD3 len0 hD0 hDC hC ehp hN hkind hsc hX hcalm; omega)) e
      have after : ∀ {H' : Hp} {s' : Shared}, Inv (cxB X scope N { s2 with heap := hp } H2 (s2.heap.objs.size :: fp)) ([(s2.heap.objs.size, { cls := .type "list", data := .seq its.toArray na })] ++ pinsAt fp s5.heap) σ6 H' s' →
          tn (i + 1) s'.heap ∧ (∀ b ∈ fp, H' b = none) ∧ H' s2.heap.objs.size = none ∧ s'.heap.get? s2.heap.objs.size = some { cls := .type "list", data := .seq its.toArray na } := fun I' => by
        refine ⟨T.keep _ _ _ st5 fun b hb o e => (I'.pin (b, o) (List.mem_append_right _ (List.mem_append_right _ (mem_pinsAt hb e)))).1, fun b hb => ?_, ?_, ?_⟩
        · obtain ⟨o, e, d⟩ := T.obj _ _ st5 b hb
          exact (I'.pin (b, o) (List.mem_append_right _ (List.mem_append_right _ (mem_pinsAt hb e)))).2.1
        · exact (I'.pin _ (List.mem_append_right _ (List.mem_append_left _ List.mem_cons_self))).2.1
        · exact (I'.pin _ (List.mem_append_right _ (List.mem_append_left _ List.mem_cons_self))).1
      cases ok with
      | false =>
        rw [if_neg Bool.false_ne_true]
        obtain ⟨m', hm, w7⟩ := (show ∃ m', m' < n ∧ W (i + 1) m' ys H7 by rw [if_neg Bool.false_ne_true] at q7; exact q7)
        obtain ⟨a1, a2, a3, a4⟩ := after I7
        exact ⟨m', hm, i + 1, ys, its, na, H7, (weak I7).pins_of (fun p hp' => absurd hp' (by simp)), a1, a2, a3, rv3, a4, w7⟩
      | true =>
        rw [if_pos rfl]
        rw [if_pos rfl] at q7
        refine thn (he _ _ _ _ s7 σ6 H7 _ I7 q7) fun yv s8 ⟨y, H8, I8, r8, m', hm, w8⟩ => ?_
        obtain ⟨a1, a2, a3, a4⟩ := after I8
        have hl := rv3.length
        refine call_meets F.slot_list_append ⟨_, a4, rfl⟩ F.entry_list_append (F.args_list_append_2 _ _) (PySem.list_append s2.heap.objs.size its.toArray na yv (by rw [List.size_toArray]; (clear a4 a3 hm l6 hd3 nD3 len0 hD0 hDC hC ehp hN hkind hsc hX hcalm; omega))) ⟨a4, ?_⟩
        have I9 : Inv (cxB X scope N { s2 with heap := hp } H2 (s2.heap.objs.size :: fp)) [] (st0 own caps σ) H8 s8 := (weak I8).pins_of (fun p hp' => absurd hp' (by simp))
        have q : (s8.heap.update s2.heap.objs.size (Obj.mapSeq (·.push yv))).get? s2.heap.objs.size = some { cls := .type "list", data := .seq (its ++ [yv]).toArray (na + 1) } := by
          have q := PySem.IsL.update a4 (·.push yv)
          simpa using q
        refine ⟨m', hm, i + 1, ys ++ [y], its ++ [yv], na + 1, H8, I9.turned (it := s2.heap.objs.size) (t' := s8.toks) (fun b o hb e => ?_) a3 (hDC) (.inl List.mem_cons_self) (fun x c z => Nat.ne_of_lt (cellLt z)) (fun p hp' => absurd (show p ∈ ([] : List (Addr × Obj)) from hp') (by simp)), ?_, a2, a3, rv3.append (.cons r8 .nil), q, w8⟩
        · rw [Heap.get?_update_other _ _ (Ne.symm hb)]; exact e
        · exact T.keep _ _ _ a1 fun b hb o e => by rw [Heap.get?_update_other _ _ (Ne.symm (fpC b hb).2)]; exact e
  exact codeAny_compStart_list (loop _ rfl) (T.self _ 0 _ _ _ (T.keep _ _ _ st2 fun b _ o q => up1 (up q)) (loop _ rfl))
theorem pe_comp {elt target iter : Expr} {ifs : List Expr} {scope sc0 : Scope} {pos : Pos} {N N0 : List Str} {own : Nat} {caps : List Nat} {wi : TI} {g : TG} {tc : TT} {te : TE}
    (hcalm : X.calm = true) (hi : PI X target iter wi)
    (hg : ∀ s₀ H₀ ex, PG (cxB X scope N s₀ H₀ ex) target g) (hc : ∀ s₀ H₀ ex, PIfs (cxB X scope N s₀ H₀ ex) ifs tc) (he : ∀ s₀ H₀ ex, PE (cxB X scope N s₀ H₀ ex) elt te) (hk : GKeep own g)
    (hX : X.N = N0) (hsc : X.env.scope = sc0)
    (hcell : ∀ y ∈ scope.names, y.2 ≠ .cell) (hkind : scope.kind = .function) (hnames : ∀ y ∈ scope.names, y.2 = .local → scope.names.lookup y.1 = some .local)
    (hfree : ∀ y ∈ scope.names, y.2 = .free → sc0.names.lookup y.1 = some .cell) (hN : N.length = own + caps.length)
    (hcap : ∀ p ∈ caps.zip (N.drop own), N0[p.1]? = some p.2 ∧ scope.names.lookup p.2 = some .free)
    (hs : ∀ x, foldedSetIterable iter X.env x = pure x := by intro _; rfl) :
    PE X (.ListComp elt [⟨target, iter, ifs, 0⟩] scope pos) (tComp own caps wi g tc te) := by
  intro pins s σ H Q I h
  rw [eval_ListComp]
  exact comp_core hcalm hi hg hc he hk hX hsc hcell hkind hnames hfree hN hcap hs I h fun D C s' He ys m f hn hI _ q => ⟨m, hn, fun h' hsb => ⟨.ref D, _, hI h' hsb, rfl, q⟩⟩
end
end L2
set_option Elab.async false
set_option linter.all false
set_option maxRecDepth 100000
set_option maxHeartbeats 4000000
namespace L2
open PySem PySem.Spec PyProof.Rows
theorem ObjOk.at {P : Program} {w : World} {H : Hp} {h : Heap} {a : Addr} {o : HO} (x : ObjOk P w H h a o) : ∃ ob, h.get? a = some ob := by
  cases o with
  | lst xs => obtain ⟨_, _, _, _, e⟩ := x; exact ⟨_, e⟩
  | tup xs => obtain ⟨_, _, _, ob, e, _⟩ := x; exact ⟨_, e⟩
  | dK kvs => obtain ⟨_, _, _, _, o, _, _, e, _⟩ := x; exact ⟨_, e⟩
  | dT kvs => obtain ⟨_, _, _, _, o, _, _, e, _⟩ := x; exact ⟨_, e⟩
  | set S n => obtain ⟨o, _, _, _, e, _⟩ := x; exact ⟨_, e⟩
  | ins C dx fs => obtain ⟨_, _, _, e, _⟩ := x; exact ⟨_, e⟩
  | own y => obtain ⟨_, e⟩ := x; exact ⟨_, e⟩
  | xd fs => obtain ⟨_, ⟨_, _, _, e, _⟩, _⟩ := x; exact ⟨_, e⟩
  | rng lo hi => obtain ⟨_, _, _, e⟩ := x; exact ⟨_, e⟩
  | frz ob u => obtain ⟨e, _⟩ := x; exact ⟨_, e⟩
  | tbl ps => exact ⟨_, show h.get? a = some _ from x⟩
  | met f y => exact ⟨_, show h.get? a = some _ from x⟩
  | ext φ => obtain ⟨_, ⟨_, e⟩, _⟩ := x; exact ⟨_, e⟩
noncomputable def CX1 (P : Program) (w : World) : CXT := fun outer H s E e s' => ∃ (ea : Addr) (cls a0 : Value) (B : Heap) (H' : Hp),
  e = .ref ea ∧ s'.os = s.os ∧ AllBare s'.gens ∧ Un (frs outer) [] H H' s.heap s'.heap ∧ HOk P w H' s'.heap ∧ Heap.FlyingW B outer ea cls a0 s'.heap ∧
  (∀ b o, s.heap.get? b = some o → H b = none → b ∉ frs outer → B.get? b = some o) ∧ (∀ b o, s.heap.get? b = some o → b ∉ frs outer → ∃ o', B.get? b = some o') ∧
  (∀ b u, H' b = some u → ∃ o, B.get? b = some o) ∧ E cls none H'
theorem CX1.no {P : Program} {w : World} {outer : List Env} {H : Hp} {s s' : Shared} {e : Value} (h : CX1 P w outer H s (fun _ _ _ => False) e s') : False := by
  obtain ⟨_, _, _, _, _, _, _, _, _, _, _, _, _, _, z⟩ := h
  exact z
theorem un_fly {fs : List Addr} {H H' : Hp} {h h1 h2 B base : Heap} {outer : List Env} (hfs : fs = frs outer) (u : Un fs [] H H' h h1) (k1 : ∀ b o, h.get? b = some o → H b = none → b ∉ fs → B.get? b = some o)
    (k3 : ∀ b o, h.get? b = some o → b ∉ fs → ∃ o', B.get? b = some o') (ff : h1.FunFrames base outer) (st : B.StaysIn h2) (up : h1.UpToSlots h2) : Un fs [] H H' h h2 := by
  have fr : ∀ b ∈ fs, ∀ o, h1.get? b = some o → ∃ sl, h2.get? b = some { o with slots := sl } := fun b hb o e => by
    rw [hfs] at hb
    obtain ⟨_, o', e', nf⟩ := ff.mem hb
    rw [e] at e'; cases e'
    exact up b o e nf
  refine ⟨fun b o e n hb _ => st b o (k1 b o e n hb), fun b o e n hb hx => ?_, u.free, fun b o e hx => ?_, u.tups, u.frzs, u.tbls⟩
  · obtain ⟨sl, e1⟩ := u.slot b o e n hb hx
    obtain ⟨sl', e2⟩ := fr b hb _ e1
    exact ⟨sl', e2⟩
  · by_cases hb : b ∈ fs
    · obtain ⟨o1, e1⟩ := u.there b o e hx
      obtain ⟨sl, e2⟩ := fr b hb _ e1
      exact ⟨_, e2⟩
    · obtain ⟨o', e'⟩ := k3 b o e hb
      exact ⟨o', st b o' e'⟩
theorem hok_fly {P : Program} {w : World} {H : Hp} {h1 h2 B : Heap} (x : HOk P w H h1) (k2 : ∀ b u, H b = some u → ∃ o, B.get? b = some o) (s1 : B.StaysIn h1) (s2 : B.StaysIn h2) : HOk P w H h2 := fun b u e => by
  refine (x b u e).stay (fun c v hc q => ?_) (fun _ q => q) fun _ _ q => q
  have ht : ∃ z, H c = some z := by
    rcases hc with z | z
    · subst z; exact ⟨u, e⟩
    · exact ⟨_, z⟩
  obtain ⟨z, ez⟩ := ht
  obtain ⟨o, eo⟩ := k2 c z ez
  have := s1 c o eo
  rw [q] at this; cases this
  exact s2 c v eo
section
variable {P : Program} {w : World} {K : PySem.W.Frag} {mg : Str → Option Value} {base : Heap} {N : List Str} {qual : Str} {scope : Scope} {f : Addr} {cdv : Value} {A : Around} {outer : List Env} {s₀ : Shared} {H₀ : Hp} {E E' : XK}
noncomputable def Raises (X : Cx) (E : XK) : Prop := ∀ (pins : List (Addr × Obj)) (σ : St) (H : Hp) (s : Shared) (h' : Heap) (ea : Addr) (cls : Value) (args : List Value), Inv X pins σ H s → Heap.MadeExcOf s.heap h' ea cls args → E cls none H → X.xe (.ref ea) { s with heap := h' }
theorem raise_out : Raises (cxOf (CX1 P w) P w K mg base N qual scope f cdv A outer s₀ H₀ E) E := by
  intro pins σ H s h' ea cls args I hx hE
  have stk := I.stack
  have hin : ∀ env ∈ (cxOf (CX1 P w) P w K mg base N qual scope f cdv A outer s₀ H₀ E).stack, ∀ b, env.frame = some b → b ∈ frs (cxOf (CX1 P w) P w K mg base N qual scope f cdv A outer s₀ H₀ E).stack := fun env he b hb => List.mem_filterMap.mpr ⟨env, he, hb⟩
  have inB : ∀ {b : Addr} {o : Obj}, s.heap.get? b = some o → b ∉ frs (cxOf (CX1 P w) P w K mg base N qual scope f cdv A outer s₀ H₀ E).stack → (PySem.W.hideAll s.heap (frs (cxOf (CX1 P w) P w K mg base N qual scope f cdv A outer s₀ H₀ E).stack)).get? b = some o := fun e hb => PySem.W.hideAll_get _ e hb
  have hL : ∀ {b : Addr} {o : Obj}, s₀.heap.get? b = some o → b ∉ frs outer → b ∉ frs (cxOf (CX1 P w) P w K mg base N qual scope f cdv A outer s₀ H₀ E).stack := fun {b o} e hb z => by
    rcases List.mem_cons.mp (I.stkSub b z) with q | q
    · have h1 := Heap.lt_size e
      have h2 : s₀.heap.objs.size ≤ (cxOf (CX1 P w) P w K mg base N qual scope f cdv A outer s₀ H₀ E).env.locals := I.ok.above
      rw [q] at h1
      exact Nat.lt_irrefl _ (Nat.lt_of_lt_of_le h1 h2)
    · exact hb q
  show wpAny (model P w) (A.deeper (envOfC qual scope s₀.heap.objs.size f cdv)) (leaving (envOfC qual scope s₀.heap.objs.size f cdv) (.ref ea)) _ _ _
  refine wpAny_leaves_madeW (s := { s with heap := h' }) (h := s.heap) (base := PySem.W.hideAll s.heap (frs (cxOf (CX1 P w) P w K mg base N qual scope f cdv A outer s₀ H₀ E).stack)) I.ok.frames rfl (fun b o q => PySem.W.of_hideAll _ q) (PySem.W.funFrames_hide stk hin) hx fun h'' t fl _ _ up => ?_
  have u0 : Un (frs outer) [] H₀ H s₀.heap s.heap := I.base
  have tr : ∀ b u, H b = some u → b ∉ frs (cxOf (CX1 P w) P w K mg base N qual scope f cdv A outer s₀ H₀ E).stack := fun b u e z => by rw [I.stkFree b z] at e; cases e
  have k1 : ∀ b o, s₀.heap.get? b = some o → H₀ b = none → b ∉ frs outer → (PySem.W.hideAll s.heap (frs (cxOf (CX1 P w) P w K mg base N qual scope f cdv A outer s₀ H₀ E).stack)).get? b = some o := fun b o e n hb => inB (u0.keep b o e n hb (by simp)) (hL e hb)
  have k3 : ∀ b o, s₀.heap.get? b = some o → b ∉ frs outer → ∃ o', (PySem.W.hideAll s.heap (frs (cxOf (CX1 P w) P w K mg base N qual scope f cdv A outer s₀ H₀ E).stack)).get? b = some o' := fun b o e hb => by
    obtain ⟨o', e'⟩ := u0.there b o e (by simp)
    exact ⟨o', inB e' (hL e hb)⟩
  have k2 : ∀ b u, H b = some u → ∃ o, (PySem.W.hideAll s.heap (frs (cxOf (CX1 P w) P w K mg base N qual scope f cdv A outer s₀ H₀ E).stack)).get? b = some o := fun b u e => by
    obtain ⟨o, eo⟩ := (I.hok b u e).at
    exact ⟨o, inB eo (tr b u e)⟩
  exact ⟨ea, cls, .ref t, _, H, rfl, I.os, I.bare, un_fly rfl u0 k1 k3 I.funs fl.1 ((Heap.UpToSlots.of_keeps hx.keeps).trans up), hok_fly I.hok k2 (fun b o q => PySem.W.of_hideAll _ q) fl.1, fl, k1, k3, k2, hE⟩
theorem pass_out (hE : ∀ cls od H', E' cls od H' → E cls od H') : Passes (CX1 P w) (cxOf (CX1 P w) P w K mg base N qual scope f cdv A outer s₀ H₀ E) E' := by
  intro pins σ H s e s' I h
  obtain ⟨ea, cls, a0, B, H', rfl, os, bare, un, hok, fl, k1, k3, k2, hx⟩ := h
  have stk : (cxOf (CX1 P w) P w K mg base N qual scope f cdv A outer s₀ H₀ E).stack = envOfC qual scope s₀.heap.objs.size f cdv :: outer := rfl
  have hfrs : frs (cxOf (CX1 P w) P w K mg base N qual scope f cdv A outer s₀ H₀ E).stack = s₀.heap.objs.size :: frs outer := rfl
  have u0 : Un (frs outer) [] H₀ H s₀.heap s.heap := I.base
  have notL : ∀ {b : Addr} {o : Obj}, s₀.heap.get? b = some o → b ∉ frs outer → b ∉ frs (cxOf (CX1 P w) P w K mg base N qual scope f cdv A outer s₀ H₀ E).stack := fun {b o} e hb z => by
    rw [hfrs] at z
    rcases List.mem_cons.mp z with q | q
    · have h1 := Heap.lt_size e
      rw [q] at h1
      exact Nat.lt_irrefl _ h1
    · exact hb q
  show wpAny (model P w) (A.deeper (envOfC qual scope s₀.heap.objs.size f cdv)) (leaving (envOfC qual scope s₀.heap.objs.size f cdv) (.ref ea)) _ _ _
  refine wpAny_leaves_onW I.ok.frames rfl fl fun h'' fl2 up => ?_
  have u1 : Un (frs outer) [] H₀ H' s₀.heap s'.heap := by
    refine ⟨fun b o e n hb hx => ?_, fun b o e n hb hx => ?_, fun b o e n hx => ?_, fun b o e hx => ?_, fun b xs q => un.tups b xs (u0.tups b xs q), fun b ob u q => un.frzs b ob u (u0.frzs b ob u q), fun b ps q => ?_⟩
    · exact un.keep b o (u0.keep b o e n hb hx) (u0.free b o e n hx) (notL e hb) (by simp)
    · obtain ⟨sl, e1⟩ := u0.slot b o e n hb hx
      obtain ⟨sl', e2⟩ := un.any e1 (u0.free b o e n hx) (by simp)
      exact ⟨sl', e2⟩
    · obtain ⟨o', e1⟩ := u0.there b o e hx
      exact un.free b o' e1 (u0.free b o e n hx) (by simp)
    · obtain ⟨o', e1⟩ := u0.there b o e hx
      exact un.there b o' e1 (by simp)
    · obtain ⟨m1, e1⟩ := u0.tbls b ps q
      obtain ⟨m2, e2⟩ := un.tbls b _ e1
      exact ⟨m1 ++ m2, by rw [e2, Array.append_assoc]⟩
  have K1 : ∀ b o, s₀.heap.get? b = some o → H₀ b = none → b ∉ frs outer → B.get? b = some o := fun b o e n hb => k1 b o (u0.keep b o e n hb (by simp)) (u0.free b o e n (by simp)) (notL e hb)
  have K3 : ∀ b o, s₀.heap.get? b = some o → b ∉ frs outer → ∃ o', B.get? b = some o' := fun b o e hb => by
    obtain ⟨o', e1⟩ := u0.there b o e (by simp)
    exact k3 b o' e1 (notL e hb)
  have ff : s'.heap.FunFrames B outer := by
    obtain ⟨_, _, ⟨_, _, r⟩, _⟩ := fl
    exact r
  exact ⟨ea, cls, a0, B, H', rfl, os.trans I.os, bare, un_fly rfl u1 K1 K3 ff fl2.1 up, hok_fly hok k2 fl.1 fl2.1, fl2, K1, K3, k2, hE _ _ _ hx⟩
end
theorem exc_obj {K : PySem.W.Frag} {h : Heap} {C : Addr} {bmB : List Value} {newId : String} (X : K.In h) (q : PySem.W.excIn K C bmB newId = true) :
    ∃ bm N nm qn bs hdct sn sub ab col dd k0 k1 k2 k3 k5 mN, h.get? C = some (excClassObj nm qn C N bs bm hdct sn sub ab col dd k0 k1 k2 k3 k5 newId) ∧ h.Ns N mN ∧ mN "__init__" = none ∧ OwnTail h bmB bm := by
  unfold PySem.W.excIn at q
  split at q
  · rename_i dd cd sl ho
    split at q
    · rename_i C' bm k0 k1 k2 k3 n k5 hm hs
      simp only [Bool.and_eq_true, beq_iff_eq, Bool.not_eq_true'] at q
      obtain ⟨⟨⟨⟨⟨rfl, rfl⟩, hdel⟩, ht⟩, hok⟩, hni⟩ := q
      obtain ⟨nm, bs, mro, ns, qn, hd, sn, sub, ab, col, del⟩ := cd
      dsimp only at hm hdel hok hni
      subst hm hdel
      have hsl : sl = #[k0, k1, k2, k3, some (.builtin n), k5] := by
        obtain ⟨l⟩ := sl
        simp only at hs
        rw [hs]
      subst hsl
      exact ⟨bm, ns, nm, qn, bs, hd, sn, sub, ab, col, dd, k0, k1, k2, k3, k5, _, X _ _ ho, .of_isNs (PySem.W.isNs_of_in X hok), PySem.W.nsMap_none_of_in X hok hni, PySem.W.tail_of_in X ht⟩
    · cases q
  · cases q
section
variable {X : Cx} {E : XK}
noncomputable def tRaise (C : Addr) (E : XK) (t : TA) : TS := fun _ σ H => t σ H fun vs H1 => vs.length ≤ sizeLine ∧ E (.ref C) none H1
theorem ps_raise {x : Str} {C : Addr} {e : Expr} {es : List Expr} {t : TA} {np cpos pos : Pos} {B Bn newId nid initId inN : String} {bmB bmN : List Value} (hcalm : X.calm = true) (hq : PySem.W.excIn X.K C bmB newId = true)
    (Fn : ExcBaseFacts Bn newId inN bmN) (hBn : bmB.contains (.type Bn) = true) (FB : ExcBaseFacts B nid initId bmB) (hg : Gl X x) (hm : X.mg x = some (.ref C)) (ha : PA X (e :: es) t) (hR : Raises X E)
    (hdb : (x == ("__debug__" : Str)) = false := by decide) (he : starEach (e :: es) X.env = (false, eval e X.env) :: starEach es X.env := by rfl) (hpl : (backTo cpos (starEach es X.env)).any (·.1) = false := by rfl) :
    PS X (.Raise (some (.Call (.Name x np) (e :: es) [] cpos)) none pos) (tRaise C E t) := by
  intro pins s σ H D I h
  obtain ⟨tl, N, nm, qn, bs, hdct, sn, sub, ab, col, dd, k0, k1, k2, k3, k5, mN, hC, hN, hni, T⟩ := exc_obj I.ok.mod.kin hq
  refine wpAny_Raise_call_subU (C := C) (nm := nm) (q := qn) (N := N) (bs := bs) (bm := tl) (hdct := hdct) (sn := sn) (sub := sub) (ab := ab) (col := col) (dd := dd) (k0 := k0) (k1 := k1) (k2 := k2) (k3 := k3) (k5 := k5)
    Fn hBn FB (mN := mN) (T.hasType FB.hasBase) (I.ok.hd hcalm) (by rw [he]; show (false || (backTo cpos (starEach es X.env)).any (·.1)) = false; rw [hpl]; rfl) hni (ld_glob I hg hm ⟨rfl, ?_⟩ hdb)
  have hA := ha cpos pins s σ H _ I h
  rw [he] at hA ⊢
  exact Calls.evalArgs_plain (thn hA fun us s2 ⟨vs, H2, I2, r, hz, hE⟩ => ⟨rfl, by rw [← r.length]; exact hz, I2.bk _ _ hC, hN.keeps I2.bk, T.keeps I2.bk, fun h' ea mk => hR pins σ H2 s2 h' ea (.ref C) us I2 mk hE⟩)
end
section
variable {P : Program} {w : World} {K : PySem.W.Frag} {mg : Str → Option Value} {base : Heap}
theorem Fun.ok1 {x qual : Str} {st : Stmt} {f : Addr} {fd : FuncData} {N ps : List Str} {k : Nat} {sp : Sp} (F : Fun K x qual st f fd) (S : FnScope N ps (defScope st)) (len : ∀ vs H Q E, sp vs H Q E → vs.length = ps.length)
    (hbody : ∀ (cdv : Value) (A : Around) (outer : List Env) (s : Shared) (H : Hp) (vs : List V) (Q : VK) (E : XK), Room k (A.deeper (envOfC qual (defScope st) s.heap.objs.size f cdv)) → sp vs H Q E →
      ∃ t, PSs (cxOf (CX1 P w) P w K mg base N qual (defScope st) f cdv A outer s H E) (defBody st) t ∧ t { nx := fun _ H' => Q .non H', rt := Q } (start N vs) H) : FnOk P w K mg base (CX1 P w) (k + 1) f fd ps sp := by
  obtain ⟨oc, od, kV, doc, pm, an, cdv, ct, osl, rfl, lk, hcd⟩ := F.ex
  exact fn_of lk hcd S len fun A outer s H vs Q E hr hsp => hbody cdv A outer s H vs Q E hr hsp
end
end L2
set_option Elab.async false
set_option linter.all false
set_option maxRecDepth 100000
set_option maxHeartbeats 4000000
namespace L2
open PySem PySem.Spec PyProof.Rows
noncomputable def ExcO (ea C : Addr) : HO := .ext fun h => ∃ o vs, h.get? ea = some o ∧ o.cls = .ref C ∧ o.data = .fields vs
noncomputable abbrev Cx.tr (X : Cx) (p : List (Addr × Obj)) (E : Value → Shared → Prop) : Cx := { X with pn := p, xe := E }
noncomputable def cxH (X : Cx) (ea : Addr) (p : List (Addr × Obj)) : Cx := { X with A := X.A.mark (some (.ref ea)), calm := false, xe := fun _ _ => False, pn := p }
noncomputable def PassS (CX : CXT) (X : Cx) (E : St → XK) : Prop := ∀ (pins : List (Addr × Obj)) (σ : St) (H : Hp) (s : Shared) (e : Value) (s' : Shared), Inv X pins σ H s → CX X.stack H s (E σ) e s' → X.xe e s'
noncomputable def tCallS (sp : Sp) (dvs : List V) (E : St → XK) (t : TA) : TE := fun σ H Q => t σ H fun vs H1 => sp (vs ++ dvs) H1 Q (E σ)
section
variable {X : Cx} {CX : CXT} {k : Nat} {f C : Addr} {fd : FuncData} {ps : List Str} {sp : Sp} {dvs : List V} {ds : List Value} {E : St → XK} {x m : Str} {p pos apos : Pos} {e o : Expr} {es : List Expr} {ta : TE} {t : TA}
theorem run_fnS {pins : List (Addr × Obj)} {σ : St} {H : Hp} {s : Shared} {Q : VK} {us : List Value} {vs : List V} (F : FnOk X.prog X.w X.K X.mg X.base CX k f fd ps sp) (hr : Room k X.A) (hb : Binds X.K fd ps ds) (hd : Vals dvs ds) (hx : PassS CX X E)
    (I : Inv X pins σ H s) (r : Vals vs us) (h : sp (vs ++ dvs) H Q (E σ)) : wpAny (model X.prog X.w) X.A (call (.ref f) us) (EP X pins σ Q) X.xe s := by
  have r2 : Vals (vs ++ dvs) (us ++ ds) := r.append hd
  have hl : (us ++ ds).length = ps.length := by rw [← r2.length]; exact F.len _ _ _ _ h
  refine wpAny_call (codeAny_mono (F.run X.A X.stack s H ⟨us, []⟩ (us ++ ds) (vs ++ dvs) Q (E σ) hr I.env0 (hb s us I.kIn hl) r2 h) fun r s' hq => ?_)
  cases r with
  | error e => exact hx pins σ H s e s' I hq
  | ok fl =>
    cases fl with
    | ret u => exact I.after hq
    | next => exact False.elim hq
    | brk => exact False.elim hq
    | cont => exact False.elim hq
theorem pe_callS (F : FnOk X.prog X.w X.K X.mg X.base CX k f fd ps sp) (hr : Room k X.A) (hg : Gl X x) (hm : X.mg x = some (.ref f)) (hk : PySem.W.keepIn X.K (.ref f) = true) (hb : Binds X.K fd ps ds) (hd : Vals dvs ds) (hx : PassS CX X E)
    (ha : PA X (e :: es) t) (hdb : (x == ("__debug__" : Str)) = false := by decide) (he : starEach (e :: es) X.env = (false, eval e X.env) :: starEach es X.env := by rfl) (hpl : (backTo pos (starEach es X.env)).any (·.1) = false := by rfl) :
    PE X (.Call (.Name x p) (e :: es) [] pos) (tCallS sp dvs E t) := by
  intro pins s σ H Q I h
  refine wpAny_Call_Name_kw (ld_glob I hg hm ?_ hdb)
  refine PySem.W.callWith_K (h₀ := X.base) I.ok.mod.kin hk (thn (ha pos pins s σ H _ I h) fun us s1 ⟨vs, H1, I1, r, q⟩ => ⟨I1.kIn, ?_⟩) he hpl
  exact run_fnS F hr hb hd hx I1 r q
end
section
variable {X : Cx} {pins : List (Addr × Obj)} {σ : St} {H : Hp} {s : Shared}
theorem Inv.unset {n : Str} {i : Nat} {m : Str → Option Value} {u : Option Value} {h' : Heap} (I : Inv X pins σ H s) (hN : X.N.Nodup) (hi : X.N[i]? = some n)
    (hl : ∀ (i : Nat) (x : Str) (v : V), X.N[i]? = some x → σ[i]? = some (some v) → Vis X.env.scope x → ∃ u, RelV v u ∧ Look X.env s.heap m x u)
    (hn' : h'.Ns X.env.locals (fun x => if x = n then u else m x)) (hs : Heap.SameBut X.env.locals s.heap h') : Inv X pins (σ.set i none) H { s with heap := h' } := by
  have cne := I.cne
  obtain ⟨m0, ⟨oL, _, _, hoL, _⟩, _⟩ := id I.loc
  have tracked : HOk X.prog X.w H h' := fun b ob e => by
    refine (I.hok b ob e).stay (fun c w' hc q => (hs.2 c ?_).trans q) (fun _ q => q) fun _ _ q => q
    rintro rfl
    have hf := I.free
    rcases hc with hc | hc
    · rw [← hc, hf] at e; cases e
    · rw [hf] at hc; cases hc
  refine ⟨I.ok, I.os, I.bare, ⟨fun b o e n hb hx => ?_, fun b o e n hb hx => ?_, I.base.free, fun b o e hx => ?_, I.base.tups, I.base.frzs, I.base.tbls⟩, ⟨_, hn', fun j y v' e1 e2 e3 => ?_⟩, fun y c e => ?_, I.free, I.freeC, fun p hp => ?_, tracked, by simpa using I.len⟩
  · exact (hs.2 b (Nat.ne_of_lt (Nat.lt_of_lt_of_le (Heap.lt_size e) I.ok.above))).trans (I.base.keep b o e n hb hx)
  · obtain ⟨sl, e1⟩ := I.base.slot b o e n hb hx
    exact ⟨sl, (hs.2 b (Nat.ne_of_lt (Nat.lt_of_lt_of_le (Heap.lt_size e) I.ok.above))).trans e1⟩
  · obtain ⟨o', e1⟩ := I.base.there b o e hx
    exact ⟨o', (hs.2 b (Nat.ne_of_lt (Nat.lt_of_lt_of_le (Heap.lt_size e) I.ok.above))).trans e1⟩
  · by_cases hj : j = i
    · subst hj
      rw [List.getElem?_set] at e2
      rw [if_pos rfl] at e2
      split at e2 <;> cases e2
    · rw [List.getElem?_set_ne (Ne.symm hj)] at e2
      obtain ⟨u', r', q⟩ := hl j y v' e1 e2 e3
      refine ⟨u', r', ?_⟩
      rcases q with ⟨k, e⟩ | ⟨k, c, e, z⟩
      · refine .inl ⟨k, ?_⟩
        have : y ≠ n := fun e => hj (nodup_ix hN e1 (e ▸ hi))
        simp [this, e]
      · exact .inr ⟨k, c, e, z.sameBut hs (cne y c e)⟩
  · obtain ⟨w', z⟩ := I.cell y c e
    exact ⟨w', z.sameBut hs (cne y c e)⟩
  · obtain ⟨e, n, ne, nf, d⟩ := I.pin p hp
    exact ⟨(hs.2 p.1 ne).trans e, n, ne, nf, d⟩
theorem let_go {n : Str} {i : Nat} {pos : Pos} {Q : Unit → Shared → Prop} (I : Inv X pins σ H s) (hN : X.N.Nodup) (hi : X.N[i]? = some n) (hk : X.env.scope.names.lookup n = some .local)
    (h : ∀ s', Inv X pins (σ.set i none) H s' → Q () s') : wpAny (model X.prog X.w) X.A (do bindName X.env n .none; unbindBehindTheSuite X.env n pos) Q X.xe s := by
  have hcls : (X.env.scope.kind == .class || (X.env.scope.kind == .module && X.env.locals != X.env.globals)) = false := by rw [I.ok.kind]; rfl
  refine wpAny_bind (wpAny_bindName (store_ok I hN hi (.inl hk) (show RelV .non .none from rfl) (fun s1 I1 => ?_) (.inr hk)))
  obtain ⟨m, hn, hl⟩ := id I1.loc
  have hiσ : i < σ.length := by rw [I.len]; exact (List.getElem?_eq_some_iff.mp hi).1
  obtain ⟨u, ru, lk⟩ := hl i n .non hi (by rw [List.getElem?_set_self hiσ]) (.inl hk)
  have hm : m n = some u := by
    rcases lk with ⟨_, e⟩ | ⟨z, _⟩
    · exact e
    · have hk' : X.env.kindOf n = some .local := hk
      rw [hk'] at z
      rcases z with z | z <;> cases z
  unfold unbindBehindTheSuite
  refine wpAny_onRaise (wpAny_unbindName_local hk hn hm hcls fun h' u' hn' hs' => ?_)
  have I2 := I1.unset hN hi hl hn' hs'
  rw [List.set_set] at I2
  exact h _ I2
end
section
variable {X : Cx}
noncomputable def tTry (K : PySem.W.Frag) (CH : Addr) (i : Nat) (E : St → XK) (tb ts : TS) : TS := fun D σ H => tb D σ H ∧ ∀ σ' cls H' ea, E σ' cls none H' → H' ea = none →
  ∃ C, cls = .ref C ∧ PySem.W.exmOne K (.ref C) (.ref CH) = some true ∧
    ts { nx := fun σ2 H2 => D.nx (σ2.set i none) H2, rt := D.rt, bk := fun σ2 H2 => D.bk (σ2.set i none) H2, ct := fun σ2 H2 => D.ct (σ2.set i none) H2 } (σ'.set i (some (.ref ea))) (upd H' ea (ExcO ea C))
theorem try_pass {pins : List (Addr × Obj)} {D : Ends} {CH : Addr} {i : Nat} {E : St → XK} {x n : Str} {np pos : Pos} {b₀ : Stmt} {suite : List Stmt} {ts : TS}
    (hstk : X.stack = X.env :: X.outer) (hfr : X.env.frame = some X.env.locals) (hN : X.N.Nodup) (hi : X.N[i]? = some n) (hk : X.env.scope.names.lookup n = some .local) (hg : Gl X x) (hm : X.mg x = some (.ref CH))
    (hs : ∀ ea p, PSs (cxH X ea p) (b₀ :: suite) ts)
    (hc : ∀ σ' cls H' ea, E σ' cls none H' → H' ea = none → ∃ C, cls = .ref C ∧ PySem.W.exmOne X.K (.ref C) (.ref CH) = some true ∧
      ts { nx := fun σ2 H2 => D.nx (σ2.set i none) H2, rt := D.rt, bk := fun σ2 H2 => D.bk (σ2.set i none) H2, ct := fun σ2 H2 => D.ct (σ2.set i none) H2 } (σ'.set i (some (.ref ea))) (upd H' ea (ExcO ea C)))
    (hdb : (x == ("__debug__" : Str)) = false := by decide) :
    PassS (CX1 X.prog X.w) (X.tr (X.pn ++ pins) fun e s₁ => wpAny (model X.prog X.w) X.A (noteFrame e X.env) (fun _ s₂ => wpAny (model X.prog X.w) X.A (setFlight e none) (fun _ s₃ =>
      wpAny (model X.prog X.w) X.A (handleBy e X.env [.ExceptHandler (some (.Name x np)) (some n) (b₀ :: suite) pos]) (SP X pins D) X.xe s₃) X.xe s₂) X.xe s₁) E := by
  intro pins' σ' H1 s1 e s' I1 hx
  obtain ⟨ea, cls, a0, B, H', rfl, os, bare, un, hok, fl, k1, k3, k2, hE⟩ := hx
  have fl' : Heap.FlyingW B (X.env :: X.outer) ea cls a0 s'.heap := hstk ▸ fl
  have hfrm : X.A.frames = some (X.env :: X.outer) := hstk ▸ I1.ok.frames
  have nfr : ea ∉ frs X.stack := fun z => by
    obtain ⟨_, o, ho, nf⟩ := fl.2.2.1.mem z
    obtain ⟨oe, vs, _, _, _, he, _, hd, _⟩ := fl.2.2.2
    rw [he] at ho; cases ho
    exact nf vs hd
  have nE : ∀ {b : Addr} {o : Obj}, s1.heap.get? b = some o → b ≠ ea := fun {b o} q z => by
    subst z
    obtain ⟨o', e'⟩ := k3 b o q nfr
    rw [fl.2.1] at e'; cases e'
  have nH : H' ea = none := by
    cases q : H' ea with
    | none => rfl
    | some u =>
      obtain ⟨o, e'⟩ := k2 ea u q
      rw [fl.2.1] at e'; cases e'
  have go : ∀ {h2 : Heap}, Heap.FlyingW B (X.env :: X.outer) ea cls a0 h2 → s'.heap.UpToSlots h2 → Inv (X.tr (X.pn ++ pins) fun e s₁ => wpAny (model X.prog X.w) X.A (noteFrame e X.env) (fun _ s₂ => wpAny (model X.prog X.w) X.A (setFlight e none) (fun _ s₃ =>
      wpAny (model X.prog X.w) X.A (handleBy e X.env [.ExceptHandler (some (.Name x np)) (some n) (b₀ :: suite) pos]) (SP X pins D) X.xe s₃) X.xe s₂) X.xe s₁) pins' σ' H' { s' with heap := h2 } := fun {h2} fl2 up =>
    I1.call' (s' := { s' with heap := h2 }) (ch := []) os (un_fly rfl un k1 k3 fl.2.2.1 fl2.1 up) (hok_fly hok k2 fl.1 fl2.1) bare fun b z => absurd z (by simp)
  have toH : ∀ {s2 : Shared} {H2 : Hp}, Inv (X.tr (X.pn ++ pins) fun e s₁ => wpAny (model X.prog X.w) X.A (noteFrame e X.env) (fun _ s₂ => wpAny (model X.prog X.w) X.A (setFlight e none) (fun _ s₃ =>
      wpAny (model X.prog X.w) X.A (handleBy e X.env [.ExceptHandler (some (.Name x np)) (some n) (b₀ :: suite) pos]) (SP X pins D) X.xe s₃) X.xe s₂) X.xe s₁) pins' σ' H2 s2 → Inv (cxH X ea (X.pn ++ pins)) [] σ' H2 s2 := fun I =>
    ⟨⟨I.ok.mod, I.ok.kind, I.ok.glob, I.ok.blt, I.ok.above, I.ok.inj, I.ok.has, I.ok.cab, (fun z => by cases z), I.ok.frames, I.ok.stk, I.ok.exf, I.ok.bs, I.ok.bsz, I.ok.noex, I.ok.exfs, I.ok.funs, I.ok.frf⟩,
      I.os, I.bare, I.base, I.loc, I.cell, I.free, I.freeC, fun p hp => I.pin p (List.mem_append_left _ (by have hp' : p ∈ (X.pn ++ pins) ++ [] := hp; rw [List.append_nil] at hp'; exact hp')), I.hok, I.len⟩
  refine wpAny_looks_onW hfrm hfr fl' fun h4 held up4 => ?_
  refine wpAny_landsW held fun h5 fl5 up5 => ?_
  obtain ⟨C, rfl, hexm, hts⟩ := hc σ' cls H' ea hE nH
  have I5 := toH (go fl5 (up4.trans up5))
  refine wpAny_handleBy_cons (codeAny_handlers_test ?_) (by intro q; cases q)
  refine ld_glob I5 hg hm ?_ hdb
  obtain ⟨ob, hob, hobc⟩ := fl5.there
  have LT : PySem.W.Looks (model X.prog X.w) h5 (typeOf (.ref ea)) (.ref C) := by
    rw [← hobc]
    exact (PySem.W.Looks.ld hob).andThen .now
  refine PySem.W.exm_one I5.kIn LT hexm _ _ _ _ (fun _ _ q => q) ?_
  refine codeAny_handlers_suite_as (lands_againW fl5 fun h6 fl6 up6 => ?_)
  have I6 := toH (go fl6 ((up4.trans up5).trans up6))
  have I7 : Inv (cxH X ea (X.pn ++ pins)) [] σ' (upd H' ea (ExcO ea C)) { s' with heap := h6 } := by
    refine I6.track ?_ nH (fun z => ?_) (fun y c q z => ?_) (fun p hp z => ?_) ?_
    · by_cases hx : ea ∈ X.ex
      · exact .inr hx
      · refine .inl ?_
        cases q : X.s₀.heap.get? ea with
        | none => exact q
        | some o =>
          obtain ⟨o', e'⟩ := I1.base.there ea o q hx
          exact absurd rfl (nE e')
    · exact nfr (by rw [hstk]; exact List.mem_filterMap.mpr ⟨X.env, List.mem_cons_self, by rw [hfr]; exact congrArg some z.symm⟩)
    · obtain ⟨v, oc, hoc, _⟩ := I1.cell y c q
      exact nE hoc z
    · exact nE (I1.pin p (List.mem_append_left _ (by have hp' : p ∈ (X.pn ++ pins) ++ [] := hp; rw [List.append_nil] at hp'; exact hp'))).1 z
    · obtain ⟨oe, vs, _, _, _, he, ⟨hcl, _⟩, hd, _⟩ := fl6.2.2.2
      exact ⟨⟨oe, vs, he, hcl, hd⟩, ⟨oe, he⟩, fun h1 h2 ⟨o, ws, q1, q2, q3⟩ k => ⟨o, ws, k o q1, q2, q3⟩⟩
  refine store_ok (X := cxH X ea (X.pn ++ pins)) I7 hN hi (.inl hk) (show RelV (.ref ea) (.ref ea) from rfl) (fun s8 I8 => ?_) (.inr hk)
  refine wpAny_mono (hs ea (X.pn ++ pins) [] s8 _ _ _ I8 hts) (fun fl9 s9 h9 => ?_) fun _ _ z => False.elim z
  have back : ∀ {σ2 : St} {H2 : Hp}, Inv (cxH X ea (X.pn ++ pins)) [] σ2 H2 s9 → Inv X pins σ2 H2 s9 := fun I =>
    ⟨⟨I1.ok.mod, I1.ok.kind, I1.ok.glob, I1.ok.blt, I1.ok.above, I1.ok.inj, I1.ok.has, I1.ok.cab, I1.ok.hd, I1.ok.frames, I1.ok.stk, I1.ok.exf, I1.ok.bs, I1.ok.bsz, I1.ok.noex, I1.ok.exfs, I1.ok.funs, I1.ok.frf⟩,
      I.os, I.bare, I.base, I.loc, I.cell, I.free, I.freeC, fun p hp => I.pin p (List.mem_append_left _ hp), I.hok, I.len⟩
  show wpAny (model X.prog X.w) X.A (do bindName X.env n .none; unbindBehindTheSuite X.env n pos) (fun _ s₃ => SP X pins D fl9 s₃) X.xe s9
  cases fl9 with
  | next =>
    obtain ⟨σ2, H2, I9, q9⟩ := h9
    exact let_go (back I9) hN hi hk fun s10 I10 => ⟨_, H2, I10, q9⟩
  | brk =>
    obtain ⟨σ2, H2, I9, q9⟩ := h9
    exact let_go (back I9) hN hi hk fun s10 I10 => ⟨_, H2, I10, q9⟩
  | cont =>
    obtain ⟨σ2, H2, I9, q9⟩ := h9
    exact let_go (back I9) hN hi hk fun s10 I10 => ⟨_, H2, I10, q9⟩
  | ret u =>
    obtain ⟨v, σ2, H2, I9, rv, q9⟩ := h9
    exact let_go (back I9) hN hi hk fun s10 I10 => ⟨v, _, H2, I10, rv, q9⟩
theorem ps_try {CH : Addr} {i : Nat} (E : St → XK) {x n : Str} {np hpos pos : Pos} {b₀ : Stmt} {suite body : List Stmt} {tb ts : TS}
    (hstk : X.stack = X.env :: X.outer) (hfr : X.env.frame = some X.env.locals) (hN : X.N.Nodup) (hi : X.N[i]? = some n) (hk : X.env.scope.names.lookup n = some .local) (hg : Gl X x) (hm : X.mg x = some (.ref CH))
    (hb : ∀ p xe, PassS (CX1 X.prog X.w) (X.tr p xe) E → PSs (X.tr p xe) body tb) (hs : ∀ ea p, PSs (cxH X ea p) (b₀ :: suite) ts)
    (hdb : (x == ("__debug__" : Str)) = false := by decide) : PS X (.Try body [.ExceptHandler (some (.Name x np)) (some n) (b₀ :: suite) hpos] [] [] pos) (tTry X.K CH i E tb ts) := by
  intro pins s σ H D I h
  obtain ⟨h1, h2⟩ := h
  refine wpAny_Try_except ?_
  have I' : Inv (X.tr (X.pn ++ pins) fun e s₁ => wpAny (model X.prog X.w) X.A (noteFrame e X.env) (fun _ s₂ => wpAny (model X.prog X.w) X.A (setFlight e none) (fun _ s₃ =>
      wpAny (model X.prog X.w) X.A (handleBy e X.env [.ExceptHandler (some (.Name x np)) (some n) (b₀ :: suite) hpos]) (SP X pins D) X.xe s₃) X.xe s₂) X.xe s₁) [] σ H s :=
    ⟨⟨I.ok.mod, I.ok.kind, I.ok.glob, I.ok.blt, I.ok.above, I.ok.inj, I.ok.has, I.ok.cab, I.ok.hd, I.ok.frames, I.ok.stk, I.ok.exf, I.ok.bs, I.ok.bsz, I.ok.noex, I.ok.exfs, I.ok.funs, I.ok.frf⟩,
      I.os, I.bare, I.base, I.loc, I.cell, I.free, I.freeC, fun p hp => I.pin p (by simpa using hp), I.hok, I.len⟩
  have back : ∀ {σ2 : St} {H2 : Hp} {s2 : Shared}, Inv (X.tr (X.pn ++ pins) fun e s₁ => wpAny (model X.prog X.w) X.A (noteFrame e X.env) (fun _ s₂ => wpAny (model X.prog X.w) X.A (setFlight e none) (fun _ s₃ =>
      wpAny (model X.prog X.w) X.A (handleBy e X.env [.ExceptHandler (some (.Name x np)) (some n) (b₀ :: suite) hpos]) (SP X pins D) X.xe s₃) X.xe s₂) X.xe s₁) [] σ2 H2 s2 → Inv X pins σ2 H2 s2 := fun J =>
    ⟨I.ok, J.os, J.bare, J.base, J.loc, J.cell, J.free, J.freeC, fun p hp => J.pin p (List.mem_append_left _ hp), J.hok, J.len⟩
  refine wpAny_mono (hb _ _ (try_pass hstk hfr hN hi hk hg hm hs h2 hdb) [] s σ H D I' h1) (fun f s1 q => ?_) fun e s1 q => q
  cases f with
  | next =>
    obtain ⟨σ2, H2, J, q⟩ := q
    exact wpAny_execs_nil ⟨σ2, H2, back J, q⟩
  | brk => obtain ⟨σ2, H2, J, q⟩ := q; exact ⟨σ2, H2, back J, q⟩
  | cont => obtain ⟨σ2, H2, J, q⟩ := q; exact ⟨σ2, H2, back J, q⟩
  | ret u => obtain ⟨v, σ2, H2, J, r, q⟩ := q; exact ⟨v, σ2, H2, back J, r, q⟩
end
end L2
set_option Elab.async false
set_option linter.all false
set_option maxRecDepth 100000
set_option maxHeartbeats 4000000
namespace L2
open PySem PySem.Spec PyProof.Rows
structure RoomN (k : Nat) (A : Around) : Prop where
  dp : A.depth + 3 * k + 5 < recursionLimit
  un : A.units + 16 * k + 200 < cLine
theorem Room.toN {k : Nat} {A : Around} (r : Room k A) : RoomN k A := ⟨r.dp, r.un⟩
theorem RoomN.mono {j k : Nat} {A : Around} (r : RoomN k A) (h : j ≤ k) : RoomN j A := ⟨by have := r.dp; omega, by have := r.un; omega⟩
theorem RoomN.deeper {k : Nat} {A : Around} (r : RoomN (k + 1) A) (env : Env) : RoomN k (A.deeper env) :=
  ⟨by have := r.dp; show A.depth + 1 + 3 * k + 5 < _; omega, by have := r.un; show A.units + 3 + 16 * k + 200 < _; omega⟩
theorem RoomN.mark {k : Nat} {A : Around} (r : RoomN k A) (e : Option Value) : RoomN k (A.mark e) := ⟨r.dp, r.un⟩
theorem RoomN.depth {k : Nat} {A : Around} (r : RoomN k A) : A.depth < recursionLimit := by have := r.dp; omega
theorem RoomN.units {k : Nat} {A : Around} (r : RoomN k A) : A.units + 100 < cLine := by have := r.un; omega
theorem Room.units100 {k : Nat} {A : Around} (r : Room k A) : A.units + 100 < cLine := r.toN.units
section
variable {X : Cx} {k : Nat} {f C : Addr} {fd : FuncData} {ps : List Str} {sp : List V → Hp → VK → Prop} {dvs : List V} {ds : List Value} {x m : Str} {p pos apos : Pos} {e o : Expr} {es : List Expr} {ta : TE} {t : TA}
end
end L2
namespace PySem.W
open PySem PySem.Spec PySem.Calls PyProof.Rows PySem.Builtin.ObjectAttr PySem.Builtin.Getset_descriptor PySem.Builtin
structure ExcCls (K : Frag) (C : Addr) : Prop where
  cl : (clsIn K C).isSome = true
  ga : findIn K (.ref C) "__getattribute__" = some (some (.builtin "BaseException.__getattribute__"))
  hk : findIn K (.ref C) "__getattr__" = some none
  ha : findIn K (.ref C) "__class__" = some (some (.builtin "object.__class__"))
  hn : specialIn K (.builtin "object.__class__") "__get__" = some (some (.builtin "getset_descriptor.__get__"))
  ht : takesIn K (.builtin "object.__class__") = some true
  hm : mroIn K C (.type "object") = some true
  hb : mroIn K C (.type "BaseException") = some true
section
variable {prog : Program} {w : World} {A : Around} {E : Value → Shared → Prop} {K : Frag} {x C : Addr} {ox : Obj}
theorem class_getE {R : Result → Shared → Prop} {h : Heap} {g : Array GenState} {d : Drawn} {t : Nat} {os : OsState} {tp : Value} (X : K.In h) (L0 : Looks (model prog w) h (typeOf (.ref x)) (.ref C)) (hm : mroIn K C (.type "object") = some true)
    (hq : R (.ok (.ret (.ref C))) ⟨h, g, d, t, os⟩) : codeAny (model prog w) A (.call (.builtin "getset_descriptor.__get__") ⟨[.builtin "object.__class__", .ref x, tp], []⟩) R ⟨h, g, d, t, os⟩ := by
  have L1 := looks_mroIn (M := model prog w) X hm
  refine codeAny_call_builtin KF.slot_gs.plain KF.entry_gs (KF.slot_gs.check _ _ _ _ _ _ _ _ KF.type_class (KF.args_gs _ _ _) ?_)
  unfold Builtin.«getset_descriptor.__get__» descrGet
  rw [dga_obj]
  refine wpAny_bind (wpAny_pure ?_)
  unfold descrGetter descrCheckInstance descrNameAndClass isInstance
  simp only [KF.owner_class]
  repeat lk
  refine ⟨Code.quiet_builtin _ (by decide +kernel), codeAny_builtin KF.entry_class ?_⟩
  unfold Builtin.«object.__class__» shownTypeOf
  repeat lk
  exact hq
theorem exc_class {h : Heap} {g : Array GenState} {d : Drawn} {t : Nat} {os : OsState} {vs : Array Value} {Q : Option Value → Shared → Prop} (X : K.In h) (T : ExcCls K C) (hx : h.get? x = some ox) (hc : ox.cls = .ref C) (hd : ox.data = .fields vs)
    (hq : Q (some (.ref C)) ⟨h, g, d, t + 1, os⟩) : wpAny (model prog w) A (getAttr? (.ref x) "__class__") Q E ⟨h, g, d, t, os⟩ := by
  have L0 : Looks (model prog w) h (typeOf (.ref x)) (.ref C) := hc ▸ (Looks.ld hx).andThen .now
  have L1 := looks_findIn (M := model prog w) X T.ga
  unfold getAttr? getAttrBy? getAttrBy
  refine wpAny_bind (wpAny_mkText (wpAny_bind (wpAny_attempt (wpAny_holding (wpAny_bind (L0.at (wpAny_bind (L1.at ?_))))))))
  show wpAny _ _ (getAttrByItsOwn (.ref x) (.str "__class__" t) (.ref C) (.builtin "BaseException.__getattribute__") false false) _ _ _
  have LH := looks_findIn (M := model prog w) X T.hk
  unfold getAttrByItsOwn callGetattribute boundAndCalled hookBefore
  refine wpAny_bind (LH.at (wpAny_bind (wpAny_attempt (wpAny_holding ?_))))
  rw [if_neg (by simp)]
  refine wpAny_bind (wpAny_of_eq (F.excAttr_ValueError.ga.bind _) ?_)
  refine wpAny_call ?_
  refine codeAny_call_builtin F.excAttr_ValueError.ga.plain F.entry_bexc_ga ?_
  have hsub : Looks (model prog w) h (isSubtype (.ref C) (.type "BaseException")) true := looks_mroIn X T.hb
  have chk : ∀ {A' : Around} {Q' : Unit → Shared → Prop} {E' : Value → Shared → Prop} {t' : Nat}, Q' () ⟨h, g, d, t', os⟩ → wpAny (model prog w) A' (checkBuiltinCall "BaseException.__getattribute__" ⟨[.ref x, .str "__class__" t], []⟩) Q' E' ⟨h, g, d, t', os⟩ := fun hq' => by
    have hkd : builtinKind "BaseException.__getattribute__" = some .slot := by kernel_rfl
    have hsp : splitId "BaseException.__getattribute__" = some ("BaseException", "__getattribute__") := by kernel_rfl
    simp only [checkBuiltinCall, hkd, hsp]
    have LI : Looks (model prog w) h (isInstance (.ref x) (.type "BaseException")) true := L0.andThen hsub
    refine wpAny_bind (LI.at ?_)
    simp only [Bool.not_true, Bool.false_eq_true, if_false]
    have ha := F.args_bexc_ga (.ref x) (.str "__class__" t)
    cases hsig : Manifest.signature? "BaseException.__getattribute__" with
    | none => exact wpAny_pure hq'
    | some sig =>
      simp only [argsOk, hsig] at ha
      have h2 : Bind.checkArgs "BaseException.__getattribute__" sig ⟨[.ref x, .str "__class__" t], []⟩ = pure () := ha
      show wpAny _ _ (Bind.checkArgs "BaseException.__getattribute__" sig ⟨[.ref x, .str "__class__" t], []⟩) _ _ _
      rw [h2]; exact wpAny_pure hq'
  refine chk ?_
  have LF : Looks (model prog w) h (Builtin.ObjectAttr.find (.ref x) (.ref C) "__class__") (Found.bind (.builtin "getset_descriptor.__get__") (.builtin "object.__class__")) := by
    have L1 := looks_findIn (M := model prog w) X T.ha
    have L2 : Looks (model prog w) h (getOf (some (.builtin "object.__class__"))) (some (.builtin "getset_descriptor.__get__")) := looks_specialIn X T.hn
    have L3 := looks_takesIn (M := model prog w) X T.ht
    unfold Builtin.ObjectAttr.find
    exact L1.andThen (L2.andThen ((show Looks (model prog w) h (dataDescriptor? (some (.builtin "object.__class__")) (some (.builtin "getset_descriptor.__get__"))) (some (.builtin "getset_descriptor.__get__", .builtin "object.__class__")) from L3.andThen .now).andThen (Looks.tag .now)))
  show wpAny _ _ (Builtin.«object.__getattribute__» ⟨[.ref x, .str "__class__" t], []⟩) _ _ _
  unfold Builtin.«object.__getattribute__»
  refine wpAny_bind (wpAny_pure (wpAny_bind (wpAny_pure (wpAny_bind (L0.at (wpAny_bind (LF.at ?_)))))))
  show wpAny _ _ (bindTo (.builtin "getset_descriptor.__get__") (.builtin "object.__class__") (.ref x) (.ref C)) _ _ _
  show wpAny _ _ (holding [Value.builtin "object.__class__"] (call (.builtin "getset_descriptor.__get__") [.builtin "object.__class__", .ref x, .ref C]) >>= ret) _ _ _
  refine wpAny_bind (wpAny_holding (wpAny_call (class_getE X L0 T.hm ?_)))
  refine wpAny_pure ?_
  exact handed_on rfl (wpAny_pure hq)
noncomputable def ExcAtH (x C : Addr) (h : Heap) : Prop := ∃ o vs, h.get? x = some o ∧ o.cls = .ref C ∧ o.data = .fields vs
theorem kitx_exc (T : ExcCls K C) : KitX K (.ref x) (.ref C) (ExcAtH x C) where
  ty := fun M h _ ⟨o, vs, e, c, d⟩ => c ▸ (Looks.ld e).andThen .now
  it := fun _ _ X _ => by
    obtain ⟨cdD, hcD⟩ := Option.isSome_iff_exists.mp T.cl
    unfold clsIn at hcD
    split at hcD
    · rename_i c' d' cd' sl' ho
      intro A' Q' E' s' k q
      unfold isType loadHead
      exact wpAny_bind (wpAny_loadPart (k _ _ (X _ _ ho)) (wpAny_pure q))
    · cases hcD
  ne := fun h tp dd its n sl X htp => by
    obtain ⟨cdD, hcD⟩ := Option.isSome_iff_exists.mp T.cl
    refine Bool.eq_false_iff.mpr fun q => ?_
    have e : C = tp := Value.ref.inj (beq_iff_eq.mp q)
    subst e
    unfold clsIn at hcD
    split at hcD
    · rename_i c' d' cd' sl' ho
      have z := (X _ _ ho).symm.trans htp
      cases z
    · cases hcD
  ca := fun {prog w A E Q s} X ⟨o, vs, e, c, d⟩ k => by
    obtain ⟨hh, g, dd, t, os⟩ := s
    exact exc_class X T e c d k
end
end PySem.W
namespace L2
open PySem PySem.Spec PyProof.Rows
theorem vals_refs : ∀ {Cs : List Addr} {its : List Value}, Vals (Cs.map V.ref) its → its = Cs.map Value.ref
  | [], _, .nil => rfl
  | _ :: _, _, .cons r1 r2 => by cases r1; rw [vals_refs r2, List.map_cons]
section
variable {X : Cx}
theorem call_isiE : CallR X (.builtin "isinstance") (fun xs H Q => ∃ ea D c b, xs = [.ref ea, c] ∧ H ea = some (ExcO ea D) ∧ PySem.W.ExcCls X.K D ∧
    ((∃ n, c = .ty n ∧ PySem.W.kitOne X.K (.ref D) (.type n) = some b) ∨ (∃ C, c = .ref C ∧ PySem.W.kitOne X.K (.ref D) (.ref C) = some b) ∨
      (∃ (p : Addr) (Cs : List Addr), c = .ref p ∧ H p = some (.tup (Cs.map V.ref)) ∧ PySem.W.kitAny X.K (.ref D) (Cs.map Value.ref) = some b)) ∧ Q (.bl b) H) := by
  intro pins s σ H xs us Q I r h
  obtain ⟨ea, D, c, b, rfl, hH, T, hc, q⟩ := h
  obtain ⟨u, w', rfl, rx, rc⟩ := vals2 r
  cases rx
  have hE : PySem.W.ExcAtH ea D s.heap := (I.hok ea _ hH).1
  have fin : ∀ tk, EP X pins σ Q (.bool b) { s with toks := tk } := fun tk => ⟨.bl b, H, I.tok tk, rfl, q⟩
  rcases hc with ⟨n, rfl, e⟩ | ⟨C, rfl, e⟩ | ⟨p, Cs, rfl, hp, e⟩
  · cases rc
    exact PySem.W.kia_one (PySem.W.kitx_exc T) I.kIn hE e (fun z => nomatch z) fin
  · cases rc
    exact PySem.W.kia_one (PySem.W.kitx_exc T) I.kIn hE e (fun z => nomatch z) fin
  · cases rc
    obtain ⟨_, its, rv, o, ho, hcl, n, hd⟩ := (show ObjOk X.prog X.w H s.heap p (.tup (Cs.map V.ref)) from I.hok p _ hp)
    have ei : its = Cs.map Value.ref := vals_refs rv
    obtain ⟨cls, dd, data, sl⟩ := o
    have hcl' : cls = .type "tuple" := hcl
    have hd' : data = .seq its.toArray n := hd
    subst hcl' hd'
    exact PySem.W.kia_tup (PySem.W.kitx_exc T) I.kIn hE ho (by rw [ei]; exact e) (fun z => nomatch z) fin
end
end L2
set_option Elab.async false
set_option linter.all false
set_option maxRecDepth 100000
set_option maxHeartbeats 4000000
namespace L2
open PySem PySem.Spec PyProof.Rows
theorem comp_by {J : It} {g : TG} {tc : TT} {te : TE} {σ0 : St} {H : Hp} {Q : VK} (n : Nat) (Pv : Nat → List V → Hp → Prop) (hz : n < sizeLine) (hgo : ∀ i ys H, i < n → Pv i ys H → J.go i H) (hstop : ∀ ys H, Pv n ys H → J.stop n H) (h0 : Pv 0 [] H)
    (hs : ∀ i ys H x H' (N : List V → Hp → Prop), i < n → Pv i ys H → J.yld i H x H' → (∀ ys' H2, Pv (i + 1) ys' H2 → N ys' H2) →
      g x σ0 H' fun σ2 H2 => tc σ2 H2 fun b H3 => if b = true then te σ2 H3 fun y H4 => N (ys ++ [y]) H4 else N ys H3)
    (hd : ∀ ys H, Pv n ys H → ys.length ≤ n → ∀ p, H p = none → Q (.ref p) (upd H p (.lst ys))) :
    CompR J g tc te σ0 Q H := by
  refine ⟨fun i m ys H => m = n - i ∧ i ≤ n ∧ ys.length ≤ i ∧ Pv i ys H, ⟨n, by simp, Nat.zero_le _, Nat.le_refl _, h0⟩, ?_⟩
  rintro i m ys H ⟨rfl, hi, hl, p⟩
  by_cases hlt : i < n
  · refine .inr ⟨hgo i ys H hlt p, by (clear hlt; omega), fun x H' y => ?_⟩
    have key := hs i ys H x H' (fun ys' H2 => (ys'.length ≤ ys.length + 1 → ∃ m', m' < n - i ∧ m' = n - (i + 1) ∧ i + 1 ≤ n ∧ ys'.length ≤ i + 1 ∧ Pv (i + 1) ys' H2)) hlt p y (fun ys' H2 q hle => ⟨n - (i + 1), by (clear hle hl hi hz; omega), rfl, hlt, by (clear hlt hi hz; omega), q⟩)
    have e : (fun σ2 H2 => tc σ2 H2 fun b H3 => if b = true then te σ2 H3 fun y H4 => ((ys ++ [y]).length ≤ ys.length + 1 → ∃ m', m' < n - i ∧ m' = n - (i + 1) ∧ i + 1 ≤ n ∧ (ys ++ [y]).length ≤ i + 1 ∧ Pv (i + 1) (ys ++ [y]) H4)
        else (ys.length ≤ ys.length + 1 → ∃ m', m' < n - i ∧ m' = n - (i + 1) ∧ i + 1 ≤ n ∧ ys.length ≤ i + 1 ∧ Pv (i + 1) ys H3)) =
      (fun σ2 H2 => tc σ2 H2 fun b H3 => if b = true then te σ2 H3 fun y H4 => ∃ m', m' < n - i ∧ m' = n - (i + 1) ∧ i + 1 ≤ n ∧ (ys ++ [y]).length ≤ i + 1 ∧ Pv (i + 1) (ys ++ [y]) H4
        else ∃ m', m' < n - i ∧ m' = n - (i + 1) ∧ i + 1 ≤ n ∧ ys.length ≤ i + 1 ∧ Pv (i + 1) ys H3) := by
      funext σ2 H2
      congr 1
      funext b H3
      have e1 : ∀ (y : V) (H4 : Hp), ((ys ++ [y]).length ≤ ys.length + 1 → ∃ m', m' < n - i ∧ m' = n - (i + 1) ∧ i + 1 ≤ n ∧ (ys ++ [y]).length ≤ i + 1 ∧ Pv (i + 1) (ys ++ [y]) H4) = (∃ m', m' < n - i ∧ m' = n - (i + 1) ∧ i + 1 ≤ n ∧ (ys ++ [y]).length ≤ i + 1 ∧ Pv (i + 1) (ys ++ [y]) H4) := fun y H4 =>
        propext ⟨fun q => q (by simp), fun q _ => q⟩
      have e2 : (ys.length ≤ ys.length + 1 → ∃ m', m' < n - i ∧ m' = n - (i + 1) ∧ i + 1 ≤ n ∧ ys.length ≤ i + 1 ∧ Pv (i + 1) ys H3) = (∃ m', m' < n - i ∧ m' = n - (i + 1) ∧ i + 1 ≤ n ∧ ys.length ≤ i + 1 ∧ Pv (i + 1) ys H3) := propext ⟨fun q => q (by (clear hlt hl hi hz; omega)), fun q _ => q⟩
      simp only [e1, e2]
    rw [e] at key
    exact key
  · have e : i = n := by (clear hl hz; omega)
    subst e
    exact .inl ⟨hstop ys H p, by (clear hlt hi; omega), hd ys H p hl⟩
theorem comp_itl {K : PySem.W.Frag} {a : Addr} {xs : List V} {g : TG} {tc : TT} {te : TE} {σ0 : St} {H : Hp} {Q : VK} (Pv : Nat → List V → Hp → Prop) (hz : xs.length < sizeLine) (hl : ∀ i ys H, Pv i ys H → SqL K H a xs) (h0 : Pv 0 [] H)
    (hs : ∀ i x ys H (N : List V → Hp → Prop), xs[i]? = some x → Pv i ys H → (∀ ys' H2, Pv (i + 1) ys' H2 → N ys' H2) →
      g x σ0 H fun σ2 H2 => tc σ2 H2 fun b H3 => if b = true then te σ2 H3 fun y H4 => N (ys ++ [y]) H4 else N ys H3)
    (hd : ∀ ys H, Pv xs.length ys H → ys.length ≤ xs.length → ∀ p, H p = none → Q (.ref p) (upd H p (.lst ys))) : CompR (Itl K a) g tc te σ0 Q H := comp_by xs.length Pv hz
  (fun i ys H hi p => ⟨xs, xs[i], hl i ys H p, by simp [hi]⟩) (fun ys H p => ⟨xs, hl _ ys H p, Nat.le_refl _⟩) h0
  (fun i ys H v H' N hi p y hN => by
    obtain ⟨e, y⟩ := y
    subst e
    exact hs i v ys _ N (y xs (hl i ys _ p)) p hN) hd
@[elab_as_elim] theorem us1 {α : Type} {p : List α → Prop} (h : ∀ a, p [a]) (us : List α) (hl : us.length = 1) : p us := by
  obtain ⟨a, rfl⟩ := List.length_eq_one_iff.mp hl
  exact h a
@[elab_as_elim] theorem us2 {α : Type} {p : List α → Prop} (h : ∀ a b, p [a, b]) (us : List α) (hl : us.length = 2) : p us := by
  cases us with
  | nil => cases hl
  | cons a r => exact @us1 _ (fun r => p (a :: r)) (fun b => h a b) r (Nat.succ.inj hl)
@[elab_as_elim] theorem us3 {α : Type} {p : List α → Prop} (h : ∀ a b c, p [a, b, c]) (us : List α) (hl : us.length = 3) : p us := by
  cases us with
  | nil => cases hl
  | cons a r => exact @us2 _ (fun r => p (a :: r)) (fun b c => h a b c) r (Nat.succ.inj hl)
@[elab_as_elim] theorem us4 {α : Type} {p : List α → Prop} (h : ∀ a b c d, p [a, b, c, d]) (us : List α) (hl : us.length = 4) : p us := by
  cases us with
  | nil => cases hl
  | cons a r => exact @us3 _ (fun r => p (a :: r)) (fun b c d => h a b c d) r (Nat.succ.inj hl)
end L2
set_option Elab.async false
set_option linter.all false
set_option maxRecDepth 100000
set_option maxHeartbeats 4000000
namespace L2
open PySem PySem.Spec PyProof.Rows
section
variable {X : Cx}
theorem ps_setC {i : Nat} {x : Str} {pos' spos : Pos} {elt target iter : Expr} {ifs : List Expr} {scope sc0 : Scope} {pos : Pos} {N N0 : List Str} {own : Nat} {caps : List Nat} {wi : TI} {g : TG} {tc : TT} {te t' : TE}
    (hNd : X.N.Nodup) (hxi : X.N[i]? = some x) (hx : Loc X.env.scope x)
    (hcalm : X.calm = true) (hi : PI X target iter wi)
    (hg : ∀ s₀ H₀ ex, PG (cxB X scope N s₀ H₀ ex) target g) (hc : ∀ s₀ H₀ ex, PIfs (cxB X scope N s₀ H₀ ex) ifs tc) (he : ∀ s₀ H₀ ex, PE (cxB X scope N s₀ H₀ ex) elt te) (hk : GKeep own g)
    (hX : X.N = N0) (hsc : X.env.scope = sc0)
    (hcell : ∀ y ∈ scope.names, y.2 ≠ .cell) (hkind : scope.kind = .function) (hnames : ∀ y ∈ scope.names, y.2 = .local → scope.names.lookup y.1 = some .local)
    (hfree : ∀ y ∈ scope.names, y.2 = .free → sc0.names.lookup y.1 = some .cell) (hN : N.length = own + caps.length)
    (hcap : ∀ p ∈ caps.zip (N.drop own), N0[p.1]? = some p.2 ∧ scope.names.lookup p.2 = some .free)
    (himp : ∀ σ H Q, t' σ H Q → tComp own caps wi g tc te σ H Q)
    (hs : ∀ x, foldedSetIterable iter X.env x = pure x := by intro _; rfl)
    (hsw : swapsWith (.ListComp elt [⟨target, iter, ifs, 0⟩] scope pos) (some (.Name x pos')) spos.line X.env = pure true := by rfl)
    (hf : X.fn x = true ∨ X.env.scope.names.lookup x = some .local := by first | exact .inl rfl | exact .inr rfl | assumption) :
    PS X (.Assign [.Name x pos'] (.ListComp elt [⟨target, iter, ifs, 0⟩] scope pos) spos) (tAsg t' (gName i)) := by
  intro pins s σ H D I h
  rw [exec_Assign_Name_used _ _ _ _ hsw]
  refine wpAny_bind (wpAny_standAt (wpAny_bind ?_))
  show wpAny _ X.A (do let _ ← comprehension (.ListComp elt [⟨target, iter, ifs, 0⟩] scope pos) scope X.env _ (newList []) false (eval iter X.env) (some (assign (.Name x pos') X.env))) _ _ s
  refine wpAny_bind (wpAny_mono (comp_core (use := some (assign (.Name x pos') X.env)) (Qf := fun _ s' => SP X pins D .next s') hcalm hi hg hc he hk hX hsc hcell hkind hnames hfree hN hcap hs I (himp _ _ _ h) ?_) (fun _ s' hq => wpAny_pure (wpAny_pure hq)) fun _ _ e => e)
  intro D' C s' He ys m f hn hI hfp q
  show wpAny _ X.A (assign (.Name x pos') X.env (.ref D')) _ _ s'
  have I1 : Inv X pins σ (upd He D' (.lst ys)) s' := hI s'.heap ⟨rfl, fun _ _ => rfl⟩
  refine wpAny_assign_Name (store_ok2 (v := .ref D') I1 hNd hxi hx rfl (fun s'' I2 ⟨a, hs2, ha⟩ => ?_) hf)
  have hCa : C ≠ a := by
    rcases ha with rfl | ha
    · exact hfp.2.1
    · exact fun z => hfp.2.2.2.2.1 _ _ ha z.symm
  refine ⟨m, hn.sameBut hs2 hCa, fun h' hsb => ⟨_, _, I2.turnedL (fp := [C]) (t' := s''.toks) (fun b o hb e => (hsb.2 b (fun z => hb (by rw [z]; exact List.mem_singleton.mpr rfl))).trans e) (fun b hb => ?_), q⟩⟩
  rw [List.mem_singleton.mp hb]
  exact hfp
end
end L2
set_option Elab.async false
set_option linter.all false
set_option maxRecDepth 100000
set_option maxHeartbeats 4000000
namespace L2
open PySem PySem.Spec PyProof.Rows
section
variable {X : Cx}
end
end L2
set_option Elab.async false
set_option linter.all false
set_option maxRecDepth 100000
set_option maxHeartbeats 4000000
namespace L2
open PySem PySem.Spec PyProof.Rows
section
variable {X : Cx}
end
end L2
set_option Elab.async false
set_option linter.all false
set_option maxRecDepth 100000
set_option maxHeartbeats 4000000
namespace L2
open PySem PySem.Spec PyProof.Rows
noncomputable def Iel (a : Addr) : It := ⟨fun i H => ∃ xs x, H a = some (.lst xs) ∧ xs[i]? = some x, fun i H v H' => ∃ T x, H T = none ∧ (∀ xs, H a = some (.lst xs) → xs[i]? = some x) ∧ v = .ref T ∧ H' = upd H T (.tup [.int i, x]), fun i H => ∃ xs, H a = some (.lst xs) ∧ i = xs.length⟩
theorem turn_enumL {P : Program} {w : World} {K : PySem.W.Frag} {elts : List Expr} {k : Nat} {pos : Pos} (a e it : Addr) (hei : e ≠ it) :
    Turn P w K (.Tuple elts k pos) (Iel a) [e, it] e (fun i h => (∃ old, IsEnum h e it i old) ∧ h.IsListIter it a i) where
  mem := by simp
  obj := fun i h st b hb => by
    obtain ⟨⟨old, he⟩, o, ho, c, d⟩ := st
    rcases List.mem_cons.mp hb with rfl | hb
    · exact ⟨_, he, fun v z => nomatch z⟩
    · have e : b = it := by simpa using hb
      subst e
      exact ⟨o, ho, fun v z => by rw [d] at z; cases z⟩
  keep := fun i h h' st kk => by
    obtain ⟨⟨old, he⟩, o, ho, r⟩ := st
    exact ⟨⟨old, kk e (by simp) _ he⟩, o, kk it (by simp) o ho, r⟩
  item := by
    intro X hP hw hK hc i pins s σ H E I hf st hg
    subst hP hw hK
    obtain ⟨xs, x, hH, hx⟩ := hg
    obtain ⟨its, rv, p, hz⟩ := I.list (SqL.of hH)
    obtain ⟨u, hu, ru⟩ := rv.get hx
    have hae : a ≠ e := fun z => by rw [z, (hf e (by simp)).1] at hH; cases hH
    have hai : a ≠ it := fun z => by rw [z, (hf it (by simp)).1] at hH; cases hH
    have hil : i < its.toArray.size := by
      have := (List.getElem?_eq_some_iff.mp hu).1
      simpa using this
    have W := WalksT.enumerateD (Draws.list (prog := X.prog) (w := X.w) (A := X.A.in1) (I.ok.hd hc) it a hai its.toArray) e hei (by simp [hei, Ne.symm hae]) (by simp)
    refine W.item i s _ _ hil ⟨st.1, st.2, p.isList⟩ fun T vals h' tk hv hT ht mid kk => ⟨_, rfl, ?_⟩
    obtain ⟨t', y, hy, rfl⟩ := hv
    have hyu : y = u := by
      have h1 : its[i]? = some y := by simpa using hy
      rw [hu] at h1
      exact (Option.some.inj h1).symm
    subst hyu
    refine W.go elts k pos i T _ _ _ mid fun h'' st'' kk2 => ?_
    have keep : ∀ b o, b ∉ [e, it] → s.heap.get? b = some o → h''.get? b = some o := fun b o hb q => kk2 b o hb (kk b o hb q)
    have I1 : Inv X pins σ H { s with heap := h'', toks := tk } := I.turnedL keep hf
    have hn : H T = none := I.hok.fresh hT
    have hTn : T ∉ [e, it] := W.apart i T h' mid
    obtain ⟨ot, hot, hct, n, hdt⟩ := ht
    have I2 : Inv X pins σ (upd H T (.tup [.int i, x])) { s with heap := h'', toks := tk } := by
      refine I1.track (.inl (Heap.get?_none_of_le (Nat.le_trans I.sz hT))) hn (Nat.ne_of_gt (Nat.lt_of_lt_of_le I.lt hT)) (fun y c' q z => ?_) (fun p hp z => ?_) ?_
      · obtain ⟨v, q'⟩ := I.cell y c' q
        exact absurd (Nat.lt_of_lt_of_le q'.lt (by rw [z]; exact hT)) (Nat.lt_irrefl _)
      · exact absurd (Nat.lt_of_lt_of_le (Heap.lt_size (I.pin p hp).1) (by rw [z]; exact hT)) (Nat.lt_irrefl _)
      · exact ⟨by show 2 ≤ sizeLine; decide, [.int i t', y], .cons ⟨_, rfl⟩ (.cons ru .nil), ot, kk2 T ot hTn hot, hct, n, hdt⟩
    refine ⟨.ref T, _, I2, rfl, ⟨T, x, hn, (fun ys hy' => ?_), rfl, rfl⟩, ⟨st''.1, st''.2.1⟩, fun b hb => ?_⟩
    · rw [hH] at hy'
      cases hy'
      exact hx
    · have hbT : b ≠ T := fun z => hTn (z ▸ hb)
      rw [upd_ne hbT]
      exact (hf b hb).1
  done := by
    intro X hP hw hK hc i pins s σ H E I hf st hg
    subst hP hw hK
    obtain ⟨xs, hH, hx⟩ := hg
    obtain ⟨its, rv, p, hz⟩ := I.list (SqL.of hH)
    have hl := rv.length
    have hae : a ≠ e := fun z => by rw [z, (hf e (by simp)).1] at hH; cases hH
    have hai : a ≠ it := fun z => by rw [z, (hf it (by simp)).1] at hH; cases hH
    have W := WalksT.enumerateD (Draws.list (prog := X.prog) (w := X.w) (A := X.A.in1) (I.ok.hd hc) it a hai its.toArray) e hei (by simp [hei, Ne.symm hae]) (by simp)
    have hi : i = its.toArray.size := by rw [hx, hl]; simp
    subst hi
    exact W.done s _ _ ⟨st.1, st.2, p.isList⟩ fun h' tk kk => ⟨rfl, I.turnedL kk hf⟩
  self := fun A i s Q E st h => by
    obtain ⟨⟨old, he⟩, _⟩ := st
    exact wpAny_pyIter_enum he h
noncomputable def iEnumL (ta : TA) : TI := fun σ H R => ta σ H fun vs H1 => ∃ (a : Addr) (xs : List V), vs = [.ref a] ∧ H1 a = some (.lst xs) ∧ R (Iel a) H1
section
variable {X : Cx}
theorem pi_enumL {elts : List Expr} {k : Nat} {tpos p pos : Pos} {a : Expr} {ta : TA} (hg : Gl X "enumerate") (hm : X.mg "enumerate" = none) (ha : PA X [a] ta) (hs : starEach [a] X.env = [(false, eval a X.env)] := by rfl) :
    PI X (.Tuple elts k tpos) (.Call (.Name "enumerate" p) [a] [] pos) (iEnumL ta) := by
  intro pins s σ H R I h
  refine Call_ (ld_blt I hg hm boot_enumerate (PyProof.Rows.callWith_type1 (thn (ha pos pins s σ H _ I h) fun us s1 ⟨vs, H1, I1, r1, q1⟩ => ?_) hs rfl))
  obtain ⟨l, xs, e, hH, q⟩ := q1
  subst e
  obtain ⟨u, rfl, ru⟩ := vals1 r1
  cases ru
  obtain ⟨its, rv, pl, hz⟩ := I1.list (SqL.of hH)
  refine call_enumerate_list pl.isList fun h' he hit hsz hk => ?_
  refine wpAny_pyIter_enum he ?_
  refine ⟨s1.heap.objs.size + 1, [s1.heap.objs.size + 1, s1.heap.objs.size], _, _, H1, rfl, I1.kept (t' := s1.toks) hk, turn_enumL l _ _ (Nat.succ_ne_self _), ⟨⟨_, he⟩, hit⟩, fun b hb => ?_, q⟩
  rcases List.mem_cons.mp hb with rfl | hb
  · exact I1.fpOk (Nat.le_succ _) (I1.hok.fresh (Nat.le_succ _))
  · have e : b = s1.heap.objs.size := by simpa using hb
    subst e
    exact I1.fpOk (Nat.le_refl _) (I1.hok.fresh (Nat.le_refl _))
end
theorem for_iel {a : Addr} {xs : List V} {g : TG} {tb : TS} {D : Ends} {σ : St} {H : Hp} (Pv : Nat → St → Hp → Prop) (h0 : Pv 0 σ H) (hl : ∀ i σ H, i ≤ xs.length → Pv i σ H → H a = some (.lst xs))
    (hs : ∀ i x σ H T, xs[i]? = some x → Pv i σ H → H T = none → g (.ref T) σ (upd H T (.tup [.int i, x])) fun σ2 H2 => tb { D with nx := Pv (i + 1), ct := Pv (i + 1), bk := D.nx } σ2 H2) (hd : ∀ σ H, Pv xs.length σ H → D.nx σ H) :
    ∃ W : Nat → Nat → St → Hp → Prop, (∃ m, W 0 m σ H) ∧ ∀ i m σ H, W i m σ H →
      ((Iel a).stop i H ∧ D.nx σ H) ∨ ((Iel a).go i H ∧ ∃ N : St → Hp → Prop, (∀ σ' H', N σ' H' → ∃ m', m' < m ∧ W (i + 1) m' σ' H') ∧ ∀ x H', (Iel a).yld i H x H' → g x σ H' fun σ2 H2 => tb { D with nx := N, ct := N, bk := D.nx } σ2 H2) := by
  refine ⟨fun i m σ H => m = xs.length - i ∧ i ≤ xs.length ∧ Pv i σ H, ⟨xs.length, by simp, Nat.zero_le _, h0⟩, ?_⟩
  rintro i m σ H ⟨rfl, hi, p⟩
  have q := hl i σ H hi p
  by_cases hlt : i < xs.length
  · refine .inr ⟨⟨xs, xs[i], q, by simp [hlt]⟩, Pv (i + 1), fun σ' H' p' => ⟨xs.length - (i + 1), by omega, rfl, hlt, p'⟩, fun x H' y => ?_⟩
    obtain ⟨T, z, hT, hz, rfl, rfl⟩ := y
    exact hs i z σ H T (hz xs q) p hT
  · have e : i = xs.length := by omega
    subst e
    exact .inl ⟨⟨xs, q, rfl⟩, hd σ H p⟩
end L2
set_option Elab.async false
set_option linter.all false
set_option maxRecDepth 100000
set_option maxHeartbeats 4000000
namespace L2
open PySem PySem.Spec PyProof.Rows
section
variable {X : Cx} {CX : CXT} {k : Nat} {f C : Addr} {fd : FuncData} {ps : List Str} {ds : List Value} {dvs : List V} {sp : Sp} {m : Str} {pos apos : Pos} {e o : Expr} {es : List Expr} {ta : TE} {t : TA} {E : St → XK}
end
end L2
set_option Elab.async false
set_option linter.all false
set_option maxRecDepth 100000
set_option maxHeartbeats 4000000
namespace Gn
open PySem L2 PyProof.Rows PySem.Spec
section
variable {P : Program} {w : World} {K : PySem.W.Frag} {mg : Str → Option Value} {base h : Heap}
noncomputable def isIntV : V → Bool
  | .int _ => true
  | .bl _ => true
  | _ => false
noncomputable def isBlV : V → Bool
  | .bl _ => true
  | _ => false
noncomputable def Known (K : PySem.W.Frag) (H : Hp) (x : V) : Prop := ∃ n, TyOf K H x (.type n)
theorem kit_int {K : PySem.W.Frag} {H : Hp} {x : V} {n : String} (h : TyOf K H x (.type n)) : PySem.W.kitOne K (.type n) (.type "int") = some (isIntV x) := by
  cases h <;> kernel_rfl
theorem kit_bool {K : PySem.W.Frag} {H : Hp} {x : V} {n : String} (h : TyOf K H x (.type n)) : PySem.W.kitOne K (.type n) (.type "bool") = some (isBlV x) := by
  cases h <;> kernel_rfl
theorem Known.same {K : PySem.W.Frag} {H H' : Hp} {x : V} (h : Known K H x) (e : Same H H') : Known K H' x := by
  obtain ⟨n, h⟩ := h
  cases h with
  | non => exact ⟨_, .non⟩
  | bl b => exact ⟨_, .bl b⟩
  | int i => exact ⟨_, .int i⟩
  | str z => exact ⟨_, .str z⟩
  | flt z => exact ⟨_, .flt z⟩
  | lst q => exact ⟨_, .lst (e _ _ q)⟩
  | frz q => exact ⟨_, .frz (e _ _ q)⟩
  | tup q => exact ⟨_, .tup (e _ _ q)⟩
  | dK q => exact ⟨_, .dK (e _ _ q)⟩
  | dT q => exact ⟨_, .dT (e _ _ q)⟩
theorem same_upd {H : Hp} {a : Addr} {o : HO} (h : H a = none) : Same H (upd H a o) := fun b u e => by rw [upd_ne (ne_of_none e h)]; exact e
theorem Same.upd {H H' : Hp} {a : Addr} {o : HO} (s : Same H H') (h : H' a = none) : Same H (upd H' a o) := s.trans (same_upd h)
structure Df (K : PySem.W.Frag) (mg : Str → Option Value) (x : Str) (st : Stmt) (f : Addr) (fd : FuncData) : Prop where
  F : Fun K x x st f fd
  m : mg x = some (.ref f)
theorem b_isi : bootBuiltins "isinstance" = some (.builtin "isinstance") := by decide +kernel
theorem b_int : bootBuiltins "int" = some (.type "int") := by decide +kernel
theorem b_bool : bootBuiltins "bool" = some (.type "bool") := by decide +kernel
theorem b_list : bootBuiltins "list" = some (.type "list") := by decide +kernel
theorem b_tuple : bootBuiltins "tuple" = some (.type "tuple") := by decide +kernel
theorem b_len : bootBuiltins "len" = some (.builtin "len") := by decide +kernel
theorem b_all : bootBuiltins "all" = some (.builtin "all") := by decide +kernel
theorem b_val : bootBuiltins "ValueError" = some (.type "ValueError") := by decide +kernel
theorem binds1 {x p : Str} {st : Stmt} {f : Addr} {fd : FuncData} (F : Fun K x x st f fd)
    (h : ∀ (kV doc pm : Value) (an : Option Addr) (cdv ct : Value) (u : Value), bindArgs (PySem.W.fnOf x x (defArgs st) (defBody st) (defScope st) .none kV doc pm an cdv ct) ⟨[u], []⟩ = pure ([p].zip [u])) : Binds K fd [p] [] :=
  F.binds fun kV doc pm an cdv ct us hl => match us, hl with | [u], _ => h kV doc pm an cdv ct u
theorem g1 {i : Nat} {v : V} {σ : L2.St} {H : Hp} {te : TE} {M : V → Hp → Prop} {N0 : Hp → Prop} (h : te (σ.set i (some v)) H M) : gName i v σ H fun σ2 H2 => tNoIf σ2 H2 fun b H3 => if b = true then te σ2 H3 M else N0 H3 := by
  show if true = true then te (σ.set i (some v)) H M else N0 H
  exact iteT h
structure Ex (K : PySem.W.Frag) (mg : Str → Option Value) (x : Str) (C : Addr) : Prop where
  m : mg x = some (.ref C)
  q : PySem.W.excIn K C [.type "ValueError", .type "Exception", .type "BaseException", .type "object"] "ValueError.__new__" = true
structure DfD (K : PySem.W.Frag) (mg : Str → Option Value) (x : Str) (st : Stmt) (f : Addr) (fd : FuncData) (items : Array Value) : Prop where
  ex : ∃ (oc : Value) (od : Option Addr) (kV doc pm : Value) (an : Option Addr) (cdv ct : Value) (osl : Array (Option Value)) (T : Addr) (o : Obj) (n : Nat),
    fd = PySem.W.fnOf x x (defArgs st) (defBody st) (defScope st) (.ref T) kV doc pm an cdv ct ∧ K.lookup f = some ⟨oc, od, .func fd, osl⟩ ∧ PySem.W.codeIn K cdv x = true ∧ K.lookup T = some o ∧ o.data = .seq items n
  kp : PySem.W.keepIn K (.ref f) = true
  m : mg x = some (.ref f)
theorem DfD.ok1 {x : Str} {st : Stmt} {f : Addr} {fd : FuncData} {items : Array Value} {N ps : List Str} {k : Nat} {sp : Sp} (F : DfD K mg x st f fd items) (S : FnScope N ps (defScope st)) (len : ∀ vs H Q E, sp vs H Q E → vs.length = ps.length)
    (hbody : ∀ (cdv : Value) (A : Around) (outer : List Env) (s : Shared) (H : Hp) (vs : List V) (Q : VK) (E : XK), Room k (A.deeper (envOfC x (defScope st) s.heap.objs.size f cdv)) → sp vs H Q E →
      ∃ t, PSs (cxOf (CX1 P w) P w K mg base N x (defScope st) f cdv A outer s H E) (defBody st) t ∧ t { nx := fun _ H' => Q .non H', rt := Q } (L2.start N vs) H) : FnOk P w K mg base (CX1 P w) (k + 1) f fd ps sp := by
  obtain ⟨oc, od, kV, doc, pm, an, cdv, ct, osl, T, o, n, rfl, lk, hcd, _⟩ := F.ex
  exact fn_of lk hcd S len fun A outer s H vs Q E hr hsp => hbody cdv A outer s H vs Q E hr hsp
theorem DfD.binds {x : Str} {st : Stmt} {f : Addr} {fd : FuncData} {items : Array Value} {ps : List Str} {ds : List Value} (F : DfD K mg x st f fd items)
    (h : ∀ (T : Addr) (kV doc pm : Value) (an : Option Addr) (cdv ct : Value) (us : List Value), (us ++ ds).length = ps.length → ∃ k : Option (Array Value) → Sem (List (Str × Value)),
      bindArgs (PySem.W.fnOf x x (defArgs st) (defBody st) (defScope st) (.ref T) kV doc pm an cdv ct) ⟨us, []⟩ = seqItems? (.ref T) >>= k ∧ k (some items) = pure (ps.zip (us ++ ds))) : Binds K fd ps ds := by
  obtain ⟨oc, od, kV, doc, pm, an, cdv, ct, osl, T, o, n, rfl, lk, hcd, lT, hd⟩ := F.ex
  intro s us X hl
  obtain ⟨k, h1, h2⟩ := h T kV doc pm an cdv ct us hl
  exact BindsTo.of_defaults (T := T) rfl (X _ _ lT) hd h1 h2
theorem Paired.imp2 {α β : Type} {F G : α → β → Prop} : ∀ {l : List α} {m : List β}, Paired F l m → (∀ a b, F a b → G a b) → Paired G l m
  | _, _, .nil, _ => .nil
  | _, _, .cons r t, f => .cons (f _ _ r) (Paired.imp2 t f)
theorem Paired.app {α β : Type} {F : α → β → Prop} {a : α} {b : β} : ∀ {l : List α} {m : List β}, Paired F l m → F a b → Paired F (l ++ [a]) (m ++ [b])
  | _, _, .nil, h => .cons h .nil
  | _, _, .cons r t, h => .cons r (Paired.app t h)
theorem Paired.len {α β : Type} {F : α → β → Prop} : ∀ {l : List α} {m : List β}, Paired F l m → l.length = m.length
  | _, _, .nil => rfl
  | _, _, .cons _ t => by simp [Paired.len t]
theorem PS.nox {X : Cx} {st : Stmt} {t : TS} (h : PS X.nox st t) : PS X st t := fun pins s σ H D I hw =>
  wpAny_mono (h pins s σ H D (I.wish _) hw) (fun _ _ q => q.unwish) fun _ _ z => False.elim z
theorem nif {te : TE} {σ2 : L2.St} {H2 : Hp} {M : VK} {N0 : Hp → Prop} (h : te σ2 H2 M) : tNoIf σ2 H2 (fun b H3 => if b = true then te σ2 H3 M else N0 H3) := by
  show if true = true then te σ2 H2 M else N0 H2
  exact iteT h
theorem paired_get {α β : Type} {F : α → β → Prop} : ∀ {l : List α} {m : List β}, Paired F l m → ∀ {i : Nat} {a : α}, l[i]? = some a → ∃ b, m[i]? = some b ∧ F a b
  | _, _, .nil, i, a, h => by simp at h
  | _, _, .cons r t, 0, a, h => by simp at h; subst h; exact ⟨_, rfl, r⟩
  | _, _, .cons r t, i + 1, a, h => by
    obtain ⟨b, h1, h2⟩ := paired_get t (i := i) (a := a) (by simpa using h)
    exact ⟨b, by simpa using h1, h2⟩
theorem mod_ix {r n : Int} (hn : 0 < n) : ∃ j : Nat, (j : Int) = r % n ∧ (j : Int) < n := by
  have h1 := Int.emod_nonneg r (show n ≠ 0 by omega)
  have h2 := Int.emod_lt_of_pos r hn
  exact ⟨(r % n).toNat, by omega, by omega⟩
noncomputable def tIfJ (c : TT) (t u : TS) : TS := fun D σ H => ∃ J : L2.St → Hp → Prop, (c σ H fun b H1 => if b = true then t { D with nx := J } σ H1 else u { D with nx := J } σ H1) ∧ ∀ σ' H', J σ' H' → D.nx σ' H'
theorem ps_ifJ {X : Cx} {c : Expr} {a b : List Stmt} {tc : TT} {t u : TS} {pos : Pos} (hc : PT X c tc) (ha : PSs X a t) (hb : PSs X b u) : PS X (.If c a b pos) (tIfJ tc t u) := by
  intro pins s σ H D I h
  obtain ⟨J, h1, h2⟩ := h
  refine thn (ps_if hc ha hb pins s σ H { D with nx := J } I h1) fun f s1 q => ?_
  cases f with
  | next => obtain ⟨σ', H', I', q⟩ := q; exact ⟨σ', H', I', h2 _ _ q⟩
  | brk => exact q
  | cont => exact q
  | ret u => exact q
theorem pickV {xs : List V} {n L : Int} (h0 : 0 < xs.length) (hL : L = (xs.length : Nat)) : ∃ v ∈ xs, atI xs (n % L) = some v := by
  obtain ⟨j, hj, hjl⟩ := mod_ix (r := n) (n := L) (by omega)
  have hj' : j < xs.length := by omega
  refine ⟨xs[j], List.getElem_mem hj', ?_⟩
  rw [← hj]
  exact atI_nat (List.getElem?_eq_getElem hj')
theorem ixPick {K : PySem.W.Frag} {H : Hp} {p : Addr} {xs : List V} {n L : Int} {Q : VK} (hp : H p = some (.lst xs)) (h0 : 0 < xs.length) (hL : L = (xs.length : Nat)) (h : ∀ v ∈ xs, Q v H) : rIxL K (.ref p) (.int (n % L)) H Q := by
  obtain ⟨v, hv, e⟩ := pickV (n := n) h0 hL
  exact ⟨p, xs, _, v, rfl, rfl, SqL.of hp, e, h v hv⟩
theorem dec_i {a b : Int} (h : a = b) : decide (V.int a = V.int b) = true := by subst h; exact decide_eq_true rfl
theorem dec_n {a b : Int} (h : a ≠ b) : decide (V.int a = V.int b) = false := decide_eq_false fun z => h (by injection z)
theorem PE.imp {X : Cx} {e : Expr} {t t' : TE} (h : PE X e t) (i : ∀ σ H Q, t' σ H Q → t σ H Q) : PE X e t' := fun pins s σ H Q I q => h pins s σ H Q I (i σ H Q q)
theorem ixPickP {K : PySem.W.Frag} {H : Hp} {p : Addr} {xs : List V} {n L : Int} {Q : VK} (R : V → Hp → Prop) (hp : H p = some (.lst xs)) (h0 : 0 < xs.length) (hL : L = (xs.length : Nat)) (hR : ∀ v ∈ xs, R v H) (h : ∀ v, R v H → Q v H) : rIxL K (.ref p) (.int (n % L)) H Q :=
  ixPick hp h0 hL fun v hv => h v (hR v hv)
theorem eqv_same {d : PyData} (h : d.canLay0 = true) : PyData.eqv d d = true := SeqAt.eqv_refl d h
noncomputable def rIsi (K : PySem.W.Frag) : List V → Hp → VK → Prop := fun xs H Q => ∃ x c t b, xs = [x, c] ∧ TyOf K H x t ∧
    ((∃ n, c = .ty n ∧ PySem.W.kitOne K t (.type n) = some b) ∨ (∃ C, c = .ref C ∧ PySem.W.kitOne K t (.ref C) = some b)) ∧ Q (.bl b) H
theorem call_isiK {X : Cx} {K : PySem.W.Frag} (h : X.K = K) : CallR X (.builtin "isinstance") (rIsi K) := by subst h; exact call_isi
theorem ix_listK {X : Cx} {K : PySem.W.Frag} (h : X.K = K) : IxR X (rIxL K) := by subst h; exact ix_list
theorem comp_itt {K : PySem.W.Frag} {a : Addr} {xs : List V} {g : TG} {tc : TT} {te : TE} {σ0 : L2.St} {H : Hp} {Q : VK} (Pv : Nat → List V → Hp → Prop) (hz : xs.length < sizeLine) (hl : ∀ i ys H, Pv i ys H → SqT K H a xs) (h0 : Pv 0 [] H)
    (hs : ∀ i x ys H (N : List V → Hp → Prop), xs[i]? = some x → Pv i ys H → (∀ ys' H2, Pv (i + 1) ys' H2 → N ys' H2) →
      g x σ0 H fun σ2 H2 => tc σ2 H2 fun b H3 => if b = true then te σ2 H3 fun y H4 => N (ys ++ [y]) H4 else N ys H3)
    (hd : ∀ ys H, Pv xs.length ys H → ys.length ≤ xs.length → ∀ p, H p = none → Q (.ref p) (upd H p (.lst ys))) : CompR (Itt K a) g tc te σ0 Q H := comp_by xs.length Pv hz
  (fun i ys H hi p => ⟨xs, xs[i], hl i ys H p, by simp [hi]⟩) (fun ys H p => ⟨xs, hl _ ys H p, Nat.le_refl _⟩) h0
  (fun i ys H v H' N hi p y hN => by
    obtain ⟨e, y⟩ := y
    subst e
    exact hs i v ys _ N (y xs (hl i ys _ p)) p hN) hd
theorem kit_tt {K : PySem.W.Frag} : PySem.W.kitOne K (.type "tuple") (.type "tuple") = some true := by kernel_rfl
theorem kit_ll {K : PySem.W.Frag} : PySem.W.kitOne K (.type "list") (.type "list") = some true := by kernel_rfl
theorem passN {P : Program} {w : World} {X : Cx} : Passes (CX1 P w) X E0 := fun _ _ _ _ _ _ _ h => (CX1.no h).elim
theorem df_mk {x : Str} {st : Stmt} {f : Addr} {oc kV doc pm cd ct : Value} {od an : Option Addr} {sl : Array (Option Value)} (X : K.In h) (G : h.Ns mainGlobals mg) (a : PySem.W.nsIn K mainGlobals x = some (some (.ref f)))
    (l : K.lookup f = some ⟨oc, od, .func (PySem.W.fnOf x x (defArgs st) (defBody st) (defScope st) .none kV doc pm an cd ct), sl⟩) (c : PySem.W.codeIn K cd x = true) (k : PySem.W.keepIn K (.ref f) = true) : ∃ f fd, Df K mg x st f fd :=
  ⟨f, _, fun_mk l c k, PySem.W.mg_of X G a⟩
theorem dfd_mk {x : Str} {st : Stmt} {f T : Addr} {oc kV doc pm cd ct tc : Value} {od an td : Option Addr} {sl tsl : Array (Option Value)} {items : Array Value} {tn : Nat} (X : K.In h) (G : h.Ns mainGlobals mg) (a : PySem.W.nsIn K mainGlobals x = some (some (.ref f)))
    (l : K.lookup f = some ⟨oc, od, .func (PySem.W.fnOf x x (defArgs st) (defBody st) (defScope st) (.ref T) kV doc pm an cd ct), sl⟩) (c : PySem.W.codeIn K cd x = true) (k : PySem.W.keepIn K (.ref f) = true)
    (t : K.lookup T = some ⟨tc, td, .seq items tn, tsl⟩) : ∃ f fd, DfD K mg x st f fd items :=
  ⟨f, _, ⟨oc, od, kV, doc, pm, an, cd, ct, sl, T, _, tn, rfl, l, c, t, rfl⟩, k, PySem.W.mg_of X G a⟩
end
end Gn
set_option Elab.async false
set_option linter.all false
set_option maxRecDepth 100000
set_option maxHeartbeats 4000000
namespace Gn
open PySem PySem.W PySem.Calls PyProof.Rows
theorem bits_all : ∀ (ns : List Int) (m : Nat), WData.weightAll (ns.map WData.int) ≤ m → ∀ n ∈ ns, Builtin.Int.intBits n ≤ m
  | [], _, _, _, h => nomatch h
  | i :: ns, m, hw, n, h => by
    have hw' : Builtin.Int.intBits i + 1 + WData.weightAll (ns.map WData.int) ≤ m := hw
    rcases List.mem_cons.mp h with rfl | h
    · omega
    · exact bits_all ns m (by omega) n h
theorem bits_lay {ns : List Int} (h : WData.layableAll [WData.list (ns.map WData.int)] = true) : ∀ n ∈ ns, Builtin.Int.intBits n ≤ 2 ^ 20 := by
  have h1 : (WData.layable (WData.list (ns.map WData.int)) && true) = true := h
  rw [Bool.and_true] at h1
  have h2 := (Bool.and_eq_true_iff.mp h1).2
  exact bits_all ns _ (of_decide_eq_true h2)
theorem attachB {l : OpenLaw} {n : Nat} {q : Program} {loose : List Str} {XP : (Str → Option Value) → Heap → Prop} {YP : World → Heap → Prop} {d : DefRec}
    (hn : l.most = some n) (hdf : d.params.defaults = [])
    (call : ∀ (w : World) (s₀ s₁ : Shared) (mg mb : Str → Option Value) (fa : Addr) (a : Addr) (vs : List Value) (ns : List Int),
      Ground q loose [] XP w s₀ mg mb s₁.heap → YP w s₁.heap → mg d.name = some (.ref fa) →
      s₁.heap.get? a = some { cls := .type "list", data := .seq vs.toArray } → IntsAre vs ns → ns.length ≤ n → (∀ i ∈ ns, Builtin.Int.intBits i ≤ 2 ^ 20) → s₁.gens = #[] →
      codeAny (model l.prog w) callerA (.call (.ref fa) ⟨[.ref a], []⟩) (fun r s' => r = .ok (.ret (.bool true)) ∧ OldK s₁.heap s'.heap ∧ s'.os = s₁.os ∧ AllBare s'.gens) s₁) :
    WalkO q loose XP YP l.row.toRowW d [] (fun f vs => PySem.call f vs) := by
  intro w s₀ s₁ mg mb G Y fa o pm cd doc dV kV ho hd hcd hD hmg hg args vals as hpre hlay hrd hwl hlo
  obtain rfl : dV = .none := Dflts.none hD hdf
  obtain rfl : kV = .none := Dflts.noKw hD
  obtain ⟨a, vs, ns, rfl, rfl, hobj, hints, hlen⟩ := Att.script_of hn hpre hwl
  refine enter_call (codeAny_mono (call w s₀ s₁ mg mb fa a vs ns G Y hmg hobj hints hlen (bits_lay hlay) hg) fun r s' hq => ?_)
  obtain ⟨rfl, h2, h3, h4⟩ := hq
  exact ⟨.inl ⟨.bool true, .bool true, [], rfl, fun _ => rfl, .bool true, Att.post_true l _, fun _ => ⟨List.Pairwise.nil, fun _ hm => (nomatch hm)⟩⟩, h2, h3, h4⟩
end Gn
namespace Gn
open PySem L2 PyProof.Rows PySem.Spec
theorem walkB {l : PySem.W.OpenLaw} {n k : Nat} {q : Program} {loose : List Str} {XP : (Str → Option Value) → Heap → Prop} {YP : World → Heap → Prop} {d : DefRec} {K : Params → PySem.W.Frag} {sp : PySem.W.Frag → Sp} {x : Str}
    (hn : l.most = some n) (hn2 : n ≤ sizeLine) (hdf : d.params.defaults = []) (hr : Room k callerA)
    (hY : ∀ (w : World) (h : Heap), YP w h → (K w.params).In h)
    (F : ∀ (w : World) (mg : Str → Option Value) (fa : Addr) (h : Heap), (K w.params).In h → h.Ns mainGlobals mg → mg d.name = some (.ref fa) →
      ∃ fd : FuncData, (∀ (s : Shared) (u : Value), BindsTo s fd ⟨[u], []⟩ [(x, u)]) ∧
        ∀ base : Heap, (K w.params).In base → base.Ns mainGlobals mg → FnOk l.prog w (K w.params) mg base CX0 k fa fd [x] (sp (K w.params)))
    (hsp : ∀ (K : PySem.W.Frag) (H : Hp) (a : Addr) (ns : List Int), ns.length ≤ n → (∀ i ∈ ns, Builtin.Int.intBits i ≤ 2 ^ 20) → SqL K H a (ns.map V.int) → sp K [.ref a] H (fun v _ => v = .bl true) fun _ _ _ => False) :
    PySem.W.WalkO q loose XP YP l.row.toRowW d [] (fun f vs => PySem.call f vs) := by
  refine attachB hn hdf fun w s₀ s₁ mg mb fa a vs ns G Y hmg hobj hints hlen hbits hg => ?_
  have KX := hY w _ Y
  obtain ⟨fd, hb, hF⟩ := F w mg fa _ KX G.T.g hmg
  exact law_call KX G.T.g G.T.b G.T.builtins G.T.nolimit hg hobj hints (Nat.le_trans hlen hn2) hr hF hb (fun H hO hS => hsp _ H a ns hlen hbits hS) fun H e s' z => z
end Gn
set_option linter.all false
namespace K04
noncomputable def pk1 (n : Nat) : List Nat := if h : n < 128 then [n] else (128 + n % 128) :: pk1 (n / 128)
termination_by n
decreasing_by omega
noncomputable def pk (ns : List Nat) : List Nat := ns.flatMap pk1
theorem pk1_lt {n : Nat} (h : n < 128) : pk1 n = [n] := by rw [pk1, dif_pos h]
theorem pk1_ge {n : Nat} (h : ¬ n < 128) : pk1 n = (128 + n % 128) :: pk1 (n / 128) := by rw [pk1, dif_neg h]
theorem pk1_len : ∀ (k n : Nat), n < 128 ^ (k + 1) → (pk1 n).length ≤ k + 1
  | 0, n, h => by rw [pk1_lt (by simpa using h)]; exact Nat.le_refl _
  | k + 1, n, h => by
    by_cases h1 : n < 128
    · rw [pk1_lt h1]; simp
    · rw [pk1_ge h1, List.length_cons]
      have := pk1_len k (n / 128) (by rw [Nat.div_lt_iff_lt_mul (by decide)]; rw [Nat.pow_succ] at h; exact h)
      omega
noncomputable def big : Nat := 10 ^ 60
theorem pk1_big {n : Nat} (h : n < big) : (pk1 n).length ≤ 30 := pk1_len 29 n (Nat.lt_of_lt_of_le h (by decide))
theorem pk_len : ∀ (ns : List Nat), (∀ n ∈ ns, n < big) → (pk ns).length ≤ 30 * ns.length
  | [], _ => by simp [pk]
  | n :: ns, h => by
    have h1 := pk1_big (h n List.mem_cons_self)
    have h2 := pk_len ns fun m hm => h m (List.mem_cons_of_mem _ hm)
    show (pk1 n ++ pk ns).length ≤ _
    rw [List.length_append, List.length_cons]
    omega
theorem pk_app (a b : List Nat) : pk (a ++ b) = pk a ++ pk b := by simp [pk]
theorem pk_one (n : Nat) : pk [n] = pk1 n := by simp [pk]
theorem pk_nil : pk [] = [] := rfl
noncomputable def Rd (ns R done : List Nat) (num wt : Nat) : Prop :=
  (R = [] ∧ num = 0 ∧ wt = 1 ∧ done = ns) ∨ ∃ r rest, R = pk1 r ++ pk rest ∧ ns = done ++ (num + r * wt) :: rest ∧ ((wt = 1 ∧ num = 0) ∨ (1 < wt ∧ 0 < r))
theorem Rd.next (done rest : List Nat) : Rd (done ++ rest) (pk rest) done 0 1 := by
  cases rest with
  | nil => exact .inl ⟨rfl, rfl, rfl, by simp⟩
  | cons r rest => exact .inr ⟨r, rest, rfl, by simp, .inl ⟨rfl, rfl⟩⟩
theorem Rd.start (ns : List Nat) : Rd ns (pk ns) [] 0 1 := Rd.next [] ns
theorem Rd.more {ns R done : List Nat} {num wt c : Nat} (h : Rd ns (c :: R) done num wt) (hc : 128 ≤ c) : Rd ns R done (num + c % 128 * wt) (wt * 128) := by
  rcases h with ⟨e, _⟩ | ⟨r, rest, e, hn, hw⟩
  · cases e
  · by_cases hr : r < 128
    · rw [pk1_lt hr] at e
      have : c = r := (List.cons.inj e).1
      omega
    · rw [pk1_ge hr] at e
      obtain ⟨e1, e2⟩ := List.cons.inj e
      refine .inr ⟨r / 128, rest, e2, ?_, .inr ⟨?_, by omega⟩⟩
      · rw [hn, e1]
        congr 2
        have h1 : (128 + r % 128) % 128 = r % 128 := by omega
        rw [h1]
        have h2 : r = 128 * (r / 128) + r % 128 := (Nat.div_add_mod r 128).symm
        generalize r / 128 = q at *
        generalize r % 128 = m at *
        subst h2
        rw [Nat.add_mul, Nat.mul_comm wt 128, ← Nat.mul_assoc, Nat.mul_comm q 128]
        omega
      · rcases hw with ⟨h1, _⟩ | ⟨h1, _⟩ <;> omega
theorem Rd.last {ns R done : List Nat} {num wt c : Nat} (h : Rd ns (c :: R) done num wt) (hc : c < 128) : ¬ (c = 0 ∧ 1 < wt) ∧ Rd ns R (done ++ [num + c % 128 * wt]) 0 1 := by
  rcases h with ⟨e, _⟩ | ⟨r, rest, e, hn, hw⟩
  · cases e
  · by_cases hr : r < 128
    · rw [pk1_lt hr] at e
      obtain ⟨e1, e2⟩ := List.cons.inj e
      subst e1
      refine ⟨?_, ?_⟩
      · rintro ⟨h1, h2⟩
        rcases hw with ⟨h3, _⟩ | ⟨_, h3⟩ <;> omega
      · have e3 : R = pk rest := by simpa using e2
        rw [e3, hn, Nat.mod_eq_of_lt hr]
        have := Rd.next (done ++ [num + c * wt]) rest
        simpa using this
    · rw [pk1_ge hr] at e
      have : c = 128 + r % 128 := (List.cons.inj e).1
      omega
theorem Rd.len {ns R done : List Nat} {num wt : Nat} (h : Rd ns R done num wt) : done.length ≤ ns.length := by
  rcases h with ⟨_, _, _, e⟩ | ⟨r, rest, _, e, _⟩
  · rw [e]; exact Nat.le_refl _
  · rw [e, List.length_append]; omega
theorem Rd.done {ns done : List Nat} {num wt : Nat} (h : Rd ns [] done num wt) : wt = 1 ∧ done = ns := by
  rcases h with ⟨_, _, e1, e2⟩ | ⟨r, rest, e, _⟩
  · exact ⟨e1, e2⟩
  · exfalso
    by_cases hr : r < 128
    · rw [pk1_lt hr] at e; cases e
    · rw [pk1_ge hr] at e; cases e
end K04
set_option linter.all false
namespace K04
noncomputable abbrev Pr := Nat × List Nat
noncomputable def ris : Nat → List Nat → Prop
  | _, [] => True
  | l, n :: r => l ≤ n ∧ ris (n + 1) r
noncomputable def gaps : Nat → List Nat → List Nat
  | _, [] => []
  | l, n :: r => (n - l) :: gaps (n + 1) r
noncomputable def nums : Nat → List Nat → List Nat
  | _, [] => []
  | l, g :: r => (l + g) :: nums (l + g + 1) r
theorem gaps_len : ∀ (l : Nat) (xs : List Nat), (gaps l xs).length = xs.length
  | _, [] => rfl
  | l, n :: r => by show (gaps (n + 1) r).length + 1 = r.length + 1; rw [gaps_len]
theorem nums_ris : ∀ (l : Nat) (xs : List Nat), ris l (nums l xs)
  | _, [] => trivial
  | l, g :: r => ⟨Nat.le_add_right _ _, nums_ris _ r⟩
theorem gaps_nums : ∀ (l : Nat) (xs : List Nat), gaps l (nums l xs) = xs
  | _, [] => rfl
  | l, g :: r => by
    show (l + g - l) :: gaps (l + g + 1) (nums (l + g + 1) r) = g :: r
    rw [gaps_nums, Nat.add_sub_cancel_left]
theorem nums_len : ∀ (l : Nat) (xs : List Nat), (nums l xs).length = xs.length
  | _, [] => rfl
  | l, g :: r => by show (nums _ r).length + 1 = r.length + 1; rw [nums_len]
theorem gaps_lt {b : Nat} : ∀ (l : Nat) (xs : List Nat), (∀ x ∈ xs, x < b) → ∀ g ∈ gaps l xs, g < b
  | _, [], _, _, h => nomatch h
  | l, n :: r, hb, g, h => by
    rcases List.mem_cons.mp h with e | h
    · have := hb n List.mem_cons_self
      omega
    · exact gaps_lt (n + 1) r (fun x hx => hb x (List.mem_cons_of_mem _ hx)) g h
noncomputable def rn : Nat → List Pr → List Nat
  | _, [] => []
  | l, (n, pl) :: r => (n - l) :: (pl.length - 1) :: (gaps 0 pl ++ rn (n + 1) r)
structure RowOk (l : Nat) (row : List Pr) : Prop where
  n : ris l (row.map (·.1))
  p : ∀ x ∈ row, x.2 ≠ [] ∧ ris 0 x.2
theorem RowOk.tail {l n : Nat} {pl : List Nat} {r : List Pr} (h : RowOk l ((n, pl) :: r)) : RowOk (n + 1) r := ⟨h.n.2, fun x hx => h.p x (List.mem_cons_of_mem _ hx)⟩
theorem RowOk.head {l n : Nat} {pl : List Nat} {r : List Pr} (h : RowOk l ((n, pl) :: r)) : l ≤ n ∧ pl ≠ [] ∧ ris 0 pl := ⟨h.n.1, h.p _ List.mem_cons_self⟩
end K04
set_option linter.all false
namespace K04
noncomputable def run : List Nat → List Nat → Nat → Nat → Option (List Nat)
  | [], done, _, wt => if 1 < wt then none else some done
  | c :: r, done, num, wt => if 128 ≤ c then run r done (num + c % 128 * wt) (wt * 128) else if c = 0 ∧ 1 < wt then none else run r (done ++ [num + c % 128 * wt]) 0 1
noncomputable def rdN (ps : List Nat) : Option (List Nat) := run ps [] 0 1
structure Cur (cs : List Nat) (num wt : Nat) : Prop where
  w : wt = 128 ^ cs.length
  r : ∀ r, (0 < r ∨ cs = []) → pk1 (num + r * wt) = cs ++ pk1 r
theorem Cur.start : Cur [] 0 1 := ⟨rfl, fun r _ => by simp⟩
theorem Cur.one {cs : List Nat} {num wt : Nat} (h : Cur cs num wt) (hw : ¬ 1 < wt) : cs = [] := by
  cases cs with
  | nil => rfl
  | cons c cs =>
    exfalso
    apply hw
    rw [h.w, List.length_cons, Nat.pow_succ]
    have : 0 < 128 ^ cs.length := Nat.pow_pos (by decide)
    omega
theorem Cur.more {cs : List Nat} {num wt c : Nat} (h : Cur cs num wt) (h1 : 128 ≤ c) (h2 : c ≤ 255) : Cur (cs ++ [c]) (num + c % 128 * wt) (wt * 128) := by
  refine ⟨by rw [h.w, List.length_append]; rfl, fun r hr => ?_⟩
  have hr' : 0 < r := by
    rcases hr with hr | hr
    · exact hr
    · exact absurd hr (by simp)
  have e : num + c % 128 * wt + r * (wt * 128) = num + (c % 128 + 128 * r) * wt := by
    rw [Nat.add_mul, Nat.add_assoc, Nat.mul_comm wt 128, ← Nat.mul_assoc, Nat.mul_comm r 128]
  rw [e, h.r _ (.inl (by omega)), pk1_ge (by omega), List.append_assoc]
  have e1 : 128 + (c % 128 + 128 * r) % 128 = c := by omega
  have e2 : (c % 128 + 128 * r) / 128 = r := by omega
  rw [e1, e2]
  rfl
theorem Cur.last {cs : List Nat} {num wt c : Nat} (h : Cur cs num wt) (h1 : c < 128) (h2 : ¬ (c = 0 ∧ 1 < wt)) : pk1 (num + c % 128 * wt) = cs ++ [c] := by
  rw [Nat.mod_eq_of_lt h1, h.r c ?_, pk1_lt h1]
  by_cases h0 : c = 0
  · exact .inr (h.one fun z => h2 ⟨h0, z⟩)
  · exact .inl (by omega)
theorem run_pk : ∀ (R done cs : List Nat) (num wt : Nat) (ns : List Nat), run R done num wt = some ns → (∀ c ∈ R, c ≤ 255) → Cur cs num wt → pk ns = pk done ++ cs ++ R
  | [], done, cs, num, wt, ns, h, _, hc => by
    unfold run at h
    by_cases hw : 1 < wt
    · rw [if_pos hw] at h; cases h
    · rw [if_neg hw] at h
      rw [hc.one hw, Option.some.inj h]
      simp
  | c :: R, done, cs, num, wt, ns, h, hp, hc => by
    unfold run at h
    by_cases h1 : 128 ≤ c
    · rw [if_pos h1] at h
      rw [run_pk R done (cs ++ [c]) _ _ ns h (fun x hx => hp x (List.mem_cons_of_mem _ hx)) (hc.more h1 (hp c List.mem_cons_self))]
      simp
    · rw [if_neg h1] at h
      by_cases h2 : c = 0 ∧ 1 < wt
      · rw [if_pos h2] at h; cases h
      · rw [if_neg h2] at h
        rw [run_pk R _ [] 0 1 ns h (fun x hx => hp x (List.mem_cons_of_mem _ hx)) Cur.start, pk_app, pk_one, hc.last (by omega) h2]
        simp
theorem rdN_pk {ps ns : List Nat} (h : rdN ps = some ns) (hp : ∀ c ∈ ps, c ≤ 255) : pk ns = ps := by
  have := run_pk ps [] [] 0 1 ns h hp Cur.start
  simpa [pk_nil] using this
theorem run_len : ∀ (R done : List Nat) (num wt : Nat) (ns : List Nat), run R done num wt = some ns → ns.length ≤ done.length + R.length
  | [], done, num, wt, ns, h => by
    unfold run at h
    by_cases hw : 1 < wt
    · rw [if_pos hw] at h; cases h
    · rw [if_neg hw] at h
      rw [← Option.some.inj h]
      exact Nat.le_refl _
  | c :: R, done, num, wt, ns, h => by
    unfold run at h
    by_cases h1 : 128 ≤ c
    · rw [if_pos h1] at h
      have := run_len R _ _ _ ns h
      rw [List.length_cons]
      omega
    · rw [if_neg h1] at h
      by_cases h2 : c = 0 ∧ 1 < wt
      · rw [if_pos h2] at h; cases h
      · rw [if_neg h2] at h
        have := run_len R _ _ _ ns h
        rw [List.length_append] at this
        rw [List.length_cons]
        have e : [num + c % 128 * wt].length = 1 := rfl
        omega
noncomputable def rowR : Nat → Nat → List Nat → Option (List Pr)
  | _, _, [] => some []
  | f + 1, l, g :: m :: R => if m + 1 ≤ R.length then (rowR f (l + g + 1) (R.drop (m + 1))).map ((l + g, nums 0 (R.take (m + 1))) :: ·) else none
  | _, _, _ => none
noncomputable def rowN (ns : List Nat) : Option (List Pr) := rowR ns.length 0 ns
theorem rowR_ok : ∀ (f l : Nat) (ns : List Nat) (row : List Pr), rowR f l ns = some row → rn l row = ns ∧ RowOk l row
  | f, l, [], row, h => by
    have e : row = [] := by cases f <;> exact (Option.some.inj h).symm
    subst e
    exact ⟨rfl, trivial, fun x hx => nomatch hx⟩
  | 0, l, [_], row, h => by cases h
  | 0, l, _ :: _ :: _, row, h => by cases h
  | f + 1, l, [_], row, h => by cases h
  | f + 1, l, g :: m :: R, row, h => by
    unfold rowR at h
    by_cases hm : m + 1 ≤ R.length
    · rw [if_pos hm] at h
      cases h2 : rowR f (l + g + 1) (R.drop (m + 1)) with
      | none => rw [h2] at h; cases h
      | some r =>
        rw [h2] at h
        have e := Option.some.inj h
        subst e
        obtain ⟨e1, e2⟩ := rowR_ok f _ _ r h2
        have hl : (nums 0 (R.take (m + 1))).length = m + 1 := by rw [nums_len, List.length_take]; omega
        refine ⟨?_, ⟨Nat.le_add_right _ _, e2.n⟩, fun x hx => ?_⟩
        · show (l + g - l) :: ((nums 0 (R.take (m + 1))).length - 1) :: (gaps 0 (nums 0 (R.take (m + 1))) ++ rn (l + g + 1) r) = _
          rw [e1, gaps_nums, hl, List.take_append_drop, Nat.add_sub_cancel_left, Nat.add_sub_cancel]
        · rcases List.mem_cons.mp hx with e | hx
          · subst e
            refine ⟨fun z => ?_, nums_ris _ _⟩
            have z' : nums 0 (R.take (m + 1)) = [] := z
            rw [z'] at hl
            cases hl
          · exact e2.p x hx
    · rw [if_neg hm] at h; cases h
end K04
set_option Elab.async false
set_option linter.all false
set_option maxRecDepth 100000
set_option maxHeartbeats 4000000
namespace Gn
open PySem L2 PyProof.Rows PySem.Spec
section
variable {X : Cx}
end
noncomputable def rIsiE (K : PySem.W.Frag) : List V → Hp → VK → Prop := fun xs H Q => ∃ ea D c b, xs = [.ref ea, c] ∧ H ea = some (ExcO ea D) ∧ PySem.W.ExcCls K D ∧
    ((∃ n, c = .ty n ∧ PySem.W.kitOne K (.ref D) (.type n) = some b) ∨ (∃ C, c = .ref C ∧ PySem.W.kitOne K (.ref D) (.ref C) = some b) ∨
      (∃ (p : Addr) (Cs : List Addr), c = .ref p ∧ H p = some (.tup (Cs.map V.ref)) ∧ PySem.W.kitAny K (.ref D) (Cs.map Value.ref) = some b)) ∧ Q (.bl b) H
theorem call_isiEK {X : Cx} {K : PySem.W.Frag} (h : X.K = K) : CallR X (.builtin "isinstance") (rIsiE K) := by subst h; exact call_isiE
noncomputable def dN (ns : List Nat) : List PyData := ns.map fun (n : Nat) => PyData.int (n : Int)
theorem dt_nl {K : PySem.W.Frag} {H : Hp} : ∀ (ns : List Nat), DtVs K H (ns.map fun (n : Nat) => V.int (n : Int)) (dN ns)
  | [] => .nil
  | n :: ns => .cons (.int n) (dt_nl ns)
theorem lay_nl : ∀ (ns : List Nat), (PyData.list (dN ns)).canLay0 = true
  | [] => rfl
  | n :: ns => lay_nl ns
theorem depth_nl : ∀ ns : List Nat, (PyData.list (dN ns)).depth ≤ 2
  | [] => by decide
  | s :: ss => by
    show max 0 (PyData.depthAll (dN ss)) + 1 ≤ 2
    have ih : PyData.depthAll (dN ss) + 1 ≤ 2 := depth_nl ss
    omega
theorem cut_take (xs : List V) (k : Nat) : cutV xs none (some (k : Int)) = xs.take k := by
  unfold cutV
  rw [HT.sIx_nat, HT.sIx_none, List.drop_zero, Nat.sub_zero]
  by_cases h : k ≤ xs.length
  · rw [Nat.min_eq_left h]
  · rw [Nat.min_eq_right (by omega), List.take_of_length_le (Nat.le_refl _), List.take_of_length_le (by omega)]
theorem cut_drop (xs : List V) (k : Nat) : cutV xs (some (k : Int)) none = xs.drop k := by
  unfold cutV
  rw [HT.sIx_nat, HT.sIx_none]
  by_cases h : k ≤ xs.length
  · rw [Nat.min_eq_left h, List.take_of_length_le (by rw [List.length_drop]; omega)]
  · rw [Nat.min_eq_right (by omega), List.drop_of_length_le (Nat.le_refl _), List.drop_of_length_le (by omega)]
    exact List.take_nil
theorem Paired.tk {α β : Type} {F : α → β → Prop} : ∀ (n : Nat) {l : List α} {m : List β}, Paired F l m → Paired F (l.take n) (m.take n)
  | 0, _, _, _ => .nil
  | _ + 1, _, _, .nil => .nil
  | n + 1, _, _, .cons r t => .cons r (Paired.tk n t)
theorem Paired.dp {α β : Type} {F : α → β → Prop} : ∀ (n : Nat) {l : List α} {m : List β}, Paired F l m → Paired F (l.drop n) (m.drop n)
  | 0, _, _, h => h
  | _ + 1, _, _, .nil => .nil
  | n + 1, _, _, .cons _ t => Paired.dp n t
theorem Paired.at {α β : Type} {F : α → β → Prop} : ∀ {l : List α} {m : List β}, Paired F l m → ∀ {i : Nat} {b : β}, m[i]? = some b → ∃ a, l[i]? = some a ∧ F a b
  | _, _, .nil, i, b, h => by cases i <;> cases h
  | _, _, .cons r t, 0, b, h => by
    have e := Option.some.inj h
    subst e
    exact ⟨_, rfl, r⟩
  | _, _, .cons r t, i + 1, b, h => Paired.at t h
end Gn
namespace K06
open PySem L2 PyProof.Rows PySem.Spec Gn K04
noncomputable def top (i : Nat) : Stmt := PySem.Challenge.pw_findhall_k06_spoilt_parts.main.body.getD i (.Pass ⟨0, 0, 0, 0⟩)
noncomputable abbrev sWhole : Stmt := top 7
noncomputable abbrev sNNum : Stmt := top 8
noncomputable abbrev sOne : Stmt := top 12
noncomputable abbrev sPacked : Stmt := top 13
noncomputable abbrev sNParts : Stmt := top 14
noncomputable abbrev sUnp : Stmt := top 15
noncomputable abbrev sRis : Stmt := top 17
noncomputable abbrev sHasP : Stmt := top 18
noncomputable abbrev sNRow : Stmt := top 19
noncomputable abbrev sGaps : Stmt := top 20
noncomputable abbrev sNums : Stmt := top 21
noncomputable abbrev sPRow : Stmt := top 22
noncomputable abbrev sURow : Stmt := top 23
noncomputable abbrev lCell : Stmt := top 27
noncomputable abbrev lMixed : Stmt := top 28
noncomputable abbrev lParts : Stmt := top 29
noncomputable abbrev lInts : Stmt := top 30
noncomputable abbrev lRowBy : Stmt := top 31
noncomputable abbrev lRowIs : Stmt := top 32
noncomputable abbrev lRowN : Stmt := top 33
noncomputable abbrev lPartsBy : Stmt := top 34
noncomputable abbrev lRead : Stmt := top 35
noncomputable abbrev lRow : Stmt := top 36
noncomputable abbrev lTold : Stmt := top 37
noncomputable abbrev lLaw : Stmt := top 38
noncomputable abbrev mInit : Stmt := inClass (top 25) 0
noncomputable abbrev mRest : Stmt := inClass (top 25) 4
structure Txt (mg : Str → Option Value) : Prop where
  isi : mg "isinstance" = none
  int : mg "int" = none
  bool : mg "bool" = none
  list : mg "list" = none
  tuple : mg "tuple" = none
  len : mg "len" = none
  all : mg "all" = none
  range : mg "range" = none
  enum : mg "enumerate" = none
  val : mg "ValueError" = none
  cGreat : ∃ t, mg "GREATEST_PART" = some (.int 255 t)
  cMore : ∃ t, mg "MORE_COMES" = some (.int 128 t)
section
variable {P : Program} {w : World} {K : PySem.W.Frag} {mg : Str → Option Value} {base : Heap}
noncomputable def spWhole (K : PySem.W.Frag) : Sp := fun vs H Q _ => ∃ x, vs = [x] ∧ Known K H x ∧ Q (.bl (isIntV x && !isBlV x)) H
theorem scWhole : FnScope ["thing"] ["thing"] (defScope sWhole) := ⟨rfl, rfl, rfl, by decide +kernel, rfl, by decide +kernel, by decide +kernel⟩
seal PSs PS PE PT PA PG PI PGs PIfs in
theorem ok_whole {f : Addr} {fd : FuncData} (D : Df K mg "is_whole" sWhole f fd) (T : Txt mg) : FnOk P w K mg base CX0 1 f fd ["thing"] (spWhole K) := by
  refine D.F.ok scWhole (fun vs H Q E h => ?_) (fun cdv A outer s H vs Q E hr h => ?_)
  · obtain ⟨x, rfl, _⟩ := h
    rfl
  · obtain ⟨x, rfl, ⟨n, hty⟩, k⟩ := h
    refine ⟨_, pss_one (ps_ret (pe_and (pe_callB call_isi rfl T.isi b_isi (pa_cons (pv 0) (pa_cons (pe_bltn (v := .ty "int") rfl T.int b_int rfl) pa_nil)))
      (pe_one (pe_not (pe_callB call_isi rfl T.isi b_isi (pa_cons (pv 0) (pa_cons (pe_bltn (v := .ty "bool") rfl T.bool b_bool rfl) pa_nil))))))), ?_⟩
    refine ⟨_, rfl, x, .ty "int", _, _, rfl, hty, .inl ⟨_, rfl, kit_int hty⟩, _, rfl, ?_⟩
    cases hi : isIntV x with
    | false =>
      rw [hi] at k
      exact iteF k
    | true =>
      rw [hi] at k
      refine iteT ?_
      exact ⟨_, rfl, x, .ty "bool", _, _, rfl, hty, .inl ⟨_, rfl, kit_bool hty⟩, _, rfl, k⟩
noncomputable abbrev nl (ns : List Nat) : List V := ns.map fun (n : Nat) => V.int (n : Int)
theorem nl_app (a b : List Nat) : nl (a ++ b) = nl a ++ nl b := List.map_append
theorem nl_len (a : List Nat) : (nl a).length = a.length := List.length_map _
theorem known_nat {H : Hp} (n : Int) : Known K H (.int n) := ⟨_, .int n⟩
theorem nl_get {ns : List Nat} {i : Nat} {x : V} (h : (nl ns)[i]? = some x) : ∃ c, ns[i]? = some c ∧ x = .int (c : Int) := by
  unfold nl at h
  rw [List.getElem?_map] at h
  cases hp : ns[i]? with
  | none => rw [hp] at h; cases h
  | some c => rw [hp] at h; exact ⟨c, rfl, (Option.some.inj h).symm⟩
noncomputable def spCell (K : PySem.W.Frag) : Sp := fun vs H Q _ => ∃ (a : Addr) (ns : List Int) (k : Nat), vs = [.ref a, .int k] ∧ SqL K H a (ns.map V.int) ∧ ∀ n : Int, Q (.int n) H
theorem scCell : FnScope ["_law_script", "_law_k"] ["_law_script", "_law_k"] (defScope lCell) := ⟨rfl, rfl, rfl, by decide +kernel, rfl, by decide +kernel, by decide +kernel⟩
seal PSs PS PE PT PA PG PI PGs PIfs in
theorem ok_cell {f : Addr} {fd : FuncData} (D : Df K mg "_law_cell_at" lCell f fd) (T : Txt mg) : FnOk P w K mg base CX0 1 f fd ["_law_script", "_law_k"] (spCell K) := by
  refine D.F.ok scCell (fun vs H Q E h => ?_) (fun cdv A outer s H vs Q E hr h => ?_)
  · obtain ⟨a, ns, k, rfl, _⟩ := h
    rfl
  · obtain ⟨a, ns, k, rfl, hS, kk⟩ := h
    refine ⟨_, pss_cons (ps_if (pt_cmpR op_lt (pv 1) (pe_callB call_len_seq rfl T.len b_len (pa_cons (pv 0) pa_nil)) (nomark _)) (pss_one (ps_ret (pe_ix ix_list (pv 0) (pv 1) (fun _ _ => rfl)))) pss_nil) (pss_one (ps_ret pe_int)), ?_⟩
    refine ⟨_, rfl, _, rfl, a, _, rfl, .inl hS, _, _, rfl, rfl, _, rfl, ?_⟩
    by_cases hk : (k : Int) < ((ns.map V.int).length : Nat)
    · rw [decide_eq_true hk]
      have hk' : k < ns.length := by rw [List.length_map] at hk; omega
      exact iteT ⟨_, rfl, _, rfl, a, _, _, .int ns[k], rfl, rfl, hS, atI_nat (by rw [List.getElem?_map, List.getElem?_eq_getElem hk']; rfl), kk _⟩
    · rw [decide_eq_false hk]
      exact iteF (kk 0)
noncomputable def spMixed : Sp := fun vs H Q _ => ∃ n k : Int, vs = [.int n, .int k] ∧ 0 ≤ k ∧ k ≤ 1000 ∧ ∀ r : Int, 0 ≤ r → Q (.int r) H
theorem scMixed : FnScope ["_law_cell", "_law_k", "_law_number"] ["_law_cell", "_law_k"] (defScope lMixed) := ⟨rfl, rfl, rfl, by decide +kernel, rfl, by decide +kernel, by decide +kernel⟩
seal PSs PS PE PT PA PG PI PGs PIfs in
theorem ok_mixed {f : Addr} {fd : FuncData} (D : Df K mg "_law_mixed" lMixed f fd) : FnOk P w K mg base CX0 1 f fd ["_law_cell", "_law_k"] spMixed := by
  refine D.F.ok scMixed (fun vs H Q E h => ?_) (fun cdv A outer s H vs Q E hr h => ?_)
  · obtain ⟨n, k, rfl, _⟩ := h
    rfl
  · obtain ⟨n, k, rfl, h0, h1, kk⟩ := h
    refine ⟨_, pss_cons (ps_set (i := 2) scMixed.nd rfl (Or.inl rfl) (pe_op op_mod (pe_op op_mul (pe_op op_add (pe_op op_mod (pv 0) pe_int) pe_int) pe_int) pe_int))
      (pss_cons (ps_set (i := 2) scMixed.nd rfl (Or.inl rfl) (pe_op op_mod (pe_op op_mul (pe_op op_add (pv 2) (pv 1)) (pe_op op_add (pe_op op_mul (pv 1) (pv 1)) pe_int)) pe_int))
      (pss_one (ps_ret (pe_op op_fdiv (pe_op op_mod (pe_op op_mul (pv 2) pe_int) pe_int) pe_int)))), ?_⟩
    refine ⟨_, rfl, _, _, rfl, rfl, (by show (0 : Int) < 1000000007; decide), _, _, rfl, rfl, _, _, rfl, rfl, .inr ⟨by decide, by decide⟩, _, _, rfl, rfl, (by show (0 : Int) < 2147483647; decide), ?_⟩
    have b1 := Int.emod_nonneg ((n % 1000000007 + 17) * 48271) (show (2147483647 : Int) ≠ 0 by decide)
    have b2 := Int.emod_lt_of_pos ((n % 1000000007 + 17) * 48271) (show (0 : Int) < 2147483647 by decide)
    generalize (n % 1000000007 + 17) * 48271 % 2147483647 = r at b1 b2 ⊢
    refine ⟨_, rfl, _, rfl, _, _, rfl, rfl, _, rfl, _, rfl, _, _, rfl, rfl, .inl ⟨by omega, by omega⟩, _, _, rfl, rfl, _, _, rfl, rfl, .inl ⟨by omega, by omega⟩, _, _, rfl, rfl, (by show (0 : Int) < 2147483629; decide), ?_⟩
    have c1 := Int.emod_nonneg ((r + k) * (k * k + 16807)) (show (2147483629 : Int) ≠ 0 by decide)
    generalize (r + k) * (k * k + 16807) % 2147483629 = q at c1 ⊢
    refine ⟨_, rfl, _, _, rfl, rfl, .inr ⟨by decide, by decide⟩, _, _, rfl, rfl, (by show (0 : Int) < 2147483647; decide), _, _, rfl, rfl, ⟨by decide, by decide⟩, ?_⟩
    exact kk _ (Int.ediv_nonneg (Int.emod_nonneg _ (by decide)) (by decide))
noncomputable def spLParts (K : PySem.W.Frag) : Sp := fun vs H Q _ => ∃ (a : Addr) (ns : List Nat), vs = [.ref a] ∧ SqL K H a (nl ns) ∧ ns.length ≤ 100 ∧ (∀ n ∈ ns, n < big) ∧ ∀ p H', Same H H' → H p = none → H' p = some (.lst (nl (pk ns))) → Q (.ref p) H'
theorem scLParts : FnScope ["_law_numbers", "_law_parts_here", "_law_number"] ["_law_numbers"] (defScope lParts) := ⟨rfl, rfl, rfl, by decide +kernel, rfl, by decide +kernel, by decide +kernel⟩
seal PSs PS PE PT PA PG PI PGs PIfs in
theorem ok_lparts {f : Addr} {fd : FuncData} (D : Df K mg "_law_parts" lParts f fd) : FnOk P w K mg base CX0 1 f fd ["_law_numbers"] (spLParts K) := by
  refine D.F.ok scLParts (fun vs H Q E h => ?_) (fun cdv A outer s H vs Q E hr h => ?_)
  · obtain ⟨a, ns, rfl, _⟩ := h
    rfl
  · obtain ⟨a, ns, rfl, hS, hlen, hb, k⟩ := h
    have hl : (sizeLine : Nat) = 16777216 := sizeLine_eq
    have hpk := pk_len ns hb
    refine ⟨_, pss_cons (ps_set (i := 1) scLParts.nd rfl (Or.inl rfl) (pe_lst pa_nil))
      (pss_cons (ps_for PassesOwn.never rfl (pi_list (pv 0)) (pg_name (i := 2) scLParts.nd rfl (Or.inl rfl))
        (pss_cons (ps_while PassesOwn.never (pt_cmpR op_gt (pv 2) pe_int (nomark _))
          (pss_cons (ps_expr (pe_bm PySem.F.plainAttrs_list PySem.F.slot_list_append PySem.F.type_list_append mt_append (pv 1) (pa_cons (pe_op op_add (pe_op op_mod (pv 2) pe_int) pe_int) pa_nil)))
          (pss_one (ps_set (i := 2) scLParts.nd rfl (Or.inl rfl) (pe_op op_fdiv (pv 2) pe_int)))))
        (pss_one (ps_expr (pe_bm PySem.F.plainAttrs_list PySem.F.slot_list_append PySem.F.type_list_append mt_append (pv 1) (pa_cons (pv 2) pa_nil))))))
      (pss_one (ps_ret (pv 1)))), ?_⟩
    refine ⟨(by show 0 ≤ sizeLine; decide), fun p hp => ⟨_, rfl, a, rfl, ⟨_, (same_upd hp).seq hS⟩, ?_⟩⟩
    refine for_list (xs := nl ns) (fun i σ H' => ∃ (o : Option V), σ = [some (.ref a), some (.ref p), o] ∧ H' = upd H p (.lst (nl (pk (ns.take i))))) ?_ ?_ ?_ ?_
    · exact ⟨none, rfl, rfl⟩
    · rintro i σ H' _ ⟨o, _, rfl⟩
      exact (same_upd hp).seq hS
    · rintro i x σ H' hxi ⟨o, rfl, rfl⟩
      obtain ⟨n, hn, rfl⟩ := nl_get hxi
      have hsp : pk (ns.take (i + 1)) = pk (ns.take i) ++ pk1 n := by rw [List.take_add_one, hn, pk_app]; exact congrArg _ (pk_one n)
      have hle : (pk (ns.take (i + 1))).length ≤ 3000 := by
        have h1 := pk_len (ns.take (i + 1)) fun m hm => hb m (List.mem_of_mem_take hm)
        rw [List.length_take] at h1
        omega
      refine while_by (fun σ H' => ∃ (r : Nat) (ys : List Nat), σ = [some (.ref a), some (.ref p), some (.int r)] ∧ H' = upd H p (.lst (nl ys)) ∧ pk (ns.take (i + 1)) = ys ++ pk1 r) (fun σ _ => match σ with | [_, _, some (.int r)] => r.toNat | _ => 0) ⟨n, _, rfl, rfl, hsp⟩ ?_ ?_
      · rintro σ H' ⟨r, ys, rfl, rfl, he⟩
        have hyl : ys.length ≤ 3000 := by rw [he, List.length_append] at hle; omega
        refine ⟨_, rfl, _, _, rfl, rfl, _, rfl, ?_⟩
        by_cases hr : (127 : Int) < r
        · rw [decide_eq_true hr]
          refine iteT ?_
          have hr' : ¬ r < 128 := by omega
          refine ⟨_, rfl, .inl ⟨rfl, _, SqL.of upd_same⟩, ?_⟩
          refine ⟨_, rfl, _, _, rfl, rfl, (by show (0 : Int) < 128; decide), _, _, rfl, rfl, p, _, _, rfl, rfl, upd_same, (by rw [nl_len]; omega), ?_⟩
          refine ⟨_, rfl, _, _, rfl, rfl, ⟨by decide, by decide⟩, ?_⟩
          refine ⟨⟨r / 128, ys ++ [128 + r % 128], ?_, ?_, ?_⟩, ?_⟩
          · simp only [List.set]
            have : ((r : Int) / 128) = ((r / 128 : Nat) : Int) := by omega
            rw [this]
          · rw [upd_upd, nl_app]
            show upd H p (.lst (nl ys ++ [V.int ((r : Int) % 128 + 128)])) = _
            have : ((r : Int) % 128 + 128) = ((128 + r % 128 : Nat) : Int) := by omega
            rw [this]
            rfl
          · rw [he, pk1_ge hr']
            simp
          · show ((r : Int) / 128).toNat < (r : Int).toNat
            omega
        · rw [decide_eq_false hr]
          refine iteF ?_
          have hr' : r < 128 := by omega
          refine ⟨_, rfl, .inl ⟨rfl, _, SqL.of upd_same⟩, _, rfl, p, _, _, rfl, rfl, upd_same, (by rw [nl_len]; omega), _, rfl, ?_⟩
          rw [upd_upd, he, pk1_lt hr', nl_app]
          rfl
      · intro σ H' Q1 Q2 hq h
        obtain ⟨x, h1, i, j, e1, e2, h2⟩ := h
        exact ⟨x, h1, i, j, e1, e2, let ⟨b, e, z⟩ := h2; ⟨b, e, hq _ _ z⟩⟩
    · rintro σ H' ⟨o, rfl, rfl⟩
      refine ⟨_, rfl, k p _ (same_upd hp) hp ?_⟩
      rw [upd_same, nl_len, List.take_length]
noncomputable def spInts (K : PySem.W.Frag) : Sp := fun vs H Q _ => ∃ (a b : Addr) (ns : List Nat), vs = [.ref a, .ref b] ∧ H a = some (.lst (nl ns)) ∧ SqL K H b (nl ns) ∧ ns.length ≤ 5000 ∧ ∀ H', Same H H' → Q (.bl true) H'
theorem scInts : FnScope ["_law_found", "_law_due"] ["_law_found", "_law_due"] (defScope lInts) := ⟨rfl, rfl, rfl, by decide +kernel, rfl, by decide +kernel, by decide +kernel⟩
theorem ndOne : (["_law_one"] : List Str).Nodup := by decide +kernel
seal PSs PS PE PT PA PG PI PGs PIfs in
theorem ok_ints {f : Addr} {fd : FuncData} (D : Df K mg "_law_ints_are" lInts f fd) (T : Txt mg) : FnOk P w K mg base CX0 1 f fd ["_law_found", "_law_due"] (spInts K) := by
  refine D.F.ok scInts (fun vs H Q E h => ?_) (fun cdv A outer s H vs Q E hr h => ?_)
  · obtain ⟨a, b, ns, rfl, _⟩ := h
    rfl
  · obtain ⟨a, b, ns, rfl, hA, hB, hlen, kk⟩ := h
    have hl : (sizeLine : Nat) = 16777216 := sizeLine_eq
    refine ⟨_, pss_cons (ps_if (PW.pt (pw_or (pt_not (pt_val (pe_callB call_isi rfl T.isi b_isi (pa_cons (pv 0) (pa_cons (pe_bltn (v := .ty "list") rfl T.list b_list rfl) pa_nil)))))
        (pw_or1 (pt_cmpR (op_neD hr.units100) (pv 0) (pv 1) (nomark _))))) (pss_one (ps_ret pe_bl)) pss_nil)
      (pss_one (ps_ret (pe_callB (call_all_bools rfl) rfl T.all b_all (pa_cons (pe_comp (own := 1) (caps := []) (N := ["_law_one"]) (N0 := ["_law_found", "_law_due"]) (sc0 := defScope lInts) rfl (pi_list (pv 0))
        (fun _ _ _ => pg_name (i := 0) ndOne rfl (Or.inl rfl)) (fun _ _ _ => pf_none)
        (fun _ _ _ => pe_and (pe_callB (call_isiK (K := K) rfl) rfl T.isi b_isi (pa_cons (pv 0) (pa_cons (pe_bltn (v := .ty "int") rfl T.int b_int rfl) pa_nil)))
          (pe_one (pe_not (pe_callB (call_isiK (K := K) rfl) rfl T.isi b_isi (pa_cons (pv 0) (pa_cons (pe_bltn (v := .ty "bool") rfl T.bool b_bool rfl) pa_nil)))))) (gk_name (by decide)) rfl rfl
        (by decide +kernel) rfl (by decide +kernel) (by decide +kernel) rfl (by decide +kernel)) pa_nil)))), ?_⟩
    refine ⟨_, rfl, .ref a, .ty "list", _, true, rfl, .lst hA, .inl ⟨_, rfl, kit_ll⟩, _, rfl, iteF ?_⟩
    refine ⟨_, rfl, _, rfl, .list (dN ns), .list (dN ns), .lst (SqL.of hA) (dt_nl ns), .lst hB (dt_nl ns), lay_nl ns, lay_nl ns, Nat.le_trans (Nat.min_le_left _ _) (Nat.le_trans (depth_nl ns) (by decide)), _, rfl, ?_⟩
    rw [eqv_same (lay_nl ns)]
    refine iteF ?_
    refine ⟨_, rfl, a, rfl, ⟨_, SqL.of hA⟩, comp_itl (xs := nl ns) (fun i ys H' => H' = H ∧ ys = (List.replicate i true).map V.bl) (by rw [nl_len]; omega) (fun i ys H' q => by rw [q.1]; exact SqL.of hA) ⟨rfl, rfl⟩ ?_ ?_⟩
    · rintro i v ys H' N hv ⟨rfl, rfl⟩ hN
      obtain ⟨c, hc, rfl⟩ := nl_get hv
      refine g1 ?_
      refine ⟨_, rfl, .int c, .ty "int", _, true, rfl, .int _, .inl ⟨_, rfl, kit_int (H := H') (.int c)⟩, _, rfl, iteT ?_⟩
      exact ⟨_, rfl, .int c, .ty "bool", _, false, rfl, .int _, .inl ⟨_, rfl, kit_bool (H := H') (.int c)⟩, _, rfl, hN _ _ ⟨rfl, by rw [List.replicate_succ', List.map_append]; rfl⟩⟩
    · rintro ys H' ⟨rfl, rfl⟩ _ q hq
      refine ⟨q, List.replicate (nl ns).length true, rfl, SqL.of upd_same, ?_⟩
      have ea : (List.replicate (nl ns).length true).all id = true := List.all_eq_true.mpr fun b hb => List.eq_of_mem_replicate hb
      rw [ea]
      exact kk _ (same_upd hq)
theorem as_nat {i : Int} (h : 0 ≤ i) : ∃ n : Nat, i = (n : Int) := ⟨i.toNat, (Int.toNat_of_nonneg h).symm⟩
theorem hdep (ns : List Nat) : min (PyData.list (dN ns)).depth (PyData.list (dN ns)).depth ≤ 100 := Nat.le_trans (Nat.min_le_left _ _) (Nat.le_trans (depth_nl ns) (by decide))
theorem drop_at {α : Type} {xs : List α} {i : Nat} {x : α} (h : xs[i]? = some x) : xs.drop i = x :: xs.drop (i + 1) := by
  obtain ⟨hi, e⟩ := List.getElem?_eq_some_iff.mp h
  rw [List.drop_eq_getElem_cons hi, e]
noncomputable def Gp (ns done : List Nat) (l : Nat) (rest : List Nat) : Prop := gaps 0 ns = done ++ gaps l rest ∧ ris l rest
theorem Gp.step {ns done : List Nat} {l n : Nat} {r : List Nat} (h : Gp ns done l (n :: r)) : l ≤ n ∧ Gp ns (done ++ [n - l]) (n + 1) r := by
  obtain ⟨e, h⟩ := h
  refine ⟨h.1, ?_, h.2⟩
  rw [e, List.append_assoc]
  rfl
noncomputable def spNums : Sp := fun vs H Q _ => ∃ (a : Addr) (gs : List Nat), vs = [.ref a] ∧ H a = some (.lst (nl gs)) ∧ gs.length ≤ 2000 ∧ ∀ p H', Same H H' → H p = none → H' p = some (.lst (nl (nums 0 gs))) → Q (.ref p) H'
theorem scNums : FnScope ["gaps", "numbers", "least", "gap"] ["gaps"] (defScope sNums) := ⟨rfl, rfl, rfl, by decide +kernel, rfl, by decide +kernel, by decide +kernel⟩
seal PSs PS PE PT PA PG PI PGs PIfs in
theorem ok_nums {f : Addr} {fd : FuncData} (D : Df K mg "numbers_by" sNums f fd) : FnOk P w K mg base CX0 1 f fd ["gaps"] spNums := by
  refine D.F.ok scNums (fun vs H Q E h => ?_) (fun cdv A outer s H vs Q E hr h => ?_)
  · obtain ⟨a, gs, rfl, _⟩ := h
    rfl
  · obtain ⟨a, gs, rfl, hS, hlen, k⟩ := h
    have hl : (sizeLine : Nat) = 16777216 := sizeLine_eq
    refine ⟨_, pss_cons (ps_set (i := 1) scNums.nd rfl (Or.inl rfl) (pe_lst pa_nil))
      (pss_cons (ps_set (i := 2) scNums.nd rfl (Or.inl rfl) pe_int)
      (pss_cons (ps_for PassesOwn.never rfl (pi_list (pv 0)) (pg_name (i := 3) scNums.nd rfl (Or.inl rfl))
        (pss_cons (ps_expr (pe_bm PySem.F.plainAttrs_list PySem.F.slot_list_append PySem.F.type_list_append mt_append (pv 1) (pa_cons (pe_op op_add (pv 2) (pv 3)) pa_nil)))
        (pss_one (ps_set (i := 2) scNums.nd rfl (Or.inl rfl) (pe_op op_add (pe_op op_add (pv 2) (pv 3)) pe_int)))))
      (pss_one (ps_ret (pv 1))))), ?_⟩
    refine ⟨(by show 0 ≤ sizeLine; decide), fun p hp => ⟨_, rfl, a, rfl, ⟨_, SqL.of (same_upd hp _ _ hS)⟩, ?_⟩⟩
    refine for_list (xs := nl gs) (fun i σ H' => ∃ (done : List Nat) (l : Nat) (o : Option V), σ = [some (.ref a), some (.ref p), some (.int l), o] ∧ H' = upd H p (.lst (nl done)) ∧ done.length = i ∧ nums 0 gs = done ++ nums l (gs.drop i)) ?_ ?_ ?_ ?_
    · exact ⟨[], 0, none, rfl, rfl, rfl, rfl⟩
    · rintro i σ H' _ ⟨done, l, o, _, rfl, _⟩
      exact SqL.of (same_upd hp _ _ hS)
    · rintro i x σ H' hx ⟨done, l, o, rfl, rfl, hd, hG⟩
      obtain ⟨n, hn, rfl⟩ := nl_get hx
      rw [drop_at hn] at hG
      have hil := (List.getElem?_eq_some_iff.mp hn).1
      refine ⟨_, rfl, .inl ⟨rfl, _, SqL.of upd_same⟩, _, rfl, _, rfl, _, _, rfl, rfl, p, _, _, rfl, rfl, upd_same, (by rw [nl_len]; omega), ?_⟩
      refine ⟨_, rfl, _, rfl, _, _, rfl, rfl, _, _, rfl, rfl, done ++ [l + n], l + n + 1, _, rfl, ?_, by rw [List.length_append, hd]; rfl, ?_⟩
      · rw [upd_upd, nl_app]
        rfl
      · rw [hG, List.append_assoc]
        rfl
    · rintro σ H' ⟨done, l, o, rfl, rfl, hd, hG⟩
      rw [nl_len, List.drop_length] at hG
      have e : nums 0 gs = done := by rw [hG]; exact List.append_nil _
      exact ⟨_, rfl, k p _ (same_upd hp) hp (by rw [upd_same, e])⟩
inductive PrAt (H : Hp) : V → Pr → Prop where
  | mk {p t : Addr} {n : Nat} {pl : List Nat} (h : H p = some (.tup [.int (n : Int), .ref t])) (ht : H t = some (.tup (nl pl))) : PrAt H (.ref p) (n, pl)
theorem PrAt.same {H H' : Hp} {x : V} {r : Pr} (h : PrAt H x r) (s : Same H H') : PrAt H' x r := by
  cases h with
  | mk h ht => exact .mk (s _ _ h) (s _ _ ht)
noncomputable def RowAt (H : Hp) (a : Addr) (row : List Pr) : Prop := ∃ xs, H a = some (.lst xs) ∧ Paired (PrAt H) xs row
theorem RowAt.same {H H' : Hp} {a : Addr} {r : List Pr} (h : RowAt H a r) (s : Same H H') : RowAt H' a r := let ⟨xs, h1, h2⟩ := h; ⟨xs, s _ _ h1, Gn.Paired.imp2 h2 fun _ _ q => q.same s⟩
structure Small (m : Nat) (row : List Pr) : Prop where
  l : row.length ≤ m
  n : ∀ x ∈ row, x.1 < big
  k : ∀ x ∈ row, x.2.length ≤ 4
  p : ∀ x ∈ row, ∀ y ∈ x.2, y < big
theorem Small.tail {m : Nat} {x : Pr} {r : List Pr} (h : Small m (x :: r)) : Small m r :=
  ⟨by have := h.l; rw [List.length_cons] at this; omega, fun y hy => h.n y (List.mem_cons_of_mem _ hy), fun y hy => h.k y (List.mem_cons_of_mem _ hy), fun y hy => h.p y (List.mem_cons_of_mem _ hy)⟩
theorem rn_len {m : Nat} : ∀ (l : Nat) (row : List Pr), Small m row → (rn l row).length ≤ 6 * row.length
  | _, [], _ => Nat.zero_le _
  | l, (n, pl) :: r, h => by
    show (gaps 0 pl ++ rn (n + 1) r).length + 1 + 1 ≤ 6 * (r.length + 1)
    have h1 := rn_len (n + 1) r h.tail
    have h2 := h.k (n, pl) List.mem_cons_self
    rw [List.length_append, gaps_len]
    have h3 : pl.length ≤ 4 := h2
    omega
theorem rn_lt {m : Nat} : ∀ (l : Nat) (row : List Pr), Small m row → ∀ x ∈ rn l row, x < big
  | _, [], _, _, hx => nomatch hx
  | l, (n, pl) :: r, h, x, hx => by
    have hb : 1000 < big := by unfold big; decide
    have h1 : n < big := h.n (n, pl) List.mem_cons_self
    have h2 : pl.length ≤ 4 := h.k (n, pl) List.mem_cons_self
    rcases List.mem_cons.mp hx with e | hx
    · omega
    · rcases List.mem_cons.mp hx with e | hx
      · omega
      · rcases List.mem_append.mp hx with hx | hx
        · exact gaps_lt 0 pl (fun y hy => h.p (n, pl) List.mem_cons_self y hy) x hx
        · exact rn_lt (n + 1) r h.tail x hx
theorem nl_at {ns : List Nat} {i c : Nat} (h : ns[i]? = some c) : (nl ns)[i]? = some (.int (c : Int)) := by rw [List.getElem?_map, h]; rfl
theorem PrAt.lst {H H4 : Hp} {x : V} {r : Pr} {pR : Addr} {ys zs : List V} (h : PrAt H x r) (s : Same H H4) (hR : H pR = some (.lst ys)) : PrAt (upd H4 pR (.lst zs)) x r := by
  cases h with
  | mk h ht =>
    rename_i p t n pl
    refine .mk (t := t) ?_ ?_
    · rw [upd_ne (fun z => by rw [z, hR] at h; cases h)]
      exact s _ _ h
    · rw [upd_ne (fun z => by rw [z, hR] at ht; cases ht)]
      exact s _ _ ht
structure Wd (row : List Pr) : Prop where
  l : row.length ≤ 2000
  k : ∀ x ∈ row, x.2.length ≤ 2000
theorem ris_app : ∀ {l : Nat} {xs : List Nat} {n : Nat}, ris l xs → (∀ x ∈ xs, x < n) → l ≤ n → ris l (xs ++ [n])
  | _, [], _, _, _, h => ⟨h, trivial⟩
  | _, x :: r, n, h, hb, _ => ⟨h.1, ris_app h.2 (fun y hy => hb y (List.mem_cons_of_mem _ hy)) (hb x List.mem_cons_self)⟩
structure Mk (i l : Nat) (row : List Pr) : Prop where
  o : RowOk 0 row
  s : Small i row
  b : ∀ x ∈ row, x.1 < l
  l : l ≤ 20000 * i
structure Pk (j m : Nat) (pl : List Nat) : Prop where
  o : ris 0 pl
  n : pl.length = j
  b : ∀ x ∈ pl, x < m
  m : m ≤ 3000 * j
theorem Pk.more {j m d : Nat} {pl : List Nat} (h : Pk j m pl) (hd : d < 3000) : Pk (j + 1) (m + d + 1) (pl ++ [m + d]) := by
  refine ⟨ris_app h.o (fun x hx => by have := h.b x hx; omega) (Nat.zero_le _), by rw [List.length_append, h.n]; rfl, fun x hx => ?_, by have := h.m; omega⟩
  rcases List.mem_append.mp hx with q | q
  · have := h.b x q
    omega
  · rw [List.mem_singleton.mp q]
    omega
theorem Mk.more {i l d j m : Nat} {row : List Pr} {pl : List Nat} (h : Mk i l row) (hi : i < 12) (hd : d < 20000) (hp : Pk j m pl) (hj : 1 ≤ j ∧ j ≤ 4) : Mk (i + 1) (l + d + 1) (row ++ [(l + d, pl)]) := by
  have hbig : 300000 < big := by unfold big; decide
  have hm := hp.m
  have hl := h.l
  refine ⟨⟨?_, fun x hx => ?_⟩, ⟨?_, fun x hx => ?_, fun x hx => ?_, fun x hx => ?_⟩, fun x hx => ?_, by omega⟩
  · rw [List.map_append]
    exact ris_app h.o.n (fun y hy => by obtain ⟨z, hz, rfl⟩ := List.mem_map.mp hy; have := h.b z hz; show z.1 < l + d; omega) (Nat.zero_le _)
  · rcases List.mem_append.mp hx with q | q
    · exact h.o.p x q
    · rw [List.mem_singleton.mp q]
      exact ⟨fun z => by have e : pl = [] := z; have := hp.n; rw [e] at this; exact absurd this (by show ¬ 0 = j; omega), hp.o⟩
  · rw [List.length_append]
    have := h.s.l
    show row.length + 1 ≤ i + 1
    omega
  · rcases List.mem_append.mp hx with q | q
    · exact h.s.n x q
    · rw [List.mem_singleton.mp q]
      show l + d < big
      omega
  · rcases List.mem_append.mp hx with q | q
    · exact h.s.k x q
    · rw [List.mem_singleton.mp q]
      show pl.length ≤ 4
      rw [hp.n]
      exact hj.2
  · rcases List.mem_append.mp hx with q | q
    · exact h.s.p x q
    · rw [List.mem_singleton.mp q]
      intro y hy
      have := hp.b y hy
      omega
  · rcases List.mem_append.mp hx with q | q
    · have := h.b x q
      omega
    · rw [List.mem_singleton.mp q]
      show l + d < l + d + 1
      omega
theorem mod_step (r : Int) {d : Nat} (h : 0 < d) : ∃ m : Nat, r % (d : Int) = (m : Int) ∧ m < d := by
  have h1 := Int.emod_nonneg r (show (d : Int) ≠ 0 by omega)
  have h2 := Int.emod_lt_of_pos r (show (0 : Int) < d by omega)
  exact ⟨(r % (d : Int)).toNat, by omega, by omega⟩
noncomputable def StepV (B : Nat) (v : V) : Prop := ∃ d : Nat, v = .int (d : Int) ∧ 0 < d ∧ d ≤ B
noncomputable def tNx (ci li B : Nat) : TE := fun σ H Q => ∃ (c : Int) (l : Nat), σ[ci]? = some (some (.int c)) ∧ σ[li]? = some (some (.int ((l : Int) - 1))) ∧ ∀ (d : Nat) H', Same H H' → d < B → Q (.int ((l + d : Nat) : Int)) H'
noncomputable def tNy (ci li ji B : Nat) : TE := fun σ H Q => ∃ (c : Int) (l j : Nat), σ[ci]? = some (some (.int c)) ∧ σ[li]? = some (some (.int ((l : Int) - 1))) ∧ σ[ji]? = some (some (.int (j : Int))) ∧ j ≤ 100 ∧ ∀ (d : Nat) H', Same H H' → d < B → Q (.int ((l + d : Nat) : Int)) H'
noncomputable def spRowBy (K : PySem.W.Frag) : Sp := fun vs H Q _ => ∃ (a : Addr) (ns : List Int) (k : Nat), vs = [.ref a, .int k, .int 8] ∧ SqL K H a (ns.map V.int) ∧ ∀ p H' row, Same H H' → H p = none → RowAt H' p row → RowOk 0 row → Small 8 row → (∀ x ∈ row, x.1 < 300000) → Q (.ref p) H'
theorem scRowBy : FnScope ["_law_script", "_law_at", "_law_most", "_law_row_here", "_law_last", "_law_k", "_law_cell", "_law_places", "_law_place", "_law_j"] ["_law_script", "_law_at", "_law_most"] (defScope lRowBy) := ⟨rfl, rfl, rfl, by decide +kernel, rfl, by decide +kernel, by decide +kernel⟩
seal PSs PS PE PT PA PG PI PGs PIfs in
theorem ok_rowby {f fc fm : Addr} {fd fdc fdm : FuncData} (D : Df K mg "_law_row_by" lRowBy f fd) (DC : Df K mg "_law_cell_at" lCell fc fdc) (DM : Df K mg "_law_mixed" lMixed fm fdm) (T : Txt mg) : FnOk P w K mg base CX0 2 f fd ["_law_script", "_law_at", "_law_most"] (spRowBy K) := by
  have GC : FnOk P w K mg base CX0 1 fc fdc ["_law_script", "_law_k"] (spCell K) := ok_cell DC T
  have GM : FnOk P w K mg base CX0 1 fm fdm ["_law_cell", "_law_k"] spMixed := ok_mixed DM
  have bC := DC.F.binds (ps := ["_law_script", "_law_k"]) fun _ _ _ _ _ _ us hl => match us, hl with | [_, _], _ => rfl
  have bM := DM.F.binds (ps := ["_law_cell", "_law_k"]) fun _ _ _ _ _ _ us hl => match us, hl with | [_, _], _ => rfl
  refine D.F.ok scRowBy (fun vs H Q E h => ?_) (fun cdv A outer s H vs Q E hr h => ?_)
  · obtain ⟨a, ns, k, rfl, _⟩ := h
    rfl
  · obtain ⟨a, ns, k, rfl, hS, kk⟩ := h
    have hl : (sizeLine : Nat) = 16777216 := sizeLine_eq
    refine ⟨_, pss_cons (ps_set (i := 3) scRowBy.nd rfl (Or.inl rfl) (pe_lst pa_nil))
      (pss_cons (ps_set (i := 4) scRowBy.nd rfl (Or.inl rfl) (pe_un un_neg pe_int))
      (pss_cons (ps_for PassesOwn.never rfl (pi_range1 rfl T.range (pa_cons (pe_op op_mod (pe_call GC hr rfl DC.m DC.F.kp bC .nil pass0 (pa_cons (pv 0) (pa_cons (pv 1) pa_nil))) (pe_op op_add (pv 2) pe_int)) pa_nil)) (pg_name (i := 5) scRowBy.nd rfl (Or.inl rfl))
        (pss_cons (ps_set (i := 6) scRowBy.nd rfl (Or.inl rfl) (pe_call GC hr rfl DC.m DC.F.kp bC .nil pass0 (pa_cons (pv 0) (pa_cons (pe_op op_add (pe_op op_add (pv 1) pe_int) (pv 5)) pa_nil))))
        (pss_cons (ps_set (i := 4) scRowBy.nd rfl (Or.inl rfl) (PE.imp (t' := tNx 6 4 20000) (pe_op op_add (pe_op op_add (pv 4) pe_int) (pe_op op_mod (pe_call GM hr rfl DM.m DM.F.kp bM .nil pass0 (pa_cons (pv 6) (pa_cons pe_int pa_nil)))
            (pe_ix ix_list (pe_lst (pa_cons pe_int (pa_cons pe_int (pa_cons pe_int (pa_cons pe_int pa_nil))))) (pe_op op_mod (pe_call GM hr rfl DM.m DM.F.kp bM .nil pass0 (pa_cons (pv 6) (pa_cons pe_int pa_nil))) pe_int) (fun _ _ => rfl)))) ?m1))
        (pss_cons (ps_set (i := 7) scRowBy.nd rfl (Or.inl rfl) (pe_lst pa_nil))
        (pss_cons (ps_set (i := 8) scRowBy.nd rfl (Or.inl rfl) (pe_un un_neg pe_int))
        (pss_cons (ps_for PassesOwn.never rfl (pi_range1 rfl T.range (pa_cons (pe_op op_add pe_int (pe_op op_mod (pe_call GM hr rfl DM.m DM.F.kp bM .nil pass0 (pa_cons (pv 6) (pa_cons pe_int pa_nil))) pe_int)) pa_nil)) (pg_name (i := 9) scRowBy.nd rfl (Or.inl rfl))
          (pss_cons (ps_set (i := 8) scRowBy.nd rfl (Or.inl rfl) (PE.imp (t' := tNy 6 8 9 3000) (pe_op op_add (pe_op op_add (pv 8) pe_int) (pe_op op_mod (pe_call GM hr rfl DM.m DM.F.kp bM .nil pass0 (pa_cons (pv 6) (pa_cons (pe_op op_add pe_int (pv 9)) pa_nil)))
            (pe_ix ix_list (pe_lst (pa_cons pe_int (pa_cons pe_int (pa_cons pe_int (pa_cons pe_int pa_nil))))) (pe_op op_mod (pe_call GM hr rfl DM.m DM.F.kp bM .nil pass0 (pa_cons (pv 6) (pa_cons pe_int pa_nil))) pe_int) (fun _ _ => rfl)))) ?m2))
          (pss_one (ps_expr (pe_bm PySem.F.plainAttrs_list PySem.F.slot_list_append PySem.F.type_list_append mt_append (pv 7) (pa_cons (pv 8) pa_nil))))))
        (pss_one (ps_expr (pe_bm PySem.F.plainAttrs_list PySem.F.slot_list_append PySem.F.type_list_append mt_append (pv 3) (pa_cons (pe_tup (pa_cons (pv 4) (pa_cons (pe_callTy call_tuple_of rfl T.tuple b_tuple (pa_cons (pv 7) pa_nil)) pa_nil))) pa_nil))))))))))
      (pss_one (ps_ret (pv 3))))), ?_⟩
    case m1 =>
      rintro σ H Q ⟨c, l, h6, h4, q⟩
      refine ⟨_, h4, _, _, rfl, rfl, _, h6, c, 1, rfl, by decide, by decide, fun r r0 => ⟨(by show 4 ≤ sizeLine; decide), fun z hz => ?_⟩⟩
      refine ⟨_, h6, c, 2, rfl, by decide, by decide, fun r2 _ => ⟨_, _, rfl, rfl, (by show (0 : Int) < 4; decide), ?_⟩⟩
      refine ixPickP (fun v H' => StepV 20000 v) upd_same (by show 0 < 4; decide) rfl ?_ ?_
      · exact List.forall_mem_cons.mpr ⟨⟨1, rfl, by decide, by decide⟩, List.forall_mem_cons.mpr ⟨⟨3, rfl, by decide, by decide⟩, List.forall_mem_cons.mpr ⟨⟨200, rfl, by decide, by decide⟩, List.forall_mem_cons.mpr ⟨⟨20000, rfl, by decide, by decide⟩, fun v hv => nomatch hv⟩⟩⟩⟩
      · rintro v ⟨d, rfl, d0, d1⟩
        obtain ⟨m, em, hm⟩ := mod_step r d0
        refine ⟨_, _, rfl, rfl, (by show (0 : Int) < (d : Int); omega), _, _, rfl, rfl, ?_⟩
        have e : ((l : Int) - 1 + 1 + r % (d : Int)) = ((l + m : Nat) : Int) := by rw [em]; omega
        show Q (.int ((l : Int) - 1 + 1 + r % (d : Int))) _
        rw [e]
        exact q m _ (same_upd hz) (by omega)
    case m2 =>
      rintro σ H Q ⟨c, l, j, h6, h4, h9, hj, q⟩
      refine ⟨_, h4, _, _, rfl, rfl, _, h6, _, h9, _, _, rfl, rfl, c, 4 + (j : Int), rfl, by omega, by omega, fun r r0 => ⟨(by show 4 ≤ sizeLine; decide), fun z hz => ?_⟩⟩
      refine ⟨_, h6, c, 9, rfl, by decide, by decide, fun r2 _ => ⟨_, _, rfl, rfl, (by show (0 : Int) < 4; decide), ?_⟩⟩
      refine ixPickP (fun v H' => StepV 3000 v) upd_same (by show 0 < 4; decide) rfl ?_ ?_
      · exact List.forall_mem_cons.mpr ⟨⟨1, rfl, by decide, by decide⟩, List.forall_mem_cons.mpr ⟨⟨4, rfl, by decide, by decide⟩, List.forall_mem_cons.mpr ⟨⟨140, rfl, by decide, by decide⟩, List.forall_mem_cons.mpr ⟨⟨3000, rfl, by decide, by decide⟩, fun v hv => nomatch hv⟩⟩⟩⟩
      · rintro v ⟨d, rfl, d0, d1⟩
        obtain ⟨m, em, hm⟩ := mod_step r d0
        refine ⟨_, _, rfl, rfl, (by show (0 : Int) < (d : Int); omega), _, _, rfl, rfl, ?_⟩
        have e : ((l : Int) - 1 + 1 + r % (d : Int)) = ((l + m : Nat) : Int) := by rw [em]; omega
        show Q (.int ((l : Int) - 1 + 1 + r % (d : Int))) _
        rw [e]
        exact q m _ (same_upd hz) (by omega)
    refine ⟨(by show 0 ≤ sizeLine; decide), fun p hp => ?_⟩
    have s0 : Same H (upd H p (.lst [])) := same_upd hp
    refine ⟨_, rfl, _, rfl, _, rfl, a, ns, k, rfl, s0.seq hS, fun r => ⟨_, rfl, _, _, rfl, rfl, _, _, rfl, rfl, (by show (0 : Int) < 8 + 1; decide), ?_⟩⟩
    obtain ⟨m, em, hm⟩ := mod_step r (show 0 < 9 by decide)
    refine ⟨(m : Int), (by show [V.int (r % (9 : Int))] = _; exact congrArg (fun z => [V.int z]) em), by omega, by omega, ?_⟩
    refine for_range (fun i σ H' => ∃ (l : Nat) (row : List Pr) (o5 o6 o7 o8 o9 : Option V), σ = [some (.ref a), some (.int k), some (.int 8), some (.ref p), some (.int ((l : Int) - 1)), o5, o6, o7, o8, o9] ∧ Same H H' ∧ RowAt H' p row ∧ Mk i l row) ?_ ?_ ?_
    · exact ⟨0, [], none, none, none, none, none, rfl, s0, ⟨[], upd_same, .nil⟩, ⟨trivial, fun x hx => nomatch hx⟩, ⟨Nat.le_refl _, (fun x hx => nomatch hx), (fun x hx => nomatch hx), fun x hx => nomatch hx⟩, (fun x hx => nomatch hx), Nat.zero_le _⟩
    · rintro i σ H1 hi ⟨l, row, o5, o6, o7, o8, o9, rfl, sm, hR, hM⟩
      have him : i < 8 := by have : i < (m : Int).toNat := hi; omega
      obtain ⟨xs, hx, hpr⟩ := hR
      have hxl := Gn.Paired.len hpr
      have hrl := hM.s.l
      refine ⟨_, rfl, _, rfl, _, _, rfl, rfl, _, rfl, _, _, rfl, rfl, a, ns, k + 1 + i, (by show [V.ref a, V.int ((k : Int) + 1 + (0 + (i : Int)))] = _; rw [Int.zero_add]; rfl), sm.seq hS, fun c => ?_⟩
      refine ⟨c, l, rfl, rfl, fun d H2 s2 hd => ?_⟩
      refine ⟨(by show 0 ≤ sizeLine; decide), fun pP hpP => ?_⟩
      refine ⟨_, rfl, _, rfl, c, 3, rfl, by decide, by decide, fun r r0 => ⟨_, _, rfl, rfl, (by show (0 : Int) < 4; decide), _, _, rfl, rfl, ?_⟩⟩
      obtain ⟨m', em', hm'⟩ := mod_step r (show 0 < 4 by decide)
      have em2 : 1 + r % (4 : Int) = ((1 + m' : Nat) : Int) := by have : r % (4 : Int) = (m' : Int) := em'; omega
      refine ⟨((1 + m' : Nat) : Int), (by show [V.int (1 + r % (4 : Int))] = _; rw [em2]), by omega, by omega, ?_⟩
      refine for_range (fun j σ H' => ∃ (t : Nat) (pl : List Nat) (o9 : Option V), σ = [some (.ref a), some (.int k), some (.int 8), some (.ref p), some (.int ((l + d : Nat) : Int)), some (.int (0 + (i : Int))), some (.int c), some (.ref pP), some (.int ((t : Int) - 1)), o9] ∧ Same H2 H' ∧ H' pP = some (.lst (nl pl)) ∧ Pk j t pl) ?_ ?_ ?_
      · exact ⟨0, [], _, rfl, same_upd hpP, upd_same, trivial, rfl, (fun x hx => nomatch hx), Nat.zero_le _⟩
      · rintro j σ H3 hj ⟨t, pl, q9, rfl, sm3, hP, hPk⟩
        have hj4 : j < 4 := by have : j < ((1 + m' : Nat) : Int).toNat := hj; omega
        have hpl := hPk.n
        refine ⟨c, t, j, rfl, rfl, (by show some (some (V.int (0 + (j : Int)))) = _; rw [Int.zero_add]), by omega, fun d2 H4 s4 hd2 => ?_⟩
        refine ⟨_, rfl, .inl ⟨rfl, _, SqL.of (s4 _ _ hP)⟩, _, rfl, pP, _, _, rfl, rfl, s4 _ _ hP, (by rw [nl_len]; omega), ?_⟩
        have et : ((t + d2 + 1 : Nat) : Int) - 1 = ((t + d2 : Nat) : Int) := by omega
        refine ⟨t + d2 + 1, pl ++ [t + d2], _, (by rw [et]; rfl), fun b u e => ?_, ?_, hPk.more hd2⟩
        · rw [upd_ne (ne_of_none e hpP)]
          exact s4 _ _ (sm3 _ _ e)
        · rw [upd_same, nl_app]
          rfl
      · rintro σ H3 ⟨t, pl, q9, rfl, sm3, hP, hPk⟩
        have hj4 : 1 ≤ ((1 + m' : Nat) : Int).toNat ∧ ((1 + m' : Nat) : Int).toNat ≤ 4 := by omega
        have s13 := s2.trans sm3
        refine ⟨_, rfl, .inl ⟨rfl, _, SqL.of (s13 _ _ hx)⟩, _, rfl, _, rfl, pP, _, rfl, .inl ⟨SqL.of hP, fun pt hpt => ?_⟩⟩
        refine ⟨(by show 2 ≤ sizeLine; decide), fun pp hpp => ?_⟩
        have st : Same H3 (upd H3 pt (.tup (nl pl))) := same_upd hpt
        have ht : (upd H3 pt (.tup (nl pl))) pt = some (.tup (nl pl)) := upd_same
        generalize upd H3 pt (.tup (nl pl)) = H5 at st ht hpp ⊢
        have sp : Same H5 (upd H5 pp (.tup [.int ((l + d : Nat) : Int), .ref pt])) := same_upd hpp
        have hpq : (upd H5 pp (.tup [.int ((l + d : Nat) : Int), .ref pt])) pp = some (.tup [.int ((l + d : Nat) : Int), .ref pt]) := upd_same
        generalize upd H5 pp (.tup [.int ((l + d : Nat) : Int), .ref pt]) = H6 at sp hpq ⊢
        have s16 := (s13.trans st).trans sp
        refine ⟨p, _, _, rfl, rfl, s16 _ _ hx, (by omega), ?_⟩
        have el : ((l + d + 1 : Nat) : Int) - 1 = ((l + d : Nat) : Int) := by omega
        refine ⟨l + d + 1, row ++ [(l + d, pl)], _, _, _, _, _, (by rw [el]), fun b u e => ?_, ⟨_, upd_same, ?_⟩, hM.more (by omega) hd hPk hj4⟩
        · rw [upd_ne (ne_of_none e hp)]
          exact s16 _ _ (sm _ _ e)
        · refine Gn.Paired.app (Gn.Paired.imp2 hpr fun x r q => q.lst s16 hx) ?_
          have n1 : pp ≠ p := fun z => by rw [z, s16 _ _ hx] at hpq; cases hpq
          have n2 : pt ≠ p := fun z => by rw [z, (s13.trans st) _ _ hx] at ht; cases ht
          exact .mk (by rw [upd_ne n1]; exact hpq) (by rw [upd_ne n2]; exact sp _ _ ht)
    · rintro σ H1 ⟨l, row, o5, o6, o7, o8, o9, rfl, sm, hR, hM⟩
      refine ⟨_, rfl, kk p H1 row sm hp hR hM.o ⟨?_, hM.s.n, hM.s.k, hM.s.p⟩ fun x hx => ?_⟩
      · have := hM.s.l
        omega
      · have h1 := hM.b x hx
        have h2 := hM.l
        omega
theorem all_rep (n : Nat) : (List.replicate n true).all id = true := List.all_eq_true.mpr fun b hb => List.eq_of_mem_replicate hb
noncomputable def dPr (x : Pr) : PyData := .tuple [.int (x.1 : Int), .tuple (dN x.2)]
noncomputable def dRow (row : List Pr) : PyData := .list (row.map dPr)
theorem dt_row {H : Hp} {a : Addr} {row : List Pr} (h : RowAt H a row) : DtV K H (.ref a) (dRow row) := by
  obtain ⟨xs, e, p⟩ := h
  refine .lst (SqL.of e) ?_
  clear e
  induction p with
  | nil => exact .nil
  | cons r _ ih =>
    cases r with
    | mk h ht => exact .cons (.tup (SqT.of h) (.cons (.int _) (.cons (.tup (SqT.of ht) (dt_nl _)) .nil))) ih
theorem lay_tn : ∀ (ns : List Nat), (PyData.tuple (dN ns)).canLay0 = true
  | [] => rfl
  | n :: ns => lay_tn ns
theorem lay_pr (x : Pr) : (dPr x).canLay0 = true := by
  show ((PyData.tuple (dN x.2)).canLay0 && true) = true
  rw [lay_tn]
  rfl
theorem lay_row : ∀ (row : List Pr), (dRow row).canLay0 = true
  | [] => rfl
  | x :: r => by
    show ((dPr x).canLay0 && (dRow r).canLay0) = true
    rw [lay_pr, lay_row r]
    rfl
theorem depth_tn : ∀ ns : List Nat, (PyData.tuple (dN ns)).depth ≤ 2
  | [] => by decide
  | s :: ss => by
    show max 0 (PyData.depthAll (dN ss)) + 1 ≤ 2
    have ih : PyData.depthAll (dN ss) + 1 ≤ 2 := depth_tn ss
    omega
theorem depth_row : ∀ row : List Pr, (dRow row).depth ≤ 4
  | [] => by decide
  | x :: r => by
    show max (max 0 (max (PyData.tuple (dN x.2)).depth 0) + 1) (PyData.depthAll (r.map dPr)) + 1 ≤ 4
    have ih : PyData.depthAll (r.map dPr) + 1 ≤ 4 := depth_row r
    have := depth_tn x.2
    omega
theorem dep_row (row : List Pr) : min (dRow row).depth (dRow row).depth ≤ 100 := Nat.le_trans (Nat.min_le_left _ _) (Nat.le_trans (depth_row row) (by decide))
noncomputable def spRowIs : Sp := fun vs H Q _ => ∃ (a b : Addr) (row : List Pr), vs = [.ref a, .ref b] ∧ RowAt H a row ∧ RowAt H b row ∧ Wd row ∧ ∀ H', Same H H' → Q (.bl true) H'
theorem scRowIs : FnScope ["_law_found", "_law_due", "_law_pair"] ["_law_found", "_law_due"] (defScope lRowIs) := ⟨rfl, rfl, rfl, by decide +kernel, rfl, by decide +kernel, by decide +kernel⟩
theorem ndPl : (["_law_place"] : List Str).Nodup := by decide +kernel
seal PSs PS PE PT PA PG PI PGs PIfs in
theorem ok_rowis {f : Addr} {fd : FuncData} (D : Df K mg "_law_row_is" lRowIs f fd) (T : Txt mg) : FnOk P w K mg base CX0 1 f fd ["_law_found", "_law_due"] spRowIs := by
  refine D.F.ok scRowIs (fun vs H Q E h => ?_) (fun cdv A outer s H vs Q E hr h => ?_)
  · obtain ⟨a, b, row, rfl, _⟩ := h
    rfl
  · obtain ⟨a, b, row, rfl, hA, hB, hs, kk⟩ := h
    have hl : (sizeLine : Nat) = 16777216 := sizeLine_eq
    refine ⟨_, pss_cons (ps_if (PW.pt (pw_or (pt_not (pt_val (pe_callB call_isi rfl T.isi b_isi (pa_cons (pv 0) (pa_cons (pe_bltn (v := .ty "list") rfl T.list b_list rfl) pa_nil)))))
        (pw_or1 (pt_cmpR (op_neD hr.units100) (pv 0) (pv 1) (nomark _))))) (pss_one (ps_ret pe_bl)) pss_nil)
      (pss_cons (ps_for PassesOwn.never rfl (pi_list (pv 0)) (pg_name (i := 2) scRowIs.nd rfl (Or.inl rfl))
        (pss_cons (ps_if (PW.pt (pw_or (pt_not (pt_val (pe_callB call_isi rfl T.isi b_isi (pa_cons (pv 2) (pa_cons (pe_bltn (v := .ty "tuple") rfl T.tuple b_tuple rfl) pa_nil)))))
          (pw_or (pt_not (pt_val (pe_callB call_isi rfl T.isi b_isi (pa_cons (pe_ix ix_tup (pv 2) pe_int (fun _ _ => rfl)) (pa_cons (pe_bltn (v := .ty "int") rfl T.int b_int rfl) pa_nil)))))
          (pw_or1 (pt_val (pe_callB call_isi rfl T.isi b_isi (pa_cons (pe_ix ix_tup (pv 2) pe_int (fun _ _ => rfl)) (pa_cons (pe_bltn (v := .ty "bool") rfl T.bool b_bool rfl) pa_nil)))))))) (pss_one (ps_ret pe_bl)) pss_nil)
        (pss_cons (ps_if (pt_not (pt_val (pe_callB call_isi rfl T.isi b_isi (pa_cons (pe_ix ix_tup (pv 2) pe_int (fun _ _ => rfl)) (pa_cons (pe_bltn (v := .ty "tuple") rfl T.tuple b_tuple rfl) pa_nil))))) (pss_one (ps_ret pe_bl)) pss_nil)
        (pss_one (ps_if (pt_not (pt_val (pe_callB (call_all_bools rfl) rfl T.all b_all (pa_cons (pe_comp (own := 1) (caps := []) (N := ["_law_place"]) (N0 := ["_law_found", "_law_due", "_law_pair"]) (sc0 := defScope lRowIs) rfl (pi_tup (pe_ix ix_tup (pv 2) pe_int (fun _ _ => rfl)))
          (fun _ _ _ => pg_name (i := 0) ndPl rfl (Or.inl rfl)) (fun _ _ _ => pf_none)
          (fun _ _ _ => pe_and (pe_callB (call_isiK (K := K) rfl) rfl T.isi b_isi (pa_cons (pv 0) (pa_cons (pe_bltn (v := .ty "int") rfl T.int b_int rfl) pa_nil)))
            (pe_one (pe_not (pe_callB (call_isiK (K := K) rfl) rfl T.isi b_isi (pa_cons (pv 0) (pa_cons (pe_bltn (v := .ty "bool") rfl T.bool b_bool rfl) pa_nil)))))) (gk_name (by decide)) rfl rfl
          (by decide +kernel) rfl (by decide +kernel) (by decide +kernel) rfl (by decide +kernel)) pa_nil)))) (pss_one (ps_ret pe_bl)) pss_nil)))))
      (pss_one (ps_ret pe_bl))), ?_⟩
    obtain ⟨xs, hX, hp⟩ := id hA
    have hxl := Gn.Paired.len hp
    have hrl := hs.l
    refine ⟨_, rfl, .ref a, .ty "list", _, true, rfl, .lst hX, .inl ⟨_, rfl, kit_ll⟩, _, rfl, iteF ?_⟩
    refine ⟨_, rfl, _, rfl, dRow row, dRow row, dt_row hA, dt_row hB, lay_row row, lay_row row, dep_row row, _, rfl, ?_⟩
    rw [eqv_same (lay_row row)]
    refine iteF ?_
    refine ⟨_, rfl, a, rfl, ⟨_, SqL.of hX⟩, ?_⟩
    refine for_list (xs := xs) (fun i σ H' => Same H H' ∧ ∃ o, σ = [some (.ref a), some (.ref b), o]) ?_ ?_ ?_ ?_
    · exact ⟨Same.refl _, none, rfl⟩
    · rintro i σ H' _ ⟨sm, _⟩
      exact SqL.of (sm _ _ hX)
    · rintro i x σ H' hx ⟨sm, o, rfl⟩
      obtain ⟨r, hri, hpr⟩ := paired_get hp hx
      have hk4 := hs.k r (List.mem_of_getElem? hri)
      replace hpr := hpr.same sm
      cases hpr with
      | mk h ht =>
        rename_i p t n pl
        have hk4' : pl.length ≤ 2000 := hk4
        refine ⟨_, rfl, .ref p, .ty "tuple", _, true, rfl, .tup h, .inl ⟨_, rfl, kit_tt⟩, _, rfl, iteF ?_⟩
        refine ⟨_, rfl, p, _, _, _, rfl, rfl, SqT.of h, atI_nat (j := 0) rfl, .int n, .ty "int", _, true, rfl, .int _, .inl ⟨_, rfl, kit_int (H := H) (.int n)⟩, _, rfl, iteF ?_⟩
        refine ⟨_, rfl, p, _, _, _, rfl, rfl, SqT.of h, atI_nat (j := 0) rfl, .int n, .ty "bool", _, false, rfl, .int _, .inl ⟨_, rfl, kit_bool (H := H) (.int n)⟩, _, rfl, iteF ?_⟩
        refine ⟨_, rfl, p, _, _, _, rfl, rfl, SqT.of h, atI_nat (j := 1) rfl, .ref t, .ty "tuple", _, true, rfl, .tup ht, .inl ⟨_, rfl, kit_tt⟩, _, rfl, iteF ?_⟩
        refine ⟨_, rfl, p, _, _, _, rfl, rfl, SqT.of h, atI_nat (j := 1) rfl, t, rfl, ⟨_, SqT.of ht⟩, ?_⟩
        refine comp_itt (xs := nl pl) (fun i ys H2 => H2 = H' ∧ ys = (List.replicate i true).map V.bl) (by rw [nl_len]; omega) (fun i ys H2 q => by rw [q.1]; exact SqT.of ht) ⟨rfl, rfl⟩ ?_ ?_
        · rintro i v ys H2 N hv ⟨rfl, rfl⟩ hN
          obtain ⟨c, hc, rfl⟩ := nl_get hv
          refine g1 ?_
          refine ⟨_, rfl, .int c, .ty "int", _, true, rfl, .int _, .inl ⟨_, rfl, kit_int (H := H) (.int c)⟩, _, rfl, iteT ?_⟩
          exact ⟨_, rfl, .int c, .ty "bool", _, false, rfl, .int _, .inl ⟨_, rfl, kit_bool (H := H) (.int c)⟩, _, rfl, hN _ _ ⟨rfl, by rw [List.replicate_succ', List.map_append]; rfl⟩⟩
        · rintro ys H2 ⟨rfl, rfl⟩ _ q hq
          refine ⟨q, List.replicate (nl pl).length true, rfl, SqL.of upd_same, ?_⟩
          rw [all_rep]
          exact ⟨_, rfl, iteF ⟨Same.upd sm hq, _, rfl⟩⟩
    · rintro σ H' ⟨sm, o, rfl⟩
      exact kk H' sm
noncomputable def spRowN : Sp := fun vs H Q _ => ∃ (a : Addr) (row : List Pr), vs = [.ref a] ∧ RowAt H a row ∧ RowOk 0 row ∧ Small 13 row ∧ ∀ p H', Same H H' → H p = none → H' p = some (.lst (nl (rn 0 row))) → Q (.ref p) H'
theorem scRowN : FnScope ["_law_row_here", "_law_numbers", "_law_last", "_law_pair", "_law_place", "_law_one"] ["_law_row_here"] (defScope lRowN) := ⟨rfl, rfl, rfl, by decide +kernel, rfl, by decide +kernel, by decide +kernel⟩
seal PSs PS PE PT PA PG PI PGs PIfs in
theorem ok_rown {f : Addr} {fd : FuncData} (D : Df K mg "_law_row_numbers" lRowN f fd) (T : Txt mg) : FnOk P w K mg base CX0 1 f fd ["_law_row_here"] spRowN := by
  refine D.F.ok scRowN (fun vs H Q E h => ?_) (fun cdv A outer s H vs Q E hr h => ?_)
  · obtain ⟨a, row, rfl, _⟩ := h
    rfl
  · obtain ⟨a, row, rfl, hA, ho, hs, kk⟩ := h
    have hl : (sizeLine : Nat) = 16777216 := sizeLine_eq
    refine ⟨_, pss_cons (ps_set (i := 1) scRowN.nd rfl (Or.inl rfl) (pe_lst pa_nil))
      (pss_cons (ps_set (i := 2) scRowN.nd rfl (Or.inl rfl) (pe_un un_neg pe_int))
      (pss_cons (ps_for PassesOwn.never rfl (pi_list (pv 0)) (pg_name (i := 3) scRowN.nd rfl (Or.inl rfl))
        (pss_cons (ps_set (i := 1) scRowN.nd rfl (Or.inl rfl) (pe_op op_cat (pv 1) (pe_lst (pa_cons (pe_op op_sub (pe_op op_sub (pe_ix ix_tup (pv 3) pe_int (fun _ _ => rfl)) (pv 2)) pe_int) (pa_cons (pe_op op_sub (pe_callB call_len_seq rfl T.len b_len (pa_cons (pe_ix ix_tup (pv 3) pe_int (fun _ _ => rfl)) pa_nil)) pe_int) pa_nil)))))
        (pss_cons (ps_set (i := 2) scRowN.nd rfl (Or.inl rfl) (pe_ix ix_tup (pv 3) pe_int (fun _ _ => rfl)))
        (pss_cons (ps_set (i := 4) scRowN.nd rfl (Or.inl rfl) (pe_un un_neg pe_int))
        (pss_one (ps_for PassesOwn.never rfl (pi_tup (pe_ix ix_tup (pv 3) pe_int (fun _ _ => rfl))) (pg_name (i := 5) scRowN.nd rfl (Or.inl rfl))
          (pss_cons (ps_expr (pe_bm PySem.F.plainAttrs_list PySem.F.slot_list_append PySem.F.type_list_append mt_append (pv 1) (pa_cons (pe_op op_sub (pe_op op_sub (pv 5) (pv 4)) pe_int) pa_nil)))
          (pss_one (ps_set (i := 4) scRowN.nd rfl (Or.inl rfl) (pv 5))))))))))
      (pss_one (ps_ret (pv 1))))), ?_⟩
    obtain ⟨xs, hX, hp⟩ := id hA
    have hxl := Gn.Paired.len hp
    have hrl := hs.l
    refine ⟨(by show 0 ≤ sizeLine; decide), fun p0 hp0 => ?_⟩
    have s0 : Same H (upd H p0 (.lst [])) := same_upd hp0
    refine ⟨_, rfl, _, rfl, a, rfl, ⟨_, SqL.of (s0 _ _ hX)⟩, ?_⟩
    refine for_list (xs := xs) (fun i σ H' => ∃ (pN : Addr) (l : Nat) (done : List Nat) (o3 o4 o5 : Option V), σ = [some (.ref a), some (.ref pN), some (.int ((l : Int) - 1)), o3, o4, o5] ∧ Same H H' ∧ H pN = none ∧ H' pN = some (.lst (nl done)) ∧ rn 0 row = done ++ rn l (row.drop i) ∧ RowOk l (row.drop i)) ?_ ?_ ?_ ?_
    · exact ⟨p0, 0, [], none, none, none, rfl, s0, hp0, upd_same, rfl, ho⟩
    · rintro i σ H' _ ⟨_, _, _, _, _, _, _, sm, _⟩
      exact SqL.of (sm _ _ hX)
    · rintro i x σ H' hx ⟨pN, l, done, o3, o4, o5, rfl, sm, hpN, hN, hrn, hok⟩
      obtain ⟨r, hri, hpr⟩ := paired_get hp hx
      rw [drop_at hri] at hrn hok
      have hrT := rn_len 0 row hs
      have hk4 := hs.k r (List.mem_of_getElem? hri)
      replace hpr := hpr.same sm
      cases hpr with
      | mk h ht =>
        rename_i p t n pl
        have hk4' : pl.length ≤ 4 := hk4
        obtain ⟨hln, hpl0, hris⟩ := hok.head
        have hlp : 0 < pl.length := List.length_pos_iff.mpr hpl0
        have hrn' : rn 0 row = done ++ [n - l, pl.length - 1] ++ (gaps 0 pl ++ rn (n + 1) (row.drop (i + 1))) := by
          rw [hrn, List.append_assoc]
          rfl
        have hdl : done.length + 2 + pl.length ≤ 78 := by
          rw [hrn', List.length_append, List.length_append, List.length_append, gaps_len] at hrT
          have : [n - l, pl.length - 1].length = 2 := rfl
          omega
        refine ⟨_, rfl, _, rfl, p, _, _, _, rfl, rfl, SqT.of h, atI_nat (j := 0) rfl, _, rfl, _, _, rfl, rfl, _, _, rfl, rfl, ?_⟩
        refine ⟨_, rfl, p, _, _, _, rfl, rfl, SqT.of h, atI_nat (j := 1) rfl, t, _, rfl, .inr (SqT.of ht), _, _, rfl, rfl, (by show 2 ≤ sizeLine; decide), fun z hz => ?_⟩
        have e1 : nl done ++ [V.int ((n : Int) - ((l : Int) - 1) - 1), V.int (((nl pl).length : Nat) - 1)] = nl (done ++ [n - l, pl.length - 1]) := by
          rw [nl_app]
          have q1 : ((n : Int) - ((l : Int) - 1) - 1) = ((n - l : Nat) : Int) := by omega
          have q2 : ((((nl pl).length : Nat) : Int) - 1) = ((pl.length - 1 : Nat) : Int) := by rw [nl_len]; omega
          rw [q1, q2]
          rfl
        have sz := same_upd (o := .lst [V.int ((n : Int) - ((l : Int) - 1) - 1), V.int (((nl pl).length : Nat) - 1)]) hz
        refine ⟨pN, z, _, _, rfl, rfl, sz _ _ hN, upd_same, (by rw [nl_len]; show _ + 2 ≤ sizeLine; omega), fun pM hpM => ?_⟩
        have sM : Same H' (upd (upd H' z (.lst [V.int ((n : Int) - ((l : Int) - 1) - 1), V.int (((nl pl).length : Nat) - 1)])) pM (.lst (nl (done ++ [n - l, pl.length - 1])))) := Same.upd sz hpM
        have hM : (upd (upd H' z (.lst [V.int ((n : Int) - ((l : Int) - 1) - 1), V.int (((nl pl).length : Nat) - 1)])) pM (.lst (nl (done ++ [n - l, pl.length - 1])))) pM = some (.lst (nl (done ++ [n - l, pl.length - 1]))) := upd_same
        have hMn : H' pM = none := sz.free hpM
        have eU : upd (upd H' z (.lst [V.int ((n : Int) - ((l : Int) - 1) - 1), V.int (((nl pl).length : Nat) - 1)])) pM (.lst (nl done ++ [V.int ((n : Int) - ((l : Int) - 1) - 1), V.int (((nl pl).length : Nat) - 1)])) = upd (upd H' z (.lst [V.int ((n : Int) - ((l : Int) - 1) - 1), V.int (((nl pl).length : Nat) - 1)])) pM (.lst (nl (done ++ [n - l, pl.length - 1]))) := by rw [e1]
        show gName 1 (.ref pM) _ (upd (upd H' z (.lst [V.int ((n : Int) - ((l : Int) - 1) - 1), V.int (((nl pl).length : Nat) - 1)])) pM (.lst (nl done ++ [V.int ((n : Int) - ((l : Int) - 1) - 1), V.int (((nl pl).length : Nat) - 1)]))) _
        rw [eU]
        generalize upd (upd H' z (.lst [V.int ((n : Int) - ((l : Int) - 1) - 1), V.int (((nl pl).length : Nat) - 1)])) pM (.lst (nl (done ++ [n - l, pl.length - 1]))) = H2 at sM hM ⊢
        have ht0 := ht
        replace h := sM _ _ h
        replace ht := sM _ _ ht
        refine ⟨_, rfl, p, _, _, _, rfl, rfl, SqT.of h, atI_nat (j := 0) rfl, ?_⟩
        refine ⟨_, rfl, _, rfl, p, _, _, _, rfl, rfl, SqT.of h, atI_nat (j := 1) rfl, t, rfl, ⟨_, SqT.of ht⟩, ?_⟩
        refine for_tup (xs := nl pl) (fun j σ H3 => ∃ (g : Nat) (gd : List Nat) (o5 : Option V), σ = [some (.ref a), some (.ref pM), some (.int (n : Int)), some (.ref p), some (.int ((g : Int) - 1)), o5] ∧ Same H' H3 ∧ H3 pM = some (.lst (nl (done ++ [n - l, pl.length - 1] ++ gd))) ∧ gd.length = j ∧ Gp pl gd g (pl.drop j)) ?_ ?_ ?_ ?_
        · exact ⟨0, [], _, rfl, sM, (by rw [List.append_nil]; exact hM), rfl, rfl, hris⟩
        · rintro j σ H3 _ ⟨g, gd, q5, _, sm3, hM3, _⟩
          exact SqT.of (sm3 _ _ ht0)
        · rintro j y σ H3 hy ⟨g, gd, q5, rfl, sm3, hM3, hgd, hG⟩
          obtain ⟨c, hc, rfl⟩ := nl_get hy
          rw [drop_at hc] at hG
          obtain ⟨hle, hG'⟩ := hG.step
          have hjl := (List.getElem?_eq_some_iff.mp hc).1
          refine ⟨_, rfl, .inl ⟨rfl, _, SqL.of hM3⟩, _, rfl, _, rfl, _, _, rfl, rfl, _, _, rfl, rfl, pM, _, _, rfl, rfl, hM3, (by rw [nl_len, List.length_append, List.length_append]; show done.length + 2 + gd.length < sizeLine; omega), ?_⟩
          have eg : ((c + 1 : Nat) : Int) - 1 = (c : Int) := by omega
          refine ⟨_, rfl, c + 1, gd ++ [c - g], _, (by rw [eg]; rfl), fun b u e => ?_, ?_, by rw [List.length_append, hgd]; rfl, hG'⟩
          · rw [upd_ne (ne_of_none e hMn)]
            exact sm3 _ _ e
          · rw [upd_same, ← List.append_assoc, nl_app _ [c - g]]
            have ec : ((c : Int) - ((g : Int) - 1) - 1) = ((c - g : Nat) : Int) := by omega
            exact congrArg (fun z => some (HO.lst (nl (done ++ [n - l, pl.length - 1] ++ gd) ++ [V.int z]))) ec
        · rintro σ H3 ⟨g, gd, q5, rfl, sm3, hM3, hgd, hG⟩
          rw [nl_len, List.drop_length] at hG
          have e : gaps 0 pl = gd := by rw [hG.1]; exact List.append_nil _
          have en : ((n + 1 : Nat) : Int) - 1 = (n : Int) := by omega
          refine ⟨pM, n + 1, _, _, _, _, (by rw [en]), sm.trans sm3, sm.free hMn, hM3, ?_, hok.tail⟩
          rw [hrn', ← e, List.append_assoc, List.append_assoc, List.append_assoc]
    · rintro σ H' ⟨pN, l, done, o3, o4, o5, rfl, sm, hpN, hN, hrn, hok⟩
      rw [hxl, List.drop_length] at hrn
      have e : rn 0 row = done := by rw [hrn]; exact List.append_nil _
      exact ⟨_, rfl, kk pN H' sm hpN (by rw [e]; exact hN)⟩
end
end K06
set_option Elab.async false
set_option linter.all false
set_option maxRecDepth 100000
set_option maxHeartbeats 4000000
namespace K06
open PySem L2 PyProof.Rows PySem.Spec Gn K04
section
variable {P : Program} {w : World} {K : PySem.W.Frag} {mg : Str → Option Value} {base : Heap}
noncomputable def spNN : Sp := fun vs H Q _ => ∃ n : Nat, vs = [.int (n : Int), .int 0, .non] ∧ Q (.int (n : Int)) H
theorem scNNum : FnScope ["thing", "least", "most"] ["thing", "least", "most"] (defScope sNNum) := ⟨rfl, rfl, rfl, by decide +kernel, rfl, by decide +kernel, by decide +kernel⟩
seal PSs PS PE PT PA PG PI PGs PIfs in
theorem ok_nn {f fw : Addr} {fd fdw : FuncData} (D : DfD K mg "need_number" sNNum f fd #[.none]) (DW : Df K mg "is_whole" sWhole fw fdw) (T : Txt mg) : FnOk P w K mg base (CX1 P w) 2 f fd ["thing", "least", "most"] spNN := by
  have GW : FnOk P w K mg base CX0 1 fw fdw ["thing"] (spWhole K) := ok_whole DW T
  have bW := binds1 (p := "thing") DW.F fun _ _ _ _ _ _ _ => rfl
  refine D.ok1 scNNum (fun vs H Q E h => ?_) (fun cdv A outer s H vs Q E hr h => ?_)
  · obtain ⟨n, rfl, _⟩ := h
    rfl
  · obtain ⟨n, rfl, k⟩ := h
    refine ⟨_, pss_cons (ps_if (pt_not (pt_val (pe_call GW hr rfl DW.m DW.F.kp bW .nil pass0 (pa_cons (pv 0) pa_nil)))) (pss_one ps_never) pss_nil)
      (pss_cons (ps_if (pt_cmpR op_lt (pv 0) (pv 1) (nomark _)) (pss_one ps_never) pss_nil)
      (pss_cons (ps_if (PW.pt (pw_and (pt_cmp (pc_notN (pv 2))) (pw_and1 (pt_cmpR op_gt (pv 0) (pv 2) (nomark _))))) (pss_one ps_never) pss_nil)
      (pss_one (ps_ret (pv 0))))), ?_⟩
    refine ⟨_, rfl, .int (n : Int), rfl, known_nat _, _, rfl, iteF ?_⟩
    refine ⟨_, rfl, _, rfl, _, _, rfl, rfl, _, rfl, ?_⟩
    rw [decide_eq_false (by omega)]
    exact iteF ⟨_, rfl, _, rfl, iteF (iteF ⟨_, rfl, k⟩)⟩
noncomputable def spOne : Sp := fun vs H Q _ => ∃ n : Nat, vs = [.int n] ∧ (pk1 n).length ≤ 2000 ∧ ∀ p H', Same H H' → H p = none → H' p = some (.lst (nl (pk1 n))) → Q (.ref p) H'
theorem scOne : FnScope ["number", "parts", "rest"] ["number"] (defScope sOne) := ⟨rfl, rfl, rfl, by decide +kernel, rfl, by decide +kernel, by decide +kernel⟩
seal PSs PS PE PT PA PG PI PGs PIfs in
theorem ok_one {f : Addr} {fd : FuncData} (D : Df K mg "parts_of_one" sOne f fd) (T : Txt mg) : FnOk P w K mg base CX0 1 f fd ["number"] spOne := by
  obtain ⟨tm, cm⟩ := T.cMore
  refine D.F.ok scOne (fun vs H Q E h => ?_) (fun cdv A outer s H vs Q E hr h => ?_)
  · obtain ⟨n, rfl, _⟩ := h
    rfl
  · obtain ⟨n, rfl, hn, k⟩ := h
    have hl : (sizeLine : Nat) = 16777216 := sizeLine_eq
    refine ⟨_, pss_cons (ps_set (i := 1) scOne.nd rfl (Or.inl rfl) (pe_lst pa_nil))
      (pss_cons (ps_set (i := 2) scOne.nd rfl (Or.inl rfl) (pv 0))
      (pss_cons (ps_while PassesOwn.never (pt_cmpR op_ge (pv 2) (pe_glob (v := .int 128) rfl cm ⟨_, rfl⟩) (nomark _))
        (pss_cons (ps_expr (pe_bm PySem.F.plainAttrs_list PySem.F.slot_list_append PySem.F.type_list_append mt_append (pv 1) (pa_cons (pe_op op_add (pe_glob (v := .int 128) rfl cm ⟨_, rfl⟩) (pe_op op_mod (pv 2) (pe_glob (v := .int 128) rfl cm ⟨_, rfl⟩))) pa_nil)))
        (pss_one (ps_set (i := 2) scOne.nd rfl (Or.inl rfl) (pe_op op_fdiv (pv 2) (pe_glob (v := .int 128) rfl cm ⟨_, rfl⟩))))))
      (pss_cons (ps_expr (pe_bm PySem.F.plainAttrs_list PySem.F.slot_list_append PySem.F.type_list_append mt_append (pv 1) (pa_cons (pv 2) pa_nil)))
      (pss_one (ps_ret (pv 1)))))), ?_⟩
    refine ⟨(by show 0 ≤ sizeLine; decide), fun p hp => ⟨_, rfl, ?_⟩⟩
    refine while_by (fun σ H' => ∃ (r : Nat) (ys : List Nat), σ = [some (.int n), some (.ref p), some (.int r)] ∧ H' = upd H p (.lst (nl ys)) ∧ pk1 n = ys ++ pk1 r) (fun σ _ => match σ with | [_, _, some (.int r)] => r.toNat | _ => 0) ⟨n, [], rfl, rfl, rfl⟩ ?_ ?_
    · rintro σ H' ⟨r, ys, rfl, rfl, he⟩
      have hyl : ys.length ≤ 2000 := by rw [he, List.length_append] at hn; omega
      refine ⟨_, rfl, _, _, rfl, rfl, _, rfl, ?_⟩
      by_cases hr : (128 : Int) ≤ r
      · rw [decide_eq_true hr]
        refine iteT ?_
        have hr' : ¬ r < 128 := by omega
        refine ⟨_, rfl, .inl ⟨rfl, _, SqL.of upd_same⟩, ?_⟩
        refine ⟨_, rfl, _, _, rfl, rfl, (by show (0 : Int) < 128; decide), _, _, rfl, rfl, p, _, _, rfl, rfl, upd_same, (by rw [List.length_map]; omega), ?_⟩
        refine ⟨_, rfl, _, _, rfl, rfl, ⟨by decide, by decide⟩, ?_⟩
        refine ⟨⟨r / 128, ys ++ [128 + r % 128], ?_, ?_, ?_⟩, ?_⟩
        · simp only [List.set]
          have : ((r : Int) / 128) = ((r / 128 : Nat) : Int) := by omega
          rw [this]
        · rw [upd_upd]
          congr 2
          unfold nl
          rw [List.map_append]
          congr 1
        · rw [he, pk1_ge hr']
          simp
        · show ((r : Int) / 128).toNat < (r : Int).toNat
          omega
      · rw [decide_eq_false hr]
        refine iteF ?_
        have hr' : r < 128 := by omega
        refine ⟨_, rfl, .inl ⟨rfl, _, SqL.of upd_same⟩, _, rfl, p, _, _, rfl, rfl, upd_same, (by rw [List.length_map]; omega), ?_⟩
        refine ⟨_, rfl, k p _ ?_ hp ?_⟩
        · rw [upd_upd]
          exact same_upd hp
        · rw [upd_same, he, pk1_lt hr']
          unfold nl
          rw [List.map_append]
          rfl
    · intro σ H' Q1 Q2 hq h
      obtain ⟨x, h1, i, j, e1, e2, h2⟩ := h
      exact ⟨x, h1, i, j, e1, e2, let ⟨b, e, z⟩ := h2; ⟨b, e, hq _ _ z⟩⟩
noncomputable def spPacked (K : PySem.W.Frag) : Sp := fun vs H Q _ => ∃ (a : Addr) (ns : List Nat), vs = [.ref a] ∧ SqL K H a (nl ns) ∧ (pk ns).length ≤ 2000 ∧ ∀ p H', Same H H' → H p = none → H' p = some (.lst (nl (pk ns))) → Q (.ref p) H'
theorem scPacked : FnScope ["numbers", "parts", "number"] ["numbers"] (defScope sPacked) := ⟨rfl, rfl, rfl, by decide +kernel, rfl, by decide +kernel, by decide +kernel⟩
seal PSs PS PE PT PA PG PI PGs PIfs in
theorem ok_packed {f fo fn : Addr} {fd fdo fdn : FuncData} (D : Df K mg "packed" sPacked f fd) (DO : Df K mg "parts_of_one" sOne fo fdo) (GO : FnOk P w K mg base CX0 1 fo fdo ["number"] spOne)
    (DN : DfD K mg "need_number" sNNum fn fdn #[.none]) (GN : FnOk P w K mg base (CX1 P w) 2 fn fdn ["thing", "least", "most"] spNN) : FnOk P w K mg base CX0 3 f fd ["numbers"] (spPacked K) := by
  have bO := binds1 (p := "number") DO.F fun _ _ _ _ _ _ _ => rfl
  have bN2 := DN.binds (ps := ["thing", "least", "most"]) (ds := [.none]) fun T kV doc pm an cdv ct us hl => match us, (show us.length = 2 by simpa using hl) with | [_, _], _ => ⟨_, rfl, rfl⟩
  refine D.F.ok scPacked (fun vs H Q E h => ?_) (fun cdv A outer s H vs Q E hr h => ?_)
  · obtain ⟨a, ns, rfl, _⟩ := h
    rfl
  · obtain ⟨a, ns, rfl, hS, hpl, k⟩ := h
    have hl : (sizeLine : Nat) = 16777216 := sizeLine_eq
    refine ⟨_, pss_cons (ps_set (i := 1) scPacked.nd rfl (Or.inl rfl) (pe_lst pa_nil))
      (pss_cons (ps_for PassesOwn.never rfl (pi_list (pv 0)) (pg_name (i := 2) scPacked.nd rfl (Or.inl rfl))
        (pss_one (ps_expr (pe_bm PySem.F.plainAttrs_list PySem.F.slot_list_extend PySem.F.type_list_extend mt_extend (pv 1)
          (pa_cons (pe_call (GO.mono (by decide)) hr rfl DO.m DO.F.kp bO .nil pass0 (pa_cons (pe_call GN hr rfl DN.m DN.kp bN2 (dvs := [.non]) (.cons rfl .nil) passN (pa_cons (pv 2) (pa_cons pe_int pa_nil))) pa_nil)) pa_nil)))))
      (pss_one (ps_ret (pv 1)))), ?_⟩
    refine ⟨(by show 0 ≤ sizeLine; decide), fun p hp => ⟨_, rfl, a, rfl, ⟨_, (same_upd hp).seq hS⟩, ?_⟩⟩
    refine for_list (xs := nl ns) (fun i σ H' => ∃ (o : Option V), σ = [some (.ref a), some (.ref p), o] ∧ Same H H' ∧ H' p = some (.lst (nl (pk (ns.take i))))) ?_ ?_ ?_ ?_
    · exact ⟨none, rfl, same_upd hp, upd_same⟩
    · rintro i σ H' _ ⟨o, _, sm, _⟩
      exact sm.seq hS
    · rintro i x σ H' hxi ⟨o, rfl, sm, hP⟩
      obtain ⟨n, hn, rfl⟩ := nl_get hxi
      have e1 : pk (ns.take (i + 1)) = pk (ns.take i) ++ pk1 n := by rw [List.take_add_one, hn, pk_app]; exact congrArg _ (pk_one n)
      have e2 : pk ns = pk (ns.take (i + 1)) ++ pk (ns.drop (i + 1)) := by rw [← pk_app, List.take_append_drop]
      have hle : (pk (ns.take i)).length + (pk1 n).length ≤ 2000 := by
        rw [e2, List.length_append, e1, List.length_append] at hpl
        omega
      refine ⟨_, rfl, .inl ⟨rfl, _, SqL.of hP⟩, _, rfl, n, rfl, n, rfl, by omega, fun p2 H2 s2 hp2 hP2 => ?_⟩
      refine ⟨p, p2, _, _, rfl, rfl, s2 _ _ hP, hP2, (by rw [nl_len, nl_len]; omega), _, rfl, fun b u e => ?_, ?_⟩
      · rw [upd_ne (ne_of_none e hp)]
        exact s2 _ _ (sm _ _ e)
      · rw [upd_same, e1, nl_app]
    · rintro σ H' ⟨o, rfl, sm, hP⟩
      rw [nl_len, List.take_length] at hP
      exact ⟨_, rfl, k p H' sm hp hP⟩
theorem scRis : FnScope ["numbers", "least", "number"] ["numbers"] (defScope sRis) := ⟨rfl, rfl, rfl, by decide +kernel, rfl, by decide +kernel, by decide +kernel⟩
noncomputable def spRis (K : PySem.W.Frag) (S : PySem.W.Frag → Hp → Addr → List V → Prop) : Sp := fun vs H Q _ => ∃ (a : Addr) (ns : List Nat), vs = [.ref a] ∧ S K H a (nl ns) ∧ ris 0 ns ∧ Q (.bl true) H
seal PSs PS PE PT PA PG PI PGs PIfs in
theorem ok_risL {f fw : Addr} {fd fdw : FuncData} (D : Df K mg "is_rising" sRis f fd) (DW : Df K mg "is_whole" sWhole fw fdw) (T : Txt mg) : FnOk P w K mg base CX0 2 f fd ["numbers"] (spRis K SqL) := by
  have GW : FnOk P w K mg base CX0 1 fw fdw ["thing"] (spWhole K) := ok_whole DW T
  have bW := binds1 (p := "thing") DW.F fun _ _ _ _ _ _ _ => rfl
  refine D.F.ok scRis (fun vs H Q E h => ?_) (fun cdv A outer s H vs Q E hr h => ?_)
  · obtain ⟨a, xs, rfl, _⟩ := h
    rfl
  · obtain ⟨a, ns, rfl, hS, hris, k⟩ := h
    refine ⟨_, pss_cons (ps_set (i := 1) scRis.nd rfl (Or.inl rfl) pe_int)
      (pss_cons (ps_for PassesOwn.never rfl (pi_list (pv 0)) (pg_name (i := 2) scRis.nd rfl (Or.inl rfl))
        (pss_cons (ps_if (PW.pt (pw_or (pt_not (pt_val (pe_call GW hr rfl DW.m DW.F.kp bW .nil pass0 (pa_cons (pv 2) pa_nil)))) (pw_or1 (pt_cmpR op_lt (pv 2) (pv 1) (nomark _))))) (pss_one (ps_ret pe_bl)) pss_nil)
        (pss_one (ps_set (i := 1) scRis.nd rfl (Or.inl rfl) (pe_op op_add (pv 2) pe_int)))))
      (pss_one (ps_ret pe_bl))), ?_⟩
    refine ⟨_, rfl, a, rfl, ⟨_, hS⟩, ?_⟩
    refine for_list (xs := nl ns) (fun i σ H' => H' = H ∧ ∃ (l : Nat) (o : Option V), σ = [some (.ref a), some (.int (l : Int)), o] ∧ ris l (ns.drop i)) ?_ ?_ ?_ ?_
    · exact ⟨rfl, 0, none, rfl, hris⟩
    · rintro i σ H' _ ⟨rfl, _⟩
      exact hS
    · rintro i x σ H' hx ⟨rfl, l, o, rfl, he⟩
      obtain ⟨n, hn, rfl⟩ := nl_get hx
      rw [drop_at hn] at he
      refine ⟨_, rfl, .int (n : Int), rfl, known_nat _, _, rfl, iteF ⟨_, rfl, _, rfl, _, _, rfl, rfl, _, rfl, ?_⟩⟩
      have h1 := he.1
      rw [decide_eq_false (by omega)]
      exact iteF ⟨_, rfl, _, _, rfl, rfl, rfl, n + 1, _, rfl, he.2⟩
    · rintro σ H' ⟨rfl, l, o, rfl, he⟩
      exact k
seal PSs PS PE PT PA PG PI PGs PIfs in
theorem ok_risT {f fw : Addr} {fd fdw : FuncData} (D : Df K mg "is_rising" sRis f fd) (DW : Df K mg "is_whole" sWhole fw fdw) (T : Txt mg) : FnOk P w K mg base CX0 2 f fd ["numbers"] (spRis K SqT) := by
  have GW : FnOk P w K mg base CX0 1 fw fdw ["thing"] (spWhole K) := ok_whole DW T
  have bW := binds1 (p := "thing") DW.F fun _ _ _ _ _ _ _ => rfl
  refine D.F.ok scRis (fun vs H Q E h => ?_) (fun cdv A outer s H vs Q E hr h => ?_)
  · obtain ⟨a, xs, rfl, _⟩ := h
    rfl
  · obtain ⟨a, ns, rfl, hS, hris, k⟩ := h
    refine ⟨_, pss_cons (ps_set (i := 1) scRis.nd rfl (Or.inl rfl) pe_int)
      (pss_cons (ps_for PassesOwn.never rfl (pi_tup (pv 0)) (pg_name (i := 2) scRis.nd rfl (Or.inl rfl))
        (pss_cons (ps_if (PW.pt (pw_or (pt_not (pt_val (pe_call GW hr rfl DW.m DW.F.kp bW .nil pass0 (pa_cons (pv 2) pa_nil)))) (pw_or1 (pt_cmpR op_lt (pv 2) (pv 1) (nomark _))))) (pss_one (ps_ret pe_bl)) pss_nil)
        (pss_one (ps_set (i := 1) scRis.nd rfl (Or.inl rfl) (pe_op op_add (pv 2) pe_int)))))
      (pss_one (ps_ret pe_bl))), ?_⟩
    refine ⟨_, rfl, a, rfl, ⟨_, hS⟩, ?_⟩
    refine for_tup (xs := nl ns) (fun i σ H' => H' = H ∧ ∃ (l : Nat) (o : Option V), σ = [some (.ref a), some (.int (l : Int)), o] ∧ ris l (ns.drop i)) ?_ ?_ ?_ ?_
    · exact ⟨rfl, 0, none, rfl, hris⟩
    · rintro i σ H' _ ⟨rfl, _⟩
      exact hS
    · rintro i x σ H' hx ⟨rfl, l, o, rfl, he⟩
      obtain ⟨n, hn, rfl⟩ := nl_get hx
      rw [drop_at hn] at he
      refine ⟨_, rfl, .int (n : Int), rfl, known_nat _, _, rfl, iteF ⟨_, rfl, _, rfl, _, _, rfl, rfl, _, rfl, ?_⟩⟩
      have h1 := he.1
      rw [decide_eq_false (by omega)]
      exact iteF ⟨_, rfl, _, _, rfl, rfl, rfl, n + 1, _, rfl, he.2⟩
    · rintro σ H' ⟨rfl, l, o, rfl, he⟩
      exact k
noncomputable def spHasP : Sp := fun vs H Q _ => ∃ (x : V) (r : Pr), vs = [x] ∧ PrAt H x r ∧ r.2 ≠ [] ∧ ris 0 r.2 ∧ Q (.bl true) H
theorem scHasP : FnScope ["thing", "places"] ["thing"] (defScope sHasP) := ⟨rfl, rfl, rfl, by decide +kernel, rfl, by decide +kernel, by decide +kernel⟩
seal PSs PS PE PT PA PG PI PGs PIfs in
theorem ok_hasp {f fr : Addr} {fd fdr : FuncData} (D : Df K mg "has_places" sHasP f fd) (DR : Df K mg "is_rising" sRis fr fdr) (GR : FnOk P w K mg base CX0 2 fr fdr ["numbers"] (spRis K SqT)) (T : Txt mg) : FnOk P w K mg base CX0 3 f fd ["thing"] spHasP := by
  have bR := binds1 (p := "numbers") DR.F fun _ _ _ _ _ _ _ => rfl
  refine D.F.ok scHasP (fun vs H Q E h => ?_) (fun cdv A outer s H vs Q E hr h => ?_)
  · obtain ⟨x, b, rfl, _⟩ := h
    rfl
  · obtain ⟨x, r, rfl, hp, h0, hris, k⟩ := h
    refine ⟨_, pss_cons (ps_if (PW.pt (pw_or (pt_not (pt_val (pe_callB call_isi rfl T.isi b_isi (pa_cons (pv 0) (pa_cons (pe_bltn (v := .ty "tuple") rfl T.tuple b_tuple rfl) pa_nil)))))
        (pw_or1 (pt_cmpR op_ne (pe_callB call_len_seq rfl T.len b_len (pa_cons (pv 0) pa_nil)) pe_int (nomark _))))) (pss_one (ps_ret pe_bl)) pss_nil)
      (pss_cons (ps_set (i := 1) scHasP.nd rfl (Or.inl rfl) (pe_ix ix_tup (pv 0) pe_int (fun _ _ => rfl)))
      (pss_one (ps_ret (pe_and (pe_callB call_isi rfl T.isi b_isi (pa_cons (pv 1) (pa_cons (pe_bltn (v := .ty "tuple") rfl T.tuple b_tuple rfl) pa_nil)))
        (pe_and (pe_cmpR op_gt (pe_callB call_len_seq rfl T.len b_len (pa_cons (pv 1) pa_nil)) pe_int (nomark _)) (pe_one (pe_call GR hr rfl DR.m DR.F.kp bR .nil pass0 (pa_cons (pv 1) pa_nil)))))))), ?_⟩
    cases hp with
    | mk h ht =>
      rename_i p t n pl
      refine ⟨_, rfl, .ref p, .ty "tuple", _, _, rfl, .tup h, .inl ⟨_, rfl, kit_tt⟩, _, rfl, iteF ?_⟩
      refine ⟨_, rfl, p, _, rfl, .inr (SqT.of h), rfl, _, rfl, iteF ?_⟩
      refine ⟨_, rfl, p, _, _, _, rfl, rfl, SqT.of h, atI_nat (j := 1) rfl, ?_⟩
      refine ⟨_, rfl, .ref t, .ty "tuple", _, _, rfl, .tup ht, .inl ⟨_, rfl, kit_tt⟩, _, rfl, iteT ?_⟩
      refine ⟨_, rfl, t, _, rfl, .inr (SqT.of ht), _, _, rfl, rfl, _, rfl, ?_⟩
      have h1 : 0 < (nl pl).length := by rw [nl_len]; exact List.length_pos_iff.mpr h0
      rw [decide_eq_true (show (0 : Int) < (((nl pl).length : Nat) : Int) by omega)]
      exact iteT ⟨_, rfl, t, pl, rfl, SqT.of ht, hris, k⟩
noncomputable def spNRow : Sp := fun vs H Q _ => ∃ (a : Addr) (row : List Pr), vs = [.ref a] ∧ RowAt H a row ∧ RowOk 0 row ∧ row.length ≤ 2000 ∧ ∀ H', Same H H' → Q (.ref a) H'
theorem scNRow : FnScope ["thing"] ["thing"] (defScope sNRow) := ⟨rfl, rfl, rfl, by decide +kernel, rfl, by decide +kernel, by decide +kernel⟩
theorem ndPair : (["pair"] : List Str).Nodup := by decide +kernel
theorem ndNP : (["number", "places"] : List Str).Nodup := by decide +kernel
seal PSs PS PE PT PA PG PI PGs PIfs in
theorem ok_nrow {f fr fh : Addr} {fd fdr fdh : FuncData} (D : Df K mg "need_row" sNRow f fd) (DR : Df K mg "is_rising" sRis fr fdr) (GR : FnOk P w K mg base CX0 2 fr fdr ["numbers"] (spRis K SqL))
    (DH : Df K mg "has_places" sHasP fh fdh) (GH : FnOk P w K mg base CX0 3 fh fdh ["thing"] spHasP) (T : Txt mg) : FnOk P w K mg base CX0 4 f fd ["thing"] spNRow := by
  have bR := binds1 (p := "numbers") DR.F fun _ _ _ _ _ _ _ => rfl
  have bH := binds1 (p := "thing") DH.F fun _ _ _ _ _ _ _ => rfl
  refine D.F.ok scNRow (fun vs H Q E h => ?_) (fun cdv A outer s H vs Q E hr h => ?_)
  · obtain ⟨a, row, rfl, _⟩ := h
    rfl
  · obtain ⟨a, row, rfl, ⟨xs, hA, hp⟩, ho, hlen, k⟩ := h
    have hl : (sizeLine : Nat) = 16777216 := sizeLine_eq
    have hxl := Gn.Paired.len hp
    refine ⟨_, pss_cons (ps_if (pt_not (pt_val (pe_callB call_isi rfl T.isi b_isi (pa_cons (pv 0) (pa_cons (pe_bltn (v := .ty "list") rfl T.list b_list rfl) pa_nil))))) (pss_one ps_never) pss_nil)
      (pss_cons (ps_if (pt_not (pt_val (pe_callB (call_all_bools rfl) rfl T.all b_all (pa_cons (pe_comp (own := 1) (caps := []) (N := ["pair"]) (N0 := ["thing"]) (sc0 := defScope sNRow) rfl (pi_list (pv 0))
        (fun _ _ _ => pg_name (i := 0) ndPair rfl (Or.inl rfl)) (fun _ _ _ => pf_none) (fun _ _ _ => pe_call (GH.mono (by decide)) hr rfl DH.m DH.F.kp bH .nil pass0 (pa_cons (pv 0) pa_nil)) (gk_name (by decide)) rfl rfl
        (by decide +kernel) rfl (by decide +kernel) (by decide +kernel) rfl (by decide +kernel)) pa_nil)))) (pss_one ps_never) pss_nil)
      (pss_cons (ps_if (pt_not (pt_val (pe_call (GR.mono (by decide)) hr rfl DR.m DR.F.kp bR .nil pass0 (pa_cons (pe_comp (own := 2) (caps := []) (N := ["number", "places"]) (N0 := ["thing"]) (sc0 := defScope sNRow) rfl (pi_list (pv 0))
        (fun _ _ _ => pg_tup (n := 2) rfl (pgs_cons (pg_name (i := 0) ndNP rfl (Or.inl rfl)) (pgs_cons (pg_name (i := 1) ndNP rfl (Or.inl rfl)) pgs_nil))) (fun _ _ _ => pf_none) (fun _ _ _ => pv 0) (gk_tup (gks_cons (gk_name (by decide)) (gks_cons (gk_name (by decide)) gks_nil))) rfl rfl
        (by decide +kernel) rfl (by decide +kernel) (by decide +kernel) rfl (by decide +kernel)) pa_nil)))) (pss_one ps_never) pss_nil)
      (pss_one (ps_ret (pv 0))))), ?_⟩
    refine ⟨_, rfl, .ref a, .ty "list", _, _, rfl, .lst hA, .inl ⟨_, rfl, kit_ll⟩, _, rfl, iteF ?_⟩
    refine ⟨_, rfl, a, rfl, ⟨_, SqL.of hA⟩, comp_itl (xs := xs) (fun i ys H' => H' = H ∧ ys = (List.replicate i true).map V.bl) (by omega) (fun i ys H' q => by rw [q.1]; exact SqL.of hA) ⟨rfl, rfl⟩ ?_ ?_⟩
    · rintro i v ys H' N hv ⟨rfl, rfl⟩ hN
      obtain ⟨r, hr', hpr⟩ := paired_get hp hv
      have hm := ho.p r (List.mem_of_getElem? hr')
      refine g1 ?_
      exact ⟨_, rfl, v, r, rfl, hpr, hm.1, hm.2, hN _ _ ⟨rfl, by rw [List.replicate_succ', List.map_append]; rfl⟩⟩
    · rintro ys H' ⟨rfl, rfl⟩ _ q hq
      refine ⟨q, List.replicate xs.length true, rfl, SqL.of upd_same, ?_⟩
      rw [all_rep]
      refine ⟨_, rfl, iteF ?_⟩
      have s1 : Same H' (upd H' q (.lst ((List.replicate xs.length true).map V.bl))) := same_upd hq
      generalize upd H' q (.lst ((List.replicate xs.length true).map V.bl)) = H1 at s1 ⊢
      refine ⟨_, rfl, a, rfl, ⟨_, SqL.of (s1 _ _ hA)⟩, comp_itl (xs := xs) (fun i ys H2 => H2 = H1 ∧ ys = (nl (row.map (·.1))).take i) (by omega) (fun i ys H2 q => by rw [q.1]; exact SqL.of (s1 _ _ hA)) ⟨rfl, rfl⟩ ?_ ?_⟩
      · rintro i v ys H2 N hv ⟨rfl, rfl⟩ hN
        obtain ⟨r, hr', hpr⟩ := paired_get hp hv
        cases hpr with
        | mk h ht =>
          refine ⟨_, _, rfl, SqT.of (s1 _ _ h), rfl, _, _, rfl, _, _, rfl, rfl, nif ?_⟩
          refine ⟨_, rfl, hN _ _ ⟨rfl, ?_⟩⟩
          rw [List.take_add_one, List.getElem?_map, List.getElem?_map, hr']
          rfl
      · rintro ys H2 ⟨rfl, rfl⟩ _ q2 hq2
        have hnl : (nl (row.map (·.1))).length = row.length := by rw [nl_len, List.length_map]
        rw [List.take_of_length_le (by omega)]
        exact ⟨q2, row.map (·.1), rfl, SqL.of upd_same, ho.n, _, rfl, iteF ⟨_, rfl, k _ (Same.upd s1 hq2)⟩⟩
noncomputable def spGaps (K : PySem.W.Frag) (S : PySem.W.Frag → Hp → Addr → List V → Prop) : Sp := fun vs H Q _ => ∃ (a : Addr) (ns : List Nat), vs = [.ref a] ∧ S K H a (nl ns) ∧ ris 0 ns ∧ ns.length ≤ 2000 ∧ ∀ p H', Same H H' → H p = none → H' p = some (.lst (nl (gaps 0 ns))) → Q (.ref p) H'
theorem scGaps : FnScope ["numbers", "gaps", "least", "number"] ["numbers"] (defScope sGaps) := ⟨rfl, rfl, rfl, by decide +kernel, rfl, by decide +kernel, by decide +kernel⟩
seal PSs PS PE PT PA PG PI PGs PIfs in
theorem ok_gapsL {f : Addr} {fd : FuncData} (D : Df K mg "gaps_of" sGaps f fd) : FnOk P w K mg base CX0 1 f fd ["numbers"] (spGaps K SqL) := by
  refine D.F.ok scGaps (fun vs H Q E h => ?_) (fun cdv A outer s H vs Q E hr h => ?_)
  · obtain ⟨a, ns, rfl, _⟩ := h
    rfl
  · obtain ⟨a, ns, rfl, hS, hris, hlen, k⟩ := h
    have hl : (sizeLine : Nat) = 16777216 := sizeLine_eq
    refine ⟨_, pss_cons (ps_set (i := 1) scGaps.nd rfl (Or.inl rfl) (pe_lst pa_nil))
      (pss_cons (ps_set (i := 2) scGaps.nd rfl (Or.inl rfl) pe_int)
      (pss_cons (ps_for PassesOwn.never rfl (pi_list (pv 0)) (pg_name (i := 3) scGaps.nd rfl (Or.inl rfl))
        (pss_cons (ps_expr (pe_bm PySem.F.plainAttrs_list PySem.F.slot_list_append PySem.F.type_list_append mt_append (pv 1) (pa_cons (pe_op op_sub (pv 3) (pv 2)) pa_nil)))
        (pss_one (ps_set (i := 2) scGaps.nd rfl (Or.inl rfl) (pe_op op_add (pv 3) pe_int)))))
      (pss_one (ps_ret (pv 1))))), ?_⟩
    refine ⟨(by show 0 ≤ sizeLine; decide), fun p hp => ⟨_, rfl, a, rfl, ⟨_, (same_upd hp).seq hS⟩, ?_⟩⟩
    refine for_list (xs := nl ns) (fun i σ H' => ∃ (done : List Nat) (l : Nat) (o : Option V), σ = [some (.ref a), some (.ref p), some (.int l), o] ∧ H' = upd H p (.lst (nl done)) ∧ done.length = i ∧ Gp ns done l (ns.drop i)) ?_ ?_ ?_ ?_
    · exact ⟨[], 0, none, rfl, rfl, rfl, rfl, hris⟩
    · rintro i σ H' _ ⟨done, l, o, _, rfl, _⟩
      exact (same_upd hp).seq hS
    · rintro i x σ H' hx ⟨done, l, o, rfl, rfl, hd, hG⟩
      obtain ⟨n, hn, rfl⟩ := nl_get hx
      rw [drop_at hn] at hG
      obtain ⟨hle, hG'⟩ := hG.step
      have hil := (List.getElem?_eq_some_iff.mp hn).1
      refine ⟨_, rfl, .inl ⟨rfl, _, SqL.of upd_same⟩, _, rfl, _, rfl, _, _, rfl, rfl, p, _, _, rfl, rfl, upd_same, (by rw [nl_len]; omega), ?_⟩
      have e : ((n : Int) - (l : Int)) = ((n - l : Nat) : Int) := by omega
      refine ⟨_, rfl, _, _, rfl, rfl, done ++ [n - l], n + 1, _, rfl, ?_, by rw [List.length_append, hd]; rfl, hG'⟩
      rw [upd_upd, nl_app]
      exact congrArg (fun z => upd H p (.lst (nl done ++ [V.int z]))) e
    · rintro σ H' ⟨done, l, o, rfl, rfl, hd, hG⟩
      rw [nl_len, List.drop_length] at hG
      have e : gaps 0 ns = done := by rw [hG.1]; exact List.append_nil _
      exact ⟨_, rfl, k p _ (same_upd hp) hp (by rw [upd_same, e])⟩
seal PSs PS PE PT PA PG PI PGs PIfs in
theorem ok_gapsT {f : Addr} {fd : FuncData} (D : Df K mg "gaps_of" sGaps f fd) : FnOk P w K mg base CX0 1 f fd ["numbers"] (spGaps K fun _ H a xs => H a = some (.tup xs)) := by
  refine D.F.ok scGaps (fun vs H Q E h => ?_) (fun cdv A outer s H vs Q E hr h => ?_)
  · obtain ⟨a, ns, rfl, _⟩ := h
    rfl
  · obtain ⟨a, ns, rfl, hS, hris, hlen, k⟩ := h
    have hl : (sizeLine : Nat) = 16777216 := sizeLine_eq
    refine ⟨_, pss_cons (ps_set (i := 1) scGaps.nd rfl (Or.inl rfl) (pe_lst pa_nil))
      (pss_cons (ps_set (i := 2) scGaps.nd rfl (Or.inl rfl) pe_int)
      (pss_cons (ps_for PassesOwn.never rfl (pi_tup (pv 0)) (pg_name (i := 3) scGaps.nd rfl (Or.inl rfl))
        (pss_cons (ps_expr (pe_bm PySem.F.plainAttrs_list PySem.F.slot_list_append PySem.F.type_list_append mt_append (pv 1) (pa_cons (pe_op op_sub (pv 3) (pv 2)) pa_nil)))
        (pss_one (ps_set (i := 2) scGaps.nd rfl (Or.inl rfl) (pe_op op_add (pv 3) pe_int)))))
      (pss_one (ps_ret (pv 1))))), ?_⟩
    refine ⟨(by show 0 ≤ sizeLine; decide), fun p hp => ⟨_, rfl, a, rfl, ⟨_, SqT.of (same_upd hp _ _ hS)⟩, ?_⟩⟩
    refine for_tup (xs := nl ns) (fun i σ H' => ∃ (done : List Nat) (l : Nat) (o : Option V), σ = [some (.ref a), some (.ref p), some (.int l), o] ∧ H' = upd H p (.lst (nl done)) ∧ done.length = i ∧ Gp ns done l (ns.drop i)) ?_ ?_ ?_ ?_
    · exact ⟨[], 0, none, rfl, rfl, rfl, rfl, hris⟩
    · rintro i σ H' _ ⟨done, l, o, _, rfl, _⟩
      exact SqT.of (same_upd hp _ _ hS)
    · rintro i x σ H' hx ⟨done, l, o, rfl, rfl, hd, hG⟩
      obtain ⟨n, hn, rfl⟩ := nl_get hx
      rw [drop_at hn] at hG
      obtain ⟨hle, hG'⟩ := hG.step
      have hil := (List.getElem?_eq_some_iff.mp hn).1
      refine ⟨_, rfl, .inl ⟨rfl, _, SqL.of upd_same⟩, _, rfl, _, rfl, _, _, rfl, rfl, p, _, _, rfl, rfl, upd_same, (by rw [nl_len]; omega), ?_⟩
      have e : ((n : Int) - (l : Int)) = ((n - l : Nat) : Int) := by omega
      refine ⟨_, rfl, _, _, rfl, rfl, done ++ [n - l], n + 1, _, rfl, ?_, by rw [List.length_append, hd]; rfl, hG'⟩
      rw [upd_upd, nl_app]
      exact congrArg (fun z => upd H p (.lst (nl done ++ [V.int z]))) e
    · rintro σ H' ⟨done, l, o, rfl, rfl, hd, hG⟩
      rw [nl_len, List.drop_length] at hG
      have e : gaps 0 ns = done := by rw [hG.1]; exact List.append_nil _
      exact ⟨_, rfl, k p _ (same_upd hp) hp (by rw [upd_same, e])⟩
structure Sz (row : List Pr) : Prop where
  l : row.length ≤ 2000
  r : (rn 0 row).length ≤ 2000
  p : (pk (rn 0 row)).length ≤ 2000
noncomputable def spPRow : Sp := fun vs H Q _ => ∃ (a : Addr) (row : List Pr), vs = [.ref a] ∧ RowAt H a row ∧ RowOk 0 row ∧ Sz row ∧ ∀ p H', Same H H' → H p = none → H' p = some (.lst (nl (pk (rn 0 row)))) → Q (.ref p) H'
theorem scPRow : FnScope ["row", "gaps", "told", "at", "pair", "places"] ["row"] (defScope sPRow) := ⟨rfl, rfl, rfl, by decide +kernel, rfl, by decide +kernel, by decide +kernel⟩
structure Rp (row : List Pr) (gs done : List Nat) (l i : Nat) : Prop where
  r : rn 0 row = done ++ rn l (row.drop i)
  g : gs.drop i = gaps l ((row.drop i).map (·.1))
  o : RowOk l (row.drop i)
theorem Rp.step {row : List Pr} {gs done : List Nat} {l i n : Nat} {pl : List Nat} (h : Rp row gs done l i) (hx : row[i]? = some (n, pl)) :
    gs[i]? = some (n - l) ∧ pl ≠ [] ∧ ris 0 pl ∧ Rp row gs (done ++ [n - l, pl.length - 1] ++ gaps 0 pl) (n + 1) (i + 1) := by
  obtain ⟨hr, hg, ho⟩ := h
  rw [drop_at hx] at hr hg ho
  have hg' : gs.drop i = (n - l) :: gaps (n + 1) ((row.drop (i + 1)).map (·.1)) := hg
  have h1 : gs[i]? = some (n - l) := by
    have := congrArg (fun z => z[0]?) hg'
    simpa using this
  refine ⟨h1, ho.head.2.1, ho.head.2.2, ?_, ?_, ho.tail⟩
  · rw [hr]
    show done ++ (n - l) :: (pl.length - 1) :: (gaps 0 pl ++ rn (n + 1) (row.drop (i + 1))) = _
    simp [List.append_assoc]
  · have := drop_at h1
    rw [this] at hg'
    exact (List.cons.inj hg').2
seal PSs PS PE PT PA PG PI PGs PIfs in
theorem ok_prow {f fn fg fp : Addr} {fd fdn fdg fdp : FuncData} (D : Df K mg "packed_row" sPRow f fd) (DN : Df K mg "need_row" sNRow fn fdn) (GN : FnOk P w K mg base CX0 4 fn fdn ["thing"] spNRow)
    (DG : Df K mg "gaps_of" sGaps fg fdg) (DP : Df K mg "packed" sPacked fp fdp) (GP : FnOk P w K mg base CX0 3 fp fdp ["numbers"] (spPacked K)) (T : Txt mg) : FnOk P w K mg base CX0 5 f fd ["row"] spPRow := by
  have GL : FnOk P w K mg base CX0 1 fg fdg ["numbers"] (spGaps K SqL) := ok_gapsL DG
  have GT : FnOk P w K mg base CX0 1 fg fdg ["numbers"] (spGaps K fun _ H a xs => H a = some (.tup xs)) := ok_gapsT DG
  have bN := binds1 (p := "thing") DN.F fun _ _ _ _ _ _ _ => rfl
  have bG := binds1 (p := "numbers") DG.F fun _ _ _ _ _ _ _ => rfl
  have bP := binds1 (p := "numbers") DP.F fun _ _ _ _ _ _ _ => rfl
  refine D.F.ok scPRow (fun vs H Q E h => ?_) (fun cdv A outer s H vs Q E hr h => ?_)
  · obtain ⟨a, row, rfl, _⟩ := h
    rfl
  · obtain ⟨a, row, rfl, hR, ho, hs, k⟩ := h
    have hl : (sizeLine : Nat) = 16777216 := sizeLine_eq
    refine ⟨_, pss_cons (ps_set (i := 1) scPRow.nd rfl (Or.inl rfl) (pe_call (GL.mono (by decide)) hr rfl DG.m DG.F.kp bG .nil pass0 (pa_cons (pe_comp (own := 2) (caps := []) (N := ["number", "places"]) (N0 := ["row", "gaps", "told", "at", "pair", "places"]) (sc0 := defScope sPRow) rfl (pi_list (pe_call GN hr rfl DN.m DN.F.kp bN .nil pass0 (pa_cons (pv 0) pa_nil)))
        (fun _ _ _ => pg_tup (n := 2) rfl (pgs_cons (pg_name (i := 0) ndNP rfl (Or.inl rfl)) (pgs_cons (pg_name (i := 1) ndNP rfl (Or.inl rfl)) pgs_nil))) (fun _ _ _ => pf_none) (fun _ _ _ => pv 0) (gk_tup (gks_cons (gk_name (by decide)) (gks_cons (gk_name (by decide)) gks_nil))) rfl rfl
        (by decide +kernel) rfl (by decide +kernel) (by decide +kernel) rfl (by decide +kernel)) pa_nil)))
      (pss_cons (ps_set (i := 2) scPRow.nd rfl (Or.inl rfl) (pe_lst pa_nil))
      (pss_cons (ps_for PassesOwn.never rfl (pi_enumL rfl T.enum (pa_cons (pv 0) pa_nil)) (pg_tup (n := 2) rfl (pgs_cons (pg_name (i := 3) scPRow.nd rfl (Or.inl rfl)) (pgs_cons (pg_name (i := 4) scPRow.nd rfl (Or.inl rfl)) pgs_nil)))
        (pss_cons (ps_set (i := 5) scPRow.nd rfl (Or.inl rfl) (pe_ix ix_tup (pv 4) pe_int (fun _ _ => rfl)))
        (pss_cons (ps_expr (pe_bm PySem.F.plainAttrs_list PySem.F.slot_list_extend PySem.F.type_list_extend mt_extend (pv 2) (pa_cons (pe_lst (pa_cons (pe_ix ix_list (pv 1) (pv 3) (fun _ _ => rfl)) (pa_cons (pe_op op_sub (pe_callB call_len_seq rfl T.len b_len (pa_cons (pv 5) pa_nil)) pe_int) pa_nil))) pa_nil)))
        (pss_one (ps_expr (pe_bm PySem.F.plainAttrs_list PySem.F.slot_list_extend PySem.F.type_list_extend mt_extend (pv 2) (pa_cons (pe_call (GT.mono (by decide)) hr rfl DG.m DG.F.kp bG .nil pass0 (pa_cons (pv 5) pa_nil)) pa_nil)))))))
      (pss_one (ps_ret (pe_call (GP.mono (by decide)) hr rfl DP.m DP.F.kp bP .nil pass0 (pa_cons (pv 2) pa_nil)))))), ?_⟩
    refine ⟨_, rfl, ?_⟩
    refine ⟨a, row, rfl, hR, ho, hs.l, fun H1 s1 => ?_⟩
    obtain ⟨xs, hA, hp⟩ := hR.same s1
    have hxl := Gn.Paired.len hp
    have hrl := hs.l
    refine ⟨a, rfl, ⟨_, SqL.of hA⟩, comp_itl (xs := xs) (fun i ys H' => H' = H1 ∧ ys = (nl (row.map (·.1))).take i) (by omega) (fun i ys H' q => by rw [q.1]; exact SqL.of hA) ⟨rfl, rfl⟩ ?_ ?_⟩
    · rintro i v ys H' N hv ⟨rfl, rfl⟩ hN
      obtain ⟨r, hr', hpr⟩ := paired_get hp hv
      cases hpr with
      | mk h ht =>
        refine ⟨_, _, rfl, SqT.of h, rfl, _, _, rfl, _, _, rfl, rfl, nif ?_⟩
        refine ⟨_, rfl, hN _ _ ⟨rfl, ?_⟩⟩
        rw [List.take_add_one, List.getElem?_map, List.getElem?_map, hr']
        rfl
    · rintro ys H' ⟨rfl, rfl⟩ _ q hq
      have hnl : (nl (row.map (·.1))).length = row.length := by rw [nl_len, List.length_map]
      rw [List.take_of_length_le (by omega)]
      refine ⟨q, row.map (·.1), rfl, SqL.of upd_same, ho.n, by rw [List.length_map]; omega, fun pG H2 s2 hpG hG => ?_⟩
      have s02 : Same H' H2 := (same_upd hq).trans s2
      replace hA := s02 _ _ hA
      replace hp := Gn.Paired.imp2 hp fun _ _ q => PrAt.same q s02
      refine ⟨(by show 0 ≤ sizeLine; decide), fun pT hpT => ?_⟩
      have hAT := same_upd (o := .lst []) hpT _ _ hA
      refine ⟨_, rfl, a, xs, rfl, hAT, ?_⟩
      refine for_iel (xs := xs) (fun i σ H' => ∃ (done : List Nat) (l : Nat) (o3 o4 o5 : Option V), σ = [some (.ref a), some (.ref pG), some (.ref pT), o3, o4, o5] ∧ Same H2 H' ∧ H' pT = some (.lst (nl done)) ∧ Rp row (gaps 0 (row.map (·.1))) done l i) ?_ ?_ ?_ ?_
      · exact ⟨[], 0, none, none, none, rfl, same_upd hpT, upd_same, rfl, rfl, ho⟩
      · rintro i σ H3 _ ⟨_, _, _, _, _, _, sm, _⟩
        exact sm _ _ hA
      · rintro i x σ H3 T hx ⟨done, l, o3, o4, o5, rfl, sm, hT, hRp⟩ hTn
        obtain ⟨r, hri, hpr⟩ := paired_get hp hx
        cases hpr with
        | mk h ht =>
          rename_i p t n pl
          obtain ⟨hgi, hpl0, hris, hRp'⟩ := hRp.step hri
          have hdl : (done ++ [n - l, pl.length - 1] ++ gaps 0 pl).length ≤ 2000 := by
            have h1 := hs.r
            rw [hRp'.r, List.length_append] at h1
            omega
          rw [List.length_append, List.length_append, gaps_len] at hdl
          have hdl' : done.length + 2 + pl.length ≤ 2000 := hdl
          have sT : Same H3 (upd H3 T (.tup [.int i, .ref p])) := same_upd hTn
          refine ⟨T, _, rfl, SqT.of upd_same, rfl, _, _, rfl, _, _, rfl, rfl, ?_⟩
          generalize upd H3 T (.tup [.int i, .ref p]) = H4 at sT ⊢
          replace sm := sm.trans sT
          replace hT := sT _ _ hT
          refine ⟨_, rfl, p, _, _, _, rfl, rfl, SqT.of (sm _ _ h), atI_nat (j := 1) rfl, ?_⟩
          refine ⟨_, rfl, .inl ⟨rfl, _, SqL.of hT⟩, ?_⟩
          refine ⟨_, rfl, _, rfl, pG, _, _, .int ((n - l : Nat) : Int), rfl, rfl, SqL.of (sm _ _ hG), atI_nat (by rw [List.getElem?_map, hgi]; rfl), ?_⟩
          refine ⟨_, rfl, t, _, rfl, .inr (SqT.of (sm _ _ ht)), _, _, rfl, rfl, (by show 2 ≤ sizeLine; decide), fun z hz => ?_⟩
          have sz := same_upd (o := .lst [.int ((n - l : Nat) : Int), .int (((nl pl).length : Nat) - 1)]) hz
          refine ⟨pT, z, _, _, rfl, rfl, sz _ _ hT, upd_same, (by rw [nl_len]; show _ + 2 ≤ sizeLine; omega), ?_⟩
          have hlp : 0 < pl.length := List.length_pos_iff.mpr hpl0
          have e1 : nl done ++ [V.int ((n - l : Nat) : Int), V.int (((nl pl).length : Nat) - 1)] = nl (done ++ [n - l, pl.length - 1]) := by
            rw [nl_app]
            have : ((((nl pl).length : Nat) : Int) - 1) = ((pl.length - 1 : Nat) : Int) := by rw [nl_len]; omega
            rw [this]
            rfl
          have hTz : pT ≠ z := ne_of_none hT hz
          have s5 : Same H2 (upd (upd H4 z (.lst [.int ((n - l : Nat) : Int), .int (((nl pl).length : Nat) - 1)])) pT (.lst (nl (done ++ [n - l, pl.length - 1])))) := fun b u e => by
            rw [upd_ne (ne_of_none e hpT)]
            exact sz _ _ (sm _ _ e)
          rw [e1]
          have hT5 : (upd (upd H4 z (.lst [.int ((n - l : Nat) : Int), .int (((nl pl).length : Nat) - 1)])) pT (.lst (nl (done ++ [n - l, pl.length - 1])))) pT = some (.lst (nl (done ++ [n - l, pl.length - 1]))) := upd_same
          generalize upd (upd H4 z (.lst [.int ((n - l : Nat) : Int), .int (((nl pl).length : Nat) - 1)])) pT (.lst (nl (done ++ [n - l, pl.length - 1]))) = H5 at s5 hT5 ⊢
          refine ⟨_, rfl, .inl ⟨rfl, _, SqL.of hT5⟩, ?_⟩
          refine ⟨_, rfl, t, pl, rfl, s5 _ _ ht, hris, by omega, fun pg H6 s6 hpg hg => ?_⟩
          refine ⟨pT, pg, _, _, rfl, rfl, s6 _ _ hT5, hg, (by rw [nl_len, nl_len, gaps_len, List.length_append]; show _ + 2 + _ ≤ sizeLine; omega), ?_⟩
          refine ⟨_, n + 1, _, _, _, rfl, fun b u e => ?_, ?_, hRp'⟩
          · rw [upd_ne (ne_of_none e hpT)]
            exact s6 _ _ (s5 _ _ e)
          · rw [upd_same, ← nl_app]
      · rintro σ H3 ⟨done, l, o3, o4, o5, rfl, sm, hT, hRp⟩
        have hr0 := hRp.r
        rw [hxl, List.drop_length] at hr0
        have hd : rn 0 row = done := by rw [hr0]; exact List.append_nil _
        subst hd
        have s04 := (s1.trans s02).trans sm
        exact ⟨_, rfl, pT, rn 0 row, rfl, SqL.of hT, hs.p, fun p H4 s4 hp4 hP => k p H4 (s04.trans s4) (s04.free hp4) hP⟩
end
end K06
set_option Elab.async false
set_option linter.all false
set_option maxRecDepth 100000
set_option maxHeartbeats 4000000
namespace L2
open PySem PySem.Spec PyProof.Rows
section
variable {X : Cx} {CX : CXT} {k : Nat} {f C : Addr} {fd : FuncData} {ps : List Str} {sp : Sp} {dvs : List V} {ds : List Value} {E : St → XK} {x m : Str} {p pos apos : Pos} {e o : Expr} {es : List Expr} {ta : TE} {t : TA}
noncomputable def tMakeS (C : Addr) (sp : Sp) (dvs : List V) (E : St → XK) (t : TA) : TE := fun σ H Q => t σ H fun vs H1 => ∀ x dx, H1 x = none → H1 dx = none → dx ≠ x →
  sp (.ref x :: (vs ++ dvs)) (upd (upd H1 dx (.own x)) x (.ins C dx [])) (fun v H2 => v = .non ∧ Q (.ref x) H2) (E σ)
theorem run_makeS {pins : List (Addr × Obj)} {σ : St} {H : Hp} {s : Shared} {Q : VK} {us : List Value} {vs : List V} (M : Mk X.K C f) (F : FnOk X.prog X.w X.K X.mg X.base CX k f fd ps sp) (hr : Room (k + 1) X.A) (hb : Binds X.K fd ps ds) (hd : Vals dvs ds)
    (hx : PassS CX X E) (I : Inv X pins σ H s) (r : Vals vs us)
    (h : ∀ x dx, H x = none → H dx = none → dx ≠ x → sp (.ref x :: (vs ++ dvs)) (upd (upd H dx (.own x)) x (.ins C dx [])) (fun v H2 => v = .non ∧ Q (.ref x) H2) (E σ)) :
    wpAny (model X.prog X.w) X.A (call (.ref C) us) (EP X pins σ Q) X.xe s := by
  have hq := h (s.heap.objs.size + 1) s.heap.objs.size (I.hok.fresh (Nat.le_succ _)) (I.hok.fresh (Nat.le_refl _)) (Nat.ne_of_lt (Nat.lt_succ_self _))
  have I2 := Inv.made (C := C) I
  have r2 : Vals (V.ref (s.heap.objs.size + 1) :: (vs ++ dvs)) (Value.ref (s.heap.objs.size + 1) :: (us ++ ds)) := .cons rfl (r.append hd)
  have hl : (Value.ref (s.heap.objs.size + 1) :: us ++ ds).length = ps.length := by
    have e := r2.length
    rw [F.len _ _ _ _ hq] at e
    exact e.symm
  refine wpAny_call (make_map (f := f) I.kIn M.makes M.init (beq_iff_eq.mp M.fn) (codeAny_mono (F.run _ X.stack _ _ ⟨Value.ref (s.heap.objs.size + 1) :: us, []⟩ (Value.ref (s.heap.objs.size + 1) :: (us ++ ds)) _ _ (E σ) (hr.make C us [])
    (I2.env0.make C us []) (hb _ (Value.ref (s.heap.objs.size + 1) :: us) I2.kIn hl) r2 hq) fun r s' hq' => ?_))
  cases r with
  | error e => exact hx pins σ _ _ e s' I2 hq'
  | ok fl =>
    cases fl with
    | ret u =>
      obtain ⟨v, H', I3, rv, ev, q3⟩ := I2.after hq'
      subst ev
      exact ⟨rv, ⟨V.ref (s.heap.objs.size + 1), H', I3, rfl, q3⟩⟩
    | next => exact False.elim hq'
    | brk => exact False.elim hq'
    | cont => exact False.elim hq'
theorem pe_makeS (M : Mk X.K C f) (F : FnOk X.prog X.w X.K X.mg X.base CX k f fd ps sp) (hr : Room (k + 1) X.A) (hg : Gl X x) (hm : X.mg x = some (.ref C)) (hb : Binds X.K fd ps ds) (hd : Vals dvs ds) (hx : PassS CX X E)
    (ha : PA X (e :: es) t) (hdb : (x == ("__debug__" : Str)) = false := by decide) (he : starEach (e :: es) X.env = (false, eval e X.env) :: starEach es X.env := by rfl) (hpl : (backTo pos (starEach es X.env)).any (·.1) = false := by rfl) :
    PE X (.Call (.Name x p) (e :: es) [] pos) (tMakeS C sp dvs E t) := by
  intro pins s σ H Q I h
  refine wpAny_Call_Name_kw (ld_glob I hg hm ?_ hdb)
  refine PySem.W.callWith_K (h₀ := X.base) I.ok.mod.kin M.kp (thn (ha pos pins s σ H _ I h) fun us s1 ⟨vs, H1, I1, r, q⟩ => ⟨I1.kIn, ?_⟩) he hpl
  exact run_makeS M F hr hb hd hx I1 r q
end
end L2
namespace K06
open PySem L2 PyProof.Rows PySem.Spec Gn K04
noncomputable def isPart : V → Bool
  | .int i => decide (0 ≤ i) && decide (i ≤ 255)
  | _ => false
noncomputable def toN : V → Nat
  | .int i => i.toNat
  | _ => 0
noncomputable def runV : List V → List Nat → Nat → Nat → Option (List Nat)
  | [], done, _, wt => if 1 < wt then none else some done
  | v :: r, done, num, wt => if isPart v = true then (if 128 ≤ toN v then runV r done (num + toN v % 128 * wt) (wt * 128) else if toN v = 0 ∧ 1 < wt then none else runV r (done ++ [num + toN v % 128 * wt]) 0 1) else none
noncomputable def rdV (xs : List V) : Option (List Nat) := runV xs [] 0 1
theorem runV_eq : ∀ (xs : List V) (done : List Nat) (num wt : Nat), runV xs done num wt = if xs.all isPart = true then K04.run (xs.map toN) done num wt else none
  | [], done, num, wt => rfl
  | v :: r, done, num, wt => by
    unfold runV
    rw [List.all_cons, List.map_cons]
    unfold K04.run
    cases hv : isPart v with
    | false => rfl
    | true =>
      rw [if_pos rfl, Bool.true_and, runV_eq r, runV_eq r]
      by_cases ha : r.all isPart = true
      · rw [if_pos ha, if_pos ha, if_pos ha]
      · rw [if_neg ha, if_neg ha, if_neg ha]
        by_cases h1 : 128 ≤ toN v
        · rw [if_pos h1]
        · rw [if_neg h1]
          by_cases h2 : toN v = 0 ∧ 1 < wt
          · rw [if_pos h2]
          · rw [if_neg h2]
theorem part_nat {v : V} (h : isPart v = true) : ∃ n : Nat, v = .int (n : Int) ∧ n ≤ 255 ∧ toN v = n := by
  cases v with
  | int i =>
    have h' : (decide (0 ≤ i) && decide (i ≤ 255)) = true := h
    rw [Bool.and_eq_true] at h'
    have h0 := of_decide_eq_true h'.1
    have h1 := of_decide_eq_true h'.2
    exact ⟨i.toNat, by rw [Int.toNat_of_nonneg h0], by omega, rfl⟩
  | _ => cases h
theorem part_of {n : Nat} (h : n ≤ 255) : isPart (.int (n : Int)) = true := by
  show (decide ((0 : Int) ≤ (n : Int)) && decide ((n : Int) ≤ 255)) = true
  rw [decide_eq_true (by omega), decide_eq_true (by omega)]
  rfl
theorem all_nl : ∀ {xs : List V}, xs.all isPart = true → xs = nl (xs.map toN) ∧ ∀ c ∈ xs.map toN, c ≤ 255
  | [], _ => ⟨rfl, fun c hc => nomatch hc⟩
  | v :: r, h => by
    rw [List.all_cons, Bool.and_eq_true] at h
    obtain ⟨n, rfl, hn, _⟩ := part_nat h.1
    obtain ⟨e, hr⟩ := all_nl h.2
    refine ⟨?_, fun c hc => ?_⟩
    · show V.int (n : Int) :: r = V.int (n : Int) :: nl (r.map toN)
      rw [← e]
    · rcases List.mem_cons.mp hc with z | hc
      · rw [z]; exact hn
      · exact hr c hc
theorem rd_pk {xs : List V} {ns : List Nat} (h : rdV xs = some ns) : xs = nl (pk ns) ∧ ns.length ≤ xs.length := by
  unfold rdV at h
  rw [runV_eq] at h
  by_cases ha : xs.all isPart = true
  · rw [if_pos ha] at h
    obtain ⟨e, hp⟩ := all_nl ha
    have := rdN_pk h hp
    refine ⟨by rw [this]; exact e, ?_⟩
    have hl := run_len _ _ _ _ _ h
    rw [List.length_map] at hl
    simpa using hl
  · rw [if_neg ha] at h; cases h
theorem rd_bad {xs : List V} (h : xs.all isPart = false) : rdV xs = none := by
  unfold rdV
  rw [runV_eq, h]
  rfl
theorem rd_good {xs : List V} (h : xs.all isPart = true) : rdV xs = K04.run (xs.map toN) [] 0 1 := by
  unfold rdV
  rw [runV_eq, if_pos h]
theorem run_none {R done : List Nat} {num wt : Nat} (h : 1 < wt) : K04.run (0 :: R) done num wt = none := by
  show (if 128 ≤ 0 then _ else if (0 : Nat) = 0 ∧ 1 < wt then none else _) = none
  rw [if_neg (by decide), if_pos ⟨rfl, h⟩]
theorem run_more {c : Nat} {R done : List Nat} {num wt : Nat} (h : 128 ≤ c) : K04.run (c :: R) done num wt = K04.run R done (num + c % 128 * wt) (wt * 128) := by
  show (if 128 ≤ c then _ else _) = _
  rw [if_pos h]
theorem run_last {c : Nat} {R done : List Nat} {num wt : Nat} (h : ¬ 128 ≤ c) (h2 : ¬ (c = 0 ∧ 1 < wt)) : K04.run (c :: R) done num wt = K04.run R (done ++ [num + c % 128 * wt]) 0 1 := by
  show (if 128 ≤ c then _ else if c = 0 ∧ 1 < wt then none else _) = _
  rw [if_neg h, if_neg h2]
theorem kit_lstN {K : PySem.W.Frag} {H : Hp} {x : V} {n : String} (h : TyOf K H x (.type n)) (hn : n ≠ "list") : PySem.W.kitOne K (.type n) (.type "list") = some false := by
  cases h <;> first | exact absurd rfl hn | kernel_rfl
theorem ty_same {K : PySem.W.Frag} {H H' : Hp} {x : V} {n : String} (h : TyOf K H x (.type n)) (e : Same H H') : TyOf K H' x (.type n) := by
  cases h with
  | non => exact .non
  | bl b => exact .bl b
  | int i => exact .int i
  | str z => exact .str z
  | flt z => exact .flt z
  | lst q => exact .lst (e _ _ q)
  | frz q => exact .frz (e _ _ q)
  | tup q => exact .tup (e _ _ q)
  | dK q => exact .dK (e _ _ q)
  | dT q => exact .dT (e _ _ q)
inductive ArgR (K : PySem.W.Frag) (H : Hp) : V → Option (List Nat) → Prop
  | no {x : V} {n : String} (h : TyOf K H x (.type n)) (hn : n ≠ "list") : ArgR K H x none
  | li {a : Addr} {xs : List V} (h : H a = some (.lst xs)) (hk : ∀ y ∈ xs, Known K H y) (hl : xs.length ≤ 2000) : ArgR K H (.ref a) (rdV xs)
theorem ArgR.same {K : PySem.W.Frag} {H H' : Hp} {x : V} {r : Option (List Nat)} (h : ArgR K H x r) (s : Same H H') : ArgR K H' x r := by
  cases h with
  | no h hn => exact .no (ty_same h s) hn
  | li h hk hl => exact .li (s _ _ h) (fun y hy => (hk y hy).same s) hl
section
variable {P : Program} {w : World} {K : PySem.W.Frag} {mg : Str → Option Value} {base : Heap} {C CP : Addr}
noncomputable def spNParts (K : PySem.W.Frag) (CP : Addr) : Sp := fun vs H Q E => ∃ x, vs = [x] ∧
  ((∃ n, TyOf K H x (.type n) ∧ n ≠ "list" ∧ E (.ref CP) none H) ∨ ∃ (a : Addr) (xs : List V), x = .ref a ∧ H a = some (.lst xs) ∧ (∀ y ∈ xs, Known K H y) ∧ (xs.all isPart = true → Q (.ref a) H) ∧ (xs.all isPart = false → E (.ref CP) none H))
theorem scNParts : FnScope ["thing", "part"] ["thing"] (defScope sNParts) := ⟨rfl, rfl, rfl, by decide +kernel, rfl, by decide +kernel, by decide +kernel⟩
theorem not_all {xs : List V} {i : Nat} {x : V} (h : xs[i]? = some x) (hx : isPart x = false) : xs.all isPart = false := by
  cases e : xs.all isPart with
  | false => rfl
  | true => rw [List.all_eq_true.mp e x (List.mem_of_getElem? h)] at hx; cases hx
seal PSs PS PE PT PA PG PI PGs PIfs in
theorem ok_nparts {f fw : Addr} {fd fdw : FuncData} (D : Df K mg "need_parts" sNParts f fd) (DW : Df K mg "is_whole" sWhole fw fdw) (X : Ex K mg "BadParts" CP) (T : Txt mg) : FnOk P w K mg base (CX1 P w) 2 f fd ["thing"] (spNParts K CP) := by
  obtain ⟨tg, cg⟩ := T.cGreat
  have GW : FnOk P w K mg base CX0 1 fw fdw ["thing"] (spWhole K) := ok_whole DW T
  have bW := binds1 (p := "thing") DW.F fun _ _ _ _ _ _ _ => rfl
  refine D.F.ok1 scNParts (fun vs H Q E h => ?_) (fun cdv A outer s H vs Q E hr h => ?_)
  · obtain ⟨x, rfl, _⟩ := h
    rfl
  · obtain ⟨x, rfl, h⟩ := h
    refine ⟨_, pss_cons (ps_if (pt_not (pt_val (pe_callB call_isi rfl T.isi b_isi (pa_cons (pv 0) (pa_cons (pe_bltn (v := .ty "list") rfl T.list b_list rfl) pa_nil))))) (pss_one (ps_raise rfl X.q PySem.F.excBase_ValueError (by decide +kernel) PySem.F.excBase_ValueError rfl X.m (pa_cons pe_str pa_nil) raise_out)) pss_nil)
      (pss_cons (ps_for PassesOwn.leaving rfl (pi_list (pv 0)) (pg_name (i := 1) scNParts.nd rfl (Or.inl rfl))
        (pss_one (ps_if (PW.pt (pw_or (pt_not (pt_val (pe_call GW hr rfl DW.m DW.F.kp bW .nil pass0 (pa_cons (pv 1) pa_nil)))) (pw_or (pt_cmpR op_lt (pv 1) pe_int (nomark _)) (pw_or1 (pt_cmpR op_gt (pv 1) (pe_glob (v := .int 255) rfl cg ⟨_, rfl⟩) (nomark _)))))) (pss_one (ps_raise rfl X.q PySem.F.excBase_ValueError (by decide +kernel) PySem.F.excBase_ValueError rfl X.m (pa_cons pe_str pa_nil) raise_out)) pss_nil)))
      (pss_one (ps_ret (pv 0)))), ?_⟩
    rcases h with ⟨n, hty, hn, e⟩ | ⟨a, xs, rfl, hA, hk, k1, k2⟩
    · exact ⟨_, rfl, x, .ty "list", _, _, rfl, hty, .inl ⟨_, rfl, kit_lstN hty hn⟩, _, rfl, iteT ⟨by show 1 ≤ sizeLine; decide, e⟩⟩
    · refine ⟨_, rfl, .ref a, .ty "list", _, true, rfl, .lst hA, .inl ⟨_, rfl, kit_ll⟩, _, rfl, iteF ?_⟩
      refine ⟨_, rfl, a, rfl, ⟨_, SqL.of hA⟩, ?_⟩
      refine for_list (xs := xs) (fun i σ H' => H' = H ∧ (xs.take i).all isPart = true ∧ ∃ o, σ = [some (.ref a), o]) ?_ ?_ ?_ ?_
      · exact ⟨rfl, rfl, none, rfl⟩
      · rintro i σ H' _ ⟨rfl, _⟩
        exact SqL.of hA
      · rintro i x σ H' hxi ⟨rfl, hall, o, rfl⟩
        refine ⟨_, rfl, x, rfl, hk x (List.mem_of_getElem? hxi), _, rfl, ?_⟩
        cases hw : isIntV x && !isBlV x with
        | false =>
          have hx : isPart x = false := by cases x <;> first | rfl | cases hw
          exact iteT (iteT ⟨by show 1 ≤ sizeLine; decide, k2 (not_all hxi hx)⟩)
        | true =>
          obtain ⟨i', rfl⟩ : ∃ i, x = .int i := by cases x <;> first | exact ⟨_, rfl⟩ | cases hw
          refine iteF ⟨_, rfl, _, _, rfl, rfl, _, rfl, ?_⟩
          by_cases h0 : i' < 0
          · rw [decide_eq_true h0]
            have hx : isPart (.int i') = false := by
              show (decide (0 ≤ i') && decide (i' ≤ 255)) = false
              rw [decide_eq_false (by omega)]; rfl
            exact iteT (iteT ⟨by show 1 ≤ sizeLine; decide, k2 (not_all hxi hx)⟩)
          · rw [decide_eq_false h0]
            refine iteF ⟨_, rfl, _, _, rfl, rfl, _, rfl, ?_⟩
            by_cases h1 : (255 : Int) < i'
            · rw [decide_eq_true h1]
              have hx : isPart (.int i') = false := by
                show (decide (0 ≤ i') && decide (i' ≤ 255)) = false
                rw [decide_eq_false (show ¬ i' ≤ 255 by omega), Bool.and_false]
              exact iteT ⟨by show 1 ≤ sizeLine; decide, k2 (not_all hxi hx)⟩
            · rw [decide_eq_false h1]
              refine iteF ⟨rfl, ?_, _, rfl⟩
              rw [List.take_add_one, hxi, List.all_append, hall]
              show (true && (isPart (.int i') && true)) = true
              have hx : isPart (.int i') = true := by
                show (decide (0 ≤ i') && decide (i' ≤ 255)) = true
                rw [decide_eq_true (by omega), decide_eq_true (by omega)]; rfl
              rw [hx]
              rfl
      · rintro σ H' ⟨rfl, hall, o, rfl⟩
        rw [List.take_length] at hall
        exact ⟨_, rfl, k1 hall⟩
noncomputable def spUnp (K : PySem.W.Frag) (CP : Addr) : Sp := fun vs H Q E => ∃ (x : V) (r : Option (List Nat)), vs = [x] ∧ ArgR K H x r ∧ (∀ ns, r = some ns → ns.length ≤ 2000 → ∀ p H', Same H H' → H p = none → H' p = some (.lst (nl ns)) → Q (.ref p) H') ∧ (r = none → ∀ H', Same H H' → E (.ref CP) none H')
theorem scUnp : FnScope ["parts", "numbers", "number", "weight", "part"] ["parts"] (defScope sUnp) := ⟨rfl, rfl, rfl, by decide +kernel, rfl, by decide +kernel, by decide +kernel⟩
seal PSs PS PE PT PA PG PI PGs PIfs in
theorem ok_unp {f fp : Addr} {fd fdp : FuncData} (D : Df K mg "unpacked" sUnp f fd) (DP : Df K mg "need_parts" sNParts fp fdp) (GP : FnOk P w K mg base (CX1 P w) 2 fp fdp ["thing"] (spNParts K CP)) (X : Ex K mg "BadParts" CP) (T : Txt mg) : FnOk P w K mg base (CX1 P w) 3 f fd ["parts"] (spUnp K CP) := by
  obtain ⟨tm, cm⟩ := T.cMore
  have bP := binds1 (p := "thing") DP.F fun _ _ _ _ _ _ _ => rfl
  refine D.F.ok1 scUnp (fun vs H Q E h => ?_) (fun cdv A outer s H vs Q E hr h => ?_)
  · obtain ⟨x, r, rfl, _⟩ := h
    rfl
  · obtain ⟨x, r, rfl, hR, k1, k2⟩ := h
    have hl : (sizeLine : Nat) = 16777216 := sizeLine_eq
    refine ⟨_, pss_cons (ps_set (i := 1) scUnp.nd rfl (Or.inl rfl) (pe_lst pa_nil))
      (pss_cons (ps_set (i := 2) scUnp.nd rfl (Or.inl rfl) pe_int)
      (pss_cons (ps_set (i := 3) scUnp.nd rfl (Or.inl rfl) pe_int)
      (pss_cons (ps_for PassesOwn.leaving rfl (pi_list (pe_call GP hr rfl DP.m DP.F.kp bP .nil (pass_out (E' := E) fun _ _ _ h => h) (pa_cons (pv 0) pa_nil))) (pg_name (i := 4) scUnp.nd rfl (Or.inl rfl))
        (pss_cons (ps_aug (i := 2) scUnp.nd rfl (Or.inl rfl) (pe_op op_mul (pe_op op_mod (pv 4) (pe_glob (v := .int 128) rfl cm ⟨_, rfl⟩)) (pv 3)) ip_add)
        (pss_one (ps_if (pt_cmpR op_ge (pv 4) (pe_glob (v := .int 128) rfl cm ⟨_, rfl⟩) (nomark _))
          (pss_one (ps_set (i := 3) scUnp.nd rfl (Or.inl rfl) (pe_op op_mul (pv 3) (pe_glob (v := .int 128) rfl cm ⟨_, rfl⟩))))
          (pss_cons (ps_if (PW.pt (pw_and (pt_cmpR op_eq (pv 4) pe_int (nomark _)) (pw_and1 (pt_cmpR op_gt (pv 3) pe_int (nomark _))))) (pss_one (ps_raise rfl X.q PySem.F.excBase_ValueError (by decide +kernel) PySem.F.excBase_ValueError rfl X.m (pa_cons pe_str pa_nil) raise_out)) pss_nil)
          (pss_cons (ps_expr (pe_bm PySem.F.plainAttrs_list PySem.F.slot_list_append PySem.F.type_list_append mt_append (pv 1) (pa_cons (pv 2) pa_nil)))
          (pss_cons (ps_set (i := 2) scUnp.nd rfl (Or.inl rfl) pe_int)
          (pss_one (ps_set (i := 3) scUnp.nd rfl (Or.inl rfl) pe_int)))))))))
      (pss_cons (ps_if (pt_cmpR op_gt (pv 3) pe_int (nomark _)) (pss_one (ps_raise rfl X.q PySem.F.excBase_ValueError (by decide +kernel) PySem.F.excBase_ValueError rfl X.m (pa_cons pe_str pa_nil) raise_out)) pss_nil)
      (pss_one (ps_ret (pv 1))))))), ?_⟩
    refine ⟨(by show 0 ≤ sizeLine; decide), fun p hp => ?_⟩
    have s0 : Same H (upd H p (.lst [])) := same_upd hp
    cases hR with
    | no h hn => exact ⟨_, rfl, x, rfl, .inl ⟨_, ty_same h s0, hn, k2 rfl _ s0⟩⟩
    | li hA hk hlen =>
      rename_i a xs
      have hap : a ≠ p := ne_of_none hA hp
      refine ⟨_, rfl, .ref a, rfl, .inr ⟨a, xs, rfl, s0 _ _ hA, fun y hy => (hk y hy).same s0, fun hall => ?_, fun hall => k2 (rd_bad hall) _ s0⟩⟩
      obtain ⟨exs, hle⟩ := all_nl hall
      have hrd := rd_good hall
      have hpl : (xs.map toN).length ≤ 2000 := by rw [List.length_map]; exact hlen
      generalize xs.map toN = ps at exs hle hrd hpl
      subst exs
      refine ⟨a, rfl, ⟨_, SqL.of (s0 _ _ hA)⟩, ?_⟩
      refine for_list (xs := nl ps) (fun i σ H' => ∃ (done : List Nat) (num wt : Nat) (o : Option V), σ = [some (.ref a), some (.ref p), some (.int num), some (.int wt), o] ∧ H' = upd H p (.lst (nl done)) ∧ rdV (nl ps) = K04.run (ps.drop i) done num wt ∧ done.length ≤ i) ?_ ?_ ?_ ?_
      · exact ⟨[], 0, 1, none, rfl, rfl, hrd, Nat.le_refl _⟩
      · rintro i σ H' _ ⟨done, num, wt, o, _, rfl, _⟩
        exact SqL.of (by rw [upd_ne hap]; exact hA)
      · rintro i x σ H' hxi ⟨done, num, wt, o, rfl, rfl, hR, hdl⟩
        obtain ⟨c, hc, rfl⟩ := nl_get hxi
        have hil := (List.getElem?_eq_some_iff.mp hc).1
        rw [drop_at hc] at hR
        have e1 : (c : Int) % 128 = ((c % 128 : Nat) : Int) := by omega
        refine ⟨_, rfl, _, rfl, _, _, rfl, rfl, (by show (0 : Int) < 128; decide), _, rfl, _, _, rfl, rfl, .inl (by rw [e1]; constructor <;> omega), _, _, rfl, rfl, ?_⟩
        have e2 : (num : Int) + (c : Int) % 128 * (wt : Int) = ((num + c % 128 * wt : Nat) : Int) := by rw [e1, Int.natCast_add, Int.natCast_mul]
        refine ⟨_, rfl, _, _, rfl, rfl, _, rfl, ?_⟩
        by_cases hc128 : (128 : Int) ≤ c
        · rw [decide_eq_true hc128]
          refine iteT ?_
          refine ⟨_, rfl, _, _, rfl, rfl, .inr ⟨by decide, by decide⟩, done, num + c % 128 * wt, wt * 128, some (.int c), ?_, rfl, ?_, by omega⟩
          · simp only [List.set]
            rw [e2, Int.natCast_mul]
            rfl
          · rw [hR, run_more (by omega)]
        · rw [decide_eq_false hc128]
          refine iteF ?_
          refine ⟨_, rfl, rfl, _, rfl, ?_⟩
          have e3 : nl done ++ [V.int ((num : Int) + (c : Int) % 128 * (wt : Int))] = nl (done ++ [num + c % 128 * wt]) := by rw [nl_app, e2]; rfl
          by_cases h0 : c = 0
          · rw [dec_i (by omega)]
            refine iteT ⟨_, rfl, _, _, rfl, rfl, _, rfl, ?_⟩
            by_cases hw : (1 : Int) < (wt : Int)
            · rw [decide_eq_true hw]
              refine iteT ⟨by show 1 ≤ sizeLine; decide, k2 ?_ _ (same_upd hp)⟩
              rw [hR, h0, run_none (by omega)]
            · rw [decide_eq_false hw]
              refine iteF ?_
              refine ⟨_, rfl, .inl ⟨rfl, _, SqL.of upd_same⟩, _, rfl, p, _, _, rfl, rfl, upd_same, (by rw [nl_len]; omega), done ++ [num + c % 128 * wt], 0, 1, _, rfl, ?_, ?_, by rw [List.length_append]; exact Nat.succ_le_succ hdl⟩
              · rw [upd_upd]
                exact congrArg (fun z => upd H p (.lst z)) e3
              · rw [hR, run_last (by omega) (by omega)]
          · rw [dec_n (by omega)]
            refine iteF (iteF ?_)
            refine ⟨_, rfl, .inl ⟨rfl, _, SqL.of upd_same⟩, _, rfl, p, _, _, rfl, rfl, upd_same, (by rw [nl_len]; omega), done ++ [num + c % 128 * wt], 0, 1, _, rfl, ?_, ?_, by rw [List.length_append]; exact Nat.succ_le_succ hdl⟩
            · rw [upd_upd]
              exact congrArg (fun z => upd H p (.lst z)) e3
            · rw [hR, run_last (by omega) (by omega)]
      · rintro σ H' ⟨done, num, wt, o, rfl, rfl, hR, hdl⟩
        rw [nl_len, List.drop_length] at hR
        rw [nl_len] at hdl
        refine ⟨_, rfl, _, _, rfl, rfl, _, rfl, ?_⟩
        have hR' : rdV (nl ps) = if 1 < wt then none else some done := hR
        by_cases hw : (1 : Int) < (wt : Int)
        · rw [decide_eq_true hw]
          rw [if_pos (by omega)] at hR'
          exact iteT ⟨by show 1 ≤ sizeLine; decide, k2 hR' _ (same_upd hp)⟩
        · rw [decide_eq_false hw]
          rw [if_neg (by omega)] at hR'
          exact iteF ⟨_, rfl, k1 done hR' (by omega) p _ (same_upd hp) hp upd_same⟩
end
end K06
set_option Elab.async false
set_option linter.all false
set_option maxRecDepth 100000
set_option maxHeartbeats 4000000
namespace K06
open PySem L2 PyProof.Rows PySem.Spec Gn K04
theorem rowR_short {f l : Nat} : ∀ {R : List Nat}, R.length < 3 → R ≠ [] → rowR f l R = none
  | [], _, h => absurd rfl h
  | [_], _, _ => by cases f <;> rfl
  | [g, m], _, _ => by
    cases f with
    | zero => rfl
    | succ f =>
      show (if m + 1 ≤ 0 then _ else none) = none
      rw [if_neg (by omega)]
  | _ :: _ :: _ :: _, h, _ => absurd h (by show ¬ _ + 1 + 1 + 1 < 3; omega)
theorem rowR_few {f l g m : Nat} {R : List Nat} (h : ¬ m + 1 ≤ R.length) : rowR f l (g :: m :: R) = none := by
  cases f with
  | zero => rfl
  | succ f =>
    show (if m + 1 ≤ R.length then _ else none) = none
    rw [if_neg h]
theorem rowR_go {f l g m : Nat} {R : List Nat} (h : m + 1 ≤ R.length) : rowR (f + 1) l (g :: m :: R) = (rowR f (l + g + 1) (R.drop (m + 1))).map ((l + g, nums 0 (R.take (m + 1))) :: ·) := by
  show (if m + 1 ≤ R.length then _ else none) = _
  rw [if_pos h]
theorem map_snoc {o : Option (List Pr)} {x : Pr} {done : List Pr} : (o.map (x :: ·)).map (done ++ ·) = o.map ((done ++ [x]) ++ ·) := by
  cases o <;> simp
theorem drop_get {xs : List Nat} {b g : Nat} {t : List Nat} (h : xs.drop b = g :: t) : xs[b]? = some g := by
  have := congrArg (fun z => z[0]?) h
  simpa using this
theorem drop_get1 {xs : List Nat} {b g m : Nat} {t : List Nat} (h : xs.drop b = g :: m :: t) : xs[b + 1]? = some m := by
  have := congrArg (fun z => z[1]?) h
  simpa using this
theorem cut_two (xs : List V) {i j : Nat} (hi : i ≤ j) (hj : j ≤ xs.length) : cutV xs (some (i : Int)) (some (j : Int)) = (xs.drop i).take (j - i) := by
  unfold cutV
  rw [HT.sIx_nat, HT.sIx_nat, Nat.min_eq_left (by omega), Nat.min_eq_left (by omega)]
theorem cut_part {ns R : List Nat} {b g m : Nat} (h : ns.drop b = g :: m :: R) (hm : m + 1 ≤ R.length) : cutV (nl ns) (some ((b + 2 : Nat) : Int)) (some ((b + 3 + m : Nat) : Int)) = nl (R.take (m + 1)) := by
  have hl : ns.length - b = R.length + 1 + 1 := by
    have := congrArg List.length h
    rw [List.length_drop] at this
    exact this
  rw [cut_two _ (by omega) (by rw [nl_len]; omega)]
  have e1 : (nl ns).drop (b + 2) = nl R := by
    rw [← List.map_drop, ← List.drop_drop, h]
    rfl
  have e2 : b + 3 + m - (b + 2) = m + 1 := by omega
  rw [e1, e2, ← List.map_take]
section
variable {P : Program} {w : World} {K : PySem.W.Frag} {mg : Str → Option Value} {base : Heap} {C CP : Addr}
noncomputable def spURow (K : PySem.W.Frag) (CP : Addr) : Sp := fun vs H Q E => ∃ (x : V) (r : Option (List Nat)), vs = [x] ∧ ArgR K H x r ∧ (∀ ns row, r = some ns → rowN ns = some row → ∀ p H', Same H H' → H p = none → RowAt H' p row → Q (.ref p) H') ∧ (r.bind rowN = none → ∀ H', Same H H' → E (.ref CP) none H')
theorem scURow : FnScope ["parts", "told", "row", "least", "begin", "end", "number"] ["parts"] (defScope sURow) := ⟨rfl, rfl, rfl, by decide +kernel, rfl, by decide +kernel, by decide +kernel⟩
seal PSs PS PE PT PA PG PI PGs PIfs in
theorem ok_urow {f fu fn : Addr} {fd fdu fdn : FuncData} (D : Df K mg "unpacked_row" sURow f fd) (DU : Df K mg "unpacked" sUnp fu fdu) (GU : FnOk P w K mg base (CX1 P w) 3 fu fdu ["parts"] (spUnp K CP))
    (DN : Df K mg "numbers_by" sNums fn fdn) (X : Ex K mg "BadParts" CP) (T : Txt mg) : FnOk P w K mg base (CX1 P w) 4 f fd ["parts"] (spURow K CP) := by
  have GN : FnOk P w K mg base CX0 1 fn fdn ["gaps"] spNums := ok_nums DN
  have bU := binds1 (p := "parts") DU.F fun _ _ _ _ _ _ _ => rfl
  have bN := binds1 (p := "gaps") DN.F fun _ _ _ _ _ _ _ => rfl
  refine D.F.ok1 scURow (fun vs H Q E h => ?_) (fun cdv A outer s H vs Q E hr h => ?_)
  · obtain ⟨x, r, rfl, _⟩ := h
    rfl
  · obtain ⟨x, r, rfl, hA, k1, k2⟩ := h
    have hl : (sizeLine : Nat) = 16777216 := sizeLine_eq
    refine ⟨_, pss_cons (ps_set (i := 1) scURow.nd rfl (Or.inl rfl) (pe_call GU hr rfl DU.m DU.F.kp bU .nil (pass_out (E' := E) fun _ _ _ h => h) (pa_cons (pv 0) pa_nil)))
      (pss_cons (ps_set (i := 2) scURow.nd rfl (Or.inl rfl) (pe_lst pa_nil))
      (pss_cons (ps_set (i := 3) scURow.nd rfl (Or.inl rfl) pe_int)
      (pss_cons (ps_set (i := 4) scURow.nd rfl (Or.inl rfl) pe_int)
      (pss_cons (ps_while PassesOwn.leaving (pt_cmpR op_lt (pv 4) (pe_callB call_len_seq rfl T.len b_len (pa_cons (pv 1) pa_nil)) (nomark _))
        (pss_cons (ps_if (PW.pt (pw_or (pt_cmpR op_gt (pe_op op_add (pv 4) pe_int) (pe_callB call_len_seq rfl T.len b_len (pa_cons (pv 1) pa_nil)) (nomark _))
          (pw_or1 (pt_cmpR op_gt (pe_op op_add (pe_op op_add (pv 4) pe_int) (pe_ix ix_list (pv 1) (pe_op op_add (pv 4) pe_int) (fun _ _ => rfl))) (pe_callB call_len_seq rfl T.len b_len (pa_cons (pv 1) pa_nil)) (nomark _))))) (pss_one (ps_raise rfl X.q PySem.F.excBase_ValueError (by decide +kernel) PySem.F.excBase_ValueError rfl X.m (pa_cons pe_str pa_nil) raise_out)) pss_nil)
        (pss_cons (ps_set (i := 5) scURow.nd rfl (Or.inl rfl) (pe_op op_add (pe_op op_add (pv 4) pe_int) (pe_ix ix_list (pv 1) (pe_op op_add (pv 4) pe_int) (fun _ _ => rfl))))
        (pss_cons (ps_set (i := 6) scURow.nd rfl (Or.inl rfl) (pe_op op_add (pv 3) (pe_ix ix_list (pv 1) (pv 4) (fun _ _ => rfl))))
        (pss_cons (ps_expr (pe_bm PySem.F.plainAttrs_list PySem.F.slot_list_append PySem.F.type_list_append mt_append (pv 2) (pa_cons (pe_tup (pa_cons (pv 6) (pa_cons (pe_callTy call_tuple_of rfl T.tuple b_tuple (pa_cons (pe_call (GN.mono (by decide)) hr rfl DN.m DN.F.kp bN .nil pass0 (pa_cons (pe_slice sl_list (pv 1) (po_some (pe_op op_add (pv 4) pe_int)) (po_some (pv 5))) pa_nil)) pa_nil)) pa_nil))) pa_nil)))
        (pss_cons (ps_set (i := 3) scURow.nd rfl (Or.inl rfl) (pe_op op_add (pv 6) pe_int))
        (pss_one (ps_set (i := 4) scURow.nd rfl (Or.inl rfl) (pv 5)))))))))
      (pss_one (ps_ret (pv 2))))))), ?_⟩
    refine ⟨_, rfl, x, r, rfl, hA, fun ns er hnl pU H1 s1 hpU hU => ?_, fun er H' s' => k2 (by rw [er]; rfl) H' s'⟩
    replace k2 : rowN ns = none → ∀ H', Same H H' → E (.ref CP) none H' := fun e => k2 (by rw [er]; exact e)
    replace k1 := fun row => k1 ns row er
    clear er hA
    refine ⟨(by show 0 ≤ sizeLine; decide), fun pR hpR => ?_⟩
    refine while_by (fun σ H' => ∃ (b l f : Nat) (done : List Pr) (o5 o6 : Option V) (ys : List V), σ = [some x, some (.ref pU), some (.ref pR), some (.int (l : Int)), some (.int (b : Int)), o5, o6] ∧ b ≤ ns.length ∧ ns.length ≤ b + f ∧ rowN ns = (rowR f l (ns.drop b)).map (done ++ ·) ∧ done.length ≤ b ∧ Same H1 H' ∧ H' pR = some (.lst ys) ∧ Paired (PrAt H') ys done)
      (fun σ _ => match σ with | [_, _, _, _, some (.int b), _, _] => (3000 - b).toNat | _ => 0) ⟨0, 0, ns.length, [], none, none, [], rfl, Nat.zero_le _, by omega, ?_, Nat.le_refl _, same_upd hpR, upd_same, .nil⟩ ?_ ?_
    · show rowN ns = (rowR ns.length 0 ns).map (fun z => z)
      unfold rowN
      cases rowR ns.length 0 ns <;> rfl
    · rintro σ H' ⟨b, l, f, done, o5, o6, ys, rfl, hb, hf, hrow, hdl, sm, hR, hpd⟩
      replace hU := sm _ _ hU
      refine ⟨_, rfl, _, rfl, pU, _, rfl, .inl (SqL.of hU), _, _, rfl, rfl, _, rfl, ?_⟩
      have hyl := Gn.Paired.len hpd
      cases hd : ns.drop b with
      | nil =>
        have hbl : ns.length ≤ b := by
          have := congrArg List.length hd
          rw [List.length_drop] at this
          have : ns.length - b = 0 := this
          omega
        rw [decide_eq_false (by rw [nl_len]; omega)]
        rw [hd] at hrow
        have hrow' : rowN ns = some done := by
          rw [hrow]
          cases f <;> (show some (done ++ []) = _; rw [List.append_nil])
        exact iteF ⟨_, rfl, k1 done hrow' pR H' (s1.trans sm) (s1.free hpR) ⟨ys, hR, hpd⟩⟩
      | cons g t =>
        rw [hd] at hrow
        have htl : ns.length - b = t.length + 1 := by
          have := congrArg List.length hd
          rw [List.length_drop] at this
          exact this
        rw [decide_eq_true (by rw [nl_len]; omega)]
        refine iteT ?_
        refine ⟨_, rfl, _, _, rfl, rfl, _, rfl, pU, _, rfl, .inl (SqL.of hU), _, _, rfl, rfl, _, rfl, ?_⟩
        by_cases h3 : t.length < 2
        · rw [decide_eq_true (by rw [nl_len]; omega)]
          rw [rowR_short (by show t.length + 1 < 3; omega) (by simp)] at hrow
          exact iteT (iteT ⟨by show 1 ≤ sizeLine; decide, k2 hrow _ (s1.trans sm)⟩)
        · rw [decide_eq_false (by rw [nl_len]; omega)]
          cases t with
          | nil => exact absurd (show (0 : Nat) < 2 by decide) h3
          | cons m R =>
            have hRl : ns.length - b = R.length + 1 + 1 := htl
            have a0 : (nl ns)[b]? = some (.int (g : Int)) := nl_at (drop_get hd)
            have a1 : (nl ns)[b + 1]? = some (.int (m : Int)) := nl_at (drop_get1 hd)
            refine iteF ?_
            refine ⟨_, rfl, _, _, rfl, rfl, _, rfl, _, rfl, _, _, rfl, rfl, pU, _, _, _, rfl, rfl, SqL.of hU, atI_nat (j := b + 1) a1, _, _, rfl, rfl, _, rfl, pU, _, rfl, .inl (SqL.of hU), _, _, rfl, rfl, _, rfl, ?_⟩
            by_cases h4 : m + 1 ≤ R.length
            · rw [decide_eq_false (by rw [nl_len]; omega)]
              refine iteF ?_
              have en : ((l : Int) + (g : Int)) = ((l + g : Nat) : Int) := by omega
              have ee : ((b : Int) + 3 + (m : Int)) = ((b + 3 + m : Nat) : Int) := by omega
              refine ⟨_, rfl, _, _, rfl, rfl, _, rfl, _, rfl, _, _, rfl, rfl, pU, _, _, _, rfl, rfl, SqL.of hU, atI_nat (j := b + 1) a1, _, _, rfl, rfl, ?_⟩
              show gName 5 (V.int ((b : Int) + 3 + (m : Int))) _ _ _
              rw [ee]
              refine ⟨_, rfl, _, rfl, _, rfl, pU, _, _, _, rfl, rfl, SqL.of hU, atI_nat (j := b) a0, _, _, rfl, rfl, ?_⟩
              show gName 6 (V.int ((l : Int) + (g : Int))) _ _ _
              rw [en]
              refine ⟨_, rfl, .inl ⟨rfl, _, SqL.of hR⟩, ?_⟩
              have hcut := cut_part hd h4
              refine ⟨_, rfl, _, rfl, _, rfl, _, _, rfl, rfl, _, rfl, _, rfl, _, rfl, ?_⟩
              refine ⟨pU, _, rfl, SqL.of hU, fun pz hpz => ?_⟩
              have htk : (R.take (m + 1)).length = m + 1 := by rw [List.length_take]; omega
              refine ⟨pz, R.take (m + 1), rfl, upd_same.trans (congrArg (fun z => some (HO.lst z)) hcut), by omega, fun pN H2 s2 hpN hN => ?_⟩
              have sm2 : Same H' H2 := (same_upd hpz).trans s2
              have hpll : (nums 0 (R.take (m + 1))).length = m + 1 := by rw [nums_len, htk]
              obtain ⟨f', rfl⟩ : ∃ f', f = f' + 1 := ⟨f - 1, by omega⟩
              have hrow2 : rowN ns = (rowR f' (l + g + 1) (R.drop (m + 1))).map ((done ++ [(l + g, nums 0 (R.take (m + 1)))]) ++ ·) := by rw [hrow, rowR_go h4, map_snoc]
              generalize nums 0 (R.take (m + 1)) = pl at hN hpll hrow2
              refine ⟨pN, _, rfl, .inl ⟨SqL.of hN, fun pt hpt => ?_⟩⟩
              refine ⟨(by show 2 ≤ sizeLine; decide), fun pp hpp => ?_⟩
              have st : Same H2 (upd H2 pt (.tup (nl pl))) := same_upd hpt
              have ht : (upd H2 pt (.tup (nl pl))) pt = some (.tup (nl pl)) := upd_same
              generalize upd H2 pt (.tup (nl pl)) = H3 at st ht hpp ⊢
              have sp : Same H3 (upd H3 pp (.tup [.int ((l + g : Nat) : Int), .ref pt])) := same_upd hpp
              have hpq : (upd H3 pp (.tup [.int ((l + g : Nat) : Int), .ref pt])) pp = some (.tup [.int ((l + g : Nat) : Int), .ref pt]) := upd_same
              generalize upd H3 pp (.tup [.int ((l + g : Nat) : Int), .ref pt]) = H4 at sp hpq ⊢
              have s24 := (sm2.trans st).trans sp
              refine ⟨pR, _, _, rfl, rfl, s24 _ _ hR, (by omega), ?_⟩
              refine ⟨_, rfl, _, _, rfl, rfl, _, rfl, ⟨b + 3 + m, l + g + 1, f', done ++ [(l + g, pl)], some (.int ((b + 3 + m : Nat) : Int)), some (.int ((l + g : Nat) : Int)), _, rfl, by omega, by omega, ?_, ?_, ?_, upd_same, ?_⟩, ?_⟩
              · rw [hrow2]
                have e : ns.drop (b + 3 + m) = R.drop (m + 1) := by
                  have : b + 3 + m = b + (2 + (m + 1)) := by omega
                  rw [this, ← List.drop_drop, hd, ← List.drop_drop]
                  rfl
                rw [e]
              · rw [List.length_append]
                show done.length + 1 ≤ _
                omega
              · intro b' u e
                rw [upd_ne (ne_of_none e hpR)]
                exact s24 _ _ (sm _ _ e)
              · refine Gn.Paired.app (Gn.Paired.imp2 hpd fun x r q => q.lst s24 hR) ?_
                have n1 : pp ≠ pR := fun z => by rw [z, s24 _ _ hR] at hpq; cases hpq
                have n2 : pt ≠ pR := fun z => by rw [z, (sm2.trans st) _ _ hR] at ht; cases ht
                exact .mk (by rw [upd_ne n1]; exact hpq) (by rw [upd_ne n2]; exact sp _ _ ht)
              · show (3000 - ((b + 3 + m : Nat) : Int)).toNat < (3000 - (b : Int)).toNat
                omega
            · rw [decide_eq_true (by rw [nl_len]; omega)]
              rw [rowR_few h4] at hrow
              exact iteT ⟨by show 1 ≤ sizeLine; decide, k2 hrow _ (s1.trans sm)⟩
    · intro σ H' Q1 Q2 hq h
      obtain ⟨x, h1, y, h2, p, xs, e1, hs, i, j, e2, e3, b, e4, z⟩ := h
      exact ⟨x, h1, y, h2, p, xs, e1, hs, i, j, e2, e3, b, e4, hq _ _ z⟩
end
theorem kp_ne : ¬ (("pairs" : Str) = "place") := by decide +kernel
noncomputable def flds (p : Addr) (z : Int) : List (Str × V) := putF "place" (.int z) (putF "pairs" (.ref p) [])
theorem flds_pairs (p : Addr) (z : Int) : (flds p z).lookup ("pairs" : Str) = some (.ref p) := by
  unfold flds
  rw [lookup_putF, if_neg kp_ne, lookup_putF, if_pos rfl]
theorem flds_place (p : Addr) (z : Int) : (flds p z).lookup ("place" : Str) = some (.int z) := by
  unfold flds
  rw [lookup_putF, if_pos rfl]
theorem flds_no (p : Addr) (z : Int) {m : Str} (h1 : ¬ m = "place") (h2 : ¬ m = "pairs") : (flds p z).lookup m = none := by
  unfold flds
  rw [lookup_putF, if_neg h1, lookup_putF, if_neg h2]
  rfl
structure WkAt (C : Addr) (H : Hp) (x p : Addr) (row : List Pr) (j : Nat) : Prop where
  ob : ∃ dx, H x = some (.ins C dx (flds p (j : Int)))
  r : RowAt H p row
  le : j ≤ row.length
theorem WkAt.same {C : Addr} {H H' : Hp} {x p : Addr} {row : List Pr} {j : Nat} (h : WkAt C H x p row j) (s : Same H H') : WkAt C H' x p row j := ⟨let ⟨dx, e⟩ := h.ob; ⟨dx, s _ _ e⟩, h.r.same s, h.le⟩
noncomputable def SameBut (x : Addr) (H H' : Hp) : Prop := ∀ b o, H b = some o → b ≠ x → H' b = some o
theorem PrAt.updO {H : Hp} {v : V} {r : Pr} {x : Addr} {o o' : HO} (h : PrAt H v r) (hx : H x = some o) (nt : ∀ ts, o ≠ .tup ts) : PrAt (upd H x o') v r := by
  cases h with
  | mk h ht =>
    rename_i p t n pl
    refine .mk (t := t) ?_ ?_
    · rw [upd_ne (fun z => by rw [z, hx] at h; exact nt _ (Option.some.inj h))]
      exact h
    · rw [upd_ne (fun z => by rw [z, hx] at ht; exact nt _ (Option.some.inj ht))]
      exact ht
theorem RowAt.updO {H : Hp} {a x : Addr} {row : List Pr} {o o' : HO} (h : RowAt H a row) (hx : H x = some o) (nt : ∀ ts, o ≠ .tup ts) (na : a ≠ x) : RowAt (upd H x o') a row := by
  obtain ⟨xs, h1, h2⟩ := h
  exact ⟨xs, by rw [upd_ne na]; exact h1, Gn.Paired.imp2 h2 fun _ _ q => q.updO hx nt⟩
theorem RowAt.ne {H : Hp} {a x : Addr} {row : List Pr} {o : HO} (h : RowAt H a row) (hx : H x = some o) (nt : ∀ ts, o ≠ .lst ts) : a ≠ x := fun z => by
  obtain ⟨xs, h1, _⟩ := h
  rw [z, hx] at h1
  exact nt _ (Option.some.inj h1)
structure TxtC (K : PySem.W.Frag) (mg : Str → Option Value) (C : Addr) : Prop where
  cl : Cls K C
  nP : NoAttr K C "pairs"
  nL : NoAttr K C "place"
  mgC : mg "Walk" = some (.ref C)
section
variable {P : Program} {w : World} {K : PySem.W.Frag} {mg : Str → Option Value} {base : Heap} {C CP : Addr}
noncomputable def spInit (K : PySem.W.Frag) (C CP : Addr) : Sp := fun vs H Q E => ∃ (x : Addr) (v : V) (dx : Addr) (r : Option (List Nat)), vs = [.ref x, v] ∧ H x = some (.ins C dx []) ∧ ArgR K H v r ∧
  (∀ ns row, r = some ns → rowN ns = some row → ∀ p H', H p = none → WkAt C H' x p row 0 → SameBut x H H' → Q .non H') ∧ (r.bind rowN = none → ∀ H', Same H H' → E (.ref CP) none H')
theorem scInit : FnScope ["self", "parts"] ["self", "parts"] (defScope mInit) := ⟨rfl, rfl, rfl, by decide +kernel, rfl, by decide +kernel, by decide +kernel⟩
seal PSs PS PE PT PA PG PI PGs PIfs in
theorem ok_init {f fu : Addr} {fd fdu : FuncData} (F : Fun K "__init__" "Walk.__init__" mInit f fd) (T : TxtC K mg C) (DU : Df K mg "unpacked_row" sURow fu fdu) (GU : FnOk P w K mg base (CX1 P w) 4 fu fdu ["parts"] (spURow K CP)) : FnOk P w K mg base (CX1 P w) 5 f fd ["self", "parts"] (spInit K C CP) := by
  have bU := binds1 (p := "parts") DU.F fun _ _ _ _ _ _ _ => rfl
  refine F.ok1 scInit (fun vs H Q E h => ?_) (fun cdv A outer s H vs Q E hr h => ?_)
  · obtain ⟨x, v, dx, r, rfl, _⟩ := h
    rfl
  · obtain ⟨x, v, dx, r, rfl, hx, hA, k1, k2⟩ := h
    refine ⟨_, pss_cons (ps_fld (pv 0) (pe_call GU hr rfl DU.m DU.F.kp bU .nil (pass_out (E' := E) fun _ _ _ h => h) (pa_cons (pv 1) pa_nil)) rfl) (pss_one (ps_fld (pv 0) pe_int rfl)), ?_⟩
    refine ⟨_, rfl, v, r, rfl, hA, fun ns row er ew p H1 s1 hp hR => ?_, k2⟩
    have hx1 := s1 _ _ hx
    refine ⟨_, rfl, x, C, dx, [], rfl, hx1, T.cl, T.nP, (by show 0 < 1000; decide), _, rfl, x, C, dx, _, rfl, upd_same, T.cl, T.nL, (by show 1 < 1000; decide), ?_⟩
    have hpx : p ≠ x := hR.ne hx1 fun ts z => by cases z
    refine k1 ns row er ew p _ hp ⟨⟨dx, upd_same⟩, (hR.updO hx1 (fun ts z => by cases z) hpx).updO upd_same (fun ts z => by cases z) hpx, Nat.zero_le _⟩ fun b u e hb => ?_
    rw [upd_ne hb, upd_ne hb]
    exact s1 _ _ e
noncomputable def spRest (C : Addr) : Sp := fun vs H Q _ => ∃ (x p : Addr) (row : List Pr) (j : Nat), vs = [.ref x] ∧ WkAt C H x p row j ∧ ∀ z H', Same H H' → H z = none → RowAt H' z (row.drop j) → Q (.ref z) H'
theorem scRest : FnScope ["self"] ["self"] (defScope mRest) := ⟨rfl, rfl, rfl, by decide +kernel, rfl, by decide +kernel, by decide +kernel⟩
seal PSs PS PE PT PA PG PI PGs PIfs in
theorem ok_rest {f : Addr} {fd : FuncData} (F : Fun K "rest" "Walk.rest" mRest f fd) (T : TxtC K mg C) : FnOk P w K mg base CX0 1 f fd ["self"] (spRest C) := by
  refine F.ok scRest (fun vs H Q E h => ?_) (fun cdv A outer s H vs Q E hr h => ?_)
  · obtain ⟨x, p, row, j, rfl, _⟩ := h
    rfl
  · obtain ⟨x, p, row, j, rfl, hW, k⟩ := h
    obtain ⟨⟨dx, hx⟩, ⟨xs, hX, hp⟩, hj⟩ := id hW
    refine ⟨_, pss_one (ps_ret (pe_slice sl_list (pe_fld (pv 0) rfl) (po_some (pe_fld (pv 0) rfl)) po_none)), ?_⟩
    refine ⟨_, rfl, x, C, dx, _, _, rfl, hx, T.cl, T.nP, flds_pairs _ _, _, rfl, x, C, dx, _, _, rfl, hx, T.cl, T.nL, flds_place _ _, _, rfl, p, _, rfl, SqL.of hX, fun z hz => ?_⟩
    rw [cut_drop]
    exact k z _ (same_upd hz) hz ⟨_, upd_same, Paired.dp j (Gn.Paired.imp2 hp fun _ _ q => PrAt.same q (same_upd hz))⟩
end
end K06
set_option Elab.async false
set_option linter.all false
set_option maxRecDepth 100000
set_option maxHeartbeats 4000000
namespace K06
open PySem L2 PyProof.Rows PySem.Spec Gn K04
section
variable {P : Program} {w : World} {K : PySem.W.Frag} {mg : Str → Option Value} {base : Heap}
noncomputable def spRead (K : PySem.W.Frag) : Sp := fun vs H Q _ => ∃ (a : Addr) (xs : List V), vs = [.ref a] ∧ H a = some (.lst xs) ∧ (∀ y ∈ xs, Known K H y) ∧ xs.length ≤ 2000 ∧ (rdV xs = none → ∀ H', Same H H' → Q .non H') ∧
  (∀ ns, rdV xs = some ns → ∀ p H', Same H H' → H p = none → H' p = some (.lst (nl ns)) → Q (.ref p) H')
theorem scRead : FnScope ["_law_parts_here", "_law_numbers", "_law_number", "_law_power", "_law_part"] ["_law_parts_here"] (defScope lRead) := ⟨rfl, rfl, rfl, by decide +kernel, rfl, by decide +kernel, by decide +kernel⟩
theorem runV_bad {x : V} {R : List V} {done : List Nat} {num wt : Nat} (h : isPart x = false) : runV (x :: R) done num wt = none := by
  show (if isPart x = true then _ else none) = none
  rw [h]
  rfl
theorem runV_more {c : Nat} {R : List V} {done : List Nat} {num wt : Nat} (hc : c ≤ 255) (h : 128 ≤ c) : runV (.int (c : Int) :: R) done num wt = runV R done (num + c % 128 * wt) (wt * 128) := by
  show (if isPart (.int (c : Int)) = true then (if 128 ≤ c then _ else _) else none) = _
  rw [if_pos (part_of hc), if_pos h]
  rfl
theorem runV_last {c : Nat} {R : List V} {done : List Nat} {num wt : Nat} (h : ¬ 128 ≤ c) (h2 : ¬ (c = 0 ∧ 1 < wt)) : runV (.int (c : Int) :: R) done num wt = runV R (done ++ [num + c % 128 * wt]) 0 1 := by
  show (if isPart (.int (c : Int)) = true then (if 128 ≤ c then _ else if c = 0 ∧ 1 < wt then none else _) else none) = _
  rw [if_pos (part_of (by omega)), if_neg h, if_neg h2]
  rfl
theorem runV_none {R : List V} {done : List Nat} {num wt : Nat} (h : 1 < wt) : runV (.int ((0 : Nat) : Int) :: R) done num wt = none := by
  unfold runV
  rw [if_pos (part_of (Nat.zero_le _)), if_neg (show ¬ 128 ≤ toN (V.int ((0 : Nat) : Int)) by decide), if_pos ⟨rfl, h⟩]
seal PSs PS PE PT PA PG PI PGs PIfs in
theorem ok_read {f : Addr} {fd : FuncData} (D : Df K mg "_law_read" lRead f fd) (T : Txt mg) : FnOk P w K mg base CX0 1 f fd ["_law_parts_here"] (spRead K) := by
  refine D.F.ok scRead (fun vs H Q E h => ?_) (fun cdv A outer s H vs Q E hr h => ?_)
  · obtain ⟨a, xs, rfl, _⟩ := h
    rfl
  · obtain ⟨a, xs, rfl, hA, hk, hlen, k1, k2⟩ := h
    have hl : (sizeLine : Nat) = 16777216 := sizeLine_eq
    refine ⟨_, pss_cons (ps_set (i := 1) scRead.nd rfl (Or.inl rfl) (pe_lst pa_nil))
      (pss_cons (ps_set (i := 2) scRead.nd rfl (Or.inl rfl) pe_int)
      (pss_cons (ps_set (i := 3) scRead.nd rfl (Or.inl rfl) pe_int)
      (pss_cons (ps_for PassesOwn.never rfl (pi_list (pv 0)) (pg_name (i := 4) scRead.nd rfl (Or.inl rfl))
        (pss_cons (ps_if (PW.pt (pw_or (pt_not (pt_val (pe_callB call_isi rfl T.isi b_isi (pa_cons (pv 4) (pa_cons (pe_bltn (v := .ty "int") rfl T.int b_int rfl) pa_nil)))))
          (pw_or (pt_val (pe_callB call_isi rfl T.isi b_isi (pa_cons (pv 4) (pa_cons (pe_bltn (v := .ty "bool") rfl T.bool b_bool rfl) pa_nil))))
          (pw_or1 (pt_not (pt_chain op_le op_le pe_int (pv 4) pe_int)))))) (pss_one (ps_ret pe_non)) pss_nil)
        (pss_one (ps_if (pt_cmpR op_ge (pv 4) pe_int (nomark _))
          (pss_cons (ps_set (i := 2) scRead.nd rfl (Or.inl rfl) (pe_op op_add (pv 2) (pe_op op_mul (pe_op op_sub (pv 4) pe_int) (pv 3))))
          (pss_one (ps_set (i := 3) scRead.nd rfl (Or.inl rfl) (pe_op op_mul (pv 3) pe_int))))
          (pss_one (ps_if (PW.pt (pw_and (pt_cmpR op_eq (pv 4) pe_int (nomark _)) (pw_and1 (pt_cmpR op_gt (pv 3) pe_int (nomark _))))) (pss_one (ps_ret pe_non))
            (pss_cons (ps_expr (pe_bm PySem.F.plainAttrs_list PySem.F.slot_list_append PySem.F.type_list_append mt_append (pv 1) (pa_cons (pe_op op_add (pv 2) (pe_op op_mul (pv 4) (pv 3))) pa_nil)))
            (pss_cons (ps_set (i := 2) scRead.nd rfl (Or.inl rfl) pe_int)
            (pss_one (ps_set (i := 3) scRead.nd rfl (Or.inl rfl) pe_int))))))))))
      (pss_one (ps_ret (pe_ifExp (pt_cmpR op_eq (pv 3) pe_int (nomark _)) (pv 1) pe_non)))))), ?_⟩
    refine ⟨(by show 0 ≤ sizeLine; decide), fun p hp => ?_⟩
    have hap : a ≠ p := ne_of_none hA hp
    refine ⟨_, rfl, a, rfl, ⟨_, SqL.of (by rw [upd_ne hap]; exact hA)⟩, ?_⟩
    refine for_list (xs := xs) (fun i σ H' => ∃ (done : List Nat) (num wt : Nat) (o : Option V), σ = [some (.ref a), some (.ref p), some (.int num), some (.int wt), o] ∧ H' = upd H p (.lst (nl done)) ∧ rdV xs = runV (xs.drop i) done num wt ∧ done.length ≤ i ∧ 1 ≤ wt) ?_ ?_ ?_ ?_
    · exact ⟨[], 0, 1, none, rfl, rfl, rfl, Nat.le_refl _, Nat.le_refl _⟩
    · rintro i σ H' _ ⟨done, num, wt, o, _, rfl, _⟩
      exact SqL.of (by rw [upd_ne hap]; exact hA)
    · rintro i x σ H' hxi ⟨done, num, wt, o, rfl, rfl, hR, hdl, hw1⟩
      rw [drop_at hxi] at hR
      have hil := (List.getElem?_eq_some_iff.mp hxi).1
      have hkx := (hk x (List.mem_of_getElem? hxi)).same (same_upd (o := .lst (nl done)) hp)
      have none_ : isPart x = false → Q .non (upd H p (.lst (nl done))) := fun h => k1 (by rw [hR, runV_bad h]) _ (same_upd hp)
      obtain ⟨ty, hty⟩ := hkx
      refine ⟨_, rfl, x, .ty "int", _, _, rfl, hty, .inl ⟨_, rfl, kit_int hty⟩, _, rfl, ?_⟩
      cases hi : isIntV x with
      | false =>
        have hx : isPart x = false := by cases x <;> first | rfl | cases hi
        exact iteT (iteT (none_ hx))
      | true =>
        refine iteF ⟨_, rfl, x, .ty "bool", _, _, rfl, hty, .inl ⟨_, rfl, kit_bool hty⟩, _, rfl, ?_⟩
        cases hb : isBlV x with
        | true =>
          have hx : isPart x = false := by cases x <;> first | rfl | cases hb
          exact iteT (iteT (none_ hx))
        | false =>
          obtain ⟨v, rfl⟩ : ∃ v, x = .int v := by cases x <;> first | exact ⟨_, rfl⟩ | (cases hi; done) | (cases hb; done)
          refine iteF ⟨_, rfl, _, _, rfl, rfl, _, rfl, ?_⟩
          by_cases h0 : (0 : Int) ≤ v
          · rw [decide_eq_true h0]
            refine iteT ⟨_, _, rfl, rfl, _, rfl, ?_⟩
            by_cases h1 : v ≤ 255
            · rw [decide_eq_true h1]
              refine iteF ?_
              obtain ⟨c, rfl⟩ := as_nat h0
              have hc255 : c ≤ 255 := by omega
              refine ⟨_, rfl, _, _, rfl, rfl, _, rfl, ?_⟩
              by_cases hc : (128 : Int) ≤ (c : Int)
              · rw [decide_eq_true hc]
                refine iteT ?_
                refine ⟨_, rfl, _, rfl, _, _, rfl, rfl, _, rfl, _, _, rfl, rfl, .inl (by constructor <;> omega), _, _, rfl, rfl, ?_⟩
                have e1 : (c : Int) - 128 = ((c % 128 : Nat) : Int) := by omega
                have e2 : (num : Int) + ((c : Int) - 128) * (wt : Int) = ((num + c % 128 * wt : Nat) : Int) := by rw [e1, Int.natCast_add, Int.natCast_mul]
                refine ⟨_, rfl, _, _, rfl, rfl, .inr ⟨by decide, by decide⟩, done, num + c % 128 * wt, wt * 128, some (.int c), ?_, rfl, ?_, by omega, by omega⟩
                · simp only [List.set]
                  rw [e2, Int.natCast_mul]
                  rfl
                · rw [hR, runV_more hc255 (by omega)]
              · rw [decide_eq_false hc]
                refine iteF ?_
                refine ⟨_, rfl, rfl, _, rfl, ?_⟩
                have e1 : (c : Int) = ((c % 128 : Nat) : Int) := by omega
                have e2 : (num : Int) + (c : Int) * (wt : Int) = ((num + c % 128 * wt : Nat) : Int) := by rw [Int.natCast_add, Int.natCast_mul, ← e1]
                have e3 : nl done ++ [V.int ((num : Int) + (c : Int) * (wt : Int))] = nl (done ++ [num + c % 128 * wt]) := by rw [nl_app, e2]; rfl
                by_cases h00 : c = 0
                · rw [dec_i (by omega)]
                  refine iteT ⟨_, rfl, _, _, rfl, rfl, _, rfl, ?_⟩
                  by_cases hw : (1 : Int) < (wt : Int)
                  · rw [decide_eq_true hw]
                    refine iteT (k1 ?_ _ (same_upd hp))
                    rw [hR, h00, runV_none (by omega)]
                  · rw [decide_eq_false hw]
                    refine iteF ?_
                    refine ⟨_, rfl, .inl ⟨rfl, _, SqL.of upd_same⟩, _, rfl, _, rfl, _, rfl, _, _, rfl, rfl, .inl (by constructor <;> omega), _, _, rfl, rfl, p, _, _, rfl, rfl, upd_same, (by rw [nl_len]; omega), done ++ [num + c % 128 * wt], 0, 1, _, rfl, ?_, ?_, (by rw [List.length_append]; exact Nat.succ_le_succ hdl), Nat.le_refl _⟩
                    · rw [upd_upd]
                      exact congrArg (fun z => upd H p (.lst z)) e3
                    · rw [hR, runV_last (by omega) (by omega)]
                · rw [dec_n (by omega)]
                  refine iteF (iteF ?_)
                  refine ⟨_, rfl, .inl ⟨rfl, _, SqL.of upd_same⟩, _, rfl, _, rfl, _, rfl, _, _, rfl, rfl, .inl (by constructor <;> omega), _, _, rfl, rfl, p, _, _, rfl, rfl, upd_same, (by rw [nl_len]; omega), done ++ [num + c % 128 * wt], 0, 1, _, rfl, ?_, ?_, (by rw [List.length_append]; exact Nat.succ_le_succ hdl), Nat.le_refl _⟩
                  · rw [upd_upd]
                    exact congrArg (fun z => upd H p (.lst z)) e3
                  · rw [hR, runV_last (by omega) (by omega)]
            · rw [decide_eq_false h1]
              refine iteT (none_ ?_)
              show (decide (0 ≤ v) && decide (v ≤ 255)) = false
              rw [decide_eq_false h1, Bool.and_false]
          · rw [decide_eq_false h0]
            refine iteF ⟨_, rfl, iteT (none_ ?_)⟩
            show (decide (0 ≤ v) && decide (v ≤ 255)) = false
            rw [decide_eq_false h0, Bool.false_and]
    · rintro σ H' ⟨done, num, wt, o, rfl, rfl, hR, hdl, hw1⟩
      rw [List.drop_length] at hR
      have hR' : rdV xs = if 1 < wt then none else some done := hR
      refine ⟨_, rfl, rfl, _, rfl, ?_⟩
      by_cases hw : wt = 1
      · rw [dec_i (by omega)]
        rw [if_neg (by omega)] at hR'
        exact iteT ⟨_, rfl, k2 done hR' p _ (same_upd hp) hp upd_same⟩
      · rw [dec_n (by omega)]
        rw [if_pos (by omega)] at hR'
        exact iteF (k1 hR' _ (same_upd hp))
noncomputable def spLRow : Sp := fun vs H Q _ => ∃ (a : Addr) (ns : List Nat), vs = [.ref a] ∧ H a = some (.lst (nl ns)) ∧ ns.length ≤ 2000 ∧ (rowN ns = none → ∀ H', Same H H' → Q .non H') ∧
  (∀ row, rowN ns = some row → ∀ p H', Same H H' → H p = none → RowAt H' p row → Q (.ref p) H')
theorem scLRow : FnScope ["_law_numbers", "_law_row_here", "_law_last", "_law_at", "_law_many", "_law_places", "_law_gap"] ["_law_numbers"] (defScope lRow) := ⟨rfl, rfl, rfl, by decide +kernel, rfl, by decide +kernel, by decide +kernel⟩
noncomputable def tMany : TE := fun σ H Q => ∃ (a : Addr) (ns : List Nat) (b g : Nat) (t : List Nat), σ[0]? = some (some (.ref a)) ∧ σ[3]? = some (some (.int (b : Int))) ∧ H a = some (.lst (nl ns)) ∧ ns.drop b = g :: t ∧ (t = [] → Q (.int (ns.length : Int)) H) ∧ (∀ m R, t = m :: R → Q (.int ((m + 1 : Nat) : Int)) H)
noncomputable def Pl (gs done : List Nat) (l : Nat) (rest : List Nat) : Prop := nums 0 gs = done ++ nums l rest ∧ ((done = [] ∧ l = 0) ∨ ∃ ys y, done = ys ++ [y] ∧ l = y + 1)
theorem Pl.step {gs done : List Nat} {l c : Nat} {rest : List Nat} (h : Pl gs done l (c :: rest)) : Pl gs (done ++ [l + c]) (l + c + 1) rest := by
  refine ⟨?_, .inr ⟨done, l + c, rfl, rfl⟩⟩
  rw [h.1, List.append_assoc]
  rfl
noncomputable def tGap : TE := fun σ H Q => ∃ (p : Addr) (gs done rest : List Nat) (l c : Nat), σ[5]? = some (some (.ref p)) ∧ σ[6]? = some (some (.int (c : Int))) ∧ H p = some (.lst (nl done)) ∧ Pl gs done l rest ∧ ∀ H', Same H H' → Q (.int ((l + c : Nat) : Int)) H'
theorem last_nl (ys : List Nat) (y : Nat) : atI (nl (ys ++ [y])) (-1) = some (V.int (y : Int)) := by
  rw [nl_app]
  exact atI_last _ _
seal PSs PS PE PT PA PG PI PGs PIfs in
theorem ok_lrow {f : Addr} {fd : FuncData} (D : Df K mg "_law_row" lRow f fd) (T : Txt mg) : FnOk P w K mg base CX0 1 f fd ["_law_numbers"] spLRow := by
  refine D.F.ok scLRow (fun vs H Q E h => ?_) (fun cdv A outer s H vs Q E hr h => ?_)
  · obtain ⟨a, ns, rfl, _⟩ := h
    rfl
  · obtain ⟨a, ns, rfl, hA, hnl, k2, k1⟩ := h
    have hl : (sizeLine : Nat) = 16777216 := sizeLine_eq
    refine ⟨_, pss_cons (ps_set (i := 1) scLRow.nd rfl (Or.inl rfl) (pe_lst pa_nil))
      (pss_cons (ps_set (i := 2) scLRow.nd rfl (Or.inl rfl) (pe_un un_neg pe_int))
      (pss_cons (ps_set (i := 3) scLRow.nd rfl (Or.inl rfl) pe_int)
      (pss_cons (ps_while PassesOwn.never (pt_cmpR op_lt (pv 3) (pe_callB call_len_seq rfl T.len b_len (pa_cons (pv 0) pa_nil)) (nomark _))
        (pss_cons (ps_set (i := 4) scLRow.nd rfl (Or.inl rfl) (PE.imp (t' := tMany) (pe_ifExp (pt_cmpR op_lt (pe_op op_add (pv 3) pe_int) (pe_callB call_len_seq rfl T.len b_len (pa_cons (pv 0) pa_nil)) (nomark _)) (pe_op op_add (pe_ix ix_list (pv 0) (pe_op op_add (pv 3) pe_int) (fun _ _ => rfl)) pe_int) (pe_callB call_len_seq rfl T.len b_len (pa_cons (pv 0) pa_nil))) ?mM))
        (pss_cons (ps_if (pt_cmpR op_gt (pe_op op_add (pe_op op_add (pv 3) pe_int) (pv 4)) (pe_callB call_len_seq rfl T.len b_len (pa_cons (pv 0) pa_nil)) (nomark _)) (pss_one (ps_ret pe_non)) pss_nil)
        (pss_cons (ps_set (i := 2) scLRow.nd rfl (Or.inl rfl) (pe_op op_add (pe_op op_add (pv 2) (pe_ix ix_list (pv 0) (pv 3) (fun _ _ => rfl))) pe_int))
        (pss_cons (ps_set (i := 5) scLRow.nd rfl (Or.inl rfl) (pe_lst pa_nil))
        (pss_cons (ps_for PassesOwn.never rfl (pi_list (pe_slice sl_list (pv 0) (po_some (pe_op op_add (pv 3) pe_int)) (po_some (pe_op op_add (pe_op op_add (pv 3) pe_int) (pv 4))))) (pg_name (i := 6) scLRow.nd rfl (Or.inl rfl))
          (pss_one (ps_expr (pe_bm PySem.F.plainAttrs_list PySem.F.slot_list_append PySem.F.type_list_append mt_append (pv 5) (pa_cons (PE.imp (t' := tGap) (pe_ifExp (pt_cmpR (op_eqD hr.units100) (pv 5) (pe_lst pa_nil) (nomark _)) (pv 6) (pe_op op_add (pe_op op_add (pe_ix ix_list (pv 5) (pe_un un_neg pe_int) (fun _ _ => rfl)) (pv 6)) pe_int)) ?mG) pa_nil)))))
        (pss_cons (ps_expr (pe_bm PySem.F.plainAttrs_list PySem.F.slot_list_append PySem.F.type_list_append mt_append (pv 1) (pa_cons (pe_tup (pa_cons (pv 2) (pa_cons (pe_callTy call_tuple_of rfl T.tuple b_tuple (pa_cons (pv 5) pa_nil)) pa_nil))) pa_nil)))
        (pss_one (ps_set (i := 3) scLRow.nd rfl (Or.inl rfl) (pe_op op_add (pe_op op_add (pv 3) pe_int) (pv 4)))))))))))
      (pss_one (ps_ret (pv 1)))))), ?_⟩
    case mM =>
      rintro σ H1 Q1 ⟨a, ns, b, g, t, h0, h3, hA, hd, q1, q2⟩
      have htl : ns.length - b = t.length + 1 := by
        have := congrArg List.length hd
        rw [List.length_drop] at this
        exact this
      refine ⟨_, h3, _, _, rfl, rfl, _, h0, a, _, rfl, .inl (SqL.of hA), _, _, rfl, rfl, _, rfl, ?_⟩
      cases t with
      | nil =>
        have ht0 : ns.length - b = 1 := htl
        rw [decide_eq_false (by rw [nl_len]; omega)]
        refine iteF ⟨_, h0, a, _, rfl, .inl (SqL.of hA), ?_⟩
        rw [nl_len]
        exact q1 rfl
      | cons m R =>
        have ht0 : ns.length - b = R.length + 1 + 1 := htl
        rw [decide_eq_true (by rw [nl_len]; omega)]
        exact iteT ⟨_, h0, _, h3, _, _, rfl, rfl, a, _, _, _, rfl, rfl, SqL.of hA, atI_nat (j := b + 1) (nl_at (drop_get1 hd)), _, _, rfl, rfl, q2 m R rfl⟩
    case mG =>
      rintro σ H1 Q1 ⟨p, gs, done, rest, l, c, h5, h6, hP, hPl, q⟩
      refine ⟨_, h5, Nat.zero_le _, fun z hz => ?_⟩
      have s1 : Same H1 (upd H1 z (.lst [])) := same_upd hz
      refine ⟨.list (dN done), .list [], .lst (SqL.of (s1 _ _ hP)) (dt_nl _), .lst (SqL.of upd_same) .nil, lay_nl _, rfl, Nat.le_trans (Nat.min_le_right _ _) (by decide), _, rfl, ?_⟩
      rcases hPl.2 with ⟨rfl, rfl⟩ | ⟨ys, y, rfl, rfl⟩
      · have := q _ s1
        rw [Nat.zero_add] at this
        exact iteT ⟨_, h6, this⟩
      · have e : PyData.eqv (.list (dN (ys ++ [y]))) (.list []) = false := by cases ys <;> rfl
        rw [e]
        refine iteF ⟨_, h5, _, rfl, p, _, _, _, rfl, rfl, SqL.of (s1 _ _ hP), last_nl ys y, _, h6, _, _, rfl, rfl, _, _, rfl, rfl, ?_⟩
        have e2 : (y : Int) + (c : Int) + 1 = ((y + 1 + c : Nat) : Int) := by omega
        show Q1 (.int ((y : Int) + (c : Int) + 1)) _
        rw [e2]
        exact q _ s1
    refine ⟨(by show 0 ≤ sizeLine; decide), fun pR hpR => ?_⟩
    refine ⟨_, rfl, ?_⟩
    refine while_by (fun σ H' => ∃ (b l f : Nat) (done : List Pr) (o4 o5 o6 : Option V) (ys : List V), σ = [some (.ref a), some (.ref pR), some (.int ((l : Int) - 1)), some (.int (b : Int)), o4, o5, o6] ∧ b ≤ ns.length ∧ ns.length ≤ b + f ∧ rowN ns = (rowR f l (ns.drop b)).map (done ++ ·) ∧ done.length ≤ b ∧ Same H H' ∧ H' pR = some (.lst ys) ∧ Paired (PrAt H') ys done)
      (fun σ _ => match σ with | [_, _, _, some (.int b), _, _, _] => (3000 - b).toNat | _ => 0) ⟨0, 0, ns.length, [], none, none, none, [], rfl, Nat.zero_le _, by omega, ?_, Nat.le_refl _, same_upd hpR, upd_same, .nil⟩ ?_ ?_
    · show rowN ns = (rowR ns.length 0 ns).map (fun z => z)
      unfold rowN
      cases rowR ns.length 0 ns <;> rfl
    · rintro σ H' ⟨b, l, f, done, o4, o5, o6, ys, rfl, hb, hf, hrow, hdl, sm, hR, hpd⟩
      have hU := sm _ _ hA
      refine ⟨_, rfl, _, rfl, a, _, rfl, .inl (SqL.of hU), _, _, rfl, rfl, _, rfl, ?_⟩
      have hyl := Gn.Paired.len hpd
      cases hd : ns.drop b with
      | nil =>
        have hbl : ns.length ≤ b := by
          have := congrArg List.length hd
          rw [List.length_drop] at this
          have : ns.length - b = 0 := this
          omega
        rw [decide_eq_false (by rw [nl_len]; omega)]
        rw [hd] at hrow
        have hrow' : rowN ns = some done := by
          rw [hrow]
          cases f <;> (show some (done ++ []) = _; rw [List.append_nil])
        exact iteF ⟨_, rfl, k1 done hrow' pR H' sm hpR ⟨ys, hR, hpd⟩⟩
      | cons g t =>
        rw [hd] at hrow
        have htl : ns.length - b = t.length + 1 := by
          have := congrArg List.length hd
          rw [List.length_drop] at this
          exact this
        rw [decide_eq_true (by rw [nl_len]; omega)]
        refine iteT ?_
        refine ⟨a, ns, b, g, t, rfl, rfl, hU, hd, fun ht => ?_, fun m R ht => ?_⟩
        · subst ht
          refine ⟨_, rfl, _, _, rfl, rfl, _, rfl, _, _, rfl, rfl, _, rfl, a, _, rfl, .inl (SqL.of hU), _, _, rfl, rfl, _, rfl, ?_⟩
          rw [decide_eq_true (by rw [nl_len]; omega)]
          rw [rowR_short (by show 0 + 1 < 3; decide) (by simp)] at hrow
          exact iteT (k2 hrow _ sm)
        · subst ht
          have hRl : ns.length - b = R.length + 1 + 1 := htl
          refine ⟨_, rfl, _, _, rfl, rfl, _, rfl, _, _, rfl, rfl, _, rfl, a, _, rfl, .inl (SqL.of hU), _, _, rfl, rfl, _, rfl, ?_⟩
          by_cases h4 : m + 1 ≤ R.length
          · rw [decide_eq_false (by rw [nl_len]; omega)]
            refine iteF ?_
            have a0 : (nl ns)[b]? = some (.int (g : Int)) := nl_at (drop_get hd)
            refine ⟨_, rfl, _, rfl, _, rfl, a, _, _, _, rfl, rfl, SqL.of hU, atI_nat (j := b) a0, _, _, rfl, rfl, _, _, rfl, rfl, ?_⟩
            have en : ((l : Int) - 1 + (g : Int) + 1) = ((l + g : Nat) : Int) := by omega
            show gName 2 (V.int ((l : Int) - 1 + (g : Int) + 1)) _ _ _
            rw [en]
            refine ⟨(by show 0 ≤ sizeLine; decide), fun pP hpP => ?_⟩
            have s1 : Same H' (upd H' pP (.lst [])) := same_upd hpP
            have hP : (upd H' pP (.lst [])) pP = some (.lst []) := upd_same
            generalize upd H' pP (.lst []) = H1 at s1 hP ⊢
            refine ⟨_, rfl, _, rfl, _, _, rfl, rfl, _, rfl, _, rfl, _, _, rfl, rfl, _, rfl, _, _, rfl, rfl, _, rfl, ?_⟩
            refine ⟨a, _, rfl, SqL.of (s1 _ _ hU), fun z hz => ?_⟩
            have hcut : cutV (nl ns) (some ((b : Int) + 2)) (some ((b : Int) + 2 + ((m + 1 : Nat) : Int))) = nl (R.take (m + 1)) := by
              have := cut_part hd h4
              have e1 : ((b + 2 : Nat) : Int) = (b : Int) + 2 := by omega
              have e2 : ((b + 3 + m : Nat) : Int) = (b : Int) + 2 + ((m + 1 : Nat) : Int) := by omega
              rw [e1, e2] at this
              exact this
            have s2 : Same H1 (upd H1 z (.lst (cutV (nl ns) (some ((b : Int) + 2)) (some ((b : Int) + 2 + ((m + 1 : Nat) : Int)))))) := same_upd hz
            have hZ : (upd H1 z (.lst (cutV (nl ns) (some ((b : Int) + 2)) (some ((b : Int) + 2 + ((m + 1 : Nat) : Int)))))) z = some (.lst (nl (R.take (m + 1)))) := by rw [upd_same, hcut]
            have nPz : pP ≠ z := ne_of_none hP hz
            generalize upd H1 z (.lst (cutV (nl ns) (some ((b : Int) + 2)) (some ((b : Int) + 2 + ((m + 1 : Nat) : Int))))) = H2 at s2 hZ ⊢
            replace hP := s2 _ _ hP
            have s12 := s1.trans s2
            have htk : (R.take (m + 1)).length = m + 1 := by rw [List.length_take]; omega
            have hpll : (nums 0 (R.take (m + 1))).length = m + 1 := by rw [nums_len, htk]
            refine ⟨z, rfl, ⟨_, SqL.of hZ⟩, ?_⟩
            refine for_list (xs := nl (R.take (m + 1))) (fun j σ H3 => ∃ (pd : List Nat) (l' : Nat) (o : Option V), σ = [some (.ref a), some (.ref pR), some (.int ((l + g : Nat) : Int)), some (.int (b : Int)), some (.int ((m + 1 : Nat) : Int)), some (.ref pP), o] ∧ (∀ b u, H2 b = some u → b ≠ pP → H3 b = some u) ∧ H3 pP = some (.lst (nl pd)) ∧ Pl (R.take (m + 1)) pd l' ((R.take (m + 1)).drop j) ∧ pd.length = j) ?_ ?_ ?_ ?_
            · exact ⟨[], 0, _, rfl, fun b u e _ => e, hP, ⟨rfl, .inl ⟨rfl, rfl⟩⟩, rfl⟩
            · rintro j σ H3 _ ⟨pd, l', o, _, sb, _⟩
              exact SqL.of (sb _ _ hZ nPz.symm)
            · rintro j x σ H3 hx ⟨pd, l', o, rfl, sb, hP3, hPl, hpj⟩
              obtain ⟨c, hc, rfl⟩ := nl_get hx
              have hjl := (List.getElem?_eq_some_iff.mp hc).1
              have hPl0 := hPl
              rw [drop_at hc] at hPl
              refine ⟨_, rfl, .inl ⟨rfl, _, SqL.of hP3⟩, ?_⟩
              refine ⟨pP, _, pd, _, l', c, rfl, rfl, hP3, hPl0, fun H4 s4 => ?_⟩
              refine ⟨pP, _, _, rfl, rfl, s4 _ _ hP3, (by rw [nl_len]; omega), pd ++ [l' + c], l' + c + 1, _, rfl, fun b u e hb => ?_, ?_, hPl.step, by rw [List.length_append, hpj]; rfl⟩
              · rw [upd_ne hb]
                exact s4 _ _ (sb _ _ e hb)
              · rw [upd_same, nl_app]
                rfl
            · rintro σ H3 ⟨pd, l', o, rfl, sb, hP3, hPl, hpj⟩
              rw [nl_len, List.drop_length] at hPl
              have epd : nums 0 (R.take (m + 1)) = pd := by rw [hPl.1]; exact List.append_nil _
              obtain ⟨f', rfl⟩ : ∃ f', f = f' + 1 := ⟨f - 1, by omega⟩
              have hrow2 : rowN ns = (rowR f' (l + g + 1) (R.drop (m + 1))).map ((done ++ [(l + g, nums 0 (R.take (m + 1)))]) ++ ·) := by rw [hrow, rowR_go h4, map_snoc]
              rw [epd] at hrow2
              have nRP : pR ≠ pP := ne_of_none hR hpP
              have s23 : Same H' H3 := fun b u e => sb _ _ (s12 _ _ e) (ne_of_none e hpP)
              have hR3 := s23 _ _ hR
              refine ⟨_, rfl, .inl ⟨rfl, _, SqL.of hR3⟩, _, rfl, _, rfl, pP, _, rfl, .inl ⟨SqL.of hP3, fun pt hpt => ?_⟩⟩
              refine ⟨(by show 2 ≤ sizeLine; decide), fun pp hpp => ?_⟩
              have st : Same H3 (upd H3 pt (.tup (nl pd))) := same_upd hpt
              have ht : (upd H3 pt (.tup (nl pd))) pt = some (.tup (nl pd)) := upd_same
              generalize upd H3 pt (.tup (nl pd)) = H4 at st ht hpp ⊢
              have sp : Same H4 (upd H4 pp (.tup [.int ((l + g : Nat) : Int), .ref pt])) := same_upd hpp
              have hpq : (upd H4 pp (.tup [.int ((l + g : Nat) : Int), .ref pt])) pp = some (.tup [.int ((l + g : Nat) : Int), .ref pt]) := upd_same
              generalize upd H4 pp (.tup [.int ((l + g : Nat) : Int), .ref pt]) = H5 at sp hpq ⊢
              have s25 := (s23.trans st).trans sp
              have ee : ((b : Int) + 2 + ((m + 1 : Nat) : Int)) = ((b + 3 + m : Nat) : Int) := by omega
              have el : ((l + g + 1 : Nat) : Int) - 1 = ((l + g : Nat) : Int) := by omega
              refine ⟨pR, _, _, rfl, rfl, s25 _ _ hR, (by omega), ?_⟩
              refine ⟨_, rfl, _, _, rfl, rfl, _, rfl, _, _, rfl, rfl, ?_⟩
              show _ ∧ _
              refine ⟨⟨b + 3 + m, l + g + 1, f', done ++ [(l + g, pd)], some (.int ((m + 1 : Nat) : Int)), some (.ref pP), o, _, ?_, by omega, by omega, ?_, ?_, ?_, upd_same, ?_⟩, ?_⟩
              · rw [el, ← ee]
                rfl
              · rw [hrow2]
                have e : ns.drop (b + 3 + m) = R.drop (m + 1) := by
                  have : b + 3 + m = b + (2 + (m + 1)) := by omega
                  rw [this, ← List.drop_drop, hd, ← List.drop_drop]
                  rfl
                rw [e]
              · rw [List.length_append]
                show done.length + 1 ≤ _
                omega
              · intro b' u e
                rw [upd_ne (ne_of_none e hpR)]
                exact s25 _ _ (sm _ _ e)
              · refine Gn.Paired.app (Gn.Paired.imp2 hpd fun x r q => q.lst s25 hR) ?_
                have n1 : pp ≠ pR := fun z => by rw [z, s25 _ _ hR] at hpq; cases hpq
                have n2 : pt ≠ pR := fun z => by rw [z, (s23.trans st) _ _ hR] at ht; cases ht
                exact .mk (by rw [upd_ne n1]; exact hpq) (by rw [upd_ne n2]; exact sp _ _ ht)
              · show (3000 - ((b : Int) + 2 + ((m + 1 : Nat) : Int))).toNat < (3000 - (b : Int)).toNat
                omega
          · rw [decide_eq_true (by rw [nl_len]; omega)]
            rw [rowR_few h4] at hrow
            exact iteT (k2 hrow _ sm)
    · intro σ H' Q1 Q2 hq h
      obtain ⟨x, h1, y, h2, p, xs, e1, hs, i, j, e2, e3, b, e4, z⟩ := h
      exact ⟨x, h1, y, h2, p, xs, e1, hs, i, j, e2, e3, b, e4, hq _ _ z⟩
end
end K06
set_option Elab.async false
set_option linter.all false
set_option maxRecDepth 100000
set_option maxHeartbeats 4000000
namespace K06
open PySem L2 PyProof.Rows PySem.Spec Gn K04
theorem cut_len (xs : List V) (i j : Nat) : (cutV xs (some (i : Int)) (some (j : Int))).length ≤ j - i := by
  unfold cutV
  rw [HT.sIx_nat, HT.sIx_nat, List.length_take, List.length_drop]
  omega
theorem cut_mem {xs : List V} {i j : Option Int} {x : V} (h : x ∈ cutV xs i j) : x ∈ xs := by
  unfold cutV at h
  exact List.mem_of_mem_drop (List.mem_of_mem_take h)
inductive OddV (H : Hp) : V → Prop
  | int (i : Int) : OddV H (.int i)
  | bl (b : Bool) : OddV H (.bl b)
  | str : OddV H (.str "0")
  | non : OddV H .non
  | lst {q : Addr} (h : H q = some (.lst [.int 0])) : OddV H (.ref q)
theorem OddV.same {H H' : Hp} {v : V} (h : OddV H v) (s : Same H H') : OddV H' v := by
  cases h with
  | int i => exact .int i
  | bl b => exact .bl b
  | str => exact .str
  | non => exact .non
  | lst h => exact .lst (s _ _ h)
theorem lay0 : (PyData.str "0").canLay0 = true := by decide +kernel
section
variable {P : Program} {w : World} {K : PySem.W.Frag} {mg : Str → Option Value} {base : Heap}
theorem OddV.known {H : Hp} {v : V} (h : OddV H v) : Known K H v := by
  cases h with
  | int i => exact ⟨_, .int i⟩
  | bl b => exact ⟨_, .bl b⟩
  | str => exact ⟨_, .str _⟩
  | non => exact ⟨_, .non⟩
  | lst h => exact ⟨_, .lst h⟩
theorem OddV.dt {H : Hp} {v : V} (h : OddV H v) : ∃ d, DtV K H v d ∧ d.canLay0 = true ∧ d.depth ≤ 2 := by
  cases h with
  | int i => exact ⟨_, .int i, rfl, Nat.zero_le _⟩
  | bl b => exact ⟨_, .bl b, rfl, Nat.zero_le _⟩
  | str => exact ⟨_, .str _, lay0, Nat.zero_le _⟩
  | non => exact ⟨_, .non, rfl, Nat.zero_le _⟩
  | lst h => exact ⟨.list (dN [0]), .lst (SqL.of h) (dt_nl [0]), lay_nl [0], depth_nl [0]⟩
theorem odd_dt {H : Hp} : ∀ {xs : List V}, (∀ y ∈ xs, OddV H y) → ∃ ds, DtVs K H xs ds ∧ (PyData.list ds).canLay0 = true ∧ (PyData.list ds).depth ≤ 3
  | [], _ => ⟨[], .nil, rfl, by decide⟩
  | x :: r, h => by
    obtain ⟨d, hd, hl, hp⟩ := (h x List.mem_cons_self).dt (K := K)
    obtain ⟨ds, hds, hls, hps⟩ := odd_dt (fun y hy => h y (List.mem_cons_of_mem _ hy))
    refine ⟨d :: ds, .cons hd hds, ?_, ?_⟩
    · show (d.canLay0 && (PyData.list ds).canLay0) = true
      rw [hl, hls]
      rfl
    · show max d.depth (PyData.depthAll ds) + 1 ≤ 3
      have : PyData.depthAll ds + 1 ≤ 3 := hps
      omega
noncomputable abbrev N6 : List Str := ["_law_script", "_law_cell", "_law_kind", "_law_parts_here", "_law_at", "_law_odd"]
noncomputable def spPartsBy (K : PySem.W.Frag) : Sp := fun vs H Q _ => ∃ (a : Addr) (ns : List Int), vs = [.ref a] ∧ SqL K H a (ns.map V.int) ∧ ∀ p H' xs, Same H H' → H p = none → H' p = some (.lst xs) → xs.length ≤ 1600 → (∀ y ∈ xs, OddV H' y) → Q (.ref p) H'
theorem scPB : FnScope N6 ["_law_script"] (defScope lPartsBy) := ⟨rfl, rfl, rfl, by decide +kernel, rfl, by decide +kernel, by decide +kernel⟩
noncomputable def tSm (K : PySem.W.Frag) (B : Nat) : TE := fun σ H Q => ∃ (a : Addr) (ns : List Int), σ[0]? = some (some (.ref a)) ∧ SqL K H a (ns.map V.int) ∧ ∀ (p : Addr) (H' : Hp) (ms : List Nat), Same H H' → H p = none → H' p = some (.lst (nl ms)) → ms.length ≤ 50 → (∀ m ∈ ms, m < B) → Q (.ref p) H'
noncomputable def tAt (K : PySem.W.Frag) : TE := fun σ H Q => ∃ (a : Addr) (ns : List Int) (b : Addr) (ms : List Nat), σ[0]? = some (some (.ref a)) ∧ SqL K H a (ns.map V.int) ∧ σ[3]? = some (some (.ref b)) ∧ H b = some (.lst (nl ms)) ∧ ∀ k : Nat, Q (.int k) H
noncomputable def tOdd (K : PySem.W.Frag) : TE := fun σ H Q => ∃ (a : Addr) (ns : List Int), σ[0]? = some (some (.ref a)) ∧ SqL K H a (ns.map V.int) ∧ ∀ v H', Same H H' → OddV H' v → Q v H'
noncomputable def tMx : TE := fun σ H Q => ∃ (a : Addr) (ms : List Nat) (k : Nat) (v : V), σ[3]? = some (some (.ref a)) ∧ H a = some (.lst (nl ms)) ∧ σ[4]? = some (some (.int k)) ∧ σ[5]? = some (some v) ∧ ms.length ≤ 1500 ∧
  ∀ p H' xs, Same H H' → H p = none → H' p = some (.lst xs) → xs.length ≤ 3001 → (∀ y ∈ xs, y = v ∨ ∃ m : Int, y = .int m) → xs.length ≤ ms.length + 1 → Q (.ref p) H'
theorem int_nl {ms : List Nat} {i j : Option Int} {x : V} (h : x ∈ cutV (nl ms) i j) : ∃ m : Int, x = .int m := by
  obtain ⟨m, _, rfl⟩ := List.mem_map.mp (cut_mem h)
  exact ⟨_, rfl⟩
theorem two_len (ms : List Nat) (k : Nat) : (cutV (nl ms) none (some (k : Int))).length + (cutV (nl ms) (some (k : Int)) none).length ≤ ms.length := by
  rw [cut_take, cut_drop, List.length_take, List.length_drop, nl_len]
  omega
theorem two_len1 (ms : List Nat) (k : Nat) : (cutV (nl ms) none (some (k : Int))).length + (cutV (nl ms) (some ((k : Int) + 1)) none).length ≤ ms.length := by
  have e : (k : Int) + 1 = ((k + 1 : Nat) : Int) := rfl
  rw [e, cut_take, cut_drop, List.length_take, List.length_drop, nl_len]
  omega
seal PSs PS PE PT PA PG PI PGs PIfs in
theorem ok_partsby {f fc fm fa fn fb : Addr} {fd fdc fdm fda fdn fdb : FuncData} (D : Df K mg "_law_parts_by" lPartsBy f fd) (DC : Df K mg "_law_cell_at" lCell fc fdc) (DM : Df K mg "_law_mixed" lMixed fm fdm)
    (DA : Df K mg "_law_parts" lParts fa fda) (DN : Df K mg "_law_row_numbers" lRowN fn fdn) (DB : Df K mg "_law_row_by" lRowBy fb fdb) (T : Txt mg) : FnOk P w K mg base CX0 3 f fd ["_law_script"] (spPartsBy K) := by
  have GC : FnOk P w K mg base CX0 1 fc fdc ["_law_script", "_law_k"] (spCell K) := ok_cell DC T
  have GM : FnOk P w K mg base CX0 1 fm fdm ["_law_cell", "_law_k"] spMixed := ok_mixed DM
  have GA : FnOk P w K mg base CX0 1 fa fda ["_law_numbers"] (spLParts K) := ok_lparts DA
  have GN : FnOk P w K mg base CX0 1 fn fdn ["_law_row_here"] spRowN := ok_rown DN T
  have GB : FnOk P w K mg base CX0 2 fb fdb ["_law_script", "_law_at", "_law_most"] (spRowBy K) := ok_rowby DB DC DM T
  have bC := DC.F.binds (ps := ["_law_script", "_law_k"]) fun _ _ _ _ _ _ us hl => match us, hl with | [_, _], _ => rfl
  have bM := DM.F.binds (ps := ["_law_cell", "_law_k"]) fun _ _ _ _ _ _ us hl => match us, hl with | [_, _], _ => rfl
  have bA := binds1 (p := "_law_numbers") DA.F fun _ _ _ _ _ _ _ => rfl
  have bN := binds1 (p := "_law_row_here") DN.F fun _ _ _ _ _ _ _ => rfl
  have bB := DB.F.binds (ps := ["_law_script", "_law_at", "_law_most"]) fun _ _ _ _ _ _ us hl => match us, hl with | [_, _, _], _ => rfl
  refine D.F.ok scPB (fun vs H Q E h => ?_) (fun cdv A outer s H vs Q E hr h => ?_)
  · obtain ⟨a, ns, rfl, _⟩ := h
    rfl
  · obtain ⟨a, ns, rfl, hS, kk⟩ := h
    have hl : (sizeLine : Nat) = 16777216 := sizeLine_eq
    refine ⟨_, pss_cons (ps_set (i := 1) scPB.nd rfl (Or.inl rfl) (pe_call (GC.mono (by decide)) hr rfl DC.m DC.F.kp bC .nil pass0 (pa_cons (pv 0) (pa_cons pe_int pa_nil))))
      (pss_cons (ps_set (i := 2) scPB.nd rfl (Or.inl rfl) (pe_op op_mod (pv 1) pe_int))
      (pss_cons (ps_set (i := 3) scPB.nd rfl (Or.inl rfl) (pe_call (GA.mono (by decide)) hr rfl DA.m DA.F.kp bA .nil pass0 (pa_cons (pe_call (GN.mono (by decide)) hr rfl DN.m DN.F.kp bN .nil pass0 (pa_cons (pe_call GB hr rfl DB.m DB.F.kp bB .nil pass0 (pa_cons (pv 0) (pa_cons pe_int (pa_cons pe_int pa_nil)))) pa_nil)) pa_nil)))
      (pss_cons (ps_ifJ (pt_cmpR op_eq (pv 2) pe_int (nomark _)) (pss_one (ps_set (i := 3) scPB.nd rfl (Or.inl rfl) (pe_call (GA.mono (by decide)) hr rfl DA.m DA.F.kp bA .nil pass0 (pa_cons (PE.imp (t' := tSm K 1000000) (pe_comp (own := 1) (caps := []) (N := ["_law_one"]) (N0 := N6) (sc0 := defScope lPartsBy) rfl (pi_list (pe_slice sl_list (pv 0) (po_some pe_int) (po_some pe_int)))
          (fun _ _ _ => pg_name (i := 0) ndOne rfl (Or.inl rfl)) (fun _ _ _ => pf_none) (fun _ _ _ => pe_op op_mod (pe_call (GM.mono (by decide)) hr rfl DM.m DM.F.kp bM .nil pass0 (pa_cons (pv 0) (pa_cons pe_int pa_nil))) (pe_ix (ix_listK (K := K) rfl) (pe_lst (pa_cons pe_int (pa_cons pe_int (pa_cons (pe_op op_pow pe_int pe_int) pa_nil)))) (pe_op op_mod (pv 0) pe_int) (fun _ _ => rfl))) (gk_name (by decide)) rfl rfl
          (by decide +kernel) rfl (by decide +kernel) (by decide +kernel) rfl (by decide +kernel)) ?m4) pa_nil)))) pss_nil)
      (pss_cons (ps_ifJ (pt_cmpR op_eq (pv 2) pe_int (nomark _)) (pss_one (ps_setC (i := 3) (t' := tSm K 256) scPB.nd rfl (Or.inl rfl) (own := 1) (caps := []) (N := ["_law_one"]) (N0 := N6) (sc0 := defScope lPartsBy) rfl (pi_list (pe_slice sl_list (pv 0) (po_some pe_int) (po_some pe_int)))
          (fun _ _ _ => pg_name (i := 0) ndOne rfl (Or.inl rfl)) (fun _ _ _ => pf_none) (fun _ _ _ => pe_op op_mod (pe_call (GM.mono (by decide)) hr rfl DM.m DM.F.kp bM .nil pass0 (pa_cons (pv 0) (pa_cons pe_int pa_nil))) (pe_ix (ix_listK (K := K) rfl) (pe_lst (pa_cons pe_int (pa_cons pe_int (pa_cons pe_int pa_nil)))) (pe_op op_mod (pv 0) pe_int) (fun _ _ => rfl))) (gk_name (by decide)) rfl rfl
          (by decide +kernel) rfl (by decide +kernel) (by decide +kernel) rfl (by decide +kernel) ?m5)) pss_nil)
      (pss_cons (ps_set (i := 4) scPB.nd rfl (Or.inl rfl) (PE.imp (t' := tAt K) (pe_op op_mod (pe_call (GC.mono (by decide)) hr rfl DC.m DC.F.kp bC .nil pass0 (pa_cons (pv 0) (pa_cons pe_int pa_nil))) (pe_op op_add (pe_callB call_len_seq rfl T.len b_len (pa_cons (pv 3) pa_nil)) pe_int)) ?mA))
      (pss_cons (ps_set (i := 5) scPB.nd rfl (Or.inl rfl) (PE.imp (t' := tOdd K) (pe_ix ix_list (pe_lst (pa_cons pe_int (pa_cons pe_int (pa_cons pe_int (pa_cons pe_int (pa_cons pe_int (pa_cons pe_int (pa_cons pe_int (pa_cons (pe_un un_neg pe_int) (pa_cons pe_bl (pa_cons pe_str (pa_cons pe_non (pa_cons (pe_lst (pa_cons pe_int pa_nil)) (pa_cons (pe_op op_pow pe_int pe_int) pa_nil))))))))))))))
          (pe_op op_mod (pe_call (GC.mono (by decide)) hr rfl DC.m DC.F.kp bC .nil pass0 (pa_cons (pv 0) (pa_cons pe_int pa_nil))) pe_int) (fun _ _ => rfl)) ?mO))
      (pss_cons (ps_if (pt_cmpR op_eq (pe_op op_mod (pe_op op_fdiv (pv 1) pe_int) pe_int) pe_int (nomark _)) (pss_one (ps_ret (PE.imp (t' := tMx) (pe_op op_cat (pe_slice sl_list (pv 3) po_none (po_some (pv 4))) (pe_slice sl_list (pv 3) (po_some (pe_op op_add (pv 4) pe_int)) po_none)) ?mX))) pss_nil)
      (pss_cons (ps_if (pt_cmpR op_eq (pe_op op_mod (pe_op op_fdiv (pv 1) pe_int) pe_int) pe_int (nomark _)) (pss_one (ps_ret (PE.imp (t' := tMx) (pe_op op_cat (pe_op op_cat (pe_slice sl_list (pv 3) po_none (po_some (pv 4))) (pe_lst (pa_cons (pv 5) pa_nil))) (pe_slice sl_list (pv 3) (po_some (pv 4)) po_none)) ?mY))) pss_nil)
      (pss_cons (ps_if (pt_cmpR op_eq (pe_op op_mod (pe_op op_fdiv (pv 1) pe_int) pe_int) pe_int (nomark _)) (pss_one (ps_ret (PE.imp (t' := tMx) (pe_op op_cat (pe_op op_cat (pe_slice sl_list (pv 3) po_none (po_some (pv 4))) (pe_lst (pa_cons (pv 5) pa_nil))) (pe_slice sl_list (pv 3) (po_some (pe_op op_add (pv 4) pe_int)) po_none)) ?mZ))) pss_nil)
      (pss_one (ps_ret (pv 3)))))))))))), ?_⟩
    case m4 =>
      rintro σ H Q ⟨a, ns, h0, hS, q⟩
      have hcl := cut_len (ns.map V.int) 3 12
      refine ⟨_, h0, _, rfl, _, rfl, a, _, rfl, hS, fun p0 hp0 => ⟨p0, rfl, ⟨_, SqL.of upd_same⟩, ?_⟩⟩
      refine comp_itl (xs := cutV (ns.map V.int) (some (3 : Nat)) (some (12 : Nat))) (fun i ys H' => Same (upd H p0 (.lst (cutV (ns.map V.int) (some (3 : Nat)) (some (12 : Nat))))) H' ∧ ∃ ms : List Nat, ys = nl ms ∧ ms.length = i ∧ ∀ m ∈ ms, m < 1000000) (by omega) (fun i ys H' p => SqL.of (p.1 _ _ upd_same)) ⟨Same.refl _, [], rfl, rfl, fun m hm => nomatch hm⟩ ?_ ?_
      · rintro i x ys H' N hx ⟨sm, ms, rfl, hml, hmb⟩ hN
        obtain ⟨c, hc, rfl⟩ := List.mem_map.mp (cut_mem (List.mem_of_getElem? hx))
        refine g1 ?_
        refine ⟨_, rfl, c, 1, rfl, by decide, by decide, fun r r0 => ⟨_, _, rfl, rfl, ⟨by decide, by decide, by decide⟩, (by show 3 ≤ sizeLine; decide), fun z hz => ?_⟩⟩
        refine ⟨_, rfl, _, _, rfl, rfl, (by show (0 : Int) < 3; decide), ?_⟩
        refine ixPickP (fun v H' => StepV 1000000 v) upd_same (by show 0 < 3; decide) rfl ?_ ?_
        · exact List.forall_mem_cons.mpr ⟨⟨3, rfl, by decide, by decide⟩, List.forall_mem_cons.mpr ⟨⟨300, rfl, by decide, by decide⟩, List.forall_mem_cons.mpr ⟨⟨1000000, by decide +kernel, by decide, by decide⟩, fun v hv => nomatch hv⟩⟩⟩
        · rintro v ⟨d, rfl, d0, d1⟩
          obtain ⟨m, em, hm⟩ := mod_step r d0
          refine ⟨_, _, rfl, rfl, (by show (0 : Int) < (d : Int); omega), hN _ _ ⟨Same.upd sm hz, ms ++ [m], ?_, by rw [List.length_append, hml]; rfl, fun y hy => ?_⟩⟩
          · rw [nl_app]
            exact congrArg (fun z => nl ms ++ [V.int z]) em
          · rcases List.mem_append.mp hy with z | z
            · exact hmb y z
            · rw [List.mem_singleton.mp z]; omega
      · rintro ys H' ⟨sm, ms, rfl, hml, hmb⟩ _ p hp
        have s1 := (same_upd hp0).trans sm
        exact q p _ ms (Same.upd s1 hp) (s1.free hp) upd_same (by omega) hmb
    case m5 =>
      rintro σ H Q ⟨a, ns, h0, hS, q⟩
      have hcl := cut_len (ns.map V.int) 3 20
      refine ⟨_, h0, _, rfl, _, rfl, a, _, rfl, hS, fun p0 hp0 => ⟨p0, rfl, ⟨_, SqL.of upd_same⟩, ?_⟩⟩
      refine comp_itl (xs := cutV (ns.map V.int) (some (3 : Nat)) (some (20 : Nat))) (fun i ys H' => Same (upd H p0 (.lst (cutV (ns.map V.int) (some (3 : Nat)) (some (20 : Nat))))) H' ∧ ∃ ms : List Nat, ys = nl ms ∧ ms.length = i ∧ ∀ m ∈ ms, m < 256) (by omega) (fun i ys H' p => SqL.of (p.1 _ _ upd_same)) ⟨Same.refl _, [], rfl, rfl, fun m hm => nomatch hm⟩ ?_ ?_
      · rintro i x ys H' N hx ⟨sm, ms, rfl, hml, hmb⟩ hN
        obtain ⟨c, hc, rfl⟩ := List.mem_map.mp (cut_mem (List.mem_of_getElem? hx))
        refine g1 ?_
        refine ⟨_, rfl, c, 2, rfl, by decide, by decide, fun r r0 => ⟨(by show 3 ≤ sizeLine; decide), fun z hz => ?_⟩⟩
        refine ⟨_, rfl, _, _, rfl, rfl, (by show (0 : Int) < 3; decide), ?_⟩
        refine ixPickP (fun v H' => StepV 256 v) upd_same (by show 0 < 3; decide) rfl ?_ ?_
        · exact List.forall_mem_cons.mpr ⟨⟨3, rfl, by decide, by decide⟩, List.forall_mem_cons.mpr ⟨⟨128, rfl, by decide, by decide⟩, List.forall_mem_cons.mpr ⟨⟨256, rfl, by decide, by decide⟩, fun v hv => nomatch hv⟩⟩⟩
        · rintro v ⟨d, rfl, d0, d1⟩
          obtain ⟨m, em, hm⟩ := mod_step r d0
          refine ⟨_, _, rfl, rfl, (by show (0 : Int) < (d : Int); omega), hN _ _ ⟨Same.upd sm hz, ms ++ [m], ?_, by rw [List.length_append, hml]; rfl, fun y hy => ?_⟩⟩
          · rw [nl_app]
            exact congrArg (fun z => nl ms ++ [V.int z]) em
          · rcases List.mem_append.mp hy with z | z
            · exact hmb y z
            · rw [List.mem_singleton.mp z]; omega
      · rintro ys H' ⟨sm, ms, rfl, hml, hmb⟩ _ p hp
        have s1 := (same_upd hp0).trans sm
        exact q p _ ms (Same.upd s1 hp) (s1.free hp) upd_same (by omega) hmb
    case mA =>
      rintro σ H Q ⟨a, ns, b, ms, h0, hS, h3, hB, q⟩
      refine ⟨_, h0, a, ns, 1, rfl, hS, fun n => ⟨_, h3, b, _, rfl, .inl (SqL.of hB), _, _, rfl, rfl, _, _, rfl, rfl, ?_, ?_⟩⟩
      · show (0 : Int) < ((nl ms).length : Nat) + 1
        omega
      · have h : (0 : Int) ≤ n % (((nl ms).length : Nat) + 1) := Int.emod_nonneg _ (by omega)
        obtain ⟨k, hk⟩ := as_nat h
        show Q (.int (n % (((nl ms).length : Nat) + 1))) H
        rw [hk]
        exact q k
    case mO =>
      rintro σ H Q ⟨a, ns, h0, hS, q⟩
      refine ⟨_, rfl, (by show 1 ≤ sizeLine; decide), fun p hp => ?_⟩
      refine ⟨_, _, rfl, rfl, ⟨by decide, by decide, by decide⟩, (by show 13 ≤ sizeLine; decide), fun z hz => ?_⟩
      have s1 : Same H (upd H p (.lst [.int 0])) := same_upd hp
      have s2 := Same.upd (o := .lst [.int 0, .int 1, .int 127, .int 128, .int 129, .int 255, .int 256, .int (-1), .bl true, .str "0", .non, .ref p, .int ((10 : Int) ^ (20 : Int).toNat)]) s1 hz
      refine ⟨_, h0, a, ns, 2, rfl, s2.seq hS, fun n => ⟨_, _, rfl, rfl, (by show (0 : Int) < 13; decide), ?_⟩⟩
      refine ixPickP (fun v H' => OddV H' v) upd_same (by show 0 < 13; decide) rfl ?_ fun v ho => q v _ s2 ho
      exact List.forall_mem_cons.mpr ⟨.int _, List.forall_mem_cons.mpr ⟨.int _, List.forall_mem_cons.mpr ⟨.int _, List.forall_mem_cons.mpr ⟨.int _, List.forall_mem_cons.mpr ⟨.int _, List.forall_mem_cons.mpr ⟨.int _, List.forall_mem_cons.mpr ⟨.int _, List.forall_mem_cons.mpr ⟨.int _, List.forall_mem_cons.mpr ⟨.bl _, List.forall_mem_cons.mpr ⟨.str,
        List.forall_mem_cons.mpr ⟨.non, List.forall_mem_cons.mpr ⟨.lst (same_upd hz _ _ upd_same), List.forall_mem_cons.mpr ⟨.int _, fun v hv => nomatch hv⟩⟩⟩⟩⟩⟩⟩⟩⟩⟩⟩⟩⟩
    case mX =>
      rintro σ H Q ⟨a, ms, k, v, h3, hA, h4, h5, hml, q⟩
      have ll := two_len1 ms k
      refine ⟨_, h3, _, h4, _, rfl, a, _, rfl, SqL.of hA, fun p1 hp1 => ?_⟩
      have s1 : Same H (upd H p1 (.lst (cutV (nl ms) none (some (k : Int))))) := same_upd hp1
      refine ⟨_, h3, _, h4, _, _, rfl, rfl, _, rfl, a, _, rfl, SqL.of (s1 _ _ hA), fun p2 hp2 => ?_⟩
      have s2 := Same.upd (o := .lst (cutV (nl ms) (some ((k : Int) + 1)) none)) s1 hp2
      refine ⟨p1, p2, _, _, rfl, rfl, (by rw [upd_ne (ne_of_none upd_same hp2)]; exact upd_same), upd_same, (by omega), fun p3 hp3 => ?_⟩
      refine q p3 _ _ (Same.upd s2 hp3) (s2.free hp3) upd_same (by rw [List.length_append]; omega) (fun y hy => ?_) (by rw [List.length_append]; omega)
      rcases List.mem_append.mp hy with z | z
      · exact .inr (int_nl z)
      · exact .inr (int_nl z)
    case mY =>
      rintro σ H Q ⟨a, ms, k, v, h3, hA, h4, h5, hml, q⟩
      have ll := two_len ms k
      refine ⟨_, h3, _, h4, _, rfl, a, _, rfl, SqL.of hA, fun p1 hp1 => ⟨_, h5, (by show 1 ≤ sizeLine; decide), fun p2 hp2 => ?_⟩⟩
      have s1 : Same H (upd H p1 (.lst (cutV (nl ms) none (some (k : Int))))) := same_upd hp1
      have s2 := Same.upd (o := .lst [v]) s1 hp2
      refine ⟨p1, p2, _, _, rfl, rfl, (by rw [upd_ne (ne_of_none upd_same hp2)]; exact upd_same), upd_same, (by show _ + 1 ≤ sizeLine; omega), fun p3 hp3 => ?_⟩
      have s3 := Same.upd (o := .lst (cutV (nl ms) none (some (k : Int)) ++ [v])) s2 hp3
      refine ⟨_, h3, _, h4, _, rfl, a, _, rfl, SqL.of (s3 _ _ hA), fun p4 hp4 => ?_⟩
      have s4 := Same.upd (o := .lst (cutV (nl ms) (some (k : Int)) none)) s3 hp4
      have hlen : (cutV (nl ms) none (some (k : Int)) ++ [v] ++ cutV (nl ms) (some (k : Int)) none).length ≤ ms.length + 1 := by
        rw [List.length_append, List.length_append]
        show _ + 1 + _ ≤ _
        omega
      refine ⟨p3, p4, _, _, rfl, rfl, (by rw [upd_ne (ne_of_none upd_same hp4)]; exact upd_same), upd_same, (by rw [List.length_append]; show _ + 1 + _ ≤ sizeLine; omega), fun p5 hp5 => ?_⟩
      refine q p5 _ _ (Same.upd s4 hp5) (s4.free hp5) upd_same (by omega) (fun y hy => ?_) hlen
      rcases List.mem_append.mp hy with z | z
      · rcases List.mem_append.mp z with z | z
        · exact .inr (int_nl z)
        · exact .inl (List.mem_singleton.mp z)
      · exact .inr (int_nl z)
    case mZ =>
      rintro σ H Q ⟨a, ms, k, v, h3, hA, h4, h5, hml, q⟩
      have ll := two_len1 ms k
      refine ⟨_, h3, _, h4, _, rfl, a, _, rfl, SqL.of hA, fun p1 hp1 => ⟨_, h5, (by show 1 ≤ sizeLine; decide), fun p2 hp2 => ?_⟩⟩
      have s1 : Same H (upd H p1 (.lst (cutV (nl ms) none (some (k : Int))))) := same_upd hp1
      have s2 := Same.upd (o := .lst [v]) s1 hp2
      refine ⟨p1, p2, _, _, rfl, rfl, (by rw [upd_ne (ne_of_none upd_same hp2)]; exact upd_same), upd_same, (by show _ + 1 ≤ sizeLine; omega), fun p3 hp3 => ?_⟩
      have s3 := Same.upd (o := .lst (cutV (nl ms) none (some (k : Int)) ++ [v])) s2 hp3
      refine ⟨_, h3, _, h4, _, _, rfl, rfl, _, rfl, a, _, rfl, SqL.of (s3 _ _ hA), fun p4 hp4 => ?_⟩
      have s4 := Same.upd (o := .lst (cutV (nl ms) (some ((k : Int) + 1)) none)) s3 hp4
      have hlen : (cutV (nl ms) none (some (k : Int)) ++ [v] ++ cutV (nl ms) (some ((k : Int) + 1)) none).length ≤ ms.length + 1 := by
        rw [List.length_append, List.length_append]
        show _ + 1 + _ ≤ _
        omega
      refine ⟨p3, p4, _, _, rfl, rfl, (by rw [upd_ne (ne_of_none upd_same hp4)]; exact upd_same), upd_same, (by rw [List.length_append]; show _ + 1 + _ ≤ sizeLine; omega), fun p5 hp5 => ?_⟩
      refine q p5 _ _ (Same.upd s4 hp5) (s4.free hp5) upd_same (by omega) (fun y hy => ?_) hlen
      rcases List.mem_append.mp hy with z | z
      · rcases List.mem_append.mp z with z | z
        · exact .inr (int_nl z)
        · exact .inl (List.mem_singleton.mp z)
      · exact .inr (int_nl z)
    have hbig : 1000000 < big := by unfold big; decide
    refine ⟨_, rfl, a, ns, 0, rfl, hS, fun c => ?_⟩
    refine ⟨_, rfl, _, _, rfl, rfl, (by show (0 : Int) < 3; decide), ?_⟩
    refine ⟨_, rfl, a, ns, 3, rfl, hS, fun pR H1 row s1 hpR hR ho hs hb => ?_⟩
    have hs3 : Small 13 row := ⟨Nat.le_trans hs.l (by decide), hs.n, hs.k, hs.p⟩
    have hrl := rn_len 0 row hs
    have hrl2 := hs.l
    have hrlt := rn_lt 0 row hs
    refine ⟨pR, row, rfl, hR, ho, hs3, fun pN H2 s2 hpN hN => ?_⟩
    refine ⟨pN, rn 0 row, rfl, SqL.of hN, by omega, hrlt, fun pP H3 s3 hpP hP => ?_⟩
    have lpk : (pk (rn 0 row)).length ≤ 1500 := Nat.le_trans (pk_len _ hrlt) (by omega)
    have s13 := (s1.trans s2).trans s3
    have hP0 : H pP = none := (s1.trans s2).free hpP
    clear hR hN s3 hpR hpN
    refine ⟨fun σ' H' => ∃ (p : Addr) (ps : List Nat), σ' = [some (.ref a), some (.int c), some (.int (c % 3)), some (.ref p), none, none] ∧ Same H H' ∧ H p = none ∧ H' p = some (.lst (nl ps)) ∧ ps.length ≤ 1500, ?_, ?_⟩
    · refine ⟨_, rfl, rfl, _, rfl, ite2 (fun _ => ?_) fun _ => ⟨pP, _, rfl, s13, hP0, hP, lpk⟩⟩
      refine ⟨a, ns, rfl, s13.seq hS, fun p0 H4 ms s4 hp0 hM hml hmb => ?_⟩
      have hbm : ∀ m ∈ ms, m < big := fun m hm => Nat.lt_trans (hmb m hm) hbig
      refine ⟨p0, ms, rfl, SqL.of hM, by omega, hbm, fun p1 H5 s5 hp1 hP1 => ?_⟩
      have s14 := s13.trans s4
      exact ⟨p1, pk ms, rfl, s14.trans s5, s14.free hp1, hP1, Nat.le_trans (pk_len _ hbm) (by omega)⟩
    · rintro σ' H4 ⟨p, ps, rfl, sm, hp0, hp, hpl⟩
      refine ⟨fun σ' H' => ∃ (p : Addr) (ps : List Nat), σ' = [some (.ref a), some (.int c), some (.int (c % 3)), some (.ref p), none, none] ∧ Same H H' ∧ H p = none ∧ H' p = some (.lst (nl ps)) ∧ ps.length ≤ 1500, ?_, ?_⟩
      · refine ⟨_, rfl, rfl, _, rfl, ite2 (fun _ => ?_) fun _ => ⟨p, _, rfl, sm, hp0, hp, hpl⟩⟩
        exact ⟨a, ns, rfl, sm.seq hS, fun p0 H5 ms s5 hp0 hM hml hmb => ⟨p0, ms, rfl, sm.trans s5, sm.free hp0, hM, by omega⟩⟩
      · clear sm hp0 hp hpl
        rintro σ' H5 ⟨p, ps, rfl, sm, hp0, hp, hpl⟩
        refine ⟨a, ns, p, ps, rfl, sm.seq hS, rfl, hp, fun k => ?_⟩
        refine ⟨a, ns, rfl, sm.seq hS, fun v H6 s6 hv => ?_⟩
        have s06 := sm.trans s6
        have mix : ∀ (q : Addr) (H' : Hp) (xs : List V), Same H6 H' → H6 q = none → H' q = some (.lst xs) → xs.length ≤ 3001 → (∀ y ∈ xs, y = v ∨ ∃ m : Int, y = .int m) → xs.length ≤ ps.length + 1 → Q (.ref q) H' := fun q H' xs s7 hq hX _ hy hxl =>
          kk q H' xs (s06.trans s7) (s06.free hq) hX (by omega) fun y h => by
            rcases hy y h with rfl | ⟨m, rfl⟩
            · exact hv.same s7
            · exact .int m
        refine ⟨_, rfl, _, _, rfl, rfl, ⟨by decide, by decide⟩, _, _, rfl, rfl, (by show (0 : Int) < 4; decide), rfl, _, rfl, ite2 (fun _ => ?_) fun _ => ?_⟩
        · exact ⟨p, ps, k, v, rfl, s6 _ _ hp, rfl, rfl, hpl, mix⟩
        refine ⟨_, rfl, _, _, rfl, rfl, ⟨by decide, by decide⟩, _, _, rfl, rfl, (by show (0 : Int) < 4; decide), rfl, _, rfl, ite2 (fun _ => ?_) fun _ => ?_⟩
        · exact ⟨p, ps, k, v, rfl, s6 _ _ hp, rfl, rfl, hpl, mix⟩
        refine ⟨_, rfl, _, _, rfl, rfl, ⟨by decide, by decide⟩, _, _, rfl, rfl, (by show (0 : Int) < 4; decide), rfl, _, rfl, ite2 (fun _ => ?_) fun _ => ?_⟩
        · exact ⟨p, ps, k, v, rfl, s6 _ _ hp, rfl, rfl, hpl, mix⟩
        · refine ⟨_, rfl, kk p H6 (nl ps) s06 hp0 (s6 _ _ hp) (by rw [nl_len]; omega) fun y h => ?_⟩
          obtain ⟨m, _, rfl⟩ := List.mem_map.mp h
          exact .int _
end
end K06
set_option Elab.async false
set_option linter.all false
set_option maxRecDepth 100000
set_option maxHeartbeats 4000000
namespace K06
open PySem L2 PyProof.Rows PySem.Spec Gn K04
structure Cl (mg : Str → Option Value) (CH CN CP CR : Addr) : Prop where
  h : mg "HallError" = some (.ref CH)
  n : mg "BadNumber" = some (.ref CN)
  p : mg "BadParts" = some (.ref CP)
  r : mg "BadRow" = some (.ref CR)
structure CF (K : PySem.W.Frag) (CH CN CP CR : Addr) : Prop where
  x : PySem.W.ExcCls K CP
  p : PySem.W.kitOne K (.ref CP) (.ref CP) = some true
  r : PySem.W.kitOne K (.ref CP) (.ref CR) = some false
  n : PySem.W.kitOne K (.ref CP) (.ref CN) = some false
  v : PySem.W.kitOne K (.ref CP) (.type "ValueError") = some true
  e : PySem.W.exmOne K (.ref CP) (.ref CH) = some true
inductive NV (H : Hp) (r : Option (List Nat)) : V → PyData → Prop
  | no (h : r = none) : NV H r .non .none
  | li {q : Addr} {ns : List Nat} (h : r = some ns) (hq : H q = some (.lst (nl ns))) : NV H r (.ref q) (.list (dN ns))
inductive RV (H : Hp) (r : Option (List Nat)) : V → PyData → Prop
  | no (h : r.bind rowN = none) : RV H r .non .none
  | li {q : Addr} {ns : List Nat} {row : List Pr} (h : r = some ns) (hw : rowN ns = some row) (hq : RowAt H q row) : RV H r (.ref q) (dRow row)
theorem NV.same {H H' : Hp} {r : Option (List Nat)} {v : V} {d : PyData} (h : NV H r v d) (s : Same H H') : NV H' r v d := by
  cases h with
  | no h => exact .no h
  | li h hq => exact .li h (s _ _ hq)
theorem RV.same {H H' : Hp} {r : Option (List Nat)} {v : V} {d : PyData} (h : RV H r v d) (s : Same H H') : RV H' r v d := by
  cases h with
  | no h => exact .no h
  | li h hw hq => exact .li h hw (hq.same s)
theorem NV.one {H H' : Hp} {r : Option (List Nat)} {v v' : V} {d d' : PyData} (h : NV H r v d) (h' : NV H' r v' d') : d = d' := by
  cases h with
  | no h =>
    cases h' with
    | no h' => rfl
    | li h' _ => rw [h] at h'; cases h'
  | li h _ =>
    cases h' with
    | no h' => rw [h] at h'; cases h'
    | li h' _ => rw [h] at h'; cases h'; rfl
theorem RV.one {H H' : Hp} {r : Option (List Nat)} {v v' : V} {d d' : PyData} (h : RV H r v d) (h' : RV H' r v' d') : d = d' := by
  cases h with
  | no h =>
    cases h' with
    | no h' => rfl
    | li h' hw _ => rw [h'] at h; have h2 : rowN _ = none := h; rw [hw] at h2; cases h2
  | li h hw _ =>
    cases h' with
    | no h' => rw [h] at h'; have h2 : rowN _ = none := h'; rw [hw] at h2; cases h2
    | li h' hw' _ => rw [h] at h'; cases h'; rw [hw] at hw'; cases hw'; rfl
noncomputable def TV (H : Hp) (j : Nat) (r : Option (List Nat)) (v : V) (d : PyData) : Prop := if j = 0 then NV H r v d else RV H r v d
theorem TV.same {H H' : Hp} {j : Nat} {r : Option (List Nat)} {v : V} {d : PyData} (h : TV H j r v d) (s : Same H H') : TV H' j r v d := by
  unfold TV at h ⊢
  by_cases hj : j = 0
  · rw [if_pos hj] at h ⊢; exact h.same s
  · rw [if_neg hj] at h ⊢; exact h.same s
theorem TV.one {H H' : Hp} {j : Nat} {r : Option (List Nat)} {v v' : V} {d d' : PyData} (h : TV H j r v d) (h' : TV H' j r v' d') : d = d' := by
  unfold TV at h h'
  by_cases hj : j = 0
  · rw [if_pos hj] at h h'; exact h.one h'
  · rw [if_neg hj] at h h'; exact h.one h'
theorem TV.none_ {H : Hp} {j : Nat} {v : V} {d : PyData} (h : TV H j none v d) : v = .non ∧ d = .none := by
  unfold TV at h
  by_cases hj : j = 0
  · rw [if_pos hj] at h
    cases h with
    | no h => exact ⟨rfl, rfl⟩
    | li h _ => cases h
  · rw [if_neg hj] at h
    cases h with
    | no h => exact ⟨rfl, rfl⟩
    | li h _ _ => cases h
section
variable {P : Program} {w : World} {K : PySem.W.Frag} {mg : Str → Option Value} {base : Heap} {C CH CN CP CR : Addr}
theorem NV.dt {H : Hp} {r : Option (List Nat)} {v : V} {d : PyData} (h : NV H r v d) : DtV K H v d ∧ d.canLay0 = true ∧ d.depth ≤ 4 := by
  cases h with
  | no h => exact ⟨.non, rfl, Nat.zero_le _⟩
  | li h hq => exact ⟨.lst (SqL.of hq) (dt_nl _), lay_nl _, Nat.le_trans (depth_nl _) (by decide)⟩
theorem RV.dt {H : Hp} {r : Option (List Nat)} {v : V} {d : PyData} (h : RV H r v d) : DtV K H v d ∧ d.canLay0 = true ∧ d.depth ≤ 4 := by
  cases h with
  | no h => exact ⟨.non, rfl, Nat.zero_le _⟩
  | li h hw hq => exact ⟨dt_row hq, lay_row _, depth_row _⟩
theorem TV.dt {H : Hp} {j : Nat} {r : Option (List Nat)} {v : V} {d : PyData} (h : TV H j r v d) : DtV K H v d ∧ d.canLay0 = true ∧ d.depth ≤ 4 := by
  unfold TV at h
  by_cases hj : j = 0
  · rw [if_pos hj] at h; exact h.dt
  · rw [if_neg hj] at h; exact h.dt
theorem TV.l1 {H : Hp} {j : Nat} {r : Option (List Nat)} {v : V} {d : PyData} {p : Addr} (h : TV H j r v d) (hp : H p = some (.lst [v])) : DtV K H (.ref p) (.list [d]) ∧ (PyData.list [d]).canLay0 = true ∧ (PyData.list [d]).depth ≤ 5 := by
  obtain ⟨h1, h2, h3⟩ := h.dt (K := K)
  refine ⟨.lst (SqL.of hp) (.cons h1 .nil), ?_, ?_⟩
  · show (d.canLay0 && true) = true
    rw [h2]
    rfl
  · show max d.depth 0 + 1 ≤ 5
    omega
noncomputable def spTold (K : PySem.W.Frag) : Sp := fun vs H Q _ => ∃ (j : Nat) (x : V) (r : Option (List Nat)), vs = [.int (j : Int), x] ∧ ArgR K H x r ∧ ∀ p H' v d, Same H H' → H' p = some (.lst [v]) → TV H' j r v d → Q (.ref p) H'
theorem scTold : FnScope ["_law_which", "_law_parts_here", "error"] ["_law_which", "_law_parts_here"] (defScope lTold) := ⟨rfl, rfl, rfl, by decide +kernel, rfl, by decide +kernel, by decide +kernel⟩
theorem bind_none {r : Option (List Nat)} {j : Nat} {H : Hp} (h : if j = 0 then r = none else r.bind rowN = none) : TV H j r .non .none := by
  unfold TV
  by_cases hj : j = 0
  · rw [if_pos hj] at h ⊢; exact .no h
  · rw [if_neg hj] at h ⊢; exact .no h
seal PSs PS PE PT PA PG PI PGs PIfs in
theorem ok_told {f fu fr fi fre : Addr} {fd fdu fdr fdi fdre : FuncData} (D : Df K mg "_law_told" lTold f fd) (XC : Cl mg CH CN CP CR) (F : CF K CH CN CP CR) (T : TxtC K mg C) (B : Txt mg)
    (DU : Df K mg "unpacked" sUnp fu fdu) (GU : FnOk P w K mg base (CX1 P w) 3 fu fdu ["parts"] (spUnp K CP)) (DR : Df K mg "unpacked_row" sURow fr fdr) (GR : FnOk P w K mg base (CX1 P w) 4 fr fdr ["parts"] (spURow K CP))
    (M : L2.Mk K C fi) (FI : Fun K "__init__" "Walk.__init__" mInit fi fdi) (GI : FnOk P w K mg base (CX1 P w) 5 fi fdi ["self", "parts"] (spInit K C CP)) (FR : Fun K "rest" "Walk.rest" mRest fre fdre) (mR : Meth K C "rest" fre) :
    FnOk P w K mg base CX0 7 f fd ["_law_which", "_law_parts_here"] (spTold K) := by
  have GE : FnOk P w K mg base CX0 1 fre fdre ["self"] (spRest C) := ok_rest FR T
  have bU := binds1 (p := "parts") DU.F fun _ _ _ _ _ _ _ => rfl
  have bR := binds1 (p := "parts") DR.F fun _ _ _ _ _ _ _ => rfl
  have bI := FI.binds (ps := ["self", "parts"]) fun _ _ _ _ _ _ us hl => match us, hl with | [_, _], _ => rfl
  have bE := FR.binds (ps := ["self"]) fun _ _ _ _ _ _ us hl => match us, hl with | [_], _ => rfl
  refine D.F.ok scTold (fun vs H Q E h => ?_) (fun cdv A outer s H vs Q E hr h => ?_)
  · obtain ⟨j, x, r, rfl, _⟩ := h
    rfl
  · obtain ⟨j, x, r, rfl, hA, kk⟩ := h
    refine ⟨_, pss_one (ps_try (CH := CH) (i := 2) (fun σ cls _ H' => σ = [some (.int (j : Int)), some x, none] ∧ Same H H' ∧ cls = .ref CP ∧ if j = 0 then r = none else r.bind rowN = none) rfl rfl scTold.nd rfl rfl rfl XC.h
        (fun p xe hx => pss_cons (ps_if (pt_cmpR op_eq (pv 0) pe_int (nomark _)) (pss_one (ps_ret (pe_lst (pa_cons (pe_callS (GU.mono (by decide)) hr rfl DU.m DU.F.kp bU .nil hx (pa_cons (pv 1) pa_nil)) pa_nil)))) pss_nil)
          (pss_cons (ps_if (pt_cmpR op_eq (pv 0) pe_int (nomark _)) (pss_one (ps_ret (pe_lst (pa_cons (pe_callS (GR.mono (by decide)) hr rfl DR.m DR.F.kp bR .nil hx (pa_cons (pv 1) pa_nil)) pa_nil)))) pss_nil)
          (pss_one (ps_ret (pe_lst (pa_cons (pe_meth0 (pe_makeS M GI hr rfl T.mgC bI .nil hx (pa_cons (pv 1) pa_nil)) T.cl mR (GE.mono (by decide)) hr bE .nil pass0) pa_nil))))))
        (fun ea p => pss_cons (ps_if (PW.pt (pw_or (pt_val (pe_callB (call_isiEK (K := K) rfl) rfl B.isi b_isi (pa_cons (pv 2) (pa_cons (pe_glob (v := .ref CR) rfl XC.r rfl) pa_nil))))
            (pw_or (pt_val (pe_callB (call_isiEK (K := K) rfl) rfl B.isi b_isi (pa_cons (pv 2) (pa_cons (pe_glob (v := .ref CN) rfl XC.n rfl) pa_nil))))
            (pw_or1 (pt_not (pt_val (pe_callB (call_isiEK (K := K) rfl) rfl B.isi b_isi (pa_cons (pv 2) (pa_cons (pe_bltn (v := .ty "ValueError") rfl B.val b_val rfl) pa_nil)))))))) ) (pss_one (ps_ret (pe_lst pa_nil))) pss_nil)
          (pss_one (ps_ret (pe_ifExp (pt_val (pe_callB (call_isiEK (K := K) rfl) rfl B.isi b_isi (pa_cons (pv 2) (pa_cons (pe_glob (v := .ref CP) rfl XC.p rfl) pa_nil)))) (pe_lst (pa_cons pe_non pa_nil)) (pe_lst pa_nil)))))), ?_⟩
    refine ⟨?_, ?_⟩
    · refine ⟨_, rfl, rfl, _, rfl, ?_⟩
      by_cases h0 : j = 0
      · rw [dec_i (by omega)]
        refine iteT ⟨_, rfl, x, r, rfl, hA, fun ns er _ q H1 s1 _ hq => ⟨(by show 1 ≤ sizeLine; decide), fun p hp => ?_⟩, fun er H' s' => ⟨rfl, s', rfl, by rw [if_pos h0]; exact er⟩⟩
        have s2 := Same.upd (o := .lst [.ref q]) s1 hp
        refine kk p _ _ (.list (dN ns)) s2 upd_same ?_
        unfold TV
        rw [if_pos h0]
        exact .li er (same_upd hp _ _ hq)
      · rw [dec_n (by omega)]
        refine iteF ⟨_, rfl, rfl, _, rfl, ?_⟩
        by_cases h1 : j = 1
        · rw [dec_i (by omega)]
          refine iteT ⟨_, rfl, x, r, rfl, hA, fun ns row er ew q H1 s1 _ hq => ⟨(by show 1 ≤ sizeLine; decide), fun p hp => ?_⟩, fun er H' s' => ⟨rfl, s', rfl, by rw [if_neg h0]; exact er⟩⟩
          have s2 := Same.upd (o := .lst [.ref q]) s1 hp
          refine kk p _ _ (dRow row) s2 upd_same ?_
          unfold TV
          rw [if_neg h0]
          exact .li er ew (hq.same (same_upd hp))
        · rw [dec_n (by omega)]
          refine iteF ⟨_, rfl, fun y dy ny ndy ney => ?_⟩
          have sA : Same H (upd (upd H dy (.own y)) y (.ins C dy [])) := fun b u e => by rw [upd_ne (ne_of_none e ny), upd_ne (ne_of_none e ndy)]; exact e
          refine ⟨y, x, dy, r, rfl, upd_same, hA.same sA, fun ns row er ew q H1 hq hW sb => ⟨rfl, ?_⟩, fun er H' s' => ⟨rfl, sA.trans s', rfl, by rw [if_neg h0]; exact er⟩⟩
          have s1 : Same H H1 := fun b u e => sb b u (sA _ _ e) (ne_of_none e ny)
          obtain ⟨dx, hx⟩ := hW.ob
          refine ⟨y, dx, _, rfl, hx, flds_no _ _ (by decide +kernel) (by decide +kernel), y, q, row, 0, rfl, hW, fun z H2 s2 hz hZ => ⟨(by show 1 ≤ sizeLine; decide), fun p hp => ?_⟩⟩
          have s3 := Same.upd (o := .lst [.ref z]) (s1.trans s2) hp
          refine kk p _ _ (dRow row) s3 upd_same ?_
          unfold TV
          rw [if_neg h0]
          exact .li er ew (hZ.same (same_upd hp))
    · rintro σ' cls H' ea ⟨rfl, sm, rfl, hn0⟩ hn
      refine ⟨_, rfl, F.e, _, rfl, ea, CP, _, false, rfl, upd_same, F.x, .inr (.inl ⟨_, rfl, F.r⟩), _, rfl, iteF ?_⟩
      refine ⟨_, rfl, ea, CP, _, false, rfl, upd_same, F.x, .inr (.inl ⟨_, rfl, F.n⟩), _, rfl, iteF ?_⟩
      refine ⟨_, rfl, ea, CP, _, true, rfl, upd_same, F.x, .inl ⟨_, rfl, F.v⟩, _, rfl, iteF ?_⟩
      refine ⟨_, rfl, ea, CP, _, true, rfl, upd_same, F.x, .inr (.inl ⟨_, rfl, F.p⟩), _, rfl, iteT ⟨(by show 1 ≤ sizeLine; decide), fun p hp => ?_⟩⟩
      exact kk p _ _ _ (Same.upd (Same.upd sm hn) hp) upd_same (bind_none hn0)
end
end K06
set_option Elab.async false
set_option linter.all false
set_option maxRecDepth 100000
set_option maxHeartbeats 4000000
namespace L2
open PySem PySem.Spec PyProof.Rows
section
variable {X : Cx} {pins : List (Addr × Obj)} {σ : L2.St} {H : Hp} {s : Shared}
theorem Inv.big2 (I : Inv X pins σ H s) : sysModules < s.heap.objs.size := by
  have h : mainGlobals < s.heap.objs.size := (I.mod.glob.keeps I.bk).lt
  exact Nat.lt_trans (by decide) h
end
noncomputable def tDNew2 : TE := fun _ H Q => ∀ p, H p = none → Q (.ref p) (upd H p (.dK []))
theorem pe_dnew2 {X : Cx} {pos : Pos} : PE X (.Dict [] [] pos) tDNew2 := fun pins s σ H Q I h =>
  wpAny_Dict_empty ⟨.ref s.heap.objs.size, _, I.laid (a := s.heap.objs.size) (o := .dK []) (t' := s.toks) (fun _ _ q => Heap.get?_push_of_some _ q) (Nat.le_refl _)
    ⟨Nat.zero_le _, beq_eq_false_iff_ne.mpr (Ne.symm (Nat.ne_of_lt I.big2)), [], .nil, Heap.DictOf.new s.heap⟩, rfl, h _ (I.hok.fresh (Nat.le_refl _))⟩
end L2
namespace K06
open PySem L2 PyProof.Rows PySem.Spec Gn K04
theorem rn_ge : ∀ (l : Nat) (row : List Pr), row.length ≤ (rn l row).length
  | _, [] => Nat.le_refl _
  | l, (n, pl) :: r => by
    show r.length + 1 ≤ (gaps 0 pl ++ rn (n + 1) r).length + 1 + 1
    have := rn_ge (n + 1) r
    rw [List.length_append]
    omega
theorem rn_pl : ∀ (l : Nat) (row : List Pr), ∀ x ∈ row, x.2.length ≤ (rn l row).length
  | _, [], _, h => nomatch h
  | l, (n, pl) :: r, x, h => by
    show x.2.length ≤ (gaps 0 pl ++ rn (n + 1) r).length + 1 + 1
    rw [List.length_append, gaps_len]
    rcases List.mem_cons.mp h with e | h
    · subst e
      show pl.length ≤ _
      omega
    · have := rn_pl (n + 1) r x h
      omega
theorem row_wd {ns : List Nat} {row : List Pr} (h : rowN ns = some row) (hl : ns.length ≤ 2000) : Wd row ∧ rn 0 row = ns ∧ RowOk 0 row := by
  obtain ⟨e, ho⟩ := rowR_ok _ _ _ _ h
  have h1 := rn_ge 0 row
  refine ⟨⟨by rw [e] at h1; omega, fun x hx => ?_⟩, e, ho⟩
  have := rn_pl 0 row x hx
  rw [e] at this
  omega
section
variable {P : Program} {w : World} {K : PySem.W.Frag} {mg : Str → Option Value} {base : Heap} {C : Addr}
noncomputable abbrev N8 : List Str := ["_law_script", "_law_parts_here", "_law_handed", "_law_numbers", "_law_row_here", "_law_which", "_law_told_here", "_law_odd"]
noncomputable def spLaw (K : PySem.W.Frag) : Sp := fun vs H Q _ => ∃ (a : Addr) (ns : List Int), vs = [.ref a] ∧ SqL K H a (ns.map V.int) ∧ ∀ H', Q (.bl true) H'
theorem scLaw : FnScope N8 ["_law_script"] (defScope lLaw) := ⟨rfl, rfl, rfl, by decide +kernel, rfl, by decide +kernel, by decide +kernel⟩
noncomputable def tNv (K : PySem.W.Frag) : TE := fun σ H Q => ∃ (p : Addr) (xs : List V), σ[1]? = some (some (.ref p)) ∧ H p = some (.lst xs) ∧ (∀ y ∈ xs, Known K H y) ∧ xs.length ≤ 2000 ∧ ∀ v d H', Same H H' → NV H' (rdV xs) v d → Q v H'
noncomputable def tRw : TE := fun σ H Q => ∃ (r : Option (List Nat)) (v : V) (d : PyData), σ[3]? = some (some v) ∧ NV H r v d ∧ (∀ ns, r = some ns → ns.length ≤ 2000) ∧ ∀ v' d' H', Same H H' → RV H' r v' d' → Q v' H'
noncomputable def tDue : TE := fun σ H Q => ∃ (j : Nat) (v3 v4 : V), σ[5]? = some (some (.int (j : Int))) ∧ σ[3]? = some (some v3) ∧ σ[4]? = some (some v4) ∧ j < 3 ∧ ∀ p H', Same H H' → H' p = some (.lst [if j = 0 then v3 else v4]) → Q (.ref p) H'
noncomputable def tOdd2 (K : PySem.W.Frag) : TE := fun σ H Q => ∃ (a : Addr) (ns : List Int), σ[0]? = some (some (.ref a)) ∧ SqL K H a (ns.map V.int) ∧ ∀ v H', Same H H' → ArgR K H' v none → Q v H'
theorem pick3 {j : Nat} {v3 v4 : V} (h : j < 3) : [v3, v4, v4][j]? = some (if j = 0 then v3 else v4) := by
  match j, h with
  | 0, _ => rfl
  | 1, _ => rfl
  | 2, _ => rfl
theorem five {i : Nat} {x : V} (h : ([.int 0, .int 1, .int 2, .int 1, .int 0] : List V)[i]? = some x) : ∃ j : Nat, j < 3 ∧ x = .int (j : Int) := by
  match i, h with
  | 0, h => exact ⟨0, by decide, (Option.some.inj h).symm⟩
  | 1, h => exact ⟨1, by decide, (Option.some.inj h).symm⟩
  | 2, h => exact ⟨2, by decide, (Option.some.inj h).symm⟩
  | 3, h => exact ⟨1, by decide, (Option.some.inj h).symm⟩
  | 4, h => exact ⟨0, by decide, (Option.some.inj h).symm⟩
theorem depL {d : PyData} {n : Nat} (h : d.depth ≤ n) (hn : n ≤ 100) : min d.depth d.depth ≤ 100 := Nat.le_trans (Nat.min_le_left _ _) (Nat.le_trans h hn)
theorem lay1N : (PyData.list [.none]).canLay0 = true := rfl
seal PSs PS PE PT PA PG PI PGs PIfs in
theorem ok_law {f fpb frd flr fto fin fis fce fpk fpr : Addr} {fd fdpb fdrd fdlr fdto fdin fdis fdce fdpk fdpr : FuncData} (D : Df K mg "law" lLaw f fd) (B : Txt mg)
    (DB : Df K mg "_law_parts_by" lPartsBy fpb fdpb) (GB : FnOk P w K mg base CX0 3 fpb fdpb ["_law_script"] (spPartsBy K))
    (DD : Df K mg "_law_read" lRead frd fdrd) (GD : FnOk P w K mg base CX0 1 frd fdrd ["_law_parts_here"] (spRead K))
    (DR : Df K mg "_law_row" lRow flr fdlr) (GR : FnOk P w K mg base CX0 1 flr fdlr ["_law_numbers"] spLRow)
    (DT : Df K mg "_law_told" lTold fto fdto) (GT : FnOk P w K mg base CX0 7 fto fdto ["_law_which", "_law_parts_here"] (spTold K))
    (DI : Df K mg "_law_ints_are" lInts fin fdin) (GI : FnOk P w K mg base CX0 1 fin fdin ["_law_found", "_law_due"] (spInts K))
    (DS : Df K mg "_law_row_is" lRowIs fis fdis) (GS : FnOk P w K mg base CX0 1 fis fdis ["_law_found", "_law_due"] spRowIs)
    (DC : Df K mg "_law_cell_at" lCell fce fdce) (GC : FnOk P w K mg base CX0 1 fce fdce ["_law_script", "_law_k"] (spCell K))
    (DP : Df K mg "packed" sPacked fpk fdpk) (GP : FnOk P w K mg base CX0 3 fpk fdpk ["numbers"] (spPacked K))
    (DW : Df K mg "packed_row" sPRow fpr fdpr) (GW : FnOk P w K mg base CX0 5 fpr fdpr ["row"] spPRow) :
    FnOk P w K mg base CX0 8 f fd ["_law_script"] (spLaw K) := by
  have bB := binds1 (p := "_law_script") DB.F fun _ _ _ _ _ _ _ => rfl
  have bD := binds1 (p := "_law_parts_here") DD.F fun _ _ _ _ _ _ _ => rfl
  have bR := binds1 (p := "_law_numbers") DR.F fun _ _ _ _ _ _ _ => rfl
  have bT := DT.F.binds (ps := ["_law_which", "_law_parts_here"]) fun _ _ _ _ _ _ us hl => match us, hl with | [_, _], _ => rfl
  have bI := DI.F.binds (ps := ["_law_found", "_law_due"]) fun _ _ _ _ _ _ us hl => match us, hl with | [_, _], _ => rfl
  have bS := DS.F.binds (ps := ["_law_found", "_law_due"]) fun _ _ _ _ _ _ us hl => match us, hl with | [_, _], _ => rfl
  have bC := DC.F.binds (ps := ["_law_script", "_law_k"]) fun _ _ _ _ _ _ us hl => match us, hl with | [_, _], _ => rfl
  have bP := binds1 (p := "numbers") DP.F fun _ _ _ _ _ _ _ => rfl
  have bW := binds1 (p := "row") DW.F fun _ _ _ _ _ _ _ => rfl
  refine D.F.ok scLaw (fun vs H Q E h => ?_) (fun cdv A outer s H vs Q E hr h => ?_)
  · obtain ⟨a, ns, rfl, _⟩ := h
    rfl
  · obtain ⟨a, ns, rfl, hS, kk⟩ := h
    have hl : (sizeLine : Nat) = 16777216 := sizeLine_eq
    refine ⟨_, pss_cons (ps_set (i := 1) scLaw.nd rfl (Or.inl rfl) (pe_call (GB.mono (by decide)) hr rfl DB.m DB.F.kp bB .nil pass0 (pa_cons (pv 0) pa_nil)))
      (pss_cons (ps_set (i := 2) scLaw.nd rfl (Or.inl rfl) (pe_callTy call_list_of rfl B.list b_list (pa_cons (pv 1) pa_nil)))
      (pss_cons (ps_set (i := 3) scLaw.nd rfl (Or.inl rfl) (PE.imp (t' := tNv K) (pe_call (GD.mono (by decide)) hr rfl DD.m DD.F.kp bD .nil pass0 (pa_cons (pv 1) pa_nil)) ?mN))
      (pss_cons (ps_set (i := 4) scLaw.nd rfl (Or.inl rfl) (PE.imp (t' := tRw) (pe_ifExp (pt_cmp (pc_isN (pv 3))) pe_non (pe_call (GR.mono (by decide)) hr rfl DR.m DR.F.kp bR .nil pass0 (pa_cons (pv 3) pa_nil))) ?mR))
      (pss_cons (ps_for PassesOwn.never rfl (pi_list (pe_lst (pa_cons pe_int (pa_cons pe_int (pa_cons pe_int (pa_cons pe_int (pa_cons pe_int pa_nil))))))) (pg_name (i := 5) scLaw.nd rfl (Or.inl rfl))
        (pss_cons (ps_set (i := 6) scLaw.nd rfl (Or.inl rfl) (pe_call GT hr rfl DT.m DT.F.kp bT .nil pass0 (pa_cons (pv 5) (pa_cons (pv 2) pa_nil))))
        (pss_cons (ps_if (PW.pt (pw_or (pt_cmpR (op_neD hr.units100) (pv 6) (PE.imp (t' := tDue) (pe_lst (pa_cons (pe_ix ix_list (pe_lst (pa_cons (pv 3) (pa_cons (pv 4) (pa_cons (pv 4) pa_nil)))) (pv 5) (fun _ _ => rfl)) pa_nil)) ?mD) (nomark _)) (pw_or1 (pt_cmpR (op_neD hr.units100) (pv 2) (pv 1) (nomark _))))) (pss_one (ps_ret pe_bl)) pss_nil)
        (pss_cons (ps_ifJ (PW.pt (pw_and (pt_cmpR op_eq (pv 5) pe_int (nomark _)) (pw_and (pt_cmp (pc_notN (pv 3))) (pw_and1 (pt_not (pt_val (pe_call (GI.mono (by decide)) hr rfl DI.m DI.F.kp bI .nil pass0 (pa_cons (pe_ix ix_list (pv 6) pe_int (fun _ _ => rfl)) (pa_cons (pv 3) pa_nil))))))))) (pss_one (ps_ret pe_bl)) pss_nil)
        (pss_one (ps_ifJ (PW.pt (pw_and (pt_cmpR op_gt (pv 5) pe_int (nomark _)) (pw_and (pt_cmp (pc_notN (pv 4))) (pw_and1 (pt_not (pt_val (pe_call (GS.mono (by decide)) hr rfl DS.m DS.F.kp bS .nil pass0 (pa_cons (pe_ix ix_list (pv 6) pe_int (fun _ _ => rfl)) (pa_cons (pv 4) pa_nil))))))))) (pss_one (ps_ret pe_bl)) pss_nil))))))
      (pss_cons (ps_set (i := 7) scLaw.nd rfl (Or.inl rfl) (PE.imp (t' := tOdd2 K) (pe_ix ix_list (pe_lst (pa_cons pe_non (pa_cons pe_str (pa_cons pe_int (pa_cons pe_dnew2 (pa_cons (pe_tup (pa_cons pe_int (pa_cons pe_int pa_nil))) (pa_cons (pe_lst (pa_cons (pe_lst (pa_cons pe_int pa_nil)) pa_nil)) pa_nil)))))))
        (pe_op op_mod (pe_call (GC.mono (by decide)) hr rfl DC.m DC.F.kp bC .nil pass0 (pa_cons (pv 0) (pa_cons pe_int pa_nil))) pe_int) (fun _ _ => rfl)) ?mO))
      (pss_cons (ps_if (PW.pt (pw_or (pt_cmpR (op_neD hr.units100) (pe_call GT hr rfl DT.m DT.F.kp bT .nil pass0 (pa_cons pe_int (pa_cons (pv 7) pa_nil))) (pe_lst (pa_cons pe_non pa_nil)) (nomark _))
        (pw_or (pt_cmpR (op_neD hr.units100) (pe_call GT hr rfl DT.m DT.F.kp bT .nil pass0 (pa_cons pe_int (pa_cons (pv 7) pa_nil))) (pe_lst (pa_cons pe_non pa_nil)) (nomark _))
        (pw_or1 (pt_cmpR (op_neD hr.units100) (pe_call GT hr rfl DT.m DT.F.kp bT .nil pass0 (pa_cons pe_int (pa_cons (pv 7) pa_nil))) (pe_lst (pa_cons pe_non pa_nil)) (nomark _)))))) (pss_one (ps_ret pe_bl)) pss_nil)
      (pss_cons (ps_ifJ (PW.pt (pw_and (pt_cmp (pc_notN (pv 3))) (pw_and1 (pt_cmpR (op_neD hr.units100) (pe_call (GP.mono (by decide)) hr rfl DP.m DP.F.kp bP .nil pass0 (pa_cons (pv 3) pa_nil)) (pv 1) (nomark _))))) (pss_one (ps_ret pe_bl)) pss_nil)
      (pss_one (ps_ret (pe_or (pe_cmp (pc_isN (pv 4))) (pe_one (pe_cmpR (op_eqD hr.units100) (pe_call (GW.mono (by decide)) hr rfl DW.m DW.F.kp bW .nil pass0 (pa_cons (pv 4) pa_nil)) (pv 1) (nomark _))))))))))))), ?_⟩
    case mN =>
      rintro σ H Q ⟨p, xs, h1, hP, hk, hl, q⟩
      exact ⟨_, h1, p, xs, rfl, hP, hk, hl, fun hn H' s => q _ _ _ s (.no hn), fun ns h p' H' s _ hq => q _ _ _ s (.li h hq)⟩
    case mR =>
      rintro σ H Q ⟨r, v, d, h3, hv, hlen, q⟩
      cases hv with
      | no h => exact ⟨_, h3, _, rfl, iteT (q .non .none _ (Same.refl _) (.no (by rw [h]; rfl)))⟩
      | li h hq => exact ⟨_, h3, _, rfl, iteF ⟨_, h3, _, _, rfl, hq, hlen _ h, fun hn H' s => q .non .none _ s (.no (by rw [h]; exact hn)), fun row hw p H' s _ hR => q _ _ _ s (.li h hw hR)⟩⟩
    case mD =>
      rintro σ H Q ⟨j, v3, v4, h5, h3, h4, hj, q⟩
      exact ⟨_, h3, _, h4, _, h4, (by show 3 ≤ sizeLine; decide), fun z hz => ⟨_, h5, z, _, _, _, rfl, rfl, SqL.of upd_same, atI_nat (j := j) (pick3 hj), (by show 1 ≤ sizeLine; decide), fun p hp => q p _ (Same.upd (same_upd hz) hp) upd_same⟩⟩
    case mO =>
      rintro σ H Q ⟨a, ns, h0, hS, q⟩
      refine fun p1 hp1 => ⟨(by show 2 ≤ sizeLine; decide), fun p2 hp2 => ⟨(by show 1 ≤ sizeLine; decide), fun p3 hp3 => ⟨(by show 1 ≤ sizeLine; decide), fun p4 hp4 => ⟨(by show 6 ≤ sizeLine; decide), fun z hz => ?_⟩⟩⟩⟩
      have s1 : Same H (upd H p1 (.dK [])) := same_upd hp1
      have e1 : (upd H p1 (.dK [])) p1 = some (.dK []) := upd_same
      generalize upd H p1 (.dK []) = H1 at s1 e1 hp2 hp3 hp4 hz ⊢
      have s2 : Same H1 (upd H1 p2 (.tup [.int 1, .int 2])) := same_upd hp2
      have e2 : (upd H1 p2 (.tup [.int 1, .int 2])) p2 = some (.tup [.int 1, .int 2]) := upd_same
      generalize upd H1 p2 (.tup [.int 1, .int 2]) = H2 at s2 e2 hp3 hp4 hz ⊢
      have s3 : Same H2 (upd H2 p3 (.lst [.int 1])) := same_upd hp3
      have e3 : (upd H2 p3 (.lst [.int 1])) p3 = some (.lst [.int 1]) := upd_same
      generalize upd H2 p3 (.lst [.int 1]) = H3 at s3 e3 hp4 hz ⊢
      have s4 : Same H3 (upd H3 p4 (.lst [.ref p3])) := same_upd hp4
      have e4 : (upd H3 p4 (.lst [.ref p3])) p4 = some (.lst [.ref p3]) := upd_same
      generalize upd H3 p4 (.lst [.ref p3]) = H4 at s4 e4 hz ⊢
      have s5 : Same H4 (upd H4 z (.lst [.non, .str "12", .int 5, .ref p1, .ref p2, .ref p4])) := same_upd hz
      have s05 := (((s1.trans s2).trans s3).trans s4).trans s5
      refine ⟨_, h0, a, ns, 2, rfl, s05.seq hS, fun n => ⟨_, _, rfl, rfl, (by show (0 : Int) < 6; decide), ?_⟩⟩
      refine ixPickP (fun v H' => ArgR K H' v none) upd_same (by show 0 < 6; decide) rfl ?_ fun v ho => q v _ s05 ho
      have r4 : rdV [.ref p3] = none := rfl
      have x4 : ArgR K (upd H4 z (.lst [.non, .str "12", .int 5, .ref p1, .ref p2, .ref p4])) (.ref p4) none := by
        have h := ArgR.li (K := K) (s5 _ _ e4) (fun y hy => by rw [List.mem_singleton.mp hy]; exact ⟨_, .lst ((s4.trans s5) _ _ e3)⟩) (by show 1 ≤ 2000; decide)
        rw [r4] at h
        exact h
      exact List.forall_mem_cons.mpr ⟨.no .non (by decide), List.forall_mem_cons.mpr ⟨.no (.str _) (by decide), List.forall_mem_cons.mpr ⟨.no (.int _) (by decide), List.forall_mem_cons.mpr ⟨.no (.dK (((s2.trans s3).trans s4).trans s5 _ _ e1)) (by decide), List.forall_mem_cons.mpr ⟨.no (.tup ((s3.trans s4).trans s5 _ _ e2)) (by decide), List.forall_mem_cons.mpr ⟨x4, fun v hv => nomatch hv⟩⟩⟩⟩⟩⟩
    refine ⟨_, rfl, a, ns, rfl, hS, fun pP H1 xs s1 hpP hP hxl hodd => ?_⟩
    refine ⟨_, rfl, pP, _, rfl, .inl (SqL.of hP), fun pH hpH => ?_⟩
    have s2 : Same H1 (upd H1 pH (.lst xs)) := same_upd hpH
    have hH : (upd H1 pH (.lst xs)) pH = some (.lst xs) := upd_same
    generalize upd H1 pH (.lst xs) = H2 at s2 hH ⊢
    replace hP := s2 _ _ hP
    replace hodd : ∀ y ∈ xs, OddV H2 y := fun y hy => (hodd y hy).same s2
    replace hS := (s1.trans s2).seq hS
    have hlen : ∀ ns, rdV xs = some ns → ns.length ≤ 2000 := fun ns h => Nat.le_trans (rd_pk h).2 (by omega)
    refine ⟨pP, xs, rfl, hP, fun y hy => (hodd y hy).known, by omega, fun v3 d3 H3 s3 n3 => ?_⟩
    refine ⟨rdV xs, v3, d3, rfl, n3, hlen, fun v4 d4 H4 s4 n4 => ?_⟩
    replace n3 := n3.same s4
    have s24 := s3.trans s4
    replace hP := s24 _ _ hP
    replace hH := s24 _ _ hH
    replace hodd : ∀ y ∈ xs, OddV H4 y := fun y hy => (hodd y hy).same s24
    replace hS := s24.seq hS
    clear s24 s3 s4
    refine ⟨(by show 5 ≤ sizeLine; decide), fun z hz => ?_⟩
    have s5 : Same H4 (upd H4 z (.lst [.int 0, .int 1, .int 2, .int 1, .int 0])) := same_upd hz
    have hZ : (upd H4 z (.lst [.int 0, .int 1, .int 2, .int 1, .int 0])) z = some (.lst [.int 0, .int 1, .int 2, .int 1, .int 0]) := upd_same
    generalize upd H4 z (.lst [.int 0, .int 1, .int 2, .int 1, .int 0]) = H5 at s5 hZ ⊢
    replace n3 := n3.same s5
    replace n4 := n4.same s5
    replace hP := s5 _ _ hP
    replace hH := s5 _ _ hH
    replace hodd : ∀ y ∈ xs, OddV H5 y := fun y hy => (hodd y hy).same s5
    replace hS := s5.seq hS
    clear s5 hz
    refine ⟨z, rfl, ⟨_, SqL.of hZ⟩, ?_⟩
    refine for_list (xs := [.int 0, .int 1, .int 2, .int 1, .int 0]) (fun i σ H' => Same H5 H' ∧ ∃ o5 o6 : Option V, σ = [some (.ref a), some (.ref pP), some (.ref pH), some v3, some v4, o5, o6, none]) ?_ ?_ ?_ ?_
    · exact ⟨Same.refl _, none, none, rfl⟩
    · rintro i σ H' _ ⟨sm, _⟩
      exact SqL.of (sm _ _ hZ)
    · rintro i x σ H6 hx ⟨sm, o5, o6, rfl⟩
      obtain ⟨j, hj, rfl⟩ := five hx
      have odd6 : ∀ y ∈ xs, OddV H6 y := fun y hy => (hodd y hy).same sm
      refine ⟨_, rfl, _, rfl, j, .ref pH, _, rfl, .li (sm _ _ hH) (fun y hy => (odd6 y hy).known) (by omega), fun p H7 v d s7 hp tv => ?_⟩
      have sm7 := sm.trans s7
      refine ⟨_, rfl, j, v3, v4, rfl, rfl, rfl, hj, fun p2 H8 s8 hp2 => ?_⟩
      have sm8 := sm7.trans s8
      replace tv := tv.same s8
      replace hp := s8 _ _ hp
      have tw : TV H8 j (rdV xs) (if j = 0 then v3 else v4) (if j = 0 then d3 else d4) := by
        unfold TV
        by_cases h0 : j = 0
        · rw [if_pos h0, if_pos h0, if_pos h0]; exact n3.same sm8
        · rw [if_neg h0, if_neg h0, if_neg h0]; exact n4.same sm8
      have ed := tv.one tw
      obtain ⟨l1, l2, l3⟩ := tv.l1 (K := K) hp
      obtain ⟨k1, k2, k3⟩ := tw.l1 (K := K) hp2
      rw [← ed] at k1 k2 k3
      refine ⟨_, _, l1, k1, l2, k2, depL l3 (by decide), _, rfl, ?_⟩
      rw [eqv_same l2]
      refine iteF ?_
      obtain ⟨ds, g1, g2, g3⟩ := odd_dt (K := K) (fun y hy => (hodd y hy).same sm8)
      refine ⟨_, rfl, _, rfl, .list ds, .list ds, .lst (SqL.of (sm8 _ _ hH)) g1, .lst (SqL.of (sm8 _ _ hP)) g1, g2, g2, depL g3 (by decide), _, rfl, ?_⟩
      rw [eqv_same g2]
      refine iteF ?_
      clear ed l1 l2 l3 k1 k2 k3 g1 g2 g3 ds tw hp2
      refine ⟨fun σ' H' => Same H8 H' ∧ σ' = [some (.ref a), some (.ref pP), some (.ref pH), some v3, some v4, some (.int (j : Int)), some (.ref p), none], ?_, ?_⟩
      · refine ⟨_, rfl, rfl, _, rfl, ?_⟩
        by_cases h0 : j = 0
        · rw [dec_i (by omega)]
          refine iteT ⟨_, rfl, _, rfl, ?_⟩
          have n8 := n3.same sm8
          cases n8 with
          | no h => exact iteF (iteF ⟨Same.refl _, rfl⟩)
          | li h hq =>
            refine iteT ?_
            have tv' := tv
            unfold TV at tv'
            rw [if_pos h0] at tv'
            cases tv' with
            | no h' => rw [h] at h'; cases h'
            | li h' hq' =>
              have e := Option.some.inj (h.symm.trans h')
              subst e
              exact ⟨_, rfl, p, _, _, _, rfl, rfl, SqL.of hp, atI_nat (j := 0) rfl, _, rfl, _, _, _, rfl, hq', SqL.of hq, Nat.le_trans (hlen _ h) (by decide), fun H9 s9 => ⟨_, rfl, iteF ⟨s9, rfl⟩⟩⟩
        · rw [dec_n (by omega)]
          exact iteF (iteF ⟨Same.refl _, rfl⟩)
      · rintro σ' H9 ⟨s9, rfl⟩
        have sm9 := sm8.trans s9
        refine ⟨fun σ' H' => Same H5 H' ∧ σ' = [some (.ref a), some (.ref pP), some (.ref pH), some v3, some v4, some (.int (j : Int)), some (.ref p), none], ?_, fun σ' H' q => ⟨q.1, _, _, q.2⟩⟩
        refine ⟨_, rfl, _, _, rfl, rfl, _, rfl, ?_⟩
        by_cases h0 : j = 0
        · rw [decide_eq_false (by omega)]
          exact iteF (iteF ⟨sm9, rfl⟩)
        · rw [decide_eq_true (by omega)]
          refine iteT ⟨_, rfl, _, rfl, ?_⟩
          have n9 := n4.same sm9
          cases n9 with
          | no h => exact iteF (iteF ⟨sm9, rfl⟩)
          | li h hw hq =>
            refine iteT ?_
            have tv' := tv.same s9
            unfold TV at tv'
            rw [if_neg h0] at tv'
            cases tv' with
            | no h' => rw [h] at h'; have h2 : rowN _ = none := h'; rw [hw] at h2; cases h2
            | li h' hw' hq' =>
              have e := Option.some.inj (h.symm.trans h')
              subst e
              have e2 := Option.some.inj (hw.symm.trans hw')
              subst e2
              exact ⟨_, rfl, p, _, _, _, rfl, rfl, SqL.of (s9 _ _ hp), atI_nat (j := 0) rfl, _, rfl, _, _, _, rfl, hq', hq, (row_wd hw (hlen _ h)).1, fun H10 s10 => ⟨_, rfl, iteF ⟨sm9.trans s10, rfl⟩⟩⟩
    · rintro σ H6 ⟨sm, o5, o6, rfl⟩
      replace n3 := n3.same sm
      replace n4 := n4.same sm
      replace hP := sm _ _ hP
      replace hodd : ∀ y ∈ xs, OddV H6 y := fun y hy => (hodd y hy).same sm
      replace hS := sm.seq hS
      clear sm hH hZ
      refine ⟨a, ns, rfl, hS, fun v H7 s7 hv => ?_⟩
      have none_ : ∀ {H8 : Hp} {p p' : Addr} {v2 : V} {d : PyData} {j : Nat}, H8 p = some (.lst [v2]) → TV H8 j none v2 d → H8 p' = some (.lst [.non]) → DtV K H8 (.ref p) (.list [.none]) ∧ DtV K H8 (.ref p') (.list [.none]) := fun hp tv hp' => by
        obtain ⟨rfl, rfl⟩ := tv.none_
        exact ⟨.lst (SqL.of hp) (.cons .non .nil), .lst (SqL.of hp') (.cons .non .nil)⟩
      have e1 : PyData.eqv (.list [.none]) (.list [.none]) = true := eqv_same lay1N
      refine ⟨_, rfl, 0, v, none, rfl, hv, fun p H8 v2 d s8 hp tv => ⟨(by show 1 ≤ sizeLine; decide), fun p' hp' => ?_⟩⟩
      have t8 : Same H8 (upd H8 p' (.lst [.non])) := same_upd hp'
      obtain ⟨x1, x2⟩ := none_ (t8 _ _ hp) (tv.same t8) (upd_same (H := H8) (a := p') (o := .lst [.non]))
      refine ⟨_, _, x1, x2, lay1N, lay1N, by decide, _, rfl, ?_⟩
      rw [e1]
      have s78 := (s7.trans s8).trans t8
      have hv8 := hv.same (s8.trans t8)
      generalize upd H8 p' (.lst [.non]) = H9 at s78 hv8 ⊢
      clear x1 x2 hp tv hp' t8 s8 s7 hv
      refine iteF ?_
      refine ⟨_, rfl, 1, v, none, rfl, hv8, fun p H8 v2 d s8 hp tv => ⟨(by show 1 ≤ sizeLine; decide), fun p' hp' => ?_⟩⟩
      have t8 : Same H8 (upd H8 p' (.lst [.non])) := same_upd hp'
      obtain ⟨x1, x2⟩ := none_ (t8 _ _ hp) (tv.same t8) (upd_same (H := H8) (a := p') (o := .lst [.non]))
      refine ⟨_, _, x1, x2, lay1N, lay1N, by decide, _, rfl, ?_⟩
      rw [e1]
      have s79 := (s78.trans s8).trans t8
      have hv9 := hv8.same (s8.trans t8)
      generalize upd H8 p' (.lst [.non]) = H10 at s79 hv9 ⊢
      clear x1 x2 hp tv hp' t8 s8 s78 hv8
      refine iteF ?_
      refine ⟨_, rfl, 2, v, none, rfl, hv9, fun p H8 v2 d s8 hp tv => ⟨(by show 1 ≤ sizeLine; decide), fun p' hp' => ?_⟩⟩
      have t8 : Same H8 (upd H8 p' (.lst [.non])) := same_upd hp'
      obtain ⟨x1, x2⟩ := none_ (t8 _ _ hp) (tv.same t8) (upd_same (H := H8) (a := p') (o := .lst [.non]))
      refine ⟨_, _, x1, x2, lay1N, lay1N, by decide, _, rfl, ?_⟩
      rw [e1]
      have s70 := (s79.trans s8).trans t8
      generalize upd H8 p' (.lst [.non]) = H11 at s70 ⊢
      clear x1 x2 hp tv hp' t8 s8 s79 hv9
      refine iteF ?_
      replace n3 := n3.same s70
      replace n4 := n4.same s70
      replace hP := s70 _ _ hP
      clear s70 hodd hS
      refine ⟨fun σ' H' => Same H11 H' ∧ ∃ o5 o6 o7 : Option V, σ' = [some (.ref a), some (.ref pP), some (.ref pH), some v3, some v4, o5, o6, o7], ?_, ?_⟩
      · refine ⟨_, rfl, _, rfl, ?_⟩
        cases n3 with
        | no h => exact iteF (iteF ⟨Same.refl _, _, _, _, rfl⟩)
        | li h hq =>
          rename_i q ms
          obtain ⟨ex, hnl⟩ := rd_pk h
          have hpl : (pk ms).length ≤ 2000 := by rw [← nl_len, ← ex]; omega
          refine iteT ⟨_, rfl, _, _, rfl, SqL.of hq, hpl, fun p H12 s12 _ hp => ?_⟩
          have hP2 := s12 _ _ hP
          rw [ex] at hP2
          refine ⟨_, rfl, .list (dN (pk ms)), .list (dN (pk ms)), .lst (SqL.of hp) (dt_nl _), .lst (SqL.of hP2) (dt_nl _), lay_nl _, lay_nl _, hdep _, _, rfl, ?_⟩
          rw [eqv_same (lay_nl _)]
          exact iteF ⟨s12, _, _, _, rfl⟩
      · rintro σ' H12 ⟨s12, o5, o6, o7, rfl⟩
        replace n4 := n4.same s12
        replace hP := s12 _ _ hP
        cases n4 with
        | no h => exact ⟨_, rfl, _, rfl, iteT (kk _)⟩
        | li h hw hq =>
          rename_i q ms row
          refine ⟨_, rfl, _, rfl, iteF ?_⟩
          obtain ⟨ex, hnl⟩ := rd_pk h
          have hl2 := hlen _ h
          obtain ⟨hwd, ern, ho⟩ := row_wd hw hl2
          have hpl : (pk ms).length ≤ 2000 := by rw [← nl_len, ← ex]; omega
          refine ⟨_, rfl, _, _, rfl, hq, ho, ⟨hwd.l, by rw [ern]; exact hl2, by rw [ern]; exact hpl⟩, fun p H13 s13 _ hp => ?_⟩
          rw [ern] at hp
          have hP2 := s13 _ _ hP
          rw [ex] at hP2
          refine ⟨_, rfl, .list (dN (pk ms)), .list (dN (pk ms)), .lst (SqL.of hp) (dt_nl _), .lst (SqL.of hP2) (dt_nl _), lay_nl _, lay_nl _, hdep _, ?_⟩
          rw [eqv_same (lay_nl _)]
          exact kk _
end
end K06
set_option Elab.async false
set_option linter.all false
set_option maxRecDepth 100000
set_option maxHeartbeats 4000000
namespace K06
open PySem L2 PyProof.Rows PySem.Spec Gn
section
variable {P : Program} {w : World} {K : PySem.W.Frag} {mg : Str → Option Value} {base h : Heap} {CH CN CP CR C : Addr}
theorem txt_mk (X : K.In h) (G : h.Ns mainGlobals mg) {t1 t2 : Tok}
    (n1 : PySem.W.nsIn K mainGlobals "isinstance" = some none)
    (n2 : PySem.W.nsIn K mainGlobals "int" = some none)
    (n3 : PySem.W.nsIn K mainGlobals "bool" = some none)
    (n4 : PySem.W.nsIn K mainGlobals "list" = some none)
    (n5 : PySem.W.nsIn K mainGlobals "tuple" = some none)
    (n6 : PySem.W.nsIn K mainGlobals "len" = some none)
    (n7 : PySem.W.nsIn K mainGlobals "all" = some none)
    (n8 : PySem.W.nsIn K mainGlobals "range" = some none)
    (n9 : PySem.W.nsIn K mainGlobals "enumerate" = some none)
    (n10 : PySem.W.nsIn K mainGlobals "ValueError" = some none)
    (c1 : PySem.W.nsIn K mainGlobals "GREATEST_PART" = some (some (.int 255 t1))) (c2 : PySem.W.nsIn K mainGlobals "MORE_COMES" = some (some (.int 128 t2))) : Txt mg where
  isi := PySem.W.mg_none_of X G n1
  int := PySem.W.mg_none_of X G n2
  bool := PySem.W.mg_none_of X G n3
  list := PySem.W.mg_none_of X G n4
  tuple := PySem.W.mg_none_of X G n5
  len := PySem.W.mg_none_of X G n6
  all := PySem.W.mg_none_of X G n7
  range := PySem.W.mg_none_of X G n8
  enum := PySem.W.mg_none_of X G n9
  val := PySem.W.mg_none_of X G n10
  cGreat := ⟨t1, PySem.W.mg_of X G c1⟩
  cMore := ⟨t2, PySem.W.mg_of X G c2⟩
theorem cl_mk (X : K.In h) (G : h.Ns mainGlobals mg) (a : PySem.W.nsIn K mainGlobals "HallError" = some (some (.ref CH))) (b : PySem.W.nsIn K mainGlobals "BadNumber" = some (some (.ref CN)))
    (c : PySem.W.nsIn K mainGlobals "BadParts" = some (some (.ref CP))) (d : PySem.W.nsIn K mainGlobals "BadRow" = some (some (.ref CR)))
    {cd : ClassData} (cl : PySem.W.clsIn K CP = some cd) (ga : PySem.W.findIn K (.ref CP) "__getattribute__" = some (some (.builtin "BaseException.__getattribute__"))) (hk : PySem.W.findIn K (.ref CP) "__getattr__" = some none)
    (ha : PySem.W.findIn K (.ref CP) "__class__" = some (some (.builtin "object.__class__"))) (hn : PySem.W.specialIn K (.builtin "object.__class__") "__get__" = some (some (.builtin "getset_descriptor.__get__"))) (ht : PySem.W.takesIn K (.builtin "object.__class__") = some true)
    (hm : PySem.W.mroIn K CP (.type "object") = some true) (hb : PySem.W.mroIn K CP (.type "BaseException") = some true)
    (p : PySem.W.kitOne K (.ref CP) (.ref CP) = some true) (r : PySem.W.kitOne K (.ref CP) (.ref CR) = some false) (n : PySem.W.kitOne K (.ref CP) (.ref CN) = some false)
    (v : PySem.W.kitOne K (.ref CP) (.type "ValueError") = some true) (e : PySem.W.exmOne K (.ref CP) (.ref CH) = some true)
    (q : PySem.W.excIn K CP [.type "ValueError", .type "Exception", .type "BaseException", .type "object"] "ValueError.__new__" = true) :
    ∃ CH CN CP CR, Cl mg CH CN CP CR ∧ CF K CH CN CP CR ∧ Ex K mg "BadParts" CP :=
  ⟨CH, CN, CP, CR, ⟨PySem.W.mg_of X G a, PySem.W.mg_of X G b, PySem.W.mg_of X G c, PySem.W.mg_of X G d⟩, ⟨⟨by rw [cl]; rfl, ga, hk, ha, hn, ht, hm, hb⟩, p, r, n, v, e⟩, PySem.W.mg_of X G c, q⟩
noncomputable def Wk (K : PySem.W.Frag) (mg : Str → Option Value) : Prop := ∃ (C f1 f2 : Addr) (d1 d2 : FuncData), TxtC K mg C ∧ L2.Mk K C f1 ∧ Fun K "__init__" "Walk.__init__" mInit f1 d1 ∧ Fun K "rest" "Walk.rest" mRest f2 d2 ∧ Meth K C "rest" f2
theorem wk_mk {f1 f2 : Addr} {od1 an1 od2 an2 : Option Addr} {sl1 sl2 : Array (Option Value)} {oc1 kV1 dc1 pm1 cd1 ct1 oc2 kV2 dc2 pm2 cd2 ct2 : Value}
    (X : K.In h) (G : h.Ns mainGlobals mg) (aC : PySem.W.nsIn K mainGlobals "Walk" = some (some (.ref C)))
    (a1 : PySem.W.findIn K (.ref C) "__init__" = some (some (.ref f1))) (i1 : PySem.W.isFn K (.ref f1) = true) (l1 : K.lookup f1 = some ⟨oc1, od1, .func (PySem.W.fnOf "__init__" "Walk.__init__" (defArgs mInit) (defBody mInit) (defScope mInit) .none kV1 dc1 pm1 an1 cd1 ct1), sl1⟩) (c1 : PySem.W.codeIn K cd1 "Walk.__init__" = true) (k1 : PySem.W.keepIn K (.ref f1) = true)
    (a2 : PySem.W.findIn K (.ref C) "rest" = some (some (.ref f2))) (i2 : PySem.W.isFn K (.ref f2) = true) (l2 : K.lookup f2 = some ⟨oc2, od2, .func (PySem.W.fnOf "rest" "Walk.rest" (defArgs mRest) (defBody mRest) (defScope mRest) .none kV2 dc2 pm2 an2 cd2 ct2), sl2⟩) (c2 : PySem.W.codeIn K cd2 "Walk.rest" = true) (k2 : PySem.W.keepIn K (.ref f2) = true)
    (pg : PySem.W.plainGet K C Str.empty = true) (hd : PySem.W.hasDictIn K C = true) (po : PySem.W.plainOver K C = true) (sa : PySem.W.findIn K (.ref C) "__setattr__" = some (some (.builtin "object.__setattr__"))) (mk : PySem.W.makesIn K C = true) (kc : PySem.W.keepIn K (.ref C) = true)
    (nP : PySem.W.findIn K (.ref C) "pairs" = some none) (nL : PySem.W.findIn K (.ref C) "place" = some none) : Wk K mg :=
  ⟨C, f1, f2, _, _, ⟨⟨pg, hd, po, sa⟩, nP, nL, PySem.W.mg_of X G aC⟩, ⟨mk, a1, i1, kc⟩, fun_mk l1 c1 k1, fun_mk l2 c2 k2, ⟨a2, i2, k2⟩⟩
theorem law_all (B : Txt mg) (X : ∃ CH CN CP CR, Cl mg CH CN CP CR ∧ CF K CH CN CP CR ∧ Ex K mg "BadParts" CP) (W : Wk K mg)
    (d2 : ∃ f fd, DfD K mg "need_number" sNNum f fd #[.none])
    (d1 : ∃ f fd, Df K mg "is_whole" sWhole f fd)
    (d3 : ∃ f fd, Df K mg "parts_of_one" sOne f fd)
    (d4 : ∃ f fd, Df K mg "packed" sPacked f fd)
    (d5 : ∃ f fd, Df K mg "need_parts" sNParts f fd)
    (d6 : ∃ f fd, Df K mg "unpacked" sUnp f fd)
    (d7 : ∃ f fd, Df K mg "is_rising" sRis f fd)
    (d8 : ∃ f fd, Df K mg "has_places" sHasP f fd)
    (d9 : ∃ f fd, Df K mg "need_row" sNRow f fd)
    (d10 : ∃ f fd, Df K mg "gaps_of" sGaps f fd)
    (d11 : ∃ f fd, Df K mg "numbers_by" sNums f fd)
    (d12 : ∃ f fd, Df K mg "packed_row" sPRow f fd)
    (d13 : ∃ f fd, Df K mg "unpacked_row" sURow f fd)
    (e1 : ∃ f fd, Df K mg "_law_cell_at" lCell f fd)
    (e2 : ∃ f fd, Df K mg "_law_mixed" lMixed f fd)
    (e3 : ∃ f fd, Df K mg "_law_parts" lParts f fd)
    (e4 : ∃ f fd, Df K mg "_law_ints_are" lInts f fd)
    (e5 : ∃ f fd, Df K mg "_law_row_by" lRowBy f fd)
    (e6 : ∃ f fd, Df K mg "_law_row_is" lRowIs f fd)
    (e7 : ∃ f fd, Df K mg "_law_row_numbers" lRowN f fd)
    (e8 : ∃ f fd, Df K mg "_law_parts_by" lPartsBy f fd)
    (e9 : ∃ f fd, Df K mg "_law_read" lRead f fd)
    (e10 : ∃ f fd, Df K mg "_law_row" lRow f fd)
    (e11 : ∃ f fd, Df K mg "_law_told" lTold f fd)
    {f : Addr} {fd : FuncData} (D : Df K mg "law" lLaw f fd) : FnOk P w K mg base CX0 8 f fd ["_law_script"] (spLaw K) := by
  obtain ⟨CH, CN, CP, CR, XC, XF, XP⟩ := X
  obtain ⟨C, f1, f2, g1, g2, T, M, F1, F2, m2⟩ := W
  obtain ⟨_, _, D2⟩ := d2
  obtain ⟨_, _, D1⟩ := d1
  obtain ⟨_, _, D3⟩ := d3
  obtain ⟨_, _, D4⟩ := d4
  obtain ⟨_, _, D5⟩ := d5
  obtain ⟨_, _, D6⟩ := d6
  obtain ⟨_, _, D7⟩ := d7
  obtain ⟨_, _, D8⟩ := d8
  obtain ⟨_, _, D9⟩ := d9
  obtain ⟨_, _, D10⟩ := d10
  obtain ⟨_, _, D11⟩ := d11
  obtain ⟨_, _, D12⟩ := d12
  obtain ⟨_, _, D13⟩ := d13
  obtain ⟨_, _, E1⟩ := e1
  obtain ⟨_, _, E2⟩ := e2
  obtain ⟨_, _, E3⟩ := e3
  obtain ⟨_, _, E4⟩ := e4
  obtain ⟨_, _, E5⟩ := e5
  obtain ⟨_, _, E6⟩ := e6
  obtain ⟨_, _, E7⟩ := e7
  obtain ⟨_, _, E8⟩ := e8
  obtain ⟨_, _, E9⟩ := e9
  obtain ⟨_, _, E10⟩ := e10
  obtain ⟨_, _, E11⟩ := e11
  have GN := ok_nn (P := P) (w := w) (base := base) D2 D1 B
  have GP := ok_packed D4 D3 (ok_one D3 B) D2 GN
  have GH := ok_hasp (P := P) (w := w) (base := base) D8 D7 (ok_risT D7 D1 B) B
  have GR := ok_nrow D9 D7 (ok_risL D7 D1 B) D8 GH B
  have GW := ok_prow D12 D9 GR D10 D4 GP B
  have GU := ok_unp (P := P) (w := w) (base := base) D6 D5 (ok_nparts D5 D1 XP B) XP B
  have GUR := ok_urow D13 D6 GU D11 XP B
  have GT := ok_told E11 XC XF T B D6 GU D13 GUR M F1 (ok_init F1 T D13 GUR) F2 m2
  exact ok_law D B E8 (ok_partsby E8 E1 E2 E3 E7 E5 B) E9 (ok_read E9 B) E10 (ok_lrow E10 B) E11 GT E4 (ok_ints E4 B) E6 (ok_rowis E6 B) E1 (ok_cell E1 B) D4 GP D12 GW
theorem law_mk {f fa : Addr} {oc kV doc pm cd ct : Value} {od an : Option Addr} {sl : Array (Option Value)} (X : K.In h) (G : h.Ns mainGlobals mg) (hfa : mg "law" = some (.ref fa)) (a : PySem.W.nsIn K mainGlobals "law" = some (some (.ref f)))
    (l : K.lookup f = some ⟨oc, od, .func (PySem.W.fnOf "law" "law" (defArgs lLaw) (defBody lLaw) (defScope lLaw) .none kV doc pm an cd ct), sl⟩) (c : PySem.W.codeIn K cd "law" = true) (k : PySem.W.keepIn K (.ref f) = true)
    (ok : ∀ (fd : FuncData) (base : Heap), Df K mg "law" lLaw f fd → FnOk P w K mg base CX0 8 f fd ["_law_script"] (spLaw K)) :
    ∃ fd : FuncData, (∀ (s : Shared) (v : Value), BindsTo s fd ⟨[v], []⟩ [("_law_script", v)]) ∧ ∀ base : Heap, K.In base → base.Ns mainGlobals mg → FnOk P w K mg base CX0 8 fa fd ["_law_script"] (spLaw K) := by
  have e := hfa.symm.trans (PySem.W.mg_of X G a)
  cases e
  exact ⟨PySem.W.fnOf "law" "law" (defArgs lLaw) (defBody lLaw) (defScope lLaw) .none kV doc pm an cd ct, fun s v => .of_eq rfl, fun base _ _ => ok _ base ⟨fun_mk l c k, PySem.W.mg_of X G a⟩⟩
end
theorem walk {l : PySem.W.OpenLaw} {q : Program} {loose : List Str} {XP : (Str → Option Value) → Heap → Prop} {YP : World → Heap → Prop} {d : DefRec} {K : Params → PySem.W.Frag} (hn : l.most = some 63) (hdf : d.params.defaults = [])
    (hY : ∀ (w : World) (h : Heap), YP w h → (K w.params).In h)
    (F : ∀ (w : World) (mg : Str → Option Value) (fa : Addr) (h : Heap), (K w.params).In h → h.Ns mainGlobals mg → mg d.name = some (.ref fa) →
      ∃ fd : FuncData, (∀ (s : Shared) (u : Value), BindsTo s fd ⟨[u], []⟩ [("_law_script", u)]) ∧ ∀ base : Heap, (K w.params).In base → base.Ns mainGlobals mg → FnOk l.prog w (K w.params) mg base CX0 8 fa fd ["_law_script"] (spLaw (K w.params))) :
    PySem.W.WalkO q loose XP YP l.row.toRowW d [] (fun f vs => PySem.call f vs) :=
  walkB (n := 63) (k := 8) (x := "_law_script") (sp := spLaw) hn (by decide) hdf ⟨rfl, by decide, by decide⟩ hY F fun K H a ns hl hb hS => ⟨a, ns, rfl, hS, fun _ => rfl⟩
end K06
set_option Elab.async false
set_option linter.all false
open PySem PySem.W PyProof.Rows
set_option maxRecDepth 100000 in
set_option maxHeartbeats 0 in
theorem PySem.Challenge.cw_findhall_k06_spoilt_parts_holds : PySem.Challenge.rw_findhall_k06_spoilt_parts.Holds := by
  w_on; o_law; k_head; (case hw => w_witness2)
  k_fill
  refine K06.walk (l := PySem.Challenge.rw_findhall_k06_spoilt_parts) rfl rfl (fun w h Y => PySem.W.kIn_of Y) ?F
  case F =>
    intro w mg fa h KX G hmg
    have hC : ∃ CH CN CP CR, K06.Cl mg CH CN CP CR ∧ K06.CF (L2.KOf KX) CH CN CP CR ∧ Gn.Ex (L2.KOf KX) mg "BadParts" CP := by
      dsimp only [L2.KOf]
      refine' K06.cl_mk KX G ?a ?b ?c ?d ?s1 ?s2 ?s3 ?s4 ?s5 ?s6 ?s7 ?s8 ?k1 ?k2 ?k3 ?k4 ?x1 ?x2
      (case a => k_is)
      (case b => k_is)
      (case c => k_is)
      (case d => k_is)
      (case s1 => k_is)
      (case s2 => k_is)
      (case s3 => k_is)
      (case s4 => k_is)
      (case s5 => k_is)
      (case s6 => k_is)
      (case s7 => k_is)
      (case s8 => k_is)
      (case k1 => kit_is)
      (case k2 => kit_is)
      (case k3 => kit_is)
      (case k4 => kit_is)
      (case x1 => kts_exm)
      (case x2 => k_exc)
    have T : K06.Txt mg := by
      refine' K06.txt_mk KX G ?n1 ?n2 ?n3 ?n4 ?n5 ?n6 ?n7 ?n8 ?n9 ?n10 ?c1 ?c2
      (case n1 => k_is)
      (case n2 => k_is)
      (case n3 => k_is)
      (case n4 => k_is)
      (case n5 => k_is)
      (case n6 => k_is)
      (case n7 => k_is)
      (case n8 => k_is)
      (case n9 => k_is)
      (case n10 => k_is)
      (case c1 => k_is)
      (case c2 => k_is)
    have W : K06.Wk (L2.KOf KX) mg := by
      dsimp only [L2.KOf]
      refine' K06.wk_mk KX G ?aC ?a1 ?i1 ?l1 ?c1 ?k1 ?a2 ?i2 ?l2 ?c2 ?k2 ?pg ?hd ?po ?sa ?mk ?kc ?nP ?nL
      (case aC => k_is)
      (case a1 => k_is)
      (case i1 => k_is)
      (case l1 => k_is)
      (case c1 => k_is)
      (case k1 => k_is)
      (case a2 => k_is)
      (case i2 => k_is)
      (case l2 => k_is)
      (case c2 => k_is)
      (case k2 => k_is)
      (case pg => k_is)
      (case hd => k_is)
      (case po => k_is)
      (case sa => k_is)
      (case mk => k_is)
      (case kc => k_is)
      (case nP => k_is)
      (case nL => k_is)
    have d1 : ∃ f fd, Gn.Df (L2.KOf KX) mg "is_whole" K06.sWhole f fd := by
      dsimp only [L2.KOf]
      refine' Gn.df_mk KX G ?a ?l ?c ?k
      (case a => k_is); (case l => k_is); (case c => k_is); (case k => k_is)
    have d3 : ∃ f fd, Gn.Df (L2.KOf KX) mg "parts_of_one" K06.sOne f fd := by
      dsimp only [L2.KOf]
      refine' Gn.df_mk KX G ?a ?l ?c ?k
      (case a => k_is); (case l => k_is); (case c => k_is); (case k => k_is)
    have d4 : ∃ f fd, Gn.Df (L2.KOf KX) mg "packed" K06.sPacked f fd := by
      dsimp only [L2.KOf]
      refine' Gn.df_mk KX G ?a ?l ?c ?k
      (case a => k_is); (case l => k_is); (case c => k_is); (case k => k_is)
    have d5 : ∃ f fd, Gn.Df (L2.KOf KX) mg "need_parts" K06.sNParts f fd := by
      dsimp only [L2.KOf]
      refine' Gn.df_mk KX G ?a ?l ?c ?k
      (case a => k_is); (case l => k_is); (case c => k_is); (case k => k_is)
    have d6 : ∃ f fd, Gn.Df (L2.KOf KX) mg "unpacked" K06.sUnp f fd := by
      dsimp only [L2.KOf]
      refine' Gn.df_mk KX G ?a ?l ?c ?k
      (case a => k_is); (case l => k_is); (case c => k_is); (case k => k_is)
    have d7 : ∃ f fd, Gn.Df (L2.KOf KX) mg "is_rising" K06.sRis f fd := by
      dsimp only [L2.KOf]
      refine' Gn.df_mk KX G ?a ?l ?c ?k
      (case a => k_is); (case l => k_is); (case c => k_is); (case k => k_is)
    have d8 : ∃ f fd, Gn.Df (L2.KOf KX) mg "has_places" K06.sHasP f fd := by
      dsimp only [L2.KOf]
      refine' Gn.df_mk KX G ?a ?l ?c ?k
      (case a => k_is); (case l => k_is); (case c => k_is); (case k => k_is)
    have d9 : ∃ f fd, Gn.Df (L2.KOf KX) mg "need_row" K06.sNRow f fd := by
      dsimp only [L2.KOf]
      refine' Gn.df_mk KX G ?a ?l ?c ?k
      (case a => k_is); (case l => k_is); (case c => k_is); (case k => k_is)
    have d10 : ∃ f fd, Gn.Df (L2.KOf KX) mg "gaps_of" K06.sGaps f fd := by
      dsimp only [L2.KOf]
      refine' Gn.df_mk KX G ?a ?l ?c ?k
      (case a => k_is); (case l => k_is); (case c => k_is); (case k => k_is)
    have d11 : ∃ f fd, Gn.Df (L2.KOf KX) mg "numbers_by" K06.sNums f fd := by
      dsimp only [L2.KOf]
      refine' Gn.df_mk KX G ?a ?l ?c ?k
      (case a => k_is); (case l => k_is); (case c => k_is); (case k => k_is)
    have d12 : ∃ f fd, Gn.Df (L2.KOf KX) mg "packed_row" K06.sPRow f fd := by
      dsimp only [L2.KOf]
      refine' Gn.df_mk KX G ?a ?l ?c ?k
      (case a => k_is); (case l => k_is); (case c => k_is); (case k => k_is)
    have d13 : ∃ f fd, Gn.Df (L2.KOf KX) mg "unpacked_row" K06.sURow f fd := by
      dsimp only [L2.KOf]
      refine' Gn.df_mk KX G ?a ?l ?c ?k
      (case a => k_is); (case l => k_is); (case c => k_is); (case k => k_is)
    have e1 : ∃ f fd, Gn.Df (L2.KOf KX) mg "_law_cell_at" K06.lCell f fd := by
      dsimp only [L2.KOf]
      refine' Gn.df_mk KX G ?a ?l ?c ?k
      (case a => k_is); (case l => k_is); (case c => k_is); (case k => k_is)
    have e2 : ∃ f fd, Gn.Df (L2.KOf KX) mg "_law_mixed" K06.lMixed f fd := by
      dsimp only [L2.KOf]
      refine' Gn.df_mk KX G ?a ?l ?c ?k
      (case a => k_is); (case l => k_is); (case c => k_is); (case k => k_is)
    have e3 : ∃ f fd, Gn.Df (L2.KOf KX) mg "_law_parts" K06.lParts f fd := by
      dsimp only [L2.KOf]
      refine' Gn.df_mk KX G ?a ?l ?c ?k
      (case a => k_is); (case l => k_is); (case c => k_is); (case k => k_is)
    have e4 : ∃ f fd, Gn.Df (L2.KOf KX) mg "_law_ints_are" K06.lInts f fd := by
      dsimp only [L2.KOf]
      refine' Gn.df_mk KX G ?a ?l ?c ?k
      (case a => k_is); (case l => k_is); (case c => k_is); (case k => k_is)
    have e5 : ∃ f fd, Gn.Df (L2.KOf KX) mg "_law_row_by" K06.lRowBy f fd := by
      dsimp only [L2.KOf]
      refine' Gn.df_mk KX G ?a ?l ?c ?k
      (case a => k_is); (case l => k_is); (case c => k_is); (case k => k_is)
    have e6 : ∃ f fd, Gn.Df (L2.KOf KX) mg "_law_row_is" K06.lRowIs f fd := by
      dsimp only [L2.KOf]
      refine' Gn.df_mk KX G ?a ?l ?c ?k
      (case a => k_is); (case l => k_is); (case c => k_is); (case k => k_is)
    have e7 : ∃ f fd, Gn.Df (L2.KOf KX) mg "_law_row_numbers" K06.lRowN f fd := by
      dsimp only [L2.KOf]
      refine' Gn.df_mk KX G ?a ?l ?c ?k
      (case a => k_is); (case l => k_is); (case c => k_is); (case k => k_is)
    have e8 : ∃ f fd, Gn.Df (L2.KOf KX) mg "_law_parts_by" K06.lPartsBy f fd := by
      dsimp only [L2.KOf]
      refine' Gn.df_mk KX G ?a ?l ?c ?k
      (case a => k_is); (case l => k_is); (case c => k_is); (case k => k_is)
    have e9 : ∃ f fd, Gn.Df (L2.KOf KX) mg "_law_read" K06.lRead f fd := by
      dsimp only [L2.KOf]
      refine' Gn.df_mk KX G ?a ?l ?c ?k
      (case a => k_is); (case l => k_is); (case c => k_is); (case k => k_is)
    have e10 : ∃ f fd, Gn.Df (L2.KOf KX) mg "_law_row" K06.lRow f fd := by
      dsimp only [L2.KOf]
      refine' Gn.df_mk KX G ?a ?l ?c ?k
      (case a => k_is); (case l => k_is); (case c => k_is); (case k => k_is)
    have e11 : ∃ f fd, Gn.Df (L2.KOf KX) mg "_law_told" K06.lTold f fd := by
      dsimp only [L2.KOf]
      refine' Gn.df_mk KX G ?a ?l ?c ?k
      (case a => k_is); (case l => k_is); (case c => k_is); (case k => k_is)
    have d2 : ∃ f fd, Gn.DfD (L2.KOf KX) mg "need_number" K06.sNNum f fd #[.none] := by
      dsimp only [L2.KOf]
      refine' Gn.dfd_mk KX G ?a ?l ?c ?k ?t
      (case a => k_is); (case l => k_is); (case c => k_is); (case k => k_is); (case t => k_is)
    refine' K06.law_mk KX G hmg ?a ?l ?c ?k fun fd base D => K06.law_all T hC W d2 d1 d3 d4 d5 d6 d7 d8 d9 d10 d11 d12 d13 e1 e2 e3 e4 e5 e6 e7 e8 e9 e10 e11 D
    (case a => k_is); (case l => k_is); (case c => k_is); (case k => k_is)
