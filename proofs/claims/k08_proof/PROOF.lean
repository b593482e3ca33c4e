import PyProof.Rows.All
import Wide.All
import OpenK.AllK
import Wide.FinOn
import PyProof.EqAt
import PyProof.EqKinds
import PyProof.TupleCall
import Lean
import PySem.Challenge.RW_findhall_k08_books
noncomputable section
set_option Elab.async false
set_option linter.all false
set_option maxRecDepth 100000
set_option maxHeartbeats 4000000
namespace H08
open PySem PySem.W PyProof.Rows
abbrev pQ : Program := PySem.Challenge.pw_findhall_k08_books
def vQ : Program := PySem.W.view pQ [0, 2, 3, 4, 5, 6, 7, 8, 9, 10, 12, 13, 14, 15, 16, 17, 18, 19, 20, 21, 22, 25, 26, 27, 28, 29, 30, 32, 33, 34, 35, 36, 37, 38, 40, 42, 43, 44, 45, 46, 48, 49, 50, 51, 52, 53, 55, 56, 57, 58, 59, 60, 61, 62, 63, 64, 65, 66, 67, 68, 69, 70, 71]
def lQ : List Str := [Str.ofString "need_number"]
def xQ (s : Shared) : Bool := xlAt vQ [] s && recOk (RowW.records PySem.Challenge.rw_findhall_k08_books.row.toRowW) s
def sQ (w : World) (os : OsState) : Shared := ⟨boot_heap w.params, Array.mk [], boot_drawn, boot_toks, os⟩
def topRunT (tb : String -> Option Builtin) (p : Program) (w : World) (n₀ : Nat) (ann : Option Value) : Nat -> SharedT -> Thread -> Option SharedT
 | 0, _, _ => none
 | n + 1, s, t => match through t with
  | true => some s
  | false => match stepOk n₀ ann t with
   | false => none
   | true => match stepT (denote tb) p w s t with
    | some (s', t') => topRunT tb p w n₀ ann n s' t'
    | none => none
theorem topRun_of {tb : String -> Option Builtin} {p : Program} {w : World} {n₀ : Nat} {ann : Option Value} : ∀ {n : Nat} {s s' : SharedT} {t : Thread}, topRunT tb p w n₀ ann n s t = some s' -> topRun tb p w n₀ ann n s.abs t = some s'.abs
 | 0, _, _, _, h => by cases h
 | n + 1, s, s', t, h => by
  unfold topRunT at h
  unfold topRun
  cases he : through t with
  | true => rw [he] at h; cases h; rfl
  | false =>
   rw [he] at h
   cases hk : stepOk n₀ ann t with
   | false => rw [hk] at h; cases h
   | true =>
    rw [hk] at h
    cases hs : stepT (denote tb) p w s t with
    | none => rw [hs] at h; cases h
    | some r => obtain ⟨s₂, t₂⟩ := r; rw [hs] at h; rw [stepT_spec hs]; exact topRun_of h
def buildT : List Obj -> BT -> Nat -> Option BT
 | [], t, _ => some t
 | o :: r, t, n => match ((t.ins n o).get n).isSome with
  | true => buildT r (t.ins n o) (n + 1)
  | false => none
theorem build_of : ∀ {l : List Obj} {t t' : BT} {n : Nat} (life : Life), buildT l t n = some t' -> absHeap t' (n + l.length) life = ⟨(absHeap t n life).objs ++ l.toArray, life⟩
 | [], t, t', n, life, h => by
  cases h
  show absHeap t n life = _
  unfold absHeap
  simp
 | o :: r, t, t', n, life, h => by
  unfold buildT at h
  cases hs : ((t.ins n o).get n).isSome with
  | false => rw [hs] at h; cases h
  | true =>
   rw [hs] at h
   have e := build_of life h
   rw [show n + (o :: r).length = n + 1 + r.length by rw [List.length_cons]; omega, e, absHeap_ins hs]
   show Heap.mk _ _ = Heap.mk _ _
   congr 1
   show (absHeap t n life).objs.push o ++ r.toArray = (absHeap t n life).objs ++ (o :: r).toArray
   apply Array.ext'
   simp
def annQ (w : World) (os : OsState) : Option Value := (sQ w os).heap.nsMap mainGlobals (Str.ofString "__annotations__")
def topQ (w : World) (os : OsState) : Option Shared := match buildT (boot_heap w.params).objs.toList .nil 0 with
 | none => none
 | some t => (topRunT treeTable pQ w (boot_heap w.params).objs.size (annQ w os) 20000 ⟨t, (boot_heap w.params).objs.size, (boot_heap w.params).life, Array.mk [], boot_drawn, boot_toks, os⟩ (topStub pQ)).map SharedT.abs
theorem topQ_run {w : World} {os : OsState} {s : Shared} (h : topQ w os = some s) : topRun treeTable pQ w (sQ w os).heap.objs.size ((sQ w os).heap.nsMap mainGlobals (Str.ofString "__annotations__")) 20000 (sQ w os) (topStub pQ) = some s := by
 unfold topQ at h
 cases hb : buildT (boot_heap w.params).objs.toList .nil 0 with
 | none => rw [hb] at h; cases h
 | some t =>
  rw [hb] at h
  obtain ⟨x, hx, e⟩ := Option.map_eq_some_iff.mp h
  have q := topRun_of hx
  have a : absHeap t (boot_heap w.params).objs.size (boot_heap w.params).life = boot_heap w.params := by
   have := build_of (boot_heap w.params).life hb
   rw [Nat.zero_add, Array.length_toList] at this
   rw [this]
   show Heap.mk _ _ = _
   have e0 : (absHeap .nil 0 (boot_heap w.params).life).objs = #[] := by unfold absHeap BT.list; simp
   rw [e0]
   simp
  have es : SharedT.abs ⟨t, (boot_heap w.params).objs.size, (boot_heap w.params).life, Array.mk [], boot_drawn, boot_toks, os⟩ = sQ w os := by
   unfold SharedT.abs sQ
   rw [a]
  rw [es] at q
  rw [<- e]
  exact q
def okQ (h : Heap) (s : Shared) : Bool := staticsOk (importedModules pQ.main.body) h s.heap && namesBound pQ s.heap && gensDone s && laidKept h s.heap
def seenQ (s : Shared) := openSeen vQ lQ (importedModules pQ.main.body) xQ true s
def goodQ := openGood vQ lQ
def ok9 (w : World) (os : OsState) (s : Shared) : Bool := okQ (boot_heap w.params) s && ((sQ w os).heap.isNs mainGlobals && (sQ w os).gens.size == 0)
def seenA (s : Shared) := (fun x => (x.1, x.2.1, x.2.2.1, x.2.2.2.1, x.2.2.2.2.1, x.2.2.2.2.2.1, x.2.2.2.2.2.2.1, x.2.2.2.2.2.2.2.1, x.2.2.2.2.2.2.2.2)) (seenQ s)
def goodA := (true, (fun x => (x.1, x.2.1, x.2.2.1, x.2.2.2.1, x.2.2.2.2.1, x.2.2.2.2.2.1, x.2.2.2.2.2.2.1, x.2.2.2.2.2.2.2.1, x.2.2.2.2.2.2.2.2)) goodQ)
def runA (w : World) (os : OsState) := (topQ w os).map fun s => (ok9 w os s, seenA s)
def runK (as : List Nat) (w : World) (os : OsState) := (topQ w os).map fun s => as.map s.heap.get?
lay_quick runA goodA
theorem hA : ∀ w os, PySem.W.Fast.tw5597358131672513624 w os = some PySem.W.Fast.tw1860759033617900448 := fun w os => by kernel_rfl
lay_quick runK
theorem rA (w : World) (os : OsState) : runA w os = some goodA := by rw [PySem.W.Fast.te5597358131672513624, PySem.W.Fast.te1860759033617900448]; exact hA w os
theorem topFrom_some {tb : String -> Option Builtin} {p : Program} {w : World} {N : Nat} {s0 s : Shared} (h1 : (s0.heap.isNs mainGlobals && s0.gens.size == 0) = true) (h2 : topRun tb p w s0.heap.objs.size (s0.heap.nsMap mainGlobals (Str.ofString "__annotations__")) N s0 (topStub p) = some s)
  (h3 : (staticsOk (importedModules p.main.body) s0.heap s.heap && namesBound p s.heap && gensDone s && laidKept s0.heap s.heap) = true) : topFrom tb p w N s0 = some s := by
 unfold topFrom
 rw [h1]
 dsimp only
 rw [h2]
 dsimp only [Option.bind]
 rw [h3]
theorem openEnds_some {tb : String -> Option Builtin} {p : Program} {w : World} {N : Nat} {s0 s : Shared} (a : fencedOpening tb p w N = some s0) (b : topFrom tb p w N s0 = some s) : openEnds tb p w N = some s := by
 unfold openEnds
 rw [a]
 exact b
theorem map_at {α β : Type} {o : Option α} {s : α} {f : α -> β} {b : β} (h : o = some s) (e : o.map f = some b) : f s = b := by
 subst h
 exact Option.some.inj e
theorem map_some' {α β : Type} {o : Option α} {f : α -> β} {b : β} (e : o.map f = some b) : ∃ s, o = some s := by
 cases o with
 | none => cases e
 | some s => exact ⟨s, rfl⟩
theorem pair_of {α β σ : Type} {f : σ -> α} {g : σ -> β} {o : Option σ} {s : σ} {a : α} {b : β} (e : o = some s) (h1 : f s = a) (h2 : g s = b) : o.map (fun s => (f s, g s)) = some (a, b) := by
 subst e
 subst h1
 subst h2
 rfl
theorem sh_eq {s : Shared} {h : Heap} {g : Array GenState} {d : Drawn} {k : Nat} (a : s.heap = h) (b : s.gens = g) (c : s.drawn = d) (e : s.toks = k) : s = ⟨h, g, d, k, s.os⟩ := by
 cases s
 cases a
 cases b
 cases c
 cases e
 rfl
theorem opQ : opening pQ = plainProg pQ.main.scope.names := by kernel_rfl
theorem feQ (s : Shared) : fenceModules? pQ s = some s := by kernel_rfl
theorem seen_eq {s : Shared} (aA : seenA s = goodA.2) : seenQ s = goodQ :=
 Prod.ext (congrArg (fun y => y.1) aA) (Prod.ext (congrArg (fun y => y.2.1) aA) (Prod.ext (congrArg (fun y => y.2.2.1) aA) (Prod.ext (congrArg (fun y => y.2.2.2.1) aA) (Prod.ext (congrArg (fun y => y.2.2.2.2.1) aA) (Prod.ext (congrArg (fun y => y.2.2.2.2.2.1) aA) (Prod.ext (congrArg (fun y => y.2.2.2.2.2.2.1) aA) (Prod.ext (congrArg (fun y => y.2.2.2.2.2.2.2.1) aA) ((congrArg (fun y => y.2.2.2.2.2.2.2.2) aA)))))))))
theorem end_of {as : List Nat} {V : World -> List (Option Obj)} {w : World} {os : OsState} {s : Shared} (ht : topQ w os = some s) (hs0 : fencedOpening treeTable pQ w 20000 = some (sQ w os)) (e : runK as w os = some (V w)) :
  openEnds treeTable pQ w 20000 = some s /\ seenQ s = goodQ /\ as.map s.heap.get? = V w := by
 have d0 := map_at (f := fun (s : Shared) => (ok9 w os s, seenA s)) ht (rA w os)
 have d1 : ok9 w os s = true := congrArg (fun y => y.1) d0
 have dA : seenA s = goodA.2 := congrArg (fun y => y.2) d0
 obtain ⟨d2, d3⟩ := Bool.and_eq_true_iff.mp d1
 exact ⟨openEnds_some hs0 (topFrom_some d3 (topQ_run ht) d2), seen_eq dA , map_at (f := fun (s : Shared) => as.map s.heap.get?) ht e⟩
theorem hl_of {as : List Nat} {V : World -> List (Option Obj)} (h : ∀ w os, PySem.W.Fast.tw9463292968762239857 as w os = some (V w)) : LeftO pQ vQ lQ xQ (fun s => as.map s.heap.get?) V 20000 := fun w => by
 obtain ⟨s0, hs0, hv⟩ := Option.map_eq_some_iff.mp (boot_open (p := pQ) (N := 20000) opQ rfl feQ w)
 have es : s0 = sQ w s0.os := sh_eq (congrArg (fun x => x.1) hv) (congrArg (fun x => x.2.1) hv) (congrArg (fun x => x.2.2.1) hv) (congrArg (fun x => x.2.2.2) hv)
 rw [es] at hs0
 obtain ⟨s, ht⟩ := map_some' (rA w s0.os)
 have e : runK as w s0.os = some (V w) := by rw [PySem.W.Fast.te9463292968762239857]; exact h w s0.os
 obtain ⟨e1, e2, e3⟩ := end_of ht hs0 e
 exact pair_of (f := seenQ) (g := fun s => as.map s.heap.get?) (a := goodQ) e1 e2 e3
end H08
section
open PySem PySem.W PyProof.Rows
local macro_rules | `(tactic| o_head $H:term) => `(tactic|
 refine holds_open
  (q := H08.vQ) (loose := H08.lQ)
  (Xt := H08.xQ) (XP := XL H08.vQ [])
  (Yf := Hook.obs $H)
  (Ya := Hook.val $H) (YP := Hook.says $H)
  (N := 20000)
  (H08.hl_of fun w os => by kernel_rfl)
  (Hook.of $H) (Hook.keeps $H)
  (fun s e => xl_of s (Bool.and_eq_true_iff.mp e).1)
  XL.keeps rfl rfl rfl
  (fun s e => recFacts_of (Bool.and_eq_true_iff.mp e).2)
  rfl
  (by first | assumption | decide +kernel)
  (by decide +kernel)
  ⟨rfl, rfl, rfl, rfl, rfl, by decide +kernel⟩
  ?hw ?hc)
open_top H08.head for PySem.Challenge.rw_findhall_k08_books
end
namespace L2
open PySem PySem.Spec PyProof.Rows
abbrev Key := Sum Int Str
def keyIs : Key -> Value -> Bool
 | .inl k, v => Value.isInt k v
 | .inr x, v => Value.isStrOf x v
def keyH (w : World) : Key -> Int
 | .inl k => hashInt k
 | .inr x => hashStr w x
theorem keyIs_shape : ∀ {k : Key} {v : Value}, keyIs k v = true -> (∃ i t, k = Sum.inl i /\ v = Value.int i t) \/ (∃ x t, k = Sum.inr x /\ v = Value.str x t)
 | .inl i, v, h => by
  obtain ⟨t, e⟩ := Value.isInt_shape (k := i) (v := v) h
  exact .inl ⟨i, t, rfl, e⟩
 | .inr x, v, h => by
  obtain ⟨t, e⟩ := Value.isStrOf_shape (x := x) (v := v) h
  exact .inr ⟨x, t, rfl, e⟩
theorem keyIs_int (i : Int) (t : Tok) : keyIs (.inl i) (.int i t) = true := by simp [keyIs, Value.isInt]
theorem keyIs_str (x : Str) (t : Tok) : keyIs (.inr x) (.str x t) = true := by simp [keyIs, Value.isStrOf]
theorem key_ll (a b : Int) : decide ((Sum.inl a : Key) = Sum.inl b) = (a == b) := by
 by_cases e : a = b
 ·subst e; simp
 ·have h : ¬ (Sum.inl a : Key) = Sum.inl b := fun q => e (Sum.inl.inj q)
  rw [decide_eq_false h]
  exact (beq_eq_false_iff_ne.mpr e).symm
theorem key_rr (a b : Str) : decide ((Sum.inr a : Key) = Sum.inr b) = decide (a = b) := by
 by_cases e : a = b
 ·subst e; simp
 ·have h : ¬ (Sum.inr a : Key) = Sum.inr b := fun q => e (Sum.inr.inj q)
  rw [decide_eq_false h, decide_eq_false e]
theorem key_lr (a : Int) (b : Str) : decide ((Sum.inl a : Key) = Sum.inr b) = false := decide_eq_false (fun q => nomatch q)
theorem key_rl (a : Str) (b : Int) : decide ((Sum.inr a : Key) = Sum.inl b) = false := decide_eq_false (fun q => nomatch q)
def mixKind (prog : Program) (w : World) : PySem.KeyKind prog w Key where
 is := keyIs
 hash := keyH w
 inj := fun v a b ha hb => by
  rcases keyIs_shape ha with ⟨i, t, rfl, rfl⟩ | ⟨x, t, rfl, rfl⟩
  ·rcases keyIs_shape hb with ⟨j, u, rfl, e⟩ | ⟨y, u, rfl, e⟩
   ·injection e with e1 _; rw [e1]
   ·exact nomatch e
  ·rcases keyIs_shape hb with ⟨j, u, rfl, e⟩ | ⟨y, u, rfl, e⟩
   ·exact nomatch e
   ·injection e with e1 _; rw [e1]
 byValue := fun k v h => by
  rcases keyIs_shape h with ⟨i, t, rfl, rfl⟩ | ⟨x, t, rfl, rfl⟩ <;> rfl
 pyHash := fun hv h => by
  rcases keyIs_shape hv with ⟨i, t, rfl, rfl⟩ | ⟨x, t, rfl, rfl⟩
  ·exact wpAny_pyHash_int h
  ·exact wpAny_pyHash_str h
 eqBool := fun hu hv h => by
  rcases keyIs_shape hu with ⟨i, t, rfl, rfl⟩ | ⟨x, t, rfl, rfl⟩
  ·rcases keyIs_shape hv with ⟨j, u, rfl, rfl⟩ | ⟨y, u, rfl, rfl⟩
   ·rw [key_ll] at h; exact wpAny_eqBool_int h
   ·rw [key_lr] at h; exact SeqAt.EqAt.int_str i t y u _ _ _ _ h
  ·rcases keyIs_shape hv with ⟨j, u, rfl, rfl⟩ | ⟨y, u, rfl, rfl⟩
   ·rw [key_rl] at h; exact SeqAt.EqAt.str_int x t j u _ _ _ _ h
   ·rw [key_rr] at h; exact wpAny_eqBool_str h
 «strs» := fun k x t v h => by
  rcases keyIs_shape h with ⟨i, u, rfl, e⟩ | ⟨y, u, rfl, e⟩
  ·exact nomatch e
  ·injection e with e1 _
   subst e1
   cases v <;> rfl
theorem mixKind_int (prog : Program) (w : World) (i : Int) (t : Tok) : (mixKind prog w).is (.inl i) (.int i t) = true := keyIs_int i t
theorem mixKind_str (prog : Program) (w : World) (x : Str) (t : Tok) : (mixKind prog w).is (.inr x) (.str x t) = true := keyIs_str x t
inductive V where
 | non | bl (b : Bool) | int (i : Int) | str (x : Str) | byt (b : Array UInt8) | flt (b : UInt64) | ref (a : Addr) | ty (n : String)
 deriving DecidableEq
def RelV : V -> Value -> Prop
 | .non, u => u = Value.none
 | .bl b, u => u = Value.bool b
 | .int i, u => ∃ t, u = Value.int i t
 | .str x, u => ∃ t, u = Value.str x t
 | .byt b, u => ∃ t, u = Value.bytes b t
 | .flt b, u => ∃ t, u = Value.float b t
 | .ref a, u => u = Value.ref a
 | .ty n, u => u = Value.type n
abbrev Vals : List V -> List Value -> Prop := Paired RelV
theorem Vals.length {xs : List V} {us : List Value} (r : Vals xs us) : xs.length = us.length := Paired.length r
theorem Vals.get : ∀ {xs : List V} {us : List Value} {i : Nat} {x : V}, Vals xs us -> xs[i]? = some x -> ∃ u, us[i]? = some u /\ RelV x u
 | _, _, _, _, .nil, e => by simp at e
 | _, _, 0, _, .cons r _, e => by simp at e; subst e; exact ⟨_, rfl, r⟩
 | _, _, i + 1, x, .cons _ t, e => by
  obtain ⟨u, h1, h2⟩ := Vals.get (i := i) (x := x) t (by simpa using e)
  exact ⟨u, by simpa using h1, h2⟩
theorem Vals.set {x : V} {u : Value} (r : RelV x u) : ∀ {xs : List V} {us : List Value} (i : Nat), Vals xs us -> Vals (xs.set i x) (us.set i u)
 | _, _, _, .nil => .nil
 | _, _, 0, .cons _ t => .cons r t
 | _, _, i + 1, .cons q t => .cons q (Vals.set r i t)
theorem Vals.append : ∀ {xs ys : List V} {us ws : List Value}, Vals xs us -> Vals ys ws -> Vals (xs ++ ys) (us ++ ws)
 | _, _, _, _, .nil, s => s
 | _, _, _, _, .cons r t, s => .cons r (Vals.append t s)
theorem Vals.take : ∀ {xs : List V} {us : List Value} (n : Nat), Vals xs us -> Vals (xs.take n) (us.take n)
 | _, _, 0, _ => .nil
 | _, _, _ + 1, .nil => .nil
 | _, _, n + 1, .cons r t => .cons r (Vals.take n t)
theorem Vals.drop : ∀ {xs : List V} {us : List Value} (n : Nat), Vals xs us -> Vals (xs.drop n) (us.drop n)
 | _, _, 0, r => r
 | _, _, _ + 1, .nil => .nil
 | _, _, n + 1, .cons _ t => Vals.drop n t
theorem Vals.none_of : ∀ {xs : List V} {us : List Value} {i : Nat}, Vals xs us -> xs[i]? = none -> us[i]? = none := fun {xs us i} r e => by
 have h1 := r.length
 have h2 : xs.length <= i := List.getElem?_eq_none_iff.mp e
 exact List.getElem?_eq_none_iff.mpr (by omega)
def RelO : Option V -> Option Value -> Prop
 | some v, some u => RelV v u
 | none, none => True
 | _, _ => False
def KV {κ : Type} : List (κ × V) -> List (κ × Value) -> Prop := Paired fun (p : κ × V) (q : κ × Value) => p.1 = q.1 /\ RelV p.2 q.2
def kV : Key -> V
 | .inl i => .int i
 | .inr x => .str x
inductive HO where
 | lst (xs : List V)
 | tup (xs : List V)
 | dK (kvs : List (Key × V)) | dT (kvs : List (List Key × V))
 | set (S : Int -> Bool) (n : Nat)
 | ins (C dx : Addr) (fs : List (Str × V))
 | own (x : Addr)
 | xd (fs : List (Str × V))
 | met (f x : Addr)
 | rng (lo hi : Int)
 | frz (o : Obj) (u : HO)
 | tbl (ps : Array Value)
 | ext (φ : Heap -> Prop)
abbrev Hp := Addr -> Option HO
def upd (H : Hp) (a : Addr) (o : HO) : Hp := fun b => if b = a then some o else H b
theorem upd_same {H : Hp} {a : Addr} {o : HO} : upd H a o a = some o := by unfold upd; rw [if_pos rfl]
theorem upd_ne {H : Hp} {a b : Addr} {o : HO} (h : b ≠ a) : upd H a o b = H b := by unfold upd; rw [if_neg h]
theorem upd_upd {H : Hp} {a : Addr} {o u : HO} : upd (upd H a o) a u = upd H a u := by
 funext b; unfold upd; split <;> rfl
theorem ne_of {H : Hp} {a b : Addr} {o u : HO} (h : H a = some o) (h' : H b = some u) (d : o ≠ u) : a ≠ b := by
 intro e; subst e; rw [h] at h'; exact d (Option.some.inj h')
theorem ne_of_none {H : Hp} {a b : Addr} {o : HO} (h : H a = some o) (h' : H b = none) : a ≠ b := by
 intro e; subst e; rw [h] at h'; cases h'
section
variable (P : Program) (w : World)
def ObjOk (H : Hp) (h : Heap) (a : Addr) : HO -> Prop
 | .lst xs => xs.length <= sizeLine /\ ∃ (its : List Value) (n : Nat), Vals xs its /\ h.get? a = some { cls := .type "list", data := .seq its.toArray n }
 | .tup xs => xs.length <= sizeLine /\ ∃ its : List Value, Vals xs its /\ IsTup h a its.toArray
 | .dK kvs => kvs.length <= sizeLine /\ (a == sysModules) = false /\ ∃ vs, KV kvs vs /\ h.DictOf (mixKind P w) a vs
 | .dT kvs => kvs.length <= sizeLine /\ (a == sysModules) = false /\ ∃ xs : List (List Key × Addr × Value),
   Paired (fun (p : List Key × V) (q : List Key × Addr × Value) => p.1 = q.1 /\ H q.2.1 = some (.tup (p.1.map kV)) /\ RelV p.2 q.2.2) kvs xs /\
   ∃ o es ep, h.get? a = some o /\ o.ExactDict /\ o.data = .dict es ep /\ es.toList = xs.map (entryOfKey (tupleKind (mixKind P w))) /\ (xs.map (·.1)).Nodup
 | .set S n => h.SetOf (intKind P w) a S n
 | .ins C dx fs => H dx = some (.own a) /\ fs.length <= 1000 /\ dx ≠ a /\ h.get? a = some (PySem.W.instObj C dx) /\
   ∃ mA, h.Ns1 dx mA /\ (∀ f, RelO (fs.lookup f) (mA f)) /\ PySem.Within mA (fs.map (·.1))
 | .own _ => ∃ o, h.get? a = some o
 | .xd fs => ∃ mA, h.Ns1 a mA /\ ∀ f, RelO (fs.lookup f) (mA f)
 | .rng lo hi => ∃ t u v, h.get? a = some { cls := .type "range", data := .fields #[.int lo t, .int hi u, .int 1 v] }
 | .frz o u => h.get? a = some o /\ ObjOk H h a u
 | .tbl ps => h.get? a = some { cls := .none, data := .fields ps }
 | .met f x => h.get? a = some (PySem.W.methodObj (.ref f) (.ref x))
 | .ext φ => φ h /\ (∃ o, h.get? a = some o) /\ ∀ h1 h2 : Heap, φ h1 -> (∀ o, h1.get? a = some o -> h2.get? a = some o) -> φ h2
def HOk (H : Hp) (h : Heap) : Prop := ∀ a o, H a = some o -> ObjOk P w H h a o
end
section
variable {P : Program} {w : World} {H H' : Hp} {h h' : Heap} {a : Addr} {o : HO}
theorem ObjOk.lt (x : ObjOk P w H h a o) : a < h.objs.size := by
 cases o with
 | lst xs => obtain ⟨_, _, _, _, e⟩ := x; exact Heap.lt_size e
 | tup xs => obtain ⟨_, _, _, p⟩ := x; exact p.lt
 | dK kvs => obtain ⟨_, _, _, _, o, _, _, e, _⟩ := x; exact Heap.lt_size e
 | dT kvs => obtain ⟨_, _, _, _, o, _, _, e, _⟩ := x; exact Heap.lt_size e
 | set S n => obtain ⟨o, _, _, _, e, _⟩ := x; exact Heap.lt_size e
 | ins C dx fs => obtain ⟨_, _, _, e, _⟩ := x; exact Heap.lt_size e
 | own y => obtain ⟨_, e⟩ := x; exact Heap.lt_size e
 | xd fs => obtain ⟨_, ⟨_, _, _, e, _⟩, _⟩ := x; exact Heap.lt_size e
 | rng lo hi => obtain ⟨_, _, _, e⟩ := x; exact Heap.lt_size e
 | frz ob u => obtain ⟨e, _⟩ := x; exact Heap.lt_size e
 | tbl ps => exact Heap.lt_size (show h.get? a = some _ from x)
 | met f y => exact Heap.lt_size (show h.get? a = some _ from x)
 | ext φ => obtain ⟨_, ⟨_, e⟩, _⟩ := x; exact Heap.lt_size e
theorem Paired.mapP {α β : Type} {F G : α -> β -> Prop} : ∀ {l₁ : List α} {l₂ : List β}, Paired F l₁ l₂ -> (∀ a b, F a b -> G a b) -> Paired G l₁ l₂
 | _, _, .nil, _ => .nil
 | _, _, .cons r t, f => .cons (f _ _ r) (Paired.mapP t f)
theorem ObjOk.stay (x : ObjOk P w H h a o) (k : ∀ b u, (b = a \/ H b = some (.own a)) -> h.get? b = some u -> h'.get? b = some u)
  (ho : ∀ b, H b = some (.own a) -> H' b = some (.own a)) (ht : ∀ b xs, H b = some (.tup xs) -> H' b = some (.tup xs)) : ObjOk P w H' h' a o := by
 induction o with
 | lst xs => obtain ⟨z, its, n, r, e⟩ := x; exact ⟨z, its, n, r, k _ _ (.inl rfl) e⟩
 | tup xs => obtain ⟨z, its, r, ob, e, c⟩ := x; exact ⟨z, its, r, ob, k _ _ (.inl rfl) e, c⟩
 | dK kvs => obtain ⟨z, y, vs, r, ob, es, ep, e, c⟩ := x; exact ⟨z, y, vs, r, ob, es, ep, k _ _ (.inl rfl) e, c⟩
 | dT kvs =>
  obtain ⟨z, y, xs, r, ob, es, ep, e, c⟩ := x
  exact ⟨z, y, xs, Paired.mapP r fun p q z => ⟨z.1, ht _ _ z.2.1, z.2.2⟩, ob, es, ep, k _ _ (.inl rfl) e, c⟩
 | set S n => obtain ⟨ob, es, ep, t, e, c⟩ := x; exact ⟨ob, es, ep, t, k _ _ (.inl rfl) e, c⟩
 | ins C dx fs =>
  obtain ⟨d, z, ne, e, mA, ⟨od, es, ep, e2, c⟩, r⟩ := x
  exact ⟨ho _ d, z, ne, k _ _ (.inl rfl) e, mA, ⟨od, es, ep, k _ _ (.inr d) e2, c⟩, r⟩
 | own y => obtain ⟨ob, e⟩ := x; exact ⟨ob, k _ _ (.inl rfl) e⟩
 | xd fs => obtain ⟨mA, ⟨od, es, ep, e, c⟩, r⟩ := x; exact ⟨mA, ⟨od, es, ep, k _ _ (.inl rfl) e, c⟩, r⟩
 | rng lo hi => obtain ⟨t, u, v, e⟩ := x; exact ⟨t, u, v, k _ _ (.inl rfl) e⟩
 | frz ob u ih => obtain ⟨e, q⟩ := x; exact ⟨k _ _ (.inl rfl) e, ih q⟩
 | tbl ps =>
  have e : h.get? a = some { cls := .none, data := .fields ps } := x
  show h'.get? a = some { cls := .none, data := .fields ps }
  exact k a _ (.inl rfl) e
 | met f y =>
  have e : h.get? a = some (PySem.W.methodObj (.ref f) (.ref y)) := x
  show h'.get? a = some (PySem.W.methodObj (.ref f) (.ref y))
  exact k a _ (.inl rfl) e
 | ext φ => obtain ⟨p, ⟨o, e⟩, st⟩ := x; exact ⟨st _ _ p fun o q => k _ _ (.inl rfl) q, ⟨o, k _ _ (.inl rfl) e⟩, st⟩
theorem HOk.lt (x : HOk P w H h) (e : H a = some o) : a < h.objs.size := (x a o e).lt
theorem HOk.fresh (x : HOk P w H h) (e : h.objs.size <= a) : H a = none := by
 cases q : H a with
 | none => rfl
 | some u => exact absurd (Nat.lt_of_lt_of_le (x.lt q) e) (Nat.lt_irrefl _)
theorem HOk.kept (x : HOk P w H h) (k : ∀ b u, h.get? b = some u -> h'.get? b = some u) : HOk P w H h' := fun a o e =>
 (x a o e).stay (fun b u _ q => k b u q) (fun _ q => q) fun _ _ q => q
theorem HOk.laid (x : HOk P w H h) (k : ∀ b u, h.get? b = some u -> h'.get? b = some u) (hp : h.objs.size <= a) (new : ObjOk P w (upd H a o) h' a o) : HOk P w (upd H a o) h' := fun b u e => by
 have hn := x.fresh hp
 by_cases hb : b = a
 ·subst hb; rw [upd_same] at e; cases e; exact new
 ·rw [upd_ne hb] at e
  exact (x b u e).stay (fun c v _ q => k c v q) (fun c q => by rw [upd_ne (ne_of_none q hn)]; exact q) fun c xs q => by rw [upd_ne (ne_of_none q hn)]; exact q
end
def Rd (H : Hp) (a : Addr) (u : HO) : Prop := H a = some u \/ ∃ o, H a = some (.frz o u)
theorem Rd.of {H : Hp} {a : Addr} {u : HO} (h : H a = some u) : Rd H a u := .inl h
theorem Rd.ok {P : Program} {w : World} {H : Hp} {h : Heap} {a : Addr} {u : HO} (r : Rd H a u) (x : HOk P w H h) : ObjOk P w H h a u := by
 rcases r with r | ⟨o, r⟩
 ·exact x a u r
 ·obtain ⟨_, q⟩ := x a _ r
  exact q
def Mut : Option HO -> Prop
 | some (.lst _) => True
 | some (.dK _) => True
 | some (.dT _) => True
 | some (.set _ _) => True
 | some (.ins _ _ _) => True
 | some (.ext _) => True
 | _ => False
section
variable {P : Program} {w : World} {H : Hp} {h h' : Heap} {x e : Addr} {o' : HO}
theorem HOk.write (ok : HOk P w H h) (mu : Mut (H x)) (he : e = x \/ H e = some (.own x)) (k : ∀ b u, b ≠ e -> h.get? b = some u -> h'.get? b = some u) (heo : ∃ u, h'.get? e = some u)
  (new : ObjOk P w (upd H x o') h' x o') : HOk P w (upd H x o') h' := fun b u q => by
 have nown : ∀ c y, H c = some (.own y) -> c ≠ x := fun c y r z => by subst z; rw [r] at mu; exact mu
 have ntup : ∀ c xs, H c = some (.tup xs) -> c ≠ x := fun c xs r z => by subst z; rw [r] at mu; exact mu
 by_cases hb : b = x
 ·subst hb; rw [upd_same] at q; cases q; exact new
 ·rw [upd_ne hb] at q
  by_cases hbe : b = e
  ·have q' : H b = some (.own x) := by
    rcases he with z | z
    ·exact absurd (hbe.trans z) hb
    ·rw [hbe]; exact z
   rw [q] at q'; cases q'
   obtain ⟨v, hv⟩ := heo
   exact ⟨v, by rw [hbe]; exact hv⟩
  ·refine (ok b u q).stay (fun c v hc r => k c v ?_ r) (fun c r => by rw [upd_ne (nown c b r)]; exact r) fun c xs r => by rw [upd_ne (ntup c xs r)]; exact r
   rcases hc with rfl | hc
   ·exact hbe
   ·rintro rfl
    rcases he with z | z
    ·exact nown c b hc z
    ·rw [hc] at z; cases z; exact hb rfl
end
structure Un (fs ex : List Addr) (H H' : Hp) (h h' : Heap) : Prop where
 keep : ∀ b o, h.get? b = some o -> H b = none -> b ∉ fs -> b ∉ ex -> h'.get? b = some o
 slot : ∀ b o, h.get? b = some o -> H b = none -> b ∈ fs -> b ∉ ex -> ∃ sl, h'.get? b = some { o with slots := sl }
 free : ∀ b o, h.get? b = some o -> H b = none -> b ∉ ex -> H' b = none
 there : ∀ b o, h.get? b = some o -> b ∉ ex -> ∃ o', h'.get? b = some o'
 tups : ∀ b xs, H b = some (.tup xs) -> H' b = some (.tup xs)
 frzs : ∀ b o u, H b = some (.frz o u) -> H' b = some (.frz o u)
 tbls : ∀ b ps, H b = some (.tbl ps) -> ∃ more, H' b = some (.tbl (ps ++ more))
section
variable {fs fs' ex ex' : List Addr} {H H1 H2 : Hp} {h h1 h2 h' : Heap} {a x e : Addr} {o : HO}
theorem Un.any (u : Un fs ex H H1 h h1) {b : Addr} {ob : Obj} (q : h.get? b = some ob) (n : H b = none) (hx : b ∉ ex) : ∃ sl, h1.get? b = some { ob with slots := sl } := by
 by_cases hb : b ∈ fs
 ·exact u.slot b ob q n hb hx
 ·exact ⟨ob.slots, u.keep b ob q n hb hx⟩
theorem Un.trans (a : Un fs ex H H1 h h1) (b : Un fs ex H1 H2 h1 h2) : Un fs ex H H2 h h2 where
 keep := fun c ob q n hc hx => b.keep c ob (a.keep c ob q n hc hx) (a.free c ob q n hx) hc hx
 slot := fun c ob q n hc hx => by
  obtain ⟨sl, e1⟩ := a.slot c ob q n hc hx
  obtain ⟨sl', e2⟩ := b.slot c _ e1 (a.free c ob q n hx) hc hx
  exact ⟨sl', e2⟩
 free := fun c ob q n hx => by
  obtain ⟨o', e1⟩ := a.there c ob q hx
  exact b.free c o' e1 (a.free c ob q n hx) hx
 there := fun c ob q hx => by
  obtain ⟨o', e1⟩ := a.there c ob q hx
  exact b.there c o' e1 hx
 tups := fun c xs q => b.tups c xs (a.tups c xs q)
 frzs := fun c ob xs q => b.frzs c ob xs (a.frzs c ob xs q)
 tbls := fun c ps q => by
  obtain ⟨m1, e1⟩ := a.tbls c ps q
  obtain ⟨m2, e2⟩ := b.tbls c _ e1
  exact ⟨m1 ++ m2, by rw [e2, Array.append_assoc]⟩
theorem Un.kept (k : ∀ b u, h.get? b = some u -> h'.get? b = some u) : Un fs ex H H h h' :=
 ⟨fun b ob q _ _ _ => k b ob q, fun b ob q _ _ _ => ⟨ob.slots, k b ob q⟩, fun _ _ _ n _ => n, fun b ob q _ => ⟨ob, k b ob q⟩, fun _ _ q => q, fun _ _ _ q => q, fun _ ps q => ⟨#[], by rw [q]; simp⟩⟩
theorem Un.refl : Un fs ex H H h h := Un.kept fun _ _ q => q
theorem Un.laid (k : ∀ b u, h.get? b = some u -> h'.get? b = some u) (hp : h.objs.size <= a) (hn : H a = none) : Un fs ex H (upd H a o) h h' where
 keep := fun b u q _ _ _ => k b u q
 slot := fun b u q _ _ _ => ⟨u.slots, k b u q⟩
 free := fun b u q n _ => by rw [upd_ne (Nat.ne_of_lt (Nat.lt_of_lt_of_le (Heap.lt_size q) hp))]; exact n
 there := fun b u q _ => ⟨u, k b u q⟩
 tups := fun b xs q => by rw [upd_ne (ne_of_none q hn)]; exact q
 frzs := fun b u xs q => by rw [upd_ne (ne_of_none q hn)]; exact q
 tbls := fun b ps q => ⟨#[], by rw [upd_ne (ne_of_none q hn), q]; simp⟩
theorem Un.write (mu : Mut (H x)) (he : e = x \/ H e = some (.own x)) (k : ∀ b u, b ≠ e -> h.get? b = some u -> h'.get? b = some u) (heo : ∃ u, h'.get? e = some u) : Un fs ex H (upd H x o) h h' := by
 have hx : ∀ b, H b = none -> b ≠ x := fun b n z => by subst z; rw [n] at mu; exact mu
 have hb : ∀ b, H b = none -> b ≠ e := fun b n z => by
  subst z
  rcases he with r | r
  ·exact hx b n r
  ·rw [n] at r; cases r
 have hm : ∀ b u, H b = some u -> ¬ Mut (some u) -> b ≠ x := fun b u q nm z => by subst z; rw [q] at mu; exact nm mu
 refine ⟨fun b u q n _ _ => k b u (hb b n) q, fun b u q n _ _ => ⟨u.slots, k b u (hb b n) q⟩, fun b u q n _ => by rw [upd_ne (hx b n)]; exact n, fun b u q _ => ?_,
  fun b xs q => by rw [upd_ne (hm b _ q fun z => z)]; exact q, fun b u xs q => by rw [upd_ne (hm b _ q fun z => z)]; exact q, fun b ps q => ⟨#[], by rw [upd_ne (hm b _ q fun z => z), q]; simp⟩⟩
 by_cases hbe : b = e
 ·subst hbe; exact heo
 ·exact ⟨u, k b u hbe q⟩
theorem Un.mono (u : Un fs ex H H1 h h1) (hs : ∀ b ∈ fs, b ∈ fs') (hx : ∀ b ∈ ex, b ∈ ex') : Un fs' ex' H H1 h h1 :=
 ⟨fun b ob q n hb he => u.keep b ob q n (fun z => hb (hs b z)) fun z => he (hx b z), fun _ _ q n _ he => u.any q n fun z => he (hx _ z), fun b ob q n he => u.free b ob q n fun z => he (hx b z), fun b ob q he => u.there b ob q fun z => he (hx b z), u.tups, u.frzs, u.tbls⟩
end
def trk (h : Heap) (H : Hp) : List Addr := (List.range h.objs.size).filter fun a => (H a).isSome
def hidT (h : Heap) (H : Hp) : Heap := PySem.W.hideAll h (trk h H)
theorem hidT_size (h : Heap) (H : Hp) : (hidT h H).objs.size = h.objs.size := PySem.W.hideAll_size _ _
theorem hidT_get {h : Heap} {H : Hp} {b : Addr} {o : Obj} (e : h.get? b = some o) (n : H b = none) : (hidT h H).get? b = some o :=
 PySem.W.hideAll_get _ e fun hm => by
  have q : (H b).isSome = true := (List.mem_filter.mp hm).2
  rw [n] at q; simp at q
theorem of_hidT {h : Heap} {H : Hp} {b : Addr} {o : Obj} (e : (hidT h H).get? b = some o) : h.get? b = some o /\ H b = none := by
 have e' : h.get? b = some o := PySem.W.of_hideAll (trk h H) e
 refine ⟨e', ?_⟩
 cases q : H b with
 | none => rfl
 | some x =>
  have hm : b ∈ trk h H := List.mem_filter.mpr ⟨List.mem_range.mpr (Heap.lt_size e'), by simp [q]⟩
  have z : (hidT h H).get? b = none := PySem.W.hideAll_none (trk h H) hm
  rw [z] at e; cases e
def allNews (g h : Heap) (L : Addr) : List (Addr × Obj) := (List.range h.objs.size).filterMap fun a => if a = L \/ (g.get? a).isSome = true then none else (h.get? a).map fun o => (a, o)
def rest (g h : Heap) (L d : Addr) : List (Addr × Obj) := (allNews g h L).filter fun p => decide (p.1 ≠ d)
structure Mod (K : PySem.W.Frag) (mg : Str -> Option Value) (base : Heap) : Prop where
 kin : K.In base
 glob : base.Ns mainGlobals mg
 blt : ∃ mb, base.Ns builtinsNs mb /\ ∀ x : Str, x ≠ "__name__" -> mb x = bootBuiltins x
 nolimit : base.NoLimit
structure Cx where
 prog : Program
 w : World
 K : PySem.W.Frag
 mg : Str -> Option Value
 base : Heap
 A : Around
 N : List Str
 s₀ : Shared
 H₀ : Hp
 env : Env
 outer : List Env
 stack : List Env
 ex : List Addr
 fn : Str -> Bool
 calm : Bool
 pn : List (Addr × Obj)
 xe : Value -> Shared -> Prop
def frs (l : List Env) : List Addr := l.filterMap (·.frame)
abbrev Cx.fs (X : Cx) : List Addr := frs X.outer
def Vis (sc : Scope) (x : Str) : Prop := sc.names.lookup x = some .local \/ sc.names.lookup x = some .cell \/ sc.names.lookup x = some .free
def Loc (sc : Scope) (x : Str) : Prop := sc.names.lookup x = some .local \/ sc.names.lookup x = some .cell
def Look (env : Env) (h : Heap) (m : Str -> Option Value) (x : Str) (u : Value) : Prop :=
 (env.kindOf x = some .local /\ m x = some u) \/ ((env.kindOf x = some .cell \/ env.kindOf x = some .free) /\ ∃ c, env.cells.lookup x = some c /\ h.IsCell c (some u))
structure Cx.Ok (X : Cx) : Prop where
 mod : Mod X.K X.mg X.base
 kind : X.env.scope.kind = .function
 glob : X.env.globals = mainGlobals
 blt : X.env.builtins = builtinsNs
 above : X.s₀.heap.objs.size <= X.env.locals
 inj : ∀ x y c, X.env.cells.lookup x = some c -> X.env.cells.lookup y = some c -> x = y
 has : ∀ x, (X.env.kindOf x = some .cell \/ X.env.kindOf x = some .free) -> ∃ c, X.env.cells.lookup x = some c
 cab : ∀ x c, X.fn x = true -> X.env.cells.lookup x = some c -> X.s₀.heap.objs.size <= c
 hd : X.calm = true -> X.A.handled = none
 frames : X.A.frames = some X.stack
 stk : X.stack = X.outer \/ (X.stack = X.env :: X.outer /\ X.env.frame = some X.env.locals)
 exf : ∀ b ∈ X.ex, b ≠ X.env.locals /\ ∀ x c, X.env.cells.lookup x = some c -> c ≠ b
 bs : ∀ b o, X.base.get? b = some o -> X.s₀.heap.get? b = some o /\ X.H₀ b = none
 bsz : X.base.objs.size <= X.s₀.heap.objs.size
 noex : ∀ b o, X.base.get? b = some o -> b ∉ X.ex
 exfs : ∀ b ∈ X.ex, b ∉ X.fs
 funs : X.s₀.heap.FunFrames X.base X.outer
 frf : ∀ b ∈ X.fs, X.H₀ b = none
structure Inv (X : Cx) (pins : List (Addr × Obj)) (σ : List (Option V)) (H : Hp) (s : Shared) : Prop where
 ok : X.Ok
 os : s.os = X.s₀.os
 bare : AllBare s.gens
 base : Un X.fs X.ex X.H₀ H X.s₀.heap s.heap
 loc : ∃ m, s.heap.Ns X.env.locals m /\ ∀ (i : Nat) (x : Str) (v : V), X.N[i]? = some x -> σ[i]? = some (some v) -> Vis X.env.scope x -> ∃ u, RelV v u /\ Look X.env s.heap m x u
 cell : ∀ x c, X.env.cells.lookup x = some c -> ∃ v, s.heap.IsCell c v
 free : H X.env.locals = none
 freeC : ∀ x c, X.env.cells.lookup x = some c -> H c = none
 pin : ∀ p ∈ X.pn ++ pins, s.heap.get? p.1 = some p.2 /\ H p.1 = none /\ p.1 ≠ X.env.locals /\ p.1 ∉ X.fs /\ ∀ v, p.2.data ≠ .cell v
 hok : HOk X.prog X.w H s.heap
 len : σ.length = X.N.length
section
variable {X : Cx} {pins : List (Addr × Obj)} {σ : List (Option V)} {H H' : Hp} {s : Shared} {h' : Heap}
theorem Cx.Ok.nofr (ok : X.Ok) {b : Addr} {o : Obj} (e : X.base.get? b = some o) : b ∉ X.fs := fun hb => by
 have := (ok.funs.mem hb).1
 rw [e] at this; cases this
theorem Inv.bs (I : Inv X pins σ H s) : ∀ b o, X.base.get? b = some o -> s.heap.get? b = some o /\ H b = none := fun b o e =>
 ⟨I.base.keep b o (I.ok.bs b o e).1 (I.ok.bs b o e).2 (I.ok.nofr e) (I.ok.noex b o e), I.base.free b o (I.ok.bs b o e).1 (I.ok.bs b o e).2 (I.ok.noex b o e)⟩
theorem Inv.bk (I : Inv X pins σ H s) : ∀ b o, X.base.get? b = some o -> s.heap.get? b = some o := fun b o e => (I.bs b o e).1
theorem Inv.mod (I : Inv X pins σ H s) : Mod X.K X.mg X.base := I.ok.mod
theorem Inv.kIn (I : Inv X pins σ H s) : X.K.In s.heap := I.ok.mod.kin.keeps I.bk
theorem Inv.nolimit (I : Inv X pins σ H s) : s.heap.NoLimit := I.ok.mod.nolimit.keeps I.bk
theorem Inv.fr (I : Inv X pins σ H s) : ∃ m, Fr X.base X.env.locals s.heap m :=
 let ⟨m, hn, _⟩ := I.loc
 ⟨m, hn, I.bk, Nat.le_trans I.ok.bsz I.ok.above⟩
theorem Inv.lt (I : Inv X pins σ H s) : X.env.locals < s.heap.objs.size := let ⟨_, hn, _⟩ := I.loc; hn.lt
theorem Inv.sz (I : Inv X pins σ H s) : X.s₀.heap.objs.size <= s.heap.objs.size := Nat.le_trans I.ok.above (Nat.le_of_lt I.lt)
theorem Inv.nofs (I : Inv X pins σ H s) {a : Addr} (h : s.heap.objs.size <= a) : a ∉ X.fs := fun hb => by
 obtain ⟨_, o, ho, _⟩ := I.ok.funs.mem hb
 exact absurd (Nat.lt_of_lt_of_le (Heap.lt_size ho) (Nat.le_trans I.sz h)) (Nat.lt_irrefl _)
theorem Inv.cne (I : Inv X pins σ H s) : ∀ x c, X.env.cells.lookup x = some c -> c ≠ X.env.locals := fun x c e z => by
 obtain ⟨v, o, ho, hd⟩ := I.cell x c e
 obtain ⟨m, ⟨o', es, ep, ho', hd', _⟩, _⟩ := I.loc
 rw [z, ho'] at ho; cases ho; rw [hd'] at hd; cases hd
theorem Inv.funs (I : Inv X pins σ H s) : s.heap.FunFrames X.base X.outer := by
 have all : ∀ (l : List Env), (∀ b ∈ frs l, b ∈ X.fs) -> X.s₀.heap.FunFrames X.base l -> s.heap.FunFrames X.base l := by
  intro l
  induction l with
  | nil => intro _ _; trivial
  | cons env r ih =>
   intro hs hl
   obtain ⟨hk, ⟨L, o, hf, hn, ho, hd⟩, hr⟩ := hl
   have hL : L ∈ X.fs := hs L (by unfold frs; rw [List.filterMap_cons, hf]; exact List.mem_cons_self)
   obtain ⟨sl, e⟩ := I.base.slot L o ho (I.ok.frf L hL) hL fun z => I.ok.exfs L z hL
   exact ⟨hk, ⟨L, _, hf, hn, e, hd⟩, ih (fun b hb => hs b (by unfold frs; rw [List.filterMap_cons, hf]; exact List.mem_cons_of_mem _ hb)) hr⟩
 exact all X.outer (fun _ hb => hb) I.ok.funs
theorem Inv.stack (I : Inv X pins σ H s) : s.heap.FunFrames X.base X.stack := by
 rcases I.ok.stk with e | ⟨e, hf⟩
 ·rw [e]; exact I.funs
 ·rw [e]
  obtain ⟨m, hn, _⟩ := I.loc
  refine .cons (by rw [I.ok.kind]; decide) hf hn ?_ I.funs
  exact Heap.get?_none_of_le (Nat.le_trans I.ok.bsz I.ok.above)
theorem Inv.stkSub (I : Inv X pins σ H s) : ∀ b ∈ frs X.stack, b ∈ X.env.locals :: X.fs := fun b hb => by
 rcases I.ok.stk with e | ⟨e, hf⟩
 ·rw [e] at hb; exact List.mem_cons_of_mem _ hb
 ·rw [e] at hb
  unfold frs at hb
  rw [List.filterMap_cons, hf] at hb
  exact hb
theorem Inv.stkFree (I : Inv X pins σ H s) : ∀ b ∈ frs X.stack, H b = none := fun b hb => by
 rcases List.mem_cons.mp (I.stkSub b hb) with e | hb
 ·rw [e]; exact I.free
 ·obtain ⟨_, o, ho, _⟩ := I.ok.funs.mem hb
  exact I.base.free b o ho (I.ok.frf b hb) fun z => I.ok.exfs b z hb
theorem Inv.step {g' : Array GenState} {t' : Nat} {d' : Drawn} {ch : List Addr} (I : Inv X pins σ H s)
  (hch : ∀ b ∈ ch, (b ∈ X.ex \/ X.s₀.heap.objs.size <= b) /\ b ≠ X.env.locals /\ (∀ x c, X.env.cells.lookup x = some c -> c ≠ b) /\ ∀ p ∈ X.pn ++ pins, p.1 ≠ b)
  (keep : ∀ b o, b ≠ X.env.locals -> b ∉ X.fs -> b ∉ ch -> s.heap.get? b = some o -> H b = none -> h'.get? b = some o)
  (slot : ∀ b o, b ≠ X.env.locals -> b ∈ X.fs -> b ∉ ch -> s.heap.get? b = some o -> H b = none -> ∃ sl, h'.get? b = some { o with slots := sl }) (free : ∀ b o, b ∉ ch -> s.heap.get? b = some o -> H b = none -> H' b = none)
  (there : ∀ b o, b ∉ ch -> s.heap.get? b = some o -> ∃ o', h'.get? b = some o')
  (tups : ∀ b xs, H b = some (.tup xs) -> H' b = some (.tup xs)) (frzs : ∀ b o u, H b = some (.frz o u) -> H' b = some (.frz o u)) (tbls : ∀ b ps, H b = some (.tbl ps) -> ∃ more, H' b = some (.tbl (ps ++ more)))
  (ns : ∀ m, s.heap.Ns X.env.locals m -> h'.Ns X.env.locals m) (hok : HOk X.prog X.w H' h') (hg : AllBare g') :
  Inv X pins σ H' { s with heap := h', gens := g', drawn := d', toks := t' } := by
 have neL : ∀ b o, X.s₀.heap.get? b = some o -> b ≠ X.env.locals := fun b o e => Nat.ne_of_lt (Nat.lt_of_lt_of_le (Heap.lt_size e) I.ok.above)
 have neC : ∀ b o, X.s₀.heap.get? b = some o -> b ∉ X.ex -> b ∉ ch := fun b o e hx hb => by
  rcases (hch b hb).1 with z | z
  ·exact hx z
  ·exact absurd (Nat.lt_of_lt_of_le (Heap.lt_size e) z) (Nat.lt_irrefl _)
 have cellK : ∀ x c, X.env.cells.lookup x = some c -> ∀ v, s.heap.IsCell c v -> h'.IsCell c v := fun x c e v ⟨o, ho, hd⟩ => by
  have nch : c ∉ ch := fun z => (hch c z).2.2.1 x c e rfl
  by_cases hc : c ∈ X.fs
  ·obtain ⟨sl, q⟩ := slot c o (I.cne x c e) hc nch ho (I.freeC x c e)
   exact ⟨_, q, hd⟩
  ·exact ⟨o, keep c o (I.cne x c e) hc nch ho (I.freeC x c e), hd⟩
 refine ⟨I.ok, I.os, hg, ⟨fun b o e n hb hx => ?_, fun b o e n hb hx => ?_, fun b o e n hx => ?_, fun b o e hx => ?_, fun b xs e => tups b xs (I.base.tups b xs e), fun b o xs e => frzs b o xs (I.base.frzs b o xs e), fun b ps e => ?_⟩, ?_, fun x c e => ?_, ?_, fun x c e => ?_, fun p hp => ?_, hok, I.len⟩
 ·exact keep b o (neL b o e) hb (neC b o e hx) (I.base.keep b o e n hb hx) (I.base.free b o e n hx)
 ·obtain ⟨sl, e1⟩ := I.base.slot b o e n hb hx
  obtain ⟨sl', e2⟩ := slot b _ (neL b o e) hb (neC b o e hx) e1 (I.base.free b o e n hx)
  exact ⟨sl', e2⟩
 ·obtain ⟨o', e1⟩ := I.base.there b o e hx
  exact free b o' (neC b o e hx) e1 (I.base.free b o e n hx)
 ·obtain ⟨o', e1⟩ := I.base.there b o e hx
  exact there b o' (neC b o e hx) e1
 ·obtain ⟨m1, e1⟩ := I.base.tbls b ps e
  obtain ⟨m2, e2⟩ := tbls b _ e1
  exact ⟨m1 ++ m2, by rw [e2, Array.append_assoc]⟩
 ·obtain ⟨m, hn, hl⟩ := I.loc
  refine ⟨m, ns m hn, fun i x v e1 e2 e3 => ?_⟩
  obtain ⟨u, r, l⟩ := hl i x v e1 e2 e3
  refine ⟨u, r, ?_⟩
  rcases l with l | ⟨k, c, e, z⟩
  ·exact .inl l
  ·exact .inr ⟨k, c, e, cellK x c e _ z⟩
 ·obtain ⟨v, z⟩ := I.cell x c e
  exact ⟨v, cellK x c e v z⟩
 ·obtain ⟨m, ⟨o, _, _, ho, _⟩, _⟩ := I.loc
  exact free _ o (fun z => (hch _ z).2.1 rfl) ho I.free
 ·obtain ⟨v, o, ho, hd⟩ := I.cell x c e
  exact free c o (fun z => (hch c z).2.2.1 x c e rfl) ho (I.freeC x c e)
 ·obtain ⟨e, n, ne, nf, d⟩ := I.pin p hp
  have nch : p.1 ∉ ch := fun z => (hch p.1 z).2.2.2 p hp rfl
  exact ⟨keep p.1 p.2 ne nf nch e n, free p.1 p.2 nch e n, ne, nf, d⟩
theorem Inv.un {t' : Nat} (I : Inv X pins σ H s) (u : Un X.fs [] H H' s.heap h') (hok : HOk X.prog X.w H' h') : Inv X pins σ H' { s with heap := h', toks := t' } := by
 obtain ⟨m, ⟨o, es, ep, ho, r⟩, _⟩ := id I.loc
 obtain ⟨sl, hL⟩ := u.any ho I.free (by simp)
 exact I.step (g' := s.gens) (d' := s.drawn) (ch := []) (fun _ z => nomatch z) (fun b o _ hb _ e n => u.keep b o e n hb (by simp)) (fun b o _ hb _ e n => u.slot b o e n hb (by simp)) (fun b o _ e n => u.free b o e n (by simp)) (fun b o _ e => u.there b o e (by simp)) u.tups u.frzs u.tbls (fun m' hm => by
  obtain ⟨o', es', ep', ho', r'⟩ := hm
  rw [ho] at ho'; cases ho'
  exact ⟨_, es', ep', hL, r'⟩) hok I.bare
theorem Inv.call {g' : Array GenState} {t' : Nat} {d' : Drawn} {ch : List Addr} (I : Inv X pins σ H s) (u : Un (frs X.stack) ch H H' s.heap h') (hok : HOk X.prog X.w H' h') (hg : AllBare g')
  (hch : ∀ b ∈ ch, (b ∈ X.ex \/ X.s₀.heap.objs.size <= b) /\ b ≠ X.env.locals /\ (∀ x c, X.env.cells.lookup x = some c -> c ≠ b) /\ ∀ p ∈ X.pn ++ pins, p.1 ≠ b) :
  Inv X pins σ H' { s with heap := h', gens := g', drawn := d', toks := t' } := by
 obtain ⟨m, ⟨o, es, ep, ho, r⟩, _⟩ := id I.loc
 obtain ⟨sl, hL⟩ := u.any ho I.free fun z => (hch _ z).2.1 rfl
 exact I.step (ch := ch) hch (fun b o hL hb hc e n => u.keep b o e n (fun z => (List.mem_cons.mp (I.stkSub b z)).elim hL hb) hc) (fun b o _ _ hc e n => u.any e n hc) (fun b o hc e n => u.free b o e n hc) (fun b o hc e => u.there b o e hc) u.tups u.frzs u.tbls (fun m' hm => by
  obtain ⟨o', es', ep', ho', r'⟩ := hm
  rw [ho] at ho'; cases ho'
  exact ⟨_, es', ep', hL, r'⟩) hok hg
theorem Inv.turned {t' : Nat} {it : Addr} (I : Inv X pins σ H s) (k : ∀ b o, b ≠ it -> s.heap.get? b = some o -> h'.get? b = some o) (hn : H it = none) (hL : it ≠ X.env.locals)
  (h1 : it ∈ X.ex \/ X.s₀.heap.objs.size <= it) (h2 : ∀ x c, X.env.cells.lookup x = some c -> c ≠ it) (h3 : ∀ p ∈ X.pn ++ pins, p.1 ≠ it) : Inv X pins σ H { s with heap := h', toks := t' } := by
 have nit : ∀ b u, H b = some u -> b ≠ it := fun b u e z => by rw [z, hn] at e; cases e
 refine I.step (g' := s.gens) (d' := s.drawn) (ch := [it]) (fun b hb => ?_) (fun b o _ _ hc e _ => k b o (fun z => hc (by simp [z])) e) (fun b o _ _ hc e _ => ⟨o.slots, k b o (fun z => hc (by simp [z])) e⟩) (fun _ _ _ _ n => n)
  (fun b o hc e => ⟨o, k b o (fun z => hc (by simp [z])) e⟩) (fun _ _ e => e) (fun _ _ _ e => e) (fun b ps e => ⟨#[], by rw [e]; simp⟩) (fun m hm => ?_) (fun b u e => ?_) I.bare
 ·have e : b = it := by simpa using hb
  subst e
  exact ⟨h1, hL, h2, h3⟩
 ·obtain ⟨o, es, ep, ho, r⟩ := hm
  exact ⟨o, es, ep, k _ o (Ne.symm hL) ho, r⟩
 ·refine (I.hok b u e).stay (fun c v hc q => k c v ?_ q) (fun _ q => q) fun _ _ q => q
  rcases hc with z | z
  ·rw [z]; exact nit b u e
  ·exact nit c _ z
theorem Inv.tok (I : Inv X pins σ H s) (t : Nat) : Inv X pins σ H { s with toks := t } := I.un (h' := s.heap) (t' := t) Un.refl I.hok
theorem Inv.kept {t' : Nat} (I : Inv X pins σ H s) (k : ∀ b u, s.heap.get? b = some u -> h'.get? b = some u) : Inv X pins σ H { s with heap := h', toks := t' } := I.un (Un.kept k) (I.hok.kept k)
theorem Inv.laid {a : Addr} {o : HO} {t' : Nat} (I : Inv X pins σ H s) (k : ∀ b u, s.heap.get? b = some u -> h'.get? b = some u) (hp : s.heap.objs.size <= a) (new : ObjOk X.prog X.w (upd H a o) h' a o) :
  Inv X pins σ (upd H a o) { s with heap := h', toks := t' } := I.un (Un.laid k hp (I.hok.fresh hp)) (I.hok.laid k hp new)
theorem Inv.write {x e : Addr} {o : HO} {t' : Nat} (I : Inv X pins σ H s) (mu : Mut (H x)) (he : e = x \/ H e = some (.own x)) (k : ∀ b u, b ≠ e -> s.heap.get? b = some u -> h'.get? b = some u) (heo : ∃ u, h'.get? e = some u)
  (new : ObjOk X.prog X.w (upd H x o) h' x o) : Inv X pins σ (upd H x o) { s with heap := h', toks := t' } := I.un (Un.write mu he k heo) (I.hok.write mu he k heo new)
theorem Inv.weak {σ' : List (Option V)} (I : Inv X pins σ H s) (hl : σ'.length = σ.length) (w : ∀ (i : Nat) v, σ'[i]? = some (some v) -> σ[i]? = some (some v)) : Inv X pins σ' H s :=
 ⟨I.ok, I.os, I.bare, I.base, let ⟨m, hn, hl'⟩ := I.loc; ⟨m, hn, fun i x v e1 e2 e3 => hl' i x v e1 (w i v e2) e3⟩, I.cell, I.free, I.freeC, I.pin, I.hok, hl.trans I.len⟩
theorem Inv.pins_of {pins' : List (Addr × Obj)} (I : Inv X pins σ H s) (h : ∀ p ∈ pins', s.heap.get? p.1 = some p.2 /\ H p.1 = none /\ p.1 ≠ X.env.locals /\ p.1 ∉ X.fs /\ ∀ v, p.2.data ≠ .cell v) : Inv X pins' σ H s :=
 ⟨I.ok, I.os, I.bare, I.base, I.loc, I.cell, I.free, I.freeC, fun p hp => (List.mem_append.mp hp).elim (fun z => I.pin p (List.mem_append_left _ z)) (h p), I.hok, I.len⟩
theorem nodup_ix {N : List Str} (hN : N.Nodup) {i j : Nat} {x : Str} (a : N[i]? = some x) (b : N[j]? = some x) : i = j := by
 obtain ⟨h1, e1⟩ := List.getElem?_eq_some_iff.mp a
 obtain ⟨h2, e2⟩ := List.getElem?_eq_some_iff.mp b
 exact (List.getElem_inj hN).mp (e1.trans e2.symm)
theorem store_ok2 {M : Model} {A : Around} {E : Value -> Shared -> Prop} {i : Nat} {x : Str} {v : V} {u : Value} {Q : Unit -> Shared -> Prop} (I : Inv X pins σ H s) (hN : X.N.Nodup) (hi : X.N[i]? = some x) (hx : Loc X.env.scope x) (r : RelV v u)
  (h : ∀ s', Inv X pins (σ.set i (some v)) H s' -> (∃ a, Heap.SameBut a s.heap s'.heap /\ (a = X.env.locals \/ X.env.cells.lookup x = some a)) -> Q () s') (hf : X.fn x = true \/ X.env.scope.names.lookup x = some .local := by first | exact .inl rfl | exact .inr rfl | assumption) : wpAny M A (storeName X.env x u) Q E s := by
 obtain ⟨m, hn, hl⟩ := id I.loc
 have hcls : (X.env.scope.kind == .class || (X.env.scope.kind == .module && X.env.locals != X.env.globals)) = false := by rw [I.ok.kind]; rfl
 have hiσ : i < σ.length := by rw [I.len]; exact (List.getElem?_eq_some_iff.mp hi).1
 have cne := I.cne
 have tracked : ∀ {a : Addr} {h' : Heap}, (∃ o, s.heap.get? a = some o /\ H a = none) -> Heap.SameBut a s.heap h' -> HOk X.prog X.w H h' := fun {a h'} ha hs b ob e => by
  obtain ⟨_, _, hfree⟩ := ha
  refine (I.hok b ob e).stay (fun c w' hc q => (hs.2 c ?_).trans q) (fun _ q => q) fun _ _ q => q
  rintro rfl
  rcases hc with rfl | hc
  ·rw [hfree] at e; cases e
  ·rw [hfree] at hc; cases hc
 rcases hx with hk | hk
 ·refine wpAny_storeName_local hk hn (fun h' hn' hs => ?_) hcls
  obtain ⟨oL, _, _, hoL, _⟩ := id hn
  refine h _ ⟨I.ok, I.os, I.bare, ⟨fun b o e n hb hx => ?_, fun b o e n hb hx => ?_, I.base.free, fun b o e hx => ?_, I.base.tups, I.base.frzs, I.base.tbls⟩, ⟨_, hn', fun j y v' e1 e2 e3 => ?_⟩, fun y c e => ?_, I.free, I.freeC, fun p hp => ?_, tracked ⟨oL, hoL, I.free⟩ hs, by simpa using I.len⟩ ⟨_, hs, .inl rfl⟩
  ·exact (hs.2 b (Nat.ne_of_lt (Nat.lt_of_lt_of_le (Heap.lt_size e) I.ok.above))).trans (I.base.keep b o e n hb hx)
  ·obtain ⟨sl, e1⟩ := I.base.slot b o e n hb hx
   exact ⟨sl, (hs.2 b (Nat.ne_of_lt (Nat.lt_of_lt_of_le (Heap.lt_size e) I.ok.above))).trans e1⟩
  ·obtain ⟨o', e1⟩ := I.base.there b o e hx
   exact ⟨o', (hs.2 b (Nat.ne_of_lt (Nat.lt_of_lt_of_le (Heap.lt_size e) I.ok.above))).trans e1⟩
  ·by_cases hj : j = i
   ·subst hj
    rw [hi] at e1; cases e1
    rw [List.getElem?_set_self hiσ] at e2
    cases e2
    exact ⟨u, r, .inl ⟨hk, by simp⟩⟩
   ·rw [List.getElem?_set_ne (Ne.symm hj)] at e2
    obtain ⟨u', r', q⟩ := hl j y v' e1 e2 e3
    refine ⟨u', r', ?_⟩
    rcases q with ⟨k, e⟩ | ⟨k, c, e, z⟩
    ·refine .inl ⟨k, ?_⟩
     have : y ≠ x := fun e => hj (nodup_ix hN e1 (e ▸ hi))
     simp [this, e]
    ·exact .inr ⟨k, c, e, z.sameBut hs (cne y c e)⟩
  ·obtain ⟨w', z⟩ := I.cell y c e
   exact ⟨w', z.sameBut hs (cne y c e)⟩
  ·obtain ⟨e, n, ne, nf, d⟩ := I.pin p hp
   exact ⟨(hs.2 p.1 ne).trans e, n, ne, nf, d⟩
 ·have hfn : X.fn x = true := by
   rcases hf with z | z
   ·exact z
   ·rw [z] at hk; cases hk
  obtain ⟨c, hc⟩ := I.ok.has x (.inl hk)
  obtain ⟨w', z⟩ := I.cell x c hc
  refine wpAny_storeName_cell I.ok.kind hk hc z (fun h' hc' hs => ?_)
  obtain ⟨oc, hoc, hocd⟩ := id z
  refine h { s with heap := h' } ⟨I.ok, I.os, I.bare, ⟨fun b o e n hb hx => ?_, fun b o e n hb hx => ?_, I.base.free, fun b o e hx => ?_, I.base.tups, I.base.frzs, I.base.tbls⟩, ⟨m, hn.sameBut hs (Ne.symm (cne x c hc)), fun j y v' e1 e2 e3 => ?_⟩, fun y c' e => ?_, I.free, I.freeC, fun p hp => ?_, tracked ⟨oc, hoc, I.freeC x c hc⟩ hs, by simpa using I.len⟩ ⟨c, hs, .inr hc⟩
  ·exact (hs.2 b (Nat.ne_of_lt (Nat.lt_of_lt_of_le (Heap.lt_size e) (I.ok.cab x c hfn hc)))).trans (I.base.keep b o e n hb hx)
  ·obtain ⟨sl, e1⟩ := I.base.slot b o e n hb hx
   exact ⟨sl, (hs.2 b (Nat.ne_of_lt (Nat.lt_of_lt_of_le (Heap.lt_size e) (I.ok.cab x c hfn hc)))).trans e1⟩
  ·obtain ⟨o', e1⟩ := I.base.there b o e hx
   exact ⟨o', (hs.2 b (Nat.ne_of_lt (Nat.lt_of_lt_of_le (Heap.lt_size e) (I.ok.cab x c hfn hc)))).trans e1⟩
  ·by_cases hj : j = i
   ·subst hj
    rw [hi] at e1; cases e1
    rw [List.getElem?_set_self hiσ] at e2
    cases e2
    exact ⟨u, r, .inr ⟨.inl hk, c, hc, hc'⟩⟩
   ·rw [List.getElem?_set_ne (Ne.symm hj)] at e2
    obtain ⟨u', r', q⟩ := hl j y v' e1 e2 e3
    refine ⟨u', r', ?_⟩
    rcases q with q | ⟨k, c', e, z'⟩
    ·exact .inl q
    ·refine .inr ⟨k, c', e, z'.sameBut hs ?_⟩
     rintro rfl
     exact hj (nodup_ix hN e1 (I.ok.inj _ _ _ e hc ▸ hi))
  ·by_cases hcc : c' = c
   ·subst hcc; exact ⟨_, hc'⟩
   ·obtain ⟨w2, z2⟩ := I.cell y c' e
    exact ⟨w2, z2.sameBut hs hcc⟩
  ·obtain ⟨e, n, ne, nf, d⟩ := I.pin p hp
   refine ⟨(hs.2 p.1 ?_).trans e, n, ne, nf, d⟩
   intro q
   rw [q, hoc] at e
   have q' : oc = p.2 := Option.some.inj e
   exact d w' (by rw [<- q']; exact hocd)
theorem store_ok {M : Model} {A : Around} {E : Value -> Shared -> Prop} {i : Nat} {x : Str} {v : V} {u : Value} {Q : Unit -> Shared -> Prop} (I : Inv X pins σ H s) (hN : X.N.Nodup) (hi : X.N[i]? = some x) (hx : Loc X.env.scope x) (r : RelV v u)
  (h : ∀ s', Inv X pins (σ.set i (some v)) H s' -> Q () s') (hf : X.fn x = true \/ X.env.scope.names.lookup x = some .local := by first | exact .inl rfl | exact .inr rfl | assumption) : wpAny M A (storeName X.env x u) Q E s :=
 store_ok2 I hN hi hx r (fun s' I' _ => h s' I') hf
theorem Inv.call' {s' : Shared} {ch : List Addr} (I : Inv X pins σ H s) (ho : s'.os = s.os) (u : Un (frs X.stack) ch H H' s.heap s'.heap) (hok : HOk X.prog X.w H' s'.heap) (hg : AllBare s'.gens)
  (hch : ∀ b ∈ ch, (b ∈ X.ex \/ X.s₀.heap.objs.size <= b) /\ b ≠ X.env.locals /\ (∀ x c, X.env.cells.lookup x = some c -> c ≠ b) /\ ∀ p ∈ X.pn ++ pins, p.1 ≠ b) : Inv X pins σ H' s' := by
 obtain ⟨h', g', d', t', o'⟩ := s'
 have e : o' = s.os := ho
 subst e
 exact I.call (g' := g') (t' := t') (d' := d') u hok hg hch
end
abbrev XK := Value -> Option Addr -> Hp -> Prop
abbrev St := List (Option V)
abbrev VK := V -> Hp -> Prop
abbrev TE := St -> Hp -> VK -> Prop
abbrev TT := St -> Hp -> (Bool -> Hp -> Prop) -> Prop
abbrev TA := St -> Hp -> (List V -> Hp -> Prop) -> Prop
structure Ends where
 nx : St -> Hp -> Prop
 rt : VK
 bk : St -> Hp -> Prop := fun _ _ => False
 ct : St -> Hp -> Prop := fun _ _ => False
abbrev TS := Ends -> St -> Hp -> Prop
def EP (X : Cx) (pins : List (Addr × Obj)) (σ : St) (Q : VK) (u : Value) (s' : Shared) : Prop := ∃ v H', Inv X pins σ H' s' /\ RelV v u /\ Q v H'
def TP (X : Cx) (pins : List (Addr × Obj)) (σ : St) (Q : Bool -> Hp -> Prop) (b : Bool) (s' : Shared) : Prop := ∃ H', Inv X pins σ H' s' /\ Q b H'
def AP (X : Cx) (pins : List (Addr × Obj)) (σ : St) (Q : List V -> Hp -> Prop) (us : List Value) (s' : Shared) : Prop := ∃ vs H', Inv X pins σ H' s' /\ Vals vs us /\ Q vs H'
def SP (X : Cx) (pins : List (Addr × Obj)) (D : Ends) (f : Flow) (s' : Shared) : Prop :=
 match f with
 | .next => ∃ σ' H', Inv X pins σ' H' s' /\ D.nx σ' H'
 | .brk => ∃ σ' H', Inv X pins σ' H' s' /\ D.bk σ' H'
 | .cont => ∃ σ' H', Inv X pins σ' H' s' /\ D.ct σ' H'
 | .ret u => ∃ v σ' H', Inv X pins σ' H' s' /\ RelV v u /\ D.rt v H'
def PE (X : Cx) (e : Expr) (t : TE) : Prop :=
 ∀ (pins : List (Addr × Obj)) (s : Shared) (σ : St) (H : Hp) (Q : VK), Inv X pins σ H s -> t σ H Q -> wpAny (model X.prog X.w) X.A (eval e X.env) (EP X pins σ Q) X.xe s
def PT (X : Cx) (e : Expr) (t : TT) : Prop :=
 ∀ (pins : List (Addr × Obj)) (s : Shared) (σ : St) (H : Hp) (Q : Bool -> Hp -> Prop), Inv X pins σ H s -> t σ H Q -> wpAny (model X.prog X.w) X.A (isTrue e X.env (eval e X.env)) (TP X pins σ Q) X.xe s
def PW (X : Cx) (e : Expr) (t : TT) : Prop :=
 ∀ (whole : Sem Value) (pins : List (Addr × Obj)) (s : Shared) (σ : St) (H : Hp) (Q : Bool -> Hp -> Prop), Inv X pins σ H s -> t σ H Q -> wpAny (model X.prog X.w) X.A (isTrue e X.env whole) (TP X pins σ Q) X.xe s
theorem PW.pt {X : Cx} {e : Expr} {t : TT} (h : PW X e t) : PT X e t := h _
def PA (X : Cx) (es : List Expr) (t : TA) : Prop :=
 ∀ (pos : Pos) (pins : List (Addr × Obj)) (s : Shared) (σ : St) (H : Hp) (Q : List V -> Hp -> Prop), Inv X pins σ H s -> t σ H Q -> wpAny (model X.prog X.w) X.A (spliced (backTo pos (starEach es X.env))) (AP X pins σ Q) X.xe s
def PS (X : Cx) (st : Stmt) (t : TS) : Prop :=
 ∀ (pins : List (Addr × Obj)) (s : Shared) (σ : St) (H : Hp) (D : Ends), Inv X pins σ H s -> t D σ H -> wpAny (model X.prog X.w) X.A (exec st X.env) (SP X pins D) X.xe s
def PSs (X : Cx) (st : List Stmt) (t : TS) : Prop :=
 ∀ (pins : List (Addr × Obj)) (s : Shared) (σ : St) (H : Hp) (D : Ends), Inv X pins σ H s -> t D σ H -> wpAny (model X.prog X.w) X.A (execs st X.env) (SP X pins D) X.xe s
theorem thn {α : Type} {t : Sem α} {Q Q' : α -> Shared -> Prop} {M : Model} {A : Around} {E : Value -> Shared -> Prop} {s : Shared} (h : wpAny M A t Q E s) (hQ : ∀ a s, Q a s -> Q' a s) : wpAny M A t Q' E s := wpAny_mono h hQ fun _ _ x => x
section
variable {X : Cx}
def tVar (i : Nat) : TE := fun σ H Q => ∃ v, σ[i]? = some (some v) /\ Q v H
def tC (v : V) : TE := fun _ H Q => Q v H
theorem pe_var {i : Nat} {x : Str} {pos : Pos} (hN : X.N[i]? = some x) (hv : Vis X.env.scope x) (hd : (x == ("__debug__" : Str)) = false := by decide) (hcd : (x == ("__classdict__" : Str)) = false := by decide) : PE X (.Name x pos) (tVar i) := by
 intro pins s σ H Q I h
 obtain ⟨v, e, h⟩ := h
 obtain ⟨m, hn, hl⟩ := I.loc
 obtain ⟨u, r, l⟩ := hl i x v hN e hv
 have fin : EP X pins σ Q u s := ⟨v, H, I, r, h⟩
 rcases l with ⟨hk, hm⟩ | ⟨hk, c, hc, hcell⟩
 ·exact wpAny_Name (wpAny_loadName_local I.ok.kind hk hn hm fin) hd
 ·rcases hk with hk | hk
  ·exact wpAny_Name (wpAny_loadName_cell I.ok.kind hk hc hcell fin) hd
  ·exact wpAny_Name (wpAny_loadName_free I.ok.kind hk hc hcell fin hcd) hd
theorem pe_int {i j pos} : PE X (.Constant (.int i) j pos) (tC (.int i)) := fun _ _ _ H _ I h => wpAny_Constant_int ⟨.int i, H, I.tok _, ⟨_, rfl⟩, h⟩
theorem pe_bl {b j pos} : PE X (.Constant (.bool b) j pos) (tC (.bl b)) := fun _ _ _ H _ I h => Constant_bool ⟨.bl b, H, I, rfl, h⟩
theorem pe_str {x j pos} : PE X (.Constant (.str x) j pos) (tC (.str x)) := fun _ _ _ H _ I h => Calls.Constant_str ⟨.str x, H, I.tok _, ⟨_, rfl⟩, h⟩
def Gl (X : Cx) (x : Str) : Prop := X.env.kindOf x = some .globalImplicit
theorem ld_glob {E : Value -> Shared -> Prop} {pins : List (Addr × Obj)} {s : Shared} {σ : St} {H : Hp} {x : Str} {u : Value} {pos : Pos} {Q : Value -> Shared -> Prop} (I : Inv X pins σ H s) (hg : Gl X x) (hm : X.mg x = some u) (h : Q u s)
  (hd : (x == ("__debug__" : Str)) = false := by decide) : wpAny (model X.prog X.w) X.A (eval (.Name x pos) X.env) Q E s :=
 Calls.Name_function_global I.ok.kind hg (Calls.loadGlobal_global (by rw [I.ok.glob]; exact I.mod.glob.keeps I.bk) hm h) hd
theorem ld_blt {E : Value -> Shared -> Prop} {pins : List (Addr × Obj)} {s : Shared} {σ : St} {H : Hp} {x : Str} {u : Value} {pos : Pos} {Q : Value -> Shared -> Prop} (I : Inv X pins σ H s) (hg : Gl X x) (hm : X.mg x = none) (hv : bootBuiltins x = some u) (h : Q u s)
  (hn : x ≠ "__name__" := by decide) (hd : (x == ("__debug__" : Str)) = false := by decide) : wpAny (model X.prog X.w) X.A (eval (.Name x pos) X.env) Q E s := by
 obtain ⟨mb, h1, h2⟩ := I.mod.blt
 exact Calls.Name_function_global I.ok.kind hg (Calls.loadGlobal_builtin (by rw [I.ok.glob]; exact I.mod.glob.keeps I.bk) hm (by rw [I.ok.blt]; exact h1.keeps I.bk) ((h2 x hn).trans hv) h) hd
theorem pe_glob {x : Str} {v : V} {u : Value} {pos : Pos} (hg : Gl X x) (hm : X.mg x = some u) (r : RelV v u) (hd : (x == ("__debug__" : Str)) = false := by decide) : PE X (.Name x pos) (tC v) :=
 fun _ _ _ H _ I h => ld_glob I hg hm ⟨v, H, I, r, h⟩ hd
theorem pe_bltn {x : Str} {v : V} {u : Value} {pos : Pos} (hg : Gl X x) (hm : X.mg x = none) (hv : bootBuiltins x = some u) (r : RelV v u) (hn : x ≠ "__name__" := by decide) (hd : (x == ("__debug__" : Str)) = false := by decide) : PE X (.Name x pos) (tC v) :=
 fun _ _ _ H _ I h => ld_blt I hg hm hv ⟨v, H, I, r, h⟩ hn hd
variable {a b : Expr} {ta tb : TE} {pos : Pos}
def PC (X : Cx) (op : CmpOp) (a b : Expr) (t : TE) : Prop :=
 ∀ (pins : List (Addr × Obj)) (s : Shared) (σ : St) (H : Hp) (Q : VK), Inv X pins σ H s -> t σ H Q ->
  wpAny (model X.prog X.w) X.A (eval a X.env) (fun v s₁ => wpAny (model X.prog X.w) X.A (eval b X.env) (fun u s₂ => wpAny (model X.prog X.w) X.A (compareOp op v u) (EP X pins σ Q) X.xe s₂) X.xe s₁) X.xe s
theorem nobehind (b : Expr) {op : CmpOp} (h : op ≠ .In) (h2 : op ≠ .NotIn) : behindInMarks op b = false := by
 have e1 : (op == CmpOp.In) = false := by cases op <;> first | rfl | exact absurd rfl h
 have e2 : (op == CmpOp.NotIn) = false := by cases op <;> first | rfl | exact absurd rfl h2
 cases b <;> simp [behindInMarks, e1, e2]
def tIsN (ta : TE) : TE := fun σ H Q => ta σ H fun x H1 => Q (.bl (decide (x = .non))) H1
def tNotN (ta : TE) : TE := fun σ H Q => ta σ H fun x H1 => Q (.bl (!decide (x = .non))) H1
theorem RelV.none_iff {x : V} {v : Value} (r : RelV x v) : (v == Value.none) = decide (x = .non) := by
 cases x with
 | non => cases r; rfl
 | bl _ => cases r; rfl
 | int _ => obtain ⟨t, rfl⟩ := r; rfl
 | str _ => obtain ⟨t, rfl⟩ := r; rfl
 | byt _ => obtain ⟨t, rfl⟩ := r; rfl
 | flt _ => obtain ⟨t, rfl⟩ := r; rfl
 | ref _ => cases r; rfl
 | ty _ => cases r; rfl
theorem pc_isN {j pos'} (ha : PE X a ta) : PC X .Is a (.Constant .none j pos') (tIsN ta) := by
 intro pins s σ H Q I h
 refine thn (ha pins s σ H _ I h) fun v s1 ⟨x, H1, I1, r1, q1⟩ => ?_
 exact Constant_none (is_none_gen ⟨.bl _, H1, I1, by rw [r1.none_iff]; rfl, q1⟩)
theorem pc_notN {j pos'} (ha : PE X a ta) : PC X .IsNot a (.Constant .none j pos') (tNotN ta) := by
 intro pins s σ H Q I h
 refine thn (ha pins s σ H _ I h) fun v s1 ⟨x, H1, I1, r1, q1⟩ => ?_
 exact Constant_none (isnot_none_gen ⟨.bl _, H1, I1, by rw [r1.none_iff]; rfl, q1⟩)
def tB (t : TE) : TT := fun σ H Q => t σ H fun x H1 => ∃ c, x = .bl c /\ Q c H1
theorem pt_cmp {op : CmpOp} {t : TE} (h : PC X op a b t) (h1 : behindInMarks op b = false := by first | exact nobehind _ (by decide) (by decide) | rfl) : PT X (.Compare a [op] [b] pos) (tB t) := by
 intro pins s σ H Q I hw
 refine wpAny_isTrue_Compare1 (thn (h pins s σ H _ I hw) fun v s1 h1 => thn h1 fun u s2 h2 => thn h2 fun c s3 ⟨x, H1, I1, r1, q1⟩ => ?_) h1
 obtain ⟨d, rfl, q⟩ := q1
 cases r1
 exact wpAny_truthy_bool ⟨H1, I1, q⟩
theorem pt_val {e : Expr} {t : TE} (h : PE X e t) (he : ∀ whole, isTrue e X.env whole = (do let v <- whole; standAt e.pos; holding [v] (truthy v)) := by intro _; rfl) : PT X e (tB t) := by
 intro pins s σ H Q I hw
 refine isTrue_plain (thn (h pins s σ H _ I hw) fun v s1 ⟨x, H1, I1, r1, q1⟩ => ?_) (he _)
 obtain ⟨d, rfl, q⟩ := q1
 cases r1
 exact wpAny_truthy_bool ⟨H1, I1, q⟩
variable {tA tB' : TT} {rest : List Expr}
def tAnd (t u : TT) : TT := fun σ H Q => t σ H fun c H1 => if c = true then u σ H1 Q else Q false H1
def tOr (t u : TT) : TT := fun σ H Q => t σ H fun c H1 => if c = true then Q true H1 else u σ H1 Q
def tNot (t : TT) : TT := fun σ H Q => t σ H fun c H1 => Q (!c) H1
theorem pw_and1 (ha : PT X a tA) : PW X (.BoolOp .And [a] pos) tA := by
 intro wh pins s σ H Q I h
 refine isTrue_and (thn (ha pins s σ H Q I h) fun c s1 e => ?_)
 cases c with
 | true => exact isTrue_and_nil e
 | false => exact e
theorem pw_or1 (ha : PT X a tA) : PW X (.BoolOp .Or [a] pos) tA := by
 intro wh pins s σ H Q I h
 refine isTrue_or (thn (ha pins s σ H Q I h) fun c s1 e => ?_)
 cases c with
 | false => exact isTrue_or_nil e
 | true => exact e
theorem pw_and (ha : PT X a tA) (hb : PW X (.BoolOp .And (b :: rest) pos) tB') : PW X (.BoolOp .And (a :: b :: rest) pos) (tAnd tA tB') := by
 intro wh pins s σ H Q I h
 refine isTrue_and (thn (ha pins s σ H _ I h) fun c s1 ⟨H1, I1, q1⟩ => ?_)
 cases c with
 | true => exact hb wh pins s1 σ H1 Q I1 q1
 | false => exact ⟨H1, I1, q1⟩
theorem pw_or (ha : PT X a tA) (hb : PW X (.BoolOp .Or (b :: rest) pos) tB') : PW X (.BoolOp .Or (a :: b :: rest) pos) (tOr tA tB') := by
 intro wh pins s σ H Q I h
 refine isTrue_or (thn (ha pins s σ H _ I h) fun c s1 ⟨H1, I1, q1⟩ => ?_)
 cases c with
 | true => exact ⟨H1, I1, q1⟩
 | false => exact hb wh pins s1 σ H1 Q I1 q1
theorem pt_not (ha : PT X a tA) : PT X (.UnaryOp .Not a pos) (tNot tA) := by
 intro pins s σ H Q I h
 exact isTrue_not (ha pins s σ H (fun c H1 => Q (!c) H1) I h)
def tAndV (ta tb : TE) : TE := fun σ H Q => ta σ H fun x H1 => ∃ c, x = .bl c /\ if c = true then tb σ H1 Q else Q (.bl false) H1
def tOrV (ta tb : TE) : TE := fun σ H Q => ta σ H fun x H1 => ∃ c, x = .bl c /\ if c = true then Q (.bl true) H1 else tb σ H1 Q
def tNotV (ta : TE) : TE := fun σ H Q => ta σ H fun x H1 => ∃ c, x = .bl c /\ Q (.bl (!c)) H1
theorem pe_one {op} {t : TE} (h : PE X a t) : PE X (.BoolOp op [a] pos) t := fun pins s σ H Q I hw => BoolOp_one (h pins s σ H Q I hw)
theorem pe_and (ha : PE X a ta) (hb : PE X (.BoolOp .And (b :: rest) pos) tb) : PE X (.BoolOp .And (a :: b :: rest) pos) (tAndV ta tb) := by
 intro pins s σ H Q I h
 refine BoolOp_and (thn (ha pins s σ H _ I h) fun v s1 ⟨x, H1, I1, r1, q1⟩ => ?_)
 obtain ⟨c, rfl, q1⟩ := q1
 cases r1
 refine wpAny_truthy_bool ?_
 cases c with
 | true => exact hb pins s1 σ H1 Q I1 q1
 | false => exact ⟨.bl false, H1, I1, rfl, q1⟩
theorem pe_or (ha : PE X a ta) (hb : PE X (.BoolOp .Or (b :: rest) pos) tb) : PE X (.BoolOp .Or (a :: b :: rest) pos) (tOrV ta tb) := by
 intro pins s σ H Q I h
 refine BoolOp_or (thn (ha pins s σ H _ I h) fun v s1 ⟨x, H1, I1, r1, q1⟩ => ?_)
 obtain ⟨c, rfl, q1⟩ := q1
 cases r1
 refine wpAny_truthy_bool ?_
 cases c with
 | false => exact hb pins s1 σ H1 Q I1 q1
 | true => exact ⟨.bl true, H1, I1, rfl, q1⟩
theorem pe_not (ha : PE X a ta) : PE X (.UnaryOp .Not a pos) (tNotV ta) := by
 intro pins s σ H Q I h
 refine UnaryOp_ (thn (ha pins s σ H _ I h) fun v s1 ⟨x, H1, I1, r1, q1⟩ => ?_)
 obtain ⟨c, rfl, q1⟩ := q1
 cases r1
 exact not_of (wpAny_truthy_bool ⟨.bl (!c), H1, I1, rfl, q1⟩)
def tIf (t : TT) (ta tb : TE) : TE := fun σ H Q => t σ H fun c H1 => if c = true then ta σ H1 Q else tb σ H1 Q
theorem pe_ifExp {c : Expr} (hc : PT X c tA) (ha : PE X a ta) (hb : PE X b tb) : PE X (.IfExp c a b pos) (tIf tA ta tb) := by
 intro pins s σ H Q I h
 refine wpAny_IfExp (thn (hc pins s σ H _ I h) fun d s1 ⟨H1, I1, q1⟩ => ?_)
 cases d with
 | true => exact ha pins s1 σ H1 Q I1 q1
 | false => exact hb pins s1 σ H1 Q I1 q1
end
def SqL (K : PySem.W.Frag) (H : Hp) (a : Addr) (xs : List V) : Prop :=
 Rd H a (.lst xs) \/
  ∃ (o : Obj) (its : Array Value) (n : Nat), K.lookup a = some o /\ o.cls = .type "list" /\ o.dict = none /\ o.data = .seq its n /\ its.size <= sizeLine /\ Vals xs its.toList
def SqT (K : PySem.W.Frag) (H : Hp) (a : Addr) (xs : List V) : Prop :=
 Rd H a (.tup xs) \/
  ∃ (o : Obj) (its : Array Value) (n : Nat), K.lookup a = some o /\ o.cls = .type "tuple" /\ o.data = .seq its n /\ its.size <= sizeLine /\ Vals xs its.toList
def absV : Value -> Option V
 | .none => some .non
 | .bool b => some (.bl b)
 | .int i _ => some (.int i)
 | .str x _ => some (.str x)
 | .bytes b _ => some (.byt b)
 | .float b _ => some (.flt b)
 | .ref a => some (.ref a)
 | .type n => some (.ty n)
 | _ => none
theorem RelV.abs {x : V} {u : Value} (r : RelV x u) : absV u = some x := by
 cases x with
 | non => cases r; rfl
 | bl _ => cases r; rfl
 | int _ => obtain ⟨t, rfl⟩ := r; rfl
 | str _ => obtain ⟨t, rfl⟩ := r; rfl
 | byt _ => obtain ⟨t, rfl⟩ := r; rfl
 | flt _ => obtain ⟨t, rfl⟩ := r; rfl
 | ref _ => cases r; rfl
 | ty _ => cases r; rfl
theorem RelV.inj {x y : V} {u : Value} (r : RelV x u) (q : RelV y u) : x = y := Option.some.inj (r.abs.symm.trans q.abs)
theorem Vals.inj : ∀ {xs ys : List V} {us : List Value}, Vals xs us -> Vals ys us -> xs = ys
 | _, _, _, .nil, .nil => rfl
 | _, _, _, .cons r t, .cons r' t' => by rw [r.inj r', Vals.inj t t']
section
variable {X : Cx} {pins : List (Addr × Obj)} {σ : St} {H : Hp} {s : Shared} {a : Addr} {xs ys : List V}
theorem SqL.of {K : PySem.W.Frag} (h : H a = some (.lst xs)) : SqL K H a xs := .inl (.inl h)
theorem SqT.of {K : PySem.W.Frag} (h : H a = some (.tup xs)) : SqT K H a xs := .inl (.inl h)
theorem Inv.list (I : Inv X pins σ H s) (h : SqL X.K H a xs) : ∃ its : List Value, Vals xs its /\ PlainL s.heap a its.toArray /\ xs.length <= sizeLine := by
 rcases h with h | ⟨o, its, n, hk, hc, hd, hs, hz, r⟩
 ·obtain ⟨z, its, n, r, e⟩ := h.ok I.hok
  exact ⟨its, r, ⟨_, n, e, rfl, rfl, rfl⟩, z⟩
 ·refine ⟨its.toList, r, ⟨o, n, I.kIn a o hk, hc, hd, by simpa using hs⟩, ?_⟩
  have e := r.length
  simp only [Array.length_toList] at e
  omega
theorem Inv.tuple (I : Inv X pins σ H s) (h : SqT X.K H a xs) : ∃ its : List Value, Vals xs its /\ IsTup s.heap a its.toArray /\ xs.length <= sizeLine := by
 rcases h with h | ⟨o, its, n, hk, hc, hs, hz, r⟩
 ·obtain ⟨z, its, r, p⟩ := h.ok I.hok
  exact ⟨its, r, p, z⟩
 ·refine ⟨its.toList, r, ⟨o, I.kIn a o hk, hc, n, by simpa using hs⟩, ?_⟩
  have e := r.length
  simp only [Array.length_toList] at e
  omega
theorem Inv.list_inj (I : Inv X pins σ H s) (h : SqL X.K H a xs) (h' : SqL X.K H a ys) : xs = ys := by
 obtain ⟨its, r, ⟨o, n, e, _, _, d⟩, _⟩ := I.list h
 obtain ⟨its', r', ⟨o', n', e', _, _, d'⟩, _⟩ := I.list h'
 rw [e] at e'; cases e'
 rw [d] at d'
 injection d' with d1 _
 have : its = its' := by simpa using congrArg Array.toList d1
 subst this
 exact r.inj r'
theorem Inv.tuple_inj (I : Inv X pins σ H s) (h : SqT X.K H a xs) (h' : SqT X.K H a ys) : xs = ys := by
 obtain ⟨its, r, ⟨o, e, _, n, d⟩, _⟩ := I.tuple h
 obtain ⟨its', r', ⟨o', e', _, n', d'⟩, _⟩ := I.tuple h'
 rw [e] at e'; cases e'
 rw [d] at d'
 injection d' with d1 _
 have : its = its' := by simpa using congrArg Array.toList d1
 subst this
 exact r.inj r'
end
abbrev Cx.wish (X : Cx) (E : Value -> Shared -> Prop) : Cx := { X with xe := E }
abbrev Cx.nox (X : Cx) : Cx := X.wish fun _ _ => False
theorem Cx.Ok.wish {X : Cx} (ok : X.Ok) (E : Value -> Shared -> Prop) : (X.wish E).Ok :=
 ⟨ok.mod, ok.kind, ok.glob, ok.blt, ok.above, ok.inj, ok.has, ok.cab, ok.hd, ok.frames, ok.stk, ok.exf, ok.bs, ok.bsz, ok.noex, ok.exfs, ok.funs, ok.frf⟩
theorem Cx.Ok.unwish {X : Cx} {E : Value -> Shared -> Prop} (ok : (X.wish E).Ok) : X.Ok :=
 ⟨ok.mod, ok.kind, ok.glob, ok.blt, ok.above, ok.inj, ok.has, ok.cab, ok.hd, ok.frames, ok.stk, ok.exf, ok.bs, ok.bsz, ok.noex, ok.exfs, ok.funs, ok.frf⟩
section
variable {X : Cx} {pins : List (Addr × Obj)} {σ : St} {H : Hp} {s : Shared} {E : Value -> Shared -> Prop}
theorem Inv.wish (I : Inv X pins σ H s) (E : Value -> Shared -> Prop) : Inv (X.wish E) pins σ H s := ⟨I.ok.wish E, I.os, I.bare, I.base, I.loc, I.cell, I.free, I.freeC, I.pin, I.hok, I.len⟩
theorem Inv.unwish (I : Inv (X.wish E) pins σ H s) : Inv X pins σ H s := ⟨I.ok.unwish, I.os, I.bare, I.base, I.loc, I.cell, I.free, I.freeC, I.pin, I.hok, I.len⟩
theorem SP.unwish {D : Ends} {f : Flow} {s' : Shared} (h : SP (X.wish E) pins D f s') : SP X pins D f s' := by
 cases f with
 | next => obtain ⟨σ', H', I, q⟩ := h; exact ⟨σ', H', I.unwish, q⟩
 | brk => obtain ⟨σ', H', I, q⟩ := h; exact ⟨σ', H', I.unwish, q⟩
 | cont => obtain ⟨σ', H', I, q⟩ := h; exact ⟨σ', H', I.unwish, q⟩
 | ret u => obtain ⟨v, σ', H', I, r, q⟩ := h; exact ⟨v, σ', H', I.unwish, r, q⟩
theorem PE.nox {e : Expr} {t : TE} (h : PE X.nox e t) : PE X e t := fun pins s σ H Q I hw =>
 wpAny_mono (h pins s σ H Q (I.wish _) hw) (fun _ _ ⟨v, H', I', r, q⟩ => ⟨v, H', I'.unwish, r, q⟩) fun _ _ z => False.elim z
theorem PT.nox {e : Expr} {t : TT} (h : PT X.nox e t) : PT X e t := fun pins s σ H Q I hw =>
 wpAny_mono (h pins s σ H Q (I.wish _) hw) (fun _ _ ⟨H', I', q⟩ => ⟨H', I'.unwish, q⟩) fun _ _ z => False.elim z
theorem PSs.nox {st : List Stmt} {t : TS} (h : PSs X.nox st t) : PSs X st t := fun pins s σ H D I hw =>
 wpAny_mono (h pins s σ H D (I.wish _) hw) (fun _ _ q => q.unwish) fun _ _ z => False.elim z
end
section
variable {X : Cx} {st : Stmt} {rest : List Stmt} {t u : TS} {e : Expr} {te : TE} {pos : Pos}
def tNext : TS := fun D σ H => D.nx σ H
def tSeq (t u : TS) : TS := fun D σ H => t { D with nx := u D } σ H
theorem pss_nil : PSs X [] tNext := fun _ _ σ H _ I h => wpAny_execs_nil ⟨σ, H, I, h⟩
theorem pss_cons (h1 : PS X st t) (h2 : PSs X rest u) : PSs X (st :: rest) (tSeq t u) := by
 intro pins s σ H D I h
 refine wpAny_execs_cons (thn (h1 pins s σ H { D with nx := u D } I h) fun f s1 q => ?_)
 cases f with
 | next =>
  obtain ⟨σ', H', I', q⟩ := q
  exact h2 pins s1 σ' H' D I' q
 | ret v => exact q
 | brk => exact q
 | cont => exact q
theorem pss_one (h1 : PS X st t) : PSs X [st] t := by
 intro pins s σ H D I h
 refine wpAny_execs_cons (thn (h1 pins s σ H D I h) fun f s1 q => ?_)
 cases f with
 | next => exact wpAny_execs_nil q
 | ret v => exact q
 | brk => exact q
 | cont => exact q
theorem Inv.quiet {pins : List (Addr × Obj)} {σ : St} {H : Hp} {s : Shared} (I : Inv X pins σ H s) : interactive X.env = false := by simp [interactive, I.ok.kind]
def tDrop (te : TE) : TS := fun D σ H => te σ H fun _ H1 => D.nx σ H1
theorem ps_expr (he : PE X e te) (hs : swapsWith e none pos.line X.env = pure false := by rfl) : PS X (.Expr e pos) (tDrop te) := by
 intro pins s σ H D I h
 exact wpAny_Expr_any (thn (he pins s σ H _ I h) fun v s1 ⟨x, H1, I1, r1, q1⟩ => ⟨σ, H1, I1, q1⟩) I.quiet hs
def tRet (te : TE) : TS := fun D σ H => te σ H D.rt
theorem ps_ret (he : PE X e te) : PS X (.Return (some e) pos) (tRet te) := by
 intro pins s σ H D I h
 exact wpAny_Return_some (thn (he pins s σ H _ I h) fun v s1 ⟨x, H1, I1, r1, q1⟩ => ⟨x, σ, H1, I1, r1, q1⟩)
def tIfS (c : TT) (t u : TS) : TS := fun D σ H => c σ H fun b H1 => if b = true then t D σ H1 else u D σ H1
theorem ps_if {c : Expr} {a b : List Stmt} {tc : TT} (hc : PT X c tc) (ha : PSs X a t) (hb : PSs X b u) : PS X (.If c a b pos) (tIfS tc t u) := by
 intro pins s σ H D I h
 refine wpAny_If (thn (hc pins s σ H _ I h) fun d s1 ⟨H1, I1, q1⟩ => ?_)
 cases d with
 | true => exact ha pins s1 σ H1 D I1 q1
 | false => exact hb pins s1 σ H1 D I1 q1
def tNever : TS := fun _ _ _ => False
theorem ps_never : PS X st tNever := fun _ _ _ _ _ _ h => h.elim
end
abbrev TG := V -> St -> Hp -> (St -> Hp -> Prop) -> Prop
abbrev TGs := List V -> St -> Hp -> (St -> Hp -> Prop) -> Prop
def PG (X : Cx) (target : Expr) (t : TG) : Prop :=
 ∀ (pins : List (Addr × Obj)) (s : Shared) (σ : St) (H : Hp) (v : V) (u : Value) (Q : St -> Hp -> Prop), Inv X pins σ H s -> RelV v u -> t v σ H Q ->
  wpAny (model X.prog X.w) X.A (assign target X.env u) (fun _ s' => ∃ σ' H', Inv X pins σ' H' s' /\ Q σ' H') X.xe s
def PGs (X : Cx) (ts : List Expr) (t : TGs) : Prop :=
 ∀ (pins : List (Addr × Obj)) (s : Shared) (σ : St) (H : Hp) (vs : List V) (us : List Value) (Q : St -> Hp -> Prop), Inv X pins σ H s -> Vals vs us -> t vs σ H Q ->
  wpAny (model X.prog X.w) X.A (assignInOrder ((assignEach ts X.env).map (·.2)) us) (fun _ s' => ∃ σ' H', Inv X pins σ' H' s' /\ Q σ' H') X.xe s
abbrev TIp := V -> V -> Hp -> VK -> Prop
def PIp (X : Cx) (op : Operator) (t : TIp) : Prop :=
 ∀ (pins : List (Addr × Obj)) (s : Shared) (σ : St) (H : Hp) (x y : V) (v u : Value) (Q : VK), Inv X pins σ H s -> RelV x v -> RelV y u -> t x y H Q ->
  wpAny (model X.prog X.w) X.A (inplaceOp op v u) (EP X pins σ Q) X.xe s
section
variable {X : Cx} {pos : Pos}
def gName (i : Nat) : TG := fun v σ H Q => Q (σ.set i (some v)) H
theorem pg_name {i : Nat} {x : Str} (hN : X.N.Nodup) (hi : X.N[i]? = some x) (hx : Loc X.env.scope x) (hf : X.fn x = true \/ X.env.scope.names.lookup x = some .local := by first | exact .inl rfl | exact .inr rfl | assumption) : PG X (.Name x pos) (gName i) := by
 intro pins s σ H v u Q I r h
 exact wpAny_assign_Name (store_ok I hN hi hx r (fun s' I' => ⟨_, H, I', h⟩) hf)
def gNil : TGs := fun vs σ H Q => vs = [] /\ Q σ H
def gCons (t : TG) (u : TGs) : TGs := fun vs σ H Q => ∃ v r, vs = v :: r /\ t v σ H fun σ' H' => u r σ' H' Q
theorem pgs_nil : PGs X [] gNil := by
 intro pins s σ H vs us Q I r h
 obtain ⟨e, h⟩ := h
 subst e
 cases r
 exact assignInOrder_nil ⟨σ, H, I, h⟩
theorem pgs_cons {e : Expr} {es : List Expr} {t : TG} {u : TGs} (h1 : PG X e t) (h2 : PGs X es u)
  (hs : (assignEach (e :: es) X.env).map (·.2) = assign e X.env :: (assignEach es X.env).map (·.2) := by rfl) : PGs X (e :: es) (gCons t u) := by
 intro pins s σ H vs us Q I r h
 obtain ⟨v, vr, e1, h⟩ := h
 subst e1
 cases r with
 | cons r rr =>
  rw [hs]
  refine assignInOrder_cons (thn (h1 pins s σ H _ _ _ I r h) fun _ s1 ⟨σ1, H1, I1, q1⟩ => ?_)
  exact h2 pins s1 σ1 H1 _ _ Q I1 rr q1
def gTup (K : PySem.W.Frag) (n : Nat) (t : TGs) : TG := fun v σ H Q => ∃ a xs, v = .ref a /\ SqT K H a xs /\ xs.length = n /\ t xs σ H Q
theorem pg_tup {es : List Expr} {k : Nat} {t : TGs} {n : Nat} (hc : X.calm = true) (h : PGs X es t)
  (hn : (assignEach es X.env).length = n := by rfl) (hst : (assignEach es X.env).findIdx? (·.1) = none := by rfl) : PG X (.Tuple es k pos) (gTup X.K n t) := by
 intro pins s σ H v u Q I r hw
 obtain ⟨a, xs, e1, hq, hl, hw⟩ := hw
 subst e1
 cases r
 obtain ⟨its, rv, ht, hz⟩ := I.tuple hq
 refine assign_Tuple_tuple (I.ok.hd hc) ht (by simp [hn, <- hl, rv.length]) hst fun h' hx => ?_
 have I1 : Inv X pins σ H { s with heap := h' } := I.kept (t' := s.toks) fun b o e => hx b o (Nat.ne_of_lt (Heap.lt_size e)) e
 exact h pins _ σ H xs _ Q I1 (by simpa using rv) hw
def tAsg (te : TE) (g : TG) : TS := fun D σ H => te σ H fun x H1 => g x σ H1 D.nx
theorem ps_set {i : Nat} {x : Str} {e : Expr} {te : TE} {pos' : Pos} (hN : X.N.Nodup) (hi : X.N[i]? = some x) (hx : Loc X.env.scope x) (he : PE X e te) (hs : swapsWith e (some (.Name x pos')) pos.line X.env = pure false := by rfl) (hf : X.fn x = true \/ X.env.scope.names.lookup x = some .local := by first | exact .inl rfl | exact .inr rfl | assumption) :
  PS X (.Assign [.Name x pos'] e pos) (tAsg te (gName i)) := by
 intro pins s σ H D I h
 refine wpAny_Assign_Name (thn (he pins s σ H _ I h) fun v s1 ⟨y, H1, I1, r1, q1⟩ => ?_) hs
 exact store_ok I1 hN hi hx r1 (fun s2 I2 => ⟨_, H1, I2, q1⟩) hf
def tAug (i : Nat) (te : TE) (ti : TIp) : TS := fun D σ H => ∃ x, σ[i]? = some (some x) /\ te σ H fun y H1 => ti x y H1 fun z H2 => D.nx (σ.set i (some z)) H2
theorem ps_aug {i : Nat} {x : Str} {e : Expr} {te : TE} {op : Operator} {ti : TIp} {pos' : Pos} (hN : X.N.Nodup) (hi : X.N[i]? = some x) (hx : Loc X.env.scope x) (he : PE X e te) (ho : PIp X op ti) (hf : X.fn x = true \/ X.env.scope.names.lookup x = some .local := by first | exact .inl rfl | exact .inr rfl | assumption) :
  PS X (.AugAssign (.Name x pos') op e pos) (tAug i te ti) := by
 intro pins s σ H D I h
 obtain ⟨v, e1, h⟩ := h
 obtain ⟨m, hn, hl⟩ := I.loc
 have vis : Vis X.env.scope x := by rcases hx with k | k; exact .inl k; exact .inr (.inl k)
 obtain ⟨u, r, l⟩ := hl i x v hi e1 vis
 refine wpAny_AugAssign_Name ?_
 have go : wpAny (model X.prog X.w) X.A (eval e X.env) (fun w s₂ => wpAny (model X.prog X.w) X.A (inplaceOp op u w) (fun r s₃ => wpAny (model X.prog X.w) X.A (storeName X.env x r) (fun _ => SP X pins D .next) X.xe s₃) X.xe s₂) X.xe s := by
  refine thn (he pins s σ H _ I h) fun w s1 ⟨y, H1, I1, r1, q1⟩ => ?_
  refine thn (ho pins s1 σ H1 v y u w _ I1 r r1 q1) fun z s2 ⟨zv, H2, I2, r2, q2⟩ => ?_
  exact store_ok I2 hN hi hx r2 (fun s3 I3 => ⟨_, H2, I3, q2⟩) hf
 rcases l with ⟨hk, hm⟩ | ⟨hk, c, hc, hcell⟩
 ·exact wpAny_loadName_local I.ok.kind hk hn hm go
 ·rcases hk with hk | hk
  ·exact wpAny_loadName_cell I.ok.kind hk hc hcell go
  ·rcases hx with k | k
   ·have : X.env.scope.names.lookup x = some .free := hk
    rw [k] at this; cases this
   ·have : X.env.scope.names.lookup x = some .free := hk
    rw [k] at this; cases this
def ipI (f : Int -> Int -> Int) : TIp := fun x y H Q => ∃ i j, x = .int i /\ y = .int j /\ Q (.int (f i j)) H
theorem ip_add : PIp X .Add (ipI fun i j => i + j) := by
 intro pins s σ H x y v u Q I r1 r2 h
 obtain ⟨i, j, e1, e2, q⟩ := h
 subst e1; subst e2
 obtain ⟨t, rfl⟩ := r1
 obtain ⟨t', rfl⟩ := r2
 exact iadd_int ⟨.int _, H, I.tok _, ⟨_, rfl⟩, q⟩
end
section
variable {X : Cx} {pos : Pos}
def tWhile (c : TT) (tb : TS) : TS := fun D σ H => ∃ W : Nat -> St -> Hp -> Prop, (∃ m, W m σ H) /\ ∀ m σ H, W m σ H ->
 c σ H fun b H1 => if b = true then ∃ N : St -> Hp -> Prop, (∀ σ' H', N σ' H' -> ∃ m', m' < m /\ W m' σ' H') /\ tb { D with nx := N, ct := N, bk := D.nx } σ H1 else D.nx σ H1
theorem ps_while {c : Expr} {body : List Stmt} {tc : TT} {tb : TS} (hp : PassesOwn (model X.prog X.w) X.A X.env X.xe) (hc : PT X c tc) (hb : PSs X body tb) : PS X (.While c body [] pos) (tWhile tc tb) := by
 intro pins s σ H D I h
 obtain ⟨W, ⟨m0, w0⟩, turn⟩ := h
 refine wpAny_While (codeAny_whileLoop (fun n s' => ∃ σ' H', Inv X pins σ' H' s' /\ W n σ' H') ?_ m0 ⟨σ, H, I, w0⟩)
 rintro n s1 ⟨σ1, H1, I1, w1⟩
 refine wpAny_passesOwn hp (thn (hc pins s1 σ1 H1 _ I1 (turn n σ1 H1 w1)) fun b s2 ⟨H2, I2, q2⟩ => ?_)
 cases b with
 | true =>
  obtain ⟨N, hN, q2⟩ := q2
  rw [if_pos rfl]
  refine wpAny_passesOwn hp (thn (hb pins s2 σ1 H2 _ I2 q2) fun f s3 q3 => ?_)
  cases f with
  | next =>
   obtain ⟨σ3, H3, I3, n3⟩ := q3
   obtain ⟨m', hm, w3⟩ := hN σ3 H3 n3
   exact ⟨m', hm, σ3, H3, I3, w3⟩
  | cont =>
   obtain ⟨σ3, H3, I3, n3⟩ := q3
   obtain ⟨m', hm, w3⟩ := hN σ3 H3 n3
   exact ⟨m', hm, σ3, H3, I3, w3⟩
  | brk => exact q3
  | ret v => exact q3
 | false =>
  rw [if_neg Bool.false_ne_true]
  exact wpAny_execs_nil ⟨σ1, H2, I2, q2⟩
end
structure It where
 go : Nat -> Hp -> Prop
 yld : Nat -> Hp -> V -> Hp -> Prop
 stop : Nat -> Hp -> Prop
def FpOk (X : Cx) (pins : List (Addr × Obj)) (H : Hp) (b : Addr) : Prop :=
 H b = none /\ b ≠ X.env.locals /\ b ∉ X.fs /\ (b ∈ X.ex \/ X.s₀.heap.objs.size <= b) /\ (∀ x c, X.env.cells.lookup x = some c -> c ≠ b) /\ ∀ p ∈ X.pn ++ pins, p.1 ≠ b
theorem Inv.fpOk {X : Cx} {pins : List (Addr × Obj)} {σ : St} {H H' : Hp} {s : Shared} {b : Addr} (I : Inv X pins σ H s) (hb : s.heap.objs.size <= b) (hn : H' b = none) : FpOk X pins H' b := by
 refine ⟨hn, Nat.ne_of_gt (Nat.lt_of_lt_of_le I.lt hb), I.nofs hb, .inr (Nat.le_trans I.sz hb), fun x c e z => ?_, fun p hp z => ?_⟩
 ·obtain ⟨v, q⟩ := I.cell x c e
  exact absurd (Nat.lt_of_lt_of_le q.lt (by rw [z]; exact hb)) (Nat.lt_irrefl _)
 ·exact absurd (Nat.lt_of_lt_of_le (Heap.lt_size (I.pin p hp).1) (by rw [z]; exact hb)) (Nat.lt_irrefl _)
structure Turn (P : Program) (w : World) (K : PySem.W.Frag) (tg : Expr) (J : It) (fp : List Addr) (it : Addr) (tn : Nat -> Heap -> Prop) : Prop where
 mem : it ∈ fp
 obj : ∀ i h, tn i h -> ∀ b ∈ fp, ∃ o, h.get? b = some o /\ ∀ v, o.data ≠ .cell v
 keep : ∀ i h h', tn i h -> (∀ b ∈ fp, ∀ o, h.get? b = some o -> h'.get? b = some o) -> tn i h'
 item : ∀ (X : Cx), X.prog = P -> X.w = w -> X.K = K -> X.calm = true -> ∀ (i : Nat) (pins : List (Addr × Obj)) (s : Shared) (σ : St) (H : Hp) (E : Value -> Shared -> Prop), Inv X pins σ H s -> (∀ b ∈ fp, FpOk X pins H b) -> tn i s.heap -> J.go i H ->
  wpAny (model P w) X.A (pyNext (.ref it)) (fun r s1 => ∃ u, r = some u /\
   wpAny (model P w) X.A (letOwnedTupleGo tg (.ref it) u) (fun _ s2 => ∃ x H', Inv X pins σ H' s2 /\ RelV x u /\ J.yld i H x H' /\ tn (i + 1) s2.heap /\ ∀ b ∈ fp, H' b = none) E s1) E s
 done : ∀ (X : Cx), X.prog = P -> X.w = w -> X.K = K -> X.calm = true -> ∀ (i : Nat) (pins : List (Addr × Obj)) (s : Shared) (σ : St) (H : Hp) (E : Value -> Shared -> Prop), Inv X pins σ H s -> (∀ b ∈ fp, FpOk X pins H b) -> tn i s.heap -> J.stop i H ->
  wpAny (model P w) X.A (pyNext (.ref it)) (fun r s1 => r = none /\ Inv X pins σ H s1) E s
 self : ∀ (A : Around) (i : Nat) (s : Shared) (Q : Value -> Shared -> Prop) (E : Value -> Shared -> Prop), tn i s.heap -> Q (.ref it) s -> wpAny (model P w) A (pyIter (.ref it)) Q E s
abbrev TI := St -> Hp -> (It -> Hp -> Prop) -> Prop
def PIE (X : Cx) (pins : List (Addr × Obj)) (σ : St) (tg : Expr) (R : It -> Hp -> Prop) (itv : Value) (s2 : Shared) : Prop :=
 ∃ (it : Addr) (fp : List Addr) (tn : Nat -> Heap -> Prop) (J : It) (H' : Hp), itv = .ref it /\ Inv X pins σ H' s2 /\ Turn X.prog X.w X.K tg J fp it tn /\ tn 0 s2.heap /\ (∀ b ∈ fp, FpOk X pins H' b) /\ R J H'
def PI (X : Cx) (tg iter : Expr) (wi : TI) : Prop :=
 ∀ (pins : List (Addr × Obj)) (s : Shared) (σ : St) (H : Hp) (R : It -> Hp -> Prop), Inv X pins σ H s -> wi σ H R ->
  wpAny (model X.prog X.w) X.A (eval iter X.env) (fun v s1 => wpAny (model X.prog X.w) X.A (pyIter v) (PIE X pins σ tg R) X.xe s1) X.xe s
theorem go_of {M : Model} {A : Around} {E : Value -> Shared -> Prop} {s : Shared} {tg : Expr} {it : Addr} {u : Value} {o : Obj} {n : String} {vs : Array Value} {Q : Unit -> Shared -> Prop} (ho : s.heap.get? it = some o) (hc : o.cls = .type n) (hd : o.data = .fields vs)
  (hn : ["enumerate", "zip", "dict_itemiterator", "dict_reverseitemiterator", "odict_iterator", "itertools.zip_longest", "itertools.pairwise"].contains n = false) (hQ : Q () s) : wpAny M A (letOwnedTupleGo tg (.ref it) u) Q E s := by
 unfold letOwnedTupleGo
 cases tg <;> first
  | exact wpAny_pure hQ
  | (cases u <;> first
    | exact wpAny_pure hQ
    | (refine wpAny_bind (wpAny_load ho ?_)
       rw [hc, hd]
       show wpAny M A (if (["enumerate", "zip", "dict_itemiterator", "dict_reverseitemiterator", "odict_iterator", "itertools.zip_longest", "itertools.pairwise"].contains n && vs[0]? == some (rawInt _)) = true then _ else _) Q E s
       rw [if_neg (by intro h; rw [hn, Bool.false_and] at h; cases h)]
       exact wpAny_pure hQ))
def Itl (K : PySem.W.Frag) (a : Addr) : It :=
 ⟨fun i H => ∃ xs x, SqL K H a xs /\ xs[i]? = some x, fun i H x H' => H' = H /\ ∀ xs, SqL K H a xs -> xs[i]? = some x, fun i H => ∃ xs, SqL K H a xs /\ xs.length <= i⟩
def Itt (K : PySem.W.Frag) (a : Addr) : It :=
 ⟨fun i H => ∃ xs x, SqT K H a xs /\ xs[i]? = some x, fun i H x H' => H' = H /\ ∀ xs, SqT K H a xs -> xs[i]? = some x, fun i H => ∃ xs, SqT K H a xs /\ xs.length <= i⟩
def Itr (lo : Int) (n : Nat) : It := ⟨fun i _ => i < n, fun i H x H' => H' = H /\ x = .int (lo + i), fun i _ => n <= i⟩
theorem turn_list {P : Program} {w : World} {K : PySem.W.Frag} {tg : Expr} (a it : Addr) : Turn P w K tg (Itl K a) [it] it (fun i h => h.IsListIter it a i) where
 mem := by simp
 obj := fun i h st b hb => by
  have e : b = it := by simpa using hb
  subst e
  obtain ⟨o, e, c, d⟩ := st
  exact ⟨o, e, fun v z => by rw [d] at z; cases z⟩
 keep := fun i h h' st k => st.at fun o e => k it (by simp) o e
 item := by
  intro X hP hw hK hc i pins s σ H E I hf st hg
  subst hP hw hK
  obtain ⟨xs, x, hq, hx⟩ := hg
  obtain ⟨its, rv, p, hz⟩ := I.list hq
  obtain ⟨u, hu, ru⟩ := rv.get hx
  obtain ⟨f0, f1, f2, f3, f4, f5⟩ := hf it (by simp)
  refine wpAny_pyNext_list_item st p.isList (x := u) (by simpa using hu) fun h' st' sb => ?_
  have I1 : Inv X pins σ H { s with heap := h' } := I.turned (t' := s.toks) (fun b o hb e => (sb.2 b hb).trans e) f0 f1 f3 f4 f5
  obtain ⟨o, e, c, d⟩ := id st'
  exact ⟨u, rfl, go_of (s := { s with heap := h' }) e c d (by decide) ⟨x, H, I1, ru, ⟨rfl, fun ys hy => by rw [I.list_inj hy hq]; exact hx⟩, st', fun b hb => (hf b hb).1⟩⟩
 done := by
  intro X hP hw hK hc i pins s σ H E I hf st hg
  subst hP hw hK
  obtain ⟨xs, hq, hx⟩ := hg
  obtain ⟨its, rv, p, hz⟩ := I.list hq
  obtain ⟨f0, f1, f2, f3, f4, f5⟩ := hf it (by simp)
  have hl := rv.length
  exact wpAny_pyNext_list_end (I.ok.hd hc) st p.isList (by simp; omega) fun h' eb => ⟨rfl, I.turned (t' := s.toks) (fun b o hb e => eb b o hb e) f0 f1 f3 f4 f5⟩
 self := fun _ _ _ _ _ st h => wpAny_pyIter_listiter st h
theorem turn_tuple {P : Program} {w : World} {K : PySem.W.Frag} {tg : Expr} (a it : Addr) : Turn P w K tg (Itt K a) [it] it (fun i h => h.IsTupleIter it a i) where
 mem := by simp
 obj := fun i h st b hb => by
  have e : b = it := by simpa using hb
  subst e
  obtain ⟨o, e, c, d⟩ := st
  exact ⟨o, e, fun v z => by rw [d] at z; cases z⟩
 keep := fun i h h' st k => st.at fun o e => k it (by simp) o e
 item := by
  intro X hP hw hK hc i pins s σ H E I hf st hg
  subst hP hw hK
  obtain ⟨xs, x, hq, hx⟩ := hg
  obtain ⟨its, rv, p, hz⟩ := I.tuple hq
  obtain ⟨u, hu, ru⟩ := rv.get hx
  obtain ⟨f0, f1, f2, f3, f4, f5⟩ := hf it (by simp)
  refine wpAny_pyNext_tuple_item st (show s.heap.IsTuple a its.toArray from p) (x := u) (by simpa using hu) fun h' st' sb => ?_
  have I1 : Inv X pins σ H { s with heap := h' } := I.turned (t' := s.toks) (fun b o hb e => (sb.2 b hb).trans e) f0 f1 f3 f4 f5
  obtain ⟨o, e, c, d⟩ := id st'
  exact ⟨u, rfl, go_of (s := { s with heap := h' }) e c d (by decide) ⟨x, H, I1, ru, ⟨rfl, fun ys hy => by rw [I.tuple_inj hy hq]; exact hx⟩, st', fun b hb => (hf b hb).1⟩⟩
 done := by
  intro X hP hw hK hc i pins s σ H E I hf st hg
  subst hP hw hK
  obtain ⟨xs, hq, hx⟩ := hg
  obtain ⟨its, rv, p, hz⟩ := I.tuple hq
  obtain ⟨f0, f1, f2, f3, f4, f5⟩ := hf it (by simp)
  have hl := rv.length
  exact wpAny_pyNext_tuple_end (I.ok.hd hc) st (show s.heap.IsTuple a its.toArray from p) (by simp; omega) fun h' eb => ⟨rfl, I.turned (t' := s.toks) (fun b o hb e => eb b o hb e) f0 f1 f3 f4 f5⟩
 self := fun _ _ _ _ _ st h => wpAny_pyIter_tupleiter st h
theorem turn_range {P : Program} {w : World} {K : PySem.W.Frag} {tg : Expr} (it : Addr) (lo : Int) (n : Nat) : Turn P w K tg (Itr lo n) [it] it (fun i h => IsRangeIter h it (lo + (i : Nat) * 1) ((n : Int) - (i : Nat)) 1) where
 mem := by simp
 obj := fun i h st b hb => by
  have e : b = it := by simpa using hb
  subst e
  exact ⟨_, st, fun v z => by
   have z' : Data.fields _ = Data.cell v := z
   cases z'⟩
 keep := fun i h h' st k => k it (by simp) _ st
 item := by
  intro X hP hw hK hc i pins s σ H E I hf st hg
  subst hP hw hK
  obtain ⟨f0, f1, f2, f3, f4, f5⟩ := hf it (by simp)
  have W := Walks.range (prog := X.prog) (w := X.w) (I.ok.hd hc) it lo 1 n
  refine W.item i s _ _ hg st fun v h' tk hv st' kk => ?_
  obtain ⟨t, rfl⟩ := hv
  have I1 : Inv X pins σ H { s with heap := h', toks := tk } := I.turned (fun b o hb e => kk b o (by simpa using hb) e) f0 f1 f3 f4 f5
  refine ⟨_, rfl, go_of (s := { s with heap := h', toks := tk }) (n := "range_iterator") st' rfl rfl (by decide) ⟨.int (lo + i), H, I1, ⟨t, ?_⟩, ⟨rfl, rfl⟩, st', fun b hb => (hf b hb).1⟩⟩
  rw [Int.mul_one]
 done := by
  intro X hP hw hK hc i pins s σ H E I hf st hg
  subst hP hw hK
  obtain ⟨f0, f1, f2, f3, f4, f5⟩ := hf it (by simp)
  exact wpAny_pyNext_range_end (I.ok.hd hc) st (by have : n <= i := hg; omega) fun h' eb => ⟨rfl, I.turned (t' := s.toks) (fun b o hb e => eb b o hb e) f0 f1 f3 f4 f5⟩
 self := fun _ _ _ _ _ st h => wpAny_pyIter_rangeiter st h
section
variable {X : Cx} {tg : Expr}
def iList (K : PySem.W.Frag) (tl : TE) : TI := fun σ H R => tl σ H fun x H1 => ∃ a, x = .ref a /\ (∃ xs, SqL K H1 a xs) /\ R (Itl K a) H1
def iTup (K : PySem.W.Frag) (tl : TE) : TI := fun σ H R => tl σ H fun x H1 => ∃ a, x = .ref a /\ (∃ xs, SqT K H1 a xs) /\ R (Itt K a) H1
theorem pi_list {l : Expr} {tl : TE} (hl : PE X l tl) : PI X tg l (iList X.K tl) := by
 intro pins s σ H R I h
 refine thn (hl pins s σ H _ I h) fun v s1 ⟨x, H1, I1, r1, q1⟩ => ?_
 obtain ⟨a, e, ⟨xs, hq⟩, q⟩ := q1
 subst e
 cases r1
 obtain ⟨its, rv, p, hz⟩ := I1.list hq
 refine wpAny_pyIter_list p.isList ?_
 refine ⟨s1.heap.objs.size, [s1.heap.objs.size], _, _, H1, rfl, I1.kept (t' := s1.toks) fun b o e => Heap.get?_push_of_some _ e, turn_list a _, ⟨_, Heap.get?_push_size _ rfl, rfl, rfl⟩, fun b hb => ?_, q⟩
 have e : b = s1.heap.objs.size := by simpa using hb
 subst e
 exact I1.fpOk (Nat.le_refl _) (I1.hok.fresh (Nat.le_refl _))
theorem pi_tup {l : Expr} {tl : TE} (hl : PE X l tl) : PI X tg l (iTup X.K tl) := by
 intro pins s σ H R I h
 refine thn (hl pins s σ H _ I h) fun v s1 ⟨x, H1, I1, r1, q1⟩ => ?_
 obtain ⟨a, e, ⟨xs, hq⟩, q⟩ := q1
 subst e
 cases r1
 obtain ⟨its, rv, p, hz⟩ := I1.tuple hq
 refine wpAny_pyIter_tuple (show s1.heap.IsTuple a its.toArray from p) ?_
 refine ⟨s1.heap.objs.size, [s1.heap.objs.size], _, _, H1, rfl, I1.kept (t' := s1.toks) fun b o e => Heap.get?_push_of_some _ e, turn_tuple a _, ⟨_, Heap.get?_push_size _ rfl, rfl, rfl⟩, fun b hb => ?_, q⟩
 have e : b = s1.heap.objs.size := by simpa using hb
 subst e
 exact I1.fpOk (Nat.le_refl _) (I1.hok.fresh (Nat.le_refl _))
theorem range_it {pins : List (Addr × Obj)} {σ : St} {H : Hp} {s : Shared} {R : It -> Hp -> Prop} {E : Value -> Shared -> Prop} {lo hi : Int} {t u v : Tok} {tk : Nat} (I : Inv X pins σ H s) (h1 : -(2 ^ 62) <= lo) (h2 : lo < 2 ^ 62) (h3 : -(2 ^ 62) <= hi) (h4 : hi < 2 ^ 62)
  (q : R (Itr lo (hi - lo).toNat) H) : wpAny (model X.prog X.w) X.A (pyIter (.ref s.heap.objs.size)) (PIE X pins σ tg R) E { s with heap := s.heap.push { cls := .type "range", data := .fields #[.int lo t, .int hi u, .int 1 v] }, toks := tk } := by
 refine wpAny_pyIter_range (IsRange.new ..) (small_one h1 h2 h3 h4) ?_
 have I1 : Inv X pins σ H { s with heap := s.heap.push { cls := .type "range", data := .fields #[.int lo t, .int hi u, .int 1 v] }, toks := tk } := I.kept fun b o e => Heap.get?_push_of_some _ e
 refine ⟨(s.heap.push { cls := .type "range", data := .fields #[.int lo t, .int hi u, .int 1 v] }).objs.size, [(s.heap.push { cls := .type "range", data := .fields #[.int lo t, .int hi u, .int 1 v] }).objs.size], _, _, H, rfl,
  I1.kept (t' := tk) fun b o e => Heap.get?_push_of_some _ e, turn_range _ lo (hi - lo).toNat, ?_, fun b hb => ?_, q⟩
 ·have e1 : lo + ((0 : Nat) : Int) * 1 = lo := by simp
  have e2 : (((hi - lo).toNat : Nat) : Int) - ((0 : Nat) : Int) = Builtin.Range.rangeSize lo hi 1 := by rw [rangeSize_one]; split <;> omega
  show IsRangeIter _ _ (lo + ((0 : Nat) : Int) * 1) ((((hi - lo).toNat : Nat) : Int) - ((0 : Nat) : Int)) 1
  rw [e1, e2]
  exact Heap.get?_push_size _ rfl
 ·have e : b = (s.heap.push { cls := .type "range", data := .fields #[.int lo t, .int hi u, .int 1 v] }).objs.size := by simpa using hb
  subst e
  exact I1.fpOk (Nat.le_refl _) (I1.hok.fresh (Nat.le_refl _))
def iRng1 (ta : TA) : TI := fun σ H R => ta σ H fun vs H1 => ∃ j : Int, vs = [.int j] /\ -(2 ^ 62) <= j /\ j < 2 ^ 62 /\ R (Itr 0 j.toNat) H1
theorem pi_range1 {a : Expr} {ta : TA} {p pos : Pos} (hg : Gl X "range") (hm : X.mg "range" = none) (ha : PA X [a] ta) (hs : starEach [a] X.env = [(false, eval a X.env)] := by rfl) : PI X tg (.Call (.Name "range" p) [a] [] pos) (iRng1 ta) := by
 intro pins s σ H R I h
 refine Call_ (ld_blt I hg hm boot_range (PyProof.Rows.callWith_type1 (thn (ha pos pins s σ H _ I h) fun us s1 ⟨vs, H1, I1, r1, q1⟩ => ?_) hs rfl))
 obtain ⟨j, e, q1, q2, q⟩ := q1
 subst e
 cases r1 with
 | cons r rr =>
  cases rr
  obtain ⟨t, rfl⟩ := r
  exact call_range_1 (range_it I1 (by omega) (by omega) q1 q2 (by simpa using q))
def tFor (wi : TI) (g : TG) (tb : TS) : TS := fun D σ H => wi σ H fun J H1 => ∃ W : Nat -> Nat -> St -> Hp -> Prop, (∃ m, W 0 m σ H1) /\ ∀ i m σ H, W i m σ H ->
 (J.stop i H /\ D.nx σ H) \/ (J.go i H /\ ∃ N : St -> Hp -> Prop, (∀ σ' H', N σ' H' -> ∃ m', m' < m /\ W (i + 1) m' σ' H') /\ ∀ x H', J.yld i H x H' -> g x σ H' fun σ2 H2 => tb { D with nx := N, ct := N, bk := D.nx } σ2 H2)
def pinsAt (fp : List Addr) (h : Heap) : List (Addr × Obj) := fp.filterMap fun b => (h.get? b).map fun o => (b, o)
theorem mem_pinsAt {fp : List Addr} {h : Heap} {b : Addr} {o : Obj} (hb : b ∈ fp) (e : h.get? b = some o) : (b, o) ∈ pinsAt fp h := List.mem_filterMap.mpr ⟨b, hb, by rw [e]; rfl⟩
theorem of_pinsAt {fp : List Addr} {h : Heap} {p : Addr × Obj} (hp : p ∈ pinsAt fp h) : p.1 ∈ fp /\ h.get? p.1 = some p.2 := by
 obtain ⟨b, hb, e⟩ := List.mem_filterMap.mp hp
 cases q : h.get? b with
 | none => rw [q] at e; cases e
 | some o =>
  rw [q] at e
  have e' : (b, o) = p := Option.some.inj e
  subst e'
  exact ⟨hb, q⟩
theorem Inv.pinned {pins : List (Addr × Obj)} {σ : St} {H : Hp} {s : Shared} {fp : List Addr} (I : Inv X pins σ H s) (hf : ∀ b ∈ fp, FpOk X pins H b) (ho : ∀ b ∈ fp, ∃ o, s.heap.get? b = some o /\ ∀ v, o.data ≠ .cell v) : Inv X (pins ++ pinsAt fp s.heap) σ H s :=
 I.pins_of fun p hp => (List.mem_append.mp hp).elim (fun z => I.pin p (List.mem_append_right _ z)) fun z => by
  obtain ⟨hb, e⟩ := of_pinsAt z
  obtain ⟨f0, f1, f2, _⟩ := hf p.1 hb
  obtain ⟨o, e', d⟩ := ho p.1 hb
  rw [e] at e'; cases e'
  exact ⟨e, f0, f1, f2, d⟩
theorem Inv.unpinned {pins pl : List (Addr × Obj)} {σ : St} {H : Hp} {s : Shared} (I : Inv X (pins ++ pl) σ H s) : Inv X pins σ H s := I.pins_of fun p hp => I.pin p (List.mem_append_right _ (List.mem_append_left _ hp))
theorem ps_for {iter : Expr} {body : List Stmt} {wi : TI} {g : TG} {tb : TS} {pos : Pos} (hp : PassesOwn (model X.prog X.w) X.A X.env X.xe) (hc : X.calm = true) (hi : PI X tg iter wi) (hg : PG X tg g) (hb : PSs X body tb)
  (hs : ∀ x, foldedSetIterable iter X.env x = pure x := by intro _; rfl) : PS X (.For tg iter body [] pos) (tFor wi g tb) := by
 intro pins s σ H D I h
 refine wpAny_For (thn (hi pins s σ H _ I h) fun v s1 h1 => thn h1 fun itv s2 h2 => ?_) hs
 obtain ⟨it, fp, tn, J, H2, e, I2, T, st2, f2, W, ⟨m0, w0⟩, turn⟩ := h2
 subst e
 have stat : ∀ {H' : Hp}, (∀ b ∈ fp, H' b = none) -> ∀ b ∈ fp, FpOk X pins H' b := fun hn b hb => ⟨hn b hb, (f2 b hb).2⟩
 refine codeAny_forLoop_any (fun n s' => ∃ i σ' H', Inv X pins σ' H' s' /\ tn i s'.heap /\ (∀ b ∈ fp, H' b = none) /\ W i n σ' H') ?_ m0 ⟨0, σ, H2, I2, st2, fun b hb => (f2 b hb).1, w0⟩
 rintro n s3 ⟨i, σ3, H3, I3, st3, fr3, w3⟩
 rcases turn i n σ3 H3 w3 with ⟨stop, qn⟩ | ⟨go, N, hN, step⟩
 ·refine wpAny_passesOwn hp (thn (T.done X rfl rfl rfl hc i pins s3 σ3 H3 X.xe I3 (stat fr3) st3 stop) fun r s4 ⟨hr, I4⟩ => ?_)
  subst hr
  exact wpAny_execs_nil ⟨σ3, H3, I4, qn⟩
 ·refine wpAny_passesOwn hp (thn (T.item X rfl rfl rfl hc i pins s3 σ3 H3 X.xe I3 (stat fr3) st3 go) fun r s4 ⟨u, hr, h4⟩ => ?_)
  subst hr
  refine wpAny_passesOwn hp (thn h4 fun _ s5 ⟨x, H5, I5, r5, y5, st5, fr5⟩ => ?_)
  have I5' := I5.pinned (stat fr5) (T.obj _ _ st5)
  refine wpAny_passesOwn hp (thn (hg _ s5 σ3 H5 x u _ I5' r5 (step x H5 y5)) fun _ s6 ⟨σ6, H6, I6, q6⟩ => ?_)
  refine wpAny_passesOwn hp (thn (hb _ s6 σ6 H6 _ I6 q6) fun f s7 q7 => ?_)
  have again : ∀ {σ7 : St} {H7 : Hp}, Inv X (pins ++ pinsAt fp s5.heap) σ7 H7 s7 -> N σ7 H7 -> ∃ m, m < n /\ ∃ i σ' H', Inv X pins σ' H' s7 /\ tn i s7.heap /\ (∀ b ∈ fp, H' b = none) /\ W i m σ' H' := fun {σ7 H7} I7 n7 => by
   obtain ⟨m', hm, w7⟩ := hN σ7 H7 n7
   refine ⟨m', hm, i + 1, σ7, H7, I7.unpinned, T.keep _ _ _ st5 fun b hb o e => (I7.pin (b, o) (List.mem_append_right _ (List.mem_append_right _ (mem_pinsAt hb e)))).1, fun b hb => ?_, w7⟩
   obtain ⟨o, e, d⟩ := T.obj _ _ st5 b hb
   exact (I7.pin (b, o) (List.mem_append_right _ (List.mem_append_right _ (mem_pinsAt hb e)))).2.1
  cases f with
  | next => obtain ⟨σ7, H7, I7, n7⟩ := q7; exact again I7 n7
  | cont => obtain ⟨σ7, H7, I7, n7⟩ := q7; exact again I7 n7
  | brk => obtain ⟨σ7, H7, I7, q7⟩ := q7; exact ⟨σ7, H7, I7.unpinned, q7⟩
  | ret v => obtain ⟨x7, σ7, H7, I7, r7, q7⟩ := q7; exact ⟨x7, σ7, H7, I7.unpinned, r7, q7⟩
end
theorem for_list {K : PySem.W.Frag} {a : Addr} {xs : List V} {g : TG} {tb : TS} {D : Ends} {σ : St} {H : Hp} (Pv : Nat -> St -> Hp -> Prop) (h0 : Pv 0 σ H) (hl : ∀ i σ H, i <= xs.length -> Pv i σ H -> SqL K H a xs)
  (hs : ∀ i x σ H, xs[i]? = some x -> Pv i σ H -> g x σ H fun σ2 H2 => tb { D with nx := Pv (i + 1), ct := Pv (i + 1), bk := D.nx } σ2 H2) (hd : ∀ σ H, Pv xs.length σ H -> D.nx σ H) :
  ∃ W : Nat -> Nat -> St -> Hp -> Prop, (∃ m, W 0 m σ H) /\ ∀ i m σ H, W i m σ H ->
   ((Itl K a).stop i H /\ D.nx σ H) \/ ((Itl K a).go i H /\ ∃ N : St -> Hp -> Prop, (∀ σ' H', N σ' H' -> ∃ m', m' < m /\ W (i + 1) m' σ' H') /\ ∀ x H', (Itl K a).yld i H x H' -> g x σ H' fun σ2 H2 => tb { D with nx := N, ct := N, bk := D.nx } σ2 H2) := by
 refine ⟨fun i m σ H => m = xs.length - i /\ i <= xs.length /\ Pv i σ H, ⟨xs.length, by simp, Nat.zero_le _, h0⟩, ?_⟩
 rintro i m σ H ⟨rfl, hi, p⟩
 have q := hl i σ H hi p
 by_cases hlt : i < xs.length
 ·refine .inr ⟨⟨xs, xs[i], q, by simp [hlt]⟩, Pv (i + 1), fun σ' H' p' => ⟨xs.length - (i + 1), by omega, rfl, hlt, p'⟩, fun x H' y => ?_⟩
  obtain ⟨e, y⟩ := y
  subst e
  exact hs i x σ _ (y xs q) p
 ·have e : i = xs.length := by omega
  subst e
  exact .inl ⟨⟨xs, q, Nat.le_refl _⟩, hd σ H p⟩
theorem for_tup {K : PySem.W.Frag} {a : Addr} {xs : List V} {g : TG} {tb : TS} {D : Ends} {σ : St} {H : Hp} (Pv : Nat -> St -> Hp -> Prop) (h0 : Pv 0 σ H) (hl : ∀ i σ H, i <= xs.length -> Pv i σ H -> SqT K H a xs)
  (hs : ∀ i x σ H, xs[i]? = some x -> Pv i σ H -> g x σ H fun σ2 H2 => tb { D with nx := Pv (i + 1), ct := Pv (i + 1), bk := D.nx } σ2 H2) (hd : ∀ σ H, Pv xs.length σ H -> D.nx σ H) :
  ∃ W : Nat -> Nat -> St -> Hp -> Prop, (∃ m, W 0 m σ H) /\ ∀ i m σ H, W i m σ H ->
   ((Itt K a).stop i H /\ D.nx σ H) \/ ((Itt K a).go i H /\ ∃ N : St -> Hp -> Prop, (∀ σ' H', N σ' H' -> ∃ m', m' < m /\ W (i + 1) m' σ' H') /\ ∀ x H', (Itt K a).yld i H x H' -> g x σ H' fun σ2 H2 => tb { D with nx := N, ct := N, bk := D.nx } σ2 H2) := by
 refine ⟨fun i m σ H => m = xs.length - i /\ i <= xs.length /\ Pv i σ H, ⟨xs.length, by simp, Nat.zero_le _, h0⟩, ?_⟩
 rintro i m σ H ⟨rfl, hi, p⟩
 have q := hl i σ H hi p
 by_cases hlt : i < xs.length
 ·refine .inr ⟨⟨xs, xs[i], q, by simp [hlt]⟩, Pv (i + 1), fun σ' H' p' => ⟨xs.length - (i + 1), by omega, rfl, hlt, p'⟩, fun x H' y => ?_⟩
  obtain ⟨e, y⟩ := y
  subst e
  exact hs i x σ _ (y xs q) p
 ·have e : i = xs.length := by omega
  subst e
  exact .inl ⟨⟨xs, q, Nat.le_refl _⟩, hd σ H p⟩
theorem for_range {lo : Int} {n : Nat} {g : TG} {tb : TS} {D : Ends} {σ : St} {H : Hp} (Pv : Nat -> St -> Hp -> Prop) (h0 : Pv 0 σ H)
  (hs : ∀ i σ H, i < n -> Pv i σ H -> g (.int (lo + i)) σ H fun σ2 H2 => tb { D with nx := Pv (i + 1), ct := Pv (i + 1), bk := D.nx } σ2 H2) (hd : ∀ σ H, Pv n σ H -> D.nx σ H) :
  ∃ W : Nat -> Nat -> St -> Hp -> Prop, (∃ m, W 0 m σ H) /\ ∀ i m σ H, W i m σ H ->
   ((Itr lo n).stop i H /\ D.nx σ H) \/ ((Itr lo n).go i H /\ ∃ N : St -> Hp -> Prop, (∀ σ' H', N σ' H' -> ∃ m', m' < m /\ W (i + 1) m' σ' H') /\ ∀ x H', (Itr lo n).yld i H x H' -> g x σ H' fun σ2 H2 => tb { D with nx := N, ct := N, bk := D.nx } σ2 H2) := by
 refine ⟨fun i m σ H => m = n - i /\ i <= n /\ Pv i σ H, ⟨n, by simp, Nat.zero_le _, h0⟩, ?_⟩
 rintro i m σ H ⟨rfl, hi, p⟩
 by_cases hlt : i < n
 ·refine .inr ⟨hlt, Pv (i + 1), fun σ' H' p' => ⟨n - (i + 1), by omega, rfl, hlt, p'⟩, fun x H' y => ?_⟩
  obtain ⟨e, y⟩ := y
  subst e y
  exact hs i σ _ hlt p
 ·have e : i = n := by omega
  subst e
  exact .inl ⟨Nat.le_refl _, hd σ H p⟩
theorem while_by {c : TT} {tb : TS} {D : Ends} {σ : St} {H : Hp} (Pv : St -> Hp -> Prop) (μ : St -> Hp -> Nat) (h0 : Pv σ H)
  (hs : ∀ σ H, Pv σ H -> c σ H fun b H1 => if b = true then tb { D with nx := fun σ' H' => Pv σ' H' /\ μ σ' H' < μ σ H, ct := fun σ' H' => Pv σ' H' /\ μ σ' H' < μ σ H, bk := D.nx } σ H1 else D.nx σ H1)
  (mono : ∀ σ H Q Q', (∀ b H1, Q b H1 -> Q' b H1) -> c σ H Q -> c σ H Q') : tWhile c tb D σ H := by
 refine ⟨fun m σ H => m = μ σ H /\ Pv σ H, ⟨_, rfl, h0⟩, ?_⟩
 rintro m σ H ⟨rfl, p⟩
 refine mono σ H _ _ (fun b H1 q => ?_) (hs σ H p)
 cases b with
 | true => exact ⟨_, fun σ' H' ⟨p', l⟩ => ⟨_, l, rfl, p'⟩, q⟩
 | false => exact q
abbrev R2 := V -> V -> Hp -> VK -> Prop
def OpR (X : Cx) (f : Value -> Value -> Sem Value) (r : R2) : Prop :=
 ∀ (pins : List (Addr × Obj)) (s : Shared) (σ : St) (H : Hp) (x y : V) (v u : Value) (Q : VK), Inv X pins σ H s -> RelV x v -> RelV y u -> r x y H Q ->
  wpAny (model X.prog X.w) X.A (f v u) (EP X pins σ Q) X.xe s
def UnR (X : Cx) (f : Value -> Sem Value) (r : V -> Hp -> VK -> Prop) : Prop :=
 ∀ (pins : List (Addr × Obj)) (s : Shared) (σ : St) (H : Hp) (x : V) (v : Value) (Q : VK), Inv X pins σ H s -> RelV x v -> r x H Q ->
  wpAny (model X.prog X.w) X.A (f v) (EP X pins σ Q) X.xe s
def CallR (X : Cx) (f : Value) (r : List V -> Hp -> VK -> Prop) : Prop :=
 ∀ (pins : List (Addr × Obj)) (s : Shared) (σ : St) (H : Hp) (xs : List V) (us : List Value) (Q : VK), Inv X pins σ H s -> Vals xs us -> r xs H Q ->
  wpAny (model X.prog X.w) X.A (call f us) (EP X pins σ Q) X.xe s
def tOp (r : R2) (ta tb : TE) : TE := fun σ H Q => ta σ H fun x H1 => tb σ H1 fun y H2 => r x y H2 Q
def tUn (r : V -> Hp -> VK -> Prop) (ta : TE) : TE := fun σ H Q => ta σ H fun x H1 => r x H1 Q
def rI (C : Int -> Int -> Prop) (g : Int -> Int -> V) : R2 := fun x y H Q => ∃ i j, x = .int i /\ y = .int j /\ C i j /\ Q (g i j) H
def rI0 (g : Int -> Int -> V) : R2 := fun x y H Q => ∃ i j, x = .int i /\ y = .int j /\ Q (g i j) H
def rU (g : Int -> V) : V -> Hp -> VK -> Prop := fun x H Q => ∃ i, x = .int i /\ Q (g i) H
section
variable {X : Cx} {a b c : Expr} {ta tb tc : TE} {pos : Pos}
theorem binT (ha : PE X a ta) (hb : PE X b tb) {pins : List (Addr × Obj)} {s : Shared} {σ : St} {H : Hp} {R : V -> V -> Hp -> Prop} (I : Inv X pins σ H s)
  (h : ta σ H fun x H1 => tb σ H1 fun y H2 => R x y H2) {Q : Value -> Shared -> Prop} {f : Value -> Value -> Sem Value}
  (hf : ∀ v u s2 x y H2, Inv X pins σ H2 s2 -> RelV x v -> RelV y u -> R x y H2 -> wpAny (model X.prog X.w) X.A (f v u) Q X.xe s2) :
  wpAny (model X.prog X.w) X.A (eval a X.env) (fun v s₁ => wpAny (model X.prog X.w) X.A (eval b X.env) (fun u s₂ => wpAny (model X.prog X.w) X.A (f v u) Q X.xe s₂) X.xe s₁) X.xe s := by
 refine thn (ha pins s σ H _ I h) fun v s1 ⟨x, H1, I1, r1, q1⟩ => ?_
 refine thn (hb pins s1 σ H1 _ I1 q1) fun u s2 ⟨y, H2, I2, r2, q2⟩ => ?_
 exact hf v u s2 x y H2 I2 r1 r2 q2
theorem pe_op {op : Operator} {r : R2} (ho : OpR X (binaryOp op) r) (ha : PE X a ta) (hb : PE X b tb) : PE X (.BinOp a op b pos) (tOp r ta tb) := by
 intro pins s σ H Q I h
 exact wpAny_BinOp (binT ha hb I h fun v u s2 x y H2 I2 rx ry q => ho pins s2 σ H2 x y v u Q I2 rx ry q)
theorem pe_un {op : UnaryOp} {r : V -> Hp -> VK -> Prop} (ho : UnR X (unaryOp op) r) (ha : PE X a ta) : PE X (.UnaryOp op a pos) (tUn r ta) := by
 intro pins s σ H Q I h
 exact UnaryOp_ (thn (ha pins s σ H _ I h) fun v s1 ⟨x, H1, I1, r1, q1⟩ => ho pins s1 σ H1 x v Q I1 r1 q1)
theorem opI {f : Value -> Value -> Sem Value} {C : Int -> Int -> Prop} {g : Int -> Int -> Int}
  (rule : ∀ (i j : Int) (t u : Tok) (s : Shared) (Q : Value -> Shared -> Prop) (E : Value -> Shared -> Prop), C i j -> Q (.int (g i j) s.toks) { s with toks := s.toks + 1 } -> wpAny (model X.prog X.w) X.A (f (.int i t) (.int j u)) Q E s) :
  OpR X f (rI C fun i j => .int (g i j)) := by
 intro pins s σ H x y v u Q I rx ry h
 obtain ⟨i, j, rfl, rfl, hc, q⟩ := h
 obtain ⟨t, rfl⟩ := rx
 obtain ⟨t', rfl⟩ := ry
 exact rule i j t t' s _ _ hc ⟨.int (g i j), H, I.tok _, ⟨_, rfl⟩, q⟩
theorem opI0 {f : Value -> Value -> Sem Value} {g : Int -> Int -> Int}
  (rule : ∀ (i j : Int) (t u : Tok) (s : Shared) (Q : Value -> Shared -> Prop) (E : Value -> Shared -> Prop), Q (.int (g i j) s.toks) { s with toks := s.toks + 1 } -> wpAny (model X.prog X.w) X.A (f (.int i t) (.int j u)) Q E s) :
  OpR X f (rI0 fun i j => .int (g i j)) := by
 intro pins s σ H x y v u Q I rx ry h
 obtain ⟨i, j, rfl, rfl, q⟩ := h
 obtain ⟨t, rfl⟩ := rx
 obtain ⟨t', rfl⟩ := ry
 exact rule i j t t' s _ _ ⟨.int (g i j), H, I.tok _, ⟨_, rfl⟩, q⟩
theorem opB0 {f : Value -> Value -> Sem Value} {g : Int -> Int -> Bool}
  (rule : ∀ (i j : Int) (t u : Tok) (s : Shared) (Q : Value -> Shared -> Prop) (E : Value -> Shared -> Prop), Q (.bool (g i j)) s -> wpAny (model X.prog X.w) X.A (f (.int i t) (.int j u)) Q E s) :
  OpR X f (rI0 fun i j => .bl (g i j)) := by
 intro pins s σ H x y v u Q I rx ry h
 obtain ⟨i, j, rfl, rfl, q⟩ := h
 obtain ⟨t, rfl⟩ := rx
 obtain ⟨t', rfl⟩ := ry
 exact rule i j t t' s _ _ ⟨.bl (g i j), H, I, rfl, q⟩
def CDiv (i j : Int) : Prop := 0 < j /\ j < 1073741824
def CMul (i j : Int) : Prop := (-(2 ^ 64) < i /\ i < 2 ^ 64) \/ (-(2 ^ 64) < j /\ j < 2 ^ 64)
theorem CMul.ok {i j : Int} (h : CMul i j) : IntMulOk i j := by
 rcases h with ⟨h1, h2⟩ | ⟨h1, h2⟩
 ·exact .of_left (intBits_le_64 h1 h2)
 ·exact .of_right (intBits_le_64 h1 h2)
theorem op_add : OpR X (binaryOp .Add) (rI0 fun i j => .int (i + j)) := opI0 fun _ _ _ _ _ _ _ q => add_int q
theorem op_sub : OpR X (binaryOp .Sub) (rI0 fun i j => .int (i - j)) := opI0 fun _ _ _ _ _ _ _ q => sub_int q
theorem op_mul : OpR X (binaryOp .Mult) (rI CMul fun i j => .int (i * j)) := opI fun _ _ _ _ _ _ _ hc q => mul_int q hc.ok
theorem op_fdiv : OpR X (binaryOp .FloorDiv) (rI CDiv fun i j => .int (i / j)) := opI fun i j _ _ _ _ _ hc q => by
 have h1 : (0 : Int) < j := hc.1
 have h2 : j < 1073741824 := hc.2
 exact floordiv_int (by omega) (by rw [Int.fdiv_eq_ediv_of_nonneg i (by omega)]; exact q) (.inl (PyProof.noPylong_small (by omega)))
theorem op_mod : OpR X (binaryOp .Mod) (rI (fun _ j => 0 < j) fun i j => .int (i % j)) := opI fun i j _ _ _ _ _ hc q => by
 have h1 : (0 : Int) < j := hc
 exact mod_int' (by omega) (by rw [Int.fmod_eq_emod_of_nonneg i (by omega)]; exact q)
theorem unI {f : Value -> Sem Value} {g : Int -> Int}
  (rule : ∀ (i : Int) (t : Tok) (s : Shared) (Q : Value -> Shared -> Prop) (E : Value -> Shared -> Prop), Q (.int (g i) s.toks) { s with toks := s.toks + 1 } -> wpAny (model X.prog X.w) X.A (f (.int i t)) Q E s) :
  UnR X f (rU fun i => .int (g i)) := by
 intro pins s σ H x v Q I rx h
 obtain ⟨i, rfl, q⟩ := h
 obtain ⟨t, rfl⟩ := rx
 exact rule i t s _ _ ⟨.int (g i), H, I.tok _, ⟨_, rfl⟩, q⟩
theorem un_neg : UnR X (unaryOp .USub) (rU fun i => .int (-i)) := unI fun _ _ _ _ _ q => neg_int q
end
def scal : V -> V -> Bool
 | .non, .non => true | .non, .int _ => true | .int _, .non => true | .non, .bl _ => true | .bl _, .non => true | .non, .str _ => true | .str _, .non => true
 | .int _, .int _ => true | .bl _, .bl _ => true | .str _, .str _ => true | .byt _, .byt _ => true
 | .int _, .str _ => true | .str _, .int _ => true | .bl _, .str _ => true | .str _, .bl _ => true
 | _, _ => false
def rEq : R2 := fun x y H Q => scal x y = true /\ Q (.bl (decide (x = y))) H
def rNe : R2 := fun x y H Q => scal x y = true /\ Q (.bl (!decide (x = y))) H
theorem dec_int {i j : Int} : decide (V.int i = V.int j) = (i == j) := by
 rw [Bool.eq_iff_iff]
 simp
theorem dec_bl {i j : Bool} : decide (V.bl i = V.bl j) = (i == j) := by
 rw [Bool.eq_iff_iff]
 simp
theorem dec_str {i j : Str} : decide (V.str i = V.str j) = (i == j) := by
 rw [Bool.eq_iff_iff]
 simp
theorem dec_byt {i j : Array UInt8} : decide (V.byt i = V.byt j) = (i.toList == j.toList) := by
 rw [Bool.eq_iff_iff]
 cases i
 cases j
 simp
section
variable {X : Cx} {a b c : Expr} {ta tb tc : TE} {pos : Pos}
theorem fin_bl {pins : List (Addr × Obj)} {σ : St} {H : Hp} {s : Shared} {Q : VK} {k k' : Bool} (I : Inv X pins σ H s) (q : Q (.bl k) H) (e : k = k') : EP X pins σ Q (.bool k') s := by
 subst e
 exact ⟨.bl k, H, I, rfl, q⟩
theorem op_eq : OpR X (compareOp .Eq) rEq := by
 intro pins s σ H x y v u Q I rx ry h
 obtain ⟨hs, q⟩ := h
 cases x with
 | non =>
  cases rx
  cases y with
  | non => cases ry; exact PySem.EqNone.eq_none_none (fin_bl I q (by simp))
  | bl j => cases ry; exact PySem.EqNone.eq_none_bool (fin_bl I q (by simp))
  | int j => obtain ⟨t', rfl⟩ := ry; exact PySem.EqNone.eq_none_int (fin_bl I q (by simp))
  | str j => obtain ⟨t', rfl⟩ := ry; exact PySem.EqNone.eq_none_str (fin_bl I q (by simp))
  | _ => exact absurd (show false = true from hs) Bool.false_ne_true
 | bl i =>
  cases rx
  cases y with
  | non => cases ry; exact PySem.EqNone.eq_bool_none (fin_bl I q (by simp))
  | bl j => cases ry; exact eq_bool (fin_bl I q dec_bl)
  | str j => obtain ⟨t', rfl⟩ := ry; exact PySem.EqMixed.eq_bool_str (fin_bl I q (by simp))
  | _ => exact absurd (show false = true from hs) Bool.false_ne_true
 | int i =>
  obtain ⟨t, rfl⟩ := rx
  cases y with
  | non => cases ry; exact PySem.EqNone.eq_int_none (fin_bl I q (by simp))
  | int j => obtain ⟨t', rfl⟩ := ry; exact eq_int (fin_bl I q dec_int)
  | str j => obtain ⟨t', rfl⟩ := ry; exact PySem.EqMixed.eq_int_str (fin_bl I q (by simp))
  | _ => exact absurd (show false = true from hs) Bool.false_ne_true
 | str i =>
  obtain ⟨t, rfl⟩ := rx
  cases y with
  | non => cases ry; exact PySem.EqNone.eq_str_none (fin_bl I q (by simp))
  | bl j => cases ry; exact PySem.EqMixed.eq_str_bool (fin_bl I q (by simp))
  | int j => obtain ⟨t', rfl⟩ := ry; exact PySem.EqMixed.eq_str_int (fin_bl I q (by simp))
  | str j => obtain ⟨t', rfl⟩ := ry; exact eq_str (fin_bl I q dec_str)
  | _ => exact absurd (show false = true from hs) Bool.false_ne_true
 | byt i =>
  obtain ⟨t, rfl⟩ := rx
  cases y with
  | byt j => obtain ⟨t', rfl⟩ := ry; exact PySem.W.eq_bytes (fin_bl I q dec_byt)
  | _ => exact absurd (show false = true from hs) Bool.false_ne_true
 | _ => cases y <;> exact absurd (show false = true from hs) Bool.false_ne_true
theorem op_ne : OpR X (compareOp .NotEq) rNe := by
 intro pins s σ H x y v u Q I rx ry h
 obtain ⟨hs, q⟩ := h
 cases x with
 | non =>
  cases rx
  cases y with
  | non => cases ry; exact PySem.EqNone.ne_none_none (fin_bl I q (by simp))
  | bl j => cases ry; exact PySem.EqNone.ne_none_bool (fin_bl I q (by simp))
  | int j => obtain ⟨t', rfl⟩ := ry; exact PySem.EqNone.ne_none_int (fin_bl I q (by simp))
  | str j => obtain ⟨t', rfl⟩ := ry; exact PySem.EqNone.ne_none_str (fin_bl I q (by simp))
  | _ => exact absurd (show false = true from hs) Bool.false_ne_true
 | bl i =>
  cases rx
  cases y with
  | non => cases ry; exact PySem.EqNone.ne_bool_none (fin_bl I q (by simp))
  | bl j => cases ry; exact ne_bool (fin_bl I q (congrArg not dec_bl))
  | str j => obtain ⟨t', rfl⟩ := ry; exact PySem.EqMixed.ne_bool_str (fin_bl I q (by simp))
  | _ => exact absurd (show false = true from hs) Bool.false_ne_true
 | int i =>
  obtain ⟨t, rfl⟩ := rx
  cases y with
  | non => cases ry; exact PySem.EqNone.ne_int_none (fin_bl I q (by simp))
  | int j => obtain ⟨t', rfl⟩ := ry; exact ne_int (fin_bl I q (congrArg not dec_int))
  | str j => obtain ⟨t', rfl⟩ := ry; exact PySem.EqMixed.ne_int_str (fin_bl I q (by simp))
  | _ => exact absurd (show false = true from hs) Bool.false_ne_true
 | str i =>
  obtain ⟨t, rfl⟩ := rx
  cases y with
  | non => cases ry; exact PySem.EqNone.ne_str_none (fin_bl I q (by simp))
  | bl j => cases ry; exact PySem.EqMixed.ne_str_bool (fin_bl I q (by simp))
  | int j => obtain ⟨t', rfl⟩ := ry; exact PySem.EqMixed.ne_str_int (fin_bl I q (by simp))
  | str j => obtain ⟨t', rfl⟩ := ry; exact ne_str (fin_bl I q (congrArg not dec_str))
  | _ => exact absurd (show false = true from hs) Bool.false_ne_true
 | byt i =>
  obtain ⟨t, rfl⟩ := rx
  cases y with
  | byt j => obtain ⟨t', rfl⟩ := ry; exact PySem.W.ne_bytes (fin_bl I q (congrArg not dec_byt))
  | _ => exact absurd (show false = true from hs) Bool.false_ne_true
 | _ => cases y <;> exact absurd (show false = true from hs) Bool.false_ne_true
theorem op_lt : OpR X (compareOp .Lt) (rI0 fun i j => .bl (decide (i < j))) := opB0 fun _ _ _ _ _ _ _ q => lt_int q
theorem op_gt : OpR X (compareOp .Gt) (rI0 fun i j => .bl (decide (j < i))) := opB0 fun _ _ _ _ _ _ _ q => gt_int q
theorem op_ge : OpR X (compareOp .GtE) (rI0 fun i j => .bl (decide (j <= i))) := opB0 fun _ _ _ _ _ _ _ q => ge_int q
theorem op_in_str : OpR X (compareOp .In) (fun x y H Q => ∃ i j, x = .str i /\ y = .str j /\ Q (.bl (!(Builtin.Str.occurrences j i 0 j.length 1).isEmpty)) H) := by
 intro pins s σ H x y v u Q I rx ry h
 obtain ⟨i, j, rfl, rfl, q⟩ := h
 obtain ⟨t, rfl⟩ := rx
 obtain ⟨t', rfl⟩ := ry
 exact in_str (fin_bl I q rfl)
theorem nomark (b : Expr) {op : CmpOp} (h : op ≠ .In := by decide) (h2 : op ≠ .NotIn := by decide) : behindInMarks op b = false := by
 have e1 : (op == CmpOp.In) = false := by cases op <;> first | rfl | exact absurd rfl h
 have e2 : (op == CmpOp.NotIn) = false := by cases op <;> first | rfl | exact absurd rfl h2
 cases b <;> simp [behindInMarks, e1, e2]
theorem pe_cmpR {op : CmpOp} {r : R2} (ho : OpR X (compareOp op) r) (ha : PE X a ta) (hb : PE X b tb) (hm : behindInMarks op b = false) : PE X (.Compare a [op] [b] pos) (tOp r ta tb) := by
 intro pins s σ H Q I h
 exact wpAny_Compare1 (binT ha hb I h fun v u s2 x y H2 I2 rx ry q => ho pins s2 σ H2 x y v u Q I2 rx ry q) hm
def tTest (t : TE) : TT := fun σ H Q => t σ H fun x H' => ∃ k, x = .bl k /\ Q k H'
theorem pt_cmpR {op : CmpOp} {r : R2} (ho : OpR X (compareOp op) r) (ha : PE X a ta) (hb : PE X b tb) (hm : behindInMarks op b = false) : PT X (.Compare a [op] [b] pos) (tTest (tOp r ta tb)) := by
 intro pins s σ H Q I h
 refine wpAny_isTrue_Compare1 (thn (ha pins s σ H _ I h) fun v s1 ⟨x, H1, I1, r1, q1⟩ => thn (hb pins s1 σ H1 _ I1 q1) fun u s2 ⟨y, H2, I2, r2, q2⟩ =>
  thn (ho pins s2 σ H2 x y v u _ I2 r1 r2 q2) fun c s3 ⟨z, H3, I3, r3, k, e, q3⟩ => ?_) hm
 subst e
 cases r3
 exact wpAny_truthy_bool ⟨H3, I3, q3⟩
def tChain (r r' : R2) (ta tb tc : TE) : TE := fun σ H Q => ta σ H fun x H1 => tb σ H1 fun y H2 => r x y H2 fun z H3 => ∃ k, z = .bl k /\
 (if k = true then tc σ H3 fun w' H4 => r' y w' H4 Q else Q (.bl false) H3)
theorem pe_chain {op op' : CmpOp} {r r' : R2} (ho : OpR X (compareOp op) r) (ho' : OpR X (compareOp op') r') (ha : PE X a ta) (hb : PE X b tb) (hc : PE X c tc)
  (hm : lastMarks [op, op'] [b, c] = false := by with_unfolding_all rfl) : PE X (.Compare a [op, op'] [b, c] pos) (tChain r r' ta tb tc) := by
 intro pins s σ H Q I h
 refine Compare_chain (thn (ha pins s σ H _ I h) fun v s1 ⟨x, H1, I1, r1, q1⟩ => chain_link (thn (hb pins s1 σ H1 _ I1 q1) fun u s2 ⟨y, H2, I2, r2, q2⟩ =>
  thn (ho pins s2 σ H2 x y v u _ I2 r1 r2 q2) fun d s3 ⟨z, H3, I3, r3, k, e, q3⟩ => ?_)) hm
 subst e
 cases r3
 refine wpAny_truthy_bool ?_
 cases k with
 | false => exact ite_ff ⟨.bl false, H3, I3, rfl, q3⟩
 | true => exact ite_tt (chain_last (thn (hc pins s3 σ H3 _ I3 q3) fun w' s4 ⟨z', H4, I4, r4, q4⟩ => ho' pins s4 σ H4 y z' u w' Q I4 r2 r4 q4))
theorem pt_chain {op op' : CmpOp} {r r' : R2} (ho : OpR X (compareOp op) r) (ho' : OpR X (compareOp op') r') (ha : PE X a ta) (hb : PE X b tb) (hc : PE X c tc)
  (hm : lastMarks [op, op'] [b, c] = false := by with_unfolding_all rfl) : PT X (.Compare a [op, op'] [b, c] pos) (tTest (tChain r r' ta tb tc)) := by
 intro pins s σ H Q I h
 refine isTrue_chain (thn (ha pins s σ H _ I h) fun v s1 ⟨x, H1, I1, r1, q1⟩ => test_link (thn (hb pins s1 σ H1 _ I1 q1) fun u s2 ⟨y, H2, I2, r2, q2⟩ =>
  thn (ho pins s2 σ H2 x y v u _ I2 r1 r2 q2) fun d s3 ⟨z, H3, I3, r3, k, e, q3⟩ => ?_)) hm
 subst e
 cases r3
 refine wpAny_truthy_bool ?_
 cases k with
 | false =>
  obtain ⟨k', e', q'⟩ := q3
  cases e'
  exact ite_ff ⟨H3, I3, q'⟩
 | true =>
  refine ite_tt (test_last (thn (hc pins s3 σ H3 _ I3 q3) fun w' s4 ⟨z', H4, I4, r4, q4⟩ => thn (ho' pins s4 σ H4 y z' u w' _ I4 r2 r4 q4) fun d' s5 ⟨z2, H5, I5, r5, k2, e2, q5⟩ => ?_))
  subst e2
  cases r5
  exact wpAny_truthy_bool ⟨H5, I5, q5⟩
theorem line63 : (sizeLine : Nat) < 2 ^ 63 := by rw [sizeLine_eq]; decide
theorem op_add_str : OpR X (binaryOp .Add) (fun x y H Q => ∃ i j, x = .str i /\ y = .str j /\ i.length + j.length <= sizeLine /\ Q (.str (i ++ j)) H) := by
 intro pins s σ H x y v u Q I rx ry h
 obtain ⟨i, j, rfl, rfl, hz, q⟩ := h
 obtain ⟨t, rfl⟩ := rx
 obtain ⟨t', rfl⟩ := ry
 exact add_str (fun t' tk => ⟨.str (i ++ j), H, I.tok _, ⟨_, rfl⟩, q⟩) hz
theorem vals1 {x : V} {us : List Value} (r : Vals [x] us) : ∃ u, us = [u] /\ RelV x u := by
 cases r with
 | cons r1 r2 => cases r2; exact ⟨_, rfl, r1⟩
theorem vals2 {x y : V} {us : List Value} (r : Vals [x, y] us) : ∃ u w', us = [u, w'] /\ RelV x u /\ RelV y w' := by
 cases r with
 | cons r1 r2 =>
  cases r2 with
  | cons r3 r4 => cases r4; exact ⟨_, _, rfl, r1, r3⟩
theorem call_int1 : CallR X (.type "int") (fun xs H Q => (∃ i, xs = [.int i] /\ Q (.int i) H) \/ ∃ k, xs = [.bl k] /\ Q (.int (if k then 1 else 0)) H) := by
 intro pins s σ H xs us Q I r h
 rcases h with ⟨i, rfl, q⟩ | ⟨k, rfl, q⟩
 ·obtain ⟨u, rfl, t, rfl⟩ := vals1 r
  exact call_int_int ⟨.int i, H, I, ⟨_, rfl⟩, q⟩
 ·obtain ⟨u, rfl, r1⟩ := vals1 r
  cases r1
  exact call_int_bool ⟨.int (if k then 1 else 0), H, I.tok _, ⟨_, rfl⟩, q⟩
theorem call_str_int : CallR X (.type "str") (fun xs H Q => ∃ i, xs = [.int i] /\ i.natAbs.log2 < 1920 /\ Q (.str (toString i)) H) := by
 intro pins s σ H xs us Q I r h
 obtain ⟨i, rfl, hz, q⟩ := h
 obtain ⟨u, rfl, t, rfl⟩ := vals1 r
 exact PySem.P.str_of_int hz ⟨.str _, H, I.tok _, ⟨_, rfl⟩, q⟩
theorem call_ord : CallR X (.builtin "ord") (fun xs H Q => ∃ x, xs = [.str x] /\ x.length = 1 /\ Q (.int (x.cps.getD 0 0 : Nat)) H) := by
 intro pins s σ H xs us Q I r h
 obtain ⟨x, rfl, hz, q⟩ := h
 obtain ⟨u, rfl, t, rfl⟩ := vals1 r
 exact ord_of_one hz ⟨.int _, H, I.tok _, ⟨_, rfl⟩, q⟩
end
structure ObjM (h : Heap) (x dx C : Addr) (mA : Str -> Option Value) : Prop where
 obj : h.get? x = some (PySem.W.instObj C dx)
 ns : h.Ns1 dx mA
 ne : dx ≠ x
theorem lookIn_ns {h : Heap} {dx : Addr} {mA : Str -> Option Value} (n : h.Ns1 dx mA) : ∃ od, h.get? dx = some od /\ ∀ name, PySem.W.lookIn name od = some (mA name) := by
 obtain ⟨o, es, ep, ho, hd, hk, _, hm⟩ := n
 refine ⟨o, ho, fun name => ?_⟩
 have e := hm name
 unfold nsFind findBy at e
 rw [<- Array.find?_toList] at e
 unfold PySem.W.lookIn
 rw [hd]
 dsimp only
 split
 ·rename_i y q
  rw [q] at e
  exact congrArg some e
 ·rename_i q
  rw [q] at e
  have a : es.toList.any (·.refKey) = false := by
   rw [List.any_eq_false]
   intro y hy
   obtain ⟨z, t, hkey⟩ := hk y (Array.mem_toList_iff.mp hy)
   simp [DictEntry.refKey, hkey]
  have a' : ¬ es.toList.any (·.refKey) = true := by rw [a]; exact Bool.false_ne_true
  rw [if_neg a']
  exact congrArg some e
theorem ObjM.look {h : Heap} {x dx C : Addr} {mA : Str -> Option Value} (I : ObjM h x dx C mA) : ∃ od, PySem.W.InstAt h x (PySem.W.instObj C dx) C (some od) /\ ∀ name, PySem.W.lookIn name od = some (mA name) :=
 let ⟨od, ho, hl⟩ := lookIn_ns I.ns
 ⟨od, ⟨I.obj, rfl, rfl, ho⟩, hl⟩
section
variable {prog : Program} {w : World} {A : Around} {E : Value -> Shared -> Prop} {s : Shared} {K : PySem.W.Frag} {x dx C f : Addr} {mA : Str -> Option Value} {name : Str} {v : Value}
theorem get_map {expr : Bool} {Q : Value -> Shared -> Prop} (X : K.In s.heap) (I : ObjM s.heap x dx C mA) (hg : PySem.W.plainGet K C name = true) (hh : PySem.W.hasDictIn K C = true)
  (ha : PySem.W.findIn K (.ref C) name = some none) (hv : mA name = some v) (hv' : PySem.W.handedIn v = true) (h : Q v { s with toks := s.toks + 1 }) :
  wpAny (model prog w) A (getAttr (.ref x) name expr) Q E s := by
 obtain ⟨od, J, hl⟩ := I.look
 exact PySem.W.get_value X J (PySem.W.plainGet_of hg).1 (PySem.W.findObj_own hh ha rfl (by rw [hl, hv])) hv' h
theorem get_meth {pl : Sem Bool} {Q : Value × List Value -> Shared -> Prop} (X : K.In s.heap) (I : ObjM s.heap x dx C mA) (hg : PySem.W.plainGet K C name = true)
  (hf : PySem.W.findIn K (.ref C) name = some (some (.ref f))) (ht : PySem.W.isFn K (.ref f) = true) (hv : mA name = none) (h : Q (.ref f, [.ref x]) s) :
  wpAny (model prog w) A (getMethod (.ref x) name pl) Q E s := by
 obtain ⟨od, J, hl⟩ := I.look
 exact PySem.W.method_fn X J (PySem.W.plainGet_of hg).1 (PySem.W.plainGet_of hg).2 hf (beq_iff_eq.mp ht) (by show (PySem.W.lookIn name od).map (·.isSome) = some false; rw [hl, hv]; rfl) h
theorem set_map {ns : List Str} {Q : Unit -> Shared -> Prop} (X : K.In s.heap) (I : ObjM s.heap x dx C mA)
  (hs : PySem.W.findIn K (.ref C) "__setattr__" = some (some (.builtin "object.__setattr__"))) (hp : PySem.W.plainOver K C = true) (ht : PySem.W.takerIn K C name = some none) (hh : PySem.W.hasDictIn K C = true)
  (hw : PySem.Within mA ns) (hsz : ns.length <= sizeLine)
  (h : ∀ h', ObjM h' x dx C (fun y => if y = name then some v else mA y) -> Heap.SameBut dx s.heap h' -> Q () { s with heap := h', toks := s.toks + 2 }) :
  wpAny (model prog w) A (setAttr (.ref x) name v) Q E s := by
 obtain ⟨od, J, hl⟩ := I.look
 refine PySem.W.set_plain X J hs (PySem.W.osa_open (s := { s with toks := s.toks + 1 }) (r := none) X J hp ht fun b => ?_)
 obtain ⟨cd, hc, hd'⟩ := PySem.W.any_some hh
 have hx : s.heap.get? x = some ⟨.ref C, some dx, .plain, #[]⟩ := I.obj
 refine wpAny_bind (wpAny_pure (wpAny_bind (wpAny_bind (wpAny_loadPart hx (wpAny_bind (PySem.W.Looks.here (s := { s with toks := s.toks + 1 }) (PySem.W.looks_clsIn X hc) ?_))))))
 rw [hd']
 refine wpAny_pure (a := some dx) (wpAny_bind (wpAny_pure (wpAny_bind ?_)))
 refine wpAny_nsSet1 (s := { s with toks := s.toks + 1 }) I.ns fun h' hn2 hs2 => ?_
 obtain ⟨oD, esD, epD, hoD, hdD, hcD⟩ := hn2.count (PySem.Within.cons name v hw)
 refine wpAny_bind (wpAny_lookBehind hoD (by rw [hdD]; exact pastItsLine_dict (Nat.le_trans hcD (by rw [List.length_cons]; omega))) ?_)
 exact wpAny_pure (h _ ⟨(hs2.2 _ (Ne.symm I.ne)).trans I.obj, hn2, I.ne⟩ hs2)
theorem make_map {R : Result -> Shared -> Prop} {vs : List Value} {kw : List (Str × Value)} (X : K.In s.heap) (hm : PySem.W.makesIn K C = true)
  (hi : PySem.W.findIn K (.ref C) "__init__" = some (some (.ref f))) (hf : PySem.W.typeIn K (.ref f) = some (.type "function"))
  (h : codeAny (model prog w) (A.under (.builtin "type.__call__" ⟨.ref C :: vs, kw⟩)) (.call (.ref f) ⟨.ref (s.heap.objs.size + 1) :: vs, kw⟩) (PySem.W.InitBack (s.heap.objs.size + 1) R)
   { s with heap := (s.heap.push PySem.W.emptyDict).push (PySem.W.instObj C s.heap.objs.size) }) :
  codeAny (model prog w) A (.call (.ref C) ⟨vs, kw⟩) R s := by
 obtain ⟨hh, g, d, t, os⟩ := s
 exact PySem.W.make_core (PySem.W.makes_of X hm) (PySem.W.looks_findIn X hi) (fun self => PySem.W.bind_fn X self hf) (.inl rfl) h
end
def putF (f : Str) (v : V) : List (Str × V) -> List (Str × V)
 | [] => [(f, v)]
 | (g, x) :: r => if g = f then (g, v) :: r else (g, x) :: putF f v r
theorem lookup_putF (f g : Str) (v : V) : ∀ fs : List (Str × V), (putF f v fs).lookup g = if g = f then some v else fs.lookup g
 | [] => by
  show List.lookup g [(f, v)] = _
  by_cases h : g = f
  ·have hb : (g == f) = true := beq_iff_eq.mpr h
   simp only [List.lookup, hb, if_pos h]
  ·have hb : (g == f) = false := beq_eq_false_iff_ne.mpr h
   simp only [List.lookup, hb, if_neg h]
 | (k, x) :: r => by
  have ih := lookup_putF f g v r
  rw [show putF f v ((k, x) :: r) = (if k = f then (k, v) :: r else (k, x) :: putF f v r) from rfl]
  by_cases hk : k = f
  ·rw [if_pos hk]
   by_cases h : g = k
   ·have hb : (g == k) = true := beq_iff_eq.mpr h
    simp only [List.lookup, hb, if_pos (h.trans hk)]
   ·have hb : (g == k) = false := beq_eq_false_iff_ne.mpr h
    simp only [List.lookup, hb, if_neg (fun e : g = f => h (e.trans hk.symm))]
  ·rw [if_neg hk]
   by_cases h : g = k
   ·have hb : (g == k) = true := beq_iff_eq.mpr h
    simp only [List.lookup, hb, if_neg (fun e : g = f => hk (h.symm.trans e))]
   ·have hb : (g == k) = false := beq_eq_false_iff_ne.mpr h
    simp only [List.lookup, hb]
    exact ih
theorem keys_putF (f : Str) (v : V) : ∀ fs : List (Str × V), f ∈ (putF f v fs).map (·.1) /\ ∀ g, g ∈ fs.map (·.1) -> g ∈ (putF f v fs).map (·.1)
 | [] => ⟨by simp [putF], fun g h => by simp at h⟩
 | (k, x) :: r => by
  obtain ⟨i1, i2⟩ := keys_putF f v r
  rw [show putF f v ((k, x) :: r) = (if k = f then (k, v) :: r else (k, x) :: putF f v r) from rfl]
  by_cases hk : k = f
  ·rw [if_pos hk]
   subst hk
   exact ⟨by simp, fun g h => by simpa using h⟩
  ·rw [if_neg hk]
   refine ⟨?_, fun g h => ?_⟩
   ·rw [List.map_cons]
    exact List.mem_cons_of_mem _ i1
   ·rw [List.map_cons] at h ⊢
    rcases List.mem_cons.mp h with e | e
    ·exact List.mem_cons.mpr (.inl e)
    ·exact List.mem_cons_of_mem _ (i2 g e)
theorem length_putF (f : Str) (v : V) : ∀ fs : List (Str × V), (putF f v fs).length <= fs.length + 1
 | [] => by simp [putF]
 | (k, x) :: r => by
  have ih := length_putF f v r
  rw [show putF f v ((k, x) :: r) = (if k = f then (k, v) :: r else (k, x) :: putF f v r) from rfl]
  by_cases hk : k = f
  ·rw [if_pos hk, List.length_cons, List.length_cons]; omega
  ·rw [if_neg hk, List.length_cons, List.length_cons]; omega
theorem RelO.some_of {v : V} {o : Option Value} (r : RelO (some v) o) : ∃ u, o = some u /\ RelV v u := by
 cases o with
 | none => exact (show False from r).elim
 | some u => exact ⟨u, rfl, r⟩
theorem RelO.none_of {o : Option Value} (r : RelO none o) : o = none := by
 cases o with
 | none => rfl
 | some u => exact (show False from r).elim
theorem handed_of {v : V} {u : Value} (r : RelV v u) : PySem.W.handedIn u = true := by
 cases v with
 | non => cases (show u = Value.none from r); rfl
 | bl b => cases (show u = Value.bool b from r); rfl
 | int i => obtain ⟨t, e⟩ := (show ∃ t, u = Value.int i t from r); cases e; rfl
 | str x => obtain ⟨t, e⟩ := (show ∃ t, u = Value.str x t from r); cases e; rfl
 | byt b => obtain ⟨t, e⟩ := (show ∃ t, u = Value.bytes b t from r); cases e; rfl
 | flt b => obtain ⟨t, e⟩ := (show ∃ t, u = Value.float b t from r); cases e; rfl
 | ref a => cases (show u = Value.ref a from r); rfl
 | ty n => cases (show u = Value.type n from r); rfl
section
variable {P : Program} {w : World} {H H' : Hp} {h h' : Heap} {a C dx : Addr} {fs fs' : List (Str × V)}
theorem ins_get (hok : HOk P w H h) (e : H a = some (.ins C dx fs)) : ∃ mA, ObjM h a dx C mA /\ (∀ f, RelO (fs.lookup f) (mA f)) /\ PySem.Within mA (fs.map (·.1)) /\ fs.length <= 1000 /\ H dx = some (.own a) := by
 obtain ⟨d, z, ne, ob, mA, n, r, q⟩ := (show ObjOk P w H h a (.ins C dx fs) from hok a _ e)
 exact ⟨mA, ⟨ob, n, ne⟩, r, q, z, d⟩
end
structure Cls (K : PySem.W.Frag) (C : Addr) : Prop where
 pg : PySem.W.plainGet K C Str.empty = true
 hd : PySem.W.hasDictIn K C = true
 po : PySem.W.plainOver K C = true
 sa : PySem.W.findIn K (.ref C) "__setattr__" = some (some (.builtin "object.__setattr__"))
theorem Cls.get {K : PySem.W.Frag} {C : Addr} (c : Cls K C) (f : Str) : PySem.W.plainGet K C f = true := c.pg
def NoAttr (K : PySem.W.Frag) (C : Addr) (f : Str) : Prop := PySem.W.findIn K (.ref C) f = some none
theorem NoAttr.taker {K : PySem.W.Frag} {C : Addr} {f : Str} (n : NoAttr K C f) : PySem.W.takerIn K C f = some none := by
 unfold PySem.W.takerIn
 rw [show PySem.W.findIn K (.ref C) f = some none from n]
 rfl
structure Meth (K : PySem.W.Frag) (C : Addr) (m : Str) (f : Addr) : Prop where
 at_ : PySem.W.findIn K (.ref C) m = some (some (.ref f))
 fn : PySem.W.isFn K (.ref f) = true
 kp : PySem.W.keepIn K (.ref f) = true
section
variable {X : Cx} {pins : List (Addr × Obj)} {σ : St} {H : Hp} {s : Shared} {a C dx : Addr} {fs : List (Str × V)} {f : Str} {v : V} {A : Around} {E : Value -> Shared -> Prop}
theorem getattr_ok {b : Bool} {Q : Value -> Shared -> Prop} (I : Inv X pins σ H s) (e : H a = some (.ins C dx fs)) (c : Cls X.K C) (n : NoAttr X.K C f) (l : fs.lookup f = some v)
  (h : ∀ u s', Inv X pins σ H s' -> RelV v u -> Q u s') : wpAny (model X.prog X.w) A (getAttr (.ref a) f b) Q E s := by
 obtain ⟨mA, O, r, _, _, _⟩ := ins_get I.hok e
 obtain ⟨u, hu, ru⟩ := RelO.some_of (v := v) (o := mA f) (by rw [<- l]; exact r f)
 exact get_map I.kIn O (c.get f) c.hd n hu (handed_of ru) (h u _ (I.tok _) ru)
theorem getmeth_ok {m : Str} {g : Addr} {pl : Sem Bool} {Q : Value × List Value -> Shared -> Prop} (I : Inv X pins σ H s) (e : H a = some (.ins C dx fs)) (c : Cls X.K C) (k : Meth X.K C m g) (l : fs.lookup m = none)
  (h : Q (.ref g, [.ref a]) s) : wpAny (model X.prog X.w) A (getMethod (.ref a) m pl) Q E s := by
 obtain ⟨mA, O, r, _, _, _⟩ := ins_get I.hok e
 have hn : mA m = none := RelO.none_of (by rw [<- l]; exact r m)
 exact get_meth I.kIn O (c.get m) k.at_ k.fn hn h
theorem setattr_ok {y : V} {u : Value} {Q : Unit -> Shared -> Prop} (I : Inv X pins σ H s) (e : H a = some (.ins C dx fs)) (c : Cls X.K C) (n : NoAttr X.K C f) (hl : fs.length < 1000) (ry : RelV y u)
  (h : ∀ s', Inv X pins σ (upd H a (.ins C dx (putF f y fs))) s' -> Q () s') : wpAny (model X.prog X.w) A (setAttr (.ref a) f u) Q E s := by
 obtain ⟨mA, O, r, wi, _, ho⟩ := ins_get I.hok e
 have hz : (fs.map (·.1)).length <= sizeLine := by rw [List.length_map, sizeLine_eq]; omega
 refine set_map I.kIn O c.sa c.po n.taker c.hd wi hz fun h' O' sb => h _ ?_
 have hd : ∃ o, h'.get? dx = some o := let ⟨o, _, _, e', _⟩ := O'.ns; ⟨o, e'⟩
 refine I.write (x := a) (e := dx) (by rw [e]; exact True.intro) (.inr ho) (fun b q hb z => (sb.2 b hb).trans z) hd ?_
 refine ⟨by rw [upd_ne O.ne]; exact ho, ?_, O.ne, O'.obj, _, O'.ns, fun g => ?_, fun g hg => ?_⟩
 ·have := length_putF f y fs; omega
 ·show RelO ((putF f y fs).lookup g) (if g = f then some u else mA g)
  rw [lookup_putF]
  by_cases q : g = f
  ·rw [if_pos q, if_pos q]; exact ry
  ·rw [if_neg q, if_neg q]; exact r g
 ·by_cases q : g = f
  ·rw [q]; exact (keys_putF f y fs).1
  ·refine (keys_putF f y fs).2 g (wi g fun z => hg ?_)
   show (if g = f then some u else mA g) = none
   rw [if_neg q]; exact z
theorem Inv.made (I : Inv X pins σ H s) : Inv X pins σ (upd (upd H s.heap.objs.size (.own (s.heap.objs.size + 1))) (s.heap.objs.size + 1) (.ins C s.heap.objs.size []))
  { s with heap := (s.heap.push PySem.W.emptyDict).push (PySem.W.instObj C s.heap.objs.size) } := by
 have e1 : (s.heap.push PySem.W.emptyDict).get? s.heap.objs.size = some PySem.W.emptyDict := Heap.get?_push_size s.heap rfl
 have e2 : ((s.heap.push PySem.W.emptyDict).push (PySem.W.instObj C s.heap.objs.size)).get? (s.heap.objs.size + 1) = some (PySem.W.instObj C s.heap.objs.size) := by
  have := Heap.get?_push_size (s.heap.push PySem.W.emptyDict) (o := PySem.W.instObj C s.heap.objs.size) rfl
  rwa [Heap.size_push] at this
 have e3 : (s.heap.push PySem.W.emptyDict).Ns s.heap.objs.size (fun _ => none) := ⟨PySem.W.emptyDict, #[], _, e1, rfl, (fun e he => absurd he (by simp)), fun _ => rfl⟩
 have I1 := I.laid (a := s.heap.objs.size) (o := .own (s.heap.objs.size + 1)) (h' := s.heap.push PySem.W.emptyDict) (t' := s.toks) (fun b u q => Heap.get?_push_of_some _ q) (Nat.le_refl _) ⟨_, e1⟩
 refine I1.laid (a := s.heap.objs.size + 1) (o := .ins C s.heap.objs.size []) (t' := s.toks) (fun b u q => Heap.get?_push_of_some _ q) (Nat.le_of_eq (Heap.size_push _ _)) ?_
 have ne : s.heap.objs.size ≠ s.heap.objs.size + 1 := Nat.ne_of_lt (Nat.lt_succ_self _)
 refine ⟨by rw [upd_ne ne, upd_same], Nat.zero_le _, ne, e2, fun _ => none, (Heap.Ns1.of_empty e3).at fun o q => Heap.get?_push_of_some _ q, fun _ => True.intro, fun y hy => absurd rfl hy⟩
theorem attr_of {prog : Program} {w : World} {env : Env} {e : Expr} {f : Str} {pos : Pos} {s : Shared} {Q : Value -> Shared -> Prop} (hb : attributeBase e f env (eval e env) = eval e env)
  (h : wpAny (model prog w) A (eval e env) (fun o s₁ => wpAny (model prog w) A (getAttr o f true) Q E s₁) E s) : wpAny (model prog w) A (eval (.Attribute e f pos) env) Q E s :=
 Attribute_any_ h (by rw [arm_eval_Attribute, hb])
end
def tFld (K : PySem.W.Frag) (ta : TE) (f : Str) : TE := fun σ H Q => ta σ H fun x H1 => ∃ a C dx fs v, x = .ref a /\ H1 a = some (.ins C dx fs) /\ Cls K C /\ NoAttr K C f /\ fs.lookup f = some v /\ Q v H1
def sFld (K : PySem.W.Frag) (ta tv : TE) (f : Str) : TS := fun D σ H => tv σ H fun y H1 => ta σ H1 fun x H2 => ∃ a C dx fs, x = .ref a /\ H2 a = some (.ins C dx fs) /\ Cls K C /\ NoAttr K C f /\ fs.length < 1000 /\
 D.nx σ (upd H2 a (.ins C dx (putF f y fs)))
section
variable {X : Cx} {o e value : Expr} {f : Str} {pos pos' tpos : Pos} {ta tv : TE}
theorem pe_fld (he : PE X e ta) (hb : attributeBase e f X.env (eval e X.env) = eval e X.env) : PE X (.Attribute e f pos) (tFld X.K ta f) := by
 intro pins s σ H Q I h
 refine attr_of hb (thn (he pins s σ H _ I h) fun u s1 ⟨x, H1, I1, rx, a, C, dx, fs, v, ex, ea, c, n, l, q⟩ => ?_)
 subst ex
 obtain rfl : u = Value.ref a := rx
 exact getattr_ok I1 ea c n l fun u' s2 I2 ru => ⟨v, H1, I2, ru, q⟩
theorem ps_fld (ha : PE X o ta) (hv : PE X value tv) (hs : swapsWith value (some (.Attribute o f pos')) pos.line X.env = pure false) : PS X (.Assign [.Attribute o f pos'] value pos) (sFld X.K ta tv f) := by
 intro pins s σ H D I h
 refine plainObj_wpAny_Assign_Attribute (thn (hv pins s σ H _ I h) fun u s1 ⟨y, H1, I1, ry, q⟩ => thn (ha pins s1 σ H1 _ I1 q) fun ov s2 ⟨x, H2, I2, rx, a, C, dx, fs, ex, ea, c, n, l, q2⟩ => ?_) hs
 subst ex
 obtain rfl : ov = Value.ref a := rx
 exact setattr_ok I2 ea c n l ry fun s3 I3 => ⟨σ, _, I3, q2⟩
end
section
variable {X : Cx} {pins : List (Addr × Obj)} {σ : St} {H : Hp} {s : Shared} {A : Around} {E : Value -> Shared -> Prop} {Q : Value -> Shared -> Prop} {c : Value} {b : Bool}
inductive TyOf (K : PySem.W.Frag) (H : Hp) : V -> Value -> Prop where
 | non : TyOf K H .non (.type "NoneType")
 | bl (x : Bool) : TyOf K H (.bl x) (.type "bool")
 | int (i : Int) : TyOf K H (.int i) (.type "int")
 | str (x : Str) : TyOf K H (.str x) (.type "str")
 | flt (x : UInt64) : TyOf K H (.flt x) (.type "float")
 | lst {a : Addr} {xs : List V} (e : H a = some (.lst xs)) : TyOf K H (.ref a) (.type "list")
 | frz {a : Addr} {o : Obj} {xs : List V} (e : H a = some (.frz o (.lst xs))) : TyOf K H (.ref a) (.type "list")
 | tup {a : Addr} {xs : List V} (e : H a = some (.tup xs)) : TyOf K H (.ref a) (.type "tuple")
 | dK {a : Addr} {kvs : List (Key × V)} (e : H a = some (.dK kvs)) : TyOf K H (.ref a) (.type "dict")
 | dT {a : Addr} {kvs : List (List Key × V)} (e : H a = some (.dT kvs)) : TyOf K H (.ref a) (.type "dict")
 | ins {a C dx : Addr} {fs : List (Str × V)} (e : H a = some (.ins C dx fs)) (cl : Cls K C) (ha : PySem.W.findIn K (.ref C) "__class__" = some (some (.builtin "object.__class__")))
   (hn : PySem.W.specialIn K (.builtin "object.__class__") "__get__" = some (some (.builtin "getset_descriptor.__get__"))) (htk : PySem.W.takesIn K (.builtin "object.__class__") = some true)
   (hm : PySem.W.mroIn K C (.type "object") = some true) : TyOf K H (.ref a) (.ref C)
theorem isinst_ok {x : V} {u t : Value} (I : Inv X pins σ H s) (rx : RelV x u) (ty : TyOf X.K H x t) (e : PySem.W.kitOne X.K t c = some b) (h : ∀ tk, Q (.bool b) { s with toks := tk }) :
  wpAny (model X.prog X.w) A (call (.builtin "isinstance") [u, c]) Q E s := by
 cases ty with
 | non => cases (show u = Value.none from rx); exact PySem.W.kia_one PySem.W.kitx_none I.kIn True.intro e (fun z => nomatch z) h
 | bl y => cases (show u = Value.bool y from rx); exact PySem.W.kia_one PySem.W.kitx_bool I.kIn True.intro e (fun z => nomatch z) h
 | int i => obtain ⟨t, q⟩ := (show ∃ t, u = Value.int i t from rx); cases q; exact PySem.W.kia_one PySem.W.kitx_int I.kIn True.intro e (fun z => nomatch z) h
 | str y => obtain ⟨t, q⟩ := (show ∃ t, u = Value.str y t from rx); cases q; exact PySem.W.kia_one PySem.W.kitx_str I.kIn True.intro e (fun z => nomatch z) h
 | flt y => obtain ⟨t, q⟩ := (show ∃ t, u = Value.float y t from rx); cases q; exact PySem.W.kia_one PySem.W.kitx_float I.kIn True.intro e (fun z => nomatch z) h
 | @lst a xs ea =>
  cases (show u = Value.ref a from rx)
  obtain ⟨_, _, n, _, h1⟩ := (show ObjOk X.prog X.w H s.heap a (.lst xs) from I.hok a _ ea)
  exact PySem.W.kia_one PySem.W.kitx_list I.kIn ⟨_, h1, rfl⟩ e (fun z => nomatch z) h
 | @frz a ob xs ea =>
  cases (show u = Value.ref a from rx)
  obtain ⟨_, _, _, n, _, h1⟩ := (show ObjOk X.prog X.w H s.heap a (.frz ob (.lst xs)) from I.hok a _ ea)
  exact PySem.W.kia_one PySem.W.kitx_list I.kIn ⟨_, h1, rfl⟩ e (fun z => nomatch z) h
 | @tup a xs ea =>
  cases (show u = Value.ref a from rx)
  obtain ⟨_, _, _, p⟩ := (show ObjOk X.prog X.w H s.heap a (.tup xs) from I.hok a _ ea)
  obtain ⟨o, h1, h2, _⟩ := p
  exact PySem.W.kia_one PySem.W.kitx_tuple I.kIn ⟨o, h1, h2⟩ e (fun z => nomatch z) h
 | @dK a kvs ea =>
  cases (show u = Value.ref a from rx)
  obtain ⟨_, _, vs, _, p⟩ := (show ObjOk X.prog X.w H s.heap a (.dK kvs) from I.hok a _ ea)
  obtain ⟨o, es, ep, h1, h2, _⟩ := p
  exact PySem.W.kia_one PySem.W.kitx_dict I.kIn ⟨o, h1, h2.1⟩ e (fun z => nomatch z) h
 | @dT a kvs ea =>
  cases (show u = Value.ref a from rx)
  obtain ⟨_, _, xs, _, o, es, ep, h1, h2, _⟩ := (show ObjOk X.prog X.w H s.heap a (.dT kvs) from I.hok a _ ea)
  exact PySem.W.kia_one PySem.W.kitx_dict I.kIn ⟨o, h1, h2.1⟩ e (fun z => nomatch z) h
 | @ins a C dx fs ea cl ha hn htk hm =>
  cases (show u = Value.ref a from rx)
  obtain ⟨mA, O, _⟩ := ins_get I.hok ea
  obtain ⟨od, J, _⟩ := O.look
  exact PySem.W.kia_one (PySem.W.kitx_own (cl.get _) cl.hd ha hn htk hm) I.kIn J e (fun z => nomatch z) h
end
structure Room (k : Nat) (A : Around) : Prop where
 hd : A.handled = none
 dp : A.depth + 3 * k + 5 < recursionLimit
 un : A.units + 16 * k + 200 < cLine
theorem Room.mono {j k : Nat} {A : Around} (r : Room k A) (h : j <= k) : Room j A := ⟨r.hd, by have := r.dp; omega, by have := r.un; omega⟩
theorem Room.deeper {k : Nat} {A : Around} (r : Room (k + 1) A) (env : Env) : Room k (A.deeper env) :=
 ⟨r.hd, by have := r.dp; show A.depth + 1 + 3 * k + 5 < _; omega, by have := r.un; show A.units + 3 + 16 * k + 200 < _; omega⟩
theorem Room.in1 {k : Nat} {A : Around} (r : Room (k + 1) A) : Room k A.in1 :=
 ⟨r.hd, by have := r.dp; show A.depth + 3 * k + 5 < _; omega, by have := r.un; show A.units + 1 + 16 * k + 200 < _; omega⟩
theorem make_depth {A : Around} {C : Addr} {us : List Value} {kw : List (Str × Value)} : (A.under (.builtin "type.__call__" ⟨.ref C :: us, kw⟩)).depth = A.depth + 1 := by
 first | rfl | simp [Around.under, Code.weight, Code.isCreation, Code.isGuard, Code.isCaller, Code.frames, Code.isFrame, guardIds]
theorem make_units {A : Around} {C : Addr} {us : List Value} {kw : List (Str × Value)} : (A.under (.builtin "type.__call__" ⟨.ref C :: us, kw⟩)).units = A.units + 1 := by
 first | rfl | simp [Around.under, Code.cUnits, Code.frames, Code.isFrame]
theorem Room.make {k : Nat} {A : Around} (r : Room (k + 1) A) (C : Addr) (us : List Value) (kw : List (Str × Value)) : Room k (A.under (.builtin "type.__call__" ⟨.ref C :: us, kw⟩)) :=
 ⟨r.hd, by have := r.dp; rw [make_depth]; omega, by have := r.un; rw [make_units]; omega⟩
theorem Room.depth {k : Nat} {A : Around} (r : Room k A) : A.depth < recursionLimit := by have := r.dp; omega
theorem Room.units {k : Nat} {A : Around} (r : Room k A) : A.units + 64 < cLine := by have := r.un; omega
def tNil : TA := fun _ H Q => Q [] H
def tCons (ta : TE) (tr : TA) : TA := fun σ H Q => ta σ H fun x H1 => tr σ H1 fun xs H2 => Q (x :: xs) H2
section
variable {X : Cx} {e : Expr} {es : List Expr} {te : TE} {t : TA} {pos : Pos}
theorem pa_nil : PA X [] tNil := fun _ _ _ _ H Q I h => Calls.spliced_nil ⟨[], H, I, .nil, h⟩
theorem pa_cons (ha : PE X e te) (hr : PA X es t) (hs : starEach (e :: es) X.env = (false, eval e X.env) :: starEach es X.env := by rfl) : PA X (e :: es) (tCons te t) := by
 intro pos pins s σ H Q I h
 rw [hs]
 show wpAny _ _ (spliced ((false, eval e X.env) :: backTo pos (starEach es X.env))) _ _ s
 refine Calls.spliced_cons (thn (ha pins s σ H _ I h) fun u s1 ⟨x, H1, I1, r1, q1⟩ => ?_)
 exact thn (hr pos pins s1 σ H1 _ I1 q1) fun us s2 ⟨xs, H2, I2, r2, q2⟩ => ⟨x :: xs, H2, I2, .cons r1 r2, q2⟩
def tTup (t : TA) : TE := fun σ H Q => t σ H fun xs H1 => xs.length <= sizeLine /\ ∀ p, H1 p = none -> Q (.ref p) (upd H1 p (.tup xs))
def tLst (t : TA) : TE := fun σ H Q => t σ H fun xs H1 => xs.length <= sizeLine /\ ∀ p, H1 p = none -> Q (.ref p) (upd H1 p (.lst xs))
theorem pe_tup {x1} (h : PA X es t) : PE X (.Tuple es x1 pos) (tTup t) := by
 intro pins s σ H Q I hq
 refine wpAny_Tuple_spliced (thn (h pos pins s σ H _ I hq) fun us s1 ⟨xs, H1, I1, r, z, q⟩ => ⟨by rw [<- r.length]; exact z, ?_⟩)
 have hf : H1 s1.heap.objs.size = none := I1.hok.fresh (Nat.le_refl _)
 refine ⟨.ref s1.heap.objs.size, upd H1 s1.heap.objs.size (.tup xs), I1.laid (t' := s1.toks) (fun b u e => Heap.get?_push_of_some _ e) (Nat.le_refl _) ?_, rfl, q _ hf⟩
 exact ⟨z, us, r, ⟨_, Heap.get?_push_size _ rfl, rfl, _, rfl⟩⟩
theorem pe_lst (h : PA X es t) : PE X (.List es pos) (tLst t) := by
 intro pins s σ H Q I hq
 refine wpAny_List_spliced (thn (h pos pins s σ H _ I hq) fun us s1 ⟨xs, H1, I1, r, z, q⟩ => ⟨by rw [<- r.length]; exact z, ?_⟩)
 have hf : H1 s1.heap.objs.size = none := I1.hok.fresh (Nat.le_refl _)
 refine ⟨.ref s1.heap.objs.size, upd H1 s1.heap.objs.size (.lst xs), I1.laid (t' := s1.toks) (fun b u e => Heap.get?_push_of_some _ e) (Nat.le_refl _) ?_, rfl, q _ hf⟩
 exact ⟨z, us, 0, r, Heap.get?_push_size _ rfl⟩
end
abbrev Sp := List V -> Hp -> VK -> XK -> Prop
abbrev CXT := List Env -> Hp -> Shared -> XK -> Value -> Shared -> Prop
structure Env0 (P : Program) (w : World) (K : PySem.W.Frag) (mg : Str -> Option Value) (base : Heap) (A : Around) (outer : List Env) (s : Shared) (H : Hp) : Prop where
 frames : A.frames = some outer
 mod : Mod K mg base
 bs : ∀ b o, base.get? b = some o -> s.heap.get? b = some o /\ H b = none
 bsz : base.objs.size <= s.heap.objs.size
 funs : s.heap.FunFrames base outer
 frf : ∀ b ∈ frs outer, H b = none
 hok : HOk P w H s.heap
 bare : AllBare s.gens
def CE (outer : List Env) (P : Program) (w : World) (H : Hp) (s : Shared) (Q : VK) (u : Value) (s' : Shared) : Prop :=
 ∃ v H', s'.os = s.os /\ AllBare s'.gens /\ Un (frs outer) [] H H' s.heap s'.heap /\ HOk P w H' s'.heap /\ RelV v u /\ Q v H'
def CR (CX : CXT) (outer : List Env) (P : Program) (w : World) (H : Hp) (s : Shared) (Q : VK) (E : XK) (r : Result) (s' : Shared) : Prop :=
 match r with
 | .ok (.ret u) => CE outer P w H s Q u s'
 | .ok _ => False
 | .error e => CX outer H s E e s'
structure FnOk (P : Program) (w : World) (K : PySem.W.Frag) (mg : Str -> Option Value) (base : Heap) (CX : CXT) (k : Nat) (f : Addr) (fd : FuncData) (ps : List Str) (sp : Sp) : Prop where
 len : ∀ vs H Q E, sp vs H Q E -> vs.length = ps.length
 run : ∀ (A : Around) (outer : List Env) (s : Shared) (H : Hp) (args : Args) (us : List Value) (vs : List V) (Q : VK) (E : XK), Room k A -> Env0 P w K mg base A outer s H -> BindsTo s fd args (ps.zip us) -> Vals vs us -> sp vs H Q E ->
  codeAny (model P w) A (.call (.ref f) args) (CR CX outer P w H s Q E) s
theorem FnOk.mono {P : Program} {w : World} {K : PySem.W.Frag} {mg : Str -> Option Value} {base : Heap} {CX : CXT} {j k : Nat} {f : Addr} {fd : FuncData} {ps : List Str} {sp : Sp} (F : FnOk P w K mg base CX j f fd ps sp) (h : j <= k) :
  FnOk P w K mg base CX k f fd ps sp := ⟨F.len, fun A outer s H args us vs Q E hr => F.run A outer s H args us vs Q E (hr.mono h)⟩
theorem FnOk.imp {P : Program} {w : World} {K : PySem.W.Frag} {mg : Str -> Option Value} {base : Heap} {CX : CXT} {k : Nat} {f : Addr} {fd : FuncData} {ps : List Str} {sp sp' : Sp} (F : FnOk P w K mg base CX k f fd ps sp)
  (h : ∀ vs H Q E, sp' vs H Q E -> sp vs H Q E) : FnOk P w K mg base CX k f fd ps sp' :=
 ⟨fun vs H Q E q => F.len vs H Q E (h _ _ _ _ q), fun A outer s H args us vs Q E hr he hb hv hs => F.run A outer s H args us vs Q E hr he hb hv (h _ _ _ _ hs)⟩
theorem Env0.make {P : Program} {w : World} {K : PySem.W.Frag} {mg : Str -> Option Value} {base : Heap} {A : Around} {outer : List Env} {s : Shared} {H : Hp} (e : Env0 P w K mg base A outer s H) (C : Addr) (us : List Value) (kw : List (Str × Value)) :
  Env0 P w K mg base (A.under (.builtin "type.__call__" ⟨.ref C :: us, kw⟩)) outer s H := ⟨by first | exact e.frames | (simpa [Around.under, Code.envs, Code.isFrame, pushEnvs] using e.frames), e.mod, e.bs, e.bsz, e.funs, e.frf, e.hok, e.bare⟩
theorem Env0.in1 {P : Program} {w : World} {K : PySem.W.Frag} {mg : Str -> Option Value} {base : Heap} {A : Around} {outer : List Env} {s : Shared} {H : Hp} (e : Env0 P w K mg base A outer s H) :
  Env0 P w K mg base A.in1 outer s H := ⟨e.frames, e.mod, e.bs, e.bsz, e.funs, e.frf, e.hok, e.bare⟩
section
variable {X : Cx} {pins : List (Addr × Obj)} {σ : St} {H : Hp} {s s' : Shared}
theorem Inv.env0 (I : Inv X pins σ H s) : Env0 X.prog X.w X.K X.mg X.base X.A X.stack s H :=
 ⟨I.ok.frames, I.ok.mod, I.bs, Nat.le_trans I.ok.bsz I.sz, I.stack, I.stkFree, I.hok, I.bare⟩
theorem Inv.after {Q : VK} {u : Value} (I : Inv X pins σ H s) (h : CE X.stack X.prog X.w H s Q u s') : EP X pins σ Q u s' := by
 obtain ⟨v, H', os, bare, un, hok, r, q⟩ := h
 obtain ⟨hh, g, d, t, os'⟩ := s'
 obtain rfl : os' = s.os := os
 exact ⟨v, H', I.call (h' := hh) (g' := g) (d' := d) (t' := t) (ch := []) un hok bare (fun b z => absurd z (by simp)), r, q⟩
end
def tCall (sp : Sp) (dvs : List V) (E : XK) (t : TA) : TE := fun σ H Q => t σ H fun vs H1 => sp (vs ++ dvs) H1 Q E
def tMeth (C : Addr) (m : Str) (sp : Sp) (dvs : List V) (E : XK) (ta : TE) (t : TA) : TE := fun σ H Q => ta σ H fun x H1 => ∃ a dx fs, x = .ref a /\ H1 a = some (.ins C dx fs) /\ fs.lookup m = none /\
 t σ H1 fun vs H2 => sp (x :: (vs ++ dvs)) H2 Q E
def tMake (C : Addr) (sp : Sp) (dvs : List V) (E : XK) (t : TA) : TE := fun σ H Q => t σ H fun vs H1 => ∀ x dx, H1 x = none -> H1 dx = none -> dx ≠ x ->
 sp (.ref x :: (vs ++ dvs)) (upd (upd H1 dx (.own x)) x (.ins C dx [])) (fun v H2 => v = .non /\ Q (.ref x) H2) E
def Binds (K : PySem.W.Frag) (fd : FuncData) (ps : List Str) (ds : List Value) : Prop :=
 ∀ (s : Shared) (us : List Value), K.In s.heap -> (us ++ ds).length = ps.length -> BindsTo s fd ⟨us, []⟩ (ps.zip (us ++ ds))
theorem Binds.all {K : PySem.W.Frag} {fd : FuncData} {ps : List Str} (h : ∀ us : List Value, us.length = ps.length -> bindArgs fd ⟨us, []⟩ = pure (ps.zip us)) : Binds K fd ps [] := fun s us _ hl => by
 rw [List.append_nil] at hl ⊢
 exact .of_eq (h us hl)
def Passes (CX : CXT) (X : Cx) (E : XK) : Prop := ∀ (pins : List (Addr × Obj)) (σ : St) (H : Hp) (s : Shared) (e : Value) (s' : Shared), Inv X pins σ H s -> CX X.stack H s E e s' -> X.xe e s'
section
variable {X : Cx} {CX : CXT} {k : Nat} {f C : Addr} {fd : FuncData} {ps : List Str} {sp : Sp} {dvs : List V} {ds : List Value} {E : XK} {x m : Str} {p pos apos : Pos} {e o : Expr} {es : List Expr} {ta : TE} {t : TA}
theorem run_fn {pins : List (Addr × Obj)} {σ : St} {H : Hp} {s : Shared} {Q : VK} {us : List Value} {vs : List V} (F : FnOk X.prog X.w X.K X.mg X.base CX k f fd ps sp) (hr : Room k X.A) (hb : Binds X.K fd ps ds) (hd : Vals dvs ds) (hx : Passes CX X E)
  (I : Inv X pins σ H s) (r : Vals vs us) (h : sp (vs ++ dvs) H Q E) : wpAny (model X.prog X.w) X.A (call (.ref f) us) (EP X pins σ Q) X.xe s := by
 have r2 : Vals (vs ++ dvs) (us ++ ds) := r.append hd
 have hl : (us ++ ds).length = ps.length := by rw [<- r2.length]; exact F.len _ _ _ _ h
 refine wpAny_call (codeAny_mono (F.run X.A X.stack s H ⟨us, []⟩ (us ++ ds) (vs ++ dvs) Q E hr I.env0 (hb s us I.kIn hl) r2 h) fun r s' hq => ?_)
 cases r with
 | error e => exact hx pins σ H s e s' I hq
 | ok fl =>
  cases fl with
  | ret u => exact I.after hq
  | next => exact False.elim hq
  | brk => exact False.elim hq
  | cont => exact False.elim hq
theorem pe_call (F : FnOk X.prog X.w X.K X.mg X.base CX k f fd ps sp) (hr : Room k X.A) (hg : Gl X x) (hm : X.mg x = some (.ref f)) (hk : PySem.W.keepIn X.K (.ref f) = true) (hb : Binds X.K fd ps ds) (hd : Vals dvs ds) (hx : Passes CX X E)
  (ha : PA X (e :: es) t) (hdb : (x == ("__debug__" : Str)) = false := by decide) (he : starEach (e :: es) X.env = (false, eval e X.env) :: starEach es X.env := by rfl) (hpl : (backTo pos (starEach es X.env)).any (·.1) = false := by rfl) :
  PE X (.Call (.Name x p) (e :: es) [] pos) (tCall sp dvs E t) := by
 intro pins s σ H Q I h
 refine wpAny_Call_Name_kw (ld_glob I hg hm ?_ hdb)
 refine PySem.W.callWith_K (h₀ := X.base) I.ok.mod.kin hk (thn (ha pos pins s σ H _ I h) fun us s1 ⟨vs, H1, I1, r, q⟩ => ⟨I1.kIn, ?_⟩) he hpl
 exact run_fn F hr hb hd hx I1 r q
theorem pe_meth {pl : Sem Bool} (he : PE X o ta) (c : Cls X.K C) (hm : Meth X.K C m f) (F : FnOk X.prog X.w X.K X.mg X.base CX k f fd ps sp) (hr : Room k X.A) (hb : Binds X.K fd ps ds) (hd : Vals dvs ds) (hx : Passes CX X E) (ha : PA X (e :: es) t)
  (hst : starEach (e :: es) X.env = (false, eval e X.env) :: starEach es X.env := by rfl) (hpl : (backTo pos (starEach es X.env)).any (·.1) = false := by rfl)
  (ht : eval (.Call (.Attribute o m apos) (e :: es) [] pos) X.env = (do
   let ov <- eval o X.env
   standAt apos.atName
   let (f, first) <- holding [ov] (getMethod ov m pl)
   callWith pos f first (backTo pos (starEach (e :: es) X.env)) (backToKw pos (keywordEach [] X.env))) := by rfl) :
  PE X (.Call (.Attribute o m apos) (e :: es) [] pos) (tMeth C m sp dvs E ta t) := by
 intro pins s σ H Q I h
 refine PySem.W.methodCall_KW (pl := pl) (thn (he pins s σ H _ I h) fun u s1 ⟨x, H1, I1, rx, a, dx, fs, ex, ea, l, q⟩ => ?_) ht
 subst ex
 obtain rfl : u = Value.ref a := rx
 refine getmeth_ok I1 ea c hm l ?_
 refine PySem.W.callWith_K (first := [.ref a]) (h₀ := X.base) I.ok.mod.kin hm.kp (thn (ha pos pins s1 σ H1 _ I1 q) fun us s2 ⟨vs, H2, I2, r, q2⟩ => ⟨I2.kIn, ?_⟩) hst hpl
 exact run_fn (us := .ref a :: us) (vs := .ref a :: vs) F hr hb hd hx I2 (.cons rfl r) q2
theorem pe_meth0 {pl : Sem Bool} (he : PE X o ta) (c : Cls X.K C) (hm : Meth X.K C m f) (F : FnOk X.prog X.w X.K X.mg X.base CX k f fd ps sp) (hr : Room k X.A) (hb : Binds X.K fd ps ds) (hd : Vals dvs ds) (hx : Passes CX X E)
  (ht : eval (.Call (.Attribute o m apos) [] [] pos) X.env = (do
   let ov <- eval o X.env
   standAt apos.atName
   let (f, first) <- holding [ov] (getMethod ov m pl)
   callWith pos f first (backTo pos (starEach [] X.env)) (backToKw pos (keywordEach [] X.env))) := by rfl) :
  PE X (.Call (.Attribute o m apos) [] [] pos) (tMeth C m sp dvs E ta tNil) := by
 intro pins s σ H Q I h
 refine PySem.W.methodCall_KW (pl := pl) (thn (he pins s σ H _ I h) fun u s1 ⟨x, H1, I1, rx, a, dx, fs, ex, ea, l, q⟩ => ?_) ht
 subst ex
 obtain rfl : u = Value.ref a := rx
 refine getmeth_ok I1 ea c hm l ?_
 exact PySem.W.callWith_K0 (first := [.ref a]) I1.kIn hm.kp (run_fn (us := [.ref a]) (vs := [.ref a]) F hr hb hd hx I1 (.cons rfl .nil) q)
structure Mk (K : PySem.W.Frag) (C f : Addr) : Prop where
 makes : PySem.W.makesIn K C = true
 init : PySem.W.findIn K (.ref C) "__init__" = some (some (.ref f))
 fn : PySem.W.isFn K (.ref f) = true
 kp : PySem.W.keepIn K (.ref C) = true
theorem run_make {pins : List (Addr × Obj)} {σ : St} {H : Hp} {s : Shared} {Q : VK} {us : List Value} {vs : List V} (M : Mk X.K C f) (F : FnOk X.prog X.w X.K X.mg X.base CX k f fd ps sp) (hr : Room (k + 1) X.A) (hb : Binds X.K fd ps ds) (hd : Vals dvs ds)
  (hx : Passes CX X E) (I : Inv X pins σ H s) (r : Vals vs us)
  (h : ∀ x dx, H x = none -> H dx = none -> dx ≠ x -> sp (.ref x :: (vs ++ dvs)) (upd (upd H dx (.own x)) x (.ins C dx [])) (fun v H2 => v = .non /\ Q (.ref x) H2) E) :
  wpAny (model X.prog X.w) X.A (call (.ref C) us) (EP X pins σ Q) X.xe s := by
 have hq := h (s.heap.objs.size + 1) s.heap.objs.size (I.hok.fresh (Nat.le_succ _)) (I.hok.fresh (Nat.le_refl _)) (Nat.ne_of_lt (Nat.lt_succ_self _))
 have I2 := Inv.made (C := C) I
 have r2 : Vals (V.ref (s.heap.objs.size + 1) :: (vs ++ dvs)) (Value.ref (s.heap.objs.size + 1) :: (us ++ ds)) := .cons rfl (r.append hd)
 have hl : (Value.ref (s.heap.objs.size + 1) :: us ++ ds).length = ps.length := by
  have e := r2.length
  rw [F.len _ _ _ _ hq] at e
  exact e.symm
 refine wpAny_call (make_map (f := f) I.kIn M.makes M.init (beq_iff_eq.mp M.fn) (codeAny_mono (F.run _ X.stack _ _ ⟨Value.ref (s.heap.objs.size + 1) :: us, []⟩ (Value.ref (s.heap.objs.size + 1) :: (us ++ ds)) _ _ E (hr.make C us [])
  (I2.env0.make C us []) (hb _ (Value.ref (s.heap.objs.size + 1) :: us) I2.kIn hl) r2 hq) fun r s' hq' => ?_))
 cases r with
 | error e => exact hx pins σ _ _ e s' I2 hq'
 | ok fl =>
  cases fl with
  | ret u =>
   obtain ⟨v, H', I3, rv, ev, q3⟩ := I2.after hq'
   subst ev
   exact ⟨rv, ⟨V.ref (s.heap.objs.size + 1), H', I3, rfl, q3⟩⟩
  | next => exact False.elim hq'
  | brk => exact False.elim hq'
  | cont => exact False.elim hq'
theorem pe_make (M : Mk X.K C f) (F : FnOk X.prog X.w X.K X.mg X.base CX k f fd ps sp) (hr : Room (k + 1) X.A) (hg : Gl X x) (hm : X.mg x = some (.ref C)) (hb : Binds X.K fd ps ds) (hd : Vals dvs ds) (hx : Passes CX X E)
  (ha : PA X (e :: es) t) (hdb : (x == ("__debug__" : Str)) = false := by decide) (he : starEach (e :: es) X.env = (false, eval e X.env) :: starEach es X.env := by rfl) (hpl : (backTo pos (starEach es X.env)).any (·.1) = false := by rfl) :
  PE X (.Call (.Name x p) (e :: es) [] pos) (tMake C sp dvs E t) := by
 intro pins s σ H Q I h
 refine wpAny_Call_Name_kw (ld_glob I hg hm ?_ hdb)
 refine PySem.W.callWith_K (h₀ := X.base) I.ok.mod.kin M.kp (thn (ha pos pins s σ H _ I h) fun us s1 ⟨vs, H1, I1, r, q⟩ => ⟨I1.kIn, ?_⟩) he hpl
 exact run_make M F hr hb hd hx I1 r q
end
section
variable {X : Cx} {CX : CXT} {k : Nat} {f C : Addr} {fd : FuncData} {ps ks : List Str} {sp : Sp} {E : XK} {x m : Str} {p pos apos kpos : Pos} {e o : Expr} {es : List Expr} {kws : List Keyword} {te ta : TE} {t tk : TA} {nm : Option Str}
variable {g : List Value -> List Value -> List Value} {gV : List V -> List V -> List V}
end
structure FnScope (N P : List Str) (sc : Scope) : Prop where
 kind : sc.kind = .function
 co : sc.isCoroutine = false
 gen : sc.isGenerator = false
 nd : N.Nodup
 pre : N.take P.length = P
 par : ∀ x ∈ P, sc.names.lookup x = some .local \/ sc.names.lookup x = some .cell
 nofree : ∀ y ∈ sc.names, y.2 ≠ .free
theorem bindL_out {kindOf : Str -> Option NameKind} {x : Str} : ∀ {binds : List (Str × Value)} {m : Str -> Option Value}, (∀ v, (x, v) ∉ binds) -> bindL kindOf binds m x = m x
 | [], _, _ => rfl
 | (n, v) :: r, m, h => by
  unfold bindL
  rw [bindL_out fun w hw => h w (List.mem_cons_of_mem _ hw)]
  split
  ·have : x ≠ n := by rintro rfl; exact h v List.mem_cons_self
   simp [this]
  ·rfl
theorem bindC_out {kindOf : Str -> Option NameKind} {x : Str} : ∀ {binds : List (Str × Value)} {m : Str -> Option Value}, (∀ v, (x, v) ∉ binds) -> bindC kindOf binds m x = m x
 | [], _, _ => rfl
 | (n, v) :: r, m, h => by
  unfold bindC
  rw [bindC_out fun w hw => h w (List.mem_cons_of_mem _ hw)]
  split
  ·rfl
  ·have : x ≠ n := by rintro rfl; exact h v List.mem_cons_self
   simp [this]
theorem bindL_get {kindOf : Str -> Option NameKind} {x : Str} {v : Value} : ∀ {P : List Str} {vs : List Value} {i : Nat} {m : Str -> Option Value}, P.Nodup -> P[i]? = some x -> vs[i]? = some v -> kindOf x = some .local ->
  bindL kindOf (P.zip vs) m x = some v
 | [], _, _, _, _, h, _, _ => by simp at h
 | _ :: _, [], _, _, _, _, h, _ => by simp at h
 | p :: P, w :: vs, 0, m, nd, h1, h2, hk => by
  simp at h1 h2; subst h1; subst h2
  show bindL kindOf ((p, w) :: P.zip vs) m p = _
  unfold bindL
  rw [bindL_out fun v hv => (List.nodup_cons.mp nd).1 (List.of_mem_zip hv).1, if_pos hk]
  simp
 | p :: P, w :: vs, i + 1, m, nd, h1, h2, hk => by
  show bindL kindOf ((p, w) :: P.zip vs) m x = _
  unfold bindL
  exact bindL_get (i := i) (List.nodup_cons.mp nd).2 (by simpa using h1) (by simpa using h2) hk
theorem bindC_get {kindOf : Str -> Option NameKind} {x : Str} {v : Value} : ∀ {P : List Str} {vs : List Value} {i : Nat} {m : Str -> Option Value}, P.Nodup -> P[i]? = some x -> vs[i]? = some v -> kindOf x ≠ some .local ->
  bindC kindOf (P.zip vs) m x = some v
 | [], _, _, _, _, h, _, _ => by simp at h
 | _ :: _, [], _, _, _, _, h, _ => by simp at h
 | p :: P, w :: vs, 0, m, nd, h1, h2, hk => by
  simp at h1 h2; subst h1; subst h2
  show bindC kindOf ((p, w) :: P.zip vs) m p = _
  unfold bindC
  rw [bindC_out fun v hv => (List.nodup_cons.mp nd).1 (List.of_mem_zip hv).1, if_neg hk]
  simp
 | p :: P, w :: vs, i + 1, m, nd, h1, h2, hk => by
  show bindC kindOf ((p, w) :: P.zip vs) m x = _
  unfold bindC
  exact bindC_get (i := i) (List.nodup_cons.mp nd).2 (by simpa using h1) (by simpa using h2) hk
def start (N : List Str) (vs : List V) : St := vs.map some ++ List.replicate (N.length - vs.length) none
def cxOf (CX : CXT) (P : Program) (w : World) (K : PySem.W.Frag) (mg : Str -> Option Value) (base : Heap) (N : List Str) (qual : Str) (scope : Scope) (f : Addr) (cd : Value) (A : Around) (outer : List Env) (s : Shared) (H : Hp) (E : XK) : Cx where
 prog := P
 w := w
 K := K
 mg := mg
 base := base
 A := A.deeper (envOfC qual scope s.heap.objs.size f cd)
 N := N
 s₀ := s
 H₀ := H
 env := envOfC qual scope s.heap.objs.size f cd
 outer := outer
 stack := envOfC qual scope s.heap.objs.size f cd :: outer
 ex := []
 calm := true
 fn := fun _ => true
 pn := []
 xe := fun e s' => wpAny (model P w) (A.deeper (envOfC qual scope s.heap.objs.size f cd)) (leaving (envOfC qual scope s.heap.objs.size f cd) e) (fun _ s'' => CX outer H s E e s'') (fun e' s'' => CX outer H s E e' s'') s'
theorem cell_has {sc : Scope} {n : Nat} {x : Str} (h : sc.names.lookup x = some .cell) : ∃ c, (cellsFrom n sc.names []).lookup x = some c := by
 have q := PySem.W.cellsFrom_some sc.names n [] (.inl h)
 exact Option.isSome_iff_exists.mp q
theorem inv_start {CX : CXT} {P : Program} {w : World} {K : PySem.W.Frag} {mg : Str -> Option Value} {base : Heap} {N ps : List Str} {qual : Str} {scope : Scope} {f : Addr} {cd : Value} {A : Around} {outer : List Env} {s s1 : Shared} {H : Hp} {E : XK} {us : List Value} {vs : List V}
  (S : FnScope N ps scope) (hd : A.handled = none) (e0 : Env0 P w K mg base A outer s H) (hl : vs.length = ps.length) (r : Vals vs us)
  (x : InCallC s s.heap.objs.size (bindL (envOfC qual scope s.heap.objs.size f cd).kindOf (ps.zip us) fun _ => none) (cellsFrom (s.heap.objs.size + 1) scope.names []) (bindC (envOfC qual scope s.heap.objs.size f cd).kindOf (ps.zip us) fun _ => none) s1) :
  Inv (cxOf CX P w K mg base N qual scope f cd A outer s H E) [] (start N vs) H s1 := by
 have hpl : ps.length <= N.length := by have := congrArg List.length S.pre; rw [List.length_take] at this; omega
 obtain ⟨h1, tk, rfl, hk⟩ := x.done
 have noA : ∀ b : Addr, b ∉ (cxOf CX P w K mg base N qual scope f cd A outer s H E).ex := fun b z => absurd (show b ∈ ([] : List Addr) from z) (by simp)
 refine ⟨⟨e0.mod, S.kind, rfl, rfl, Nat.le_refl _, fun y z c h1 h2 => ?_, fun y hy => ?_, fun y c _ h => ?_, fun _ => hd, Around.frames_deeper e0.frames, .inr ⟨rfl, rfl⟩, fun b z => absurd z (noA b), e0.bs, e0.bsz, fun b _ _ => noA b, fun b z => absurd z (noA b), e0.funs, e0.frf⟩,
  rfl, e0.bare, Un.kept hk, ⟨_, x.toInCall.ns, fun i y v h1 h2 h3 => ?_⟩, fun y c h => ⟨_, x.cell y c h⟩, e0.hok.fresh (Nat.le_refl _), fun y c h => ?_, fun p hp => absurd (show p ∈ ([] : List (Addr × Obj)) from hp) (by simp), e0.hok.kept hk, ?_⟩
 ·exact name_of_addr x.apart (PySem.mem_of_lookup h1) (PySem.mem_of_lookup h2)
 ·have hy : scope.names.lookup y = some .cell \/ scope.names.lookup y = some .free := hy
  rcases hy with hy | hy
  ·exact cell_has hy
  ·exact absurd rfl (S.nofree _ (PySem.mem_of_lookup hy))
 ·exact Nat.le_of_lt (x.above y c (PySem.mem_of_lookup h))
 ·have hi : i < vs.length := by
   unfold start at h2
   by_cases hi : i < vs.length
   ·exact hi
   ·rw [List.getElem?_append_right (by simpa using hi)] at h2
    rw [List.getElem?_replicate] at h2
    split at h2 <;> cases h2
  have ha : vs[i]? = some v := by
   unfold start at h2
   rw [List.getElem?_append_left (by simpa using hi), List.getElem?_map] at h2
   cases e : vs[i]? with
   | none => rw [e] at h2; cases h2
   | some a => rw [e] at h2; cases h2; rfl
  obtain ⟨u, hu, rv⟩ := r.get ha
  have hp : ps[i]? = some y := by
   rw [<- S.pre, List.getElem?_take_of_lt (by omega)]; exact h1
  have ndP : ps.Nodup := by rw [<- S.pre]; exact S.nd.sublist (List.take_sublist _ _)
  refine ⟨u, rv, ?_⟩
  rcases S.par y (List.mem_of_getElem? hp) with k | k
  ·exact .inl ⟨k, bindL_get ndP hp hu k⟩
  ·obtain ⟨c, e⟩ := cell_has (n := s.heap.objs.size + 1) k
   refine .inr ⟨.inl k, c, e, ?_⟩
   have q := x.cell y c e
   rw [bindC_get ndP hp hu (by show scope.names.lookup y ≠ _; rw [k]; decide)] at q
   exact q
 ·exact e0.hok.fresh (Nat.le_of_lt (x.above y c (PySem.mem_of_lookup h)))
 ·unfold start
  show _ = N.length
  rw [List.length_append, List.length_map, List.length_replicate]
  omega
theorem fn_of {CX : CXT} {P : Program} {w : World} {K : PySem.W.Frag} {mg : Str -> Option Value} {base : Heap} {k : Nat} {f : Addr} {name qual : Str} {params : Arguments} {body : List Stmt} {scope : Scope} {dV kV doc pm cdv ct oc : Value} {an od : Option Addr}
  {osl : Array (Option Value)} {N ps : List Str} {sp : Sp} (lk : K.lookup f = some ⟨oc, od, .func (PySem.W.fnOf name qual params body scope dV kV doc pm an cdv ct), osl⟩) (hcd : PySem.W.codeIn K cdv qual = true) (S : FnScope N ps scope)
  (len : ∀ vs H Q E, sp vs H Q E -> vs.length = ps.length)
  (hbody : ∀ (A : Around) (outer : List Env) (s : Shared) (H : Hp) (vs : List V) (Q : VK) (E : XK), Room k (A.deeper (envOfC qual scope s.heap.objs.size f cdv)) -> sp vs H Q E ->
   ∃ t, PSs (cxOf CX P w K mg base N qual scope f cdv A outer s H E) body t /\ t { nx := fun _ H' => Q .non H', rt := Q } (start N vs) H) :
  FnOk P w K mg base CX (k + 1) f (PySem.W.fnOf name qual params body scope dV kV doc pm an cdv ct) ps sp := by
 refine ⟨len, fun A outer s H args us vs Q E hr e0 hb r hsp => ?_⟩
 have hl := len _ _ _ _ hsp
 have KX : K.In s.heap := e0.mod.kin.keeps fun b o e => (e0.bs b o e).1
 have lim : s.heap.NoLimit := e0.mod.nolimit.keeps fun b o e => (e0.bs b o e).1
 have hkind : ∀ y ∈ ps.zip us, scope.names.lookup y.1 = some .local \/ (scope.names.lookup y.1 = some .cell /\ ((cellsFrom (s.heap.objs.size + 1) scope.names []).lookup y.1).isSome = true) := fun ⟨n, v⟩ hy => by
  rcases S.par n (List.of_mem_zip hy).1 with q | q
  ·exact .inl q
  ·exact .inr ⟨q, PySem.W.cellsFrom_some _ _ _ (.inl q)⟩
 refine codeAny_call_function hr.depth (KX _ _ lk) rfl S.co S.gen rfl (PySem.W.codeRec_of KX hcd) (hb _ _ _ _ ?_)
 refine wpAny_newFunctionEnv_cells S.kind hkind fun env he s1 x => ?_
 subst he
 refine ⟨lim.keeps x.toInCall.keep, codeAny_func ?_⟩
 obtain ⟨t, ht, hq⟩ := hbody A outer s H vs Q E (hr.deeper _) hsp
 have I : Inv (cxOf CX P w K mg base N qual scope f cdv A outer s H E) [] (start N vs) H s1 := inv_start S hr.hd e0 hl r x
 refine wpAny_mono (ht [] s1 (start N vs) H _ I hq) (fun fl s' hs => ?_) fun e s' hs => hs
 have fin : ∀ {σ' : St} {H' : Hp} {v : V} {u : Value}, Inv (cxOf CX P w K mg base N qual scope f cdv A outer s H E) [] σ' H' s' -> RelV v u -> Q v H' -> CE outer P w H s Q u s' :=
  fun {σ' H' v u} J rv q => ⟨v, H', J.os, J.bare, J.base, J.hok, rv, q⟩
 cases fl with
 | ret u =>
  obtain ⟨v, σ', H', J, rv, q⟩ := hs
  exact fin J rv q
 | next =>
  obtain ⟨σ', H', J, q⟩ := hs
  exact fin (v := V.non) (u := Value.none) J rfl q
 | brk =>
  obtain ⟨_, _, _, q⟩ := hs
  exact False.elim q
 | cont =>
  obtain ⟨_, _, _, q⟩ := hs
  exact False.elim q
section
variable {X : Cx} {x : Str} {p pos : Pos} {e : Expr} {es : List Expr} {t : TA} {id T : String} {r : List V -> Hp -> VK -> Prop}
def tCB (r : List V -> Hp -> VK -> Prop) (t : TA) : TE := fun σ H Q => t σ H fun vs H1 => r vs H1 Q
theorem pe_callB (hc : CallR X (.builtin id) r) (hg : Gl X x) (hm : X.mg x = none) (hv : bootBuiltins x = some (.builtin id)) (ha : PA X (e :: es) t) (hn : x ≠ "__name__" := by decide) (hdb : (x == ("__debug__" : Str)) = false := by decide)
  (he : starEach (e :: es) X.env = (false, eval e X.env) :: starEach es X.env := by rfl) (hpl : (backTo pos (starEach es X.env)).any (·.1) = false := by rfl) : PE X (.Call (.Name x p) (e :: es) [] pos) (tCB r t) := by
 intro pins s σ H Q I h
 refine wpAny_Call_Name_kw (ld_blt I hg hm hv ?_ hn hdb)
 exact PyProof.Rows.callWith_builtin1 (thn (ha pos pins s σ H _ I h) fun us s1 ⟨vs, H1, I1, r1, q1⟩ => hc pins s1 σ H1 vs us Q I1 r1 q1) he hpl
theorem pe_callTy (hc : CallR X (.type T) r) (hg : Gl X x) (hm : X.mg x = none) (hv : bootBuiltins x = some (.type T)) (ha : PA X (e :: es) t) (hn : x ≠ "__name__" := by decide) (hdb : (x == ("__debug__" : Str)) = false := by decide)
  (he : starEach (e :: es) X.env = (false, eval e X.env) :: starEach es X.env := by rfl) (hpl : (backTo pos (starEach es X.env)).any (·.1) = false := by rfl) : PE X (.Call (.Name x p) (e :: es) [] pos) (tCB r t) := by
 intro pins s σ H Q I h
 refine wpAny_Call_Name_kw (ld_blt I hg hm hv ?_ hn hdb)
 exact PyProof.Rows.callWith_type1 (thn (ha pos pins s σ H _ I h) fun us s1 ⟨vs, H1, I1, r1, q1⟩ => hc pins s1 σ H1 vs us Q I1 r1 q1) he hpl
end
end L2
namespace HT
open PySem PyProof.Rows
section
open PySem.SeqAt
open PySem.AutoSeq1 (wpAny_loadPart')
open PySem.MeetsSeq PySem.MeetsSeq2 PySem.MeetsSeq3
end
section
variable {prog : Program} {w : World} {A : Around} {E : Value -> Shared -> Prop} {s : Shared}
def sIx (n d : Nat) : Option Int -> Nat
 | none => d
 | some v => if v < 0 then (v + (n : Int)).toNat else min v.toNat n
theorem sIx_none (n d : Nat) : sIx n d none = d := rfl
theorem sIx_nat (n d k : Nat) : sIx n d (some (k : Int)) = min k n := by
 show (if (k : Int) < 0 then ((k : Int) + (n : Int)).toNat else min (k : Int).toNat n) = min k n
 rw [if_neg (by omega), Int.toNat_natCast]
end
end HT
namespace L2
open PySem PySem.Spec PyProof.Rows
abbrev TO := St -> Hp -> (Option Int -> Hp -> Prop) -> Prop
def PO (X : Cx) (e : Option Expr) (t : TO) : Prop :=
 ∀ (pins : List (Addr × Obj)) (s : Shared) (σ : St) (H : Hp) (Q : Option Int -> Hp -> Prop), Inv X pins σ H s -> t σ H Q ->
  wpAny (model X.prog X.w) X.A (evalPart e X.env) (fun u s' => ∃ o H', Inv X pins σ H' s' /\ IsPart u o /\ Q o H') X.xe s
def tNoPart : TO := fun _ H Q => Q none H
def tPart (t : TE) : TO := fun σ H Q => t σ H fun x H1 => ∃ i, x = .int i /\ Q (some i) H1
section
variable {X : Cx} {e : Expr} {te : TE} {lo hi : Option Expr} {tl th : TO} {pos p2 : Pos}
theorem po_none : PO X none tNoPart := by
 intro pins s σ H Q I h
 rw [evalPart_none]
 exact wpAny_pure ⟨none, H, I, .none, h⟩
theorem po_some (h : PE X e te) : PO X (some e) (tPart te) := by
 intro pins s σ H Q I hw
 rw [evalPart_some]
 refine thn (h pins s σ H _ I hw) fun u s1 ⟨x, H1, I1, r1, q1⟩ => ?_
 obtain ⟨i, rfl, q⟩ := q1
 obtain ⟨t, rfl⟩ := r1
 exact ⟨some i, H1, I1, .int i t, q⟩
def SlR (X : Cx) (r : V -> Option Int -> Option Int -> Hp -> VK -> Prop) : Prop :=
 ∀ (pins : List (Addr × Obj)) (s : Shared) (σ : St) (H : Hp) (x : V) (v vl vu : Value) (lo hi : Option Int) (sl : Addr) (Q : VK), Inv X pins σ H s -> RelV x v -> s.heap.IsSliceOf sl vl vu .none -> IsPart vl lo -> IsPart vu hi -> r x lo hi H Q ->
  ∃ T id, typeLookup (.type T) "__getitem__" = pure (some (.builtin id)) /\ s.TypeIs v T /\ wpAny (model X.prog X.w) X.A (getItem v (.ref sl)) (EP X pins σ Q) X.xe s
def tSl (r : V -> Option Int -> Option Int -> Hp -> VK -> Prop) (te : TE) (tl th : TO) : TE := fun σ H Q => te σ H fun x H1 => tl σ H1 fun l H2 => th σ H2 fun u H3 => r x l u H3 Q
theorem pe_slice {r : V -> Option Int -> Option Int -> Hp -> VK -> Prop} (hr : SlR X r) (he : PE X e te) (hl : PO X lo tl) (hu : PO X hi th) : PE X (.Subscript e (.Slice lo hi none p2) pos) (tSl r te tl th) := by
 intro pins s σ H Q I h
 refine Subscript_ (thn (he pins s σ H _ I h) fun v s1 ⟨x, H1, I1, r1, q1⟩ => ?_)
 refine wpAny_Slice (thn (hl pins s1 σ H1 _ I1 q1) fun vl s2 ⟨l, H2, I2, pl, q2⟩ => thn (hu pins s2 σ H2 _ I2 q2) fun vu s3 ⟨u, H3, I3, pu, q3⟩ => ?_)
 rw [evalPart_none]
 refine wpAny_pure ?_
 have I4 : Inv X pins σ H3 { s3 with heap := s3.heap.push { cls := .type "slice", data := .fields #[vl, vu, .none] } } := I3.kept (t' := s3.toks) fun b ob q => Heap.get?_push_of_some _ q
 obtain ⟨T, id, hT, ht, hg⟩ := hr pins { s3 with heap := s3.heap.push { cls := .type "slice", data := .fields #[vl, vu, .none] } } σ H3 x v vl vu l u s3.heap.objs.size Q I4 r1 (Heap.IsSliceOf.new ..) pl pu q3
 show wpAny (model X.prog X.w) X.A (subscriptTail e (.Slice lo hi none p2) v (.ref s3.heap.objs.size)) (EP X pins σ Q) X.xe { s3 with heap := s3.heap.push { cls := .type "slice", data := .fields #[vl, vu, .none] } }
 exact tail_any (ops := [.ref s3.heap.objs.size, v]) ht hT hg (by with_unfolding_all rfl)
def cutV (xs : List V) (lo hi : Option Int) : List V := (xs.drop (HT.sIx xs.length 0 lo)).take (HT.sIx xs.length xs.length hi - HT.sIx xs.length 0 lo)
theorem cutV_length (xs : List V) (lo hi : Option Int) : (cutV xs lo hi).length <= xs.length := by
 unfold cutV
 rw [List.length_take, List.length_drop]
 omega
end
def ixN (n : Nat) (i : Int) : Option Nat := if 0 <= i then (if i < n then some i.toNat else none) else if -(n : Int) <= i then some (i + n).toNat else none
def atI {α : Type} (xs : List α) (i : Int) : Option α := (ixN xs.length i).bind fun j => xs[j]?
theorem ixN_seq {n : Nat} {i : Int} {j : Nat} (h : ixN n i = some j) : seqIndex? i n = some j /\ j < n /\ -(n : Int) <= i /\ i < n := by
 unfold ixN at h
 by_cases h0 : 0 <= i
 ·rw [if_pos h0] at h
  by_cases h1 : i < n
  ·rw [if_pos h1] at h
   have e : i.toNat = j := Option.some.inj h
   exact ⟨by rw [seqIndex_of h0 h1, e], by omega, by omega, h1⟩
  ·rw [if_neg h1] at h; cases h
 ·rw [if_neg h0] at h
  by_cases h1 : -(n : Int) <= i
  ·rw [if_pos h1] at h
   have e : (i + n).toNat = j := Option.some.inj h
   exact ⟨by rw [seqIndex_neg (by omega) h1, e], by omega, h1, by omega⟩
  ·rw [if_neg h1] at h; cases h
theorem atI_get {α : Type} {xs : List α} {i : Int} {v : α} (h : atI xs i = some v) : ∃ j, seqIndex? i xs.length = some j /\ xs[j]? = some v /\ j < xs.length /\ -(xs.length : Int) <= i /\ i < xs.length := by
 unfold atI at h
 cases e : ixN xs.length i with
 | none => rw [e] at h; cases h
 | some j =>
  rw [e] at h
  obtain ⟨h1, h2, h3, h4⟩ := ixN_seq e
  exact ⟨j, h1, h, h2, h3, h4⟩
theorem atI_nat {α : Type} {xs : List α} {j : Nat} {v : α} (h : xs[j]? = some v) : atI xs (j : Int) = some v := by
 have hj : j < xs.length := (List.getElem?_eq_some_iff.mp h).1
 have e : ixN xs.length (j : Int) = some j := by
  unfold ixN
  rw [if_pos (by omega), if_pos (by omega)]; simp
 unfold atI; rw [e]; exact h
theorem atI_last {α : Type} (xs : List α) (v : α) : atI (xs ++ [v]) (-1) = some v := by
 have hl : (xs ++ [v]).length = xs.length + 1 := by simp
 have e : ixN (xs ++ [v]).length (-1) = some xs.length := by
  unfold ixN
  rw [hl, if_neg (by decide), if_pos (by omega)]
  congr 1
  omega
 unfold atI
 rw [e]
 show (xs ++ [v])[xs.length]? = some v
 simp
def PlainIx (b : Expr) : Prop := ∀ o i, subscripted b false o i = operate [o, i] (getItem o i)
def IxR (X : Cx) (r : R2) : Prop :=
 ∀ (value slice : Expr) (pins : List (Addr × Obj)) (s : Shared) (σ : St) (H : Hp) (x y : V) (v u : Value) (Q : VK), Inv X pins σ H s -> RelV x v -> RelV y u -> r x y H Q ->
  subscripted slice false v u = operate [v, u] (getItem v u) -> wpAny (model X.prog X.w) X.A (subscriptTail value slice v u) (EP X pins σ Q) X.xe s
def MtR (X : Cx) (id : String) (r : V -> List V -> Hp -> VK -> Prop) : Prop :=
 ∀ (pins : List (Addr × Obj)) (s : Shared) (σ : St) (H : Hp) (x : V) (xs : List V) (v : Value) (us : List Value) (Q : VK), Inv X pins σ H s -> RelV x v -> Vals xs us -> r x xs H Q ->
  wpAny (model X.prog X.w) X.A (call (.builtin id) (v :: us)) (EP X pins σ Q) X.xe s
section
variable {X : Cx} {a b : Expr} {ta tb : TE} {pos : Pos}
theorem pe_ix {r : R2} (hr : IxR X r) (ha : PE X a ta) (hb : PE X b tb) (hs : PlainIx b) : PE X (.Subscript a b pos) (tOp r ta tb) := by
 intro pins s σ H Q I h
 exact Subscript_ (binT ha hb I h fun v u s2 x y H2 I2 rx ry q => hr a b pins s2 σ H2 x y v u Q I2 rx ry q (hs _ _))
def rIxL (K : PySem.W.Frag) : R2 := fun x y H Q => ∃ p xs i v, x = .ref p /\ y = .int i /\ SqL K H p xs /\ atI xs i = some v /\ Q v H
def rIxT (K : PySem.W.Frag) : R2 := fun x y H Q => ∃ p xs i v, x = .ref p /\ y = .int i /\ SqT K H p xs /\ atI xs i = some v /\ Q v H
def rIxS : R2 := fun x y H Q => ∃ z i c, x = .str z /\ y = .int i /\ z.length <= sizeLine /\ atI z.cps.toList i = some c /\ Q (.str ⟨#[c]⟩) H
theorem ix_list : IxR X (rIxL X.K) := by
 intro value slice pins s σ H x y v u Q I rx ry h hs
 obtain ⟨p, xs, i, z, rfl, rfl, hq, he, q⟩ := h
 cases rx
 obtain ⟨t, rfl⟩ := ry
 obtain ⟨its, r, pl, hz⟩ := I.list hq
 obtain ⟨j, h1, h2, h3, h4, h5⟩ := atI_get he
 obtain ⟨w, ew, rw'⟩ := r.get h2
 have hl := r.length
 have hn := line63
 have fin : EP X pins σ Q w s := ⟨z, H, I, rw', q⟩
 by_cases h0 : 0 <= i
 ·have hj : i.toNat = j := by
   rw [seqIndex_of h0 h5] at h1
   exact Option.some.inj h1
  exact item_listR pl.isList h0 (by omega) (by rw [hj]; simpa using ew) fin hs
 ·have hj : (i + (its.toArray.size : Int)).toNat = j := by
   rw [seqIndex_neg (by omega) h4] at h1
   rw [List.size_toArray, <- hl]
   exact Option.some.inj h1
  exact subscriptTail_builtinR (x := w) pl.isList.typeIs slot_list_getitem.lookup
   (wpAny_getItem_list_neg (Q := fun r s' => r = w /\ EP X pins σ Q r s') pl.isList (by omega) (by rw [List.size_toArray] <;> omega) (by omega) (by rw [hj]; simpa using ew) ⟨rfl, fin⟩) hs
theorem ix_tup : IxR X (rIxT X.K) := by
 intro value slice pins s σ H x y v u Q I rx ry h hs
 obtain ⟨p, xs, i, z, rfl, rfl, hq, he, q⟩ := h
 cases rx
 obtain ⟨t, rfl⟩ := ry
 obtain ⟨its, r, pl, hz⟩ := I.tuple hq
 obtain ⟨j, h1, h2, h3, h4, h5⟩ := atI_get he
 obtain ⟨w, ew, rw'⟩ := r.get h2
 have hl := r.length
 have hn := line63
 have fin : EP X pins σ Q w s := ⟨z, H, I, rw', q⟩
 exact subscriptTail_builtinR (x := w) pl.typeIs slot_tuple_getitem.lookup
  (getItem_tuple (j := j) (Q := fun r s' => r = w /\ EP X pins σ Q r s') pl (by omega) (by omega) (by rw [List.size_toArray, <- hl]; exact h1) (by simpa using ew) ⟨rfl, fin⟩) hs
theorem ix_str : IxR X rIxS := by
 intro value slice pins s σ H x y v u Q I rx ry h hs
 obtain ⟨z, i, c, rfl, rfl, hz, he, q⟩ := h
 obtain ⟨t, rfl⟩ := rx
 obtain ⟨t', rfl⟩ := ry
 obtain ⟨j, h1, h2, h3, h4, h5⟩ := atI_get he
 have hl : z.cps.toList.length = z.length := by simp [Str.length]
 rw [hl] at h1 h4 h5
 have hn := line63
 exact tail_any (typeIs_str s z t) slot_str_getitem.lookup (getItem_str (c := c) (by
  have e1 : decide (i < -(2 ^ 63 : Int)) = false := decide_eq_false (by omega)
  have e2 : decide (i ≥ 2 ^ 63) = false := decide_eq_false (by omega)
  rw [e1, e2, Bool.or_false]) (by rw [h1]; simpa using h2) ⟨.str ⟨#[c]⟩, H, I.tok _, ⟨_, rfl⟩, q⟩) hs
theorem Inv.lst {pins : List (Addr × Obj)} {σ : St} {H : Hp} {s : Shared} {p : Addr} {xs : List V} (I : Inv X pins σ H s) (h : H p = some (.lst xs)) :
  ∃ (its : List Value) (n : Nat), Vals xs its /\ s.heap.get? p = some { cls := .type "list", data := .seq its.toArray n } /\ xs.length <= sizeLine := by
 obtain ⟨z, its, n, r, e⟩ := I.hok p _ h
 exact ⟨its, n, r, e, z⟩
theorem slice_bounds (lo hi : Option Int) (n : Nat) : (sliceBounds lo hi none n).1 = ((HT.sIx n 0 lo : Nat) : Int) /\ (sliceBounds lo hi none n).2.1 = ((HT.sIx n n hi : Nat) : Int) /\ (sliceBounds lo hi none n).2.2 = 1 := by
 refine ⟨?_, ?_, rfl⟩
 ·cases lo with
  | none => simp [sliceBounds, HT.sIx]
  | some i =>
   simp only [sliceBounds, HT.sIx, Option.getD_none, show (1 : Int) > 0 by decide, if_true]
   by_cases h : i < 0
   ·simp only [h, if_true] <;> omega
   ·simp only [h, if_false] <;> omega
 ·cases hi with
  | none => simp [sliceBounds, HT.sIx]
  | some i =>
   simp only [sliceBounds, HT.sIx, Option.getD_none, show (1 : Int) > 0 by decide, if_true]
   by_cases h : i < 0
   ·simp only [h, if_true] <;> omega
   ·simp only [h, if_false] <;> omega
theorem slicePick_cut (its : List Value) (lo hi : Option Int) : slicePick its.toArray lo hi none = ((its.drop (HT.sIx its.length 0 lo)).take (HT.sIx its.length its.length hi - HT.sIx its.length 0 lo)).toArray := by
 obtain ⟨h1, h2, h3⟩ := slice_bounds lo hi its.toArray.size
 unfold slicePick
 rw [h1, h2, h3]
 simp only [sliceRange_one, pick_run, List.size_toArray] <;> rfl
def rSlL (K : PySem.W.Frag) : V -> Option Int -> Option Int -> Hp -> VK -> Prop := fun x lo hi H Q => ∃ a xs, x = .ref a /\ SqL K H a xs /\ ∀ p, H p = none -> Q (.ref p) (upd H p (.lst (cutV xs lo hi)))
theorem sl_list : SlR X (rSlL X.K) := by
 intro pins s σ H x v vl vu lo hi sl Q I rx hs pl pu h
 obtain ⟨a, xs, rfl, hx, q⟩ := h
 cases rx
 obtain ⟨its, r, ht, hz⟩ := I.list hx
 have hlen := r.length
 refine ⟨"list", _, slot_list_getitem.lookup, ht.isList.typeIs, ?_⟩
 refine wpAny_getItem_list_slice ht.isList hs pl pu .none (by simp) ?_ (by rw [List.size_toArray] <;> omega)
 rw [slicePick_cut, <- hlen]
 refine ⟨.ref s.heap.objs.size, _, I.laid (t' := s.toks) (o := .lst (cutV xs lo hi)) (fun b ob q => Heap.get?_push_of_some _ q) (Nat.le_refl _) ?_, rfl, q _ (I.hok.fresh (Nat.le_refl _))⟩
 exact ⟨Nat.le_trans (cutV_length xs lo hi) hz, _, 0, (r.drop (HT.sIx xs.length 0 lo)).take (HT.sIx xs.length xs.length hi - HT.sIx xs.length 0 lo), Heap.get?_push_size _ rfl⟩
def flatV : V -> Bool
 | .non => true
 | .bl _ => true
 | .int _ => true
 | .str _ => true
 | _ => false
def eqV : V -> V -> Bool
 | .non, .non => true
 | .bl a, .bl b => a == b
 | .bl a, .int b => (if a then 1 else 0) == b
 | .int a, .bl b => a == (if b then 1 else 0)
 | .int a, .int b => a == b
 | .str a, .str b => a == b
 | _, _ => false
theorem eqAt_V {A : Around} {s : Shared} {y x : V} {u v : Value} (ry : RelV y u) (rx : RelV x v) (fy : flatV y = true) (fx : flatV x = true) : SeqAt.EqAt A s u v (eqV y x) := by
 cases y with
 | non =>
  cases ry
  cases x with
  | non => cases rx; exact SeqAt.EqAt.same _
  | bl b => cases rx; exact SeqAt.EqAt.none_bool b
  | int b => obtain ⟨t, rfl⟩ := rx; exact SeqAt.EqAt.none_int b t
  | str b => obtain ⟨t, rfl⟩ := rx; exact SeqAt.EqAt.none_str b t
  | _ => exact absurd (show false = true from fx) Bool.false_ne_true
 | bl a =>
  cases ry
  cases x with
  | non => cases rx; exact SeqAt.EqAt.bool_none a
  | bl b => cases rx; exact SeqAt.EqAt.bool_bool a b
  | int b => obtain ⟨t, rfl⟩ := rx; exact SeqAt.EqAt.bool_int a b t
  | str b => obtain ⟨t, rfl⟩ := rx; exact SeqAt.EqAt.bool_str a b t
  | _ => exact absurd (show false = true from fx) Bool.false_ne_true
 | int a =>
  obtain ⟨t', rfl⟩ := ry
  cases x with
  | non => cases rx; exact SeqAt.EqAt.int_none a t'
  | bl b => cases rx; exact SeqAt.EqAt.int_bool a t' b
  | int b => obtain ⟨t, rfl⟩ := rx; exact SeqAt.EqAt.int_int a t' b t
  | str b => obtain ⟨t, rfl⟩ := rx; exact SeqAt.EqAt.int_str a t' b t
  | _ => exact absurd (show false = true from fx) Bool.false_ne_true
 | str a =>
  obtain ⟨t', rfl⟩ := ry
  cases x with
  | non => cases rx; exact SeqAt.EqAt.str_none a t'
  | bl b => cases rx; exact SeqAt.EqAt.str_bool a t' b
  | int b => obtain ⟨t, rfl⟩ := rx; exact SeqAt.EqAt.str_int a t' b t
  | str b => obtain ⟨t, rfl⟩ := rx; exact SeqAt.EqAt.str_str a t' b t
  | _ => exact absurd (show false = true from fx) Bool.false_ne_true
 | _ => exact absurd (show false = true from fy) Bool.false_ne_true
def eqU (x : V) (u : Value) : Bool := match u with
 | .none => eqV .non x
 | .bool b => eqV (.bl b) x
 | .int i _ => eqV (.int i) x
 | .str z _ => eqV (.str z) x
 | _ => false
theorem eqU_of {x y : V} {u : Value} (r : RelV y u) (f : flatV y = true) : eqU x u = eqV y x := by
 cases y with
 | non => cases r; rfl
 | bl b => cases r; rfl
 | int i => obtain ⟨t, rfl⟩ := r; rfl
 | str z => obtain ⟨t, rfl⟩ := r; rfl
 | _ => exact absurd (show false = true from f) Bool.false_ne_true
theorem any_eqU {x : V} : ∀ {xs : List V} {us : List Value}, Vals xs us -> xs.all flatV = true -> us.any (eqU x) = xs.any fun y => eqV y x
 | _, _, .nil, _ => rfl
 | y :: xs, u :: us, .cons r t, f => by
  rw [List.all_cons, Bool.and_eq_true] at f
  rw [List.any_cons, List.any_cons, eqU_of r f.1, any_eqU t f.2]
theorem mem_eqAt {A : Around} {s : Shared} {x : V} {v : Value} (rx : RelV x v) (fx : flatV x = true) : ∀ {xs : List V} {us : List Value}, Vals xs us -> xs.all flatV = true -> ∀ u ∈ us, SeqAt.EqAt A s u v (eqU x u)
 | _, _, .nil, _ => fun u hu => by cases hu
 | y :: xs, u :: us, .cons r t, f => fun u' hu => by
  rw [List.all_cons, Bool.and_eq_true] at f
  rcases List.mem_cons.mp hu with rfl | hu
  ·rw [eqU_of r f.1]; exact eqAt_V r rx f.1 fx
  ·exact mem_eqAt rx fx t f.2 u' hu
def inV (x : V) (xs : List V) : Bool := xs.any fun y => eqV y x
def rIn (K : PySem.W.Frag) (neg : Bool) : R2 := fun x y H Q => ∃ p xs, y = .ref p /\ (SqL K H p xs \/ SqT K H p xs) /\ flatV x = true /\ xs.all flatV = true /\ Q (.bl (if neg then !inV x xs else inV x xs)) H
theorem op_in_seq : OpR X (compareOp .In) (rIn X.K false) := by
 intro pins s σ H x y v u Q I rx ry h
 obtain ⟨p, xs, rfl, hq, fx, fs, q⟩ := h
 cases ry
 rcases hq with hq | hq
 ·obtain ⟨its, r, pl, hz⟩ := I.list hq
  refine SeqAt.in_listAt (eqU x) pl.isList (fun w hw => mem_eqAt rx fx r fs w (by simpa using hw)) ⟨.bl _, H, I, rfl, ?_⟩
  rw [show its.toArray.any (eqU x) = its.any (eqU x) by simp, any_eqU r fs]
  exact q
 ·obtain ⟨its, r, pl, hz⟩ := I.tuple hq
  refine SeqAt.in_tupleAt (eqU x) pl (fun w hw => mem_eqAt rx fx r fs w (by simpa using hw)) ⟨.bl _, H, I, rfl, ?_⟩
  rw [show its.toArray.any (eqU x) = its.any (eqU x) by simp, any_eqU r fs]
  exact q
theorem op_notIn_str : OpR X (compareOp .NotIn) (fun x y H Q => ∃ i j, x = .str i /\ y = .str j /\ Q (.bl (!(!(Builtin.Str.occurrences j i 0 j.length 1).isEmpty))) H) := by
 intro pins s σ H x y v u Q I rx ry h
 obtain ⟨i, j, rfl, rfl, q⟩ := h
 obtain ⟨t, rfl⟩ := rx
 obtain ⟨t', rfl⟩ := ry
 exact notIn_str ⟨.bl _, H, I, rfl, q⟩
theorem call_len_seq : CallR X (.builtin "len") (fun xs H Q => ∃ p ys, xs = [.ref p] /\ (SqL X.K H p ys \/ SqT X.K H p ys) /\ Q (.int ys.length) H) := by
 intro pins s σ H xs us Q I r h
 obtain ⟨p, ys, rfl, hq, q⟩ := h
 obtain ⟨u, rfl, rx⟩ := vals1 r
 cases rx
 have hn := line63
 rcases hq with hq | hq
 ·obtain ⟨its, r', pl, hz⟩ := I.list hq
  have hlen := r'.length
  exact Calls.call_len_list pl.isList (by simp only [List.size_toArray] <;> omega) ⟨.int ys.length, H, I.tok _, ⟨s.toks + 1, by rw [List.size_toArray, hlen]⟩, q⟩
 ·obtain ⟨its, r', pl, hz⟩ := I.tuple hq
  have hlen := r'.length
  exact len_tuple pl (by simp only [List.size_toArray] <;> omega) ⟨.int ys.length, H, I.tok _, ⟨s.toks + 1, by rw [List.size_toArray, hlen]⟩, q⟩
theorem call_len_str : CallR X (.builtin "len") (fun xs H Q => ∃ z, xs = [.str z] /\ z.length <= sizeLine /\ Q (.int z.length) H) := by
 intro pins s σ H xs us Q I r h
 obtain ⟨z, rfl, hz, q⟩ := h
 obtain ⟨u, rfl, t, rfl⟩ := vals1 r
 have hn := line63
 exact len_str (by omega) ⟨.int z.length, H, I.tok _, ⟨_, rfl⟩, q⟩
theorem call_list_of : CallR X (.type "list") (fun xs H Q => ∃ p ys, xs = [.ref p] /\ (SqL X.K H p ys \/ SqT X.K H p ys) /\ ∀ l, H l = none -> Q (.ref l) (upd H l (.lst ys))) := by
 intro pins s σ H xs us Q I r h
 obtain ⟨p, ys, rfl, hq, q⟩ := h
 obtain ⟨u, rfl, rx⟩ := vals1 r
 cases rx
 have fin : ∀ (its : List Value), Vals ys its -> ys.length <= sizeLine -> ∀ (h' : Heap) (c' : Nat), (∀ b o', s.heap.get? b = some o' -> h'.get? b = some o') ->
   h'.get? s.heap.objs.size = some { cls := .type "list", dict := none, data := .seq its.toArray c', slots := #[] } -> EP X pins σ Q (.ref s.heap.objs.size) { s with heap := h' } := fun its r' hz h' c' kp e =>
  ⟨.ref s.heap.objs.size, _, I.laid (t' := s.toks) kp (Nat.le_refl _) (show ObjOk X.prog X.w _ h' _ (.lst ys) from ⟨hz, its, c', r', e⟩), rfl, q _ (I.hok.fresh (Nat.le_refl _))⟩
 rcases hq with hq | hq
 ·obtain ⟨its, r', pl, hz⟩ := I.list hq
  have hlen := r'.length
  obtain ⟨o, ho, hc, n, hd⟩ := pl.isList
  exact call_list_seq p (.inl rfl) ho hc hd (fun h' c' kp e => fin its r' hz h' c' kp e) (by simp only [List.size_toArray] <;> omega)
 ·obtain ⟨its, r', pl, hz⟩ := I.tuple hq
  have hlen := r'.length
  obtain ⟨o, ho, hc, n, hd⟩ := pl
  exact call_list_seq p (.inr rfl) ho hc hd (fun h' c' kp e => fin its r' hz h' c' kp e) (by simp only [List.size_toArray] <;> omega)
theorem call_tuple_of : CallR X (.type "tuple") (fun xs H Q => ∃ p ys, xs = [.ref p] /\ ((SqL X.K H p ys /\ ∀ l, H l = none -> Q (.ref l) (upd H l (.tup ys))) \/ (SqT X.K H p ys /\ Q (.ref p) H))) := by
 intro pins s σ H xs us Q I r h
 obtain ⟨p, ys, rfl, h⟩ := h
 obtain ⟨u, rfl, rx⟩ := vals1 r
 cases rx
 rcases h with ⟨hq, q⟩ | ⟨hq, q⟩
 ·obtain ⟨its, r', pl, hz⟩ := I.list hq
  have hlen := r'.length
  refine call_tuple_list pl.isList (fun h' kp => ?_) (by simp only [List.size_toArray] <;> omega)
  have I1 : Inv X pins σ H { s with heap := h' } := I.kept (t' := s.toks) kp
  have I2 : Inv X pins σ (upd H h'.objs.size (.tup ys)) { s with heap := h'.push { cls := .type "tuple", data := .seq its.toArray } } :=
   I1.laid (t' := s.toks) (fun b o e => Heap.get?_push_of_some _ e) (Nat.le_refl _) (show ObjOk X.prog X.w _ _ _ (.tup ys) from ⟨hz, its, r', IsTup.new _ _⟩)
  exact ⟨.ref h'.objs.size, _, I2, rfl, q _ (I1.hok.fresh (Nat.le_refl _))⟩
 ·obtain ⟨its, r', pl, hz⟩ := I.tuple hq
  exact call_tuple_same pl ⟨.ref p, H, I, rfl, q⟩
def tyV (K : PySem.W.Frag) (T : String) (x : V) (H : Hp) : Prop := match x with
 | .str _ => T = "str"
 | .int _ => T = "int"
 | .ref p => (T = "list" /\ ∃ xs, SqL K H p xs) \/ (T = "tuple" /\ ∃ o, K.lookup p = some o /\ o.cls = .type "tuple" /\ o.dict = none) \/
   (T = "dict" /\ ((∃ kvs, H p = some (.dK kvs)) \/ ∃ kvs, H p = some (.dT kvs))) \/ (T = "set" /\ ∃ S n, H p = some (.set S n))
 | _ => False
theorem tyV_is {pins : List (Addr × Obj)} {σ : St} {H : Hp} {s : Shared} {T : String} {x : V} {v : Value} (I : Inv X pins σ H s) (r : RelV x v) (ty : tyV X.K T x H) :
  s.TypeIs v T /\ ∀ a, v = .ref a -> ∃ ob, s.heap.get? a = some ob /\ ob.dict = none := by
 cases x with
 | str z =>
  obtain ⟨t, rfl⟩ := r
  cases (show T = "str" from ty)
  exact ⟨typeIs_str s z t, fun _ e => nomatch e⟩
 | int i =>
  obtain ⟨t, rfl⟩ := r
  cases (show T = "int" from ty)
  exact ⟨typeIs_int s i t, fun _ e => nomatch e⟩
 | ref p =>
  cases r
  rcases ty with ⟨rfl, xs, hq⟩ | ⟨rfl, o, hk, hc, hd⟩ | ⟨rfl, hk⟩ | ⟨rfl, S, n, hk⟩
  ·obtain ⟨its, _, pl, _⟩ := I.list hq
   refine ⟨pl.isList.typeIs, fun a e => ?_⟩
   cases e
   obtain ⟨o, n, e, c, hd, _⟩ := pl
   exact ⟨o, e, hd⟩
  ·refine ⟨⟨o, I.kIn p o hk, hc⟩, fun a e => ?_⟩
   cases e
   exact ⟨o, I.kIn _ o hk, hd⟩
  ·have z : ∃ o, s.heap.get? p = some o /\ o.ExactDict := by
    rcases hk with ⟨kvs, hk⟩ | ⟨kvs, hk⟩
    ·obtain ⟨_, _, _, _, o, _, _, e, ex, _⟩ := I.hok p _ hk
     exact ⟨o, e, ex⟩
    ·obtain ⟨_, _, _, _, o, _, _, e, ex, _⟩ := I.hok p _ hk
     exact ⟨o, e, ex⟩
   obtain ⟨o, e, ex⟩ := z
   refine ⟨⟨o, e, ex.1⟩, fun a e2 => ?_⟩
   cases e2
   exact ⟨o, e, ex.2.1⟩
  ·obtain ⟨o, _, _, _, e, ex, _⟩ := I.hok p _ hk
   refine ⟨⟨o, e, ex.1⟩, fun a e2 => ?_⟩
   cases e2
   exact ⟨o, e, ex.2.1⟩
 | _ => exact False.elim ty
def tBM0 (K : PySem.W.Frag) (T : String) (r : V -> List V -> Hp -> VK -> Prop) (to : TE) : TE := fun σ H Q => to σ H fun x H1 => tyV K T x H1 /\ r x [] H1 Q
def tBM (K : PySem.W.Frag) (T : String) (r : V -> List V -> Hp -> VK -> Prop) (to : TE) (t : TA) : TE := fun σ H Q => to σ H fun x H1 => tyV K T x H1 /\ t σ H1 fun xs H2 => r x xs H2 Q
variable {o e : Expr} {es : List Expr} {to : TE} {t : TA} {name : Str} {apos cpos : Pos} {T id : String} {r : V -> List V -> Hp -> VK -> Prop}
theorem pe_bm0 (pa : PlainAttrs T) (slot : Slot T name id) (hty : typeOf (.builtin id) = pure (.type "method_descriptor")) (hm : MtR X id r) (ho : PE X o to)
  (hbase : attributeBase o name X.env (eval o X.env) = eval o X.env := by rfl) (hline : (apos.endLine == cpos.line) = true := by rfl) : PE X (.Call (.Attribute o name apos) [] [] cpos) (tBM0 X.K T r to) := by
 intro pins s σ H Q I h
 refine wpAny_Call_method0_late hbase hline (thn (ho pins s σ H _ I h) fun v s1 ⟨x, H1, I1, r1, ty, q1⟩ => ?_)
 obtain ⟨h1, h2⟩ := tyV_is I1 r1 ty
 exact ⟨T, id, pa, slot, hty, h1, h2, Calls.callWith_builtin rfl (PySem.evalArgs_none (hm pins s1 σ H1 x [] v [] Q I1 r1 .nil q1))⟩
theorem pe_bm (pa : PlainAttrs T) (slot : Slot T name id) (hty : typeOf (.builtin id) = pure (.type "method_descriptor")) (hm : MtR X id r) (ho : PE X o to) (ha : PA X (e :: es) t)
  (hbase : attributeBase o name X.env (eval o X.env) = eval o X.env := by rfl)
  (hfew : ((backTo cpos (starEach (e :: es) X.env)).all (fun x => !x.1) && (backToKw cpos (keywordEach [] X.env)).all (fun x => x.1.isSome)
   && decide ((e :: es).length + ([] : List Keyword).length + (if ([] : List Keyword).isEmpty then 0 else 1) < 30)) = true := by rfl)
  (hline : (apos.endLine == cpos.line) = true := by rfl) (hs : starEach (e :: es) X.env = (false, eval e X.env) :: starEach es X.env := by rfl) (hplain : (backTo cpos (starEach es X.env)).any (·.1) = false := by rfl) :
  PE X (.Call (.Attribute o name apos) (e :: es) [] cpos) (tBM X.K T r to t) := by
 intro pins s σ H Q I h
 refine wpAny_Call_method_late hbase hfew hline rfl (thn (ho pins s σ H _ I h) fun v s1 ⟨x, H1, I1, r1, ty, q1⟩ => ?_)
 obtain ⟨h1, h2⟩ := tyV_is I1 r1 ty
 refine ⟨T, id, pa, slot, hty, h1, h2, ?_⟩
 have hA := ha cpos pins s1 σ H1 _ I1 q1
 rw [hs] at hA ⊢
 refine Calls.callWith_builtin (by show (false || (backTo cpos (starEach es X.env)).any (·.1)) = false; rw [hplain] <;> rfl) (Calls.evalArgs_plain ?_)
 exact thn hA fun us s2 ⟨vs, H2, I2, r2, q2⟩ => hm pins s2 σ H2 x vs v us Q I2 r1 r2 q2
end
def MtM (X : Cx) (id : String) (r : V -> List V -> Hp -> VK -> Prop) : Prop :=
 ∀ (pins : List (Addr × Obj)) (s : Shared) (σ : St) (H : Hp) (x : V) (xs : List V) (v : Value) (us : List Value) (Q : VK), Inv X pins σ H s -> RelV x v -> Vals xs us -> r x xs H Q ->
  wpAny (model X.prog X.w) X.A (call (.builtin id) (v :: us)) (EP X pins σ Q) X.xe s
theorem Vals.one : ∀ {x : V} {us : List Value}, Vals [x] us -> ∃ u, us = [u] /\ RelV x u
 | _, _, .cons r .nil => ⟨_, rfl, r⟩
theorem Vals.two : ∀ {x y : V} {us : List Value}, Vals [x, y] us -> ∃ u v, us = [u, v] /\ RelV x u /\ RelV y v
 | _, _, _, .cons r (.cons q .nil) => ⟨_, _, rfl, r, q⟩
theorem Vals.zero : ∀ {us : List Value}, Vals [] us -> us = []
 | _, .nil => rfl
theorem Vals.dropLast {xs : List V} {us : List Value} (h : Vals xs us) : Vals xs.dropLast us.dropLast := by
 induction h with
 | nil => exact .nil
 | cons r t ih =>
  cases t with
  | nil => exact .nil
  | cons q t' => exact .cons r ih
theorem Vals.reverse {xs : List V} {us : List Value} (h : Vals xs us) : Vals xs.reverse us.reverse := by
 induction h with
 | nil => exact .nil
 | cons r t ih => rw [List.reverse_cons, List.reverse_cons]; exact Vals.append ih (.cons r .nil)
theorem Vals.rep {xs : List V} {us : List Value} (h : Vals xs us) : ∀ k : Nat, Vals (List.replicate k xs).flatten (List.replicate k us).flatten
 | 0 => .nil
 | k + 1 => by
  rw [List.replicate_succ, List.replicate_succ, List.flatten_cons, List.flatten_cons]
  exact Vals.append h (Vals.rep h k)
theorem foldl_rep (its : List Value) : ∀ (k : Nat) (acc : List Value),
  List.foldl (fun x1 x2 => x1 ++ x2) acc.toArray (List.replicate k its.toArray) = (acc ++ (List.replicate k its).flatten).toArray
 | 0, acc => by simp
 | k + 1, acc => by
  have e : acc.toArray ++ its.toArray = (acc ++ its).toArray := by simp
  have e2 : (acc ++ its) ++ (List.replicate k its).flatten = acc ++ (List.replicate (k + 1) its).flatten := by
   rw [List.replicate_succ, List.flatten_cons, List.append_assoc]
  rw [<- e2, <- foldl_rep its k (acc ++ its), <- e, List.replicate_succ, List.foldl_cons]
section
variable {X : Cx} {pins : List (Addr × Obj)} {σ : St} {H : Hp} {s : Shared} {l b : Addr} {xs ys zs : List V}
theorem Inv.lset {its its' : List Value} {n : Nat} {f : Array Value -> Array Value} {t' : Nat} (I : Inv X pins σ H s) (hH : H l = some (.lst xs))
  (e : s.heap.get? l = some { cls := .type "list", data := .seq its.toArray n }) (hf : f its.toArray = its'.toArray) (hv : Vals ys its') (hz : ys.length <= sizeLine) :
  Inv X pins σ (upd H l (.lst ys)) { s with heap := s.heap.update l (Obj.mapSeq f), toks := t' } := by
 have q := PySem.IsL.update e f
 rw [hf] at q
 refine I.write (x := l) (e := l) (by rw [hH]; exact trivial) (.inl rfl) (fun b' u hb hu => (Heap.get?_update_other s.heap (Obj.mapSeq f) (Ne.symm hb)).trans hu) ⟨_, q⟩ ?_
 exact ⟨hz, its', _, hv, q⟩
theorem Inv.lnew {its : List Value} {t' : Nat} (I : Inv X pins σ H s) (hv : Vals ys its) (hz : ys.length <= sizeLine) :
  Inv X pins σ (upd H s.heap.objs.size (.lst ys)) { s with heap := s.heap.push { cls := .type "list", data := .seq its.toArray }, toks := t' } :=
 I.laid (fun _ _ q => Heap.get?_push_of_some _ q) (Nat.le_refl _) ⟨hz, its, 0, hv, Heap.get?_push_size _ rfl⟩
theorem Inv.fresh (I : Inv X pins σ H s) : H s.heap.objs.size = none := I.hok.fresh (Nat.le_refl _)
theorem Inv.lstM (I : Inv X pins σ H s) (hH : H l = some (.lst xs)) : xs.length <= sizeLine /\ ∃ (its : List Value) (n : Nat), Vals xs its /\ xs.length = its.length /\ s.heap.get? l = some { cls := .type "list", data := .seq its.toArray n } := by
 obtain ⟨z, its, n, r, e⟩ := I.hok l _ hH
 exact ⟨z, its, n, r, r.length, e⟩
theorem notLongL {n : Nat} (h : n <= sizeLine) : Builtin.List.listTooLong n = false := by
 unfold Builtin.List.listTooLong
 exact decide_eq_false (by omega)
end
section
variable {X : Cx}
def rAppend : V -> List V -> Hp -> VK -> Prop := fun x vs H Q => ∃ l xs y, x = .ref l /\ vs = [y] /\ H l = some (.lst xs) /\ xs.length < sizeLine /\ Q .non (upd H l (.lst (xs ++ [y])))
theorem mt_append : MtM X "list.append" rAppend := by
 intro pins s σ H x vs v us Q I rx rv h
 obtain ⟨l, xs, y, rfl, rfl, hH, hz, q⟩ := h
 cases rx
 obtain ⟨u, rfl, ru⟩ := rv.one
 obtain ⟨z, its, n, r, hl, e⟩ := I.lstM hH
 refine call_meets F.slot_list_append ⟨_, e, rfl⟩ F.entry_list_append (F.args_list_append_2 _ _) (PySem.list_append l its.toArray n u (by rw [List.size_toArray]; omega)) ⟨e, ?_⟩
 refine ⟨.non, _, I.lset (its' := its ++ [u]) hH e (by simp) (r.append (.cons ru .nil)) ?_, rfl, q⟩
 rw [List.length_append, List.length_singleton]
 omega
def rExtend : V -> List V -> Hp -> VK -> Prop := fun x vs H Q => ∃ l b xs zs, x = .ref l /\ vs = [.ref b] /\ H l = some (.lst xs) /\ H b = some (.lst zs) /\ xs.length + zs.length <= sizeLine /\ Q .non (upd H l (.lst (xs ++ zs)))
theorem mt_extend : MtM X "list.extend" rExtend := by
 intro pins s σ H x vs v us Q I rx rv h
 obtain ⟨l, b, xs, zs, rfl, rfl, hH, hB, hz, q⟩ := h
 cases rx
 obtain ⟨u, rfl, ru⟩ := rv.one
 cases ru
 obtain ⟨z, its, n, r, hl, e⟩ := I.lstM hH
 obtain ⟨z2, its2, n2, r2, hl2, e2⟩ := I.lstM hB
 have hsz : its.toArray.size + its2.toArray.size <= sizeLine := by rw [List.size_toArray, List.size_toArray]; omega
 have hlong : ¬ (!its.toArray.isEmpty && Builtin.List.listTooLong (its.toArray.size + its2.toArray.size)) = true := by
  rw [notLongL hsz, Bool.and_false]
  exact Bool.false_ne_true
 refine call_meets F.slot_list_extend ⟨_, e, rfl⟩ F.entry_list_extend (F.args_list_extend_2 _ _)
  (AutoSeq1.list_extend_list_list_0 l its.toArray n b its2.toArray n2 hlong (by rw [List.size_toArray]; omega) (by omega)) ⟨e, e2, ?_⟩
 refine ⟨.non, _, I.lset (its' := its ++ its2) hH e (by simp) (r.append r2) ?_, rfl, q⟩
 rw [List.length_append]
 omega
def rCat : R2 := fun x y H Q => ∃ l b xs zs, x = .ref l /\ y = .ref b /\ H l = some (.lst xs) /\ H b = some (.lst zs) /\ xs.length + zs.length <= sizeLine /\ ∀ p, H p = none -> Q (.ref p) (upd H p (.lst (xs ++ zs)))
theorem op_cat : OpR X (binaryOp .Add) rCat := by
 intro pins s σ H x y v u Q I rx ry h
 obtain ⟨l, b, xs, zs, rfl, rfl, hH, hB, hz, q⟩ := h
 cases rx
 cases ry
 obtain ⟨z, its, n, r, hl, e⟩ := I.lstM hH
 obtain ⟨z2, its2, n2, r2, hl2, e2⟩ := I.lstM hB
 refine PySem.P.add_list e e2 ?_ (by rw [List.size_toArray, List.size_toArray]; omega)
 have ea : its.toArray ++ its2.toArray = (its ++ its2).toArray := by simp
 rw [ea]
 exact ⟨.ref _, _, I.lnew (t' := s.toks) (r.append r2) (by rw [List.length_append]; omega), rfl, q _ I.fresh⟩
def rRep : R2 := fun x y H Q => ∃ l k xs, x = .ref l /\ y = .int k /\ H l = some (.lst xs) /\ -(2 ^ 63) <= k /\ k < 2 ^ 63 /\ xs.length * k.toNat <= sizeLine /\
 ∀ p, H p = none -> Q (.ref p) (upd H p (.lst (List.replicate k.toNat xs).flatten))
theorem len_rep {α : Type} (xs : List α) (k : Nat) : (List.replicate k xs).flatten.length = k * xs.length := by
 induction k with
 | zero => simp
 | succ k ih => rw [List.replicate_succ, List.flatten_cons, List.length_append, ih, Nat.succ_mul, Nat.add_comm]
theorem op_rep : OpR X (binaryOp .Mult) rRep := by
 intro pins s σ H x y v u Q I rx ry h
 obtain ⟨l, k, xs, rfl, rfl, hH, h1, h2, hz, q⟩ := h
 cases rx
 obtain ⟨t, rfl⟩ := ry
 obtain ⟨z, its, n, r, hl, e⟩ := I.lstM hH
 have hlen : its.toArray.size * k.toNat <= sizeLine := by rw [List.size_toArray, <- hl]; exact hz
 have hcap : ¬ its.toArray.size * k.toNat > (2 ^ 63 - 1) / 8 := by
  have : (sizeLine : Nat) <= (2 ^ 63 - 1) / 8 := by decide
  omega
 have hfit : ¬ (!Builtin.List.listFitsIndex k) = true := by
  rw [fitsIndex_both h1 h2]
  exact Bool.false_ne_true
 have hlong : ¬ Builtin.List.listTooLong (its.toArray.size * k.toNat) = true := by
  rw [notLongL hlen]
  exact Bool.false_ne_true
 have hnew : List.foldl (fun x1 x2 => x1 ++ x2) #[] (List.replicate (if its.toArray.isEmpty = true then 0 else k.toNat) its.toArray) = (List.replicate k.toNat its).flatten.toArray := by
  have f0 : ∀ m : Nat, List.foldl (fun x1 x2 => x1 ++ x2) #[] (List.replicate m its.toArray) = (List.replicate m its).flatten.toArray := fun m => by
   have := foldl_rep its m []
   rw [List.nil_append] at this
   exact this
  rw [f0]
  cases its with
  | nil => simp
  | cons a r' => rw [if_neg (by simp)]
 refine wpAny_binaryOp_repeat_ref (T := "list") (U := "int") (by decide) ⟨_, e, rfl⟩ (fun s' => typeIs_int s' k t) noFill_list_mul F.fills_int_mul F.slot_int_rmul repeat_list F.slot_int_index.lookup
  (call_meets F.slot_int_rmul (typeIs_int s k t) F.entry_int_rmul (F.args_int_rmul_2 _ _) (int___rmul___int_list k t l its.toArray n)
   ⟨e, rfl, ⟨_, e, rfl⟩, call_meets F.slot_list_mul ⟨_, e, rfl⟩ F.entry_list_mul (F.args_list_mul_2 _ _) (AutoListH.list___mul___list_int_3 l its.toArray n k t hfit hcap hlong) ⟨e, ?_⟩⟩)
 rw [hnew]
 exact ⟨.ref _, _, I.lnew (t' := s.toks) (r.rep k.toNat) (by rw [len_rep, Nat.mul_comm]; exact hz), rfl, q _ I.fresh⟩
end
section
variable {prog : Program} {w : World} {A : Around} {E : Value -> Shared -> Prop} {s : Shared}
end
section
variable {X : Cx}
end
end L2
namespace Att
open PySem PySem.W PySem.Calls PyProof.Rows
theorem ints_of_wellAll {P : Params} {h : Heap} : ∀ (ns : List Int) (vs : List Value), WellAll P h vs (ns.map WData.int) -> IntsAre vs ns := by
 intro ns
 induction ns with
 | nil =>
  intro vs w
  rw [List.map_nil] at w
  cases w
  exact .nil
 | cons n ns ih =>
  intro vs w
  rw [List.map_cons] at w
  cases w with
  | cons a b =>
   cases a
   exact .cons _ _ (ih _ b)
theorem script_of {l : OpenLaw} {n : Nat} (hn : l.most = some n) {P : Params} {h : Heap} {args : List WData} {vals : List Value}
  (hpre : l.row.toRowW.claim.pre args = true) (hwl : WellAll P h vals args) :
  ∃ a vs ns, vals = [Value.ref a] /\ args = [WData.list (ns.map WData.int)] /\ h.get? a = some { cls := .type "list", data := .seq vs.toArray } /\ IntsAre vs ns /\ ns.length <= n := by
 have hsh : WShape.hasAll [] args [.list .int] = true := (pre_splitW hpre).1
 have hc : l.pre.holds [] { args := args } = true := (pre_splitW hpre).2
 obtain ⟨d, r, rfl, h1, h2⟩ := hasAllW_cons hsh
 obtain rfl := hasAllW_nil h2
 obtain ⟨xs, rfl, h3⟩ := hasW_list h1
 obtain ⟨ns, rfl⟩ := items_int h3
 have hlen : ns.length <= n := by
  unfold OpenLaw.pre at hc
  have h4 : (WTm.not (.lt (.lit (.int (n : Int))) (.len (.arg 0)))).holds [] { args := [.list (ns.map .int)] } = true := by
   have h4 := (holds_andW hc).1
   rw [hn] at h4
   exact h4
  have h5 := condW_of h4 (w_not (w_lt w_lit (w_len_list (w_arg rfl))))
  rw [List.length_map] at h5
  refine Nat.le_of_not_lt fun q => ?_
  have q' : (n : Int) < ((ns.length : Nat) : Int) := by omega
  first
   | (rw [decide_eq_true q'] at h5; exact absurd h5 (by decide))
   | (simp at h5; omega)
 cases hwl with
 | cons w1 w2 =>
  cases w2
  cases w1 with
  | list ho hall => exact ⟨_, _, ns, rfl, rfl, ho, ints_of_wellAll ns _ hall, hlen⟩
theorem post_true (l : OpenLaw) (args : List WData) : l.row.toRowW.claim.post args (.bool true) args = true :=
 postW_of (r := l.row.toRowW) (X := (true == true))
  (show WShape.has [] (.bool true) .bool = true by first | rfl | decide | simp [WShape.has, WShape.arms, WShape.armsAll])
  (show (WTm.eq .res (.lit (.bool true))).value [] { args := args, res := some (.bool true), after := args } = some (.bool (true == true)) from w_eq_bool (w_res rfl) w_lit) rfl
theorem attach_call {l : OpenLaw} {n : Nat} {q : Program} {loose : List Str} {XP : (Str -> Option Value) -> Heap -> Prop} {YP : World -> Heap -> Prop} {d : DefRec}
  (hn : l.most = some n) (hdf : d.params.defaults = [])
  (call : ∀ (w : World) (s₀ s₁ : Shared) (mg mb : Str -> Option Value) (fa : Addr) (o : Obj) (pm cd doc : Value) (a : Addr) (vs : List Value) (ns : List Int),
   Ground q loose [] XP w s₀ mg mb s₁.heap -> YP w s₁.heap ->
   s₁.heap.get? fa = some o -> o.data = .func (docDef d.name d.params d.body d.scope pm cd doc) -> s₁.heap.CodeRec cd d.name -> mg d.name = some (.ref fa) ->
   s₁.heap.get? a = some { cls := .type "list", data := .seq vs.toArray } -> IntsAre vs ns -> ns.length <= n -> s₁.gens = #[] ->
   codeAny (model l.prog w) callerA (.call (.ref fa) ⟨[.ref a], []⟩) (fun r s' => r = .ok (.ret (.bool true)) /\ OldK s₁.heap s'.heap /\ s'.os = s₁.os /\ AllBare s'.gens) s₁) :
  WalkO q loose XP YP l.row.toRowW d [] (fun f vs => PySem.call f vs) := by
 intro w s₀ s₁ mg mb G Y fa o pm cd doc dV kV ho hd hcd hD hmg hg args vals as hpre hlay hrd hwl hlo
 obtain rfl : dV = .none := Dflts.none hD hdf
 obtain rfl : kV = .none := Dflts.noKw hD
 obtain ⟨a, vs, ns, rfl, rfl, hobj, hints, hlen⟩ := script_of hn hpre hwl
 refine enter_call (codeAny_mono (call w s₀ s₁ mg mb fa o pm cd doc a vs ns G Y ho (fd_plain hd) hcd hmg hobj hints hlen hg) fun r s' hq => ?_)
 obtain ⟨rfl, h2, h3, h4⟩ := hq
 exact ⟨.inl ⟨.bool true, .bool true, [], rfl, fun _ => rfl, .bool true, post_true l _, fun _ => ⟨List.Pairwise.nil, fun _ hm => (nomatch hm)⟩⟩, h2, h3, h4⟩
section
variable {prog : Program} {w : World} {A : Around} {E : Value -> Shared -> Prop} {s : Shared} {K : Frag}
end
end Att
namespace L2
open PySem PySem.Spec PyProof.Rows
theorem vals_ints : ∀ {vs : List Value} {ns : List Int}, IntsAre vs ns -> Vals (ns.map V.int) vs
 | _, _, .nil => .nil
 | _, _, .cons n t h => .cons ⟨t, rfl⟩ (vals_ints h)
def Only (H : Hp) : Prop := ∀ b, H b = none \/ ∃ o xs, H b = some (.frz o (.lst xs))
theorem law_call {P : Program} {w : World} {K : PySem.W.Frag} {mg mb : Str -> Option Value} {CX : CXT} {k : Nat} {fa a : Addr} {fd : FuncData} {x : Str} {sp : Sp} {s₁ : Shared} {vs : List Value} {ns : List Int}
  (KX : K.In s₁.heap) (hns : s₁.heap.Ns mainGlobals mg) (hb : s₁.heap.Ns builtinsNs mb) (hbb : ∀ x : Str, x ≠ "__name__" -> mb x = bootBuiltins x) (hlim : s₁.heap.NoLimit) (hg : s₁.gens = #[])
  (ha : s₁.heap.get? a = some { cls := .type "list", data := .seq vs.toArray }) (hi : IntsAre vs ns) (hl : ns.length <= sizeLine) (hr : Room k callerA)
  (F : ∀ base : Heap, K.In base -> base.Ns mainGlobals mg -> FnOk P w K mg base CX k fa fd [x] sp) (hbind : ∀ (s : Shared) (u : Value), BindsTo s fd ⟨[u], []⟩ [(x, u)])
  (hsp : ∀ H : Hp, Only H -> SqL K H a (ns.map V.int) -> sp [.ref a] H (fun v _ => v = .bl true) fun _ _ _ => False)
  (hCX : ∀ H e s', CX [] H s₁ (fun _ _ _ => False) e s' -> False) :
  codeAny (model P w) callerA (.call (.ref fa) ⟨[.ref a], []⟩) (fun r s' => r = .ok (.ret (.bool true)) /\ OldK s₁.heap s'.heap /\ s'.os = s₁.os /\ AllBare s'.gens) s₁ := by
 have rv := vals_ints hi
 have lenV := hi.length
 have core : ∀ H : Hp, Only H -> SqL K H a (ns.map V.int) -> HOk P w H s₁.heap -> (∀ b, H b ≠ none -> b = a) -> (H a ≠ none -> K.lookup a = none) ->
   codeAny (model P w) callerA (.call (.ref fa) ⟨[.ref a], []⟩) (fun r s' => r = .ok (.ret (.bool true)) /\ OldK s₁.heap s'.heap /\ s'.os = s₁.os /\ AllBare s'.gens) s₁ := by
  intro H hO hS hok hA hK
  have base_of : ∀ {b : Addr} {o : Obj}, s₁.heap.get? b = some o -> H b = none -> (hidT s₁.heap H).get? b = some o := fun e n => hidT_get e n
  have noA : ∀ {b : Addr} {o : Obj} {es : Array DictEntry} {ep : Nat}, s₁.heap.get? b = some o -> o.data = .dict es ep -> H b = none := fun {b o es ep} e d => by
   cases q : H b with
   | none => rfl
   | some u =>
    have e' : b = a := hA b (by rw [q]; simp)
    subst e'
    rw [ha] at e; cases e
    have d' : Data.seq vs.toArray _ = Data.dict es ep := d
    cases d'
  have nsK : ∀ {b : Addr} {m : Str -> Option Value}, s₁.heap.Ns b m -> (hidT s₁.heap H).Ns b m := fun {b m} ⟨o, es, ep, e, d, r⟩ => ⟨o, es, ep, base_of e (noA e d), d, r⟩
  have hKb : K.In (hidT s₁.heap H) := fun b o e => base_of (KX b o e) (by
   cases q : H b with
   | none => rfl
   | some u =>
    have e' : b = a := hA b (by rw [q]; simp)
    subst e'
    rw [hK (by rw [q]; simp)] at e; cases e)
  have hM : Mod K mg (hidT s₁.heap H) := ⟨hKb, nsK hns, ⟨mb, nsK hb, hbb⟩, let ⟨mc, h1, h2⟩ := hlim; ⟨mc, nsK h1, h2⟩⟩
  have e0 : Env0 P w K mg (hidT s₁.heap H) callerA [] s₁ H := ⟨rfl, hM, fun b o e => of_hidT e, Nat.le_of_eq (hidT_size _ _), trivial, fun b hb => absurd (show b ∈ ([] : List Addr) from hb) (by simp), hok, .of_eq hg⟩
  refine codeAny_mono ((F _ hKb (nsK hns)).run callerA [] s₁ H ⟨[.ref a], []⟩ [.ref a] [.ref a] _ _ hr e0 (hbind s₁ (.ref a)) (.cons rfl .nil) (hsp H hO hS)) fun r s' h => ?_
  cases r with
  | error e => exact (hCX H e s' h).elim
  | ok fl =>
   cases fl with
   | next => exact False.elim h
   | brk => exact False.elim h
   | cont => exact False.elim h
   | ret u =>
    obtain ⟨v, H', os, bare, un, hok', r', q⟩ := h
    have q' : v = .bl true := q
    subst q'
    obtain rfl : u = Value.bool true := r'
    refine ⟨rfl, OldK.of_keep fun b o e => ?_, os, bare⟩
    cases q : H b with
    | none => exact un.keep b o e q (by intro z; exact absurd (show b ∈ ([] : List Addr) from z) (by simp)) (by simp)
    | some u =>
     rcases hO b with z | ⟨ob, xs, z⟩
     ·rw [q] at z; cases z
     ·have z2 := un.frzs b ob _ z
      obtain ⟨e1, _⟩ := hok b _ z
      obtain ⟨e2, _⟩ := hok' b _ z2
      rw [e] at e1; cases e1
      exact e2
 cases hk : K.lookup a with
 | some o =>
  have e := KX a o hk
  rw [ha] at e
  cases e
  refine core (fun _ => none) (fun _ => .inl rfl) (.inr ⟨_, vs.toArray, _, hk, rfl, rfl, rfl, by rw [List.size_toArray, lenV]; exact hl, by simpa using rv⟩) (fun b u z => by have z' : (none : Option HO) = some u := z; cases z') (fun b z => absurd rfl z) fun z => absurd rfl z
 | none =>
  refine core (fun b => if b = a then some (.frz { cls := .type "list", data := .seq vs.toArray } (.lst (ns.map V.int))) else none) (fun b => ?_) (.inl (.inr ⟨{ cls := .type "list", data := .seq vs.toArray }, if_pos rfl⟩)) (fun b u z => ?_) (fun b z => ?_) fun _ => hk
  ·by_cases hb : b = a
   ·exact .inr ⟨_, _, if_pos hb⟩
   ·exact .inl (if_neg hb)
  ·by_cases hb : b = a
   ·have z' := (if_pos hb).symm.trans z
    cases z'
    subst hb
    exact ⟨ha, by rw [List.length_map]; exact hl, vs, _, rv, ha⟩
   ·have z' := (if_neg hb).symm.trans z
    cases z'
  ·by_cases hb : b = a
   ·exact hb
   ·exact absurd (if_neg hb) z
abbrev KOf {K : PySem.W.Frag} {h : Heap} (_ : K.In h) : PySem.W.Frag := K
theorem walk_of {l : PySem.W.OpenLaw} {n k : Nat} {q : Program} {loose : List Str} {XP : (Str -> Option Value) -> Heap -> Prop} {YP : World -> Heap -> Prop} {d : DefRec} {K : Params -> PySem.W.Frag} {CX : World -> CXT} {sp : World -> Sp} {x : Str}
  (hn : l.most = some n) (hn2 : n <= sizeLine) (hdf : d.params.defaults = []) (hr : Room k callerA)
  (hY : ∀ (w : World) (h : Heap), YP w h -> (K w.params).In h)
  (F : ∀ (w : World) (mg : Str -> Option Value) (fa : Addr) (h : Heap), (K w.params).In h -> h.Ns mainGlobals mg -> mg d.name = some (.ref fa) ->
   ∃ fd : FuncData, (∀ (s : Shared) (u : Value), BindsTo s fd ⟨[u], []⟩ [(x, u)]) /\
    ∀ base : Heap, (K w.params).In base -> base.Ns mainGlobals mg -> FnOk l.prog w (K w.params) mg base (CX w) k fa fd [x] (sp w))
  (hsp : ∀ (w : World) (H : Hp) (a : Addr) (ns : List Int), ns.length <= n -> Only H -> SqL (K w.params) H a (ns.map V.int) -> sp w [.ref a] H (fun v _ => v = .bl true) fun _ _ _ => False)
  (hCX : ∀ (w : World) (H : Hp) (s : Shared) (e : Value) (s' : Shared), CX w [] H s (fun _ _ _ => False) e s' -> False) :
  PySem.W.WalkO q loose XP YP l.row.toRowW d [] (fun f vs => PySem.call f vs) := by
 refine Att.attach_call hn hdf fun w s₀ s₁ mg mb fa o pm cd doc a vs ns G Y ho hd hcd hmg hobj hints hlen hg => ?_
 have KX := hY w _ Y
 obtain ⟨fd, hb, hF⟩ := F w mg fa _ KX G.T.g hmg
 exact law_call KX G.T.g G.T.b G.T.builtins G.T.nolimit hg hobj hints (Nat.le_trans hlen hn2) hr hF hb (fun H hO hS => hsp w H a ns hlen hO hS) fun H e s' => hCX w H s₁ e s'
def inClass (s : Stmt) (j : Nat) : Stmt := match s with
 | .ClassDef _ _ _ body _ _ _ _ _ _ _ => body.getD j (.Pass ⟨0, 0, 0, 0⟩)
 | _ => .Pass ⟨0, 0, 0, 0⟩
def defArgs (s : Stmt) : Arguments := match s with
 | .FunctionDef _ a _ _ _ _ _ _ _ _ => a
 | _ => { posonlyargs := [], args := [], vararg := none, kwonlyargs := [], kw_defaults := [], kwarg := none, defaults := [] }
def defBody (s : Stmt) : List Stmt := match s with
 | .FunctionDef _ _ b _ _ _ _ _ _ _ => b
 | _ => []
def defScope (s : Stmt) : Scope := match s with
 | .FunctionDef _ _ _ _ _ _ sc _ _ _ => sc
 | _ => { kind := .function, names := [], isGenerator := false, isCoroutine := false }
abbrev CX0 : CXT := fun _ _ _ _ _ _ => False
abbrev E0 : XK := fun _ _ _ => False
theorem pass0 {X : Cx} : Passes CX0 X E0 := fun _ _ _ _ _ _ _ h => h.elim
structure Fun (K : PySem.W.Frag) (x qual : Str) (st : Stmt) (f : Addr) (fd : FuncData) : Prop where
 ex : ∃ (oc : Value) (od : Option Addr) (kV doc pm : Value) (an : Option Addr) (cdv ct : Value) (osl : Array (Option Value)),
  fd = PySem.W.fnOf x qual (defArgs st) (defBody st) (defScope st) .none kV doc pm an cdv ct /\ K.lookup f = some ⟨oc, od, .func fd, osl⟩ /\ PySem.W.codeIn K cdv qual = true
 kp : PySem.W.keepIn K (.ref f) = true
section
variable {P : Program} {w : World} {K : PySem.W.Frag} {mg : Str -> Option Value} {base : Heap}
theorem Fun.ok {x qual : Str} {st : Stmt} {f : Addr} {fd : FuncData} {N ps : List Str} {k : Nat} {sp : Sp} (F : Fun K x qual st f fd) (S : FnScope N ps (defScope st)) (len : ∀ vs H Q E, sp vs H Q E -> vs.length = ps.length)
  (hbody : ∀ (cdv : Value) (A : Around) (outer : List Env) (s : Shared) (H : Hp) (vs : List V) (Q : VK) (E : XK), Room k (A.deeper (envOfC qual (defScope st) s.heap.objs.size f cdv)) -> sp vs H Q E ->
   ∃ t, PSs (cxOf CX0 P w K mg base N qual (defScope st) f cdv A outer s H E).nox (defBody st) t /\ t { nx := fun _ H' => Q .non H', rt := Q } (start N vs) H) : FnOk P w K mg base CX0 (k + 1) f fd ps sp := by
 obtain ⟨oc, od, kV, doc, pm, an, cdv, ct, osl, rfl, lk, hcd⟩ := F.ex
 refine fn_of lk hcd S len fun A outer s H vs Q E hr hsp => ?_
 obtain ⟨t, h, q⟩ := hbody cdv A outer s H vs Q E hr hsp
 exact ⟨t, h.nox, q⟩
theorem Fun.binds {x qual : Str} {st : Stmt} {f : Addr} {fd : FuncData} {ps : List Str} (F : Fun K x qual st f fd)
  (h : ∀ (kV doc pm : Value) (an : Option Addr) (cdv ct : Value) (us : List Value), us.length = ps.length -> bindArgs (PySem.W.fnOf x qual (defArgs st) (defBody st) (defScope st) .none kV doc pm an cdv ct) ⟨us, []⟩ = pure (ps.zip us)) : Binds K fd ps [] := by
 obtain ⟨oc, od, kV, doc, pm, an, cdv, ct, osl, rfl, lk, hcd⟩ := F.ex
 exact .all (h kV doc pm an cdv ct)
theorem fun_mk {x qual : Str} {st : Stmt} {f : Addr} {oc : Value} {od an : Option Addr} {osl : Array (Option Value)} {kV doc pm cdv ct : Value} (l : K.lookup f = some ⟨oc, od, .func (PySem.W.fnOf x qual (defArgs st) (defBody st) (defScope st) .none kV doc pm an cdv ct), osl⟩)
  (c : PySem.W.codeIn K cdv qual = true) (k : PySem.W.keepIn K (.ref f) = true) : Fun K x qual st f (PySem.W.fnOf x qual (defArgs st) (defBody st) (defScope st) .none kV doc pm an cdv ct) := ⟨⟨oc, od, kV, doc, pm, an, cdv, ct, osl, rfl, l, c⟩, k⟩
end
theorem hu_of {A : Around} {k : Nat} (hr : Room k A) : A.units + 1 < cLine := Nat.lt_of_le_of_lt (Nat.add_le_add_left (by decide : 1 <= 64) _) hr.units
section
variable {X : Cx}
theorem pv (i : Nat) {x : Str} {pos : Pos} (hN : X.N[i]? = some x := by rfl) (hv : Vis X.env.scope x := by first | exact Or.inl rfl | exact Or.inr (Or.inl rfl) | exact Or.inr (Or.inr rfl)) (hd : (x == ("__debug__" : Str)) = false := by decide)
  (hcd : (x == ("__classdict__" : Str)) = false := by decide) : PE X (.Name x pos) (tVar i) := pe_var hN hv hd hcd
end
theorem iteF {A B : Prop} (h : B) : if false = true then A else B := by
 rw [if_neg Bool.false_ne_true]
 exact h
theorem iteT {A B : Prop} (h : A) : if true = true then A else B := by
 rw [if_pos rfl]
 exact h
theorem ite2 {c A B : Prop} [Decidable c] (h1 : c -> A) (h2 : ¬ c -> B) : if c then A else B := by
 by_cases h : c
 ·rw [if_pos h]
  exact h1 h
 ·rw [if_neg h]
  exact h2 h
def Same (H H' : Hp) : Prop := ∀ b o, H b = some o -> H' b = some o
theorem Same.refl (H : Hp) : Same H H := fun _ _ h => h
theorem Same.trans {H H1 H2 : Hp} (a : Same H H1) (b : Same H1 H2) : Same H H2 := fun c o h => b c o (a c o h)
theorem Same.free {H H' : Hp} (e : Same H H') {l : Addr} (h : H' l = Option.none) : H l = Option.none := by
 cases q : H l with
 | none => rfl
 | some o =>
  rw [e l o q] at h
  cases h
theorem Same.seq {K : PySem.W.Frag} {H H' : Hp} {a : Addr} {xs : List V} (e : Same H H') (h : SqL K H a xs) : SqL K H' a xs := by
 rcases h with (h | ⟨o, h⟩) | h
 ·exact .inl (.inl (e _ _ h))
 ·exact .inl (.inr ⟨o, e _ _ h⟩)
 ·exact .inr h
section
variable {κ : Type} [DecidableEq κ]
def valV (kvs : List (κ × V)) (k : κ) : Option V := (kvs.find? fun kv => decide (kv.1 = k)).map (·.2)
def putK (kvs : List (κ × V)) (k : κ) (v : V) : List (κ × V) :=
 if (kvs.any fun kv => decide (kv.1 = k)) = true then kvs.map (fun kv => if kv.1 = k then (kv.1, v) else kv) else kvs ++ [(k, v)]
def dropK (kvs : List (κ × V)) (k : κ) : List (κ × V) := kvs.filter fun kv => decide (kv.1 ≠ k)
theorem valV_pos {p : κ × V} {r : List (κ × V)} {k : κ} (e : p.1 = k) : valV (p :: r) k = some p.2 := by simp [valV, List.find?_cons, e]
theorem valV_neg {p : κ × V} {r : List (κ × V)} {k : κ} (e : ¬ p.1 = k) : valV (p :: r) k = valV r k := by simp [valV, List.find?_cons, e]
theorem valV_any (k : κ) : ∀ kvs : List (κ × V), (kvs.any fun kv => decide (kv.1 = k)) = (valV kvs k).isSome
 | [] => rfl
 | p :: r => by
  rw [List.any_cons]
  by_cases e : p.1 = k
  ·simp only [valV_pos e, decide_eq_true e, Bool.true_or, Option.isSome_some]
  ·rw [valV_neg e, decide_eq_false e, Bool.false_or]; exact valV_any k r
theorem length_putK (kvs : List (κ × V)) (k : κ) (v : V) : (putK kvs k v).length <= kvs.length + 1 := by
 unfold putK
 split
 ·rw [List.length_map]; omega
 ·rw [List.length_append, List.length_cons, List.length_nil]; omega
theorem putK_new {kvs : List (κ × V)} {k : κ} (v : V) (h : valV kvs k = none) : putK kvs k v = kvs ++ [(k, v)] := by
 unfold putK
 rw [valV_any, h]
 exact if_neg (by decide)
theorem RelO.isSome_eq {o : Option V} {u : Option Value} (r : RelO o u) : o.isSome = u.isSome := by
 cases o with
 | none => cases u with
  | none => rfl
  | some _ => exact (show False from r).elim
 | some _ => cases u with
  | none => exact (show False from r).elim
  | some _ => rfl
theorem RelO.getD {o : Option V} {u : Option Value} {d : V} {d' : Value} (r : RelO o u) (rd : RelV d d') : RelV (o.getD d) (u.getD d') := by
 cases o with
 | none => cases u with
  | none => exact rd
  | some _ => exact (show False from r).elim
 | some _ => cases u with
  | none => exact (show False from r).elim
  | some _ => exact r
theorem KV.val {kvs : List (κ × V)} {vs : List (κ × Value)} (r : KV kvs vs) (k : κ) : RelO (valV kvs k) (valueAt vs k) := by
 unfold KV at r
 induction r with
 | nil => exact True.intro
 | @cons p q ps qs h t ih =>
  obtain ⟨h1, h2⟩ := h
  by_cases e : p.1 = k
  ·have e' : q.1 = k := h1.symm.trans e
   have b : valueAt (q :: qs) k = some q.2 := by simp [valueAt, List.find?_cons, e']
   rw [valV_pos e, b]; exact h2
  ·have e' : ¬ q.1 = k := fun z => e (h1.trans z)
   have b : valueAt (q :: qs) k = valueAt qs k := by simp [valueAt, List.find?_cons, e']
   rw [valV_neg e, b]; exact ih
theorem KV.any {kvs : List (κ × V)} {vs : List (κ × Value)} (r : KV kvs vs) (k : κ) : (kvs.any fun kv => decide (kv.1 = k)) = vs.any fun kv => decide (kv.1 = k) := by
 unfold KV at r
 induction r with
 | nil => rfl
 | cons h t ih => rw [List.any_cons, List.any_cons, ih, h.1]
theorem KV.repl {kvs : List (κ × V)} {vs : List (κ × Value)} (r : KV kvs vs) (k : κ) {y : V} {u : Value} (ry : RelV y u) :
  KV (kvs.map fun kv => if kv.1 = k then (kv.1, y) else kv) (vs.map fun kv => if kv.1 = k then (kv.1, u) else kv) := by
 unfold KV at r ⊢
 induction r with
 | nil => exact .nil
 | @cons p q ps qs h t ih =>
  rw [List.map_cons, List.map_cons]
  refine .cons ?_ ih
  obtain ⟨h1, h2⟩ := h
  by_cases e : p.1 = k
  ·rw [if_pos e, if_pos (h1.symm.trans e)]; exact ⟨h1, ry⟩
  ·rw [if_neg e, if_neg (fun z => e (h1.trans z))]; exact ⟨h1, h2⟩
theorem KV.put {kvs : List (κ × V)} {vs : List (κ × Value)} (r : KV kvs vs) (k : κ) {y : V} {u : Value} (ry : RelV y u) : KV (putK kvs k y) (stored vs k u) := by
 unfold putK stored
 rw [r.any k]
 by_cases e : (vs.any fun kv => decide (kv.1 = k)) = true
 ·rw [if_pos e, if_pos e]; exact r.repl k ry
 ·rw [if_neg e, if_neg e]; exact Paired.snoc r ⟨rfl, ry⟩
theorem KV.drop {kvs : List (κ × V)} {vs : List (κ × Value)} (r : KV kvs vs) (k : κ) : KV (dropK kvs k) (without vs k) := by
 unfold KV at r ⊢
 unfold dropK without
 induction r with
 | nil => exact .nil
 | @cons p q ps qs h t ih =>
  obtain ⟨h1, h2⟩ := h
  rw [List.filter_cons, List.filter_cons]
  by_cases e : p.1 = k
  ·have a : ¬ decide (p.1 ≠ k) = true := by simp [e]
   have b : ¬ decide (q.1 ≠ k) = true := by simp [h1.symm.trans e]
   rw [if_neg a, if_neg b]; exact ih
  ·have e' : ¬ q.1 = k := fun z => e (h1.trans z)
   have a : decide (p.1 ≠ k) = true := by simp [e]
   have b : decide (q.1 ≠ k) = true := by simp [e']
   rw [if_pos a, if_pos b]; exact .cons ⟨h1, h2⟩ ih
theorem KV.keys {kvs : List (κ × V)} {vs : List (κ × Value)} (r : KV kvs vs) : kvs.map (·.1) = vs.map (·.1) := by
 unfold KV at r
 induction r with
 | nil => rfl
 | cons h t ih => rw [List.map_cons, List.map_cons, ih, h.1]
theorem KV.length {kvs : List (κ × V)} {vs : List (κ × Value)} (r : KV kvs vs) : kvs.length = vs.length := Paired.length r
end
theorem kV_is {P : Program} {w : World} {k : Key} {u : Value} (r : RelV (kV k) u) : (mixKind P w).is k u = true := by
 cases k with
 | inl i => obtain ⟨t, e⟩ := (show ∃ t, u = Value.int i t from r); subst e; exact mixKind_int P w i t
 | inr x => obtain ⟨t, e⟩ := (show ∃ t, u = Value.str x t from r); subst e; exact mixKind_str P w x t
theorem items_are {P : Program} {w : World} : ∀ {ks : List Key} {us : List Value}, Vals (ks.map kV) us -> ItemsAre (mixKind P w) ks us
 | [], _, r => by rw [List.map_nil] at r; cases r; exact .nil
 | k :: ks, _, r => by
  rw [List.map_cons] at r
  cases r with
  | cons h t => exact .cons (kV_is h) (items_are t)
abbrev KT (H : Hp) : List (List Key × V) -> List (List Key × Addr × Value) -> Prop := Paired fun p q => p.1 = q.1 /\ H q.2.1 = some (.tup (p.1.map kV)) /\ RelV p.2 q.2.2
theorem KT.val {H : Hp} {kvs : List (List Key × V)} {xs : List (List Key × Addr × Value)} (r : KT H kvs xs) (k : List Key) : RelO (valV kvs k) ((atKey xs k).map (·.2)) := by
 induction r with
 | nil => exact True.intro
 | @cons p q ps qs h t ih =>
  obtain ⟨h1, _, h2⟩ := h
  by_cases e : p.1 = k
  ·have e' : q.1 = k := h1.symm.trans e
   have b : atKey (q :: qs) k = some q.2 := by simp [atKey, List.find?_cons, e']
   rw [valV_pos e, b]; exact h2
  ·have e' : ¬ q.1 = k := fun z => e (h1.trans z)
   have b : atKey (q :: qs) k = atKey qs k := by simp [atKey, List.find?_cons, e']
   rw [valV_neg e, b]; exact ih
theorem KT.repl {H : Hp} {kvs : List (List Key × V)} {xs : List (List Key × Addr × Value)} (r : KT H kvs xs) (k : List Key) {y : V} {u : Value} (ry : RelV y u) :
  KT H (kvs.map fun kv => if kv.1 = k then (kv.1, y) else kv) (xs.map (putAt k u)) := by
 induction r with
 | nil => exact .nil
 | @cons p q ps qs h t ih =>
  rw [List.map_cons, List.map_cons]
  refine .cons ?_ ih
  obtain ⟨h1, h2, h3⟩ := h
  unfold putAt
  by_cases e : p.1 = k
  ·rw [if_pos e, if_pos (h1.symm.trans e)]; exact ⟨h1, h2, ry⟩
  ·rw [if_neg e, if_neg (fun z => e (h1.trans z))]; exact ⟨h1, h2, h3⟩
theorem KT.put {H : Hp} {kvs : List (List Key × V)} {xs : List (List Key × Addr × Value)} (r : KT H kvs xs) (k : List Key) {b : Addr} {y : V} {u : Value} (hb : H b = some (.tup (k.map kV))) (ry : RelV y u) :
  KT H (putK kvs k y) (storedH xs k b u) := by
 have e : (kvs.any fun kv => decide (kv.1 = k)) = (atKey xs k).isSome := by
  rw [valV_any, (r.val k).isSome_eq, Option.isSome_map]
 unfold putK storedH
 rw [e]
 by_cases q : (atKey xs k).isSome = true
 ·rw [if_pos q, if_pos q]; exact r.repl k ry
 ·rw [if_neg q, if_neg q]; exact Paired.snoc r ⟨rfl, hb, ry⟩
theorem KT.keeps {H H' : Hp} {kvs : List (List Key × V)} {xs : List (List Key × Addr × Value)} (r : KT H kvs xs) (ht : ∀ b ys, H b = some (.tup ys) -> H' b = some (.tup ys)) : KT H' kvs xs :=
 Paired.mapP r fun _ _ z => ⟨z.1, ht _ _ z.2.1, z.2.2⟩
section
variable {P : Program} {w : World} {H : Hp} {h : Heap} {a : Addr}
theorem rd_of {u : HO} (ok : HOk P w H h) (e : Rd H a u) : ObjOk P w H h a u := e.ok ok
theorem dk_rd {kvs : List (Key × V)} (ok : HOk P w H h) (e : Rd H a (.dK kvs)) : kvs.length <= sizeLine /\ (a == sysModules) = false /\ ∃ vs, KV kvs vs /\ h.DictOf (mixKind P w) a vs :=
 show ObjOk P w H h a (.dK kvs) from rd_of ok e
theorem dk_of {kvs : List (Key × V)} (ok : HOk P w H h) (e : H a = some (.dK kvs)) : kvs.length <= sizeLine /\ (a == sysModules) = false /\ ∃ vs, KV kvs vs /\ h.DictOf (mixKind P w) a vs := dk_rd ok (.inl e)
theorem key_of {ks : List Key} (ok : HOk P w H h) (e : H a = some (.tup (ks.map kV))) : (tupleKind (mixKind P w)).is h ks a := by
 obtain ⟨_, its, r, o, h1, h2, n, h3⟩ := (show ObjOk P w H h a (.tup (ks.map kV)) from ok a _ e)
 exact ⟨o, its.toArray, n, h1, h2, h3, by simpa using items_are r⟩
theorem dt_rd {kvs : List (List Key × V)} (ok : HOk P w H h) (e : Rd H a (.dT kvs)) : kvs.length <= sizeLine /\ (a == sysModules) = false /\
  ∃ xs, KT H kvs xs /\ h.DictOfH (tupleKind (mixKind P w)) a xs := by
 obtain ⟨z, y, xs, r, o, es, ep, h1, h2, h3, h4, h5⟩ := (show ObjOk P w H h a (.dT kvs) from rd_of ok e)
 refine ⟨z, y, xs, r, o, es, ep, h1, h2, h3, h4, fun x hx => ?_, h5⟩
 have all : ∀ {l : List (List Key × V)} {m : List (List Key × Addr × Value)}, KT H l m -> ∀ x ∈ m, (tupleKind (mixKind P w)).is h x.1 x.2.1 := by
  intro l m q
  induction q with
  | nil => intro x hx; exact nomatch hx
  | @cons p q ps qs hq t ih =>
   intro x hx
   rcases List.mem_cons.mp hx with e | hx
   ·subst e
    exact key_of ok (by rw [<- hq.1]; exact hq.2.1)
   ·exact ih x hx
 exact all r x hx
theorem dt_of {kvs : List (List Key × V)} (ok : HOk P w H h) (e : H a = some (.dT kvs)) : kvs.length <= sizeLine /\ (a == sysModules) = false /\
  ∃ xs, KT H kvs xs /\ h.DictOfH (tupleKind (mixKind P w)) a xs := dt_rd ok (.inl e)
end
def DGet (H : Hp) (a : Addr) (y : V) (r : Option V) : Prop :=
 (∃ kvs k, Rd H a (.dK kvs) /\ y = kV k /\ r = valV kvs k) \/ ∃ kvs k b, Rd H a (.dT kvs) /\ y = .ref b /\ H b = some (.tup (k.map kV)) /\ r = valV kvs k
def DPut (H : Hp) (a : Addr) (y v : V) (H' : Hp) : Prop :=
 (∃ kvs k, H a = some (.dK kvs) /\ y = kV k /\ kvs.length < sizeLine /\ H' = upd H a (.dK (putK kvs k v))) \/
 ∃ kvs k b, H a = some (.dT kvs) /\ y = .ref b /\ H b = some (.tup (k.map kV)) /\ kvs.length < sizeLine /\ H' = upd H a (.dT (putK kvs k v))
theorem DGet.k {H : Hp} {a : Addr} {kvs : List (Key × V)} {k : Key} (e : H a = some (.dK kvs)) : DGet H a (kV k) (valV kvs k) := .inl ⟨kvs, k, .inl e, rfl, rfl⟩
theorem DGet.t {H : Hp} {a b : Addr} {kvs : List (List Key × V)} {k : List Key} (e : H a = some (.dT kvs)) (eb : H b = some (.tup (k.map kV))) : DGet H a (.ref b) (valV kvs k) := .inr ⟨kvs, k, b, .inl e, rfl, eb, rfl⟩
theorem DPut.k {H : Hp} {a : Addr} {kvs : List (Key × V)} {k : Key} {v : V} (e : H a = some (.dK kvs)) (hl : kvs.length < sizeLine) : DPut H a (kV k) v (upd H a (.dK (putK kvs k v))) := .inl ⟨kvs, k, e, rfl, hl, rfl⟩
theorem DPut.t {H : Hp} {a b : Addr} {kvs : List (List Key × V)} {k : List Key} {v : V} (e : H a = some (.dT kvs)) (eb : H b = some (.tup (k.map kV))) (hl : kvs.length < sizeLine) :
  DPut H a (.ref b) v (upd H a (.dT (putK kvs k v))) := .inr ⟨kvs, k, b, e, rfl, eb, hl, rfl⟩
section
variable {X : Cx} {pins : List (Addr × Obj)} {σ : St} {H : Hp} {s : Shared} {a : Addr} {y v : V} {u r : Value} {o : Option V} {A : Around} {E : Value -> Shared -> Prop}
theorem Inv.big (I : Inv X pins σ H s) : sysModules < s.heap.objs.size := by
 have h : mainGlobals < s.heap.objs.size := (I.mod.glob.keeps I.bk).lt
 exact Nat.lt_trans (by decide) h
theorem d_getItem {Q : Value -> Shared -> Prop} (hu : A.units + 1 < cLine) (I : Inv X pins σ H s) (g : DGet H a y (some v)) (ry : RelV y u) (h : ∀ w' s', Inv X pins σ H s' -> RelV v w' -> Q w' s') :
  wpAny (model X.prog X.w) A (getItem (.ref a) u) Q E s := by
 rcases g with ⟨kvs, k, e, ey, l⟩ | ⟨kvs, k, b, e, ey, eb, l⟩
 ·subst ey
  obtain ⟨z, hd, vs, rel, dd⟩ := dk_rd I.hok e
  obtain ⟨w', hw, rw'⟩ := RelO.some_of (v := v) (o := valueAt vs k) (by rw [l]; exact rel.val k)
  exact wpAny_getItem_of (kV_is ry) dd.mapOf hw (h w' _ (I.tok _) rw')
 ·subst ey
  cases (show u = Value.ref b from ry)
  obtain ⟨z, hd, xs, rel, dd⟩ := dt_rd I.hok e
  obtain ⟨w', hw, rw'⟩ := RelO.some_of (v := v) (o := (atKey xs k).map (·.2)) (by rw [l]; exact rel.val k)
  obtain ⟨p, hp, hp2⟩ := Option.map_eq_some_iff.mp hw
  refine wpAny_getItem_heap (tupleKind_room_in1 hu) (key_of I.hok eb) dd hp ?_
  rw [hp2]
  exact h w' _ (I.tok _) rw'
theorem d_in {Q : Value -> Shared -> Prop} (hu : A.units + 1 < cLine) (I : Inv X pins σ H s) (g : DGet H a y o) (ry : RelV y u) (h : ∀ s', Inv X pins σ H s' -> Q (.bool o.isSome) s') :
  wpAny (model X.prog X.w) A (compareOp .In u (.ref a)) Q E s := by
 rcases g with ⟨kvs, k, e, ey, l⟩ | ⟨kvs, k, b, e, ey, eb, l⟩
 ·subst ey
  obtain ⟨z, hd, vs, rel, dd⟩ := dk_rd I.hok e
  refine wpAny_in_of (kV_is ry) hd dd.mapOf ?_
  rw [<- (rel.val k).isSome_eq, <- l]
  exact h _ (I.tok _)
 ·subst ey
  cases (show u = Value.ref b from ry)
  obtain ⟨z, hd, xs, rel, dd⟩ := dt_rd I.hok e
  refine wpAny_in_heap (tupleKind_room_in1 hu) (key_of I.hok eb) hd dd ?_
  have q := (rel.val k).isSome_eq
  rw [Option.isSome_map] at q
  rw [<- q, <- l]
  exact h _ (I.tok _)
theorem d_notIn {Q : Value -> Shared -> Prop} (hu : A.units + 1 < cLine) (I : Inv X pins σ H s) (g : DGet H a y o) (ry : RelV y u) (h : ∀ s', Inv X pins σ H s' -> Q (.bool (!o.isSome)) s') :
  wpAny (model X.prog X.w) A (compareOp .NotIn u (.ref a)) Q E s := by
 rcases g with ⟨kvs, k, e, ey, l⟩ | ⟨kvs, k, b, e, ey, eb, l⟩
 ·subst ey
  obtain ⟨z, hd, vs, rel, dd⟩ := dk_rd I.hok e
  refine wpAny_notIn_of (kV_is ry) hd dd.mapOf ?_
  rw [<- (rel.val k).isSome_eq, <- l]
  exact h _ (I.tok _)
 ·subst ey
  cases (show u = Value.ref b from ry)
  obtain ⟨z, hd, xs, rel, dd⟩ := dt_rd I.hok e
  refine wpAny_notIn_heap (tupleKind_room_in1 hu) (key_of I.hok eb) hd dd ?_
  have q := (rel.val k).isSome_eq
  rw [Option.isSome_map] at q
  rw [<- q, <- l]
  exact h _ (I.tok _)
theorem d_write {h' : Heap} {t' : Nat} {ob : HO} (I : Inv X pins σ H s) (mu : Mut (H a)) (hs : Heap.SameBut a s.heap h') (he : ∃ q, h'.get? a = some q) (new : ObjOk X.prog X.w (upd H a ob) h' a ob) :
  Inv X pins σ (upd H a ob) { s with heap := h', toks := t' } :=
 I.write (x := a) (e := a) mu (.inl rfl) (fun b q hb z => (hs.2 b hb).trans z) he new
theorem dk_new {P : Program} {w : World} {H' : Hp} {h' : Heap} {kvs : List (Key × V)} {vs : List (Key × Value)} (z : kvs.length <= sizeLine) (hd : (a == sysModules) = false) (rel : KV kvs vs) (dd : h'.DictOf (mixKind P w) a vs) :
  ObjOk P w H' h' a (.dK kvs) := ⟨z, hd, vs, rel, dd⟩
theorem d_setItem {H' : Hp} {Q : Unit -> Shared -> Prop} (hu : A.units + 1 < cLine) (I : Inv X pins σ H s) (g : DPut H a y v H') (ry : RelV y u) (rv : RelV v r) (h : ∀ s', Inv X pins σ H' s' -> Q () s') :
  wpAny (model X.prog X.w) A (setItem (.ref a) u r) Q E s := by
 rcases g with ⟨kvs, k, e, ey, l, eH⟩ | ⟨kvs, k, b, e, ey, eb, l, eH⟩
 ·subst ey eH
  obtain ⟨z, hd, vs, rel, dd⟩ := dk_of I.hok e
  have hz : vs.length <= sizeLine := by rw [<- rel.length]; exact z
  have hl : (putK kvs k v).length <= sizeLine := by have := length_putK kvs k v; omega
  refine wpAny_setItem_pairs (hsz := hz) (kV_is ry) dd fun h' dd' hs => h _ ?_
  have he : ∃ q, h'.get? a = some q := let ⟨q, _, _, hq, _⟩ := dd'; ⟨q, hq⟩
  exact d_write I (by rw [e]; exact True.intro) hs he (dk_new hl hd (rel.put k rv) dd')
 ·subst ey eH
  cases (show u = Value.ref b from ry)
  obtain ⟨z, hd, xs, rel, dd⟩ := dt_of I.hok e
  have hz : xs.length <= sizeLine := by rw [<- Paired.length rel]; exact z
  have hl : (putK kvs k v).length <= sizeLine := by have := length_putK kvs k v; omega
  refine wpAny_setItem_heap (hsz := hz) (tupleKind_room_in1 hu) (key_of I.hok eb) dd fun h' dd' hs => h _ ?_
  obtain ⟨q, es, ep, hq, h2, h3, h4, _, h5⟩ := dd'
  refine d_write I (by rw [e]; exact True.intro) hs ⟨q, hq⟩ ⟨hl, hd, _, (rel.put k eb rv).keeps fun c ys ec => ?_, q, es, ep, hq, h2, h3, h4, h5⟩
  rw [upd_ne (ne_of ec e (fun z => nomatch z))]
  exact ec
end
section
variable {X : Cx} {pins : List (Addr × Obj)} {σ : St} {H : Hp} {s : Shared} {a : Addr} {kvs : List (Key × V)} {k : Key} {u : Value} {A : Around} {E : Value -> Shared -> Prop}
theorem d_len {Q : Value -> Shared -> Prop} (I : Inv X pins σ H s) (e : Rd H a (.dK kvs)) (h : ∀ t s', Inv X pins σ H s' -> Q (.int kvs.length t) s') : wpAny (model X.prog X.w) A (call (.builtin "len") [.ref a]) Q E s := by
 obtain ⟨z, hd, vs, rel, dd⟩ := dk_rd I.hok e
 refine call_len_dict hd dd (by rw [<- rel.length]; rw [sizeLine_eq] at z; omega) ?_
 rw [<- rel.length]
 exact h _ _ (I.tok _)
end
def NoSl (i : Expr) : Prop := ∀ ov iv, subscripted i false ov iv = operate [ov, iv] (getItem ov iv)
theorem subD_of {prog : Program} {w : World} {A : Around} {E : Value -> Shared -> Prop} {s : Shared} {env : Env} {value slice : Expr} {pos : Pos} {T id : String} {Q : Value -> Shared -> Prop}
  (hl : typeLookup (.type T) "__getitem__" = pure (some (.builtin id))) (hs : NoSl slice)
  (h : wpAny (model prog w) A (eval value env) (fun o s₁ => wpAny (model prog w) A (eval slice env) (fun i s₂ => s₂.TypeIs o T /\ wpAny (model prog w) A (getItem o i) Q E s₂) E s₁) E s) :
  wpAny (model prog w) A (eval (.Subscript value slice pos) env) Q E s := by
 refine Subscript_ (wpAny_mono h (fun o s₁ h₁ => wpAny_mono h₁ (fun i s₂ h₂ => ?_) fun _ _ x => x) fun _ _ x => x)
 obtain ⟨hT, h₂⟩ := h₂
 unfold subscriptTail
 refine wpAny_bind ?_
 rw [getitemInPython_of_ne hT.not_modules]
 refine wpAny_bind (wpAny_specialOf hT hl ?_)
 have fin : wpAny (model prog w) A (subscripted slice false o i) (fun r s₃ => wpAny (model prog w) A (letTemporaryGo value o r >>= fun _ => pure r) Q E s₃) E s₂ := by
  rw [hs o i]
  exact wpAny_operating (wpAny_mono h₂ (fun r s₃ h₃ => wpAny_bind (wpAny_letTemporaryGo (wpAny_pure h₃))) fun _ _ x => x)
 first
  | exact wpAny_pure (wpAny_bind fin)
  | exact wpAny_bind (wpAny_pure (wpAny_bind fin))
  | exact wpAny_bind fin
theorem dict_typeIs {X : Cx} {pins : List (Addr × Obj)} {σ : St} {H : Hp} {s : Shared} {a : Addr} {y : V} {o : Option V} (I : Inv X pins σ H s) (g : DGet H a y o) : s.TypeIs (.ref a) "dict" := by
 rcases g with ⟨kvs, k, e, _, _⟩ | ⟨kvs, k, b, e, _, _, _⟩
 ·obtain ⟨_, _, vs, _, dd⟩ := dk_rd I.hok e
  exact dd.typeIs
 ·obtain ⟨_, _, xs, _, dd⟩ := dt_rd I.hok e
  exact dd.typeIs
def tDGet (td ty : TE) : TE := fun σ H Q => td σ H fun x H1 => ty σ H1 fun y H2 => ∃ a v, x = .ref a /\ DGet H2 a y (some v) /\ Q v H2
def tDIn (ty td : TE) : TE := fun σ H Q => ty σ H fun y H1 => td σ H1 fun x H2 => ∃ a o, x = .ref a /\ DGet H2 a y o /\ Q (.bl o.isSome) H2
def tDNotIn (ty td : TE) : TE := fun σ H Q => ty σ H fun y H1 => td σ H1 fun x H2 => ∃ a o, x = .ref a /\ DGet H2 a y o /\ Q (.bl (!o.isSome)) H2
def sDPut (td ty tv : TE) : TS := fun D σ H => tv σ H fun v H1 => td σ H1 fun x H2 => ty σ H2 fun y H3 => ∃ a H4, x = .ref a /\ DPut H3 a y v H4 /\ D.nx σ H4
section
variable {X : Cx} {o i e value : Expr} {pos pos' tpos : Pos} {td ty tv : TE}
theorem pe_dget (hu : X.A.units + 1 < cLine) (ho : PE X o td) (hi : PE X i ty) (hs : NoSl i) : PE X (.Subscript o i pos) (tDGet td ty) := by
 intro pins s σ H Q I h
 refine subD_of PySem.F.slot_dict_getitem.lookup hs (thn (ho pins s σ H _ I h) fun u s1 ⟨x, H1, I1, rx, q1⟩ => thn (hi pins s1 σ H1 _ I1 q1) fun iv s2 ⟨y, H2, I2, ry, a, v, ex, g, q2⟩ => ?_)
 subst ex
 obtain rfl : u = Value.ref a := rx
 exact ⟨dict_typeIs I2 g, d_getItem hu I2 g ry fun w' s3 I3 rw' => ⟨v, H2, I3, rw', q2⟩⟩
theorem pc_din (hu : X.A.units + 1 < cLine) (hi : PE X i ty) (ho : PE X o td) : PC X .In i o (tDIn ty td) := by
 intro pins s σ H Q I h
 refine thn (hi pins s σ H _ I h) fun iv s1 ⟨y, H1, I1, ry, q1⟩ => thn (ho pins s1 σ H1 _ I1 q1) fun u s2 ⟨x, H2, I2, rx, a, ov, ex, g, q2⟩ => ?_
 subst ex
 obtain rfl : u = Value.ref a := rx
 exact d_in hu I2 g ry fun s3 I3 => ⟨.bl ov.isSome, H2, I3, rfl, q2⟩
theorem pc_dnotin (hu : X.A.units + 1 < cLine) (hi : PE X i ty) (ho : PE X o td) : PC X .NotIn i o (tDNotIn ty td) := by
 intro pins s σ H Q I h
 refine thn (hi pins s σ H _ I h) fun iv s1 ⟨y, H1, I1, ry, q1⟩ => thn (ho pins s1 σ H1 _ I1 q1) fun u s2 ⟨x, H2, I2, rx, a, ov, ex, g, q2⟩ => ?_
 subst ex
 obtain rfl : u = Value.ref a := rx
 exact d_notIn hu I2 g ry fun s3 I3 => ⟨.bl (!ov.isSome), H2, I3, rfl, q2⟩
theorem ps_dput (hu : X.A.units + 1 < cLine) (ho : PE X o td) (hi : PE X i ty) (hv : PE X value tv) (hs : swapsWith value (some (.Subscript o i pos')) pos.line X.env = pure false) :
  PS X (.Assign [.Subscript o i pos'] value pos) (sDPut td ty tv) := by
 intro pins s σ H D I h
 refine wpAny_Assign_Subscript (thn (hv pins s σ H _ I h) fun r s1 ⟨v, H1, I1, rv, q1⟩ => thn (ho pins s1 σ H1 _ I1 q1) fun u s2 ⟨x, H2, I2, rx, q2⟩ => thn (hi pins s2 σ H2 _ I2 q2) fun iv s3 ⟨y, H3, I3, ry, a, H4, ex, g, q3⟩ => ?_) hs
 subst ex
 obtain rfl : u = Value.ref a := rx
 exact d_setItem hu I3 g ry rv fun s4 I4 => ⟨σ, H4, I4, q3⟩
end
theorem dk_empty {P : Program} {w : World} {H : Hp} (h : Heap) (hb : sysModules < h.objs.size) : ObjOk P w H (h.push { cls := .type "dict", data := .dict #[] }) h.objs.size (.dK []) :=
 ⟨Nat.zero_le _, beq_eq_false_iff_ne.mpr (Ne.symm (Nat.ne_of_lt hb)), [], .nil, Heap.DictOf.new h⟩
def tDNewK : TE := fun _ H Q => ∀ p, H p = none -> Q (.ref p) (upd H p (.dK []))
section
variable {X : Cx} {pos : Pos}
theorem pe_dnewK : PE X (.Dict [] [] pos) tDNewK := fun pins s σ H Q I h =>
 wpAny_Dict_empty ⟨.ref s.heap.objs.size, _, I.laid (a := s.heap.objs.size) (o := .dK []) (t' := s.toks) (fun _ _ q => Heap.get?_push_of_some _ q) (Nat.le_refl _) (dk_empty s.heap I.big), rfl, h _ (I.hok.fresh (Nat.le_refl _))⟩
end
structure M1 (X : Cx) (o : Expr) (m : Str) (apos : Pos) (e : Expr) (cpos : Pos) : Prop where
 base : attributeBase o m X.env (eval o X.env) = eval o X.env
 few : ((backTo cpos (starEach [e] X.env)).all (fun x => !x.1) && (backToKw cpos (keywordEach [] X.env)).all (fun x => x.1.isSome)
  && decide (([e] : List Expr).length + ([] : List Keyword).length + (if ([] : List Keyword).isEmpty then 0 else 1) < 30)) = true
 line : (apos.endLine == cpos.line) = true
 trees : backTo cpos (starEach [e] X.env) = [(false, eval e X.env)]
structure M2 (X : Cx) (o : Expr) (m : Str) (apos : Pos) (e f : Expr) (cpos : Pos) : Prop where
 base : attributeBase o m X.env (eval o X.env) = eval o X.env
 few : ((backTo cpos (starEach [e, f] X.env)).all (fun x => !x.1) && (backToKw cpos (keywordEach [] X.env)).all (fun x => x.1.isSome)
  && decide (([e, f] : List Expr).length + ([] : List Keyword).length + (if ([] : List Keyword).isEmpty then 0 else 1) < 30)) = true
 line : (apos.endLine == cpos.line) = true
 trees : backTo cpos (starEach [e, f] X.env) = [(false, eval e X.env), (false, eval f X.env)]
section
variable {X : Cx} {pins : List (Addr × Obj)} {σ : St} {H : Hp} {s : Shared} {a : Addr} {y d : V} {u r : Value} {o : Option V} {A : Around} {E : Value -> Shared -> Prop}
theorem d_get2 {Q : Value -> Shared -> Prop} (hu : A.units + 1 < cLine) (I : Inv X pins σ H s) (g : DGet H a y o) (ry : RelV y u) (rd : RelV d r) (h : ∀ w' s', Inv X pins σ H s' -> RelV (o.getD d) w' -> Q w' s') :
  wpAny (model X.prog X.w) A (call (.builtin "dict.get") [.ref a, u, r]) Q E s := by
 rcases g with ⟨kvs, k, e, ey, l⟩ | ⟨kvs, k, b, e, ey, eb, l⟩
 ·subst ey
  obtain ⟨z, hd, vs, rel, dd⟩ := dk_rd I.hok e
  refine call_meetsIn PySem.F.slot_dict_get dd.typeIs PySem.F.entry_dict_get (PySem.F.args_dict_get_3 _ _ _) (meets_dict_get_default (mixKind X.prog X.w) a (kV_is ry) hd r) ⟨_, dd.mapOf, h _ _ (I.tok _) ?_⟩
  rw [l]
  exact (rel.val k).getD rd
 ·subst ey
  cases (show u = Value.ref b from ry)
  obtain ⟨z, hd, xs, rel, dd⟩ := dt_rd I.hok e
  refine call_meetsIn PySem.F.slot_dict_get dd.typeIs PySem.F.entry_dict_get (PySem.F.args_dict_get_3 _ _ _) (meetsH_dict_get_default (tupleKind (mixKind X.prog X.w)) a b hd r) ⟨tupleKind_room_in1 hu, k, xs, key_of I.hok eb, dd, h _ _ (I.tok _) ?_⟩
  rw [l]
  exact (rel.val k).getD rd
end
section
variable {X : Cx} {o e f : Expr} {apos cpos : Pos} {td ty tx : TE}
end
section
variable {X : Cx} {pins : List (Addr × Obj)} {σ : St} {H : Hp} {s : Shared} {a : Addr} {kvs : List (Key × V)} {A : Around} {E : Value -> Shared -> Prop}
end
section
variable {X : Cx} {pins : List (Addr × Obj)} {σ : St} {H : Hp} {s : Shared} {a : Addr} {y : V} {u : Value} {A : Around} {E : Value -> Shared -> Prop}
end
section
variable {X : Cx}
theorem call_lenD : CallR X (.builtin "len") (fun xs H Q => ∃ a kvs, xs = [V.ref a] /\ H a = some (.dK kvs) /\ Q (.int kvs.length) H) := by
 intro pins s σ H xs us Q I r h
 obtain ⟨a, kvs, rfl, ha, q⟩ := h
 obtain ⟨u, rfl, ru⟩ := vals1 r
 cases ru
 exact d_len I (.inl ha) fun t s' I' => ⟨.int kvs.length, H, I', ⟨t, rfl⟩, q⟩
end
section
variable {κ : Type} [DecidableEq κ]
theorem valV_not {kvs : List (κ × V)} {k : κ} (h : valV kvs k = none) : ¬ k ∈ kvs.map (·.1) := by
 intro m
 obtain ⟨p, hp, e⟩ := List.mem_map.mp m
 have q : (kvs.any fun kv => decide (kv.1 = k)) = true := List.any_eq_true.mpr ⟨p, hp, decide_eq_true e⟩
 rw [valV_any, h] at q
 exact absurd q (by simp)
theorem valV_in {kvs : List (κ × V)} {k : κ} {v : V} (h : valV kvs k = some v) : k ∈ kvs.map (·.1) := by
 have q : (kvs.any fun kv => decide (kv.1 = k)) = true := by
  rw [valV_any, h]
  all_goals rfl
 obtain ⟨p, hp, e⟩ := List.any_eq_true.mp q
 exact List.mem_map.mpr ⟨p, hp, of_decide_eq_true e⟩
end
end L2
set_option maxHeartbeats 4000000
namespace L2
open PySem PySem.Spec PyProof.Rows
section
variable {X : Cx}
theorem mt_lower : MtR X "str.lower" (fun x xs H Q => ∃ z, x = .str z /\ xs = [] /\ z.length <= 5592405 /\ Q (.str (Txt.lower z)) H) := by
 intro pins s σ H x xs v us Q I rx rs h
 obtain ⟨z, rfl, rfl, hz, q⟩ := h
 obtain ⟨t, rfl⟩ := rx
 cases rs
 exact SCL.lower hz fun _ => ⟨.str _, H, I.tok _, ⟨_, rfl⟩, q⟩
theorem mt_upper : MtR X "str.upper" (fun x xs H Q => ∃ z, x = .str z /\ xs = [] /\ z.length <= 5592405 /\ Q (.str (Txt.upper z)) H) := by
 intro pins s σ H x xs v us Q I rx rs h
 obtain ⟨z, rfl, rfl, hz, q⟩ := h
 obtain ⟨t, rfl⟩ := rx
 cases rs
 exact SCL.upper hz fun _ => ⟨.str _, H, I.tok _, ⟨_, rfl⟩, q⟩
theorem mt_strip : MtR X "str.strip" (fun x xs H Q => ∃ z, x = .str z /\ xs = [] /\ z.length <= sizeLine /\ Q (.str (Txt.strip z)) H) := by
 intro pins s σ H x xs v us Q I rx rs h
 obtain ⟨z, rfl, rfl, hz, q⟩ := h
 obtain ⟨t, rfl⟩ := rx
 cases rs
 exact SCL.strip (fun t' k _ => ⟨.str _, H, I.tok _, ⟨_, rfl⟩, q⟩) hz
theorem mt_sindex (hc : X.calm = true) : MtR X "str.index" (fun x xs H Q => ∃ z y, x = .str z /\ xs = [.str y] /\ (Builtin.Str.occurrences z y 0 z.length 1).isEmpty = false /\ Q (.int (Txt.find z y)) H) := by
 intro pins s σ H x xs v us Q I rx rs h
 obtain ⟨z, y, rfl, rfl, hz, q⟩ := h
 obtain ⟨t, rfl⟩ := rx
 obtain ⟨u, rfl, t', rfl⟩ := vals1 rs
 refine index_or (I.ok.hd hc) (fun _ e => ?_) fun _ _ => ⟨.int _, H, I.tok _, ⟨_, rfl⟩, q⟩
 rw [hz] at e
 cases e
theorem strsAre_of : ∀ {ys : List Str} {us : List Value}, Vals (ys.map V.str) us -> StrsAre us ys
 | [], _, .nil => .nil
 | y :: ys, _, .cons r t => by
  obtain ⟨k, e⟩ := (show ∃ k, _ = Value.str y k from r)
  subst e
  exact .cons y k (strsAre_of t)
theorem mt_join : MtR X "str.join" (fun x xs H Q => ∃ z p ys, x = .str z /\ xs = [.ref p] /\ SqL X.K H p (ys.map V.str) /\ (ys.map (·.length)).sum + ys.length * z.length <= 16777216 /\ Q (.str (Txt.join z ys)) H) := by
 intro pins s σ H x xs v us Q I rx rs h
 obtain ⟨z, p, ys, rfl, rfl, hq, hz, q⟩ := h
 obtain ⟨t, rfl⟩ := rx
 obtain ⟨u, rfl, r1⟩ := vals1 rs
 cases r1
 obtain ⟨its, r, pl, _⟩ := I.list hq
 exact join_list pl.isList (by simpa using strsAre_of r) hz fun t' k => ⟨.str _, H, I.tok _, ⟨_, rfl⟩, q⟩
def rSlS : V -> Option Int -> Option Int -> Hp -> VK -> Prop := fun x lo hi H Q => ∃ z, x = .str z /\ z.length <= sizeLine /\ Q (.str (Txt.slice z lo hi)) H
theorem sl_str : SlR X rSlS := by
 intro pins s σ H x v vl vu lo hi sl Q I rx hs pl pu h
 obtain ⟨z, rfl, hz, q⟩ := h
 obtain ⟨t, rfl⟩ := rx
 refine ⟨"str", _, PySem.F.slot_str_getitem.lookup, typeIs_str _ _ _, ?_⟩
 cases pl with
 | none =>
  cases pu with
  | none => exact wpAny_getItem_str_slice (l := none) (u := none) (st := none) hs rfl (post_val_or_str ⟨Nat.le_trans (Txt.slice_le z _ _) hz, fun t' k => ⟨.str (Txt.slice z none none), H, I.tok _, ⟨_, rfl⟩, q⟩⟩)
  | int j tj => exact wpAny_getItem_str_slice (l := none) (u := some (j, tj)) (st := none) hs rfl (post_val_or_str ⟨Nat.le_trans (Txt.slice_le z _ _) hz, fun t' k => ⟨.str (Txt.slice z none (some j)), H, I.tok _, ⟨_, rfl⟩, q⟩⟩)
 | int i ti =>
  cases pu with
  | none => exact wpAny_getItem_str_slice (l := some (i, ti)) (u := none) (st := none) hs rfl (post_val_or_str ⟨Nat.le_trans (Txt.slice_le z _ _) hz, fun t' k => ⟨.str (Txt.slice z (some i) none), H, I.tok _, ⟨_, rfl⟩, q⟩⟩)
  | int j tj => exact wpAny_getItem_str_slice (l := some (i, ti)) (u := some (j, tj)) (st := none) hs rfl (post_val_or_str ⟨Nat.le_trans (Txt.slice_le z _ _) hz, fun t' k => ⟨.str (Txt.slice z (some i) (some j)), H, I.tok _, ⟨_, rfl⟩, q⟩⟩)
theorem op_mul_str : OpR X (binaryOp .Mult) (fun x y H Q => ∃ z n, x = .str z /\ y = .int n /\ MulOk z n /\ Q (.str (Txt.mul z n)) H) := by
 intro pins s σ H x y v u Q I rx ry h
 obtain ⟨z, n, rfl, rfl, hz, q⟩ := h
 obtain ⟨t, rfl⟩ := rx
 obtain ⟨t', rfl⟩ := ry
 exact SB.mul hz fun t' k => ⟨.str _, H, I.tok _, ⟨_, rfl⟩, q⟩
theorem op_le_str : OpR X (compareOp .LtE) (fun x y H Q => ∃ i j, x = .str i /\ y = .str j /\ Q (.bl (!(decide (j.cps.toList < i.cps.toList)))) H) := by
 intro pins s σ H x y v u Q I rx ry h
 obtain ⟨i, j, rfl, rfl, q⟩ := h
 obtain ⟨t, rfl⟩ := rx
 obtain ⟨t', rfl⟩ := ry
 exact PySem.P.le_str ⟨.bl _, H, I, rfl, q⟩
mutual
inductive DtV (K : PySem.W.Frag) (H : Hp) : V -> PyData -> Prop
 | non : DtV K H .non .none
 | bl (b : Bool) : DtV K H (.bl b) (.bool b)
 | int (i : Int) : DtV K H (.int i) (.int i)
 | str (x : Str) : DtV K H (.str x) (.str x)
 | lst {a : Addr} {xs : List V} {ds : List PyData} : SqL K H a xs -> DtVs K H xs ds -> DtV K H (.ref a) (.list ds)
 | tup {a : Addr} {xs : List V} {ds : List PyData} : SqT K H a xs -> DtVs K H xs ds -> DtV K H (.ref a) (.tuple ds)
inductive DtVs (K : PySem.W.Frag) (H : Hp) : List V -> List PyData -> Prop
 | nil : DtVs K H [] []
 | cons {x : V} {xs : List V} {d : PyData} {ds : List PyData} : DtV K H x d -> DtVs K H xs ds -> DtVs K H (x :: xs) (d :: ds)
end
mutual
theorem DtV.reads {pins : List (Addr × Obj)} {σ : St} {H : Hp} {s : Shared} (I : Inv X pins σ H s) : ∀ {x : V} {d : PyData} {u : Value}, DtV X.K H x d -> RelV x u -> ∃ as, Reads s.heap u d as
 | _, _, _, .non, r => by cases r; exact ⟨_, .none⟩
 | _, _, _, .bl b, r => by cases r; exact ⟨_, .bool b⟩
 | _, _, _, .int i, r => by obtain ⟨t, rfl⟩ := r; exact ⟨_, .int i t⟩
 | _, _, _, .str x, r => by obtain ⟨t, rfl⟩ := r; exact ⟨_, .str x t⟩
 | _, _, _, .lst hq hs, r => by
  cases r
  obtain ⟨its, rv, ⟨o, n, e, c, _, d⟩, _⟩ := I.list hq
  obtain ⟨as, ra⟩ := DtVs.reads I hs rv
  exact ⟨_, .list e c d (by simpa using ra)⟩
 | _, _, _, .tup hq hs, r => by
  cases r
  obtain ⟨its, rv, ⟨o, e, c, n, d⟩, _⟩ := I.tuple hq
  obtain ⟨as, ra⟩ := DtVs.reads I hs rv
  exact ⟨_, .tuple e c d (by simpa using ra)⟩
theorem DtVs.reads {pins : List (Addr × Obj)} {σ : St} {H : Hp} {s : Shared} (I : Inv X pins σ H s) : ∀ {xs : List V} {ds : List PyData} {us : List Value}, DtVs X.K H xs ds -> Vals xs us -> ∃ as, ReadsAll s.heap us ds as
 | _, _, _, .nil, .nil => ⟨_, .nil⟩
 | _, _, _, .cons h hs, .cons r rs => by
  obtain ⟨as, ra⟩ := DtV.reads I h r
  obtain ⟨bs, rb⟩ := DtVs.reads I hs rs
  exact ⟨_, .cons ra rb⟩
end
def rEqD (X : Cx) : R2 := fun x y H Q => ∃ dx dy, DtV X.K H x dx /\ DtV X.K H y dy /\ dx.canLay0 = true /\ dy.canLay0 = true /\ min dx.depth dy.depth <= 100 /\ Q (.bl (PyData.eqv dx dy)) H
def rNeD (X : Cx) : R2 := fun x y H Q => ∃ dx dy, DtV X.K H x dx /\ DtV X.K H y dy /\ dx.canLay0 = true /\ dy.canLay0 = true /\ min dx.depth dy.depth <= 100 /\ Q (.bl (!PyData.eqv dx dy)) H
theorem op_eqD (hu : X.A.units + 100 < cLine) : OpR X (compareOp .Eq) (rEqD X) := by
 intro pins s σ H x y v u Q I rx ry h
 obtain ⟨dx, dy, hx, hy, lx, ly, hd, q⟩ := h
 obtain ⟨as, ra⟩ := hx.reads I rx
 obtain ⟨bs, rb⟩ := hy.reads I ry
 exact SeqAt.compareEq_reads ra rb lx ly (by (clear ly lx; omega)) ⟨.bl _, H, I, rfl, q⟩
theorem op_neD (hu : X.A.units + 100 < cLine) : OpR X (compareOp .NotEq) (rNeD X) := by
 intro pins s σ H x y v u Q I rx ry h
 obtain ⟨dx, dy, hx, hy, lx, ly, hd, q⟩ := h
 obtain ⟨as, ra⟩ := hx.reads I rx
 obtain ⟨bs, rb⟩ := hy.reads I ry
 exact SeqAt.compareNe_reads ra rb lx ly (by (clear ly lx; omega)) ⟨.bl _, H, I, rfl, q⟩
theorem boolsAre_get : ∀ {bs : List Bool} {us : List Value}, Vals (bs.map V.bl) us -> ∀ (i : Nat) (v : Value), us[i]? = some v -> ∃ b, bs[i]? = some b /\ v = .bool b
 | [], _, .nil, i, v, h => by simp at h
 | b :: bs, _, .cons r t, 0, v, h => by
  have r' : _ = Value.bool b := r
  subst r'
  simp at h
  exact ⟨b, by simp, h.symm⟩
 | b :: bs, _, .cons r t, i + 1, v, h => by
  obtain ⟨c, e1, e2⟩ := boolsAre_get t i v (by simpa using h)
  exact ⟨c, by simpa using e1, e2⟩
theorem call_all_bools (hc : X.calm = true) : CallR X (.builtin "all") (fun xs H Q => ∃ (p : Addr) (bs : List Bool), xs = [.ref p] /\ SqL X.K H p (bs.map V.bl) /\ Q (.bl (bs.all id)) H) := by
 intro pins s σ H xs us Q I r h
 obtain ⟨p, bs, rfl, hq, q⟩ := h
 obtain ⟨u, rfl, rx⟩ := vals1 r
 cases rx
 obtain ⟨its, rv, pl, hz⟩ := I.list hq
 have hl := pl.isList
 have hlen := rv.length
 rw [List.length_map] at hlen
 have hlt : p < s.heap.objs.size := by obtain ⟨_, e, _⟩ := hl; exact Heap.lt_size e
 refine call_all_walk (wpAny_pyIter_list hl ?_)
 refine ⟨s.heap.objs.size, [s.heap.objs.size, p], [s.heap.objs.size], its.toArray.size, _, _, fun i => (bs[i]?).getD true, rfl, Walks.list (A := X.A.in1) (I.ok.hd hc) _ p (Nat.ne_of_lt hlt) its.toArray,
  ⟨⟨_, Heap.get?_push_size _ rfl, rfl, rfl⟩, hl.push _⟩, fun i v s' Q' E' hP hQ => ?_, fun h' tk hk => ?_⟩
 ·obtain ⟨b, e, rfl⟩ := boolsAre_get rv i v (by simpa using hP)
  simp only [e, Option.getD_some] at hQ
  exact wpAny_truthy_bool hQ
 ·have e : ((List.range its.toArray.size).all fun i => (bs[i]?).getD true) = bs.all id := by
   rw [List.size_toArray, <- hlen]; exact LSm.range_all bs
  rw [e]
  exact ⟨.bl _, H, I.kept (LSm.kept_iter hk), rfl, q⟩
theorem call_isi : CallR X (.builtin "isinstance") (fun xs H Q => ∃ x c t b, xs = [x, c] /\ TyOf X.K H x t /\
  ((∃ n, c = .ty n /\ PySem.W.kitOne X.K t (.type n) = some b) \/ (∃ C, c = .ref C /\ PySem.W.kitOne X.K t (.ref C) = some b)) /\ Q (.bl b) H) := by
 intro pins s σ H xs us Q I r h
 obtain ⟨x, c, t, b, rfl, ty, hc, q⟩ := h
 obtain ⟨u, w', rfl, rx, rc⟩ := vals2 r
 rcases hc with ⟨n, rfl, e⟩ | ⟨C, rfl, e⟩
 ·cases rc
  exact isinst_ok I rx ty e fun tk => ⟨.bl b, H, I.tok tk, rfl, q⟩
 ·cases rc
  exact isinst_ok I rx ty e fun tk => ⟨.bl b, H, I.tok tk, rfl, q⟩
end
section
variable {X : Cx} {pins : List (Addr × Obj)} {σ : St} {H H' : Hp} {s : Shared} {h' : Heap}
theorem Inv.track {a : Addr} {o : HO} (I : Inv X pins σ H s) (hs : X.s₀.heap.get? a = none \/ a ∈ X.ex) (hn : H a = none) (hL : a ≠ X.env.locals) (hC : ∀ x c, X.env.cells.lookup x = some c -> c ≠ a) (hp : ∀ p ∈ X.pn ++ pins, p.1 ≠ a)
  (new : ObjOk X.prog X.w (upd H a o) s.heap a o) : Inv X pins σ (upd H a o) s := by
 refine ⟨I.ok, I.os, I.bare, ⟨I.base.keep, I.base.slot, fun b ob e n hx => ?_, I.base.there, fun b xs e => ?_, fun b ob u e => ?_, fun b ps e => ?_⟩, I.loc, I.cell, ?_, fun x c e => ?_, fun p hp' => ?_, fun b u e => ?_, I.len⟩
 ·have hb : b ≠ a := by
   rintro rfl
   rcases hs with z | z
   ·rw [z] at e; cases e
   ·exact hx z
  rw [upd_ne hb]
  exact I.base.free b ob e n hx
 ·have q := I.base.tups b xs e
  rw [upd_ne (ne_of_none q hn)]; exact q
 ·have q := I.base.frzs b ob u e
  rw [upd_ne (ne_of_none q hn)]; exact q
 ·obtain ⟨m, q⟩ := I.base.tbls b ps e
  exact ⟨m, by rw [upd_ne (ne_of_none q hn)]; exact q⟩
 ·rw [upd_ne (Ne.symm hL)]; exact I.free
 ·rw [upd_ne (hC x c e)]; exact I.freeC x c e
 ·obtain ⟨e, n, r⟩ := I.pin p hp'
  exact ⟨e, by rw [upd_ne (hp p hp')]; exact n, r⟩
 ·by_cases hb : b = a
  ·subst hb; rw [upd_same] at e; cases e; exact new
  ·rw [upd_ne hb] at e
   exact (I.hok b u e).stay (fun c v _ q => q) (fun c q => by rw [upd_ne (ne_of_none q hn)]; exact q) fun c xs q => by rw [upd_ne (ne_of_none q hn)]; exact q
theorem Inv.turnedL {t' : Nat} {fp : List Addr} (I : Inv X pins σ H s) (k : ∀ b o, b ∉ fp -> s.heap.get? b = some o -> h'.get? b = some o) (hf : ∀ b ∈ fp, FpOk X pins H b) : Inv X pins σ H { s with heap := h', toks := t' } := by
 have nit : ∀ b u, H b = some u -> b ∉ fp := fun b u e z => by rw [(hf b z).1] at e; cases e
 refine I.step (g' := s.gens) (d' := s.drawn) (ch := fp) (fun b hb => ?_) (fun b o _ _ hc e _ => k b o hc e) (fun b o _ _ hc e _ => ⟨o.slots, k b o hc e⟩) (fun _ _ _ _ n => n)
  (fun b o hc e => ⟨o, k b o hc e⟩) (fun _ _ e => e) (fun _ _ _ e => e) (fun b ps e => ⟨#[], by rw [e]; simp⟩) (fun m hm => ?_) (fun b u e => ?_) I.bare
 ·obtain ⟨f0, f1, f2, f3, f4, f5⟩ := hf b hb
  exact ⟨f3, f1, f4, f5⟩
 ·obtain ⟨o, es, ep, ho, r⟩ := hm
  exact ⟨o, es, ep, k _ o (fun z => (hf _ z).2.1 rfl) ho, r⟩
 ·refine (I.hok b u e).stay (fun c v hc q => k c v ?_ q) (fun _ q => q) fun _ _ q => q
  rcases hc with z | z
  ·rw [z]; exact nit b u e
  ·exact nit c _ z
end
def Its (x : Str) : It := ⟨fun i _ => i < x.cps.size, fun i H v H' => H' = H /\ ∃ c, x.cps[i]? = some c /\ v = .str ⟨#[c]⟩, fun i _ => i = x.cps.size⟩
theorem strWalks {P : Program} {w : World} {A : Around} (hh : A.handled = none) (I : Addr) (x : Str) (t : Tok) : Walks P w A I [I] [I] x.cps.size (SignAt x) (fun i h => h.IsStrIter I (strIterType x) x t i) := by
 unfold strIterType
 cases x.cps.all (· < 128)
 ·exact Walks.strWide hh I x t
 ·exact Walks.strAscii hh I x t
theorem strIter_not {x : Str} : ["enumerate", "zip", "dict_itemiterator", "dict_reverseitemiterator", "odict_iterator", "itertools.zip_longest", "itertools.pairwise"].contains (strIterType x) = false := by
 unfold strIterType
 cases x.cps.all (· < 128) <;> decide
theorem turn_str {P : Program} {w : World} {K : PySem.W.Frag} {tg : Expr} (x : Str) (t : Tok) (it : Addr) : Turn P w K tg (Its x) [it] it (fun i h => h.IsStrIter it (strIterType x) x t i) where
 mem := by simp
 obj := fun i h st b hb => by
  have e : b = it := by simpa using hb
  subst e
  obtain ⟨o, e, c, d⟩ := st
  exact ⟨o, e, fun v z => by rw [d] at z; cases z⟩
 keep := fun i h h' st k => by
  obtain ⟨o, e, r⟩ := st
  exact ⟨o, k it (by simp) o e, r⟩
 item := by
  intro X hP hw hK hc i pins s σ H E I hf st hg
  subst hP hw hK
  refine (strWalks (P := X.prog) (w := X.w) (I.ok.hd hc) it x t).item i s _ _ hg st fun v h' tk hv st' kk => ?_
  obtain ⟨c, u, hc', rfl⟩ := hv
  have I1 : Inv X pins σ H { s with heap := h', toks := tk } := I.turnedL kk hf
  obtain ⟨o, e, c2, d⟩ := id st'
  exact ⟨_, rfl, go_of (s := { s with heap := h', toks := tk }) e c2 d strIter_not ⟨.str ⟨#[c]⟩, H, I1, ⟨u, rfl⟩, ⟨rfl, c, hc', rfl⟩, st', fun b hb => (hf b hb).1⟩⟩
 done := by
  intro X hP hw hK hc i pins s σ H E I hf st hg
  subst hP hw hK
  have hg' : i = x.cps.size := hg
  subst hg'
  exact (strWalks (P := X.prog) (w := X.w) (I.ok.hd hc) it x t).done s _ _ st fun h' tk kk => ⟨rfl, I.turnedL kk hf⟩
 self := fun A i s Q E st h => by
  revert st
  unfold strIterType
  cases x.cps.all (· < 128)
  ·exact fun st => wpAny_pyIter_striter_wide st h
  ·exact fun st => wpAny_pyIter_striter_ascii st h
def iStr (tl : TE) : TI := fun σ H R => tl σ H fun v H1 => ∃ x, v = .str x /\ R (Its x) H1
section
variable {X : Cx} {tg : Expr}
theorem pi_str {l : Expr} {tl : TE} (hl : PE X l tl) : PI X tg l (iStr tl) := by
 intro pins s σ H R I h
 refine thn (hl pins s σ H _ I h) fun v s1 ⟨y, H1, I1, r1, x, e, q⟩ => ?_
 subst e
 obtain ⟨t, rfl⟩ := r1
 refine wpAny_pyIter_strU ?_
 refine ⟨s1.heap.objs.size, [s1.heap.objs.size], _, _, H1, rfl, I1.kept (t' := s1.toks) fun b o e => Heap.get?_push_of_some _ e, turn_str x t _, ⟨_, Heap.get?_push_size _ rfl, rfl, rfl⟩, fun b hb => ?_, q⟩
 have e : b = s1.heap.objs.size := by simpa using hb
 subst e
 exact I1.fpOk (Nat.le_refl _) (I1.hok.fresh (Nat.le_refl _))
end
theorem strDraws {P : Program} {w : World} {A : Around} (hh : A.handled = none) (it : Addr) (x : Str) (t : Tok) :
  Draws P w A it [it] x.cps.size (fun i v => ∃ c u, x.cps[i]? = some c /\ v = .str ⟨#[c]⟩ u) (fun i h => h.IsStrIter it (strIterType x) x t i) := by
 unfold strIterType
 cases x.cps.all (· < 128)
 ·exact Draws.strWide hh it x t
 ·exact Draws.strAscii hh it x t
def Ite (x : Str) : It := ⟨fun i _ => i < x.cps.size, fun i H v H' => ∃ T c, H T = none /\ x.cps[i]? = some c /\ v = .ref T /\ H' = upd H T (.tup [.int i, .str ⟨#[c]⟩]), fun i _ => i = x.cps.size⟩
theorem turn_enum {P : Program} {w : World} {K : PySem.W.Frag} {elts : List Expr} {k : Nat} {pos : Pos} (x : Str) (t : Tok) (e it : Addr) (hei : e ≠ it) :
  Turn P w K (.Tuple elts k pos) (Ite x) [e, it] e (fun i h => (∃ old, IsEnum h e it i old) /\ h.IsStrIter it (strIterType x) x t i) where
 mem := by simp
 obj := fun i h st b hb => by
  obtain ⟨⟨old, he⟩, o, ho, c, d⟩ := st
  rcases List.mem_cons.mp hb with rfl | hb
  ·exact ⟨_, he, fun v z => nomatch z⟩
  ·have e : b = it := by simpa using hb
   subst e
   exact ⟨o, ho, fun v z => by rw [d] at z; cases z⟩
 keep := fun i h h' st kk => by
  obtain ⟨⟨old, he⟩, o, ho, r⟩ := st
  exact ⟨⟨old, kk e (by simp) _ he⟩, o, kk it (by simp) o ho, r⟩
 item := by
  intro X hP hw hK hc i pins s σ H E I hf st hg
  subst hP hw hK
  have W := WalksT.enumerateD (strDraws (P := X.prog) (w := X.w) (A := X.A.in1) (I.ok.hd hc) it x t) e hei (by simpa using hei) (by simp)
  refine W.item i s _ _ hg st fun T vals h' tk hv hT ht mid kk => ⟨_, rfl, ?_⟩
  obtain ⟨t', y, ⟨c, u, hx, rfl⟩, rfl⟩ := hv
  refine W.go elts k pos i T _ _ _ mid fun h'' st'' kk2 => ?_
  have keep : ∀ b o, b ∉ [e, it] -> s.heap.get? b = some o -> h''.get? b = some o := fun b o hb q => kk2 b o hb (kk b o hb q)
  have I1 : Inv X pins σ H { s with heap := h'', toks := tk } := I.turnedL keep hf
  have hn : H T = none := I.hok.fresh hT
  have hTn : T ∉ [e, it] := W.apart i T h' mid
  obtain ⟨ot, hot, hct, n, hdt⟩ := ht
  have I2 : Inv X pins σ (upd H T (.tup [.int i, .str ⟨#[c]⟩])) { s with heap := h'', toks := tk } := by
   refine I1.track (.inl (Heap.get?_none_of_le (Nat.le_trans I.sz hT))) hn (Nat.ne_of_gt (Nat.lt_of_lt_of_le I.lt hT)) (fun y c' q z => ?_) (fun p hp z => ?_) ?_
   ·obtain ⟨v, q'⟩ := I.cell y c' q
    exact absurd (Nat.lt_of_lt_of_le q'.lt (by rw [z]; exact hT)) (Nat.lt_irrefl _)
   ·exact absurd (Nat.lt_of_lt_of_le (Heap.lt_size (I.pin p hp).1) (by rw [z]; exact hT)) (Nat.lt_irrefl _)
   ·exact ⟨by show 2 <= sizeLine; decide, [.int i t', .str ⟨#[c]⟩ u], .cons ⟨_, rfl⟩ (.cons ⟨_, rfl⟩ .nil), ot, kk2 T ot hTn hot, hct, n, hdt⟩
  refine ⟨.ref T, _, I2, rfl, ⟨T, c, hn, hx, rfl, rfl⟩, st'', fun b hb => ?_⟩
  have hbT : b ≠ T := fun z => hTn (z ▸ hb)
  rw [upd_ne hbT]
  exact (hf b hb).1
 done := by
  intro X hP hw hK hc i pins s σ H E I hf st hg
  subst hP hw hK
  have hg' : i = x.cps.size := hg
  subst hg'
  have W := WalksT.enumerateD (strDraws (P := X.prog) (w := X.w) (A := X.A.in1) (I.ok.hd hc) it x t) e hei (by simpa using hei) (by simp)
  exact W.done s _ _ st fun h' tk kk => ⟨rfl, I.turnedL kk hf⟩
 self := fun A i s Q E st h => by
  obtain ⟨⟨old, he⟩, _⟩ := st
  exact wpAny_pyIter_enum he h
def iEnum (ta : TA) : TI := fun σ H R => ta σ H fun vs H1 => ∃ x, vs = [.str x] /\ R (Ite x) H1
section
variable {X : Cx}
theorem pi_enum {elts : List Expr} {k : Nat} {tpos p pos : Pos} {a : Expr} {ta : TA} (hg : Gl X "enumerate") (hm : X.mg "enumerate" = none) (ha : PA X [a] ta) (hs : starEach [a] X.env = [(false, eval a X.env)] := by rfl) :
  PI X (.Tuple elts k tpos) (.Call (.Name "enumerate" p) [a] [] pos) (iEnum ta) := by
 intro pins s σ H R I h
 refine Call_ (ld_blt I hg hm boot_enumerate (PyProof.Rows.callWith_type1 (thn (ha pos pins s σ H _ I h) fun us s1 ⟨vs, H1, I1, r1, q1⟩ => ?_) hs rfl))
 obtain ⟨x, e, q⟩ := q1
 subst e
 obtain ⟨u, rfl, t, rfl⟩ := vals1 r1
 refine call_enumerate_str fun h' he hit hsz hk => ?_
 refine wpAny_pyIter_enum he ?_
 refine ⟨s1.heap.objs.size + 1, [s1.heap.objs.size + 1, s1.heap.objs.size], _, _, H1, rfl, I1.kept (t' := s1.toks) hk, turn_enum x t _ _ (Nat.succ_ne_self _), ⟨⟨_, he⟩, hit⟩, fun b hb => ?_, q⟩
 rcases List.mem_cons.mp hb with rfl | hb
 ·exact I1.fpOk (Nat.le_succ _) (I1.hok.fresh (Nat.le_succ _))
 ·have e : b = s1.heap.objs.size := by simpa using hb
  subst e
  exact I1.fpOk (Nat.le_refl _) (I1.hok.fresh (Nat.le_refl _))
end
theorem for_ite {x : Str} {g : TG} {tb : TS} {D : Ends} {σ : St} {H : Hp} (Pv : Nat -> St -> Hp -> Prop) (h0 : Pv 0 σ H)
  (hs : ∀ i c σ H T, x.cps[i]? = some c -> Pv i σ H -> H T = none -> g (.ref T) σ (upd H T (.tup [.int i, .str ⟨#[c]⟩])) fun σ2 H2 => tb { D with nx := Pv (i + 1), ct := Pv (i + 1), bk := D.nx } σ2 H2) (hd : ∀ σ H, Pv x.cps.size σ H -> D.nx σ H) :
  ∃ W : Nat -> Nat -> St -> Hp -> Prop, (∃ m, W 0 m σ H) /\ ∀ i m σ H, W i m σ H ->
   ((Ite x).stop i H /\ D.nx σ H) \/ ((Ite x).go i H /\ ∃ N : St -> Hp -> Prop, (∀ σ' H', N σ' H' -> ∃ m', m' < m /\ W (i + 1) m' σ' H') /\ ∀ y H', (Ite x).yld i H y H' -> g y σ H' fun σ2 H2 => tb { D with nx := N, ct := N, bk := D.nx } σ2 H2) := by
 refine ⟨fun i m σ H => m = x.cps.size - i /\ i <= x.cps.size /\ Pv i σ H, ⟨x.cps.size, by simp, Nat.zero_le _, h0⟩, ?_⟩
 rintro i m σ H ⟨rfl, hi, p⟩
 by_cases hlt : i < x.cps.size
 ·refine .inr ⟨hlt, Pv (i + 1), fun σ' H' p' => ⟨x.cps.size - (i + 1), by (clear hi; omega), rfl, hlt, p'⟩, fun y H' q => ?_⟩
  obtain ⟨T, c, hT, hc, e, e2⟩ := q
  subst e e2
  exact hs i c σ _ T hc p hT
 ·have e : i = x.cps.size := by omega
  subst e
  exact .inl ⟨rfl, hd σ H p⟩
open PySem
def closL (env : Env) : List (Str × NameKind) -> List (Str × Addr) -> List (Str × Addr)
 | [], cs => cs
 | (n, k) :: r, cs => closL env r (if (k == NameKind.free) = true then (n, (env.cells.lookup n).getD 0) :: cs else cs)
theorem closureFor_eq {scope : Scope} {env : Env} (h : ∀ x ∈ scope.names, x.2 = .free -> ∃ c, env.cells.lookup x.1 = some c) : closureFor scope env = pure (closL env scope.names []) := by
 unfold closureFor
 have go : ∀ (names : List (Str × NameKind)) (cs : List (Str × Addr)), (∀ x ∈ names, x.2 = .free -> ∃ c, env.cells.lookup x.1 = some c) ->
   (forIn names cs fun (x : Str × NameKind) (r : List (Str × Addr)) => (match x with
    | (name, kind) => if (kind == NameKind.free) = true then do let a <- cellOf env name; pure (ForInStep.yield ((name, a) :: r)) else pure (ForInStep.yield r) : Sem (ForInStep (List (Str × Addr))))) = pure (closL env names cs) := by
  intro names
  induction names with
  | nil => intro cs _; rfl
  | cons x r ih =>
   intro cs h
   obtain ⟨n, k⟩ := x
   rw [List.forIn_cons]
   have hr := fun y hy => h y (List.mem_cons_of_mem _ hy)
   cases hk : (k == NameKind.free) with
   | false =>
    simp only [hk, Bool.false_eq_true, if_false]
    show (pure (ForInStep.yield cs) >>= _ : Sem _) = _
    simp only [pure_bind]
    rw [ih cs hr]
    simp only [closL, hk, Bool.false_eq_true, if_false]
   | true =>
    obtain ⟨c, hc⟩ := h (n, k) List.mem_cons_self (by simpa using hk)
    have e : cellOf env n = pure c := by unfold cellOf; rw [show env.cells.lookup n = some c from hc]
    simp only [hk, if_true, e, pure_bind]
    rw [ih _ hr]
    simp only [closL, hk, if_true]
    rw [show env.cells.lookup n = some c from hc]
    rfl
 exact congrArg (fun m : Sem (List (Str × Addr)) => m >>= fun r => pure r) (go scope.names [] h)
theorem closL_some {env : Env} {x : Str} {c : Addr} : ∀ {names : List (Str × NameKind)} {cs : List (Str × Addr)}, (closL env names cs).lookup x = some c -> cs.lookup x = some c \/ ((x, NameKind.free) ∈ names /\ c = (env.cells.lookup x).getD 0)
 | [], _, h => .inl h
 | (n, k) :: r, cs, h => by
  rcases closL_some (names := r) h with q | ⟨q, e⟩
  ·cases hk : (k == NameKind.free) with
   | false => rw [hk] at q; exact .inl q
   | true =>
    rw [hk, if_pos rfl] at q
    have hk' : k = NameKind.free := by simpa using hk
    subst hk'
    cases hx : x == n with
    | true =>
     rw [List.lookup_cons, hx] at q
     have e : x = n := by simpa using hx
     subst e
     exact .inr ⟨List.mem_cons_self, (Option.some.inj q).symm⟩
    | false =>
     rw [List.lookup_cons, hx] at q
     exact .inl q
  ·exact .inr ⟨List.mem_cons_of_mem _ q, e⟩
theorem closL_has {env : Env} {x : Str} : ∀ {names : List (Str × NameKind)} {cs : List (Str × Addr)}, (x, NameKind.free) ∈ names \/ (∃ c, cs.lookup x = some c) -> ∃ c, (closL env names cs).lookup x = some c
 | [], _, h => by
  rcases h with h | h
  ·cases h
  ·exact h
 | (n, k) :: r, cs, h => by
  refine closL_has (names := r) ?_
  rcases h with h | ⟨c, h⟩
  ·rcases List.mem_cons.mp h with e | e
   ·cases e
    refine .inr ⟨(env.cells.lookup x).getD 0, ?_⟩
    rw [if_pos (by rfl), List.lookup_cons]
    simp
   ·exact .inl e
  ·refine .inr ?_
   cases hk : (k == NameKind.free) with
   | false => exact ⟨c, h⟩
   | true =>
    rw [if_pos rfl, List.lookup_cons]
    cases hx : x == n with
    | true => exact ⟨_, rfl⟩
    | false => exact ⟨c, h⟩
theorem relabel_free {env : Env} (hf : env.scope.kind = .function) : ∀ {names : List (Str × NameKind)} {x : Str}, names.lookup x = some .free -> env.kindOf x = some .cell ->
  (names.map fun (n, k) => if (k == NameKind.free && env.scope.kind == .function && env.kindOf n == some .cell) then (n, NameKind.cell) else (n, k)).lookup x = some .cell
 | [], _, h, _ => by simp at h
 | (n, k) :: r, x, h, hc => by
  have ih := @relabel_free env hf r x
  show List.lookup x ((if (k == NameKind.free && env.scope.kind == .function && env.kindOf n == some .cell) = true then (n, NameKind.cell) else (n, k)) :: _) = _
  cases hx : x == n with
  | true =>
   have e : x = n := by simpa using hx
   subst e
   simp only [List.lookup_cons, hx] at h
   cases h
   rw [if_pos (by rw [hf, hc]; rfl)]
   simp [List.lookup_cons]
  | false =>
   simp only [List.lookup_cons, hx] at h
   by_cases hc' : (k == NameKind.free && env.scope.kind == .function && env.kindOf n == some .cell) = true
   ·rw [if_pos hc']; simp only [List.lookup_cons, hx]; exact ih h hc
   ·rw [if_neg hc']; simp only [List.lookup_cons, hx]; exact ih h hc
theorem relabel_back {env : Env} : ∀ {names : List (Str × NameKind)} {x : Str} {k' : NameKind}, (∀ y ∈ names, y.2 ≠ .cell) -> (k' = .cell \/ k' = .free) ->
  (names.map fun (n, k) => if (k == NameKind.free && env.scope.kind == .function && env.kindOf n == some .cell) then (n, NameKind.cell) else (n, k)).lookup x = some k' -> (x, NameKind.free) ∈ names
 | [], _, _, _, _, h => by simp at h
 | (n, k) :: r, x, k', hn, hk, h => by
  have ih := @relabel_back env r x k' (fun y hy => hn y (List.mem_cons_of_mem _ hy)) hk
  have h' : List.lookup x ((if (k == NameKind.free && env.scope.kind == .function && env.kindOf n == some .cell) = true then (n, NameKind.cell) else (n, k)) :: r.map fun (n, k) => if (k == NameKind.free && env.scope.kind == .function && env.kindOf n == some .cell) then (n, NameKind.cell) else (n, k)) = some k' := h
  have hn0 : k ≠ .cell := hn (n, k) List.mem_cons_self
  by_cases hc' : (k == NameKind.free && env.scope.kind == .function && env.kindOf n == some .cell) = true
  ·rw [if_pos hc', List.lookup_cons] at h'
   have hkf : k = .free := by
    rw [Bool.and_eq_true, Bool.and_eq_true] at hc'
    simpa using hc'.1.1
   cases hx : x == n with
   | true =>
    have e : x = n := by simpa using hx
    subst e
    rw [hkf]
    exact List.mem_cons_self
   | false => rw [hx] at h'; exact List.mem_cons_of_mem _ (ih h')
  ·rw [if_neg hc', List.lookup_cons] at h'
   cases hx : x == n with
   | true =>
    rw [hx] at h'
    have e : x = n := by simpa using hx
    subst e
    have e2 : k = k' := Option.some.inj h'
    subst e2
    rcases hk with z | z
    ·exact absurd z hn0
    ·rw [z]; exact List.mem_cons_self
   | false => rw [hx] at h'; exact List.mem_cons_of_mem _ (ih h')
section
variable {prog : Program} {w : World} {A : Around} {R : Result -> Shared -> Prop} {s : Shared}
theorem compLoop_any {elt target iter : Expr} {ifs : List Expr} {scope : Scope} {pos : Pos} {it acc : Value} {env : Env} (I : Nat -> Shared -> Prop)
  (turn : ∀ n s, I n s -> wpAny (model prog w) A (pyNext it) (fun r s₁ => match r with
   | none => R (.ok .next) s₁
   | some v => wpAny (model prog w) A (letOwnedTupleGo target it v) (fun _ s₀ => wpAny (model prog w) A (assign target env v) (fun _ s₂ =>
     wpAny (model prog w) A (forIn ifs true fun c r => if r = true then do let ok <- isTrue c env (eval c env); pure (ForInStep.yield ok) else pure (ForInStep.yield r)) (fun ok s₃ =>
      if ok = true then wpAny (model prog w) A (eval elt env) (fun x s₄ =>
       wpAny (model prog w) A (call (.builtin "list.append") [acc, x]) (fun _ s₅ => ∃ m, m < n /\ I m s₅) (fun _ _ => False) s₄) (fun _ _ => False) s₃
      else ∃ m, m < n /\ I m s₃) (fun _ _ => False) s₂) (fun _ _ => False) s₀) (fun _ _ => False) s₁) (fun _ _ => False) s)
  (n : Nat) (h : I n s) :
  codeAny (model prog w) A (.compLoop (.ListComp elt [⟨target, iter, ifs, 0⟩] scope pos) 0 it acc env) R s := by
 refine codeAny_loop rfl I (fun n s hI => ?_) n h
 show wpAny _ A ((compTurn (.ListComp elt [⟨target, iter, ifs, 0⟩] scope pos) 0 it acc env).onRaise (fun x => do noteFrame x env; theTreesLotGoes x)) _ _ s
 refine wpAny_noted ?_
 rw [compTurn_list]
 refine wpAny_bind (wpAny_standAt (wpAny_bind (wpAny_mono (turn n s hI) (fun r s₁ h₁ => ?_) fun _ _ h' => h'.elim)))
 cases r with
 | none => exact wpAny_pure h₁
 | some v =>
  refine wpAny_bind (wpAny_mono h₁ (fun _ s₀ h₀ => ?_) fun _ _ h' => h'.elim)
  refine wpAny_bind (wpAny_mono h₀ (fun _ s₂ h₂ => wpAny_bind (wpAny_mono h₂ (fun ok s₃ h₃ => ?_) fun _ _ h' => h'.elim)) fun _ _ h' => h'.elim)
  cases ok with
  | false => exact wpAny_pure ⟨rfl, h₃⟩
  | true =>
   exact wpAny_bind (wpAny_bind (wpAny_mono h₃ (fun x s₄ h₄ => wpAny_bind (wpAny_mono h₄ (fun _ s₅ h₅ => wpAny_pure (wpAny_pure ⟨rfl, h₅⟩)) fun _ _ h' => h'.elim)) fun _ _ h' => h'.elim))
end
def cxB (X : Cx) (scope : Scope) (N : List Str) (s₀ : Shared) (H₀ : Hp) (ex : List Addr) : Cx :=
 { X with N := N, s₀ := s₀, H₀ := H₀, env := compEnvC scope (closL X.env scope.names []) s₀.heap.objs.size X.env, outer := X.stack, ex := ex, fn := fun _ => false, pn := [], xe := fun _ _ => False }
section
variable {X : Cx} {c : Expr} {t : TT}
def PIfs (X : Cx) (ifs : List Expr) (t : TT) : Prop := ∀ (pins : List (Addr × Obj)) (s : Shared) (σ : St) (H : Hp) (Q : Bool -> Hp -> Prop), Inv X pins σ H s -> t σ H Q ->
 wpAny (model X.prog X.w) X.A (forIn ifs true fun c r => if r = true then do let ok <- isTrue c X.env (eval c X.env); pure (ForInStep.yield ok) else pure (ForInStep.yield r)) (TP X pins σ Q) X.xe s
def tNoIf : TT := fun _ H Q => Q true H
theorem pf_none : PIfs X [] tNoIf := fun _ _ _ H _ I h => wpAny_tests_nil ⟨H, I, h⟩
theorem pf_one (h : PT X c t) : PIfs X [c] t := fun pins s σ H Q I hq => wpAny_tests_one (h pins s σ H Q I hq)
end
def GKeep (own : Nat) (g : TG) : Prop := ∀ x σ H Q Q', g x σ H Q -> (∀ σ' H', Q σ' H' -> σ'.length = σ.length -> (∀ j v, own <= j -> σ[j]? = some (some v) -> σ'[j]? = some (some v)) -> Q' σ' H') -> g x σ H Q'
def GKeeps (own : Nat) (g : TGs) : Prop := ∀ xs σ H Q Q', g xs σ H Q -> (∀ σ' H', Q σ' H' -> σ'.length = σ.length -> (∀ j v, own <= j -> σ[j]? = some (some v) -> σ'[j]? = some (some v)) -> Q' σ' H') -> g xs σ H Q'
theorem gk_name {own i : Nat} (hi : i < own) : GKeep own (gName i) := fun x σ H Q Q' h k => k _ H h (by simp) fun j v hj e => by rw [List.getElem?_set_ne (by (clear e; omega))]; exact e
theorem gks_nil {own : Nat} : GKeeps own gNil := fun xs σ H Q Q' ⟨e, h⟩ k => ⟨e, k σ H h rfl fun _ _ _ e => e⟩
theorem gks_cons {own : Nat} {t : TG} {u : TGs} (h1 : GKeep own t) (h2 : GKeeps own u) : GKeeps own (gCons t u) := fun xs σ H Q Q' ⟨v, r, e, h⟩ k =>
 ⟨v, r, e, h1 v σ H _ _ h fun σ' H' q l1 k1 => h2 r σ' H' _ _ q fun σ'' H'' q2 l2 k2 => k σ'' H'' q2 (l2.trans l1) fun j w hj e => k2 j w hj (k1 j w hj e)⟩
theorem gk_tup {own n : Nat} {K : PySem.W.Frag} {t : TGs} (h : GKeeps own t) : GKeep own (gTup K n t) := fun x σ H Q Q' ⟨a, xs, e, hq, hl, q⟩ k => ⟨a, xs, e, hq, hl, h xs σ H Q Q' q k⟩
def st0 (own : Nat) (caps : List Nat) (σ : St) : St := List.replicate own none ++ caps.map fun j => (σ[j]?).join
def CompR (J : It) (g : TG) (tc : TT) (te : TE) (σ0 : St) (Q : VK) (H : Hp) : Prop :=
  ∃ W : Nat -> Nat -> List V -> Hp -> Prop, (∃ m, W 0 m [] H) /\ ∀ i m ys H, W i m ys H ->
   (J.stop i H /\ ys.length <= sizeLine /\ ∀ p, H p = none -> Q (.ref p) (upd H p (.lst ys))) \/
   (J.go i H /\ ys.length < sizeLine /\ ∀ x H', J.yld i H x H' -> g x σ0 H' fun σ2 H2 => tc σ2 H2 fun b H3 =>
    if b = true then te σ2 H3 fun y H4 => ∃ m', m' < m /\ W (i + 1) m' (ys ++ [y]) H4 else ∃ m', m' < m /\ W (i + 1) m' ys H3)
def tComp (own : Nat) (caps : List Nat) (wi : TI) (g : TG) (tc : TT) (te : TE) : TE := fun σ H Q => wi σ H fun J H1 => CompR J g tc te (st0 own caps σ) Q H1
theorem mem1 {a : Addr} {o : Obj} : ∀ p ∈ [(a, o)], p.1 = a := fun p hp => by rw [List.mem_singleton.mp hp]
section
variable {X : Cx}
theorem comp_end {scope : Scope} {N : List Str} {pins : List (Addr × Obj)} {σ σ' : St} {H2 He : Hp} {s2 s1 : Shared} {hp h' : Heap} {fp : List Addr} {ys : List V} {its : List Value} {na : Nat} {lo : Obj}
  (I2 : Inv X pins σ H2 s2) (f2 : ∀ b ∈ fp, FpOk X pins H2 b) (ehp : hp = s2.heap.push lo)
  (J : Inv (cxB X scope N { s2 with heap := hp } H2 (s2.heap.objs.size :: fp)) [(s2.heap.objs.size, { cls := .type "list", data := .seq its.toArray na })] σ' He s1)
  (hsb : Heap.SameBut hp.objs.size s1.heap h') (hv : Vals ys its) (hz : ys.length <= sizeLine) :
  Inv X pins σ (upd He s2.heap.objs.size (.lst ys)) { s1 with heap := h' } := by
 have hC : hp.objs.size = s2.heap.objs.size + 1 := by rw [ehp, Heap.size_push]
 have below : ∀ {b : Addr} {o : Obj}, s2.heap.get? b = some o -> b ≠ hp.objs.size /\ b ≠ s2.heap.objs.size := fun {b o} e => by
  have q := Heap.lt_size e
  exact ⟨by rw [hC]; exact Nat.ne_of_lt (Nat.lt_succ_of_lt q), Nat.ne_of_lt q⟩
 have up : ∀ {b : Addr} {o : Obj}, s2.heap.get? b = some o -> hp.get? b = some o := fun e => by rw [ehp]; exact Heap.get?_push_of_some _ e
 have un : Un (frs X.stack) (s2.heap.objs.size :: fp) H2 He hp s1.heap := J.base
 have nD : ∀ {b : Addr} {o : Obj}, s2.heap.get? b = some o -> b ∉ fp -> b ∉ s2.heap.objs.size :: fp := fun e hx z => (List.mem_cons.mp z).elim (below e).2 hx
 have hfree : He hp.objs.size = none := J.free
 have u2 : Un (frs X.stack) fp H2 He s2.heap h' := by
  refine ⟨fun b o e n hb hx => ?_, fun b o e n hb hx => ?_, fun b o e n hx => ?_, fun b o e hx => ?_, un.tups, un.frzs, un.tbls⟩
  ·exact (hsb.2 b (below e).1).trans (un.keep b o (up e) n hb (nD e hx))
  ·obtain ⟨sl, q⟩ := un.slot b o (up e) n hb (nD e hx)
   exact ⟨sl, (hsb.2 b (below e).1).trans q⟩
  ·exact un.free b o (up e) n (nD e hx)
  ·obtain ⟨o', q⟩ := un.there b o (up e) (nD e hx)
   exact ⟨o', (hsb.2 b (below e).1).trans q⟩
 have hok : HOk X.prog X.w He h' := fun b u e => by
  refine (J.hok b u e).stay (fun c v hc q => (hsb.2 c ?_).trans q) (fun _ q => q) fun _ _ q => q
  rintro rfl
  rcases hc with z | z
  ·rw [<- z, hfree] at e; cases e
  ·rw [hfree] at z; cases z
 have I3 : Inv X pins σ He { s1 with heap := h' } := I2.call' (s' := { s1 with heap := h' }) (ch := fp) J.os u2 hok J.bare fun b hb => by
  obtain ⟨f0, f1, f3, f4, f5, f6⟩ := f2 b hb
  exact ⟨f4, f1, f5, f6⟩
 obtain ⟨pe, pn, _⟩ := J.pin _ (List.mem_append_right _ List.mem_cons_self)
 refine I3.track (.inl (Heap.get?_none_of_le I2.sz)) pn (Nat.ne_of_gt I2.lt) (fun y c' q z => ?_) (fun p hp' z => ?_) ?_
 ·obtain ⟨v, q'⟩ := I2.cell y c' q
  exact absurd q'.lt (by rw [z]; exact Nat.lt_irrefl _)
 ·exact absurd (Heap.lt_size (I2.pin p hp').1) (by rw [z]; exact Nat.lt_irrefl _)
 ·exact ⟨hz, its, na, hv, (hsb.2 _ (by rw [hC]; exact Nat.ne_of_lt (Nat.lt_succ_self _))).trans pe⟩
theorem comp_core {elt target iter : Expr} {ifs : List Expr} {scope sc0 : Scope} {pos : Pos} {N N0 : List Str} {own : Nat} {caps : List Nat} {wi : TI} {g : TG} {tc : TT} {te : TE}
  (hcalm : X.calm = true) (hi : PI X target iter wi)
  (hg : ∀ s₀ H₀ ex, PG (cxB X scope N s₀ H₀ ex) target g) (hc : ∀ s₀ H₀ ex, PIfs (cxB X scope N s₀ H₀ ex) ifs tc) (he : ∀ s₀ H₀ ex, PE (cxB X scope N s₀ H₀ ex) elt te) (hk : GKeep own g)
  (hX : X.N = N0) (hsc : X.env.scope = sc0)
  (hcell : ∀ y ∈ scope.names, y.2 ≠ .cell) (hkind : scope.kind = .function) (hnames : ∀ y ∈ scope.names, y.2 = .local -> scope.names.lookup y.1 = some .local)
  (hfree : ∀ y ∈ scope.names, y.2 = .free -> sc0.names.lookup y.1 = some .cell) (hN : N.length = own + caps.length)
  (hcap : ∀ p ∈ caps.zip (N.drop own), N0[p.1]? = some p.2 /\ scope.names.lookup p.2 = some .free)
  (hs : ∀ x, foldedSetIterable iter X.env x = pure x)
  {use : Option (Value -> Sem Unit)} {Qf : Value -> Shared -> Prop} {pins : List (Addr × Obj)} {s : Shared} {σ : St} {H : Hp} {Q : VK} {cpos : Pos} (I : Inv X pins σ H s) (h : tComp own caps wi g tc te σ H Q)
  (hR : ∀ (D C : Addr) (s' : Shared) (He : Hp) (ys : List V) (m : Str -> Option Value) (f : Flow), s'.heap.Ns C m -> (∀ h', Heap.SameBut C s'.heap h' -> Inv X pins σ (upd He D (.lst ys)) { s' with heap := h' }) ->
   FpOk X pins (upd He D (.lst ys)) C -> Q (.ref D) (upd He D (.lst ys)) -> compPost (model X.prog X.w) X.A X.xe use Qf (.ref D) C (.ok f) s') :
  wpAny (model X.prog X.w) X.A (comprehension (.ListComp elt [⟨target, iter, ifs, 0⟩] scope pos) scope X.env cpos (newList []) false (eval iter X.env) use) Qf X.xe s := by
 have hcellOf : ∀ y ∈ scope.names, y.2 = .free -> X.env.kindOf y.1 = some .cell := fun y hy e => by
  show X.env.scope.names.lookup y.1 = some .cell
  rw [hsc]; exact hfree y hy e
 refine wpAny_comprehension_free (use := use) rfl hs (closureFor_eq fun y hy e => I.ok.has y.1 (.inl (hcellOf y hy e))) hkind hnames ?_
 refine thn (hi pins s σ H _ I h) fun v s1 h1 => thn h1 fun itv s2 h2 => ?_
 obtain ⟨it, fp, tn, J, H2, e, I2, T, st2, f2, W, ⟨m0, w0⟩, turn⟩ := h2
 subst e
 refine wpAny_newObj_type (wpAny_newFunctionEnv hcell (by intro y hy; simp at hy) (fun h₁ hns₁ hsb₁ => ?_) hkind)
 dsimp only at hns₁ hsb₁ ⊢
 generalize ehp : s2.heap.push { cls := .type "list", dict := none, data := .seq ([] : List Value).toArray } = hp at hns₁ hsb₁ ⊢
 have hC : hp.objs.size = s2.heap.objs.size + 1 := by rw [<- ehp, Heap.size_push]
 have hDC : s2.heap.objs.size ≠ hp.objs.size := by rw [hC]; exact Nat.ne_of_lt (Nat.lt_succ_self _)
 have hD0 : hp.get? s2.heap.objs.size = some { cls := .type "list", data := .seq ([] : List Value).toArray } := by rw [<- ehp]; exact Heap.get?_push_size _ rfl
 have up : ∀ {b : Addr} {o : Obj}, s2.heap.get? b = some o -> hp.get? b = some o := fun e => by rw [<- ehp]; exact Heap.get?_push_of_some _ e
 have up1 : ∀ {b : Addr} {o : Obj}, hp.get? b = some o -> h₁.get? b = some o := fun {b o} e => hsb₁.extBut b o (Nat.ne_of_lt (Heap.lt_size e)) (Heap.get?_push_of_some _ e)
 have hlt2 : ∀ {b : Addr} {o : Obj}, s2.heap.get? b = some o -> b < s2.heap.objs.size := fun e => Heap.lt_size e
 have fpo : ∀ b ∈ fp, ∃ o, s2.heap.get? b = some o := fun b hb => by obtain ⟨o, e, _⟩ := T.obj 0 _ st2 b hb; exact ⟨o, e⟩
 have fpC : ∀ b ∈ fp, b ≠ hp.objs.size /\ b ≠ s2.heap.objs.size := fun b hb => by
  obtain ⟨o, e⟩ := fpo b hb
  have q := hlt2 e
  exact ⟨by rw [hC]; exact Nat.ne_of_lt (Nat.lt_succ_of_lt q), Nat.ne_of_lt q⟩
 have clos : ∀ {x : Str} {c : Addr}, (closL X.env scope.names []).lookup x = some c -> X.env.cells.lookup x = some c /\ X.env.kindOf x = some .cell := fun {x c} q => by
  rcases closL_some q with z | ⟨z, e⟩
  ·cases z
  ·have k := hcellOf _ z rfl
   obtain ⟨c', hc'⟩ := I2.ok.has x (.inl k)
   rw [hc'] at e
   have e' : c = c' := e
   subst e'
   exact ⟨hc', k⟩
 have cellLt : ∀ {x : Str} {c : Addr}, (closL X.env scope.names []).lookup x = some c -> c < s2.heap.objs.size := fun q => by
  obtain ⟨v, z⟩ := I2.cell _ _ (clos q).1
  exact z.lt
 have stkLt : ∀ b ∈ frs X.stack, b < s2.heap.objs.size := fun b hb => by
  obtain ⟨_, o, ho, _⟩ := I2.stack.mem hb
  exact Heap.lt_size ho
 have ok' : (cxB X scope N { s2 with heap := hp } H2 (s2.heap.objs.size :: fp)).Ok := by
  refine ⟨I2.ok.mod, hkind, I2.ok.glob, I2.ok.blt, Nat.le_refl _, fun x y c q1 q2 => I2.ok.inj x y c (clos q1).1 (clos q2).1, fun x hx => ?_, (fun x c z => by cases z), I2.ok.hd, I2.ok.frames, .inl rfl, fun b hb => ?_, fun b o q => ⟨up (I2.bs b o q).1, (I2.bs b o q).2⟩, ?_, fun b o q hb => ?_, fun b hb => ?_, ?_, fun b hb => I2.stkFree b hb⟩
  ·rcases hx with hx | hx
   ·exact closL_has (.inl (relabel_back (env := X.env) hcell (.inl rfl) hx))
   ·exact closL_has (.inl (relabel_back (env := X.env) hcell (.inr rfl) hx))
  ·rcases List.mem_cons.mp hb with rfl | hb
   ·exact ⟨by show s2.heap.objs.size ≠ hp.objs.size; exact hDC, fun x c q => Nat.ne_of_lt (cellLt q)⟩
   ·exact ⟨(fpC b hb).1, fun x c q => (f2 b hb).2.2.2.2.1 x c (clos q).1⟩
  ·show X.base.objs.size <= hp.objs.size
   rw [hC]
   exact Nat.le_succ_of_le (Nat.le_trans I2.ok.bsz I2.sz)
  ·rcases List.mem_cons.mp hb with rfl | hb
   ·exact Nat.lt_irrefl _ (hlt2 (I2.bs _ o q).1)
   ·rcases (f2 b hb).2.2.2.1 with z | z
    ·exact I2.ok.noex b o q z
    ·exact Nat.lt_irrefl _ (Nat.lt_of_lt_of_le (Heap.lt_size (I2.ok.bs b o q).1) z)
  ·intro z
   rcases List.mem_cons.mp hb with rfl | hb
   ·exact Nat.lt_irrefl _ (stkLt _ z)
   ·rcases List.mem_cons.mp (I2.stkSub b z) with q | q
    ·exact (f2 b hb).2.1 q
    ·exact (f2 b hb).2.2.1 q
  ·show hp.FunFrames X.base X.stack
   exact I2.stack.of_keeps fun b o q _ => ⟨o, up q, rfl⟩
 have len0 : (st0 own caps σ).length = N.length := by unfold st0; rw [List.length_append, List.length_replicate, List.length_map, hN]
 have I0 : Inv (cxB X scope N { s2 with heap := hp } H2 (s2.heap.objs.size :: fp)) [] (st0 own caps σ) H2 { s2 with heap := h₁, toks := s2.toks + ([] : List (Str × Value)).length } := by
  refine ⟨ok', rfl, I2.bare, Un.kept fun b o q => up1 q, ⟨_, hns₁, fun i x v e1 e2 e3 => ?_⟩, fun x c q => ?_, I2.hok.fresh (by show s2.heap.objs.size <= hp.objs.size; rw [hC]; exact Nat.le_succ _), fun x c q => I2.freeC x c (clos q).1, fun p hp' => absurd (show p ∈ ([] : List (Addr × Obj)) from hp') (by simp), I2.hok.kept fun b o q => up1 (up q), len0⟩
  ·
   unfold st0 at e2
   by_cases hi' : i < own
   ·rw [List.getElem?_append_left (by simpa using hi'), List.getElem?_replicate] at e2
    split at e2 <;> cases e2
   ·rw [List.getElem?_append_right (by simpa using hi'), List.length_replicate, List.getElem?_map] at e2
    cases ec : caps[i - own]? with
    | none => rw [ec] at e2; cases e2
    | some j =>
     rw [ec] at e2
     have e2' : (σ[j]?).join = some v := Option.some.inj e2
     have hσ : σ[j]? = some (some v) := by
      cases q : σ[j]? with
      | none => rw [q] at e2'; cases e2'
      | some z => rw [q] at e2'; exact congrArg some e2'
     have hx : (N.drop own)[i - own]? = some x := by
      rw [List.getElem?_drop]
      have : own + (i - own) = i := by (clear hσ e2' ec e2 e1 len0 hD0 hDC hC ehp hN hkind hsc hX hcalm; omega)
      rw [this]; exact e1
     have hz : (caps.zip (N.drop own))[i - own]? = some (j, x) := by
      rw [List.getElem?_zip_eq_some]; exact ⟨ec, hx⟩
     obtain ⟨hj, hf⟩ := hcap _ (List.mem_of_getElem? hz)
     rw [<- hX] at hj
     have hfm : (x, NameKind.free) ∈ scope.names := PySem.mem_of_lookup hf
     have hk1 := hcellOf _ hfm rfl
     obtain ⟨m, hn, hl⟩ := I2.loc
     obtain ⟨u, ru, lk⟩ := hl j x v hj hσ (.inr (.inl hk1))
     refine ⟨u, ru, .inr ⟨.inl (relabel_free I2.ok.kind hf hk1), ?_⟩⟩
     obtain ⟨c, hc'⟩ := closL_has (env := X.env) (cs := []) (.inl hfm)
     have hc2 := (clos hc').1
     rcases lk with ⟨z, _⟩ | ⟨_, c2, hc3, hcell'⟩
     ·rw [hk1] at z; cases z
     ·rw [hc2] at hc3
      cases hc3
      obtain ⟨oc, hoc, hod⟩ := hcell'
      exact ⟨c, hc', oc, up1 (up hoc), hod⟩
  ·obtain ⟨v, oc, hoc, hod⟩ := I2.cell x c (clos q).1
   exact ⟨v, oc, up1 (up hoc), hod⟩
 have pinD : ∀ {σ' : St} {H' : Hp} {s' : Shared} {its : List Value} {na : Nat}, Inv (cxB X scope N { s2 with heap := hp } H2 (s2.heap.objs.size :: fp)) [] σ' H' s' -> H' s2.heap.objs.size = none ->
   s'.heap.get? s2.heap.objs.size = some { cls := .type "list", data := .seq its.toArray na } ->
   Inv (cxB X scope N { s2 with heap := hp } H2 (s2.heap.objs.size :: fp)) [(s2.heap.objs.size, { cls := .type "list", data := .seq its.toArray na })] σ' H' s' := fun {σ' H' s' its na} I' hn hd => I'.pins_of fun p hp' => by
  have e : p = (s2.heap.objs.size, { cls := .type "list", data := .seq its.toArray na }) := by simpa using hp'
  subst e
  exact ⟨hd, hn, hDC, fun z => Nat.lt_irrefl _ (stkLt _ z), fun v z => nomatch z⟩
 have fpD : ∀ {H' : Hp} {pl : List (Addr × Obj)}, (∀ b ∈ fp, H' b = none) -> (∀ p ∈ pl, p.1 = s2.heap.objs.size) -> ∀ b ∈ fp, FpOk (cxB X scope N { s2 with heap := hp } H2 (s2.heap.objs.size :: fp)) pl H' b := fun hn hpl b hb => by
  refine ⟨hn b hb, (fpC b hb).1, fun z => ?_, .inl (List.mem_cons_of_mem _ hb), fun x c q => (f2 b hb).2.2.2.2.1 x c (clos q).1, fun p hp' z => ?_⟩
  ·rcases List.mem_cons.mp (I2.stkSub b z) with q | q
   ·exact (f2 b hb).2.1 q
   ·exact (f2 b hb).2.2.1 q
  ·exact (fpC b hb).2 (z.symm.trans (hpl p hp'))
 have loop : ∀ s₃ : Shared, s₃ = { s2 with heap := h₁, toks := s2.toks + ([] : List (Str × Value)).length } ->
   codeAny (model X.prog X.w) X.A (.compLoop (.ListComp elt [⟨target, iter, ifs, 0⟩] scope pos) 0 (.ref it) (.ref s2.heap.objs.size) (compEnvC scope (closL X.env scope.names []) hp.objs.size X.env))
    (compPost (model X.prog X.w) X.A X.xe use Qf (.ref s2.heap.objs.size) hp.objs.size) s₃ := by
  rintro s₃ rfl
  refine compLoop_any (fun n s' => ∃ i ys its na H', Inv (cxB X scope N { s2 with heap := hp } H2 (s2.heap.objs.size :: fp)) [] (st0 own caps σ) H' s' /\ tn i s'.heap /\ (∀ b ∈ fp, H' b = none) /\ H' s2.heap.objs.size = none /\
   Vals ys its /\ s'.heap.get? s2.heap.objs.size = some { cls := .type "list", data := .seq its.toArray na } /\ W i n ys H') ?_ m0
   ⟨0, [], [], 0, H2, I0, T.keep _ _ _ st2 fun b _ o q => up1 (up q), fun b hb => (f2 b hb).1, I2.hok.fresh (Nat.le_refl _), .nil, up1 hD0, w0⟩
  rintro n s3 ⟨i, ys, its, na, H3, I3, st3, fr3, nD3, rv3, hd3, w3⟩
  have Ip := pinD I3 nD3 hd3
  have f3 := fpD (H' := H3) (pl := [(s2.heap.objs.size, { cls := .type "list", data := .seq its.toArray na })]) fr3 mem1
  rcases turn i n ys H3 w3 with ⟨stop, hz, fin⟩ | ⟨go, hz, step⟩
  ·refine thn (T.done (cxB X scope N { s2 with heap := hp } H2 (s2.heap.objs.size :: fp)) rfl rfl rfl hcalm i _ s3 _ H3 _ Ip f3 st3 stop) fun r s4 ⟨hr, I4⟩ => ?_
   subst hr
   obtain ⟨m, hn, _⟩ := I4.loc
   exact hR _ _ _ _ ys m _ hn (fun h' hsb => comp_end I2 f2 ehp.symm I4 hsb rv3 hz) (I2.fpOk (by rw [hC]; exact Nat.le_succ _) (by rw [upd_ne (Ne.symm hDC)]; exact I4.free)) (fin _ (I4.pin _ (List.mem_append_right _ List.mem_cons_self)).2.1)
  ·refine thn (T.item (cxB X scope N { s2 with heap := hp } H2 (s2.heap.objs.size :: fp)) rfl rfl rfl hcalm i _ s3 _ H3 _ Ip f3 st3 go) fun r s4 ⟨u, hr, h4⟩ => ?_
   subst hr
   refine thn h4 fun _ s5 ⟨x, H5, I5, r5, y5, st5, fr5⟩ => ?_
   have I5' := I5.pinned (fpD (H' := H5) (pl := [(s2.heap.objs.size, { cls := .type "list", data := .seq its.toArray na })]) fr5 mem1) (T.obj _ _ st5)
   refine thn (hg _ _ _ _ s5 _ H5 x u _ I5' r5 (hk x _ H5 _ _ (step x H5 y5) fun σ' H' q l k => (⟨q, l, k⟩ : _ /\ _ /\ _))) fun _ s6 ⟨σ6, H6, I6, q6, l6, k6⟩ => ?_
   refine thn (hc _ _ _ _ s6 σ6 H6 _ I6 q6) fun ok s7 ⟨H7, I7, q7⟩ => ?_
   have weak : ∀ {H' : Hp} {s' : Shared} {pl : List (Addr × Obj)}, Inv (cxB X scope N { s2 with heap := hp } H2 (s2.heap.objs.size :: fp)) pl σ6 H' s' -> Inv (cxB X scope N { s2 with heap := hp } H2 (s2.heap.objs.size :: fp)) pl (st0 own caps σ) H' s' := fun I' =>
    I'.weak l6.symm fun j v e => k6 j v (by
     by_cases hj : j < own
     ·unfold st0 at e
      rw [List.getElem?_append_left (by simpa using hj), List.getElem?_replicate] at e
      split at e <;> cases e
     ·(clear e l6 hz hd3 nD3 len0 hD0 hDC hC ehp hN hkind hsc hX hcalm; omega)) e
   have after : ∀ {H' : Hp} {s' : Shared}, Inv (cxB X scope N { s2 with heap := hp } H2 (s2.heap.objs.size :: fp)) ([(s2.heap.objs.size, { cls := .type "list", data := .seq its.toArray na })] ++ pinsAt fp s5.heap) σ6 H' s' ->
     tn (i + 1) s'.heap /\ (∀ b ∈ fp, H' b = none) /\ H' s2.heap.objs.size = none /\ s'.heap.get? s2.heap.objs.size = some { cls := .type "list", data := .seq its.toArray na } := fun I' => by
    refine ⟨T.keep _ _ _ st5 fun b hb o e => (I'.pin (b, o) (List.mem_append_right _ (List.mem_append_right _ (mem_pinsAt hb e)))).1, fun b hb => ?_, ?_, ?_⟩
    ·obtain ⟨o, e, d⟩ := T.obj _ _ st5 b hb
     exact (I'.pin (b, o) (List.mem_append_right _ (List.mem_append_right _ (mem_pinsAt hb e)))).2.1
    ·exact (I'.pin _ (List.mem_append_right _ (List.mem_append_left _ List.mem_cons_self))).2.1
    ·exact (I'.pin _ (List.mem_append_right _ (List.mem_append_left _ List.mem_cons_self))).1
   cases ok with
   | false =>
    rw [if_neg Bool.false_ne_true]
    obtain ⟨m', hm, w7⟩ := (show ∃ m', m' < n /\ W (i + 1) m' ys H7 by rw [if_neg Bool.false_ne_true] at q7; exact q7)
    obtain ⟨a1, a2, a3, a4⟩ := after I7
    exact ⟨m', hm, i + 1, ys, its, na, H7, (weak I7).pins_of (fun p hp' => absurd hp' (by simp)), a1, a2, a3, rv3, a4, w7⟩
   | true =>
    rw [if_pos rfl]
    rw [if_pos rfl] at q7
    refine thn (he _ _ _ _ s7 σ6 H7 _ I7 q7) fun yv s8 ⟨y, H8, I8, r8, m', hm, w8⟩ => ?_
    obtain ⟨a1, a2, a3, a4⟩ := after I8
    have hl := rv3.length
    refine call_meets F.slot_list_append ⟨_, a4, rfl⟩ F.entry_list_append (F.args_list_append_2 _ _) (PySem.list_append s2.heap.objs.size its.toArray na yv (by rw [List.size_toArray]; (clear a4 a3 hm l6 hd3 nD3 len0 hD0 hDC hC ehp hN hkind hsc hX hcalm; omega))) ⟨a4, ?_⟩
    have I9 : Inv (cxB X scope N { s2 with heap := hp } H2 (s2.heap.objs.size :: fp)) [] (st0 own caps σ) H8 s8 := (weak I8).pins_of (fun p hp' => absurd hp' (by simp))
    have q : (s8.heap.update s2.heap.objs.size (Obj.mapSeq (·.push yv))).get? s2.heap.objs.size = some { cls := .type "list", data := .seq (its ++ [yv]).toArray (na + 1) } := by
     have q := PySem.IsL.update a4 (·.push yv)
     simpa using q
    refine ⟨m', hm, i + 1, ys ++ [y], its ++ [yv], na + 1, H8, I9.turned (it := s2.heap.objs.size) (t' := s8.toks) (fun b o hb e => ?_) a3 (hDC) (.inl List.mem_cons_self) (fun x c z => Nat.ne_of_lt (cellLt z)) (fun p hp' => absurd (show p ∈ ([] : List (Addr × Obj)) from hp') (by simp)), ?_, a2, a3, rv3.append (.cons r8 .nil), q, w8⟩
    ·rw [Heap.get?_update_other _ _ (Ne.symm hb)]; exact e
    ·exact T.keep _ _ _ a1 fun b hb o e => by rw [Heap.get?_update_other _ _ (Ne.symm (fpC b hb).2)]; exact e
 exact codeAny_compStart_list (loop _ rfl) (T.self _ 0 _ _ _ (T.keep _ _ _ st2 fun b _ o q => up1 (up q)) (loop _ rfl))
theorem pe_comp {elt target iter : Expr} {ifs : List Expr} {scope sc0 : Scope} {pos : Pos} {N N0 : List Str} {own : Nat} {caps : List Nat} {wi : TI} {g : TG} {tc : TT} {te : TE}
  (hcalm : X.calm = true) (hi : PI X target iter wi)
  (hg : ∀ s₀ H₀ ex, PG (cxB X scope N s₀ H₀ ex) target g) (hc : ∀ s₀ H₀ ex, PIfs (cxB X scope N s₀ H₀ ex) ifs tc) (he : ∀ s₀ H₀ ex, PE (cxB X scope N s₀ H₀ ex) elt te) (hk : GKeep own g)
  (hX : X.N = N0) (hsc : X.env.scope = sc0)
  (hcell : ∀ y ∈ scope.names, y.2 ≠ .cell) (hkind : scope.kind = .function) (hnames : ∀ y ∈ scope.names, y.2 = .local -> scope.names.lookup y.1 = some .local)
  (hfree : ∀ y ∈ scope.names, y.2 = .free -> sc0.names.lookup y.1 = some .cell) (hN : N.length = own + caps.length)
  (hcap : ∀ p ∈ caps.zip (N.drop own), N0[p.1]? = some p.2 /\ scope.names.lookup p.2 = some .free)
  (hs : ∀ x, foldedSetIterable iter X.env x = pure x := by intro _; rfl) :
  PE X (.ListComp elt [⟨target, iter, ifs, 0⟩] scope pos) (tComp own caps wi g tc te) := by
 intro pins s σ H Q I h
 rw [eval_ListComp]
 exact comp_core hcalm hi hg hc he hk hX hsc hcell hkind hnames hfree hN hcap hs I h fun D C s' He ys m f hn hI _ q => ⟨m, hn, fun h' hsb => ⟨.ref D, _, hI h' hsb, rfl, q⟩⟩
end
theorem ObjOk.at {P : Program} {w : World} {H : Hp} {h : Heap} {a : Addr} {o : HO} (x : ObjOk P w H h a o) : ∃ ob, h.get? a = some ob := by
 cases o with
 | lst xs => obtain ⟨_, _, _, _, e⟩ := x; exact ⟨_, e⟩
 | tup xs => obtain ⟨_, _, _, ob, e, _⟩ := x; exact ⟨_, e⟩
 | dK kvs => obtain ⟨_, _, _, _, o, _, _, e, _⟩ := x; exact ⟨_, e⟩
 | dT kvs => obtain ⟨_, _, _, _, o, _, _, e, _⟩ := x; exact ⟨_, e⟩
 | set S n => obtain ⟨o, _, _, _, e, _⟩ := x; exact ⟨_, e⟩
 | ins C dx fs => obtain ⟨_, _, _, e, _⟩ := x; exact ⟨_, e⟩
 | own y => obtain ⟨_, e⟩ := x; exact ⟨_, e⟩
 | xd fs => obtain ⟨_, ⟨_, _, _, e, _⟩, _⟩ := x; exact ⟨_, e⟩
 | rng lo hi => obtain ⟨_, _, _, e⟩ := x; exact ⟨_, e⟩
 | frz ob u => obtain ⟨e, _⟩ := x; exact ⟨_, e⟩
 | tbl ps => exact ⟨_, show h.get? a = some _ from x⟩
 | met f y => exact ⟨_, show h.get? a = some _ from x⟩
 | ext φ => obtain ⟨_, ⟨_, e⟩, _⟩ := x; exact ⟨_, e⟩
def CX1 (P : Program) (w : World) : CXT := fun outer H s E e s' => ∃ (ea : Addr) (cls a0 : Value) (B : Heap) (H' : Hp),
 e = .ref ea /\ s'.os = s.os /\ AllBare s'.gens /\ Un (frs outer) [] H H' s.heap s'.heap /\ HOk P w H' s'.heap /\ Heap.FlyingW B outer ea cls a0 s'.heap /\
 (∀ b o, s.heap.get? b = some o -> H b = none -> b ∉ frs outer -> B.get? b = some o) /\ (∀ b o, s.heap.get? b = some o -> b ∉ frs outer -> ∃ o', B.get? b = some o') /\
 (∀ b u, H' b = some u -> ∃ o, B.get? b = some o) /\ E cls none H'
theorem CX1.no {P : Program} {w : World} {outer : List Env} {H : Hp} {s s' : Shared} {e : Value} (h : CX1 P w outer H s (fun _ _ _ => False) e s') : False := by
 obtain ⟨_, _, _, _, _, _, _, _, _, _, _, _, _, _, z⟩ := h
 exact z
theorem un_fly {fs : List Addr} {H H' : Hp} {h h1 h2 B base : Heap} {outer : List Env} (hfs : fs = frs outer) (u : Un fs [] H H' h h1) (k1 : ∀ b o, h.get? b = some o -> H b = none -> b ∉ fs -> B.get? b = some o)
  (k3 : ∀ b o, h.get? b = some o -> b ∉ fs -> ∃ o', B.get? b = some o') (ff : h1.FunFrames base outer) (st : B.StaysIn h2) (up : h1.UpToSlots h2) : Un fs [] H H' h h2 := by
 have fr : ∀ b ∈ fs, ∀ o, h1.get? b = some o -> ∃ sl, h2.get? b = some { o with slots := sl } := fun b hb o e => by
  rw [hfs] at hb
  obtain ⟨_, o', e', nf⟩ := ff.mem hb
  rw [e] at e'; cases e'
  exact up b o e nf
 refine ⟨fun b o e n hb _ => st b o (k1 b o e n hb), fun b o e n hb hx => ?_, u.free, fun b o e hx => ?_, u.tups, u.frzs, u.tbls⟩
 ·obtain ⟨sl, e1⟩ := u.slot b o e n hb hx
  obtain ⟨sl', e2⟩ := fr b hb _ e1
  exact ⟨sl', e2⟩
 ·by_cases hb : b ∈ fs
  ·obtain ⟨o1, e1⟩ := u.there b o e hx
   obtain ⟨sl, e2⟩ := fr b hb _ e1
   exact ⟨_, e2⟩
  ·obtain ⟨o', e'⟩ := k3 b o e hb
   exact ⟨o', st b o' e'⟩
theorem hok_fly {P : Program} {w : World} {H : Hp} {h1 h2 B : Heap} (x : HOk P w H h1) (k2 : ∀ b u, H b = some u -> ∃ o, B.get? b = some o) (s1 : B.StaysIn h1) (s2 : B.StaysIn h2) : HOk P w H h2 := fun b u e => by
 refine (x b u e).stay (fun c v hc q => ?_) (fun _ q => q) fun _ _ q => q
 have ht : ∃ z, H c = some z := by
  rcases hc with z | z
  ·subst z; exact ⟨u, e⟩
  ·exact ⟨_, z⟩
 obtain ⟨z, ez⟩ := ht
 obtain ⟨o, eo⟩ := k2 c z ez
 have := s1 c o eo
 rw [q] at this; cases this
 exact s2 c v eo
section
variable {P : Program} {w : World} {K : PySem.W.Frag} {mg : Str -> Option Value} {base : Heap} {N : List Str} {qual : Str} {scope : Scope} {f : Addr} {cdv : Value} {A : Around} {outer : List Env} {s₀ : Shared} {H₀ : Hp} {E E' : XK}
def Raises (X : Cx) (E : XK) : Prop := ∀ (pins : List (Addr × Obj)) (σ : St) (H : Hp) (s : Shared) (h' : Heap) (ea : Addr) (cls : Value) (args : List Value), Inv X pins σ H s -> Heap.MadeExcOf s.heap h' ea cls args -> E cls none H -> X.xe (.ref ea) { s with heap := h' }
theorem raise_out : Raises (cxOf (CX1 P w) P w K mg base N qual scope f cdv A outer s₀ H₀ E) E := by
 intro pins σ H s h' ea cls args I hx hE
 have stk := I.stack
 have hin : ∀ env ∈ (cxOf (CX1 P w) P w K mg base N qual scope f cdv A outer s₀ H₀ E).stack, ∀ b, env.frame = some b -> b ∈ frs (cxOf (CX1 P w) P w K mg base N qual scope f cdv A outer s₀ H₀ E).stack := fun env he b hb => List.mem_filterMap.mpr ⟨env, he, hb⟩
 have inB : ∀ {b : Addr} {o : Obj}, s.heap.get? b = some o -> b ∉ frs (cxOf (CX1 P w) P w K mg base N qual scope f cdv A outer s₀ H₀ E).stack -> (PySem.W.hideAll s.heap (frs (cxOf (CX1 P w) P w K mg base N qual scope f cdv A outer s₀ H₀ E).stack)).get? b = some o := fun e hb => PySem.W.hideAll_get _ e hb
 have hL : ∀ {b : Addr} {o : Obj}, s₀.heap.get? b = some o -> b ∉ frs outer -> b ∉ frs (cxOf (CX1 P w) P w K mg base N qual scope f cdv A outer s₀ H₀ E).stack := fun {b o} e hb z => by
  rcases List.mem_cons.mp (I.stkSub b z) with q | q
  ·have h1 := Heap.lt_size e
   have h2 : s₀.heap.objs.size <= (cxOf (CX1 P w) P w K mg base N qual scope f cdv A outer s₀ H₀ E).env.locals := I.ok.above
   rw [q] at h1
   exact Nat.lt_irrefl _ (Nat.lt_of_lt_of_le h1 h2)
  ·exact hb q
 show wpAny (model P w) (A.deeper (envOfC qual scope s₀.heap.objs.size f cdv)) (leaving (envOfC qual scope s₀.heap.objs.size f cdv) (.ref ea)) _ _ _
 refine wpAny_leaves_madeW (s := { s with heap := h' }) (h := s.heap) (base := PySem.W.hideAll s.heap (frs (cxOf (CX1 P w) P w K mg base N qual scope f cdv A outer s₀ H₀ E).stack)) I.ok.frames rfl (fun b o q => PySem.W.of_hideAll _ q) (PySem.W.funFrames_hide stk hin) hx fun h'' t fl _ _ up => ?_
 have u0 : Un (frs outer) [] H₀ H s₀.heap s.heap := I.base
 have tr : ∀ b u, H b = some u -> b ∉ frs (cxOf (CX1 P w) P w K mg base N qual scope f cdv A outer s₀ H₀ E).stack := fun b u e z => by rw [I.stkFree b z] at e; cases e
 have k1 : ∀ b o, s₀.heap.get? b = some o -> H₀ b = none -> b ∉ frs outer -> (PySem.W.hideAll s.heap (frs (cxOf (CX1 P w) P w K mg base N qual scope f cdv A outer s₀ H₀ E).stack)).get? b = some o := fun b o e n hb => inB (u0.keep b o e n hb (by simp)) (hL e hb)
 have k3 : ∀ b o, s₀.heap.get? b = some o -> b ∉ frs outer -> ∃ o', (PySem.W.hideAll s.heap (frs (cxOf (CX1 P w) P w K mg base N qual scope f cdv A outer s₀ H₀ E).stack)).get? b = some o' := fun b o e hb => by
  obtain ⟨o', e'⟩ := u0.there b o e (by simp)
  exact ⟨o', inB e' (hL e hb)⟩
 have k2 : ∀ b u, H b = some u -> ∃ o, (PySem.W.hideAll s.heap (frs (cxOf (CX1 P w) P w K mg base N qual scope f cdv A outer s₀ H₀ E).stack)).get? b = some o := fun b u e => by
  obtain ⟨o, eo⟩ := (I.hok b u e).at
  exact ⟨o, inB eo (tr b u e)⟩
 exact ⟨ea, cls, .ref t, _, H, rfl, I.os, I.bare, un_fly rfl u0 k1 k3 I.funs fl.1 ((Heap.UpToSlots.of_keeps hx.keeps).trans up), hok_fly I.hok k2 (fun b o q => PySem.W.of_hideAll _ q) fl.1, fl, k1, k3, k2, hE⟩
theorem pass_out (hE : ∀ cls od H', E' cls od H' -> E cls od H') : Passes (CX1 P w) (cxOf (CX1 P w) P w K mg base N qual scope f cdv A outer s₀ H₀ E) E' := by
 intro pins σ H s e s' I h
 obtain ⟨ea, cls, a0, B, H', rfl, os, bare, un, hok, fl, k1, k3, k2, hx⟩ := h
 have stk : (cxOf (CX1 P w) P w K mg base N qual scope f cdv A outer s₀ H₀ E).stack = envOfC qual scope s₀.heap.objs.size f cdv :: outer := rfl
 have hfrs : frs (cxOf (CX1 P w) P w K mg base N qual scope f cdv A outer s₀ H₀ E).stack = s₀.heap.objs.size :: frs outer := rfl
 have u0 : Un (frs outer) [] H₀ H s₀.heap s.heap := I.base
 have notL : ∀ {b : Addr} {o : Obj}, s₀.heap.get? b = some o -> b ∉ frs outer -> b ∉ frs (cxOf (CX1 P w) P w K mg base N qual scope f cdv A outer s₀ H₀ E).stack := fun {b o} e hb z => by
  rw [hfrs] at z
  rcases List.mem_cons.mp z with q | q
  ·have h1 := Heap.lt_size e
   rw [q] at h1
   exact Nat.lt_irrefl _ h1
  ·exact hb q
 show wpAny (model P w) (A.deeper (envOfC qual scope s₀.heap.objs.size f cdv)) (leaving (envOfC qual scope s₀.heap.objs.size f cdv) (.ref ea)) _ _ _
 refine wpAny_leaves_onW I.ok.frames rfl fl fun h'' fl2 up => ?_
 have u1 : Un (frs outer) [] H₀ H' s₀.heap s'.heap := by
  refine ⟨fun b o e n hb hx => ?_, fun b o e n hb hx => ?_, fun b o e n hx => ?_, fun b o e hx => ?_, fun b xs q => un.tups b xs (u0.tups b xs q), fun b ob u q => un.frzs b ob u (u0.frzs b ob u q), fun b ps q => ?_⟩
  ·exact un.keep b o (u0.keep b o e n hb hx) (u0.free b o e n hx) (notL e hb) (by simp)
  ·obtain ⟨sl, e1⟩ := u0.slot b o e n hb hx
   obtain ⟨sl', e2⟩ := un.any e1 (u0.free b o e n hx) (by simp)
   exact ⟨sl', e2⟩
  ·obtain ⟨o', e1⟩ := u0.there b o e hx
   exact un.free b o' e1 (u0.free b o e n hx) (by simp)
  ·obtain ⟨o', e1⟩ := u0.there b o e hx
   exact un.there b o' e1 (by simp)
  ·obtain ⟨m1, e1⟩ := u0.tbls b ps q
   obtain ⟨m2, e2⟩ := un.tbls b _ e1
   exact ⟨m1 ++ m2, by rw [e2, Array.append_assoc]⟩
 have K1 : ∀ b o, s₀.heap.get? b = some o -> H₀ b = none -> b ∉ frs outer -> B.get? b = some o := fun b o e n hb => k1 b o (u0.keep b o e n hb (by simp)) (u0.free b o e n (by simp)) (notL e hb)
 have K3 : ∀ b o, s₀.heap.get? b = some o -> b ∉ frs outer -> ∃ o', B.get? b = some o' := fun b o e hb => by
  obtain ⟨o', e1⟩ := u0.there b o e (by simp)
  exact k3 b o' e1 (notL e hb)
 have ff : s'.heap.FunFrames B outer := by
  obtain ⟨_, _, ⟨_, _, r⟩, _⟩ := fl
  exact r
 exact ⟨ea, cls, a0, B, H', rfl, os.trans I.os, bare, un_fly rfl u1 K1 K3 ff fl2.1 up, hok_fly hok k2 fl.1 fl2.1, fl2, K1, K3, k2, hE _ _ _ hx⟩
end
theorem exc_obj {K : PySem.W.Frag} {h : Heap} {C : Addr} {bmB : List Value} {newId : String} (X : K.In h) (q : PySem.W.excIn K C bmB newId = true) :
  ∃ bm N nm qn bs hdct sn sub ab col dd k0 k1 k2 k3 k5 mN, h.get? C = some (excClassObj nm qn C N bs bm hdct sn sub ab col dd k0 k1 k2 k3 k5 newId) /\ h.Ns N mN /\ mN "__init__" = none /\ OwnTail h bmB bm := by
 unfold PySem.W.excIn at q
 split at q
 ·rename_i dd cd sl ho
  split at q
  ·rename_i C' bm k0 k1 k2 k3 n k5 hm hs
   simp only [Bool.and_eq_true, beq_iff_eq, Bool.not_eq_true'] at q
   obtain ⟨⟨⟨⟨⟨rfl, rfl⟩, hdel⟩, ht⟩, hok⟩, hni⟩ := q
   obtain ⟨nm, bs, mro, ns, qn, hd, sn, sub, ab, col, del⟩ := cd
   dsimp only at hm hdel hok hni
   subst hm hdel
   have hsl : sl = #[k0, k1, k2, k3, some (.builtin n), k5] := by
    obtain ⟨l⟩ := sl
    simp only at hs
    rw [hs]
   subst hsl
   exact ⟨bm, ns, nm, qn, bs, hd, sn, sub, ab, col, dd, k0, k1, k2, k3, k5, _, X _ _ ho, .of_isNs (PySem.W.isNs_of_in X hok), PySem.W.nsMap_none_of_in X hok hni, PySem.W.tail_of_in X ht⟩
  ·cases q
 ·cases q
section
variable {X : Cx} {E : XK}
def tRaise (C : Addr) (E : XK) (t : TA) : TS := fun _ σ H => t σ H fun vs H1 => vs.length <= sizeLine /\ E (.ref C) none H1
theorem ps_raise {x : Str} {C : Addr} {e : Expr} {es : List Expr} {t : TA} {np cpos pos : Pos} {B Bn newId nid initId inN : String} {bmB bmN : List Value} (hcalm : X.calm = true) (hq : PySem.W.excIn X.K C bmB newId = true)
  (Fn : ExcBaseFacts Bn newId inN bmN) (hBn : bmB.contains (.type Bn) = true) (FB : ExcBaseFacts B nid initId bmB) (hg : Gl X x) (hm : X.mg x = some (.ref C)) (ha : PA X (e :: es) t) (hR : Raises X E)
  (hdb : (x == ("__debug__" : Str)) = false := by decide) (he : starEach (e :: es) X.env = (false, eval e X.env) :: starEach es X.env := by rfl) (hpl : (backTo cpos (starEach es X.env)).any (·.1) = false := by rfl) :
  PS X (.Raise (some (.Call (.Name x np) (e :: es) [] cpos)) none pos) (tRaise C E t) := by
 intro pins s σ H D I h
 obtain ⟨tl, N, nm, qn, bs, hdct, sn, sub, ab, col, dd, k0, k1, k2, k3, k5, mN, hC, hN, hni, T⟩ := exc_obj I.ok.mod.kin hq
 refine wpAny_Raise_call_subU (C := C) (nm := nm) (q := qn) (N := N) (bs := bs) (bm := tl) (hdct := hdct) (sn := sn) (sub := sub) (ab := ab) (col := col) (dd := dd) (k0 := k0) (k1 := k1) (k2 := k2) (k3 := k3) (k5 := k5)
  Fn hBn FB (mN := mN) (T.hasType FB.hasBase) (I.ok.hd hcalm) (by rw [he]; show (false || (backTo cpos (starEach es X.env)).any (·.1)) = false; rw [hpl]; rfl) hni (ld_glob I hg hm ⟨rfl, ?_⟩ hdb)
 have hA := ha cpos pins s σ H _ I h
 rw [he] at hA ⊢
 exact Calls.evalArgs_plain (thn hA fun us s2 ⟨vs, H2, I2, r, hz, hE⟩ => ⟨rfl, by rw [<- r.length]; exact hz, I2.bk _ _ hC, hN.keeps I2.bk, T.keeps I2.bk, fun h' ea mk => hR pins σ H2 s2 h' ea (.ref C) us I2 mk hE⟩)
end
section
variable {P : Program} {w : World} {K : PySem.W.Frag} {mg : Str -> Option Value} {base : Heap}
theorem Fun.ok1 {x qual : Str} {st : Stmt} {f : Addr} {fd : FuncData} {N ps : List Str} {k : Nat} {sp : Sp} (F : Fun K x qual st f fd) (S : FnScope N ps (defScope st)) (len : ∀ vs H Q E, sp vs H Q E -> vs.length = ps.length)
  (hbody : ∀ (cdv : Value) (A : Around) (outer : List Env) (s : Shared) (H : Hp) (vs : List V) (Q : VK) (E : XK), Room k (A.deeper (envOfC qual (defScope st) s.heap.objs.size f cdv)) -> sp vs H Q E ->
   ∃ t, PSs (cxOf (CX1 P w) P w K mg base N qual (defScope st) f cdv A outer s H E) (defBody st) t /\ t { nx := fun _ H' => Q .non H', rt := Q } (start N vs) H) : FnOk P w K mg base (CX1 P w) (k + 1) f fd ps sp := by
 obtain ⟨oc, od, kV, doc, pm, an, cdv, ct, osl, rfl, lk, hcd⟩ := F.ex
 exact fn_of lk hcd S len fun A outer s H vs Q E hr hsp => hbody cdv A outer s H vs Q E hr hsp
end
abbrev Cx.tr (X : Cx) (p : List (Addr × Obj)) (E : Value -> Shared -> Prop) : Cx := { X with pn := p, xe := E }
section
variable {X : Cx} {CX : CXT} {k : Nat} {f C : Addr} {fd : FuncData} {ps : List Str} {sp : Sp} {dvs : List V} {ds : List Value} {E : St -> XK} {x m : Str} {p pos apos : Pos} {e o : Expr} {es : List Expr} {ta : TE} {t : TA}
end
section
variable {X : Cx} {pins : List (Addr × Obj)} {σ : St} {H : Hp} {s : Shared}
end
section
variable {X : Cx}
end
structure RoomN (k : Nat) (A : Around) : Prop where
 dp : A.depth + 3 * k + 5 < recursionLimit
 un : A.units + 16 * k + 200 < cLine
theorem Room.toN {k : Nat} {A : Around} (r : Room k A) : RoomN k A := ⟨r.dp, r.un⟩
theorem RoomN.mono {j k : Nat} {A : Around} (r : RoomN k A) (h : j <= k) : RoomN j A := ⟨by have := r.dp; omega, by have := r.un; omega⟩
theorem RoomN.deeper {k : Nat} {A : Around} (r : RoomN (k + 1) A) (env : Env) : RoomN k (A.deeper env) :=
 ⟨by have := r.dp; show A.depth + 1 + 3 * k + 5 < _; omega, by have := r.un; show A.units + 3 + 16 * k + 200 < _; omega⟩
theorem RoomN.depth {k : Nat} {A : Around} (r : RoomN k A) : A.depth < recursionLimit := by have := r.dp; omega
theorem RoomN.units {k : Nat} {A : Around} (r : RoomN k A) : A.units + 100 < cLine := by have := r.un; omega
theorem Room.units100 {k : Nat} {A : Around} (r : Room k A) : A.units + 100 < cLine := r.toN.units
section
variable {X : Cx} {k : Nat} {f C : Addr} {fd : FuncData} {ps : List Str} {sp : List V -> Hp -> VK -> Prop} {dvs : List V} {ds : List Value} {x m : Str} {p pos apos : Pos} {e o : Expr} {es : List Expr} {ta : TE} {t : TA}
end
end L2
namespace PySem.W
open PySem PySem.Spec PySem.Calls PyProof.Rows PySem.Builtin.ObjectAttr PySem.Builtin.Getset_descriptor PySem.Builtin
section
variable {prog : Program} {w : World} {A : Around} {E : Value -> Shared -> Prop} {K : Frag} {x C : Addr} {ox : Obj}
end
end PySem.W
namespace L2
open PySem PySem.Spec PyProof.Rows
section
variable {X : Cx}
end
theorem comp_by {J : It} {g : TG} {tc : TT} {te : TE} {σ0 : St} {H : Hp} {Q : VK} (n : Nat) (Pv : Nat -> List V -> Hp -> Prop) (hz : n < sizeLine) (hgo : ∀ i ys H, i < n -> Pv i ys H -> J.go i H) (hstop : ∀ ys H, Pv n ys H -> J.stop n H) (h0 : Pv 0 [] H)
  (hs : ∀ i ys H x H' (N : List V -> Hp -> Prop), i < n -> Pv i ys H -> J.yld i H x H' -> (∀ ys' H2, Pv (i + 1) ys' H2 -> N ys' H2) ->
   g x σ0 H' fun σ2 H2 => tc σ2 H2 fun b H3 => if b = true then te σ2 H3 fun y H4 => N (ys ++ [y]) H4 else N ys H3)
  (hd : ∀ ys H, Pv n ys H -> ys.length <= n -> ∀ p, H p = none -> Q (.ref p) (upd H p (.lst ys))) :
  CompR J g tc te σ0 Q H := by
 refine ⟨fun i m ys H => m = n - i /\ i <= n /\ ys.length <= i /\ Pv i ys H, ⟨n, by simp, Nat.zero_le _, Nat.le_refl _, h0⟩, ?_⟩
 rintro i m ys H ⟨rfl, hi, hl, p⟩
 by_cases hlt : i < n
 ·refine .inr ⟨hgo i ys H hlt p, by (clear hlt; omega), fun x H' y => ?_⟩
  have key := hs i ys H x H' (fun ys' H2 => (ys'.length <= ys.length + 1 -> ∃ m', m' < n - i /\ m' = n - (i + 1) /\ i + 1 <= n /\ ys'.length <= i + 1 /\ Pv (i + 1) ys' H2)) hlt p y (fun ys' H2 q hle => ⟨n - (i + 1), by (clear hle hl hi hz; omega), rfl, hlt, by (clear hlt hi hz; omega), q⟩)
  have e : (fun σ2 H2 => tc σ2 H2 fun b H3 => if b = true then te σ2 H3 fun y H4 => ((ys ++ [y]).length <= ys.length + 1 -> ∃ m', m' < n - i /\ m' = n - (i + 1) /\ i + 1 <= n /\ (ys ++ [y]).length <= i + 1 /\ Pv (i + 1) (ys ++ [y]) H4)
    else (ys.length <= ys.length + 1 -> ∃ m', m' < n - i /\ m' = n - (i + 1) /\ i + 1 <= n /\ ys.length <= i + 1 /\ Pv (i + 1) ys H3)) =
   (fun σ2 H2 => tc σ2 H2 fun b H3 => if b = true then te σ2 H3 fun y H4 => ∃ m', m' < n - i /\ m' = n - (i + 1) /\ i + 1 <= n /\ (ys ++ [y]).length <= i + 1 /\ Pv (i + 1) (ys ++ [y]) H4
    else ∃ m', m' < n - i /\ m' = n - (i + 1) /\ i + 1 <= n /\ ys.length <= i + 1 /\ Pv (i + 1) ys H3) := by
   funext σ2 H2
   congr 1
   funext b H3
   have e1 : ∀ (y : V) (H4 : Hp), ((ys ++ [y]).length <= ys.length + 1 -> ∃ m', m' < n - i /\ m' = n - (i + 1) /\ i + 1 <= n /\ (ys ++ [y]).length <= i + 1 /\ Pv (i + 1) (ys ++ [y]) H4) = (∃ m', m' < n - i /\ m' = n - (i + 1) /\ i + 1 <= n /\ (ys ++ [y]).length <= i + 1 /\ Pv (i + 1) (ys ++ [y]) H4) := fun y H4 =>
    propext ⟨fun q => q (by simp), fun q _ => q⟩
   have e2 : (ys.length <= ys.length + 1 -> ∃ m', m' < n - i /\ m' = n - (i + 1) /\ i + 1 <= n /\ ys.length <= i + 1 /\ Pv (i + 1) ys H3) = (∃ m', m' < n - i /\ m' = n - (i + 1) /\ i + 1 <= n /\ ys.length <= i + 1 /\ Pv (i + 1) ys H3) := propext ⟨fun q => q (by (clear hlt hl hi hz; omega)), fun q _ => q⟩
   simp only [e1, e2]
  rw [e] at key
  exact key
 ·have e : i = n := by (clear hl hz; omega)
  subst e
  exact .inl ⟨hstop ys H p, by (clear hlt hi; omega), hd ys H p hl⟩
theorem comp_its {x : Str} {g : TG} {tc : TT} {te : TE} {σ0 : St} {H : Hp} {Q : VK} (Pv : Nat -> List V -> Hp -> Prop) (hz : x.cps.size < sizeLine) (h0 : Pv 0 [] H)
  (hs : ∀ i c ys H (N : List V -> Hp -> Prop), x.cps[i]? = some c -> Pv i ys H -> (∀ ys' H2, Pv (i + 1) ys' H2 -> N ys' H2) ->
   g (.str ⟨#[c]⟩) σ0 H fun σ2 H2 => tc σ2 H2 fun b H3 => if b = true then te σ2 H3 fun y H4 => N (ys ++ [y]) H4 else N ys H3)
  (hd : ∀ ys H, Pv x.cps.size ys H -> ys.length <= x.cps.size -> ∀ p, H p = none -> Q (.ref p) (upd H p (.lst ys))) : CompR (Its x) g tc te σ0 Q H := comp_by x.cps.size Pv hz (fun i ys H hi _ => hi) (fun ys H _ => rfl) h0
 (fun i ys H v H' N hi p y hN => by
  obtain ⟨e, c, hc, e2⟩ := y
  subst e e2
  exact hs i c ys _ N hc p hN) hd
theorem comp_itr {lo : Int} {n : Nat} {g : TG} {tc : TT} {te : TE} {σ0 : St} {H : Hp} {Q : VK} (Pv : Nat -> List V -> Hp -> Prop) (hz : n < sizeLine) (h0 : Pv 0 [] H)
  (hs : ∀ i ys H (N : List V -> Hp -> Prop), i < n -> Pv i ys H -> (∀ ys' H2, Pv (i + 1) ys' H2 -> N ys' H2) ->
   g (.int (lo + i)) σ0 H fun σ2 H2 => tc σ2 H2 fun b H3 => if b = true then te σ2 H3 fun y H4 => N (ys ++ [y]) H4 else N ys H3)
  (hd : ∀ ys H, Pv n ys H -> ys.length <= n -> ∀ p, H p = none -> Q (.ref p) (upd H p (.lst ys))) : CompR (Itr lo n) g tc te σ0 Q H := comp_by n Pv hz (fun i ys H hi _ => hi) (fun ys H _ => Nat.le_refl _) h0
 (fun i ys H v H' N hi p y hN => by
  obtain ⟨e, e2⟩ := y
  subst e e2
  exact hs i ys _ N hi p hN) hd
theorem comp_itl {K : PySem.W.Frag} {a : Addr} {xs : List V} {g : TG} {tc : TT} {te : TE} {σ0 : St} {H : Hp} {Q : VK} (Pv : Nat -> List V -> Hp -> Prop) (hz : xs.length < sizeLine) (hl : ∀ i ys H, Pv i ys H -> SqL K H a xs) (h0 : Pv 0 [] H)
  (hs : ∀ i x ys H (N : List V -> Hp -> Prop), xs[i]? = some x -> Pv i ys H -> (∀ ys' H2, Pv (i + 1) ys' H2 -> N ys' H2) ->
   g x σ0 H fun σ2 H2 => tc σ2 H2 fun b H3 => if b = true then te σ2 H3 fun y H4 => N (ys ++ [y]) H4 else N ys H3)
  (hd : ∀ ys H, Pv xs.length ys H -> ys.length <= xs.length -> ∀ p, H p = none -> Q (.ref p) (upd H p (.lst ys))) : CompR (Itl K a) g tc te σ0 Q H := comp_by xs.length Pv hz
 (fun i ys H hi p => ⟨xs, xs[i], hl i ys H p, by simp [hi]⟩) (fun ys H p => ⟨xs, hl _ ys H p, Nat.le_refl _⟩) h0
 (fun i ys H v H' N hi p y hN => by
  obtain ⟨e, y⟩ := y
  subst e
  exact hs i v ys _ N (y xs (hl i ys _ p)) p hN) hd
@[elab_as_elim] theorem us1 {α : Type} {p : List α -> Prop} (h : ∀ a, p [a]) (us : List α) (hl : us.length = 1) : p us := by
 obtain ⟨a, rfl⟩ := List.length_eq_one_iff.mp hl
 exact h a
@[elab_as_elim] theorem us2 {α : Type} {p : List α -> Prop} (h : ∀ a b, p [a, b]) (us : List α) (hl : us.length = 2) : p us := by
 cases us with
 | nil => cases hl
 | cons a r => exact @us1 _ (fun r => p (a :: r)) (fun b => h a b) r (Nat.succ.inj hl)
@[elab_as_elim] theorem us3 {α : Type} {p : List α -> Prop} (h : ∀ a b c, p [a, b, c]) (us : List α) (hl : us.length = 3) : p us := by
 cases us with
 | nil => cases hl
 | cons a r => exact @us2 _ (fun r => p (a :: r)) (fun b c => h a b c) r (Nat.succ.inj hl)
@[elab_as_elim] theorem us4 {α : Type} {p : List α -> Prop} (h : ∀ a b c d, p [a, b, c, d]) (us : List α) (hl : us.length = 4) : p us := by
 cases us with
 | nil => cases hl
 | cons a r => exact @us3 _ (fun r => p (a :: r)) (fun b c d => h a b c d) r (Nat.succ.inj hl)
section
variable {X : Cx}
theorem ps_setC {i : Nat} {x : Str} {pos' spos : Pos} {elt target iter : Expr} {ifs : List Expr} {scope sc0 : Scope} {pos : Pos} {N N0 : List Str} {own : Nat} {caps : List Nat} {wi : TI} {g : TG} {tc : TT} {te t' : TE}
  (hNd : X.N.Nodup) (hxi : X.N[i]? = some x) (hx : Loc X.env.scope x)
  (hcalm : X.calm = true) (hi : PI X target iter wi)
  (hg : ∀ s₀ H₀ ex, PG (cxB X scope N s₀ H₀ ex) target g) (hc : ∀ s₀ H₀ ex, PIfs (cxB X scope N s₀ H₀ ex) ifs tc) (he : ∀ s₀ H₀ ex, PE (cxB X scope N s₀ H₀ ex) elt te) (hk : GKeep own g)
  (hX : X.N = N0) (hsc : X.env.scope = sc0)
  (hcell : ∀ y ∈ scope.names, y.2 ≠ .cell) (hkind : scope.kind = .function) (hnames : ∀ y ∈ scope.names, y.2 = .local -> scope.names.lookup y.1 = some .local)
  (hfree : ∀ y ∈ scope.names, y.2 = .free -> sc0.names.lookup y.1 = some .cell) (hN : N.length = own + caps.length)
  (hcap : ∀ p ∈ caps.zip (N.drop own), N0[p.1]? = some p.2 /\ scope.names.lookup p.2 = some .free)
  (himp : ∀ σ H Q, t' σ H Q -> tComp own caps wi g tc te σ H Q)
  (hs : ∀ x, foldedSetIterable iter X.env x = pure x := by intro _; rfl)
  (hsw : swapsWith (.ListComp elt [⟨target, iter, ifs, 0⟩] scope pos) (some (.Name x pos')) spos.line X.env = pure true := by rfl)
  (hf : X.fn x = true \/ X.env.scope.names.lookup x = some .local := by first | exact .inl rfl | exact .inr rfl | assumption) :
  PS X (.Assign [.Name x pos'] (.ListComp elt [⟨target, iter, ifs, 0⟩] scope pos) spos) (tAsg t' (gName i)) := by
 intro pins s σ H D I h
 rw [exec_Assign_Name_used _ _ _ _ hsw]
 refine wpAny_bind (wpAny_standAt (wpAny_bind ?_))
 show wpAny _ X.A (do let _ <- comprehension (.ListComp elt [⟨target, iter, ifs, 0⟩] scope pos) scope X.env _ (newList []) false (eval iter X.env) (some (assign (.Name x pos') X.env))) _ _ s
 refine wpAny_bind (wpAny_mono (comp_core (use := some (assign (.Name x pos') X.env)) (Qf := fun _ s' => SP X pins D .next s') hcalm hi hg hc he hk hX hsc hcell hkind hnames hfree hN hcap hs I (himp _ _ _ h) ?_) (fun _ s' hq => wpAny_pure (wpAny_pure hq)) fun _ _ e => e)
 intro D' C s' He ys m f hn hI hfp q
 show wpAny _ X.A (assign (.Name x pos') X.env (.ref D')) _ _ s'
 have I1 : Inv X pins σ (upd He D' (.lst ys)) s' := hI s'.heap ⟨rfl, fun _ _ => rfl⟩
 refine wpAny_assign_Name (store_ok2 (v := .ref D') I1 hNd hxi hx rfl (fun s'' I2 ⟨a, hs2, ha⟩ => ?_) hf)
 have hCa : C ≠ a := by
  rcases ha with rfl | ha
  ·exact hfp.2.1
  ·exact fun z => hfp.2.2.2.2.1 _ _ ha z.symm
 refine ⟨m, hn.sameBut hs2 hCa, fun h' hsb => ⟨_, _, I2.turnedL (fp := [C]) (t' := s''.toks) (fun b o hb e => (hsb.2 b (fun z => hb (by rw [z]; exact List.mem_singleton.mpr rfl))).trans e) (fun b hb => ?_), q⟩⟩
 rw [List.mem_singleton.mp hb]
 exact hfp
end
section
variable {X : Cx}
end
section
variable {X : Cx}
end
def Iel (a : Addr) : It := ⟨fun i H => ∃ xs x, H a = some (.lst xs) /\ xs[i]? = some x, fun i H v H' => ∃ T x, H T = none /\ (∀ xs, H a = some (.lst xs) -> xs[i]? = some x) /\ v = .ref T /\ H' = upd H T (.tup [.int i, x]), fun i H => ∃ xs, H a = some (.lst xs) /\ i = xs.length⟩
theorem turn_enumL {P : Program} {w : World} {K : PySem.W.Frag} {elts : List Expr} {k : Nat} {pos : Pos} (a e it : Addr) (hei : e ≠ it) :
  Turn P w K (.Tuple elts k pos) (Iel a) [e, it] e (fun i h => (∃ old, IsEnum h e it i old) /\ h.IsListIter it a i) where
 mem := by simp
 obj := fun i h st b hb => by
  obtain ⟨⟨old, he⟩, o, ho, c, d⟩ := st
  rcases List.mem_cons.mp hb with rfl | hb
  ·exact ⟨_, he, fun v z => nomatch z⟩
  ·have e : b = it := by simpa using hb
   subst e
   exact ⟨o, ho, fun v z => by rw [d] at z; cases z⟩
 keep := fun i h h' st kk => by
  obtain ⟨⟨old, he⟩, o, ho, r⟩ := st
  exact ⟨⟨old, kk e (by simp) _ he⟩, o, kk it (by simp) o ho, r⟩
 item := by
  intro X hP hw hK hc i pins s σ H E I hf st hg
  subst hP hw hK
  obtain ⟨xs, x, hH, hx⟩ := hg
  obtain ⟨its, rv, p, hz⟩ := I.list (SqL.of hH)
  obtain ⟨u, hu, ru⟩ := rv.get hx
  have hae : a ≠ e := fun z => by rw [z, (hf e (by simp)).1] at hH; cases hH
  have hai : a ≠ it := fun z => by rw [z, (hf it (by simp)).1] at hH; cases hH
  have hil : i < its.toArray.size := by
   have := (List.getElem?_eq_some_iff.mp hu).1
   simpa using this
  have W := WalksT.enumerateD (Draws.list (prog := X.prog) (w := X.w) (A := X.A.in1) (I.ok.hd hc) it a hai its.toArray) e hei (by simp [hei, Ne.symm hae]) (by simp)
  refine W.item i s _ _ hil ⟨st.1, st.2, p.isList⟩ fun T vals h' tk hv hT ht mid kk => ⟨_, rfl, ?_⟩
  obtain ⟨t', y, hy, rfl⟩ := hv
  have hyu : y = u := by
   have h1 : its[i]? = some y := by simpa using hy
   rw [hu] at h1
   exact (Option.some.inj h1).symm
  subst hyu
  refine W.go elts k pos i T _ _ _ mid fun h'' st'' kk2 => ?_
  have keep : ∀ b o, b ∉ [e, it] -> s.heap.get? b = some o -> h''.get? b = some o := fun b o hb q => kk2 b o hb (kk b o hb q)
  have I1 : Inv X pins σ H { s with heap := h'', toks := tk } := I.turnedL keep hf
  have hn : H T = none := I.hok.fresh hT
  have hTn : T ∉ [e, it] := W.apart i T h' mid
  obtain ⟨ot, hot, hct, n, hdt⟩ := ht
  have I2 : Inv X pins σ (upd H T (.tup [.int i, x])) { s with heap := h'', toks := tk } := by
   refine I1.track (.inl (Heap.get?_none_of_le (Nat.le_trans I.sz hT))) hn (Nat.ne_of_gt (Nat.lt_of_lt_of_le I.lt hT)) (fun y c' q z => ?_) (fun p hp z => ?_) ?_
   ·obtain ⟨v, q'⟩ := I.cell y c' q
    exact absurd (Nat.lt_of_lt_of_le q'.lt (by rw [z]; exact hT)) (Nat.lt_irrefl _)
   ·exact absurd (Nat.lt_of_lt_of_le (Heap.lt_size (I.pin p hp).1) (by rw [z]; exact hT)) (Nat.lt_irrefl _)
   ·exact ⟨by show 2 <= sizeLine; decide, [.int i t', y], .cons ⟨_, rfl⟩ (.cons ru .nil), ot, kk2 T ot hTn hot, hct, n, hdt⟩
  refine ⟨.ref T, _, I2, rfl, ⟨T, x, hn, (fun ys hy' => ?_), rfl, rfl⟩, ⟨st''.1, st''.2.1⟩, fun b hb => ?_⟩
  ·rw [hH] at hy'
   cases hy'
   exact hx
  ·have hbT : b ≠ T := fun z => hTn (z ▸ hb)
   rw [upd_ne hbT]
   exact (hf b hb).1
 done := by
  intro X hP hw hK hc i pins s σ H E I hf st hg
  subst hP hw hK
  obtain ⟨xs, hH, hx⟩ := hg
  obtain ⟨its, rv, p, hz⟩ := I.list (SqL.of hH)
  have hl := rv.length
  have hae : a ≠ e := fun z => by rw [z, (hf e (by simp)).1] at hH; cases hH
  have hai : a ≠ it := fun z => by rw [z, (hf it (by simp)).1] at hH; cases hH
  have W := WalksT.enumerateD (Draws.list (prog := X.prog) (w := X.w) (A := X.A.in1) (I.ok.hd hc) it a hai its.toArray) e hei (by simp [hei, Ne.symm hae]) (by simp)
  have hi : i = its.toArray.size := by rw [hx, hl]; simp
  subst hi
  exact W.done s _ _ ⟨st.1, st.2, p.isList⟩ fun h' tk kk => ⟨rfl, I.turnedL kk hf⟩
 self := fun A i s Q E st h => by
  obtain ⟨⟨old, he⟩, _⟩ := st
  exact wpAny_pyIter_enum he h
def iEnumL (ta : TA) : TI := fun σ H R => ta σ H fun vs H1 => ∃ (a : Addr) (xs : List V), vs = [.ref a] /\ H1 a = some (.lst xs) /\ R (Iel a) H1
section
variable {X : Cx}
theorem pi_enumL {elts : List Expr} {k : Nat} {tpos p pos : Pos} {a : Expr} {ta : TA} (hg : Gl X "enumerate") (hm : X.mg "enumerate" = none) (ha : PA X [a] ta) (hs : starEach [a] X.env = [(false, eval a X.env)] := by rfl) :
  PI X (.Tuple elts k tpos) (.Call (.Name "enumerate" p) [a] [] pos) (iEnumL ta) := by
 intro pins s σ H R I h
 refine Call_ (ld_blt I hg hm boot_enumerate (PyProof.Rows.callWith_type1 (thn (ha pos pins s σ H _ I h) fun us s1 ⟨vs, H1, I1, r1, q1⟩ => ?_) hs rfl))
 obtain ⟨l, xs, e, hH, q⟩ := q1
 subst e
 obtain ⟨u, rfl, ru⟩ := vals1 r1
 cases ru
 obtain ⟨its, rv, pl, hz⟩ := I1.list (SqL.of hH)
 refine call_enumerate_list pl.isList fun h' he hit hsz hk => ?_
 refine wpAny_pyIter_enum he ?_
 refine ⟨s1.heap.objs.size + 1, [s1.heap.objs.size + 1, s1.heap.objs.size], _, _, H1, rfl, I1.kept (t' := s1.toks) hk, turn_enumL l _ _ (Nat.succ_ne_self _), ⟨⟨_, he⟩, hit⟩, fun b hb => ?_, q⟩
 rcases List.mem_cons.mp hb with rfl | hb
 ·exact I1.fpOk (Nat.le_succ _) (I1.hok.fresh (Nat.le_succ _))
 ·have e : b = s1.heap.objs.size := by simpa using hb
  subst e
  exact I1.fpOk (Nat.le_refl _) (I1.hok.fresh (Nat.le_refl _))
end
theorem for_iel {a : Addr} {xs : List V} {g : TG} {tb : TS} {D : Ends} {σ : St} {H : Hp} (Pv : Nat -> St -> Hp -> Prop) (h0 : Pv 0 σ H) (hl : ∀ i σ H, i <= xs.length -> Pv i σ H -> H a = some (.lst xs))
  (hs : ∀ i x σ H T, xs[i]? = some x -> Pv i σ H -> H T = none -> g (.ref T) σ (upd H T (.tup [.int i, x])) fun σ2 H2 => tb { D with nx := Pv (i + 1), ct := Pv (i + 1), bk := D.nx } σ2 H2) (hd : ∀ σ H, Pv xs.length σ H -> D.nx σ H) :
  ∃ W : Nat -> Nat -> St -> Hp -> Prop, (∃ m, W 0 m σ H) /\ ∀ i m σ H, W i m σ H ->
   ((Iel a).stop i H /\ D.nx σ H) \/ ((Iel a).go i H /\ ∃ N : St -> Hp -> Prop, (∀ σ' H', N σ' H' -> ∃ m', m' < m /\ W (i + 1) m' σ' H') /\ ∀ x H', (Iel a).yld i H x H' -> g x σ H' fun σ2 H2 => tb { D with nx := N, ct := N, bk := D.nx } σ2 H2) := by
 refine ⟨fun i m σ H => m = xs.length - i /\ i <= xs.length /\ Pv i σ H, ⟨xs.length, by simp, Nat.zero_le _, h0⟩, ?_⟩
 rintro i m σ H ⟨rfl, hi, p⟩
 have q := hl i σ H hi p
 by_cases hlt : i < xs.length
 ·refine .inr ⟨⟨xs, xs[i], q, by simp [hlt]⟩, Pv (i + 1), fun σ' H' p' => ⟨xs.length - (i + 1), by omega, rfl, hlt, p'⟩, fun x H' y => ?_⟩
  obtain ⟨T, z, hT, hz, rfl, rfl⟩ := y
  exact hs i z σ H T (hz xs q) p hT
 ·have e : i = xs.length := by omega
  subst e
  exact .inl ⟨⟨xs, q, rfl⟩, hd σ H p⟩
section
variable {X : Cx} {CX : CXT} {k : Nat} {f C : Addr} {fd : FuncData} {ps : List Str} {ds : List Value} {dvs : List V} {sp : Sp} {m : Str} {pos apos : Pos} {e o : Expr} {es : List Expr} {ta : TE} {t : TA} {E : St -> XK}
end
section
variable {X : Cx} {pins : List (Addr × Obj)} {σ : St} {H : Hp} {s : Shared} {a : Addr}
theorem Inv.freeze {kvs : List (Key × V)} {o : Obj} (I : Inv X pins σ H s) (e : H a = some (.dK kvs)) (ho : s.heap.get? a = some o) : Inv X pins σ (upd H a (.frz o (.dK kvs))) s :=
 I.write (x := a) (e := a) (h' := s.heap) (t' := s.toks) (by rw [e]; exact trivial) (.inl rfl) (fun _ _ _ q => q) ⟨o, ho⟩ ⟨ho, I.hok a _ e⟩
theorem relV_of_is {P : Program} {w : World} {k : Key} {u : Value} (h : (mixKind P w).is k u = true) : RelV (kV k) u := by
 rcases keyIs_shape (show keyIs k u = true from h) with ⟨i, t, rfl, rfl⟩ | ⟨x, t, rfl, rfl⟩
 ·exact ⟨t, rfl⟩
 ·exact ⟨t, rfl⟩
theorem KV.at {κ : Type} {kvs : List (κ × V)} {vs : List (κ × Value)} (r : KV kvs vs) {i : Nat} {kv : κ × V} (h : kvs[i]? = some kv) : ∃ v, vs[i]? = some (kv.1, v) := by
 unfold KV at r
 induction r generalizing i with
 | nil => cases i <;> cases h
 | @cons p q ps qs hq t ih =>
  cases i with
  | zero =>
   have e : p = kv := Option.some.inj h
   subst e
   exact ⟨q.2, by show some q = some (p.1, q.2); rw [hq.1]⟩
  | succ j => exact ih h
end
def Itd (d : Addr) (o : Obj) (kvs : List (Key × V)) : It :=
 ⟨fun i H => H d = some (.frz o (.dK kvs)) /\ i < kvs.length, fun i H x H' => H' = H /\ ∃ kv, kvs[i]? = some kv /\ x = kV kv.1, fun i H => H d = some (.frz o (.dK kvs)) /\ kvs.length <= i⟩
theorem turn_dict {P : Program} {w : World} {K : PySem.W.Frag} {tg : Expr} (d it : Addr) (o : Obj) (kvs : List (Key × V)) {es : Array DictEntry} {ep : Nat} (hdat : o.data = .dict es ep) :
  Turn P w K tg (Itd d o kvs) [it] it (fun i h => h.IsKeyIter it d i kvs.length ep) where
 mem := by simp
 obj := fun i h st b hb => by
  have e : b = it := by simpa using hb
  subst e
  obtain ⟨o, e, c, d⟩ := st
  exact ⟨o, e, fun v z => by rw [d] at z; cases z⟩
 keep := fun i h h' st k => st.at fun o e => k it (by simp) o e
 item := by
  intro X hP hw hK hc i pins s σ H E I hf st hg
  subst hP hw hK
  obtain ⟨hH, hi⟩ := hg
  obtain ⟨ho, z, hsys, vs, rel, ob, es', ep', hob, r1, r2, r3⟩ := (show ObjOk X.prog X.w H s.heap d (.frz o (.dK kvs)) from I.hok d _ hH)
  rw [ho] at hob
  cases hob
  rw [hdat] at r2
  cases r2
  have hvl : kvs.length = vs.length := rel.length
  have hkv : kvs[i]? = some kvs[i] := List.getElem?_eq_getElem hi
  obtain ⟨v, hv⟩ := rel.at hkv
  obtain ⟨f0, f1, f2, f3, f4, f5⟩ := hf it (by simp)
  have hat : s.heap.DictAt (mixKind X.prog X.w) d vs ep := ⟨o, es, ho, r1, hdat, r3⟩
  rw [hvl] at st
  refine wpAny_pyNext_dict_item st hat hv fun key h' hkey st' sb => ?_
  rw [<- hvl] at st'
  have I1 : Inv X pins σ H { s with heap := h' } := I.turned (t' := s.toks) (fun b o hb e => (sb.2 b hb).trans e) f0 f1 f3 f4 f5
  obtain ⟨o', e', c', d'⟩ := id st'
  exact ⟨key, rfl, go_of (s := { s with heap := h' }) e' c' d' (by decide) ⟨kV kvs[i].1, H, I1, relV_of_is hkey, ⟨rfl, kvs[i], hkv, rfl⟩, st', fun b hb => (hf b hb).1⟩⟩
 done := by
  intro X hP hw hK hc i pins s σ H E I hf st hg
  subst hP hw hK
  obtain ⟨hH, hi⟩ := hg
  obtain ⟨ho, z, hsys, vs, rel, ob, es', ep', hob, r1, r2, r3⟩ := (show ObjOk X.prog X.w H s.heap d (.frz o (.dK kvs)) from I.hok d _ hH)
  rw [ho] at hob
  cases hob
  rw [hdat] at r2
  cases r2
  have hvl : kvs.length = vs.length := rel.length
  obtain ⟨f0, f1, f2, f3, f4, f5⟩ := hf it (by simp)
  have hat : s.heap.DictAt (mixKind X.prog X.w) d vs ep := ⟨o, es, ho, r1, hdat, r3⟩
  rw [hvl] at st
  exact wpAny_pyNext_dict_end (I.ok.hd hc) st hat (List.getElem?_eq_none (by omega)) fun h' eb => ⟨rfl, I.turned (t' := s.toks) (fun b o hb e => eb b o hb e) f0 f1 f3 f4 f5⟩
 self := fun _ _ _ _ _ st h => wpAny_pyIter_keyiter st h
def iDict (td : TE) : TI := fun σ H R => td σ H fun x H1 => ∃ a kvs, x = .ref a /\ H1 a = some (.dK kvs) /\ ∀ o, R (Itd a o kvs) (upd H1 a (.frz o (.dK kvs)))
theorem pi_dict {X : Cx} {tg l : Expr} {tl : TE} (hl : PE X l tl) : PI X tg l (iDict tl) := by
 intro pins s σ H R I h
 refine thn (hl pins s σ H _ I h) fun v s1 ⟨x, H1, I1, r1, q1⟩ => ?_
 obtain ⟨a, kvs, e, hH, q⟩ := q1
 subst e
 cases r1
 obtain ⟨z, hsys, vs, rel, ob, es, ep, hob, c1, c2, c3⟩ := dk_of I1.hok hH
 have hat : s1.heap.DictAt (mixKind X.prog X.w) a vs ep := ⟨ob, es, hob, c1, c2, c3⟩
 have hvl : kvs.length = vs.length := rel.length
 have I2 := I1.freeze hH hob
 refine wpAny_pyIter_dict hsys hat ?_
 refine ⟨s1.heap.objs.size, [s1.heap.objs.size], _, Itd a ob kvs, _, rfl, I2.kept (t' := s1.toks) fun b o e => Heap.get?_push_of_some _ e, turn_dict a _ ob kvs c2, ⟨_, Heap.get?_push_size _ rfl, rfl, by rw [hvl]; rfl⟩, fun b hb => ?_, q ob⟩
 have e : b = s1.heap.objs.size := by simpa using hb
 subst e
 exact I2.fpOk (Nat.le_refl _) (I2.hok.fresh (Nat.le_refl _))
theorem for_dict {d : Addr} {o : Obj} {kvs : List (Key × V)} {g : TG} {tb : TS} {D : Ends} {σ : St} {H : Hp} (Pv : Nat -> St -> Hp -> Prop) (h0 : Pv 0 σ H) (hl : ∀ i σ H, i <= kvs.length -> Pv i σ H -> H d = some (.frz o (.dK kvs)))
  (hs : ∀ i kv σ H, kvs[i]? = some kv -> Pv i σ H -> g (kV kv.1) σ H fun σ2 H2 => tb { D with nx := Pv (i + 1), ct := Pv (i + 1), bk := D.nx } σ2 H2) (hd : ∀ σ H, Pv kvs.length σ H -> D.nx σ H) :
  ∃ W : Nat -> Nat -> St -> Hp -> Prop, (∃ m, W 0 m σ H) /\ ∀ i m σ H, W i m σ H ->
   ((Itd d o kvs).stop i H /\ D.nx σ H) \/ ((Itd d o kvs).go i H /\ ∃ N : St -> Hp -> Prop, (∀ σ' H', N σ' H' -> ∃ m', m' < m /\ W (i + 1) m' σ' H') /\ ∀ x H', (Itd d o kvs).yld i H x H' -> g x σ H' fun σ2 H2 => tb { D with nx := N, ct := N, bk := D.nx } σ2 H2) := by
 refine ⟨fun i m σ H => m = kvs.length - i /\ i <= kvs.length /\ Pv i σ H, ⟨kvs.length, by simp, Nat.zero_le _, h0⟩, ?_⟩
 rintro i m σ H ⟨rfl, hi, p⟩
 have q := hl i σ H hi p
 by_cases hlt : i < kvs.length
 ·refine .inr ⟨⟨q, hlt⟩, Pv (i + 1), fun σ' H' p' => ⟨kvs.length - (i + 1), by omega, rfl, hlt, p'⟩, fun x H' y => ?_⟩
  obtain ⟨rfl, kv, hkv, rfl⟩ := y
  exact hs i kv σ _ hkv p
 ·have e : i = kvs.length := by omega
  subst e
  exact .inl ⟨⟨q, Nat.le_refl _⟩, hd σ H p⟩
section
variable {X : Cx}
def rSetD : V -> List V -> Hp -> VK -> Prop := fun x vs H Q => ∃ d kvs k y, x = .ref d /\ vs = [kV k, y] /\ H d = some (.dK kvs) /\ kvs.length < sizeLine /\ (∀ v, valV kvs k = some v -> Q v H) /\ (valV kvs k = none -> Q y (upd H d (.dK (putK kvs k y))))
theorem mt_setd : MtM X "dict.setdefault" rSetD := by
 intro pins s σ H x vs v us Q I rx rv h
 obtain ⟨d, kvs, k, y, rfl, rfl, hH, hz, q1, q2⟩ := h
 cases rx
 obtain ⟨u, w', rfl, ru, rw'⟩ := rv.two
 obtain ⟨z, hd, vs, rel, dd⟩ := dk_of I.hok hH
 refine call_meetsIn PySem.F.slot_dict_setdefault dd.typeIs PySem.F.entry_dict_setdefault (PySem.F.args_dict_setdefault_3 _ _ _) (kt_meets_setdefault (mixKind X.prog X.w) d (kV_is ru) hd w')
  ⟨vs, dd, by rw [<- rel.length]; exact z, fun v hv => ?_, fun hn h' dd' hs => ?_⟩
 ·have r := rel.val k
  rw [hv] at r
  cases l : valV kvs k with
  | none => rw [l] at r; exact (show False from r).elim
  | some v' =>
   rw [l] at r
   exact ⟨v', H, I.tok _, r, q1 v' l⟩
 ·have l : valV kvs k = none := by
   have r := rel.val k
   rw [hn] at r
   cases l : valV kvs k with
   | none => rfl
   | some v' => rw [l] at r; exact (show False from r).elim
  have he : ∃ q, h'.get? d = some q := let ⟨q, _, _, hq, _⟩ := dd'; ⟨q, hq⟩
  have hl : (putK kvs k y).length <= sizeLine := by have := length_putK kvs k y; omega
  exact ⟨y, _, d_write I (by rw [hH]; exact True.intro) hs he (dk_new hl hd (rel.put k rw') dd'), rw', q2 l⟩
def rDGetD : V -> List V -> Hp -> VK -> Prop := fun x vs H Q => ∃ d y z o, x = .ref d /\ vs = [y, z] /\ DGet H d y o /\ Q (o.getD z) H
theorem mt_dgetD (hu : X.A.units + 1 < cLine) : MtM X "dict.get" rDGetD := by
 intro pins s σ H x vs v us Q I rx rv h
 obtain ⟨d, y, z, o, rfl, rfl, g, q⟩ := h
 cases rx
 obtain ⟨u, w', rfl, ru, rw'⟩ := rv.two
 exact d_get2 hu I g ru rw' fun w2 s3 I3 r3 => ⟨_, H, I3, r3, q⟩
theorem tyD {K : PySem.W.Frag} {H : Hp} {d : Addr} {kvs : List (Key × V)} (h : H d = some (.dK kvs)) : tyV K "dict" (.ref d) H := .inr (.inr (.inl ⟨rfl, .inl ⟨kvs, h⟩⟩))
theorem strsAreOf : ∀ {vs : List Value} {ss : List Str}, vs.length = ss.length -> (∀ (j : Nat) (v : Value), vs[j]? = some v -> ∃ x t, ss[j]? = some x /\ v = .str x t) -> StrsAre vs ss
 | [], [], _, _ => .nil
 | [], _ :: _, e, _ => by cases e
 | _ :: _, [], e, _ => by cases e
 | v :: vs, x :: ss, e, h => by
  obtain ⟨x', t, h1, rfl⟩ := h 0 v rfl
  cases h1
  exact .cons x t (strsAreOf (Nat.succ.inj e) fun j v hj => h (j + 1) v hj)
theorem vals_strs : ∀ {vs : List Value} {ss : List Str}, StrsAre vs ss -> Vals (ss.map V.str) vs
 | _, _, .nil => .nil
 | _, _, .cons x t h => .cons ⟨t, rfl⟩ (vals_strs h)
theorem call_sortedD (hc : X.calm = true) : CallR X (.builtin "sorted") (fun xs H Q => ∃ (d : Addr) (kvs : List (Key × V)) (ss : List Str), xs = [.ref d] /\ Rd H d (.dK kvs) /\ kvs.map (·.1) = ss.map Sum.inr /\ ss.length < 64 /\
  ∀ (l : Addr) (ts : List Str), H l = none -> ts.Perm ss -> sortedS ts = true -> Q (.ref l) (upd H l (.lst (ts.map V.str)))) := by
 intro pins s σ H xs us Q I r h
 obtain ⟨d, kvs, ss, rfl, hq, hk, h64, q⟩ := h
 obtain ⟨u, rfl, rx⟩ := vals1 r
 cases rx
 obtain ⟨z, hsys, vs, rel, dd⟩ := dk_rd I.hok hq
 obtain ⟨ep, hat⟩ := dd.dictAt
 have hkl : kvs.length = ss.length := by
  have := congrArg List.length hk
  rwa [List.length_map, List.length_map] at this
 refine Calls.call_function_entry kind_sorted plain_sorted entry_sorted (args_sorted1 _) ?_
 unfold Builtin.«sorted»
 refine wpAny_bind (m := checkCount "sorted" 1 1 _) (wpAny_pure ?_)
 refine wpAny_bind (PySem.W.kdu_collect (A := X.A.in1) (PySem.W.kdl_dict (knd := mixKind X.prog X.w) (kvs := vs) (ep := ep) hsys) (I.ok.hd hc) hat (by rw [<- rel.length]; exact z) fun h' tk acc hkeep hacc => ?_)
 have hl : acc.toList.length = vs.length := by rw [Array.length_toList]; exact hacc.1
 have hS : StrsAre acc.toList ss := by
  refine strsAreOf (by rw [hl, <- rel.length, hkl]) fun j v hj => ?_
  obtain ⟨k, x, hx, hkey⟩ := hacc.2 j v (by rw [<- Array.getElem?_toList]; exact hj)
  have hkj : (kvs.map (·.1))[j]? = some k := by rw [rel.keys, List.getElem?_map, hx]; rfl
  rw [hk, List.getElem?_map] at hkj
  cases hs : ss[j]? with
  | none => rw [hs] at hkj; cases hkj
  | some y =>
   rw [hs] at hkj
   have e : Sum.inr y = k := Option.some.inj hkj
   subst e
   obtain ⟨t, rfl⟩ := (relV_of_is hkey : RelV (kV (Sum.inr y)) v)
   exact ⟨y, t, rfl, rfl⟩
 have hll : acc.toList.length < 64 := by rw [hl, <- rel.length, hkl]; exact h64
 have hsz : (sizeLine : Nat) = 16777216 := sizeLine_eq
 refine wpAny_bind (wpAny_newList ?_ (by omega))
 have hoL : (h'.push (seqObj "list" acc.toList.toArray 0)).get? h'.objs.size = some (seqObj "list" acc.toList.toArray 0) := Heap.get?_push_size _ rfl
 show wpAny _ _ _ _ _ { s with heap := h'.push (seqObj "list" acc.toList.toArray 0), toks := tk }
 refine wpAny_bind (wpAny_holding (wpAny_call_entry slot_list_sort ⟨_, hoL, rfl⟩ entry_list_sort (list_sort_treeK strKind_oneLt hoL hS.keysOf (fun v₁ v₂ rest e => keyKind_strs (by rw [<- e]; exact hS)) hll fun st' a1 a2 => ⟨_, rfl, ?_⟩) (args_list_sort _)))
 obtain ⟨ts, b1, b2, b3⟩ := sorted_out_str hS a1 a2
 obtain ⟨e, he⟩ := sortedHeap_at (out := (arrOf st').map (·.2)) hoL
 have I1 : Inv X pins σ H { s with heap := h', toks := tk } := I.kept (t' := tk) hkeep
 refine wpAny_pure ⟨_, rfl, .ref h'.objs.size, _, I1.laid (t' := tk) (fun b o hb => ?_) (Nat.le_refl _) (show ObjOk X.prog X.w _ _ _ (.lst (ts.map V.str)) from ⟨by rw [List.length_map, b2.length_eq]; omega, _, e, vals_strs b1, by rw [he]⟩), rfl, q _ ts (I1.hok.fresh (Nat.le_refl _)) b2 b3⟩
 rw [sortedHeap_old (Nat.ne_of_lt (Heap.lt_size hb)) (by rw [size_push']; exact Nat.lt_succ_of_lt (Heap.lt_size hb))]
 exact Heap.get?_push_of_some _ hb
end
section
variable {X : Cx}
theorem mt_starts : MtR X "str.startswith" (fun x xs H Q => ∃ z y, x = .str z /\ xs = [.str y] /\ Q (.bl (Txt.startswith z y)) H) := by
 intro pins s σ H x xs v us Q I rx rs h
 obtain ⟨z, y, rfl, rfl, q⟩ := h
 obtain ⟨t, rfl⟩ := rx
 obtain ⟨u, rfl, t', rfl⟩ := vals1 rs
 exact SC.startswith ⟨.bl _, H, I, rfl, q⟩
theorem range_any (bs : List Bool) : ((List.range bs.length).any fun i => (bs[i]?).getD false) = bs.any id := by
 rw [Bool.eq_iff_iff, List.any_eq_true, List.any_eq_true]
 constructor
 ·rintro ⟨i, hi, e⟩
  have hi' := List.mem_range.mp hi
  rw [List.getElem?_eq_getElem hi', Option.getD_some] at e
  exact ⟨_, List.getElem_mem hi', e⟩
 ·rintro ⟨b, hb, e⟩
  obtain ⟨i, hi, e2⟩ := List.getElem_of_mem hb
  refine ⟨i, List.mem_range.mpr hi, ?_⟩
  rw [List.getElem?_eq_getElem hi, Option.getD_some, e2]
  exact e
theorem call_any_bools (hc : X.calm = true) : CallR X (.builtin "any") (fun xs H Q => ∃ (p : Addr) (bs : List Bool), xs = [.ref p] /\ SqL X.K H p (bs.map V.bl) /\ Q (.bl (bs.any id)) H) := by
 intro pins s σ H xs us Q I r h
 obtain ⟨p, bs, rfl, hq, q⟩ := h
 obtain ⟨u, rfl, rx⟩ := vals1 r
 cases rx
 obtain ⟨its, rv, pl, hz⟩ := I.list hq
 have hl := pl.isList
 have hlen := rv.length
 rw [List.length_map] at hlen
 have hlt : p < s.heap.objs.size := by obtain ⟨_, e, _⟩ := hl; exact Heap.lt_size e
 refine call_any_walk (wpAny_pyIter_list hl ?_)
 refine ⟨s.heap.objs.size, [s.heap.objs.size, p], [s.heap.objs.size], its.toArray.size, _, _, fun i => (bs[i]?).getD false, rfl, Walks.list (A := X.A.in1) (I.ok.hd hc) _ p (Nat.ne_of_lt hlt) its.toArray,
  ⟨⟨_, Heap.get?_push_size _ rfl, rfl, rfl⟩, hl.push _⟩, fun i v s' Q' E' hP hQ => ?_, fun h' tk hk => ?_⟩
 ·obtain ⟨b, e, rfl⟩ := boolsAre_get rv i v (by simpa using hP)
  simp only [e, Option.getD_some] at hQ
  exact wpAny_truthy_bool hQ
 ·have e : ((List.range its.toArray.size).any fun i => (bs[i]?).getD false) = bs.any id := by
   rw [List.size_toArray, <- hlen]; exact range_any bs
  rw [e]
  exact ⟨.bl _, H, I.kept (LSm.kept_iter hk), rfl, q⟩
theorem natsAre_get : ∀ {ns : List Nat} {us : List Value}, Vals (ns.map fun (n : Nat) => V.int (n : Int)) us -> ∀ (i : Nat) (v : Value), us[i]? = some v -> ∃ n t, ns[i]? = some n /\ v = .int (n : Int) t
 | [], _, .nil, i, v, h => by simp at h
 | b :: bs, _, .cons r t, 0, v, h => by
  obtain ⟨k, r'⟩ := (show ∃ k, _ = Value.int (b : Int) k from r)
  subst r'
  simp at h
  exact ⟨b, k, by simp, h.symm⟩
 | b :: bs, _, .cons r t, i + 1, v, h => by
  obtain ⟨c, k, e1, e2⟩ := natsAre_get t i v (by simpa using h)
  exact ⟨c, k, by simpa using e1, e2⟩
theorem preSum_take (ns : List Nat) : ∀ k, k <= ns.length -> preSum (fun i => (((ns[i]?).getD 0 : Nat) : Int)) k = ((ns.take k).sum : Nat)
 | 0, _ => rfl
 | k + 1, h => by
  show preSum _ k + (((ns[k]?).getD 0 : Nat) : Int) = _
  rw [preSum_take ns k (by omega), List.take_add_one, List.sum_append, List.getElem?_eq_getElem (show k < ns.length by omega)]
  simp
theorem sum_take_le (ns : List Nat) (k : Nat) : (ns.take k).sum <= ns.sum := by
 have := congrArg List.sum (List.take_append_drop k ns)
 rw [List.sum_append] at this
 omega
theorem mem_sum_le : ∀ {ns : List Nat} {n : Nat}, n ∈ ns -> n <= ns.sum
 | m :: r, n, h => by
  rw [List.sum_cons]
  rcases List.mem_cons.mp h with e | e
  ·omega
  ·have := mem_sum_le e
   omega
theorem call_sumN (hc : X.calm = true) : CallR X (.builtin "sum") (fun xs H Q => ∃ (p : Addr) (ns : List Nat), xs = [.ref p] /\ SqL X.K H p (ns.map fun (n : Nat) => V.int (n : Int)) /\ ns.sum <= 1000000 /\ Q (.int ((ns.sum : Nat) : Int)) H) := by
 intro pins s σ H xs us Q I r h
 obtain ⟨p, ns, rfl, hq, hS, q⟩ := h
 obtain ⟨u, rfl, rx⟩ := vals1 r
 cases rx
 obtain ⟨its, rv, pl, hz⟩ := I.list hq
 have hl := pl.isList
 have hlen := rv.length
 rw [List.length_map] at hlen
 have hlt : p < s.heap.objs.size := by obtain ⟨_, e, _⟩ := hl; exact Heap.lt_size e
 refine call_sum_walk (wpAny_pyIter_list hl ?_)
 refine ⟨s.heap.objs.size, [s.heap.objs.size, p], [s.heap.objs.size], its.toArray.size, _, _, fun i => (((ns[i]?).getD 0 : Nat) : Int), rfl, Walks.list (A := X.A.in1) (I.ok.hd hc) _ p (Nat.ne_of_lt hlt) its.toArray,
  ⟨⟨_, Heap.get?_push_size _ rfl, rfl, rfl⟩, hl.push _⟩, fun b hb => ?_, fun i v hP => ?_, fun j hj => ?_, fun h' tk t' hk => ?_⟩
 ·have e : ∀ o, (s.heap.push o).objs.size = s.heap.objs.size + 1 := fun o => by show (s.heap.objs.push o).size = _; simp
  show b < (s.heap.push _).objs.size
  rw [e]
  rcases List.mem_cons.mp hb with z | z
  ·rw [z]; exact Nat.lt_succ_self _
  ·rw [List.mem_singleton.mp z]; exact Nat.lt_succ_of_lt hlt
 ·obtain ⟨n, t, e, rfl⟩ := natsAre_get rv i v (by simpa using hP)
  refine ⟨t, ?_⟩
  show Value.int (n : Int) t = Value.int (((ns[i]?).getD 0 : Nat) : Int) t
  rw [e]
  rfl
 ·have hj' : j < ns.length := by rw [List.size_toArray] at hj; omega
  refine ⟨?_, ?_⟩
  ·show InLong (((ns[j]?).getD 0 : Nat) : Int)
   rw [List.getElem?_eq_getElem hj', Option.getD_some]
   have := mem_sum_le (List.getElem_mem hj')
   exact ⟨by omega, by omega⟩
  ·rw [preSum_take ns (j + 1) (by omega)]
   have := sum_take_le ns (j + 1)
   exact ⟨by omega, by omega⟩
 ·rw [List.size_toArray, <- hlen, preSum_take ns _ (Nat.le_refl _), List.take_of_length_le (Nat.le_refl _)]
  exact ⟨.int _, H, I.kept (LSm.kept_iter hk), ⟨t', rfl⟩, q⟩
end
def Irv (K : PySem.W.Frag) (a : Addr) (xs : List V) : It := ⟨fun i H => SqL K H a xs /\ i < xs.length, fun i H v H' => H' = H /\ xs.reverse[i]? = some v, fun i H => i = xs.length⟩
theorem turn_rev {P : Program} {w : World} {K : PySem.W.Frag} {tg : Expr} (a it : Addr) (xs : List V) : Turn P w K tg (Irv K a xs) [it] it (fun i h => i <= xs.length /\ h.IsRevIter it a ((xs.length : Int) - 1 - (i : Int))) where
 mem := by simp
 obj := fun i h st b hb => by
  have e : b = it := by simpa using hb
  subst e
  obtain ⟨_, o, e, c, d⟩ := st
  exact ⟨o, e, fun v z => by rw [d] at z; cases z⟩
 keep := fun i h h' st k => ⟨st.1, st.2.at fun o e => k it (by simp) o e⟩
 item := by
  intro X hP hw hK hc i pins s σ H E I hf st hg
  subst hP hw hK
  obtain ⟨hq, hi⟩ := hg
  obtain ⟨its, rv, p, hz⟩ := I.list hq
  have hl := rv.length
  have hx : xs[xs.length - 1 - i]? = some (xs[xs.length - 1 - i]'(by omega)) := List.getElem?_eq_getElem (by omega)
  obtain ⟨u, hu, ru⟩ := rv.get hx
  obtain ⟨f0, f1, f2, f3, f4, f5⟩ := hf it (by simp)
  have hit := st.2
  rw [show (xs.length : Int) - 1 - (i : Int) = ((xs.length - 1 - i : Nat) : Int) by omega] at hit
  refine wpAny_pyNext_rev_item hit p.isList (x := u) (by simpa using hu) fun h' st' sb => ?_
  have I1 : Inv X pins σ H { s with heap := h' } := I.turned (t' := s.toks) (fun b o hb e => (sb.2 b hb).trans e) f0 f1 f3 f4 f5
  obtain ⟨o, e, c, d⟩ := id st'
  rw [show ((xs.length - 1 - i : Nat) : Int) - 1 = (xs.length : Int) - 1 - ((i + 1 : Nat) : Int) by omega] at st'
  refine ⟨u, rfl, go_of (s := { s with heap := h' }) e c d (by decide) ⟨_, H, I1, ru, ⟨rfl, ?_⟩, ⟨hi, st'⟩, fun b hb => (hf b hb).1⟩⟩
  rw [List.getElem?_reverse hi]
  exact hx
 done := by
  intro X hP hw hK hc i pins s σ H E I hf st hg
  subst hP hw hK
  have hg' : i = xs.length := hg
  subst hg'
  obtain ⟨f0, f1, f2, f3, f4, f5⟩ := hf it (by simp)
  have hit := st.2
  rw [show (xs.length : Int) - 1 - (xs.length : Int) = -1 by omega] at hit
  exact wpAny_pyNext_rev_end (I.ok.hd hc) hit fun h' eb => ⟨rfl, I.turned (t' := s.toks) (fun b o hb e => eb b o hb e) f0 f1 f3 f4 f5⟩
 self := fun _ _ _ _ _ st h => wpAny_pyIter_revIter st.2 h
def iRev (K : PySem.W.Frag) (ta : TA) : TI := fun σ H R => ta σ H fun vs H1 => ∃ (a : Addr) (xs : List V), vs = [.ref a] /\ SqL K H1 a xs /\ R (Irv K a xs) H1
section
variable {X : Cx}
theorem pi_rev {tg : Expr} {p pos : Pos} {a : Expr} {ta : TA} (hg : Gl X "reversed") (hm : X.mg "reversed" = none) (ha : PA X [a] ta) (hs : starEach [a] X.env = [(false, eval a X.env)] := by rfl) :
  PI X tg (.Call (.Name "reversed" p) [a] [] pos) (iRev X.K ta) := by
 intro pins s σ H R I h
 refine Call_ (ld_blt I hg hm boot_reversed (PyProof.Rows.callWith_type1 (thn (ha pos pins s σ H _ I h) fun us s1 ⟨vs, H1, I1, r1, q1⟩ => ?_) hs rfl))
 obtain ⟨l, xs, e, hH, q⟩ := q1
 subst e
 obtain ⟨u, rfl, ru⟩ := vals1 r1
 cases ru
 obtain ⟨its, rv, pl, hz⟩ := I1.list hH
 have hl := rv.length
 refine call_reversed_list pl.isList ?_
 have e : ((its.toArray.size : Nat) : Int) - 1 = (xs.length : Int) - 1 - ((0 : Nat) : Int) := by rw [List.size_toArray]; omega
 rw [e]
 have hit : (s1.heap.push (revObj l ((xs.length : Int) - 1 - ((0 : Nat) : Int)))).IsRevIter s1.heap.objs.size l ((xs.length : Int) - 1 - ((0 : Nat) : Int)) := ⟨_, Heap.get?_push_size _ rfl, rfl, rfl⟩
 refine wpAny_pyIter_revIter hit ?_
 refine ⟨s1.heap.objs.size, [s1.heap.objs.size], _, _, H1, rfl, I1.kept (t' := s1.toks) fun b o e => Heap.get?_push_of_some _ e, turn_rev l _ xs, ⟨Nat.zero_le _, hit⟩, fun b hb => ?_, q⟩
 have e : b = s1.heap.objs.size := by simpa using hb
 subst e
 exact I1.fpOk (Nat.le_refl _) (I1.hok.fresh (Nat.le_refl _))
end
theorem comp_irv {K : PySem.W.Frag} {a : Addr} {xs : List V} {g : TG} {tc : TT} {te : TE} {σ0 : St} {H : Hp} {Q : VK} (Pv : Nat -> List V -> Hp -> Prop) (hz : xs.length < sizeLine) (hl : ∀ i ys H, Pv i ys H -> SqL K H a xs) (h0 : Pv 0 [] H)
  (hs : ∀ i x ys H (N : List V -> Hp -> Prop), xs.reverse[i]? = some x -> Pv i ys H -> (∀ ys' H2, Pv (i + 1) ys' H2 -> N ys' H2) ->
   g x σ0 H fun σ2 H2 => tc σ2 H2 fun b H3 => if b = true then te σ2 H3 fun y H4 => N (ys ++ [y]) H4 else N ys H3)
  (hd : ∀ ys H, Pv xs.length ys H -> ys.length <= xs.length -> ∀ p, H p = none -> Q (.ref p) (upd H p (.lst ys))) : CompR (Irv K a xs) g tc te σ0 Q H := comp_by xs.length Pv hz
 (fun i ys H hi p => ⟨hl i ys H p, hi⟩) (fun ys H p => rfl) h0
 (fun i ys H v H' N hi p y hN => by
  obtain ⟨e, y⟩ := y
  subst e
  exact hs i v ys _ N y p hN) hd
section
variable {X : Cx} {o e : Expr} {es : List Expr} {to : TE} {t : TA} {name : Str} {apos cpos : Pos} {T id : String} {r : V -> List V -> Hp -> VK -> Prop}
theorem pe_bmK {K : PySem.W.Frag} (hK : X.K = K) (pa : PlainAttrs T) (slot : Slot T name id) (hty : typeOf (.builtin id) = pure (.type "method_descriptor")) (hm : MtR X id r) (ho : PE X o to) (ha : PA X (e :: es) t)
  (hbase : attributeBase o name X.env (eval o X.env) = eval o X.env := by rfl)
  (hfew : ((backTo cpos (starEach (e :: es) X.env)).all (fun x => !x.1) && (backToKw cpos (keywordEach [] X.env)).all (fun x => x.1.isSome)
   && decide ((e :: es).length + ([] : List Keyword).length + (if ([] : List Keyword).isEmpty then 0 else 1) < 30)) = true := by rfl)
  (hline : (apos.endLine == cpos.line) = true := by rfl) (hs : starEach (e :: es) X.env = (false, eval e X.env) :: starEach es X.env := by rfl) (hplain : (backTo cpos (starEach es X.env)).any (·.1) = false := by rfl) :
  PE X (.Call (.Attribute o name apos) (e :: es) [] cpos) (tBM K T r to t) := by
 subst hK
 exact pe_bm pa slot hty hm ho ha hbase hfew hline hs hplain
end
end L2
namespace Gn
open PySem L2 PyProof.Rows PySem.Spec
section
variable {P : Program} {w : World} {K : PySem.W.Frag} {mg : Str -> Option Value} {base h : Heap}
def isStrV : V -> Bool
 | .str _ => true
 | _ => false
def isIntV : V -> Bool
 | .int _ => true
 | .bl _ => true
 | _ => false
def isBlV : V -> Bool
 | .bl _ => true
 | _ => false
def Known (K : PySem.W.Frag) (H : Hp) (x : V) : Prop := ∃ n, TyOf K H x (.type n)
theorem kit_str {K : PySem.W.Frag} {H : Hp} {x : V} {n : String} (h : TyOf K H x (.type n)) : PySem.W.kitOne K (.type n) (.type "str") = some (isStrV x) := by
 cases h <;> kernel_rfl
theorem kit_int {K : PySem.W.Frag} {H : Hp} {x : V} {n : String} (h : TyOf K H x (.type n)) : PySem.W.kitOne K (.type n) (.type "int") = some (isIntV x) := by
 cases h <;> kernel_rfl
theorem kit_bool {K : PySem.W.Frag} {H : Hp} {x : V} {n : String} (h : TyOf K H x (.type n)) : PySem.W.kitOne K (.type n) (.type "bool") = some (isBlV x) := by
 cases h <;> kernel_rfl
theorem Known.same {K : PySem.W.Frag} {H H' : Hp} {x : V} (h : Known K H x) (e : Same H H') : Known K H' x := by
 obtain ⟨n, h⟩ := h
 cases h with
 | non => exact ⟨_, .non⟩
 | bl b => exact ⟨_, .bl b⟩
 | int i => exact ⟨_, .int i⟩
 | str z => exact ⟨_, .str z⟩
 | flt z => exact ⟨_, .flt z⟩
 | lst q => exact ⟨_, .lst (e _ _ q)⟩
 | frz q => exact ⟨_, .frz (e _ _ q)⟩
 | tup q => exact ⟨_, .tup (e _ _ q)⟩
 | dK q => exact ⟨_, .dK (e _ _ q)⟩
 | dT q => exact ⟨_, .dT (e _ _ q)⟩
theorem same_upd {H : Hp} {a : Addr} {o : HO} (h : H a = none) : Same H (upd H a o) := fun b u e => by rw [upd_ne (ne_of_none e h)]; exact e
theorem Same.upd {H H' : Hp} {a : Addr} {o : HO} (s : Same H H') (h : H' a = none) : Same H (upd H' a o) := s.trans (same_upd h)
structure Df (K : PySem.W.Frag) (mg : Str -> Option Value) (x : Str) (st : Stmt) (f : Addr) (fd : FuncData) : Prop where
 F : Fun K x x st f fd
 m : mg x = some (.ref f)
theorem b_isi : bootBuiltins "isinstance" = some (.builtin "isinstance") := by decide +kernel
theorem b_int : bootBuiltins "int" = some (.type "int") := by decide +kernel
theorem b_bool : bootBuiltins "bool" = some (.type "bool") := by decide +kernel
theorem b_str : bootBuiltins "str" = some (.type "str") := by decide +kernel
theorem b_list : bootBuiltins "list" = some (.type "list") := by decide +kernel
theorem b_tuple : bootBuiltins "tuple" = some (.type "tuple") := by decide +kernel
theorem b_len : bootBuiltins "len" = some (.builtin "len") := by decide +kernel
theorem b_all : bootBuiltins "all" = some (.builtin "all") := by decide +kernel
theorem binds1 {x p : Str} {st : Stmt} {f : Addr} {fd : FuncData} (F : Fun K x x st f fd)
  (h : ∀ (kV doc pm : Value) (an : Option Addr) (cdv ct : Value) (u : Value), bindArgs (PySem.W.fnOf x x (defArgs st) (defBody st) (defScope st) .none kV doc pm an cdv ct) ⟨[u], []⟩ = pure ([p].zip [u])) : Binds K fd [p] [] :=
 F.binds fun kV doc pm an cdv ct us hl => match us, hl with | [u], _ => h kV doc pm an cdv ct u
theorem g1 {i : Nat} {v : V} {σ : L2.St} {H : Hp} {te : TE} {M : V -> Hp -> Prop} {N0 : Hp -> Prop} (h : te (σ.set i (some v)) H M) : gName i v σ H fun σ2 H2 => tNoIf σ2 H2 fun b H3 => if b = true then te σ2 H3 M else N0 H3 := by
 show if true = true then te (σ.set i (some v)) H M else N0 H
 exact iteT h
structure Ex (K : PySem.W.Frag) (mg : Str -> Option Value) (x : Str) (C : Addr) : Prop where
 m : mg x = some (.ref C)
 q : PySem.W.excIn K C [.type "ValueError", .type "Exception", .type "BaseException", .type "object"] "ValueError.__new__" = true
structure DfD (K : PySem.W.Frag) (mg : Str -> Option Value) (x : Str) (st : Stmt) (f : Addr) (fd : FuncData) (items : Array Value) : Prop where
 ex : ∃ (oc : Value) (od : Option Addr) (kV doc pm : Value) (an : Option Addr) (cdv ct : Value) (osl : Array (Option Value)) (T : Addr) (o : Obj) (n : Nat),
  fd = PySem.W.fnOf x x (defArgs st) (defBody st) (defScope st) (.ref T) kV doc pm an cdv ct /\ K.lookup f = some ⟨oc, od, .func fd, osl⟩ /\ PySem.W.codeIn K cdv x = true /\ K.lookup T = some o /\ o.data = .seq items n
 kp : PySem.W.keepIn K (.ref f) = true
 m : mg x = some (.ref f)
theorem DfD.ok1 {x : Str} {st : Stmt} {f : Addr} {fd : FuncData} {items : Array Value} {N ps : List Str} {k : Nat} {sp : Sp} (F : DfD K mg x st f fd items) (S : FnScope N ps (defScope st)) (len : ∀ vs H Q E, sp vs H Q E -> vs.length = ps.length)
  (hbody : ∀ (cdv : Value) (A : Around) (outer : List Env) (s : Shared) (H : Hp) (vs : List V) (Q : VK) (E : XK), Room k (A.deeper (envOfC x (defScope st) s.heap.objs.size f cdv)) -> sp vs H Q E ->
   ∃ t, PSs (cxOf (CX1 P w) P w K mg base N x (defScope st) f cdv A outer s H E) (defBody st) t /\ t { nx := fun _ H' => Q .non H', rt := Q } (L2.start N vs) H) : FnOk P w K mg base (CX1 P w) (k + 1) f fd ps sp := by
 obtain ⟨oc, od, kV, doc, pm, an, cdv, ct, osl, T, o, n, rfl, lk, hcd, _⟩ := F.ex
 exact fn_of lk hcd S len fun A outer s H vs Q E hr hsp => hbody cdv A outer s H vs Q E hr hsp
theorem DfD.binds {x : Str} {st : Stmt} {f : Addr} {fd : FuncData} {items : Array Value} {ps : List Str} {ds : List Value} (F : DfD K mg x st f fd items)
  (h : ∀ (T : Addr) (kV doc pm : Value) (an : Option Addr) (cdv ct : Value) (us : List Value), (us ++ ds).length = ps.length -> ∃ k : Option (Array Value) -> Sem (List (Str × Value)),
   bindArgs (PySem.W.fnOf x x (defArgs st) (defBody st) (defScope st) (.ref T) kV doc pm an cdv ct) ⟨us, []⟩ = seqItems? (.ref T) >>= k /\ k (some items) = pure (ps.zip (us ++ ds))) : Binds K fd ps ds := by
 obtain ⟨oc, od, kV, doc, pm, an, cdv, ct, osl, T, o, n, rfl, lk, hcd, lT, hd⟩ := F.ex
 intro s us X hl
 obtain ⟨k, h1, h2⟩ := h T kV doc pm an cdv ct us hl
 exact BindsTo.of_defaults (T := T) rfl (X _ _ lT) hd h1 h2
def goodN (x : V) (least : Int) (most : Option Int) : Bool := match x with
 | .int i => decide (least <= i) && (match most with | none => true | some m => decide (i <= m))
 | _ => false
def mostV : Option Int -> V
 | none => .non
 | some m => .int m
def spNNum (K : PySem.W.Frag) (C : Addr) : Sp := fun vs H Q E => ∃ (x : V) (l : Int) (m : Option Int), vs = [x, .int l, mostV m] /\ Known K H x /\ (goodN x l m = true -> Q x H) /\ (goodN x l m = false -> E (.ref C) none H)
theorem dt_ints {K : PySem.W.Frag} {H : Hp} : ∀ (ns : List Int), DtVs K H (ns.map V.int) (ns.map PyData.int)
 | [] => .nil
 | n :: ns => .cons (.int n) (dt_ints ns)
theorem lay_ints : ∀ (ns : List Int), (PyData.list (ns.map PyData.int)).canLay0 = true := by
 intro ns
 induction ns with
 | nil => rfl
 | cons n ns ih => exact ih
theorem Paired.imp2 {α β : Type} {F G : α -> β -> Prop} : ∀ {l : List α} {m : List β}, Paired F l m -> (∀ a b, F a b -> G a b) -> Paired G l m
 | _, _, .nil, _ => .nil
 | _, _, .cons r t, f => .cons (f _ _ r) (Paired.imp2 t f)
theorem Paired.app {α β : Type} {F : α -> β -> Prop} {a : α} {b : β} : ∀ {l : List α} {m : List β}, Paired F l m -> F a b -> Paired F (l ++ [a]) (m ++ [b])
 | _, _, .nil, h => .cons h .nil
 | _, _, .cons r t, h => .cons r (Paired.app t h)
theorem Paired.len {α β : Type} {F : α -> β -> Prop} : ∀ {l : List α} {m : List β}, Paired F l m -> l.length = m.length
 | _, _, .nil => rfl
 | _, _, .cons _ t => by simp [Paired.len t]
theorem same_app {H0 H : Hp} {a t : Addr} {o o' : HO} (s : Same H0 H) (ha : H0 a = none) (ht : H t = none) : Same H0 (upd (upd H t o) a o') := fun b u e => by
 rw [upd_ne (ne_of_none e ha), upd_ne (ne_of_none (s b u e) ht)]
 exact s b u e
theorem PS.nox {X : Cx} {st : Stmt} {t : TS} (h : PS X.nox st t) : PS X st t := fun pins s σ H D I hw =>
 wpAny_mono (h pins s σ H D (I.wish _) hw) (fun _ _ q => q.unwish) fun _ _ z => False.elim z
theorem nif {te : TE} {σ2 : L2.St} {H2 : Hp} {M : VK} {N0 : Hp -> Prop} (h : te σ2 H2 M) : tNoIf σ2 H2 (fun b H3 => if b = true then te σ2 H3 M else N0 H3) := by
 show if true = true then te σ2 H2 M else N0 H2
 exact iteT h
theorem paired_get {α β : Type} {F : α -> β -> Prop} : ∀ {l : List α} {m : List β}, Paired F l m -> ∀ {i : Nat} {a : α}, l[i]? = some a -> ∃ b, m[i]? = some b /\ F a b
 | _, _, .nil, i, a, h => by simp at h
 | _, _, .cons r t, 0, a, h => by simp at h; subst h; exact ⟨_, rfl, r⟩
 | _, _, .cons r t, i + 1, a, h => by
  obtain ⟨b, h1, h2⟩ := paired_get t (i := i) (a := a) (by simpa using h)
  exact ⟨b, by simpa using h1, h2⟩
theorem mod_ix {r n : Int} (hn : 0 < n) : ∃ j : Nat, (j : Int) = r % n /\ (j : Int) < n := by
 have h1 := Int.emod_nonneg r (show n ≠ 0 by omega)
 have h2 := Int.emod_lt_of_pos r hn
 exact ⟨(r % n).toNat, by omega, by omega⟩
def tIfJ (c : TT) (t u : TS) : TS := fun D σ H => ∃ J : L2.St -> Hp -> Prop, (c σ H fun b H1 => if b = true then t { D with nx := J } σ H1 else u { D with nx := J } σ H1) /\ ∀ σ' H', J σ' H' -> D.nx σ' H'
theorem ps_ifJ {X : Cx} {c : Expr} {a b : List Stmt} {tc : TT} {t u : TS} {pos : Pos} (hc : PT X c tc) (ha : PSs X a t) (hb : PSs X b u) : PS X (.If c a b pos) (tIfJ tc t u) := by
 intro pins s σ H D I h
 obtain ⟨J, h1, h2⟩ := h
 refine thn (ps_if hc ha hb pins s σ H { D with nx := J } I h1) fun f s1 q => ?_
 cases f with
 | next => obtain ⟨σ', H', I', q⟩ := q; exact ⟨σ', H', I', h2 _ _ q⟩
 | brk => exact q
 | cont => exact q
 | ret u => exact q
theorem pickV {xs : List V} {n L : Int} (h0 : 0 < xs.length) (hL : L = (xs.length : Nat)) : ∃ v ∈ xs, atI xs (n % L) = some v := by
 obtain ⟨j, hj, hjl⟩ := mod_ix (r := n) (n := L) (by omega)
 have hj' : j < xs.length := by omega
 refine ⟨xs[j], List.getElem_mem hj', ?_⟩
 rw [<- hj]
 exact atI_nat (List.getElem?_eq_getElem hj')
theorem dec_i {a b : Int} (h : a = b) : decide (V.int a = V.int b) = true := by subst h; exact decide_eq_true rfl
theorem dec_n {a b : Int} (h : a ≠ b) : decide (V.int a = V.int b) = false := decide_eq_false fun z => h (by injection z)
theorem PE.imp {X : Cx} {e : Expr} {t t' : TE} (h : PE X e t) (i : ∀ σ H Q, t' σ H Q -> t σ H Q) : PE X e t' := fun pins s σ H Q I q => h pins s σ H Q I (i σ H Q q)
theorem eqv_same {d : PyData} (h : d.canLay0 = true) : PyData.eqv d d = true := SeqAt.eqv_refl d h
def rIsi (K : PySem.W.Frag) : List V -> Hp -> VK -> Prop := fun xs H Q => ∃ x c t b, xs = [x, c] /\ TyOf K H x t /\
  ((∃ n, c = .ty n /\ PySem.W.kitOne K t (.type n) = some b) \/ (∃ C, c = .ref C /\ PySem.W.kitOne K t (.ref C) = some b)) /\ Q (.bl b) H
theorem call_isiK {X : Cx} {K : PySem.W.Frag} (h : X.K = K) : CallR X (.builtin "isinstance") (rIsi K) := by subst h; exact call_isi
theorem ix_listK {X : Cx} {K : PySem.W.Frag} (h : X.K = K) : IxR X (rIxL K) := by subst h; exact ix_list
theorem ix_tupK {X : Cx} {K : PySem.W.Frag} (h : X.K = K) : IxR X (rIxT K) := by subst h; exact ix_tup
theorem kit_tt {K : PySem.W.Frag} : PySem.W.kitOne K (.type "tuple") (.type "tuple") = some true := by kernel_rfl
theorem kit_ll {K : PySem.W.Frag} : PySem.W.kitOne K (.type "list") (.type "list") = some true := by kernel_rfl
theorem passN {P : Program} {w : World} {X : Cx} : Passes (CX1 P w) X E0 := fun _ _ _ _ _ _ _ h => (CX1.no h).elim
theorem df_mk {x : Str} {st : Stmt} {f : Addr} {oc kV doc pm cd ct : Value} {od an : Option Addr} {sl : Array (Option Value)} (X : K.In h) (G : h.Ns mainGlobals mg) (a : PySem.W.nsIn K mainGlobals x = some (some (.ref f)))
  (l : K.lookup f = some ⟨oc, od, .func (PySem.W.fnOf x x (defArgs st) (defBody st) (defScope st) .none kV doc pm an cd ct), sl⟩) (c : PySem.W.codeIn K cd x = true) (k : PySem.W.keepIn K (.ref f) = true) : ∃ f fd, Df K mg x st f fd :=
 ⟨f, _, fun_mk l c k, PySem.W.mg_of X G a⟩
theorem dfd_mk {x : Str} {st : Stmt} {f T : Addr} {oc kV doc pm cd ct tc : Value} {od an td : Option Addr} {sl tsl : Array (Option Value)} {items : Array Value} {tn : Nat} (X : K.In h) (G : h.Ns mainGlobals mg) (a : PySem.W.nsIn K mainGlobals x = some (some (.ref f)))
  (l : K.lookup f = some ⟨oc, od, .func (PySem.W.fnOf x x (defArgs st) (defBody st) (defScope st) (.ref T) kV doc pm an cd ct), sl⟩) (c : PySem.W.codeIn K cd x = true) (k : PySem.W.keepIn K (.ref f) = true)
  (t : K.lookup T = some ⟨tc, td, .seq items tn, tsl⟩) : ∃ f fd, DfD K mg x st f fd items :=
 ⟨f, _, ⟨oc, od, kV, doc, pm, an, cd, ct, sl, T, _, tn, rfl, l, c, t, rfl⟩, k, PySem.W.mg_of X G a⟩
end
open PySem PySem.W PySem.Calls PyProof.Rows
theorem bits_all : ∀ (ns : List Int) (m : Nat), WData.weightAll (ns.map WData.int) <= m -> ∀ n ∈ ns, Builtin.Int.intBits n <= m
 | [], _, _, _, h => nomatch h
 | i :: ns, m, hw, n, h => by
  have hw' : Builtin.Int.intBits i + 1 + WData.weightAll (ns.map WData.int) <= m := hw
  rcases List.mem_cons.mp h with rfl | h
  ·omega
  ·exact bits_all ns m (by omega) n h
theorem bits_lay {ns : List Int} (h : WData.layableAll [WData.list (ns.map WData.int)] = true) : ∀ n ∈ ns, Builtin.Int.intBits n <= 2 ^ 20 := by
 have h1 : (WData.layable (WData.list (ns.map WData.int)) && true) = true := h
 rw [Bool.and_true] at h1
 have h2 := (Bool.and_eq_true_iff.mp h1).2
 exact bits_all ns _ (of_decide_eq_true h2)
theorem attachB {l : OpenLaw} {n : Nat} {q : Program} {loose : List Str} {XP : (Str -> Option Value) -> Heap -> Prop} {YP : World -> Heap -> Prop} {d : DefRec}
  (hn : l.most = some n) (hdf : d.params.defaults = [])
  (call : ∀ (w : World) (s₀ s₁ : Shared) (mg mb : Str -> Option Value) (fa : Addr) (a : Addr) (vs : List Value) (ns : List Int),
   Ground q loose [] XP w s₀ mg mb s₁.heap -> YP w s₁.heap -> mg d.name = some (.ref fa) ->
   s₁.heap.get? a = some { cls := .type "list", data := .seq vs.toArray } -> IntsAre vs ns -> ns.length <= n -> (∀ i ∈ ns, Builtin.Int.intBits i <= 2 ^ 20) -> s₁.gens = #[] ->
   codeAny (model l.prog w) callerA (.call (.ref fa) ⟨[.ref a], []⟩) (fun r s' => r = .ok (.ret (.bool true)) /\ OldK s₁.heap s'.heap /\ s'.os = s₁.os /\ AllBare s'.gens) s₁) :
  WalkO q loose XP YP l.row.toRowW d [] (fun f vs => PySem.call f vs) := by
 intro w s₀ s₁ mg mb G Y fa o pm cd doc dV kV ho hd hcd hD hmg hg args vals as hpre hlay hrd hwl hlo
 obtain rfl : dV = .none := Dflts.none hD hdf
 obtain rfl : kV = .none := Dflts.noKw hD
 obtain ⟨a, vs, ns, rfl, rfl, hobj, hints, hlen⟩ := Att.script_of hn hpre hwl
 refine enter_call (codeAny_mono (call w s₀ s₁ mg mb fa a vs ns G Y hmg hobj hints hlen (bits_lay hlay) hg) fun r s' hq => ?_)
 obtain ⟨rfl, h2, h3, h4⟩ := hq
 exact ⟨.inl ⟨.bool true, .bool true, [], rfl, fun _ => rfl, .bool true, Att.post_true l _, fun _ => ⟨List.Pairwise.nil, fun _ hm => (nomatch hm)⟩⟩, h2, h3, h4⟩
theorem walkB {l : PySem.W.OpenLaw} {n k : Nat} {q : Program} {loose : List Str} {XP : (Str -> Option Value) -> Heap -> Prop} {YP : World -> Heap -> Prop} {d : DefRec} {K : Params -> PySem.W.Frag} {sp : PySem.W.Frag -> Sp} {x : Str}
  (hn : l.most = some n) (hn2 : n <= sizeLine) (hdf : d.params.defaults = []) (hr : Room k callerA)
  (hY : ∀ (w : World) (h : Heap), YP w h -> (K w.params).In h)
  (F : ∀ (w : World) (mg : Str -> Option Value) (fa : Addr) (h : Heap), (K w.params).In h -> h.Ns mainGlobals mg -> mg d.name = some (.ref fa) ->
   ∃ fd : FuncData, (∀ (s : Shared) (u : Value), BindsTo s fd ⟨[u], []⟩ [(x, u)]) /\
    ∀ base : Heap, (K w.params).In base -> base.Ns mainGlobals mg -> FnOk l.prog w (K w.params) mg base CX0 k fa fd [x] (sp (K w.params)))
  (hsp : ∀ (K : PySem.W.Frag) (H : Hp) (a : Addr) (ns : List Int), ns.length <= n -> (∀ i ∈ ns, Builtin.Int.intBits i <= 2 ^ 20) -> SqL K H a (ns.map V.int) -> sp K [.ref a] H (fun v _ => v = .bl true) fun _ _ _ => False) :
  PySem.W.WalkO q loose XP YP l.row.toRowW d [] (fun f vs => PySem.call f vs) := by
 refine attachB hn hdf fun w s₀ s₁ mg mb fa a vs ns G Y hmg hobj hints hlen hbits hg => ?_
 have KX := hY w _ Y
 obtain ⟨fd, hb, hF⟩ := F w mg fa _ KX G.T.g hmg
 exact law_call KX G.T.g G.T.b G.T.builtins G.T.nolimit hg hobj hints (Nat.le_trans hlen hn2) hr hF hb (fun H hO hS => hsp _ H a ns hlen hbits hS) fun H e s' z => z
section
variable {X : Cx}
def rEqDK (K : PySem.W.Frag) : R2 := fun x y H Q => ∃ dx dy, DtV K H x dx /\ DtV K H y dy /\ dx.canLay0 = true /\ dy.canLay0 = true /\ min dx.depth dy.depth <= 100 /\ Q (.bl (PyData.eqv dx dy)) H
theorem op_eqDK {K : PySem.W.Frag} (h : X.K = K) (hu : X.A.units + 100 < cLine) : OpR X (compareOp .Eq) (rEqDK K) := by subst h; exact op_eqD hu
end
def dN (ns : List Nat) : List PyData := ns.map fun (n : Nat) => PyData.int (n : Int)
theorem dt_nl {K : PySem.W.Frag} {H : Hp} : ∀ (ns : List Nat), DtVs K H (ns.map fun (n : Nat) => V.int (n : Int)) (dN ns)
 | [] => .nil
 | n :: ns => .cons (.int n) (dt_nl ns)
theorem lay_nl : ∀ (ns : List Nat), (PyData.list (dN ns)).canLay0 = true
 | [] => rfl
 | n :: ns => lay_nl ns
theorem depth_nl : ∀ ns : List Nat, (PyData.list (dN ns)).depth <= 2
 | [] => by decide
 | s :: ss => by
  show max 0 (PyData.depthAll (dN ss)) + 1 <= 2
  have ih : PyData.depthAll (dN ss) + 1 <= 2 := depth_nl ss
  omega
theorem cut_drop (xs : List V) (k : Nat) : cutV xs (some (k : Int)) none = xs.drop k := by
 unfold cutV
 rw [HT.sIx_nat, HT.sIx_none]
 by_cases h : k <= xs.length
 ·rw [Nat.min_eq_left h, List.take_of_length_le (by rw [List.length_drop]; omega)]
 ·rw [Nat.min_eq_right (by omega), List.drop_of_length_le (Nat.le_refl _), List.drop_of_length_le (by omega)]
  exact List.take_nil
theorem Paired.tk {α β : Type} {F : α -> β -> Prop} : ∀ (n : Nat) {l : List α} {m : List β}, Paired F l m -> Paired F (l.take n) (m.take n)
 | 0, _, _, _ => .nil
 | _ + 1, _, _, .nil => .nil
 | n + 1, _, _, .cons r t => .cons r (Paired.tk n t)
theorem Paired.dp {α β : Type} {F : α -> β -> Prop} : ∀ (n : Nat) {l : List α} {m : List β}, Paired F l m -> Paired F (l.drop n) (m.drop n)
 | 0, _, _, h => h
 | _ + 1, _, _, .nil => .nil
 | n + 1, _, _, .cons _ t => Paired.dp n t
theorem Paired.cat {α β : Type} {F : α -> β -> Prop} : ∀ {l : List α} {m : List β} {l' : List α} {m' : List β}, Paired F l m -> Paired F l' m' -> Paired F (l ++ l') (m ++ m')
 | _, _, _, _, .nil, h => h
 | _, _, _, _, .cons r t, h => .cons r (Paired.cat t h)
theorem Paired.at {α β : Type} {F : α -> β -> Prop} : ∀ {l : List α} {m : List β}, Paired F l m -> ∀ {i : Nat} {b : β}, m[i]? = some b -> ∃ a, l[i]? = some a /\ F a b
 | _, _, .nil, i, b, h => by cases i <;> cases h
 | _, _, .cons r t, 0, b, h => by
  have e := Option.some.inj h
  subst e
  exact ⟨_, rfl, r⟩
 | _, _, .cons r t, i + 1, b, h => Paired.at t h
end Gn
namespace K04
def pk1 (n : Nat) : List Nat := if h : n < 128 then [n] else (128 + n % 128) :: pk1 (n / 128)
termination_by n
decreasing_by omega
def pk (ns : List Nat) : List Nat := ns.flatMap pk1
theorem pk1_lt {n : Nat} (h : n < 128) : pk1 n = [n] := by rw [pk1, dif_pos h]
theorem pk1_ge {n : Nat} (h : ¬ n < 128) : pk1 n = (128 + n % 128) :: pk1 (n / 128) := by rw [pk1, dif_neg h]
theorem pk1_len : ∀ (k n : Nat), n < 128 ^ (k + 1) -> (pk1 n).length <= k + 1
 | 0, n, h => by rw [pk1_lt (by simpa using h)]; exact Nat.le_refl _
 | k + 1, n, h => by
  by_cases h1 : n < 128
  ·rw [pk1_lt h1]; simp
  ·rw [pk1_ge h1, List.length_cons]
   have := pk1_len k (n / 128) (by rw [Nat.div_lt_iff_lt_mul (by decide)]; rw [Nat.pow_succ] at h; exact h)
   omega
def big : Nat := 10 ^ 60
theorem pk_app (a b : List Nat) : pk (a ++ b) = pk a ++ pk b := by simp [pk]
theorem pk_one (n : Nat) : pk [n] = pk1 n := by simp [pk]
theorem pk1_part : ∀ (n : Nat), ∀ p ∈ pk1 n, p <= 255 := by
 intro n
 induction n using pk1.induct with
 | case1 n h =>
  intro p hp
  rw [pk1_lt h] at hp
  have := List.mem_singleton.mp hp
  omega
 | case2 n h ih =>
  intro p hp
  rw [pk1_ge h] at hp
  rcases List.mem_cons.mp hp with e | hp
  ·omega
  ·exact ih p hp
theorem pk_part (ns : List Nat) : ∀ p ∈ pk ns, p <= 255 := fun p hp => by
 obtain ⟨n, _, h⟩ := List.mem_flatMap.mp hp
 exact pk1_part n p h
def Rd (ns R done : List Nat) (num wt : Nat) : Prop :=
 (R = [] /\ num = 0 /\ wt = 1 /\ done = ns) \/ ∃ r rest, R = pk1 r ++ pk rest /\ ns = done ++ (num + r * wt) :: rest /\ ((wt = 1 /\ num = 0) \/ (1 < wt /\ 0 < r))
theorem Rd.next (done rest : List Nat) : Rd (done ++ rest) (pk rest) done 0 1 := by
 cases rest with
 | nil => exact .inl ⟨rfl, rfl, rfl, by simp⟩
 | cons r rest => exact .inr ⟨r, rest, rfl, by simp, .inl ⟨rfl, rfl⟩⟩
theorem Rd.start (ns : List Nat) : Rd ns (pk ns) [] 0 1 := Rd.next [] ns
theorem Rd.more {ns R done : List Nat} {num wt c : Nat} (h : Rd ns (c :: R) done num wt) (hc : 128 <= c) : Rd ns R done (num + c % 128 * wt) (wt * 128) := by
 rcases h with ⟨e, _⟩ | ⟨r, rest, e, hn, hw⟩
 ·cases e
 ·by_cases hr : r < 128
  ·rw [pk1_lt hr] at e
   have : c = r := (List.cons.inj e).1
   omega
  ·rw [pk1_ge hr] at e
   obtain ⟨e1, e2⟩ := List.cons.inj e
   refine .inr ⟨r / 128, rest, e2, ?_, .inr ⟨?_, by omega⟩⟩
   ·rw [hn, e1]
    congr 2
    have h1 : (128 + r % 128) % 128 = r % 128 := by omega
    rw [h1]
    have h2 : r = 128 * (r / 128) + r % 128 := (Nat.div_add_mod r 128).symm
    generalize r / 128 = q at *
    generalize r % 128 = m at *
    subst h2
    rw [Nat.add_mul, Nat.mul_comm wt 128, <- Nat.mul_assoc, Nat.mul_comm q 128]
    omega
   ·rcases hw with ⟨h1, _⟩ | ⟨h1, _⟩ <;> omega
theorem Rd.last {ns R done : List Nat} {num wt c : Nat} (h : Rd ns (c :: R) done num wt) (hc : c < 128) : ¬ (c = 0 /\ 1 < wt) /\ Rd ns R (done ++ [num + c % 128 * wt]) 0 1 := by
 rcases h with ⟨e, _⟩ | ⟨r, rest, e, hn, hw⟩
 ·cases e
 ·by_cases hr : r < 128
  ·rw [pk1_lt hr] at e
   obtain ⟨e1, e2⟩ := List.cons.inj e
   subst e1
   refine ⟨?_, ?_⟩
   ·rintro ⟨h1, h2⟩
    rcases hw with ⟨h3, _⟩ | ⟨_, h3⟩ <;> omega
   ·have e3 : R = pk rest := by simpa using e2
    rw [e3, hn, Nat.mod_eq_of_lt hr]
    have := Rd.next (done ++ [num + c * wt]) rest
    simpa using this
  ·rw [pk1_ge hr] at e
   have : c = 128 + r % 128 := (List.cons.inj e).1
   omega
theorem Rd.len {ns R done : List Nat} {num wt : Nat} (h : Rd ns R done num wt) : done.length <= ns.length := by
 rcases h with ⟨_, _, _, e⟩ | ⟨r, rest, _, e, _⟩
 ·rw [e]; exact Nat.le_refl _
 ·rw [e, List.length_append]; omega
theorem Rd.done {ns done : List Nat} {num wt : Nat} (h : Rd ns [] done num wt) : wt = 1 /\ done = ns := by
 rcases h with ⟨_, _, e1, e2⟩ | ⟨r, rest, e, _⟩
 ·exact ⟨e1, e2⟩
 ·exfalso
  by_cases hr : r < 128
  ·rw [pk1_lt hr] at e; cases e
  ·rw [pk1_ge hr] at e; cases e
abbrev Pr := Nat × List Nat
def ris : Nat -> List Nat -> Prop
 | _, [] => True
 | l, n :: r => l <= n /\ ris (n + 1) r
def gaps : Nat -> List Nat -> List Nat
 | _, [] => []
 | l, n :: r => (n - l) :: gaps (n + 1) r
def nums : Nat -> List Nat -> List Nat
 | _, [] => []
 | l, g :: r => (l + g) :: nums (l + g + 1) r
theorem nums_gaps : ∀ (l : Nat) (xs : List Nat), ris l xs -> nums l (gaps l xs) = xs
 | _, [], _ => rfl
 | l, n :: r, h => by
  have e : l + (n - l) = n := by have := h.1; omega
  show (l + (n - l)) :: nums (l + (n - l) + 1) (gaps (n + 1) r) = n :: r
  rw [e, nums_gaps (n + 1) r h.2]
theorem gaps_len : ∀ (l : Nat) (xs : List Nat), (gaps l xs).length = xs.length
 | _, [] => rfl
 | l, n :: r => by show (gaps (n + 1) r).length + 1 = r.length + 1; rw [gaps_len]
theorem gaps_lt {b : Nat} : ∀ (l : Nat) (xs : List Nat), (∀ x ∈ xs, x < b) -> ∀ g ∈ gaps l xs, g < b
 | _, [], _, _, h => nomatch h
 | l, n :: r, hb, g, h => by
  rcases List.mem_cons.mp h with e | h
  ·have := hb n List.mem_cons_self
   omega
  ·exact gaps_lt (n + 1) r (fun x hx => hb x (List.mem_cons_of_mem _ hx)) g h
def rn : Nat -> List Pr -> List Nat
 | _, [] => []
 | l, (n, pl) :: r => (n - l) :: (pl.length - 1) :: (gaps 0 pl ++ rn (n + 1) r)
structure RowOk (l : Nat) (row : List Pr) : Prop where
 n : ris l (row.map (·.1))
 p : ∀ x ∈ row, x.2 ≠ [] /\ ris 0 x.2
theorem RowOk.tail {l n : Nat} {pl : List Nat} {r : List Pr} (h : RowOk l ((n, pl) :: r)) : RowOk (n + 1) r := ⟨h.n.2, fun x hx => h.p x (List.mem_cons_of_mem _ hx)⟩
theorem RowOk.head {l n : Nat} {pl : List Nat} {r : List Pr} (h : RowOk l ((n, pl) :: r)) : l <= n /\ pl ≠ [] /\ ris 0 pl := ⟨h.n.1, h.p _ List.mem_cons_self⟩
end K04
namespace BK
open K04
section
variable {α : Type} [DecidableEq α]
def plc (w : α) : List α -> Nat -> List Nat
 | [], _ => []
 | x :: r, i => if x = w then i :: plc w r (i + 1) else plc w r (i + 1)
theorem plc_snoc (w x : α) : ∀ (ws : List α) (i : Nat), plc w (ws ++ [x]) i = plc w ws i ++ (if x = w then [i + ws.length] else [])
 | [], i => by
  show (if x = w then [i] else []) = [] ++ _
  rw [List.nil_append]
  rfl
 | y :: r, i => by
  show (if y = w then i :: plc w (r ++ [x]) (i + 1) else plc w (r ++ [x]) (i + 1)) = (if y = w then i :: plc w r (i + 1) else plc w r (i + 1)) ++ _
  rw [plc_snoc w x r (i + 1)]
  have e : i + 1 + r.length = i + (y :: r).length := by rw [List.length_cons]; omega
  rw [e]
  by_cases h : y = w
  ·rw [if_pos h, if_pos h]
   rfl
  ·rw [if_neg h, if_neg h]
theorem plc_ris (w : α) : ∀ (ws : List α) (i l : Nat), l <= i -> ris l (plc w ws i)
 | [], _, _, _ => trivial
 | x :: r, i, l, h => by
  unfold plc
  by_cases e : x = w
  ·rw [if_pos e]
   exact ⟨h, plc_ris w r (i + 1) (i + 1) (Nat.le_refl _)⟩
  ·rw [if_neg e]
   exact plc_ris w r (i + 1) l (Nat.le_succ_of_le h)
theorem plc_nil (w : α) : ∀ (ws : List α) (i : Nat), plc w ws i = [] ↔ w ∉ ws
 | [], i => by simp [plc]
 | x :: r, i => by
  unfold plc
  by_cases e : x = w
  ·rw [if_pos e]
   simp [e]
  ·rw [if_neg e, plc_nil w r (i + 1)]
   simp [Ne.symm e]
theorem plc_len (w : α) : ∀ (ws : List α) (i : Nat), (plc w ws i).length <= ws.length
 | [], _ => Nat.le_refl _
 | x :: r, i => by
  unfold plc
  have := plc_len w r (i + 1)
  by_cases e : x = w
  ·rw [if_pos e, List.length_cons, List.length_cons]
   omega
  ·rw [if_neg e, List.length_cons]
   omega
theorem plc_lt (w : α) : ∀ (ws : List α) (i : Nat), ∀ p ∈ plc w ws i, p < i + ws.length
 | [], _, _, h => nomatch h
 | x :: r, i, p, h => by
  unfold plc at h
  have ih := plc_lt w r (i + 1) p
  rw [List.length_cons]
  by_cases e : x = w
  ·rw [if_pos e] at h
   rcases List.mem_cons.mp h with h | h
   ·omega
   ·have := ih h
    omega
  ·rw [if_neg e] at h
   have := ih h
   omega
def rowOf (w : α) : List (List α) -> Nat -> List Pr
 | [], _ => []
 | ws :: r, n => if w ∈ ws then (n, plc w ws 0) :: rowOf w r (n + 1) else rowOf w r (n + 1)
theorem rowOf_snoc (w : α) (ws : List α) : ∀ (tws : List (List α)) (n : Nat), rowOf w (tws ++ [ws]) n = rowOf w tws n ++ (if w ∈ ws then [(n + tws.length, plc w ws 0)] else [])
 | [], n => by
  show (if w ∈ ws then [(n, plc w ws 0)] else []) = [] ++ _
  rw [List.nil_append]
  rfl
 | vs :: r, n => by
  show (if w ∈ vs then (n, plc w vs 0) :: rowOf w (r ++ [ws]) (n + 1) else rowOf w (r ++ [ws]) (n + 1)) = (if w ∈ vs then (n, plc w vs 0) :: rowOf w r (n + 1) else rowOf w r (n + 1)) ++ _
  rw [rowOf_snoc w ws r (n + 1)]
  have e : n + 1 + r.length = n + (vs :: r).length := by rw [List.length_cons]; omega
  rw [e]
  by_cases h : w ∈ vs
  ·rw [if_pos h, if_pos h]
   rfl
  ·rw [if_neg h, if_neg h]
theorem rowOf_ris (w : α) : ∀ (tws : List (List α)) (n l : Nat), l <= n -> ris l ((rowOf w tws n).map (·.1))
 | [], _, _, _ => trivial
 | ws :: r, n, l, h => by
  unfold rowOf
  by_cases e : w ∈ ws
  ·rw [if_pos e]
   exact ⟨h, rowOf_ris w r (n + 1) (n + 1) (Nat.le_refl _)⟩
  ·rw [if_neg e]
   exact rowOf_ris w r (n + 1) l (Nat.le_succ_of_le h)
theorem rowOf_mem (w : α) : ∀ (tws : List (List α)) (n : Nat) (x : Pr), x ∈ rowOf w tws n -> ∃ j ws, tws[j]? = some ws /\ w ∈ ws /\ x = (n + j, plc w ws 0)
 | [], _, _, h => nomatch h
 | ws :: r, n, x, h => by
  unfold rowOf at h
  have ih := rowOf_mem w r (n + 1) x
  by_cases e : w ∈ ws
  ·rw [if_pos e] at h
   rcases List.mem_cons.mp h with h | h
   ·exact ⟨0, ws, rfl, e, h⟩
   ·obtain ⟨j, vs, h1, h2, h3⟩ := ih h
    exact ⟨j + 1, vs, h1, h2, by rw [h3]; congr 1; omega⟩
  ·rw [if_neg e] at h
   obtain ⟨j, vs, h1, h2, h3⟩ := ih h
   exact ⟨j + 1, vs, h1, h2, by rw [h3]; congr 1; omega⟩
theorem rowOf_ok (w : α) (tws : List (List α)) (n l : Nat) (h : l <= n) : RowOk l (rowOf w tws n) := ⟨rowOf_ris w tws n l h, fun x hx => by
 obtain ⟨j, ws, _, h2, h3⟩ := rowOf_mem w tws n x hx
 rw [h3]
 exact ⟨fun z => (plc_nil w ws 0).mp z h2, plc_ris w ws 0 0 (Nat.le_refl _)⟩⟩
theorem rowOf_nil (w : α) : ∀ (tws : List (List α)) (n : Nat), rowOf w tws n = [] ↔ ∀ ws ∈ tws, w ∉ ws
 | [], n => by simp [rowOf]
 | ws :: r, n => by
  unfold rowOf
  by_cases e : w ∈ ws
  ·rw [if_pos e]
   simp [e]
  ·rw [if_neg e, rowOf_nil w r (n + 1)]
   simp [e]
def tot (tws : List (List α)) : Nat := (tws.map List.length).sum
theorem rowOf_len (w : α) : ∀ (tws : List (List α)) (n : Nat), (rowOf w tws n).length <= tws.length /\ (rowOf w tws n).length <= tot tws
 | [], _ => ⟨Nat.le_refl _, Nat.le_refl _⟩
 | ws :: r, n => by
  have ih := rowOf_len w r (n + 1)
  have e : tot (ws :: r) = ws.length + tot r := rfl
  unfold rowOf
  by_cases h : w ∈ ws
  ·rw [if_pos h, List.length_cons, List.length_cons, e]
   have := List.length_pos_of_mem h
   omega
  ·rw [if_neg h, List.length_cons, e]
   omega
theorem rn_rowOf (w : α) : ∀ (tws : List (List α)) (n l : Nat), (rn l (rowOf w tws n)).length <= 3 * tot tws
 | [], _, _ => Nat.le_refl _
 | ws :: r, n, l => by
  have e : tot (ws :: r) = ws.length + tot r := rfl
  unfold rowOf
  by_cases h : w ∈ ws
  ·rw [if_pos h]
   show (gaps 0 (plc w ws 0) ++ rn (n + 1) (rowOf w r (n + 1))).length + 1 + 1 <= _
   rw [List.length_append, gaps_len, e]
   have := rn_rowOf w r (n + 1) (n + 1)
   have := List.length_pos_of_mem h
   have := plc_len w ws 0
   omega
  ·rw [if_neg h, e]
   have := rn_rowOf w r (n + 1) l
   omega
theorem rn_rowOf_lt (w : α) (B : Nat) : ∀ (tws : List (List α)) (n l : Nat), n + tws.length <= B -> (∀ ws ∈ tws, ws.length <= B) -> ∀ x ∈ rn l (rowOf w tws n), x < B
 | [], _, _, _, _, _, h => nomatch h
 | ws :: r, n, l, hB, hw, x, h => by
  have hB' : n + 1 + r.length <= B := by rw [List.length_cons] at hB; omega
  have ih := rn_rowOf_lt w B r (n + 1)
  unfold rowOf at h
  have hwl := hw ws List.mem_cons_self
  by_cases e : w ∈ ws
  ·rw [if_pos e] at h
   have h' : x ∈ (n - l) :: ((plc w ws 0).length - 1) :: (gaps 0 (plc w ws 0) ++ rn (n + 1) (rowOf w r (n + 1))) := h
   have hpl := plc_len w ws 0
   have hpos := List.length_pos_of_mem e
   rcases List.mem_cons.mp h' with h | h
   ·omega
   ·rcases List.mem_cons.mp h with h | h
    ·omega
    ·rcases List.mem_append.mp h with h | h
     ·refine gaps_lt 0 (plc w ws 0) (fun y hy => ?_) x h
      have := plc_lt w ws 0 y hy
      omega
     ·exact ih (n + 1) hB' (fun v hv => hw v (List.mem_cons_of_mem _ hv)) x h
  ·rw [if_neg e] at h
   exact ih l hB' (fun v hv => hw v (List.mem_cons_of_mem _ hv)) x h
theorem pk_short : ∀ (k : Nat) (ns : List Nat), (∀ n ∈ ns, n < 128 ^ (k + 1)) -> (pk ns).length <= (k + 1) * ns.length
 | k, [], _ => by simp [pk]
 | k, n :: ns, h => by
  have h1 := pk1_len k n (h n List.mem_cons_self)
  have h2 := pk_short k ns fun m hm => h m (List.mem_cons_of_mem _ hm)
  show (pk1 n ++ pk ns).length <= _
  rw [List.length_append, List.length_cons, Nat.mul_add, Nat.mul_one]
  omega
end
open PySem L2 PyProof.Rows PySem.Spec Gn K04
abbrev En := List (Str × Addr)
def dkl (es : En) : List (Key × V) := es.map fun e => ((Sum.inr e.1 : Key), V.ref e.2)
theorem dkl_len (es : En) : (dkl es).length = es.length := List.length_map _
theorem dkl_keys (es : En) : (dkl es).map (·.1) = (es.map (·.1)).map Sum.inr := by
 unfold dkl
 rw [List.map_map, List.map_map]
 rfl
theorem val_none : ∀ {es : En} {w : Str}, w ∉ es.map (·.1) -> valV (dkl es) (Sum.inr w) = none
 | [], _, _ => rfl
 | e :: es, w, h => by
  have h1 : ¬ e.1 = w := fun z => h (by rw [<- z]; exact List.mem_map.mpr ⟨e, List.mem_cons_self, rfl⟩)
  have h2 : w ∉ es.map (·.1) := fun z => h (List.mem_cons_of_mem _ z)
  show valV (((Sum.inr e.1 : Key), V.ref e.2) :: dkl es) (Sum.inr w) = none
  rw [valV_neg (fun z => h1 (Sum.inr.inj z)), val_none h2]
theorem val_mem : ∀ {es : En} {w : Str} {v : V}, valV (dkl es) (Sum.inr w) = some v -> ∃ a, v = .ref a /\ (w, a) ∈ es
 | [], _, _, h => nomatch h
 | e :: es, w, v, h => by
  have h' : valV (((Sum.inr e.1 : Key), V.ref e.2) :: dkl es) (Sum.inr w) = some v := h
  by_cases h1 : e.1 = w
  ·rw [valV_pos (p := ((Sum.inr e.1 : Key), V.ref e.2)) (by rw [h1])] at h'
   subst h1
   exact ⟨e.2, (Option.some.inj h').symm, List.mem_cons_self⟩
  ·rw [valV_neg (fun z => h1 (Sum.inr.inj z))] at h'
   obtain ⟨a, e1, e2⟩ := val_mem h'
   exact ⟨a, e1, List.mem_cons_of_mem _ e2⟩
theorem val_isSome {es : En} {w : Str} (h : w ∈ es.map (·.1)) : ∃ a, valV (dkl es) (Sum.inr w) = some (.ref a) /\ (w, a) ∈ es := by
 cases q : valV (dkl es) (Sum.inr w) with
 | none =>
  have := valV_not q
  rw [dkl_keys] at this
  exact absurd (List.mem_map.mpr ⟨w, h, rfl⟩) this
 | some v =>
  obtain ⟨a, rfl, ha⟩ := val_mem q
  exact ⟨a, rfl, ha⟩
theorem val_none_iff {es : En} {w : Str} (h : valV (dkl es) (Sum.inr w) = none) : w ∉ es.map (·.1) := fun z => by
 obtain ⟨a, e, _⟩ := val_isSome z
 rw [h] at e
 cases e
theorem put_dkl {es : En} {w : Str} {a : Addr} (h : valV (dkl es) (Sum.inr w) = none) : putK (dkl es) (Sum.inr w) (.ref a) = dkl (es ++ [(w, a)]) := by
 rw [putK_new _ h]
 unfold dkl
 rw [List.map_append]
 rfl
theorem nd_uniq {α β : Type} : ∀ {es : List (α × β)}, (es.map (·.1)).Nodup -> ∀ {w : α} {a b : β}, (w, a) ∈ es -> (w, b) ∈ es -> a = b
 | [], _, _, _, _, h, _ => nomatch h
 | e :: es, hn, w, a, b, h1, h2 => by
  have hn' : (e.1 :: es.map (·.1)).Nodup := hn
  obtain ⟨n1, n2⟩ := List.nodup_cons.mp hn'
  rcases List.mem_cons.mp h1 with h1 | h1
  ·rcases List.mem_cons.mp h2 with h2 | h2
   ·have := h1.trans h2.symm
    exact (Prod.mk.inj this).2
   ·exact absurd (List.mem_map.mpr ⟨_, h2, by rw [<- h1]⟩) n1
  ·rcases List.mem_cons.mp h2 with h2 | h2
   ·exact absurd (List.mem_map.mpr ⟨_, h1, by rw [<- h2]⟩) n1
   ·exact nd_uniq n2 h1 h2
theorem nd_uniq2 {α β : Type} : ∀ {es : List (α × β)}, (es.map (·.2)).Nodup -> ∀ {w v : α} {a : β}, (w, a) ∈ es -> (v, a) ∈ es -> w = v
 | [], _, _, _, _, h, _ => nomatch h
 | e :: es, hn, w, v, a, h1, h2 => by
  have hn' : (e.2 :: es.map (·.2)).Nodup := hn
  obtain ⟨n1, n2⟩ := List.nodup_cons.mp hn'
  rcases List.mem_cons.mp h1 with h1 | h1
  ·rcases List.mem_cons.mp h2 with h2 | h2
   ·have := h1.trans h2.symm
    exact (Prod.mk.inj this).1
   ·exact absurd (List.mem_map.mpr ⟨_, h2, by rw [<- h1]⟩) n1
  ·rcases List.mem_cons.mp h2 with h2 | h2
   ·exact absurd (List.mem_map.mpr ⟨_, h1, by rw [<- h2]⟩) n1
   ·exact nd_uniq2 n2 h1 h2
theorem nd_app {α : Type} : ∀ {l : List α} {a : α}, l.Nodup -> a ∉ l -> (l ++ [a]).Nodup
 | [], a, _, _ => List.nodup_cons.mpr ⟨(fun h => nomatch h), List.nodup_nil⟩
 | x :: l, a, hn, h => by
  obtain ⟨n1, n2⟩ := List.nodup_cons.mp hn
  show (x :: (l ++ [a])).Nodup
  refine List.nodup_cons.mpr ⟨fun z => ?_, nd_app n2 fun z => h (List.mem_cons_of_mem _ z)⟩
  rcases List.mem_append.mp z with z | z
  ·exact n1 z
  ·rw [List.mem_singleton.mp z] at h
   exact h List.mem_cons_self
structure DL (B H : Hp) (d : Addr) (es : En) (F : Hp -> Addr -> Str -> Prop) : Prop where
 d : H d = some (.dK (dkl es))
 k : (es.map (·.1)).Nodup
 a : (es.map (·.2)).Nodup
 n : ∀ e ∈ es, B e.2 = none
 f : ∀ e ∈ es, F H e.2 e.1
theorem DL.put {B H H' : Hp} {d a : Addr} {es : En} {w : Str} {F F' : Hp -> Addr -> Str -> Prop} (h : DL B H d es F) (ha : (w, a) ∈ es) (hd : H' d = some (.dK (dkl es)))
  (hf : ∀ e ∈ es, e.1 ≠ w -> e.2 ≠ a -> F H e.2 e.1 -> F' H' e.2 e.1) (hw : F' H' a w) : DL B H' d es F' := ⟨hd, h.k, h.a, h.n, fun e he => by
 by_cases e1 : e.1 = w
 ·have : e.2 = a := nd_uniq h.k (w := w) (by rw [<- e1]; exact he) ha
  rw [this, e1]
  exact hw
 ·exact hf e he e1 (fun z => e1 (nd_uniq2 h.a (a := a) (by rw [<- z]; exact he) ha)) (h.f e he)⟩
theorem DL.new {B H H' : Hp} {d z : Addr} {es : En} {w : Str} {F F' : Hp -> Addr -> Str -> Prop} (h : DL B H d es F) (hw : w ∉ es.map (·.1)) (hz : B z = none) (hz2 : z ∉ es.map (·.2)) (hd : H' d = some (.dK (dkl (es ++ [(w, z)]))))
  (hf : ∀ e ∈ es, e.1 ≠ w -> e.2 ≠ z -> F H e.2 e.1 -> F' H' e.2 e.1) (hF : F' H' z w) : DL B H' d (es ++ [(w, z)]) F' := by
 refine ⟨hd, ?_, ?_, fun e he => ?_, fun e he => ?_⟩
 ·rw [List.map_append]
  exact nd_app h.k hw
 ·rw [List.map_append]
  exact nd_app h.a hz2
 ·rcases List.mem_append.mp he with he | he
  ·exact h.n e he
  ·rw [List.mem_singleton.mp he]
   exact hz
 ·rcases List.mem_append.mp he with he | he
  ·exact hf e he (fun q => hw (by rw [<- q]; exact List.mem_map.mpr ⟨e, he, rfl⟩)) (fun q => hz2 (by rw [<- q]; exact List.mem_map.mpr ⟨e, he, rfl⟩)) (h.f e he)
  ·rw [List.mem_singleton.mp he]
   exact hF
abbrev sl (ws : List Str) : List V := ws.map V.str
theorem sl_get {ws : List Str} {i : Nat} {x : V} (h : (sl ws)[i]? = some x) : ∃ w, ws[i]? = some w /\ x = .str w := by
 rw [List.getElem?_map] at h
 cases hp : ws[i]? with
 | none => rw [hp] at h; cases h
 | some c => rw [hp] at h; exact ⟨c, rfl, (Option.some.inj h).symm⟩
theorem take_snoc {α : Type} {xs : List α} {i : Nat} {x : α} (h : xs[i]? = some x) : xs.take (i + 1) = xs.take i ++ [x] := by rw [List.take_add_one, h]; rfl
theorem len_take {α : Type} {xs : List α} {i : Nat} {x : α} (h : xs[i]? = some x) : (xs.take i).length = i := by
 have := (List.getElem?_eq_some_iff.mp h).1
 rw [List.length_take]
 omega
def SameBut (x : Addr) (H H' : Hp) : Prop := ∀ b o, H b = some o -> b ≠ x -> H' b = some o
theorem SameBut.of {x : Addr} {H G : Hp} (s : Same H G) : SameBut x H G := fun b u e _ => s b u e
theorem SameBut.free {x a : Addr} {o : HO} {H G : Hp} (s : SameBut x H G) (hx : G x = some o) (h : G a = none) : H a = none := by
 cases q : H a with
 | none => rfl
 | some u =>
  by_cases e : a = x
  ·rw [e, hx] at h
   cases h
  ·rw [s a u q e] at h
   cases h
theorem SameBut.tr {x : Addr} {H G F : Hp} (s : SameBut x H G) (t : Same G F) : SameBut x H F := fun b u e n => t _ _ (s b u e n)
theorem nd_take {α : Type} : ∀ {l : List α} {i : Nat} {x : α}, l.Nodup -> l[i]? = some x -> x ∉ l.take i
 | [], i, _, _, h => by cases i <;> cases h
 | y :: l, 0, x, _, _ => (fun h => nomatch h)
 | y :: l, i + 1, x, hn, h => by
  obtain ⟨n1, n2⟩ := List.nodup_cons.mp hn
  intro z
  rcases List.mem_cons.mp z with z | z
  ·subst z
   exact n1 (List.mem_of_getElem? (show l[i]? = some x from h))
  ·exact nd_take n2 h z
theorem dkl_get {es : En} {i : Nat} {kv : Key × V} (h : (dkl es)[i]? = some kv) : ∃ e, es[i]? = some e /\ kv = (Sum.inr e.1, .ref e.2) := by
 unfold dkl at h
 rw [List.getElem?_map] at h
 cases hp : es[i]? with
 | none => rw [hp] at h; cases h
 | some c => rw [hp] at h; exact ⟨c, rfl, (Option.some.inj h).symm⟩
theorem val_at {es : En} {e : Str × Addr} (hn : (es.map (·.1)).Nodup) (h : e ∈ es) : valV (dkl es) (Sum.inr e.1) = some (.ref e.2) := by
 obtain ⟨a, h1, h2⟩ := val_isSome (List.mem_map.mpr ⟨e, h, rfl⟩)
 rw [h1, nd_uniq hn h2 h]
theorem key_get {es : En} {i : Nat} {e : Str × Addr} (h : es[i]? = some e) : (es.map (·.1))[i]? = some e.1 := by rw [List.getElem?_map, h]; rfl
theorem tot_app {α : Type} (a : List (List α)) (b : List α) : tot (a ++ [b]) = tot a + b.length := by
 unfold tot
 rw [List.map_append, List.sum_append]
 simp
theorem tot_take {α : Type} : ∀ (t : List (List α)) (i : Nat), tot (t.take i) <= tot t
 | [], i => by rw [List.take_nil]; exact Nat.le_refl _
 | x :: t, 0 => Nat.zero_le _
 | x :: t, i + 1 => by
  have := tot_take t i
  show x.length + tot (t.take i) <= x.length + tot t
  omega
theorem tot_mem {α : Type} : ∀ {t : List (List α)} {ws : List α}, ws ∈ t -> ws.length <= tot t
 | [], _, h => nomatch h
 | x :: t, ws, h => by
  have e : tot (x :: t) = x.length + tot t := rfl
  rcases List.mem_cons.mp h with h | h
  ·rw [h, e]
   omega
  ·have := tot_mem h
   omega
theorem SameBut.trb {x : Addr} {H G F : Hp} (s : SameBut x H G) (t : SameBut x G F) : SameBut x H F := fun b u e n => t _ _ (s b u e n) n
theorem SameBut.new {x : Addr} {B H G : Hp} (s : SameBut x H G) (t : Same B H) (h : B x = none) : Same B G := fun b u e => s _ _ (t _ _ e) (ne_of_none e h)
def tGet (i j : Nat) : TE := fun σ H Q => ∃ (B : Hp) (d : Addr) (es : En) (x : Str) (F : Hp -> Addr -> Str -> Prop), σ[i]? = some (some (.ref d)) /\ σ[j]? = some (some (.str x)) /\ DL B H d es F /\ es.length <= 10000 /\ (∀ z, H z = none -> B z = none) /\
 (∀ e ∈ es, ∃ l, H e.2 = some (.lst l)) /\ (∀ G a y l, SameBut d H G -> H a = some (.lst l) -> F H a y -> F G a y) /\ (∀ G z, x ∉ es.map (·.1) -> G z = some (.lst []) -> F G z x) /\
 ∀ p es' H', SameBut d H H' -> DL B H' d es' F -> (x, p) ∈ es' -> (es' = es \/ (x ∉ es.map (·.1) /\ es' = es ++ [(x, p)] /\ H p = none)) -> (∃ l, H' p = some (.lst l)) -> Q (.ref p) H'
theorem getL {K : PySem.W.Frag} {i j : Nat} {σ : L2.St} {H : Hp} {Q : VK} (h : tGet i j σ H Q) : tBM K "dict" rSetD (tVar i) (tCons (tVar j) (tCons (tLst tNil) tNil)) σ H Q := by
 obtain ⟨B, d, es, x, F, hi, hj, hD, hlen, hB, hls, hst, hnw, q⟩ := h
 have hl : (sizeLine : Nat) = 16777216 := sizeLine_eq
 refine ⟨_, hi, tyD hD.d, _, hj, (by show 0 <= sizeLine; decide), fun z hz => ?_⟩
 have sz : Same H (upd H z (.lst [])) := same_upd hz
 have hzl : (upd H z (.lst [])) z = some (.lst []) := upd_same
 generalize upd H z (.lst []) = H2 at sz hzl ⊢
 have hdd := sz _ _ hD.d
 have hls2 : ∀ e ∈ es, e.2 ≠ d /\ e.2 ≠ z := fun e he => by
  obtain ⟨l, h1⟩ := hls e he
  exact ⟨(fun q => by rw [q, hD.d] at h1; cases h1), (fun q => by rw [q, hz] at h1; cases h1)⟩
 refine ⟨d, dkl es, Sum.inr x, .ref z, rfl, rfl, hdd, (by rw [dkl_len]; omega), fun v hv => ?_, fun hv => ?_⟩
 ·obtain ⟨p, rfl, hp⟩ := val_mem hv
  obtain ⟨l, h1⟩ := hls _ hp
  refine q p es H2 (SameBut.of sz) ⟨hdd, hD.k, hD.a, hD.n, fun e he => ?_⟩ hp (.inl rfl) ⟨l, sz _ _ h1⟩
  obtain ⟨l', h2⟩ := hls e he
  exact hst H2 e.2 e.1 l' (SameBut.of sz) h2 (hD.f e he)
 ·have hnx := val_none_iff hv
  have hdz : z ≠ d := fun q => by rw [q, hdd] at hzl; cases hzl
  have hzl' : upd H2 d (.dK (putK (dkl es) (Sum.inr x) (.ref z))) z = some (.lst []) := by rw [upd_ne hdz]; exact hzl
  have hd' : upd H2 d (.dK (putK (dkl es) (Sum.inr x) (.ref z))) d = some (.dK (dkl (es ++ [(x, z)]))) := by rw [upd_same, put_dkl hv]
  have sb : SameBut d H (upd H2 d (.dK (putK (dkl es) (Sum.inr x) (.ref z)))) := fun b u e hb => by rw [upd_ne hb]; exact sz _ _ e
  generalize upd H2 d (.dK (putK (dkl es) (Sum.inr x) (.ref z))) = H3 at hzl' hd' sb ⊢
  refine q z _ H3 sb (hD.new hnx (hB z hz) (fun q => ?_) hd' (fun e he _ _ hf => ?_) (hnw H3 z hnx hzl')) (List.mem_append_right _ (List.mem_singleton.mpr rfl)) (.inr ⟨hnx, rfl, hz⟩) ⟨_, hzl'⟩
  ·obtain ⟨e, he, q⟩ := List.mem_map.mp q
   exact (hls2 e he).2 q
  ·obtain ⟨l', h2⟩ := hls e he
   exact hst H3 e.2 e.1 l' sb h2 hf
end BK
namespace K01
def lo (c : Nat) : Nat := if 65 <= c /\ c <= 90 then c + 32 else c
def isS (c : Nat) : Bool := (decide (97 <= c) && decide (c <= 122)) || (decide (48 <= c) && decide (c <= 57))
def okC (c : Nat) : Bool := decide (c = 10) || (decide (32 <= c) && decide (c <= 126) && !decide (c = 37))
abbrev Wd := List Nat × Nat × Nat
def flush (i : Nat) (w : List Nat) : List Wd := if w = [] then [] else [(w, i - w.length, i)]
def wgo : List Nat -> Nat -> List Nat -> List Wd
 | [], i, w => flush i w
 | c :: r, i, w => if isS c then wgo r (i + 1) (w ++ [c]) else flush i w ++ wgo r (i + 1) []
def words (cs : List Nat) : List Wd := wgo (cs.map lo) 0 []
theorem wgo_small {c : Nat} {r : List Nat} {i : Nat} {w : List Nat} (h : isS c = true) : wgo (c :: r) i w = wgo r (i + 1) (w ++ [c]) := by
 rw [wgo, if_pos h]
theorem wgo_other {c : Nat} {r : List Nat} {i : Nat} {w : List Nat} (h : isS c = false) : wgo (c :: r) i w = flush i w ++ wgo r (i + 1) [] := by
 rw [wgo, if_neg (by rw [h]; exact Bool.false_ne_true)]
theorem wgo_blank : ∀ (r : List Nat) (i : Nat) (w : List Nat), wgo (r ++ [32]) i w = wgo r i w
 | [], i, w => by
  show wgo [32] i w = wgo [] i w
  rw [wgo_other (by decide)]
  simp [wgo, flush]
 | c :: r, i, w => by
  show wgo (c :: (r ++ [32])) i w = _
  cases h : isS c with
  | true => rw [wgo_small h, wgo_small h, wgo_blank]
  | false => rw [wgo_other h, wgo_other h, wgo_blank]
theorem ok_lt {c : Nat} (h : okC c = true) : c < 128 := by
 unfold okC at h
 simp only [Bool.or_eq_true, Bool.and_eq_true, decide_eq_true_eq, Bool.not_eq_true', decide_eq_false_iff_not] at h
 omega
theorem isS_ok {c : Nat} (h : isS c = true) : okC c = true := by
 unfold isS at h
 unfold okC
 simp only [Bool.or_eq_true, Bool.and_eq_true, decide_eq_true_eq, Bool.not_eq_true', decide_eq_false_iff_not] at *
 omega
theorem isS_lt {c : Nat} (h : isS c = true) : c < 128 := ok_lt (isS_ok h)
def WOk (n : Nat) (x : Wd) : Prop := x.1 ≠ [] /\ x.1.all isS = true /\ x.2.1 + x.1.length = x.2.2 /\ x.2.2 <= n
theorem flush_ok {n i : Nat} {w : List Nat} (hw : w.all isS = true) (hi : w.length <= i) (hn : i <= n) : ∀ x ∈ flush i w, WOk n x := by
 intro x hx
 unfold flush at hx
 split at hx
 ·cases hx
 ·rename_i h
  have e : x = (w, i - w.length, i) := by simpa using hx
  subst e
  exact ⟨h, hw, by show i - w.length + w.length = i; (clear h hn hw; omega), hn⟩
theorem wgo_ok : ∀ (r : List Nat) (i : Nat) (w : List Nat) (n : Nat), w.all isS = true -> w.length <= i -> i + r.length <= n -> ∀ x ∈ wgo r i w, WOk n x
 | [], i, w, n, hw, hi, hn, x, hx => flush_ok hw hi (by simpa using hn) x hx
 | c :: r, i, w, n, hw, hi, hn, x, hx => by
  have hn' : i + 1 + r.length <= n := by simp at hn; (clear hi hw; omega)
  cases h : isS c with
  | true =>
   rw [wgo_small h] at hx
   exact wgo_ok r (i + 1) (w ++ [c]) n (by simp [List.all_append, hw, h]) (by simp; (clear h hn' hn hw; omega)) hn' x hx
  | false =>
   rw [wgo_other h] at hx
   rcases List.mem_append.mp hx with q | q
   ·exact flush_ok hw hi (by (clear h hn' hi hw; omega)) x q
   ·exact wgo_ok r (i + 1) [] n rfl (Nat.zero_le _) hn' x q
theorem words_ok (cs : List Nat) : ∀ x ∈ words cs, WOk cs.length x := wgo_ok _ 0 [] _ rfl (Nat.le_refl _) (by simp)
theorem flush_len (i : Nat) (w : List Nat) : (flush i w).length <= 1 := by unfold flush; split <;> simp
theorem wgo_len : ∀ (r : List Nat) (i : Nat) (w : List Nat), (wgo r i w).length <= r.length + 1
 | [], i, w => by simpa [wgo] using flush_len i w
 | c :: r, i, w => by
  cases h : isS c with
  | true => rw [wgo_small h]; have := wgo_len r (i + 1) (w ++ [c]); simp; (clear h; omega)
  | false =>
   rw [wgo_other h, List.length_append]
   have := wgo_len r (i + 1) []
   have := flush_len i w
   simp; (clear h; omega)
theorem words_len (cs : List Nat) : (words cs).length <= cs.length + 1 := by simpa [words] using wgo_len (cs.map lo) 0 []
open PySem L2
def txtV : V -> Bool
 | .str z => decide (z.length <= 2000) && z.cps.toList.all okC
 | _ => false
def rowV (most : Nat) : V -> Bool
 | .str z => decide (1 <= z.length) && decide (z.length <= most) && z.cps.toList.all isS
 | _ => false
def Fit (x : V) : Prop := ∀ z, x = .str z -> z.length <= 5000
end K01
namespace BK
open PySem PySem.Spec PyProof.Rows
theorem lt_anti : ∀ {a b : List Nat}, ltCps a b = false -> ltCps b a = false -> a = b
 | [], [], _, _ => rfl
 | [], _ :: _, h, _ => by cases h
 | _ :: _, [], _, h => by cases h
 | x :: r, y :: t, h1, h2 => by
  have h1' : (decide (x < y) || (x == y && ltCps r t)) = false := h1
  have h2' : (decide (y < x) || (y == x && ltCps t r)) = false := h2
  rw [Bool.or_eq_false_iff, decide_eq_false_iff_not] at h1' h2'
  have e : x = y := by omega
  subst e
  have q1 := h1'.2
  have q2 := h2'.2
  rw [beq_self_eq_true, Bool.true_and] at q1 q2
  rw [lt_anti q1 q2]
theorem le_tr : ∀ {a b c : List Nat}, ltCps b a = false -> ltCps c b = false -> ltCps c a = false
 | [], _, [], _, _ => rfl
 | _ :: _, [], [], h, _ => by cases h
 | [], _, _ :: _, _, _ => rfl
 | _ :: _, [], _ :: _, h, _ => by cases h
 | _ :: _, _ :: _, [], _, h => by cases h
 | x :: r, y :: t, z :: u, h1, h2 => by
  have h1' : (decide (y < x) || (y == x && ltCps t r)) = false := h1
  have h2' : (decide (z < y) || (z == y && ltCps u t)) = false := h2
  show (decide (z < x) || (z == x && ltCps u r)) = false
  rw [Bool.or_eq_false_iff, decide_eq_false_iff_not] at h1' h2' ⊢
  refine ⟨by omega, ?_⟩
  by_cases e : z = x
  ·subst e
   have e : y = z := by omega
   subst e
   have q1 := h1'.2
   have q2 := h2'.2
   rw [beq_self_eq_true, Bool.true_and] at q1 q2 ⊢
   exact le_tr q1 q2
  ·rw [beq_eq_false_iff_ne.mpr e, Bool.false_and]
theorem ris_pw : ∀ {l : List Str} {p : Str}, risingS p l = true -> (p :: l).Pairwise (fun a b => ltCps b.cps.toList a.cps.toList = false)
 | [], p, _ => List.pairwise_singleton _ _
 | x :: r, p, h => by
  have h' : (!ltCps x.cps.toList p.cps.toList && risingS x r) = true := h
  rw [Bool.and_eq_true, Bool.not_eq_true'] at h'
  have ih := ris_pw h'.2
  refine List.pairwise_cons.mpr ⟨fun y hy => ?_, ih⟩
  rcases List.mem_cons.mp hy with e | e
  ·rw [e]; exact h'.1
  ·exact le_tr h'.1 (List.rel_of_pairwise_cons ih e)
theorem srt_pw {l : List Str} (h : sortedS l = true) : l.Pairwise (fun a b => ltCps b.cps.toList a.cps.toList = false) := by
 cases l with
 | nil => exact .nil
 | cons x r => exact ris_pw h
theorem pw_uniq : ∀ {a b : List Str}, a.Pairwise (fun a b => ltCps b.cps.toList a.cps.toList = false) -> b.Pairwise (fun a b => ltCps b.cps.toList a.cps.toList = false) -> a.Perm b -> a = b
 | [], b, _, _, hp => (List.Perm.nil_eq hp)
 | x :: r, b, ha, hb, hp => by
  cases b with
  | nil => exact absurd hp.symm.nil_eq (by simp)
  | cons y t =>
   have hx : x ∈ y :: t := hp.subset List.mem_cons_self
   have hy : y ∈ x :: r := hp.symm.subset List.mem_cons_self
   have e : x = y := by
    rcases List.mem_cons.mp hx with q | q
    ·exact q
    ·rcases List.mem_cons.mp hy with q' | q'
     ·exact q'.symm
     ·have h1 := List.rel_of_pairwise_cons hb q
      have h2 := List.rel_of_pairwise_cons ha q'
      have := lt_anti h1 h2
      cases x; cases y
      simp only [Str.mk.injEq]
      exact Array.toList_inj.mp this
   subst e
   rw [pw_uniq (List.pairwise_cons.mp ha).2 (List.pairwise_cons.mp hb).2 (List.Perm.cons_inv hp)]
theorem srt_uniq {a b : List Str} (ha : sortedS a = true) (hb : sortedS b = true) (hp : a.Perm b) : a = b := pw_uniq (srt_pw ha) (srt_pw hb) hp
theorem nd_perm {a b : List Str} (ha : a.Nodup) (hb : b.Nodup) (h : ∀ x, x ∈ a ↔ x ∈ b) : a.Perm b := (List.perm_ext_iff_of_nodup ha hb).mpr h
open L2 in
theorem starts_eq (x y : Str) (hx : x.length <= 10000) : Txt.startswith x y = decide (V.str (Txt.slice x none (some (y.length : Int))) = V.str y) := by
 have hl : ∀ z : Str, z.cps.toList.length = z.length := fun z => by simp [Str.length]
 by_cases h : y.length <= x.length
 ·have e1 : Txt.slice x none (some (y.length : Int)) = _ := PySem.StrLaws.sliceText_to ⟨by omega, by have := hl x; omega⟩
  unfold Txt.startswith
  rw [decide_eq_true (show 0 + y.length <= x.length by omega), Bool.true_and]
  show (x.cps.extract 0 (0 + y.length) == y.cps) = _
  rw [Bool.eq_iff_iff, beq_iff_eq, decide_eq_true_eq, e1]
  constructor
  ·intro e
   congr 1
   cases y
   rename_i c
   have e' : x.cps.extract 0 (0 + c.size) = c := e
   congr 1
   rw [<- e']
   apply Array.ext'
   simp [Str.length]
  ·intro e
   injection e with e
   have e2 := congrArg Str.cps e
   rw [<- e2]
   apply Array.ext'
   simp [Str.length]
 ·unfold Txt.startswith
  rw [decide_eq_false (show ¬ 0 + y.length <= x.length by omega), Bool.false_and]
  refine (decide_eq_false fun e => ?_).symm
  injection e with e
  have := Txt.slice_le x none (some (y.length : Int))
  rw [e] at this
  omega
end BK
namespace K08
open PySem L2 PyProof.Rows PySem.Spec Gn K04 K01
def top (i : Nat) : Stmt := PySem.Challenge.pw_findhall_k08_books.main.body.getD i (.Pass ⟨0, 0, 0, 0⟩)
abbrev sWhole : Stmt := top 16
abbrev sSign : Stmt := top 17
abbrev sText : Stmt := top 18
abbrev sRow : Stmt := top 19
abbrev sKey : Stmt := top 20
abbrev sNText : Stmt := top 21
abbrev sNKey : Stmt := top 22
abbrev sNNum : Stmt := top 23
abbrev sOne : Stmt := top 27
abbrev sPacked : Stmt := top 28
abbrev sNParts : Stmt := top 29
abbrev sUnp : Stmt := top 30
abbrev sRis : Stmt := top 32
abbrev sHasP : Stmt := top 33
abbrev sNRow : Stmt := top 34
abbrev sGaps : Stmt := top 35
abbrev sNums : Stmt := top 36
abbrev sPRow : Stmt := top 37
abbrev sURow : Stmt := top 38
abbrev sWord : Stmt := top 43
abbrev sNWord : Stmt := top 44
abbrev sWordsIn : Stmt := top 45
abbrev sPlain : Stmt := top 46
abbrev sNBK : Stmt := top 48
abbrev sPBW : Stmt := top 49
abbrev sPRs : Stmt := top 50
abbrev sRBW : Stmt := top 51
abbrev sCopy : Stmt := top 52
abbrev lCell : Stmt := top 55
abbrev lMixed : Stmt := top 56
abbrev lNumber : Stmt := top 57
abbrev lMenu : Stmt := top 58
abbrev lText : Stmt := top 59
abbrev lSmall : Stmt := top 60
abbrev lWords : Stmt := top 61
abbrev lKey : Stmt := top 62
abbrev lPairs : Stmt := top 63
abbrev lRows : Stmt := top 64
abbrev lParts : Stmt := top 65
abbrev lListIs : Stmt := top 66
abbrev lFar : Stmt := top 67
abbrev lTT : Stmt := top 68
abbrev lWT : Stmt := top 69
abbrev lTells : Stmt := top 70
abbrev lLaw : Stmt := top 71
abbrev wInit : Stmt := inClass (top 40) 0
abbrev wLeap : Stmt := inClass (top 40) 3
abbrev wRest : Stmt := inClass (top 40) 4
abbrev bInit : Stmt := inClass (top 53) 0
abbrev bMany : Stmt := inClass (top 53) 1
abbrev bTotal : Stmt := inClass (top 53) 2
abbrev bNeedOwn : Stmt := inClass (top 53) 3
abbrev bKeyOf : Stmt := inClass (top 53) 4
abbrev bTextOf : Stmt := inClass (top 53) 5
abbrev bSizeOf : Stmt := inClass (top 53) 6
abbrev bNumberOf : Stmt := inClass (top 53) 7
abbrev bWords : Stmt := inClass (top 53) 8
abbrev bStarts : Stmt := inClass (top 53) 9
abbrev bPartsOf : Stmt := inClass (top 53) 10
abbrev bRowOf : Stmt := inClass (top 53) 11
abbrev bWalkOf : Stmt := inClass (top 53) 12
structure Txt (mg : Str -> Option Value) : Prop where
 isi : mg "isinstance" = none
 int : mg "int" = none
 bool : mg "bool" = none
 str : mg "str" = none
 list : mg "list" = none
 tuple : mg "tuple" = none
 len : mg "len" = none
 all : mg "all" = none
 ord : mg "ord" = none
 range : mg "range" = none
 enum : mg "enumerate" = none
 sorted : mg "sorted" = none
 sum : mg "sum" = none
 any : mg "any" = none
 rev : mg "reversed" = none
 val : mg "ValueError" = none
 cText : ∃ t, mg "MOST_TEXT_SIGNS" = some (.int 2000 t)
 cKey : ∃ t, mg "MOST_KEY_SIGNS" = some (.int 12 t)
 cWord : ∃ t, mg "MOST_WORD_SIGNS" = some (.int 2000 t)
 cSmall : ∃ t, mg "SMALL_SIGNS" = some (.str "abcdefghijklmnopqrstuvwxyz0123456789" t)
 cPer : ∃ t, mg "PERCENT_NUMBER" = some (.int 37 t)
 cGreat : ∃ t, mg "GREATEST_PART" = some (.int 255 t)
 cMore : ∃ t, mg "MORE_COMES" = some (.int 128 t)
section
variable {P : Program} {w : World} {K : PySem.W.Frag} {mg : Str -> Option Value} {base : Heap}
theorem nextW {t u R : TS} {D : Ends} {σ : L2.St} {H : Hp} (hR : R = tSeq t u) (h : ∀ R' : TS, R' = u -> tSeq t R' D σ H) : R D σ H := by subst hR; exact h u rfl
theorem lastW {t R : TS} {D : Ends} {σ : L2.St} {H : Hp} (hR : R = t) (h : t D σ H) : R D σ H := by subst hR; exact h
theorem genW {g : TG} {x : V} {tb : TS} {D : Ends} {σ : L2.St} {H : Hp} (h : ∀ (B : TS) (D' : Ends), B = tb -> (∀ σ H, D.nx σ H -> D'.nx σ H) -> g x σ H fun σ2 H2 => B D' σ2 H2) : g x σ H fun σ2 H2 => tb D σ2 H2 := h tb D rfl fun _ _ z => z
theorem b_ord : bootBuiltins "ord" = some (.builtin "ord") := by decide +kernel
def spWhole (K : PySem.W.Frag) : Sp := fun vs H Q _ => ∃ x, vs = [x] /\ Known K H x /\ Q (.bl (isIntV x && !isBlV x)) H
theorem scWhole : FnScope ["thing"] ["thing"] (defScope sWhole) := ⟨rfl, rfl, rfl, by decide +kernel, rfl, by decide +kernel, by decide +kernel⟩
seal PSs PS PE PT PA PG PI PGs PIfs in
theorem ok_whole {f : Addr} {fd : FuncData} (D : Df K mg "is_whole" sWhole f fd) (T : Txt mg) : FnOk P w K mg base CX0 1 f fd ["thing"] (spWhole K) := by
 refine D.F.ok scWhole (fun vs H Q E h => ?_) (fun cdv A outer s H vs Q E hr h => ?_)
 ·obtain ⟨x, rfl, _⟩ := h
  rfl
 ·obtain ⟨x, rfl, ⟨n, hty⟩, k⟩ := h
  refine ⟨_, pss_one (ps_ret (pe_and (pe_callB call_isi rfl T.isi b_isi (pa_cons (pv 0) (pa_cons (pe_bltn (v := .ty "int") rfl T.int b_int rfl) pa_nil)))
   (pe_one (pe_not (pe_callB call_isi rfl T.isi b_isi (pa_cons (pv 0) (pa_cons (pe_bltn (v := .ty "bool") rfl T.bool b_bool rfl) pa_nil))))))), ?_⟩
  refine ⟨_, rfl, x, .ty "int", _, _, rfl, hty, .inl ⟨_, rfl, kit_int hty⟩, _, rfl, ?_⟩
  cases hi : isIntV x with
  | false =>
   rw [hi] at k
   exact iteF k
  | true =>
   rw [hi] at k
   refine iteT ?_
   exact ⟨_, rfl, x, .ty "bool", _, _, rfl, hty, .inl ⟨_, rfl, kit_bool hty⟩, _, rfl, k⟩
def spSign : Sp := fun vs H Q _ => ∃ c : Nat, vs = [.str ⟨#[c]⟩] /\ Q (.bl (okC c)) H
theorem scSign : FnScope ["sign"] ["sign"] (defScope sSign) := ⟨rfl, rfl, rfl, by decide +kernel, rfl, by decide +kernel, by decide +kernel⟩
theorem one_eq (c d : Nat) : decide (V.str ⟨#[c]⟩ = V.str ⟨#[d]⟩) = decide (c = d) := by
 by_cases h : c = d
 ·subst h; simp
 ·rw [decide_eq_false h]
  exact decide_eq_false fun z => h (by injection z with z; injection z with z; simpa using z)
theorem lt_one (c d : Nat) : decide (([c] : List Nat) < [d]) = decide (c < d) := by
 by_cases h : c < d
 ·rw [decide_eq_true h]; exact decide_eq_true (List.Lex.rel h)
 ·rw [decide_eq_false h]
  exact decide_eq_false fun z => by
   cases z with
   | rel q => exact h q
   | cons q => cases q
seal PSs PS PE PT PA PG PI PGs PIfs in
theorem ok_sign {f : Addr} {fd : FuncData} (D : Df K mg "is_text_sign" sSign f fd) (T : Txt mg) : FnOk P w K mg base CX0 1 f fd ["sign"] spSign := by
 obtain ⟨tp, cp⟩ := T.cPer
 refine D.F.ok scSign (fun vs H Q E h => ?_) (fun cdv A outer s H vs Q E hr h => ?_)
 ·obtain ⟨c, rfl, _⟩ := h
  rfl
 ·obtain ⟨c, rfl, k⟩ := h
  refine ⟨_, pss_one (ps_ret (pe_or (pe_cmpR op_eq (pv 0) pe_str (nomark _)) (pe_one (pe_and (pe_chain op_le_str op_le_str pe_str (pv 0) pe_str)
   (pe_one (pe_cmpR op_ne (pe_callB call_ord rfl T.ord b_ord (pa_cons (pv 0) pa_nil)) (pe_glob (v := .int 37) rfl cp ⟨_, rfl⟩) (nomark _))))))), ?_⟩
  refine ⟨_, rfl, rfl, _, rfl, ?_⟩
  have e10 : decide (V.str ⟨#[c]⟩ = V.str (Str.ofString "\n")) = decide (c = 10) := one_eq c 10
  rw [e10]
  unfold okC at k
  by_cases h10 : c = 10
  ·rw [decide_eq_true h10] at k ⊢
   exact iteT k
  ·rw [decide_eq_false h10] at k ⊢
   refine iteF ?_
   refine ⟨_, rfl, _, _, rfl, rfl, _, rfl, ?_⟩
   have e32 : (!decide ((⟨#[c]⟩ : Str).cps.toList < (Str.ofString " ").cps.toList)) = decide (32 <= c) := by
    show (!decide (([c] : List Nat) < [32])) = _
    rw [lt_one]
    by_cases h : c < 32
    ·rw [decide_eq_true h, decide_eq_false (by (clear h10 e10 cp; omega))]; rfl
    ·rw [decide_eq_false h, decide_eq_true (by (clear h10 e10 cp; omega))]; rfl
   rw [e32]
   by_cases h32 : 32 <= c
   ·rw [decide_eq_true h32] at k ⊢
    refine iteT ⟨_, _, rfl, rfl, _, rfl, ?_⟩
    have e126 : (!decide ((Str.ofString "~").cps.toList < (⟨#[c]⟩ : Str).cps.toList)) = decide (c <= 126) := by
     show (!decide (([126] : List Nat) < [c])) = _
     rw [lt_one]
     by_cases h : 126 < c
     ·rw [decide_eq_true h, decide_eq_false (by (clear h32 e32 h10 e10 cp; omega))]; rfl
     ·rw [decide_eq_false h, decide_eq_true (by (clear h32 e32 h10 e10 cp; omega))]; rfl
    rw [e126]
    by_cases h126 : c <= 126
    ·rw [decide_eq_true h126] at k ⊢
     refine iteT ⟨_, rfl, _, rfl, rfl, rfl, ?_⟩
     have e37 : decide (V.int (((⟨#[c]⟩ : Str).cps.getD 0 0 : Nat) : Int) = V.int 37) = decide (c = 37) := by
      rw [dec_int]
      by_cases h : c = 37
      ·subst h; rfl
      ·rw [decide_eq_false h]
       exact beq_eq_false_iff_ne.mpr fun z => h (by have z' : ((c : Nat) : Int) = 37 := z; (clear z h h126 e126 h32 e32 h10 e10 cp; omega))
     rw [e37]
     exact k
    ·rw [decide_eq_false h126] at k ⊢
     exact iteF k
   ·rw [decide_eq_false h32] at k ⊢
    exact iteF ⟨_, rfl, iteF k⟩
theorem str_len (z : Str) : z.cps.toList.length = z.length := by simp [Str.length]
theorem cps_get {z : Str} {i c : Nat} (h : z.cps[i]? = some c) : z.cps.toList[i]? = some c := by simpa using h
theorem ndSign : (["sign"] : List Str).Nodup := by decide +kernel
def spText (K : PySem.W.Frag) : Sp := fun vs H Q _ => ∃ x, vs = [x] /\ Known K H x /\ Fit x /\ ∀ H', Same H H' -> Q (.bl (txtV x)) H'
theorem scText : FnScope ["thing"] ["thing"] (defScope sText) := ⟨rfl, rfl, rfl, by decide +kernel, rfl, by decide +kernel, by decide +kernel⟩
theorem notStr {x : V} (h : isStrV x = false) : txtV x = false := by cases x <;> first | rfl | cases h
theorem notStrR {x : V} {m : Nat} (h : isStrV x = false) : rowV m x = false := by cases x <;> first | rfl | cases h
theorem isStr {x : V} (h : isStrV x = true) : ∃ z, x = .str z := by cases x <;> first | exact ⟨_, rfl⟩ | cases h
seal PSs PS PE PT PA PG PI PGs PIfs in
theorem ok_text {f fs : Addr} {fd fds : FuncData} (D : Df K mg "is_text" sText f fd) (DS : Df K mg "is_text_sign" sSign fs fds) (T : Txt mg) : FnOk P w K mg base CX0 2 f fd ["thing"] (spText K) := by
 obtain ⟨tc, cc⟩ := T.cText
 have GS : FnOk P w K mg base CX0 1 fs fds ["sign"] spSign := ok_sign DS T
 have bS := binds1 (p := "sign") DS.F fun _ _ _ _ _ _ _ => rfl
 refine D.F.ok scText (fun vs H Q E h => ?_) (fun cdv A outer s H vs Q E hr h => ?_)
 ·obtain ⟨x, rfl, _⟩ := h
  rfl
 ·obtain ⟨x, rfl, ⟨n, hty⟩, hfit, k⟩ := h
  refine ⟨_, pss_cons (ps_if (PW.pt (pw_or (pt_not (pt_val (pe_callB call_isi rfl T.isi b_isi (pa_cons (pv 0) (pa_cons (pe_bltn (v := .ty "str") rfl T.str b_str rfl) pa_nil)))))
    (pw_or1 (pt_cmpR op_gt (pe_callB call_len_str rfl T.len b_len (pa_cons (pv 0) pa_nil)) (pe_glob (v := .int 2000) rfl cc ⟨_, rfl⟩) (nomark _))))) (pss_one (ps_ret pe_bl)) pss_nil)
   (pss_one (ps_ret (pe_callB (call_all_bools rfl) rfl T.all b_all (pa_cons (pe_comp (own := 1) (caps := []) (N := ["sign"]) (N0 := ["thing"]) (sc0 := defScope sText) rfl (pi_str (pv 0))
    (fun _ _ _ => pg_name (i := 0) ndSign rfl (Or.inl rfl)) (fun _ _ _ => pf_none)
    (fun _ _ _ => pe_call GS hr rfl DS.m DS.F.kp bS .nil pass0 (pa_cons (pv 0) pa_nil)) (gk_name (by decide)) rfl rfl
    (by decide +kernel) rfl (by decide +kernel) (by decide +kernel) rfl (by decide +kernel)) pa_nil)))), ?_⟩
  refine ⟨_, rfl, x, .ty "str", _, _, rfl, hty, .inl ⟨_, rfl, kit_str hty⟩, _, rfl, ?_⟩
  cases hx : isStrV x with
  | false =>
   refine iteT (iteT ?_)
   have := k H (Same.refl H)
   rw [notStr hx] at this
   exact this
  | true =>
   obtain ⟨z, rfl⟩ := isStr hx
   have hz := hfit z rfl
   have hl : (sizeLine : Nat) = 16777216 := sizeLine_eq
   refine iteF ?_
   refine ⟨_, rfl, z, rfl, by (clear hx cc; omega), _, _, rfl, rfl, _, rfl, ?_⟩
   by_cases hlen : (2000 : Int) < (z.length : Int)
   ·rw [decide_eq_true hlen]
    refine iteT ?_
    have := k H (Same.refl H)
    have e : txtV (.str z) = false := by
     show (decide (z.length <= 2000) && _) = false
     rw [decide_eq_false (by (clear hl hz hx cc; omega)), Bool.false_and]
    rw [e] at this
    exact this
   ·rw [decide_eq_false hlen]
    refine iteF ?_
    have sz : z.cps.size = z.length := rfl
    refine ⟨_, rfl, z, rfl, comp_its (x := z) (fun i ys H' => Same H H' /\ ys = ((z.cps.toList.take i).map fun c => V.bl (okC c))) (by (clear hlen hx cc; omega)) ⟨Same.refl H, rfl⟩ ?_ ?_⟩
    ·rintro i c ys H' N hc ⟨sm, rfl⟩ hN
     refine g1 ?_
     refine ⟨_, rfl, c, rfl, hN _ _ ⟨sm, ?_⟩⟩
     rw [List.take_add_one, cps_get hc, List.map_append]
     rfl
    ·rintro ys H' ⟨sm, rfl⟩ _ p hp
     refine ⟨p, z.cps.toList.map okC, rfl, SqL.of (by rw [upd_same, List.take_of_length_le (by simp)]; simp), ?_⟩
     have := k (upd H' p (.lst ((z.cps.toList.take z.cps.size).map fun c => V.bl (okC c)))) (Same.upd sm hp)
     have e : txtV (.str z) = (z.cps.toList.map okC).all id := by
      show (decide (z.length <= 2000) && _) = _
      rw [decide_eq_true (by (clear hp sz hl hz hx cc; omega)), Bool.true_and, List.all_map]
      rfl
     rw [e] at this
     exact this
def spRow (K : PySem.W.Frag) : Sp := fun vs H Q _ => ∃ (x : V) (m : Nat), vs = [x, .int m] /\ Known K H x /\ Fit x /\ ∀ H', Same H H' -> Q (.bl (rowV m x)) H'
theorem scRow : FnScope ["thing", "most"] ["thing", "most"] (defScope sRow) := ⟨rfl, rfl, rfl, by decide +kernel, rfl, by decide +kernel, by decide +kernel⟩
theorem by128 {f g : Nat -> Bool} (h : ∀ c, c < 128 -> f c = g c) (hf : ∀ c, f c = true -> c < 128) (hg : ∀ c, g c = true -> c < 128) (c : Nat) : f c = g c := by
 by_cases hc : c < 128
 ·exact h c hc
 ·cases ef : f c with
  | true => exact absurd (hf c ef) hc
  | false =>
   cases eg : g c with
   | true => exact absurd (hg c eg) hc
   | false => rfl
theorem mem128 {l : List Nat} (h : l.all (fun x => decide (x < 128)) = true) (c : Nat) (e : decide (c ∈ l) = true) : c < 128 := of_decide_eq_true (List.all_eq_true.mp h c (of_decide_eq_true e))
abbrev smallT : Str := Str.ofString "abcdefghijklmnopqrstuvwxyz0123456789"
theorem small_mem : ∀ c : Nat, decide (c ∈ smallT.cps.toList) = isS c := by128 (by decide +kernel) (mem128 (by decide +kernel)) fun c h => isS_lt h
theorem small_in (c : Nat) : (!(Builtin.Str.occurrences (Str.ofString "abcdefghijklmnopqrstuvwxyz0123456789") ⟨#[c]⟩ 0 (Str.ofString "abcdefghijklmnopqrstuvwxyz0123456789").length 1).isEmpty) = isS c := by
 rw [PySem.StrLaws.found_one]
 exact small_mem c
seal PSs PS PE PT PA PG PI PGs PIfs in
theorem ok_row {f : Addr} {fd : FuncData} (D : Df K mg "is_small_row" sRow f fd) (T : Txt mg) : FnOk P w K mg base CX0 1 f fd ["thing", "most"] (spRow K) := by
 obtain ⟨tc, cc⟩ := T.cSmall
 refine D.F.ok scRow (fun vs H Q E h => ?_) (fun cdv A outer s H vs Q E hr h => ?_)
 ·obtain ⟨x, m, rfl, _⟩ := h
  rfl
 ·obtain ⟨x, m, rfl, ⟨n, hty⟩, hfit, k⟩ := h
  refine ⟨_, pss_cons (ps_if (PW.pt (pw_or (pt_not (pt_val (pe_callB call_isi rfl T.isi b_isi (pa_cons (pv 0) (pa_cons (pe_bltn (v := .ty "str") rfl T.str b_str rfl) pa_nil)))))
    (pw_or (pt_cmpR op_lt (pe_callB call_len_str rfl T.len b_len (pa_cons (pv 0) pa_nil)) pe_int (nomark _))
    (pw_or1 (pt_cmpR op_gt (pe_callB call_len_str rfl T.len b_len (pa_cons (pv 0) pa_nil)) (pv 1) (nomark _)))))) (pss_one (ps_ret pe_bl)) pss_nil)
   (pss_one (ps_ret (pe_callB (call_all_bools rfl) rfl T.all b_all (pa_cons (pe_comp (own := 1) (caps := []) (N := ["sign"]) (N0 := ["thing", "most"]) (sc0 := defScope sRow) rfl (pi_str (pv 0))
    (fun _ _ _ => pg_name (i := 0) ndSign rfl (Or.inl rfl)) (fun _ _ _ => pf_none)
    (fun _ _ _ => pe_cmpR op_in_str (pv 0) (pe_glob (v := .str (Str.ofString "abcdefghijklmnopqrstuvwxyz0123456789")) rfl cc ⟨_, rfl⟩) rfl) (gk_name (by decide)) rfl rfl
    (by decide +kernel) rfl (by decide +kernel) (by decide +kernel) rfl (by decide +kernel)) pa_nil)))), ?_⟩
  refine ⟨_, rfl, x, .ty "str", _, _, rfl, hty, .inl ⟨_, rfl, kit_str hty⟩, _, rfl, ?_⟩
  have kH := k H (Same.refl H)
  cases hx : isStrV x with
  | false =>
   rw [notStrR hx] at kH
   exact iteT (iteT kH)
  | true =>
   obtain ⟨z, rfl⟩ := isStr hx
   have hz := hfit z rfl
   have hl : (sizeLine : Nat) = 16777216 := sizeLine_eq
   have rv : rowV m (.str z) = (decide (1 <= z.length) && decide (z.length <= m) && z.cps.toList.all isS) := rfl
   refine iteF ?_
   refine ⟨_, rfl, z, rfl, by (clear rv hx cc; omega), _, _, rfl, rfl, _, rfl, ?_⟩
   by_cases h1 : (z.length : Int) < 1
   ·rw [decide_eq_true h1]
    rw [rv, decide_eq_false (by (clear rv hl hz hx cc; omega)), Bool.false_and, Bool.false_and] at kH
    exact iteT (iteT kH)
   ·rw [decide_eq_false h1]
    refine iteF ⟨_, rfl, z, rfl, by (clear h1 rv hx cc; omega), _, rfl, _, _, rfl, rfl, _, rfl, ?_⟩
    by_cases hlen : (m : Int) < (z.length : Int)
    ·rw [decide_eq_true hlen]
     rw [rv, decide_eq_false (show ¬ z.length <= m by (clear h1 rv hl hz hx cc; omega)), Bool.and_false, Bool.false_and] at kH
     exact iteT kH
    ·rw [decide_eq_false hlen]
     refine iteF ?_
     have sz : z.cps.size = z.length := rfl
     refine ⟨_, rfl, z, rfl, comp_its (x := z) (fun i ys H' => Same H H' /\ ys = ((z.cps.toList.take i).map fun c => V.bl (isS c))) (by (clear hlen h1 rv hx cc; omega)) ⟨Same.refl H, rfl⟩ ?_ ?_⟩
     ·rintro i c ys H' N hc ⟨sm, rfl⟩ hN
      refine g1 ?_
      refine ⟨_, rfl, _, _, rfl, rfl, hN _ _ ⟨sm, ?_⟩⟩
      rw [small_in, List.take_add_one, cps_get hc, List.map_append]
      rfl
     ·rintro ys H' ⟨sm, rfl⟩ _ p hp
      refine ⟨p, z.cps.toList.map isS, rfl, SqL.of (by rw [upd_same, List.take_of_length_le (by simp)]; simp), ?_⟩
      have := k (upd H' p (.lst ((z.cps.toList.take z.cps.size).map fun c => V.bl (isS c)))) (Same.upd sm hp)
      have e : rowV m (.str z) = (z.cps.toList.map isS).all id := by
       rw [rv, decide_eq_true (by (clear hp sz hlen rv hl hz hx cc; omega)), decide_eq_true (by (clear hp sz h1 rv hl hz hx cc; omega)), Bool.true_and, Bool.true_and, List.all_map]
       rfl
      rw [e] at this
      exact this
def spIs (K : PySem.W.Frag) (m : Nat) : Sp := fun vs H Q _ => ∃ x, vs = [x] /\ Known K H x /\ Fit x /\ ∀ H', Same H H' -> Q (.bl (rowV m x)) H'
theorem scKey : FnScope ["thing"] ["thing"] (defScope sKey) := ⟨rfl, rfl, rfl, by decide +kernel, rfl, by decide +kernel, by decide +kernel⟩
theorem scWord : FnScope ["thing"] ["thing"] (defScope sWord) := ⟨rfl, rfl, rfl, by decide +kernel, rfl, by decide +kernel, by decide +kernel⟩
seal PSs PS PE PT PA PG PI PGs PIfs in
theorem ok_key {f fr : Addr} {fd fdr : FuncData} (D : Df K mg "is_key" sKey f fd) (DR : Df K mg "is_small_row" sRow fr fdr) (T : Txt mg) : FnOk P w K mg base CX0 2 f fd ["thing"] (spIs K 12) := by
 obtain ⟨tc, cc⟩ := T.cKey
 have GR : FnOk P w K mg base CX0 1 fr fdr ["thing", "most"] (spRow K) := ok_row DR T
 have bR := DR.F.binds (ps := ["thing", "most"]) fun _ _ _ _ _ _ us hl => us2 (fun _ _ => rfl) us hl
 refine D.F.ok scKey (fun vs H Q E h => ?_) (fun cdv A outer s H vs Q E hr h => ?_)
 ·obtain ⟨x, rfl, _⟩ := h
  rfl
 ·obtain ⟨x, rfl, hk, hfit, k⟩ := h
  refine ⟨_, pss_one (ps_ret (pe_call GR hr rfl DR.m DR.F.kp bR .nil pass0 (pa_cons (pv 0) (pa_cons (pe_glob (v := .int 12) rfl cc ⟨_, rfl⟩) pa_nil)))), ?_⟩
  exact ⟨_, rfl, x, 12, rfl, hk, hfit, k⟩
seal PSs PS PE PT PA PG PI PGs PIfs in
theorem ok_word {f fr : Addr} {fd fdr : FuncData} (D : Df K mg "is_word" sWord f fd) (DR : Df K mg "is_small_row" sRow fr fdr) (T : Txt mg) : FnOk P w K mg base CX0 2 f fd ["thing"] (spIs K 2000) := by
 obtain ⟨tc, cc⟩ := T.cWord
 have GR : FnOk P w K mg base CX0 1 fr fdr ["thing", "most"] (spRow K) := ok_row DR T
 have bR := DR.F.binds (ps := ["thing", "most"]) fun _ _ _ _ _ _ us hl => us2 (fun _ _ => rfl) us hl
 refine D.F.ok scWord (fun vs H Q E h => ?_) (fun cdv A outer s H vs Q E hr h => ?_)
 ·obtain ⟨x, rfl, _⟩ := h
  rfl
 ·obtain ⟨x, rfl, hk, hfit, k⟩ := h
  refine ⟨_, pss_one (ps_ret (pe_call GR hr rfl DR.m DR.F.kp bR .nil pass0 (pa_cons (pv 0) (pa_cons (pe_glob (v := .int 2000) rfl cc ⟨_, rfl⟩) pa_nil)))), ?_⟩
  exact ⟨_, rfl, x, 2000, rfl, hk, hfit, k⟩
def spNeed (K : PySem.W.Frag) (p : V -> Bool) (C : Addr) : Sp := fun vs H Q E => ∃ x, vs = [x] /\ Known K H x /\ Fit x /\ (p x = true -> ∀ H', Same H H' -> Q x H') /\ (p x = false -> ∀ H', Same H H' -> E (.ref C) none H')
theorem scNText : FnScope ["thing"] ["thing"] (defScope sNText) := ⟨rfl, rfl, rfl, by decide +kernel, rfl, by decide +kernel, by decide +kernel⟩
theorem scNKey : FnScope ["thing"] ["thing"] (defScope sNKey) := ⟨rfl, rfl, rfl, by decide +kernel, rfl, by decide +kernel, by decide +kernel⟩
theorem scNWord : FnScope ["thing"] ["thing"] (defScope sNWord) := ⟨rfl, rfl, rfl, by decide +kernel, rfl, by decide +kernel, by decide +kernel⟩
seal PSs PS PE PT PA PG PI PGs PIfs in
theorem ok_ntext {f ft C : Addr} {fd fdt : FuncData} (D : Df K mg "need_text" sNText f fd) (DT : Df K mg "is_text" sText ft fdt) (X : Ex K mg "BadText" C) (GT : FnOk P w K mg base CX0 2 ft fdt ["thing"] (spText K)) : FnOk P w K mg base (CX1 P w) 3 f fd ["thing"] (spNeed K txtV C) := by
 have bT := binds1 (p := "thing") DT.F fun _ _ _ _ _ _ _ => rfl
 refine D.F.ok1 scNText (fun vs H Q E h => ?_) (fun cdv A outer s H vs Q E hr h => ?_)
 ·obtain ⟨x, rfl, _⟩ := h
  rfl
 ·obtain ⟨x, rfl, hk, hfit, k1, k2⟩ := h
  refine ⟨_, pss_cons (ps_if (pt_not (pt_val (pe_call GT hr rfl DT.m DT.F.kp bT .nil pass0 (pa_cons (pv 0) pa_nil)))) (pss_one (ps_raise rfl X.q PySem.F.excBase_ValueError (by decide +kernel) PySem.F.excBase_ValueError rfl X.m (pa_cons pe_str pa_nil) raise_out)) pss_nil)
   (pss_one (ps_ret (pv 0))), ?_⟩
  refine ⟨_, rfl, x, rfl, hk, hfit, fun H' sm => ⟨_, rfl, ?_⟩⟩
  cases hx : txtV x with
  | false => exact iteT ⟨by show 1 <= sizeLine; decide, k2 hx H' sm⟩
  | true => exact iteF ⟨_, rfl, k1 hx H' sm⟩
seal PSs PS PE PT PA PG PI PGs PIfs in
theorem ok_nkey {f ft C : Addr} {fd fdt : FuncData} (D : Df K mg "need_key" sNKey f fd) (DT : Df K mg "is_key" sKey ft fdt) (X : Ex K mg "BadKey" C) (GT : FnOk P w K mg base CX0 2 ft fdt ["thing"] (spIs K 12)) : FnOk P w K mg base (CX1 P w) 3 f fd ["thing"] (spNeed K (rowV 12) C) := by
 have bT := binds1 (p := "thing") DT.F fun _ _ _ _ _ _ _ => rfl
 refine D.F.ok1 scNKey (fun vs H Q E h => ?_) (fun cdv A outer s H vs Q E hr h => ?_)
 ·obtain ⟨x, rfl, _⟩ := h
  rfl
 ·obtain ⟨x, rfl, hk, hfit, k1, k2⟩ := h
  refine ⟨_, pss_cons (ps_if (pt_not (pt_val (pe_call GT hr rfl DT.m DT.F.kp bT .nil pass0 (pa_cons (pv 0) pa_nil)))) (pss_one (ps_raise rfl X.q PySem.F.excBase_ValueError (by decide +kernel) PySem.F.excBase_ValueError rfl X.m (pa_cons pe_str pa_nil) raise_out)) pss_nil)
   (pss_one (ps_ret (pv 0))), ?_⟩
  refine ⟨_, rfl, x, rfl, hk, hfit, fun H' sm => ⟨_, rfl, ?_⟩⟩
  cases hx : rowV 12 x with
  | false => exact iteT ⟨by show 1 <= sizeLine; decide, k2 hx H' sm⟩
  | true => exact iteF ⟨_, rfl, k1 hx H' sm⟩
seal PSs PS PE PT PA PG PI PGs PIfs in
theorem ok_nword {f ft C : Addr} {fd fdt : FuncData} (D : Df K mg "need_word" sNWord f fd) (DT : Df K mg "is_word" sWord ft fdt) (X : Ex K mg "BadWord" C) (GT : FnOk P w K mg base CX0 2 ft fdt ["thing"] (spIs K 2000)) : FnOk P w K mg base (CX1 P w) 3 f fd ["thing"] (spNeed K (rowV 2000) C) := by
 have bT := binds1 (p := "thing") DT.F fun _ _ _ _ _ _ _ => rfl
 refine D.F.ok1 scNWord (fun vs H Q E h => ?_) (fun cdv A outer s H vs Q E hr h => ?_)
 ·obtain ⟨x, rfl, _⟩ := h
  rfl
 ·obtain ⟨x, rfl, hk, hfit, k1, k2⟩ := h
  refine ⟨_, pss_cons (ps_if (pt_not (pt_val (pe_call GT hr rfl DT.m DT.F.kp bT .nil pass0 (pa_cons (pv 0) pa_nil)))) (pss_one (ps_raise rfl X.q PySem.F.excBase_ValueError (by decide +kernel) PySem.F.excBase_ValueError rfl X.m (pa_cons pe_str pa_nil) raise_out)) pss_nil)
   (pss_one (ps_ret (pv 0))), ?_⟩
  refine ⟨_, rfl, x, rfl, hk, hfit, fun H' sm => ⟨_, rfl, ?_⟩⟩
  cases hx : rowV 2000 x with
  | false => exact iteT ⟨by show 1 <= sizeLine; decide, k2 hx H' sm⟩
  | true => exact iteF ⟨_, rfl, k1 hx H' sm⟩
theorem scNNum : FnScope ["thing", "least", "most"] ["thing", "least", "most"] (defScope sNNum) := ⟨rfl, rfl, rfl, by decide +kernel, rfl, by decide +kernel, by decide +kernel⟩
seal PSs PS PE PT PA PG PI PGs PIfs in
theorem ok_nnum {f fw C : Addr} {fd fdw : FuncData} (D : DfD K mg "need_number" sNNum f fd #[.none]) (DW : Df K mg "is_whole" sWhole fw fdw) (X : Ex K mg "BadNumber" C) (T : Txt mg) : FnOk P w K mg base (CX1 P w) 2 f fd ["thing", "least", "most"] (spNNum K C) := by
 have GW : FnOk P w K mg base CX0 1 fw fdw ["thing"] (spWhole K) := ok_whole DW T
 have bW := binds1 (p := "thing") DW.F fun _ _ _ _ _ _ _ => rfl
 refine D.ok1 scNNum (fun vs H Q E h => ?_) (fun cdv A outer s H vs Q E hr h => ?_)
 ·obtain ⟨x, l, m, rfl, _⟩ := h
  rfl
 ·obtain ⟨x, l, m, rfl, hk, k1, k2⟩ := h
  refine ⟨_, pss_cons (ps_if (pt_not (pt_val (pe_call GW hr rfl DW.m DW.F.kp bW .nil pass0 (pa_cons (pv 0) pa_nil)))) (pss_one (ps_raise rfl X.q PySem.F.excBase_ValueError (by decide +kernel) PySem.F.excBase_ValueError rfl X.m (pa_cons pe_str pa_nil) raise_out)) pss_nil)
   (pss_cons (ps_if (pt_cmpR op_lt (pv 0) (pv 1) (nomark _)) (pss_one (ps_raise rfl X.q PySem.F.excBase_ValueError (by decide +kernel) PySem.F.excBase_ValueError rfl X.m (pa_cons pe_str pa_nil) raise_out)) pss_nil)
   (pss_cons (ps_if (PW.pt (pw_and (pt_cmp (pc_notN (pv 2))) (pw_and1 (pt_cmpR op_gt (pv 0) (pv 2) (nomark _))))) (pss_one (ps_raise rfl X.q PySem.F.excBase_ValueError (by decide +kernel) PySem.F.excBase_ValueError rfl X.m (pa_cons pe_str pa_nil) raise_out)) pss_nil)
   (pss_one (ps_ret (pv 0))))), ?_⟩
  refine ⟨_, rfl, x, rfl, hk, _, rfl, ?_⟩
  cases hx : isIntV x && !isBlV x with
  | false =>
   refine iteT ⟨by show 1 <= sizeLine; decide, k2 ?_⟩
   cases x <;> first | rfl | cases hx
  | true =>
   obtain ⟨i, rfl⟩ : ∃ i, x = .int i := by cases x <;> first | exact ⟨_, rfl⟩ | cases hx
   refine iteF ?_
   refine ⟨_, rfl, _, rfl, _, _, rfl, rfl, _, rfl, ?_⟩
   by_cases hl : i < l
   ·rw [decide_eq_true hl]
    refine iteT ⟨by show 1 <= sizeLine; decide, k2 ?_⟩
    show (decide (l <= i) && _) = false
    rw [decide_eq_false (by (clear hx; omega)), Bool.false_and]
   ·rw [decide_eq_false hl]
    refine iteF ⟨_, rfl, _, rfl, ?_⟩
    cases m with
    | none =>
     refine iteF (iteF ⟨_, rfl, k1 ?_⟩)
     show (decide (l <= i) && true) = true
     rw [decide_eq_true (by (clear hx; omega))]; rfl
    | some m =>
     refine iteT ⟨_, rfl, _, rfl, _, _, rfl, rfl, _, rfl, ?_⟩
     by_cases hm : m < i
     ·rw [decide_eq_true hm]
      refine iteT ⟨by show 1 <= sizeLine; decide, k2 ?_⟩
      show (decide (l <= i) && decide (i <= m)) = false
      rw [decide_eq_false (show ¬ i <= m by (clear hl hx; omega)), Bool.and_false]
     ·rw [decide_eq_false hm]
      refine iteF ⟨_, rfl, k1 ?_⟩
      show (decide (l <= i) && decide (i <= m)) = true
      rw [decide_eq_true (by (clear hm hx; omega)), decide_eq_true (by (clear hl hx; omega))]; rfl
def spMixed : Sp := fun vs H Q _ => ∃ n k : Int, vs = [.int n, .int k] /\ 0 <= k /\ k <= 1000000 /\ ∀ r : Int, 0 <= r -> r < 2147483629 -> Q (.int r) H
theorem scMixed : FnScope ["_law_number_here", "_law_k"] ["_law_number_here", "_law_k"] (defScope lMixed) := ⟨rfl, rfl, rfl, by decide +kernel, rfl, by decide +kernel, by decide +kernel⟩
seal PSs PS PE PT PA PG PI PGs PIfs in
theorem ok_mixed {f : Addr} {fd : FuncData} (D : Df K mg "_law_mixed" lMixed f fd) : FnOk P w K mg base CX0 1 f fd ["_law_number_here", "_law_k"] spMixed := by
 refine D.F.ok scMixed (fun vs H Q E h => ?_) (fun cdv A outer s H vs Q E hr h => ?_)
 ·obtain ⟨n, k, rfl, _⟩ := h
  rfl
 ·obtain ⟨n, k, rfl, h0, h1, kk⟩ := h
  refine ⟨_, pss_cons (ps_set (i := 0) scMixed.nd rfl (Or.inl rfl) (pe_op op_mod (pe_op op_mul (pe_op op_add (pe_op op_add (pe_op op_mod (pv 0) pe_int) (pe_op op_mul (pe_op op_mul pe_int (pv 1)) (pv 1))) (pe_op op_mul pe_int (pv 1))) pe_int) pe_int))
   (pss_one (ps_ret (pe_op op_mod (pe_op op_mul (pv 0) (pe_op op_add pe_int (pe_op op_mul pe_int (pv 1)))) pe_int))), ?_⟩
  refine ⟨_, rfl, _, _, rfl, rfl, (by show (0 : Int) < 2147483647; decide), _, rfl, _, _, rfl, rfl, .inl ⟨by decide, by decide⟩, _, rfl, _, _, rfl, rfl, .inr ⟨by (clear h1; omega), by (clear h0; omega)⟩, _, _, rfl, rfl, _, rfl, _, _, rfl, rfl, .inl ⟨by decide, by decide⟩, _, _, rfl, rfl,
   _, _, rfl, rfl, .inr ⟨by decide, by decide⟩, _, _, rfl, rfl, (by show (0 : Int) < 2147483647; decide), ?_⟩
  have b1 := Int.emod_nonneg ((n % 2147483647 + 7919 * k * k + 31 * k) * 48271) (show (2147483647 : Int) ≠ 0 by decide)
  have b2 := Int.emod_lt_of_pos ((n % 2147483647 + 7919 * k * k + 31 * k) * 48271) (show (0 : Int) < 2147483647 by decide)
  refine ⟨_, rfl, _, rfl, _, _, rfl, rfl, .inl ⟨by decide, by decide⟩, _, _, rfl, rfl, _, _, rfl, rfl, .inl ⟨by (clear b2 b1 h1 h0; omega), by (clear b2 b1 h1 h0; omega)⟩, _, _, rfl, rfl, (by show (0 : Int) < 2147483629; decide), ?_⟩
  exact kk _ (Int.emod_nonneg _ (by decide)) (Int.emod_lt_of_pos _ (by decide))
theorem scNumber : FnScope ["_law_script", "_law_k"] ["_law_script", "_law_k"] (defScope lNumber) := ⟨rfl, rfl, rfl, by decide +kernel, rfl, by decide +kernel, by decide +kernel⟩
def wdT (x : Wd) : HO := .tup [.str ⟨x.1.toArray⟩, .int x.2.1, .int x.2.2]
structure WL (H : Hp) (a : Addr) (ws : List Wd) : Prop where
 ex : ∃ ps : List Addr, H a = some (.lst (ps.map V.ref)) /\ Paired (fun p x => H p = some (wdT x)) ps ws
theorem WL.same {H H' : Hp} {a : Addr} {ws : List Wd} (h : WL H a ws) (s : Same H H') : WL H' a ws := by
 obtain ⟨ps, e, p⟩ := h.ex
 exact ⟨ps, s _ _ e, Paired.imp2 p fun _ _ q => s _ _ q⟩
theorem WL.more {H : Hp} {a t : Addr} {ws : List Wd} {x : Wd} {ps : List Addr} (e : H a = some (.lst (ps.map V.ref))) (p : Paired (fun p x => H p = some (wdT x)) ps ws) (ht : H t = none) :
  WL (upd (upd H t (wdT x)) a (.lst (ps.map V.ref ++ [.ref t]))) a (ws ++ [x]) := by
 have hta : t ≠ a := fun z => by rw [z, e] at ht; cases ht
 refine ⟨ps ++ [t], by rw [upd_same, List.map_append]; rfl, ?_⟩
 refine Paired.app (Paired.imp2 p fun q y h => ?_) (by rw [upd_ne hta, upd_same])
 have h1 : q ≠ a := fun z => by rw [z, e] at h; cases h
 have h2 : q ≠ t := ne_of_none h ht
 rw [upd_ne h1, upd_ne h2]
 exact h
def codes (x : Str) : List Nat := x.cps.toList
def Drawn (x : Str) : Prop := x.length <= 2000 /\ (codes x).all okC = true
theorem str_app (a b : List Nat) : (⟨a.toArray⟩ : Str) ++ ⟨b.toArray⟩ = ⟨(a ++ b).toArray⟩ := by
 show (⟨a.toArray ++ b.toArray⟩ : Str) = _
 simp
theorem str_len' (a : List Nat) : (⟨a.toArray⟩ : Str).length = a.length := by simp [Str.length]
theorem empty_str : Str.ofString "" = ⟨([] : List Nat).toArray⟩ := rfl
theorem fit_app {a b : List Nat} (h : a.length + b.length <= 5000) : (⟨a.toArray⟩ : Str).length + (⟨b.toArray⟩ : Str).length <= sizeLine := by
 rw [str_len', str_len', sizeLine_eq]
 omega
theorem str_eq (a b : List Nat) : decide (V.str ⟨a.toArray⟩ = V.str ⟨b.toArray⟩) = decide (a = b) := by
 by_cases h : a = b
 ·subst h; simp
 ·rw [decide_eq_false h]
  exact decide_eq_false fun z => h (by injection z with z; injection z with z; simpa using z)
theorem slice_nat (l : List Nat) {a b : Nat} (hab : a <= b) (hb : b <= l.length) : Txt.slice ⟨l.toArray⟩ (some (a : Int)) (some (b : Int)) = ⟨((l.drop a).take (b - a)).toArray⟩ := by
 have h := PySem.StrLaws.sliceText_nat (⟨l.toArray⟩ : Str) hab (by rw [str_len']; exact hb)
 have e : (⟨l.toArray⟩ : Str).cps.toList = l := by simp
 rw [e] at h
 exact h
theorem lower_eq {z : Str} (h : (codes z).all okC = true) : Txt.lower z = ⟨((codes z).map K01.lo).toArray⟩ := by
 rw [lower_ascii fun c hc => ok_lt (List.all_eq_true.mp h c hc)]
 show (⟨z.cps.map K01.lo⟩ : Str) = _
 congr 1
 unfold codes
 apply Array.toList_inj.mp
 simp
theorem txt_drawn {z : Str} (h : txtV (.str z) = true) : Drawn z := by
 have h' : (decide (z.length <= 2000) && z.cps.toList.all okC) = true := h
 rw [Bool.and_eq_true] at h'
 exact ⟨of_decide_eq_true h'.1, h'.2⟩
def spWIn (K : PySem.W.Frag) (C : Addr) : Sp := fun vs H Q E => ∃ x, vs = [x] /\ Known K H x /\ Fit x /\ (∀ z, x = .str z -> Drawn z -> ∀ a H', Same H H' -> H a = none -> WL H' a (words (codes z)) -> Q (.ref a) H') /\ (txtV x = false -> ∀ H', Same H H' -> E (.ref C) none H')
theorem scWIn : FnScope ["text", "small", "found", "begin", "place", "sign"] ["text"] (defScope sWordsIn) := ⟨rfl, rfl, rfl, by decide +kernel, rfl, by decide +kernel, by decide +kernel⟩
seal PSs PS PE PT PA PG PI PGs PIfs in
theorem ok_win {f ft C : Addr} {fd fdt : FuncData} (D : Df K mg "words_in" sWordsIn f fd) (DT : Df K mg "need_text" sNText ft fdt) (GT : FnOk P w K mg base (CX1 P w) 3 ft fdt ["thing"] (spNeed K txtV C)) (T : Txt mg) : FnOk P w K mg base (CX1 P w) 4 f fd ["text"] (spWIn K C) := by
 obtain ⟨tc, cc⟩ := T.cSmall
 have bT := binds1 (p := "thing") DT.F fun _ _ _ _ _ _ _ => rfl
 refine D.F.ok1 scWIn (fun vs H Q E h => ?_) (fun cdv A outer s H vs Q E hr h => ?_)
 ·obtain ⟨x, rfl, _⟩ := h
  rfl
 ·obtain ⟨x, rfl, hk, hfit, k1, k2⟩ := h
  have hl : (sizeLine : Nat) = 16777216 := sizeLine_eq
  refine ⟨_, pss_cons (ps_set (i := 1) scWIn.nd rfl (Or.inl rfl) (pe_bm0 PySem.F.plainAttrs_str PySem.F.slot_str_lower PySem.F.type_str_lower mt_lower (pe_call GT hr rfl DT.m DT.F.kp bT .nil (pass_out (E' := E) (fun _ _ _ h => h)) (pa_cons (pv 0) pa_nil))))
   (pss_cons (ps_set (i := 2) scWIn.nd rfl (Or.inl rfl) (pe_lst pa_nil)) (pss_cons (ps_set (i := 3) scWIn.nd rfl (Or.inl rfl) pe_int)
   (pss_cons (PS.nox (ps_for PassesOwn.never rfl (pi_enum rfl T.enum (pa_cons (pe_op op_add_str (pv 1) pe_str) pa_nil)) (pg_tup rfl (pgs_cons (pg_name (i := 4) scWIn.nd rfl (Or.inl rfl)) (pgs_cons (pg_name (i := 5) scWIn.nd rfl (Or.inl rfl)) pgs_nil)))
    (pss_one (ps_if (pt_cmpR op_notIn_str (pv 5) (pe_glob (v := .str (Str.ofString "abcdefghijklmnopqrstuvwxyz0123456789")) rfl cc ⟨_, rfl⟩) rfl)
     (pss_cons (ps_if (pt_cmpR op_lt (pv 3) (pv 4) (nomark _))
      (pss_one (ps_expr (pe_bm PySem.F.plainAttrs_list PySem.F.slot_list_append PySem.F.type_list_append mt_append (pv 2) (pa_cons (pe_tup (pa_cons (pe_slice sl_str (pv 1) (po_some (pv 3)) (po_some (pv 4))) (pa_cons (pv 3) (pa_cons (pv 4) pa_nil)))) pa_nil)))) pss_nil)
     (pss_one (ps_set (i := 3) scWIn.nd rfl (Or.inl rfl) (pe_op op_add (pv 4) pe_int)))) pss_nil))))
   (pss_one (ps_ret (pv 2)))))), ?_⟩
  refine ⟨_, rfl, x, rfl, hk, hfit, fun ht H1 s1 => ?_, k2⟩
  obtain ⟨z, rfl⟩ : ∃ z, x = .str z := by cases x <;> first | exact ⟨_, rfl⟩ | cases ht
  have hd := txt_drawn ht
  obtain ⟨hlen, hok⟩ := id hd
  have clen : (codes z).length = z.length := by unfold codes; simp [Str.length]
  refine ⟨rfl, z, rfl, rfl, by (clear clen hok ht hl cc; omega), ?_⟩
  rw [lower_eq hok]
  refine ⟨Nat.zero_le _, fun a ha => ?_⟩
  have ha0 : H a = none := s1.free ha
  refine ⟨_, rfl, _, _, rfl, rfl, fit_app (b := [32]) (by simp; (clear ha0 ha hok ht hl cc; omega)), _, rfl, ?_⟩
  have ebl : (⟨((codes z).map K01.lo).toArray⟩ : Str) ++ Str.ofString " " = ⟨((codes z).map K01.lo ++ [32]).toArray⟩ := str_app _ [32]
  rw [ebl]
  have htot : wgo ((codes z).map K01.lo ++ [32]) 0 [] = words (codes z) := wgo_blank _ 0 []
  have hsz : (⟨((codes z).map K01.lo ++ [32]).toArray⟩ : Str).cps.size = z.length + 1 := by simp [clen]
  refine for_ite (fun i σ H' => ∃ (ds : List Wd) (wd : List Nat) (b : Nat) (v4 v5 : Option V), σ = [some (.str z), some (.str ⟨((codes z).map K01.lo).toArray⟩), some (.ref a), some (.int b), v4, v5] /\ Same H H' /\ WL H' a ds /\ b + wd.length = i /\
    wd = (((codes z).map K01.lo ++ [32]).drop b).take wd.length /\ ds.length <= i /\ i <= z.length + 1 /\ (i = z.length + 1 -> wd = []) /\ ds ++ wgo (((codes z).map K01.lo ++ [32]).drop i) i wd = words (codes z)) ?_ ?_ ?_
  ·exact ⟨[], [], 0, none, none, rfl, Same.upd s1 ha, ⟨[], upd_same, .nil⟩, rfl, rfl, Nat.le_refl _, Nat.zero_le _, fun _ => rfl, htot⟩
  ·intro i c σ H' t hc hP htn
   refine genW fun B D' hB hnB => ?_
   obtain ⟨ds, wd, b, v4, v5, rfl, sm, hW, hb, hwd, hdl, _, hend, heq⟩ := hP
   have hil : i < ((codes z).map K01.lo ++ [32]).length := by
    have : i < (⟨((codes z).map K01.lo ++ [32]).toArray⟩ : Str).cps.size := (Array.getElem?_eq_some_iff.mp hc).1
    simpa using this
   have hil' : i < z.length + 1 := by simpa [clen] using hil
   have hci : ((codes z).map K01.lo ++ [32])[i]? = some c := by simpa using hc
   have hdrop : ((codes z).map K01.lo ++ [32]).drop i = c :: ((codes z).map K01.lo ++ [32]).drop (i + 1) := by
    rw [List.drop_eq_getElem_cons hil]
    congr 1
    rw [List.getElem?_eq_getElem hil] at hci
    exact Option.some.inj hci
   obtain ⟨ps, eA, pA⟩ := hW.ex
   have plen := Paired.len pA
   have smT : Same H (upd H' t (.tup [.int i, .str ⟨#[c]⟩])) := Same.upd sm htn
   have hta : a ≠ t := ne_of_none eA htn
   refine ⟨t, _, rfl, SqT.of upd_same, rfl, _, _, rfl, _, _, rfl, rfl, ?_⟩
   refine lastW (R := B) hB ?_
   refine ⟨_, rfl, _, _, rfl, rfl, _, rfl, ?_⟩
   rw [small_in]
   cases hS : isS c with
   | true =>
    refine iteF ?_
    refine hnB _ _ ⟨ds, wd ++ [c], b, _, _, rfl, smT, hW.same (same_upd htn), by simp; (clear hS hta plen eA hdrop hci hil' hil htn heq hdl hwd hc hsz htot ebl ha0 ha clen hok hlen ht hl cc; omega), ?_, by (clear hS hta plen eA hdrop hci hil' hil htn heq hwd hb hc hsz htot ebl ha0 ha clen hok hlen ht hl cc; omega), by (clear hS hta plen eA hdrop hci hil htn heq hdl hwd hb hc hsz htot ebl ha0 ha clen hok hlen ht hl cc; omega), fun e => ?_, ?_⟩
    ·have hg : (((codes z).map K01.lo ++ [32]).drop b)[wd.length]? = some c := by rw [List.getElem?_drop, hb]; exact hci
     rw [List.length_append, List.length_singleton, List.take_add_one, <- hwd, hg]
     rfl
    ·have e' : i = ((codes z).map K01.lo).length := by rw [List.length_map, clen]; (clear hS hta plen eA hdrop hci hil' hil htn heq hdl hwd hb hc hsz htot ebl ha0 ha clen hok hlen ht hl cc; omega)
     rw [e', List.getElem?_append_right (Nat.le_refl _), Nat.sub_self] at hci
     have : c = 32 := by simpa using hci.symm
     rw [this] at hS
     exact absurd hS (by decide)
    ·rw [hdrop, wgo_small hS] at heq
     exact heq
   | false =>
    refine iteT ?_
    rw [hdrop, wgo_other hS, <- List.append_assoc] at heq
    refine ⟨_, rfl, _, rfl, _, _, rfl, rfl, _, rfl, ?_⟩
    by_cases hbi : b < i
    ·rw [decide_eq_true (by (clear hS hta plen eA hdrop hci hil' hil htn heq hdl hwd hb hc hsz htot ebl ha0 ha clen hok hlen ht hl cc; omega))]
     refine iteT ?_
     have hw0 : wd ≠ [] := fun e => by rw [e] at hb; simp at hb; (clear e hS hta plen eA hdrop hci hil' hil htn heq hdl hwd hc hsz htot ebl ha0 ha clen hok hlen ht hl cc; omega)
     refine ⟨_, rfl, .inl ⟨rfl, _, SqL.of (by rw [upd_ne hta]; exact eA)⟩, _, rfl, _, rfl, _, rfl, _, rfl, _, rfl, _, rfl, by rw [str_len', List.length_map]; (clear hw0 hbi hS hta plen eA hdrop hci hil' hil htn heq hdl hwd hb hc hsz htot ebl ha0 ha hok ht cc; omega), ?_⟩
     rw [slice_nat _ (by (clear hw0 hbi hS hta plen eA hdrop hci hil' hil htn heq hdl hwd hc hsz htot ebl ha0 ha clen hok hlen ht hl cc; omega)) (by rw [List.length_map]; (clear hw0 hbi hS hta plen eA hdrop hci hil htn heq hdl hwd hb hc hsz htot ebl ha0 ha hok hlen ht hl cc; omega))]
     refine ⟨_, rfl, _, rfl, (by show 3 <= sizeLine; decide), fun t2 ht2 => ?_⟩
     have hta2 : a ≠ t2 := ne_of_none (show upd H' t (.tup [.int i, .str ⟨#[c]⟩]) a = some (.lst (ps.map V.ref)) by rw [upd_ne hta]; exact eA) ht2
     refine ⟨a, _, _, rfl, rfl, by rw [upd_ne hta2, upd_ne hta]; exact eA, by simp; (clear hta2 ht2 hw0 hbi hS hta eA hdrop hci hil' hil htn heq hwd hb hc hsz htot ebl ha0 ha clen hok ht cc; omega), ?_⟩
     have ew : ((((codes z).map K01.lo).drop b).take (i - b)) = wd := by
      have e1 : wd.length = i - b := by (clear hta2 ht2 hw0 hbi hS hta plen eA hdrop hci hil' hil htn heq hdl hwd hc hsz htot ebl ha0 ha clen hok hlen ht hl cc; omega)
      rw [e1, List.drop_append_of_le_length (by rw [List.length_map]; (clear e1 hta2 ht2 hw0 hbi hS hta plen eA hdrop hci hil htn heq hdl hwd hc hsz htot ebl ha0 ha hok hlen ht hl cc; omega)), List.take_append_of_le_length (by rw [List.length_drop, List.length_map]; (clear e1 hta2 ht2 hw0 hbi hS hta plen eA hdrop hci hil htn heq hdl hwd hb hc hsz htot ebl ha0 ha hok hlen ht hl cc; omega))] at hwd
      exact hwd.symm
     rw [ew]
     refine ⟨_, rfl, _, _, rfl, rfl, ?_⟩
     have et : HO.tup [V.str ⟨wd.toArray⟩, V.int (b : Int), V.int (i : Int)] = wdT (wd, i - wd.length, i) := by
      unfold wdT
      show HO.tup [_, V.int ((b : Nat) : Int), _] = HO.tup [_, V.int ((i - wd.length : Nat) : Int), _]
      rw [show b = i - wd.length by (clear ew hta2 ht2 hw0 hbi hS hta plen eA hdrop hci hil' hil htn heq hdl hwd hc hsz htot ebl ha0 ha clen hok hlen ht hl cc; omega)]
     rw [et]
     have hfl : flush i wd = [(wd, i - wd.length, i)] := by unfold flush; rw [if_neg hw0]
     rw [hfl] at heq
     refine hnB _ _ ⟨ds ++ [(wd, i - wd.length, i)], [], i + 1, _, _, rfl, same_app smT ha0 ht2, WL.more (by rw [upd_ne hta]; exact eA) (Paired.imp2 pA fun p y q => by rw [upd_ne (ne_of_none q htn)]; exact q) ht2, by simp, by simp, by simp; (clear hfl et ew hta2 ht2 hw0 hbi hS hta plen eA hdrop hci hil' hil htn heq hwd hb hc hsz htot ebl ha0 ha clen hok hlen ht hl cc; omega), by (clear hfl et ew hta2 ht2 hw0 hbi hS hta plen eA hdrop hci hil htn heq hdl hwd hb hc hsz htot ebl ha0 ha clen hok hlen ht hl cc; omega), fun _ => rfl, heq⟩
    ·rw [decide_eq_false (by (clear hS hta plen eA hdrop hci hil' hil htn heq hdl hwd hb hc hsz htot ebl ha0 ha clen hok hlen ht hl cc; omega))]
     refine iteF ?_
     have hw0 : wd = [] := List.eq_nil_of_length_eq_zero (by (clear hS hta plen eA hdrop hci hil' hil htn heq hdl hwd hc hsz htot ebl ha0 ha clen hok hlen ht hl cc; omega))
     subst hw0
     refine ⟨_, rfl, _, _, rfl, rfl, ?_⟩
     refine hnB _ _ ⟨ds, [], i + 1, _, _, rfl, smT, hW.same (same_upd htn), by simp, by simp, by (clear heq hwd hb hbi hS hta plen eA hdrop hci hil' hil htn hc hsz htot ebl ha0 ha clen hok hlen ht hl cc; omega), by (clear heq hwd hb hbi hS hta plen eA hdrop hci hil htn hdl hc hsz htot ebl ha0 ha clen hok hlen ht hl cc; omega), fun _ => rfl, ?_⟩
     simpa [flush] using heq
  ·rintro σ H' ⟨ds, wd, b, v4, v5, rfl, sm, hW, hb, hwd, hdl, hin, hend, heq⟩
   rw [hsz] at hend heq
   have hw0 := hend rfl
   subst hw0
   rw [List.drop_of_length_le (by simp [clen])] at heq
   have e : ds = words (codes z) := by simpa [wgo, flush] using heq
   subst e
   exact ⟨_, rfl, k1 z rfl hd a H' sm ha0 hW⟩
def plainL (ws : List Wd) : List V := ws.map fun x => .str ⟨x.1.toArray⟩
def spPlain (K : PySem.W.Frag) (C : Addr) : Sp := fun vs H Q E => ∃ x, vs = [x] /\ Known K H x /\ Fit x /\ (∀ z, x = .str z -> Drawn z -> ∀ a H', Same H H' -> H a = none -> H' a = some (.lst (plainL (words (codes z)))) -> Q (.ref a) H') /\ (txtV x = false -> ∀ H', Same H H' -> E (.ref C) none H')
theorem scPlain : FnScope ["text"] ["text"] (defScope sPlain) := ⟨rfl, rfl, rfl, by decide +kernel, rfl, by decide +kernel, by decide +kernel⟩
theorem nd3 : (["word", "begin", "end"] : List Str).Nodup := by decide +kernel
seal PSs PS PE PT PA PG PI PGs PIfs in
theorem ok_plain {f ft C : Addr} {fd fdt : FuncData} (D : Df K mg "plain_words" sPlain f fd) (DT : Df K mg "words_in" sWordsIn ft fdt) (GT : FnOk P w K mg base (CX1 P w) 4 ft fdt ["text"] (spWIn K C)) : FnOk P w K mg base (CX1 P w) 5 f fd ["text"] (spPlain K C) := by
 have bT := binds1 (p := "text") DT.F fun _ _ _ _ _ _ _ => rfl
 refine D.F.ok1 scPlain (fun vs H Q E h => ?_) (fun cdv A outer s H vs Q E hr h => ?_)
 ·obtain ⟨x, rfl, _⟩ := h
  rfl
 ·obtain ⟨x, rfl, hk, hfit, k1, k2⟩ := h
  have hl : (sizeLine : Nat) = 16777216 := sizeLine_eq
  refine ⟨_, pss_one (ps_ret (pe_comp (own := 3) (caps := []) (N := ["word", "begin", "end"]) (N0 := ["text"]) (sc0 := defScope sPlain) rfl (pi_list (pe_call GT hr rfl DT.m DT.F.kp bT .nil (pass_out (E' := E) (fun _ _ _ h => h)) (pa_cons (pv 0) pa_nil)))
    (fun _ _ _ => pg_tup (n := 3) rfl (pgs_cons (pg_name (i := 0) nd3 rfl (Or.inl rfl)) (pgs_cons (pg_name (i := 1) nd3 rfl (Or.inl rfl)) (pgs_cons (pg_name (i := 2) nd3 rfl (Or.inl rfl)) pgs_nil)))) (fun _ _ _ => pf_none)
    (fun _ _ _ => pv 0) (gk_tup (gks_cons (gk_name (by decide)) (gks_cons (gk_name (by decide)) (gks_cons (gk_name (by decide)) gks_nil)))) rfl rfl
    (by decide +kernel) rfl (by decide +kernel) (by decide +kernel) rfl (by decide +kernel))), ?_⟩
  refine ⟨_, rfl, x, rfl, hk, hfit, ?_, k2⟩
  rintro z rfl hd a H1 s1 ha hW
  obtain ⟨ps, eA, pA⟩ := hW.ex
  have hwl := words_len (codes z)
  have plen := Paired.len pA
  have clen : (codes z).length = z.length := by unfold codes; simp [Str.length]
  have hdl := hd.1
  refine ⟨a, rfl, ⟨_, SqL.of eA⟩, comp_itl (xs := ps.map V.ref) (fun i ys H' => H' = H1 /\ ys = plainL ((words (codes z)).take i)) (by rw [List.length_map]; (clear eA ha; omega)) (fun i ys H' p => by rw [p.1]; exact SqL.of eA) ⟨rfl, rfl⟩ ?_ ?_⟩
  ·rintro i x ys H' N hx ⟨rfl, rfl⟩ hN
   rw [List.getElem?_map] at hx
   cases hp : ps[i]? with
   | none => rw [hp] at hx; cases hx
   | some p =>
    rw [hp] at hx
    have hx' : x = .ref p := (Option.some.inj hx).symm
    subst hx'
    obtain ⟨y, hy, hH⟩ := paired_get pA hp
    refine ⟨p, _, rfl, SqT.of hH, rfl, _, _, rfl, _, _, rfl, _, _, rfl, rfl, nif ?_⟩
    refine ⟨_, rfl, hN _ _ ⟨rfl, ?_⟩⟩
    unfold plainL
    rw [List.take_add_one, hy, List.map_append]
    rfl
  ·rintro ys H' ⟨rfl, rfl⟩ _ p hp
   refine k1 z rfl hd p _ (Same.upd s1 hp) (s1.free hp) ?_
   rw [upd_same, List.length_map, List.take_of_length_le (by (clear hp eA hdl clen hwl ha hl; omega))]
end
section
variable {P : Program} {w : World} {K : PySem.W.Frag} {mg : Str -> Option Value} {base : Heap}
abbrev nl (ns : List Nat) : List V := ns.map fun (n : Nat) => V.int (n : Int)
theorem nl_app (a b : List Nat) : nl (a ++ b) = nl a ++ nl b := List.map_append
theorem nl_len (a : List Nat) : (nl a).length = a.length := List.length_map _
theorem good_nat {x : V} (h : goodN x 0 none = true) : ∃ n : Nat, x = .int (n : Int) := by
 cases x <;> first | cases h | skip
 rename_i i
 have h' : (decide ((0 : Int) <= i) && true) = true := h
 rw [Bool.and_true] at h'
 exact ⟨i.toNat, by rw [Int.toNat_of_nonneg (of_decide_eq_true h')]⟩
def spNParts : Sp := fun vs H Q _ => ∃ (a : Addr) (ps : List Nat), vs = [.ref a] /\ H a = some (.lst (nl ps)) /\ (∀ p ∈ ps, p <= 255) /\ Q (.ref a) H
theorem scNParts : FnScope ["thing", "part"] ["thing"] (defScope sNParts) := ⟨rfl, rfl, rfl, by decide +kernel, rfl, by decide +kernel, by decide +kernel⟩
theorem known_nat {H : Hp} (n : Int) : Known K H (.int n) := ⟨_, .int n⟩
theorem nl_get {ns : List Nat} {i : Nat} {x : V} (h : (nl ns)[i]? = some x) : ∃ c, ns[i]? = some c /\ x = .int (c : Int) := by
 unfold nl at h
 rw [List.getElem?_map] at h
 cases hp : ns[i]? with
 | none => rw [hp] at h; cases h
 | some c => rw [hp] at h; exact ⟨c, rfl, (Option.some.inj h).symm⟩
seal PSs PS PE PT PA PG PI PGs PIfs in
theorem ok_nparts {f fw : Addr} {fd fdw : FuncData} (D : Df K mg "need_parts" sNParts f fd) (DW : Df K mg "is_whole" sWhole fw fdw) (T : Txt mg) : FnOk P w K mg base CX0 2 f fd ["thing"] spNParts := by
 obtain ⟨tg, cg⟩ := T.cGreat
 have GW : FnOk P w K mg base CX0 1 fw fdw ["thing"] (spWhole K) := ok_whole DW T
 have bW := binds1 (p := "thing") DW.F fun _ _ _ _ _ _ _ => rfl
 refine D.F.ok scNParts (fun vs H Q E h => ?_) (fun cdv A outer s H vs Q E hr h => ?_)
 ·obtain ⟨a, ps, rfl, _⟩ := h
  rfl
 ·obtain ⟨a, ps, rfl, hA, hps, k⟩ := h
  refine ⟨_, pss_cons (ps_if (pt_not (pt_val (pe_callB call_isi rfl T.isi b_isi (pa_cons (pv 0) (pa_cons (pe_bltn (v := .ty "list") rfl T.list b_list rfl) pa_nil))))) (pss_one ps_never) pss_nil)
   (pss_cons (ps_for PassesOwn.never rfl (pi_list (pv 0)) (pg_name (i := 1) scNParts.nd rfl (Or.inl rfl))
    (pss_one (ps_if (PW.pt (pw_or (pt_not (pt_val (pe_call GW hr rfl DW.m DW.F.kp bW .nil pass0 (pa_cons (pv 1) pa_nil)))) (pw_or (pt_cmpR op_lt (pv 1) pe_int (nomark _)) (pw_or1 (pt_cmpR op_gt (pv 1) (pe_glob (v := .int 255) rfl cg ⟨_, rfl⟩) (nomark _)))))) (pss_one ps_never) pss_nil)))
   (pss_one (ps_ret (pv 0)))), ?_⟩
  refine ⟨_, rfl, .ref a, .ty "list", _, true, rfl, .lst hA, .inl ⟨_, rfl, kit_ll⟩, _, rfl, iteF ?_⟩
  refine ⟨_, rfl, a, rfl, ⟨_, SqL.of hA⟩, ?_⟩
  refine for_list (xs := nl ps) (fun i σ H' => H' = H /\ ∃ o, σ = [some (.ref a), o]) ?_ ?_ ?_ ?_
  ·exact ⟨rfl, none, rfl⟩
  ·rintro i σ H' _ ⟨rfl, _⟩
   exact SqL.of hA
  ·rintro i x σ H' hxi ⟨rfl, o, rfl⟩
   obtain ⟨c, hc, rfl⟩ := nl_get hxi
   have hc255 := hps c (List.mem_of_getElem? hc)
   refine ⟨_, rfl, .int c, rfl, known_nat _, _, rfl, iteF ?_⟩
   refine ⟨_, rfl, _, _, rfl, rfl, _, rfl, ?_⟩
   rw [decide_eq_false (by omega)]
   refine iteF ⟨_, rfl, _, _, rfl, rfl, _, rfl, ?_⟩
   rw [decide_eq_false (by omega)]
   exact iteF ⟨rfl, _, rfl⟩
  ·rintro σ H' ⟨rfl, o, rfl⟩
   exact ⟨_, rfl, k⟩
def spUnp : Sp := fun vs H Q _ => ∃ (a : Addr) (ns : List Nat), vs = [.ref a] /\ H a = some (.lst (nl (pk ns))) /\ ns.length <= 2000 /\ ∀ p H', Same H H' -> H p = none -> H' p = some (.lst (nl ns)) -> Q (.ref p) H'
theorem scUnp : FnScope ["parts", "numbers", "number", "weight", "part"] ["parts"] (defScope sUnp) := ⟨rfl, rfl, rfl, by decide +kernel, rfl, by decide +kernel, by decide +kernel⟩
seal PSs PS PE PT PA PG PI PGs PIfs in
theorem ok_unp {f fp : Addr} {fd fdp : FuncData} (D : Df K mg "unpacked" sUnp f fd) (DP : Df K mg "need_parts" sNParts fp fdp) (GP : FnOk P w K mg base CX0 2 fp fdp ["thing"] spNParts) (T : Txt mg) : FnOk P w K mg base CX0 3 f fd ["parts"] spUnp := by
 obtain ⟨tm, cm⟩ := T.cMore
 have bP := binds1 (p := "thing") DP.F fun _ _ _ _ _ _ _ => rfl
 refine D.F.ok scUnp (fun vs H Q E h => ?_) (fun cdv A outer s H vs Q E hr h => ?_)
 ·obtain ⟨a, ns, rfl, _⟩ := h
  rfl
 ·obtain ⟨a, ns, rfl, hA, hlen, k⟩ := h
  have hl : (sizeLine : Nat) = 16777216 := sizeLine_eq
  refine ⟨_, pss_cons (ps_set (i := 1) scUnp.nd rfl (Or.inl rfl) (pe_lst pa_nil))
   (pss_cons (ps_set (i := 2) scUnp.nd rfl (Or.inl rfl) pe_int)
   (pss_cons (ps_set (i := 3) scUnp.nd rfl (Or.inl rfl) pe_int)
   (pss_cons (ps_for PassesOwn.never rfl (pi_list (pe_call GP hr rfl DP.m DP.F.kp bP .nil pass0 (pa_cons (pv 0) pa_nil))) (pg_name (i := 4) scUnp.nd rfl (Or.inl rfl))
    (pss_cons (ps_aug (i := 2) scUnp.nd rfl (Or.inl rfl) (pe_op op_mul (pe_op op_mod (pv 4) (pe_glob (v := .int 128) rfl cm ⟨_, rfl⟩)) (pv 3)) ip_add)
    (pss_one (ps_if (pt_cmpR op_ge (pv 4) (pe_glob (v := .int 128) rfl cm ⟨_, rfl⟩) (nomark _))
     (pss_one (ps_set (i := 3) scUnp.nd rfl (Or.inl rfl) (pe_op op_mul (pv 3) (pe_glob (v := .int 128) rfl cm ⟨_, rfl⟩))))
     (pss_cons (ps_if (PW.pt (pw_and (pt_cmpR op_eq (pv 4) pe_int (nomark _)) (pw_and1 (pt_cmpR op_gt (pv 3) pe_int (nomark _))))) (pss_one ps_never) pss_nil)
     (pss_cons (ps_expr (pe_bm PySem.F.plainAttrs_list PySem.F.slot_list_append PySem.F.type_list_append mt_append (pv 1) (pa_cons (pv 2) pa_nil)))
     (pss_cons (ps_set (i := 2) scUnp.nd rfl (Or.inl rfl) pe_int)
     (pss_one (ps_set (i := 3) scUnp.nd rfl (Or.inl rfl) pe_int)))))))))
   (pss_cons (ps_if (pt_cmpR op_gt (pv 3) pe_int (nomark _)) (pss_one ps_never) pss_nil)
   (pss_one (ps_ret (pv 1))))))), ?_⟩
  refine ⟨(by show 0 <= sizeLine; decide), fun p hp => ?_⟩
  have hap : a ≠ p := ne_of_none hA hp
  refine ⟨_, rfl, a, pk ns, rfl, (by rw [upd_ne hap]; exact hA), pk_part ns, a, rfl, ⟨_, SqL.of (by rw [upd_ne hap]; exact hA)⟩, ?_⟩
  refine for_list (xs := nl (pk ns)) (fun i σ H' => ∃ (done : List Nat) (num wt : Nat) (o : Option V), σ = [some (.ref a), some (.ref p), some (.int num), some (.int wt), o] /\ H' = upd H p (.lst (nl done)) /\ Rd ns ((pk ns).drop i) done num wt) ?_ ?_ ?_ ?_
  ·exact ⟨[], 0, 1, none, rfl, rfl, Rd.start ns⟩
  ·rintro i σ H' _ ⟨done, num, wt, o, _, rfl, _⟩
   exact SqL.of (by rw [upd_ne hap]; exact hA)
  ·rintro i x σ H' hxi ⟨done, num, wt, o, rfl, rfl, hR⟩
   obtain ⟨c, hc, rfl⟩ := nl_get hxi
   have hd : (pk ns).drop i = c :: (pk ns).drop (i + 1) := by
    obtain ⟨hi, e⟩ := List.getElem?_eq_some_iff.mp hc
    rw [List.drop_eq_getElem_cons hi, e]
   rw [hd] at hR
   have hdl := hR.len
   have e1 : (c : Int) % 128 = ((c % 128 : Nat) : Int) := by omega
   refine ⟨_, rfl, _, rfl, _, _, rfl, rfl, (by show (0 : Int) < 128; decide), _, rfl, _, _, rfl, rfl, .inl (by rw [e1]; constructor <;> omega), _, _, rfl, rfl, ?_⟩
   have e2 : (num : Int) + (c : Int) % 128 * (wt : Int) = ((num + c % 128 * wt : Nat) : Int) := by rw [e1, Int.natCast_add, Int.natCast_mul]
   refine ⟨_, rfl, _, _, rfl, rfl, _, rfl, ?_⟩
   by_cases hc128 : (128 : Int) <= c
   ·rw [decide_eq_true hc128]
    refine iteT ?_
    refine ⟨_, rfl, _, _, rfl, rfl, .inr ⟨by decide, by decide⟩, done, num + c % 128 * wt, wt * 128, some (.int c), ?_, rfl, hR.more (by omega)⟩
    simp only [List.set]
    rw [e2, Int.natCast_mul]
    rfl
   ·rw [decide_eq_false hc128]
    refine iteF ?_
    obtain ⟨hz, hR'⟩ := hR.last (c := c) (by omega)
    refine ⟨_, rfl, rfl, _, rfl, ?_⟩
    have e3 : nl done ++ [V.int ((num : Int) + (c : Int) % 128 * (wt : Int))] = nl (done ++ [num + c % 128 * wt]) := by rw [nl_app, e2]; rfl
    by_cases h0 : c = 0
    ·rw [dec_i (by omega)]
     refine iteT ⟨_, rfl, _, _, rfl, rfl, _, rfl, ?_⟩
     rw [decide_eq_false (by omega)]
     refine iteF ?_
     refine ⟨_, rfl, .inl ⟨rfl, _, SqL.of upd_same⟩, _, rfl, p, _, _, rfl, rfl, upd_same, (by rw [nl_len]; omega), done ++ [num + c % 128 * wt], 0, 1, _, rfl, ?_, hR'⟩
     rw [upd_upd]
     exact congrArg (fun z => upd H p (.lst z)) e3
    ·rw [dec_n (by omega)]
     refine iteF (iteF ?_)
     refine ⟨_, rfl, .inl ⟨rfl, _, SqL.of upd_same⟩, _, rfl, p, _, _, rfl, rfl, upd_same, (by rw [nl_len]; omega), done ++ [num + c % 128 * wt], 0, 1, _, rfl, ?_, hR'⟩
     rw [upd_upd]
     exact congrArg (fun z => upd H p (.lst z)) e3
  ·rintro σ H' ⟨done, num, wt, o, rfl, rfl, hR⟩
   rw [nl_len, List.drop_length] at hR
   obtain ⟨hw, hdn⟩ := hR.done
   subst hw hdn
   refine ⟨_, rfl, _, _, rfl, rfl, _, rfl, ?_⟩
   rw [decide_eq_false (by decide)]
   exact iteF ⟨_, rfl, k p _ (same_upd hp) hp upd_same⟩
theorem all_rep (n : Nat) : (List.replicate n true).all id = true := List.all_eq_true.mpr fun b hb => List.eq_of_mem_replicate hb
theorem drop_at {α : Type} {xs : List α} {i : Nat} {x : α} (h : xs[i]? = some x) : xs.drop i = x :: xs.drop (i + 1) := by
 obtain ⟨hi, e⟩ := List.getElem?_eq_some_iff.mp h
 rw [List.drop_eq_getElem_cons hi, e]
def Gp (ns done : List Nat) (l : Nat) (rest : List Nat) : Prop := gaps 0 ns = done ++ gaps l rest /\ ris l rest
theorem Gp.step {ns done : List Nat} {l n : Nat} {r : List Nat} (h : Gp ns done l (n :: r)) : l <= n /\ Gp ns (done ++ [n - l]) (n + 1) r := by
 obtain ⟨e, h⟩ := h
 refine ⟨h.1, ?_, h.2⟩
 rw [e, List.append_assoc]
 rfl
def spNums : Sp := fun vs H Q _ => ∃ (a : Addr) (gs : List Nat), vs = [.ref a] /\ H a = some (.lst (nl gs)) /\ gs.length <= 2000 /\ ∀ p H', Same H H' -> H p = none -> H' p = some (.lst (nl (nums 0 gs))) -> Q (.ref p) H'
theorem scNums : FnScope ["gaps", "numbers", "least", "gap"] ["gaps"] (defScope sNums) := ⟨rfl, rfl, rfl, by decide +kernel, rfl, by decide +kernel, by decide +kernel⟩
seal PSs PS PE PT PA PG PI PGs PIfs in
theorem ok_nums {f : Addr} {fd : FuncData} (D : Df K mg "numbers_by" sNums f fd) : FnOk P w K mg base CX0 1 f fd ["gaps"] spNums := by
 refine D.F.ok scNums (fun vs H Q E h => ?_) (fun cdv A outer s H vs Q E hr h => ?_)
 ·obtain ⟨a, gs, rfl, _⟩ := h
  rfl
 ·obtain ⟨a, gs, rfl, hS, hlen, k⟩ := h
  have hl : (sizeLine : Nat) = 16777216 := sizeLine_eq
  refine ⟨_, pss_cons (ps_set (i := 1) scNums.nd rfl (Or.inl rfl) (pe_lst pa_nil))
   (pss_cons (ps_set (i := 2) scNums.nd rfl (Or.inl rfl) pe_int)
   (pss_cons (ps_for PassesOwn.never rfl (pi_list (pv 0)) (pg_name (i := 3) scNums.nd rfl (Or.inl rfl))
    (pss_cons (ps_expr (pe_bm PySem.F.plainAttrs_list PySem.F.slot_list_append PySem.F.type_list_append mt_append (pv 1) (pa_cons (pe_op op_add (pv 2) (pv 3)) pa_nil)))
    (pss_one (ps_set (i := 2) scNums.nd rfl (Or.inl rfl) (pe_op op_add (pe_op op_add (pv 2) (pv 3)) pe_int)))))
   (pss_one (ps_ret (pv 1))))), ?_⟩
  refine ⟨(by show 0 <= sizeLine; decide), fun p hp => ⟨_, rfl, a, rfl, ⟨_, SqL.of (same_upd hp _ _ hS)⟩, ?_⟩⟩
  refine for_list (xs := nl gs) (fun i σ H' => ∃ (done : List Nat) (l : Nat) (o : Option V), σ = [some (.ref a), some (.ref p), some (.int l), o] /\ H' = upd H p (.lst (nl done)) /\ done.length = i /\ nums 0 gs = done ++ nums l (gs.drop i)) ?_ ?_ ?_ ?_
  ·exact ⟨[], 0, none, rfl, rfl, rfl, rfl⟩
  ·rintro i σ H' _ ⟨done, l, o, _, rfl, _⟩
   exact SqL.of (same_upd hp _ _ hS)
  ·rintro i x σ H' hx ⟨done, l, o, rfl, rfl, hd, hG⟩
   obtain ⟨n, hn, rfl⟩ := nl_get hx
   rw [drop_at hn] at hG
   have hil := (List.getElem?_eq_some_iff.mp hn).1
   refine ⟨_, rfl, .inl ⟨rfl, _, SqL.of upd_same⟩, _, rfl, _, rfl, _, _, rfl, rfl, p, _, _, rfl, rfl, upd_same, (by rw [nl_len]; omega), ?_⟩
   refine ⟨_, rfl, _, rfl, _, _, rfl, rfl, _, _, rfl, rfl, done ++ [l + n], l + n + 1, _, rfl, ?_, by rw [List.length_append, hd]; rfl, ?_⟩
   ·rw [upd_upd, nl_app]
    rfl
   ·rw [hG, List.append_assoc]
    rfl
  ·rintro σ H' ⟨done, l, o, rfl, rfl, hd, hG⟩
   rw [nl_len, List.drop_length] at hG
   have e : nums 0 gs = done := by rw [hG]; exact List.append_nil _
   exact ⟨_, rfl, k p _ (same_upd hp) hp (by rw [upd_same, e])⟩
inductive PrAt (H : Hp) : V -> Pr -> Prop where
 | mk {p t : Addr} {n : Nat} {pl : List Nat} (h : H p = some (.tup [.int (n : Int), .ref t])) (ht : H t = some (.tup (nl pl))) : PrAt H (.ref p) (n, pl)
theorem PrAt.same {H H' : Hp} {x : V} {r : Pr} (h : PrAt H x r) (s : Same H H') : PrAt H' x r := by
 cases h with
 | mk h ht => exact .mk (s _ _ h) (s _ _ ht)
def RowAt (H : Hp) (a : Addr) (row : List Pr) : Prop := ∃ xs, H a = some (.lst xs) /\ Paired (PrAt H) xs row
theorem RowAt.same {H H' : Hp} {a : Addr} {r : List Pr} (h : RowAt H a r) (s : Same H H') : RowAt H' a r := let ⟨xs, h1, h2⟩ := h; ⟨xs, s _ _ h1, Gn.Paired.imp2 h2 fun _ _ q => q.same s⟩
theorem cut_mid (A M B : List V) : cutV (A ++ (M ++ B)) (some (A.length : Int)) (some ((A.length + M.length : Nat) : Int)) = M := by
 unfold cutV
 rw [HT.sIx_nat, HT.sIx_nat, List.length_append, List.length_append]
 rw [Nat.min_eq_left (by omega), Nat.min_eq_left (by omega), List.drop_left, Nat.add_sub_cancel_left, List.take_left]
theorem at_pre {α : Type} (A : List α) (x : α) (B : List α) : (A ++ x :: B)[A.length]? = some x := by
 rw [List.getElem?_append_right (Nat.le_refl _), Nat.sub_self]
 rfl
theorem at_pre1 {α : Type} (A : List α) (x y : α) (B : List α) : (A ++ x :: y :: B)[A.length + 1]? = some y := by
 rw [List.getElem?_append_right (by omega), Nat.add_sub_cancel_left]
 rfl
theorem nl_at {ns : List Nat} {i c : Nat} (h : ns[i]? = some c) : (nl ns)[i]? = some (.int (c : Int)) := by rw [List.getElem?_map, h]; rfl
theorem PrAt.lst {H H4 : Hp} {x : V} {r : Pr} {pR : Addr} {ys zs : List V} (h : PrAt H x r) (s : Same H H4) (hR : H pR = some (.lst ys)) : PrAt (upd H4 pR (.lst zs)) x r := by
 cases h with
 | mk h ht =>
  rename_i p t n pl
  refine .mk (t := t) ?_ ?_
  ·rw [upd_ne (fun z => by rw [z, hR] at h; cases h)]
   exact s _ _ h
  ·rw [upd_ne (fun z => by rw [z, hR] at ht; cases ht)]
   exact s _ _ ht
def spNN : Sp := fun vs H Q _ => ∃ n : Nat, vs = [.int (n : Int), .int 0, .non] /\ Q (.int (n : Int)) H
seal PSs PS PE PT PA PG PI PGs PIfs in
theorem ok_nn {f fw : Addr} {fd fdw : FuncData} (D : DfD K mg "need_number" sNNum f fd #[.none]) (DW : Df K mg "is_whole" sWhole fw fdw) (T : Txt mg) : FnOk P w K mg base (CX1 P w) 2 f fd ["thing", "least", "most"] spNN := by
 have GW : FnOk P w K mg base CX0 1 fw fdw ["thing"] (spWhole K) := ok_whole DW T
 have bW := binds1 (p := "thing") DW.F fun _ _ _ _ _ _ _ => rfl
 refine D.ok1 scNNum (fun vs H Q E h => ?_) (fun cdv A outer s H vs Q E hr h => ?_)
 ·obtain ⟨n, rfl, _⟩ := h
  rfl
 ·obtain ⟨n, rfl, k⟩ := h
  refine ⟨_, pss_cons (ps_if (pt_not (pt_val (pe_call GW hr rfl DW.m DW.F.kp bW .nil pass0 (pa_cons (pv 0) pa_nil)))) (pss_one ps_never) pss_nil)
   (pss_cons (ps_if (pt_cmpR op_lt (pv 0) (pv 1) (nomark _)) (pss_one ps_never) pss_nil)
   (pss_cons (ps_if (PW.pt (pw_and (pt_cmp (pc_notN (pv 2))) (pw_and1 (pt_cmpR op_gt (pv 0) (pv 2) (nomark _))))) (pss_one ps_never) pss_nil)
   (pss_one (ps_ret (pv 0))))), ?_⟩
  refine ⟨_, rfl, .int (n : Int), rfl, known_nat _, _, rfl, iteF ?_⟩
  refine ⟨_, rfl, _, rfl, _, _, rfl, rfl, _, rfl, ?_⟩
  rw [decide_eq_false (by omega)]
  exact iteF ⟨_, rfl, _, rfl, iteF (iteF ⟨_, rfl, k⟩)⟩
def spOne : Sp := fun vs H Q _ => ∃ n : Nat, vs = [.int n] /\ (pk1 n).length <= 2000 /\ ∀ p H', Same H H' -> H p = none -> H' p = some (.lst (nl (pk1 n))) -> Q (.ref p) H'
theorem scOne : FnScope ["number", "parts", "rest"] ["number"] (defScope sOne) := ⟨rfl, rfl, rfl, by decide +kernel, rfl, by decide +kernel, by decide +kernel⟩
seal PSs PS PE PT PA PG PI PGs PIfs in
theorem ok_one {f : Addr} {fd : FuncData} (D : Df K mg "parts_of_one" sOne f fd) (T : Txt mg) : FnOk P w K mg base CX0 1 f fd ["number"] spOne := by
 obtain ⟨tm, cm⟩ := T.cMore
 refine D.F.ok scOne (fun vs H Q E h => ?_) (fun cdv A outer s H vs Q E hr h => ?_)
 ·obtain ⟨n, rfl, _⟩ := h
  rfl
 ·obtain ⟨n, rfl, hn, k⟩ := h
  have hl : (sizeLine : Nat) = 16777216 := sizeLine_eq
  refine ⟨_, pss_cons (ps_set (i := 1) scOne.nd rfl (Or.inl rfl) (pe_lst pa_nil))
   (pss_cons (ps_set (i := 2) scOne.nd rfl (Or.inl rfl) (pv 0))
   (pss_cons (ps_while PassesOwn.never (pt_cmpR op_ge (pv 2) (pe_glob (v := .int 128) rfl cm ⟨_, rfl⟩) (nomark _))
    (pss_cons (ps_expr (pe_bm PySem.F.plainAttrs_list PySem.F.slot_list_append PySem.F.type_list_append mt_append (pv 1) (pa_cons (pe_op op_add (pe_glob (v := .int 128) rfl cm ⟨_, rfl⟩) (pe_op op_mod (pv 2) (pe_glob (v := .int 128) rfl cm ⟨_, rfl⟩))) pa_nil)))
    (pss_one (ps_set (i := 2) scOne.nd rfl (Or.inl rfl) (pe_op op_fdiv (pv 2) (pe_glob (v := .int 128) rfl cm ⟨_, rfl⟩))))))
   (pss_cons (ps_expr (pe_bm PySem.F.plainAttrs_list PySem.F.slot_list_append PySem.F.type_list_append mt_append (pv 1) (pa_cons (pv 2) pa_nil)))
   (pss_one (ps_ret (pv 1)))))), ?_⟩
  refine ⟨(by show 0 <= sizeLine; decide), fun p hp => ⟨_, rfl, ?_⟩⟩
  refine while_by (fun σ H' => ∃ (r : Nat) (ys : List Nat), σ = [some (.int n), some (.ref p), some (.int r)] /\ H' = upd H p (.lst (nl ys)) /\ pk1 n = ys ++ pk1 r) (fun σ _ => match σ with | [_, _, some (.int r)] => r.toNat | _ => 0) ⟨n, [], rfl, rfl, rfl⟩ ?_ ?_
  ·rintro σ H' ⟨r, ys, rfl, rfl, he⟩
   have hyl : ys.length <= 2000 := by rw [he, List.length_append] at hn; omega
   refine ⟨_, rfl, _, _, rfl, rfl, _, rfl, ?_⟩
   by_cases hr : (128 : Int) <= r
   ·rw [decide_eq_true hr]
    refine iteT ?_
    have hr' : ¬ r < 128 := by omega
    refine ⟨_, rfl, .inl ⟨rfl, _, SqL.of upd_same⟩, ?_⟩
    refine ⟨_, rfl, _, _, rfl, rfl, (by show (0 : Int) < 128; decide), _, _, rfl, rfl, p, _, _, rfl, rfl, upd_same, (by rw [List.length_map]; omega), ?_⟩
    refine ⟨_, rfl, _, _, rfl, rfl, ⟨by decide, by decide⟩, ?_⟩
    refine ⟨⟨r / 128, ys ++ [128 + r % 128], ?_, ?_, ?_⟩, ?_⟩
    ·simp only [List.set]
     have : ((r : Int) / 128) = ((r / 128 : Nat) : Int) := by omega
     rw [this]
    ·rw [upd_upd]
     congr 2
     unfold nl
     rw [List.map_append]
     congr 1
    ·rw [he, pk1_ge hr']
     simp
    ·show ((r : Int) / 128).toNat < (r : Int).toNat
     omega
   ·rw [decide_eq_false hr]
    refine iteF ?_
    have hr' : r < 128 := by omega
    refine ⟨_, rfl, .inl ⟨rfl, _, SqL.of upd_same⟩, _, rfl, p, _, _, rfl, rfl, upd_same, (by rw [List.length_map]; omega), ?_⟩
    refine ⟨_, rfl, k p _ ?_ hp ?_⟩
    ·rw [upd_upd]
     exact same_upd hp
    ·rw [upd_same, he, pk1_lt hr']
     unfold nl
     rw [List.map_append]
     rfl
  ·intro σ H' Q1 Q2 hq h
   obtain ⟨x, h1, i, j, e1, e2, h2⟩ := h
   exact ⟨x, h1, i, j, e1, e2, let ⟨b, e, z⟩ := h2; ⟨b, e, hq _ _ z⟩⟩
def spPacked (K : PySem.W.Frag) : Sp := fun vs H Q _ => ∃ (a : Addr) (ns : List Nat), vs = [.ref a] /\ SqL K H a (nl ns) /\ (pk ns).length <= 2000 /\ ∀ p H', Same H H' -> H p = none -> H' p = some (.lst (nl (pk ns))) -> Q (.ref p) H'
theorem scPacked : FnScope ["numbers", "parts", "number"] ["numbers"] (defScope sPacked) := ⟨rfl, rfl, rfl, by decide +kernel, rfl, by decide +kernel, by decide +kernel⟩
seal PSs PS PE PT PA PG PI PGs PIfs in
theorem ok_packed {f fo fn : Addr} {fd fdo fdn : FuncData} (D : Df K mg "packed" sPacked f fd) (DO : Df K mg "parts_of_one" sOne fo fdo) (GO : FnOk P w K mg base CX0 1 fo fdo ["number"] spOne)
  (DN : DfD K mg "need_number" sNNum fn fdn #[.none]) (GN : FnOk P w K mg base (CX1 P w) 2 fn fdn ["thing", "least", "most"] spNN) : FnOk P w K mg base CX0 3 f fd ["numbers"] (spPacked K) := by
 have bO := binds1 (p := "number") DO.F fun _ _ _ _ _ _ _ => rfl
 have bN2 := DN.binds (ps := ["thing", "least", "most"]) (ds := [.none]) fun T kV doc pm an cdv ct us hl => match us, (show us.length = 2 by simpa using hl) with | [_, _], _ => ⟨_, rfl, rfl⟩
 refine D.F.ok scPacked (fun vs H Q E h => ?_) (fun cdv A outer s H vs Q E hr h => ?_)
 ·obtain ⟨a, ns, rfl, _⟩ := h
  rfl
 ·obtain ⟨a, ns, rfl, hS, hpl, k⟩ := h
  have hl : (sizeLine : Nat) = 16777216 := sizeLine_eq
  refine ⟨_, pss_cons (ps_set (i := 1) scPacked.nd rfl (Or.inl rfl) (pe_lst pa_nil))
   (pss_cons (ps_for PassesOwn.never rfl (pi_list (pv 0)) (pg_name (i := 2) scPacked.nd rfl (Or.inl rfl))
    (pss_one (ps_expr (pe_bm PySem.F.plainAttrs_list PySem.F.slot_list_extend PySem.F.type_list_extend mt_extend (pv 1)
     (pa_cons (pe_call (GO.mono (by decide)) hr rfl DO.m DO.F.kp bO .nil pass0 (pa_cons (pe_call GN hr rfl DN.m DN.kp bN2 (dvs := [.non]) (.cons rfl .nil) passN (pa_cons (pv 2) (pa_cons pe_int pa_nil))) pa_nil)) pa_nil)))))
   (pss_one (ps_ret (pv 1)))), ?_⟩
  refine ⟨(by show 0 <= sizeLine; decide), fun p hp => ⟨_, rfl, a, rfl, ⟨_, (same_upd hp).seq hS⟩, ?_⟩⟩
  refine for_list (xs := nl ns) (fun i σ H' => ∃ (o : Option V), σ = [some (.ref a), some (.ref p), o] /\ Same H H' /\ H' p = some (.lst (nl (pk (ns.take i))))) ?_ ?_ ?_ ?_
  ·exact ⟨none, rfl, same_upd hp, upd_same⟩
  ·rintro i σ H' _ ⟨o, _, sm, _⟩
   exact sm.seq hS
  ·rintro i x σ H' hxi ⟨o, rfl, sm, hP⟩
   obtain ⟨n, hn, rfl⟩ := nl_get hxi
   have e1 : pk (ns.take (i + 1)) = pk (ns.take i) ++ pk1 n := by rw [List.take_add_one, hn, pk_app]; exact congrArg _ (pk_one n)
   have e2 : pk ns = pk (ns.take (i + 1)) ++ pk (ns.drop (i + 1)) := by rw [<- pk_app, List.take_append_drop]
   have hle : (pk (ns.take i)).length + (pk1 n).length <= 2000 := by
    rw [e2, List.length_append, e1, List.length_append] at hpl
    omega
   refine ⟨_, rfl, .inl ⟨rfl, _, SqL.of hP⟩, _, rfl, n, rfl, n, rfl, by omega, fun p2 H2 s2 hp2 hP2 => ?_⟩
   refine ⟨p, p2, _, _, rfl, rfl, s2 _ _ hP, hP2, (by rw [nl_len, nl_len]; omega), _, rfl, fun b u e => ?_, ?_⟩
   ·rw [upd_ne (ne_of_none e hp)]
    exact s2 _ _ (sm _ _ e)
   ·rw [upd_same, e1, nl_app]
  ·rintro σ H' ⟨o, rfl, sm, hP⟩
   rw [nl_len, List.take_length] at hP
   exact ⟨_, rfl, k p H' sm hp hP⟩
theorem scRis : FnScope ["numbers", "least", "number"] ["numbers"] (defScope sRis) := ⟨rfl, rfl, rfl, by decide +kernel, rfl, by decide +kernel, by decide +kernel⟩
def spRis (K : PySem.W.Frag) (S : PySem.W.Frag -> Hp -> Addr -> List V -> Prop) : Sp := fun vs H Q _ => ∃ (a : Addr) (ns : List Nat), vs = [.ref a] /\ S K H a (nl ns) /\ ris 0 ns /\ Q (.bl true) H
seal PSs PS PE PT PA PG PI PGs PIfs in
theorem ok_risL {f fw : Addr} {fd fdw : FuncData} (D : Df K mg "is_rising" sRis f fd) (DW : Df K mg "is_whole" sWhole fw fdw) (T : Txt mg) : FnOk P w K mg base CX0 2 f fd ["numbers"] (spRis K SqL) := by
 have GW : FnOk P w K mg base CX0 1 fw fdw ["thing"] (spWhole K) := ok_whole DW T
 have bW := binds1 (p := "thing") DW.F fun _ _ _ _ _ _ _ => rfl
 refine D.F.ok scRis (fun vs H Q E h => ?_) (fun cdv A outer s H vs Q E hr h => ?_)
 ·obtain ⟨a, xs, rfl, _⟩ := h
  rfl
 ·obtain ⟨a, ns, rfl, hS, hris, k⟩ := h
  refine ⟨_, pss_cons (ps_set (i := 1) scRis.nd rfl (Or.inl rfl) pe_int)
   (pss_cons (ps_for PassesOwn.never rfl (pi_list (pv 0)) (pg_name (i := 2) scRis.nd rfl (Or.inl rfl))
    (pss_cons (ps_if (PW.pt (pw_or (pt_not (pt_val (pe_call GW hr rfl DW.m DW.F.kp bW .nil pass0 (pa_cons (pv 2) pa_nil)))) (pw_or1 (pt_cmpR op_lt (pv 2) (pv 1) (nomark _))))) (pss_one (ps_ret pe_bl)) pss_nil)
    (pss_one (ps_set (i := 1) scRis.nd rfl (Or.inl rfl) (pe_op op_add (pv 2) pe_int)))))
   (pss_one (ps_ret pe_bl))), ?_⟩
  refine ⟨_, rfl, a, rfl, ⟨_, hS⟩, ?_⟩
  refine for_list (xs := nl ns) (fun i σ H' => H' = H /\ ∃ (l : Nat) (o : Option V), σ = [some (.ref a), some (.int (l : Int)), o] /\ ris l (ns.drop i)) ?_ ?_ ?_ ?_
  ·exact ⟨rfl, 0, none, rfl, hris⟩
  ·rintro i σ H' _ ⟨rfl, _⟩
   exact hS
  ·rintro i x σ H' hx ⟨rfl, l, o, rfl, he⟩
   obtain ⟨n, hn, rfl⟩ := nl_get hx
   rw [drop_at hn] at he
   refine ⟨_, rfl, .int (n : Int), rfl, known_nat _, _, rfl, iteF ⟨_, rfl, _, rfl, _, _, rfl, rfl, _, rfl, ?_⟩⟩
   have h1 := he.1
   rw [decide_eq_false (by omega)]
   exact iteF ⟨_, rfl, _, _, rfl, rfl, rfl, n + 1, _, rfl, he.2⟩
  ·rintro σ H' ⟨rfl, l, o, rfl, he⟩
   exact k
seal PSs PS PE PT PA PG PI PGs PIfs in
theorem ok_risT {f fw : Addr} {fd fdw : FuncData} (D : Df K mg "is_rising" sRis f fd) (DW : Df K mg "is_whole" sWhole fw fdw) (T : Txt mg) : FnOk P w K mg base CX0 2 f fd ["numbers"] (spRis K SqT) := by
 have GW : FnOk P w K mg base CX0 1 fw fdw ["thing"] (spWhole K) := ok_whole DW T
 have bW := binds1 (p := "thing") DW.F fun _ _ _ _ _ _ _ => rfl
 refine D.F.ok scRis (fun vs H Q E h => ?_) (fun cdv A outer s H vs Q E hr h => ?_)
 ·obtain ⟨a, xs, rfl, _⟩ := h
  rfl
 ·obtain ⟨a, ns, rfl, hS, hris, k⟩ := h
  refine ⟨_, pss_cons (ps_set (i := 1) scRis.nd rfl (Or.inl rfl) pe_int)
   (pss_cons (ps_for PassesOwn.never rfl (pi_tup (pv 0)) (pg_name (i := 2) scRis.nd rfl (Or.inl rfl))
    (pss_cons (ps_if (PW.pt (pw_or (pt_not (pt_val (pe_call GW hr rfl DW.m DW.F.kp bW .nil pass0 (pa_cons (pv 2) pa_nil)))) (pw_or1 (pt_cmpR op_lt (pv 2) (pv 1) (nomark _))))) (pss_one (ps_ret pe_bl)) pss_nil)
    (pss_one (ps_set (i := 1) scRis.nd rfl (Or.inl rfl) (pe_op op_add (pv 2) pe_int)))))
   (pss_one (ps_ret pe_bl))), ?_⟩
  refine ⟨_, rfl, a, rfl, ⟨_, hS⟩, ?_⟩
  refine for_tup (xs := nl ns) (fun i σ H' => H' = H /\ ∃ (l : Nat) (o : Option V), σ = [some (.ref a), some (.int (l : Int)), o] /\ ris l (ns.drop i)) ?_ ?_ ?_ ?_
  ·exact ⟨rfl, 0, none, rfl, hris⟩
  ·rintro i σ H' _ ⟨rfl, _⟩
   exact hS
  ·rintro i x σ H' hx ⟨rfl, l, o, rfl, he⟩
   obtain ⟨n, hn, rfl⟩ := nl_get hx
   rw [drop_at hn] at he
   refine ⟨_, rfl, .int (n : Int), rfl, known_nat _, _, rfl, iteF ⟨_, rfl, _, rfl, _, _, rfl, rfl, _, rfl, ?_⟩⟩
   have h1 := he.1
   rw [decide_eq_false (by omega)]
   exact iteF ⟨_, rfl, _, _, rfl, rfl, rfl, n + 1, _, rfl, he.2⟩
  ·rintro σ H' ⟨rfl, l, o, rfl, he⟩
   exact k
def spHasP : Sp := fun vs H Q _ => ∃ (x : V) (r : Pr), vs = [x] /\ PrAt H x r /\ r.2 ≠ [] /\ ris 0 r.2 /\ Q (.bl true) H
theorem scHasP : FnScope ["thing", "places"] ["thing"] (defScope sHasP) := ⟨rfl, rfl, rfl, by decide +kernel, rfl, by decide +kernel, by decide +kernel⟩
seal PSs PS PE PT PA PG PI PGs PIfs in
theorem ok_hasp {f fr : Addr} {fd fdr : FuncData} (D : Df K mg "has_places" sHasP f fd) (DR : Df K mg "is_rising" sRis fr fdr) (GR : FnOk P w K mg base CX0 2 fr fdr ["numbers"] (spRis K SqT)) (T : Txt mg) : FnOk P w K mg base CX0 3 f fd ["thing"] spHasP := by
 have bR := binds1 (p := "numbers") DR.F fun _ _ _ _ _ _ _ => rfl
 refine D.F.ok scHasP (fun vs H Q E h => ?_) (fun cdv A outer s H vs Q E hr h => ?_)
 ·obtain ⟨x, b, rfl, _⟩ := h
  rfl
 ·obtain ⟨x, r, rfl, hp, h0, hris, k⟩ := h
  refine ⟨_, pss_cons (ps_if (PW.pt (pw_or (pt_not (pt_val (pe_callB call_isi rfl T.isi b_isi (pa_cons (pv 0) (pa_cons (pe_bltn (v := .ty "tuple") rfl T.tuple b_tuple rfl) pa_nil)))))
    (pw_or1 (pt_cmpR op_ne (pe_callB call_len_seq rfl T.len b_len (pa_cons (pv 0) pa_nil)) pe_int (nomark _))))) (pss_one (ps_ret pe_bl)) pss_nil)
   (pss_cons (ps_set (i := 1) scHasP.nd rfl (Or.inl rfl) (pe_ix ix_tup (pv 0) pe_int (fun _ _ => rfl)))
   (pss_one (ps_ret (pe_and (pe_callB call_isi rfl T.isi b_isi (pa_cons (pv 1) (pa_cons (pe_bltn (v := .ty "tuple") rfl T.tuple b_tuple rfl) pa_nil)))
    (pe_and (pe_cmpR op_gt (pe_callB call_len_seq rfl T.len b_len (pa_cons (pv 1) pa_nil)) pe_int (nomark _)) (pe_one (pe_call GR hr rfl DR.m DR.F.kp bR .nil pass0 (pa_cons (pv 1) pa_nil)))))))), ?_⟩
  cases hp with
  | mk h ht =>
   rename_i p t n pl
   refine ⟨_, rfl, .ref p, .ty "tuple", _, _, rfl, .tup h, .inl ⟨_, rfl, kit_tt⟩, _, rfl, iteF ?_⟩
   refine ⟨_, rfl, p, _, rfl, .inr (SqT.of h), rfl, _, rfl, iteF ?_⟩
   refine ⟨_, rfl, p, _, _, _, rfl, rfl, SqT.of h, atI_nat (j := 1) rfl, ?_⟩
   refine ⟨_, rfl, .ref t, .ty "tuple", _, _, rfl, .tup ht, .inl ⟨_, rfl, kit_tt⟩, _, rfl, iteT ?_⟩
   refine ⟨_, rfl, t, _, rfl, .inr (SqT.of ht), _, _, rfl, rfl, _, rfl, ?_⟩
   have h1 : 0 < (nl pl).length := by rw [nl_len]; exact List.length_pos_iff.mpr h0
   rw [decide_eq_true (show (0 : Int) < (((nl pl).length : Nat) : Int) by omega)]
   exact iteT ⟨_, rfl, t, pl, rfl, SqT.of ht, hris, k⟩
def spNRow : Sp := fun vs H Q _ => ∃ (a : Addr) (row : List Pr), vs = [.ref a] /\ RowAt H a row /\ RowOk 0 row /\ row.length <= 2000 /\ ∀ H', Same H H' -> Q (.ref a) H'
theorem scNRow : FnScope ["thing"] ["thing"] (defScope sNRow) := ⟨rfl, rfl, rfl, by decide +kernel, rfl, by decide +kernel, by decide +kernel⟩
theorem ndPair : (["pair"] : List Str).Nodup := by decide +kernel
theorem ndNP : (["number", "places"] : List Str).Nodup := by decide +kernel
seal PSs PS PE PT PA PG PI PGs PIfs in
theorem ok_nrow {f fr fh : Addr} {fd fdr fdh : FuncData} (D : Df K mg "need_row" sNRow f fd) (DR : Df K mg "is_rising" sRis fr fdr) (GR : FnOk P w K mg base CX0 2 fr fdr ["numbers"] (spRis K SqL))
  (DH : Df K mg "has_places" sHasP fh fdh) (GH : FnOk P w K mg base CX0 3 fh fdh ["thing"] spHasP) (T : Txt mg) : FnOk P w K mg base CX0 4 f fd ["thing"] spNRow := by
 have bR := binds1 (p := "numbers") DR.F fun _ _ _ _ _ _ _ => rfl
 have bH := binds1 (p := "thing") DH.F fun _ _ _ _ _ _ _ => rfl
 refine D.F.ok scNRow (fun vs H Q E h => ?_) (fun cdv A outer s H vs Q E hr h => ?_)
 ·obtain ⟨a, row, rfl, _⟩ := h
  rfl
 ·obtain ⟨a, row, rfl, ⟨xs, hA, hp⟩, ho, hlen, k⟩ := h
  have hl : (sizeLine : Nat) = 16777216 := sizeLine_eq
  have hxl := Gn.Paired.len hp
  refine ⟨_, pss_cons (ps_if (pt_not (pt_val (pe_callB call_isi rfl T.isi b_isi (pa_cons (pv 0) (pa_cons (pe_bltn (v := .ty "list") rfl T.list b_list rfl) pa_nil))))) (pss_one ps_never) pss_nil)
   (pss_cons (ps_if (pt_not (pt_val (pe_callB (call_all_bools rfl) rfl T.all b_all (pa_cons (pe_comp (own := 1) (caps := []) (N := ["pair"]) (N0 := ["thing"]) (sc0 := defScope sNRow) rfl (pi_list (pv 0))
    (fun _ _ _ => pg_name (i := 0) ndPair rfl (Or.inl rfl)) (fun _ _ _ => pf_none) (fun _ _ _ => pe_call (GH.mono (by decide)) hr rfl DH.m DH.F.kp bH .nil pass0 (pa_cons (pv 0) pa_nil)) (gk_name (by decide)) rfl rfl
    (by decide +kernel) rfl (by decide +kernel) (by decide +kernel) rfl (by decide +kernel)) pa_nil)))) (pss_one ps_never) pss_nil)
   (pss_cons (ps_if (pt_not (pt_val (pe_call (GR.mono (by decide)) hr rfl DR.m DR.F.kp bR .nil pass0 (pa_cons (pe_comp (own := 2) (caps := []) (N := ["number", "places"]) (N0 := ["thing"]) (sc0 := defScope sNRow) rfl (pi_list (pv 0))
    (fun _ _ _ => pg_tup (n := 2) rfl (pgs_cons (pg_name (i := 0) ndNP rfl (Or.inl rfl)) (pgs_cons (pg_name (i := 1) ndNP rfl (Or.inl rfl)) pgs_nil))) (fun _ _ _ => pf_none) (fun _ _ _ => pv 0) (gk_tup (gks_cons (gk_name (by decide)) (gks_cons (gk_name (by decide)) gks_nil))) rfl rfl
    (by decide +kernel) rfl (by decide +kernel) (by decide +kernel) rfl (by decide +kernel)) pa_nil)))) (pss_one ps_never) pss_nil)
   (pss_one (ps_ret (pv 0))))), ?_⟩
  refine ⟨_, rfl, .ref a, .ty "list", _, _, rfl, .lst hA, .inl ⟨_, rfl, kit_ll⟩, _, rfl, iteF ?_⟩
  refine ⟨_, rfl, a, rfl, ⟨_, SqL.of hA⟩, comp_itl (xs := xs) (fun i ys H' => H' = H /\ ys = (List.replicate i true).map V.bl) (by omega) (fun i ys H' q => by rw [q.1]; exact SqL.of hA) ⟨rfl, rfl⟩ ?_ ?_⟩
  ·rintro i v ys H' N hv ⟨rfl, rfl⟩ hN
   obtain ⟨r, hr', hpr⟩ := paired_get hp hv
   have hm := ho.p r (List.mem_of_getElem? hr')
   refine g1 ?_
   exact ⟨_, rfl, v, r, rfl, hpr, hm.1, hm.2, hN _ _ ⟨rfl, by rw [List.replicate_succ', List.map_append]; rfl⟩⟩
  ·rintro ys H' ⟨rfl, rfl⟩ _ q hq
   refine ⟨q, List.replicate xs.length true, rfl, SqL.of upd_same, ?_⟩
   rw [all_rep]
   refine ⟨_, rfl, iteF ?_⟩
   have s1 : Same H' (upd H' q (.lst ((List.replicate xs.length true).map V.bl))) := same_upd hq
   generalize upd H' q (.lst ((List.replicate xs.length true).map V.bl)) = H1 at s1 ⊢
   refine ⟨_, rfl, a, rfl, ⟨_, SqL.of (s1 _ _ hA)⟩, comp_itl (xs := xs) (fun i ys H2 => H2 = H1 /\ ys = (nl (row.map (·.1))).take i) (by omega) (fun i ys H2 q => by rw [q.1]; exact SqL.of (s1 _ _ hA)) ⟨rfl, rfl⟩ ?_ ?_⟩
   ·rintro i v ys H2 N hv ⟨rfl, rfl⟩ hN
    obtain ⟨r, hr', hpr⟩ := paired_get hp hv
    cases hpr with
    | mk h ht =>
     refine ⟨_, _, rfl, SqT.of (s1 _ _ h), rfl, _, _, rfl, _, _, rfl, rfl, nif ?_⟩
     refine ⟨_, rfl, hN _ _ ⟨rfl, ?_⟩⟩
     rw [List.take_add_one, List.getElem?_map, List.getElem?_map, hr']
     rfl
   ·rintro ys H2 ⟨rfl, rfl⟩ _ q2 hq2
    have hnl : (nl (row.map (·.1))).length = row.length := by rw [nl_len, List.length_map]
    rw [List.take_of_length_le (by omega)]
    exact ⟨q2, row.map (·.1), rfl, SqL.of upd_same, ho.n, _, rfl, iteF ⟨_, rfl, k _ (Same.upd s1 hq2)⟩⟩
def spGaps (K : PySem.W.Frag) (S : PySem.W.Frag -> Hp -> Addr -> List V -> Prop) : Sp := fun vs H Q _ => ∃ (a : Addr) (ns : List Nat), vs = [.ref a] /\ S K H a (nl ns) /\ ris 0 ns /\ ns.length <= 2000 /\ ∀ p H', Same H H' -> H p = none -> H' p = some (.lst (nl (gaps 0 ns))) -> Q (.ref p) H'
theorem scGaps : FnScope ["numbers", "gaps", "least", "number"] ["numbers"] (defScope sGaps) := ⟨rfl, rfl, rfl, by decide +kernel, rfl, by decide +kernel, by decide +kernel⟩
seal PSs PS PE PT PA PG PI PGs PIfs in
theorem ok_gapsL {f : Addr} {fd : FuncData} (D : Df K mg "gaps_of" sGaps f fd) : FnOk P w K mg base CX0 1 f fd ["numbers"] (spGaps K SqL) := by
 refine D.F.ok scGaps (fun vs H Q E h => ?_) (fun cdv A outer s H vs Q E hr h => ?_)
 ·obtain ⟨a, ns, rfl, _⟩ := h
  rfl
 ·obtain ⟨a, ns, rfl, hS, hris, hlen, k⟩ := h
  have hl : (sizeLine : Nat) = 16777216 := sizeLine_eq
  refine ⟨_, pss_cons (ps_set (i := 1) scGaps.nd rfl (Or.inl rfl) (pe_lst pa_nil))
   (pss_cons (ps_set (i := 2) scGaps.nd rfl (Or.inl rfl) pe_int)
   (pss_cons (ps_for PassesOwn.never rfl (pi_list (pv 0)) (pg_name (i := 3) scGaps.nd rfl (Or.inl rfl))
    (pss_cons (ps_expr (pe_bm PySem.F.plainAttrs_list PySem.F.slot_list_append PySem.F.type_list_append mt_append (pv 1) (pa_cons (pe_op op_sub (pv 3) (pv 2)) pa_nil)))
    (pss_one (ps_set (i := 2) scGaps.nd rfl (Or.inl rfl) (pe_op op_add (pv 3) pe_int)))))
   (pss_one (ps_ret (pv 1))))), ?_⟩
  refine ⟨(by show 0 <= sizeLine; decide), fun p hp => ⟨_, rfl, a, rfl, ⟨_, (same_upd hp).seq hS⟩, ?_⟩⟩
  refine for_list (xs := nl ns) (fun i σ H' => ∃ (done : List Nat) (l : Nat) (o : Option V), σ = [some (.ref a), some (.ref p), some (.int l), o] /\ H' = upd H p (.lst (nl done)) /\ done.length = i /\ Gp ns done l (ns.drop i)) ?_ ?_ ?_ ?_
  ·exact ⟨[], 0, none, rfl, rfl, rfl, rfl, hris⟩
  ·rintro i σ H' _ ⟨done, l, o, _, rfl, _⟩
   exact (same_upd hp).seq hS
  ·rintro i x σ H' hx ⟨done, l, o, rfl, rfl, hd, hG⟩
   obtain ⟨n, hn, rfl⟩ := nl_get hx
   rw [drop_at hn] at hG
   obtain ⟨hle, hG'⟩ := hG.step
   have hil := (List.getElem?_eq_some_iff.mp hn).1
   refine ⟨_, rfl, .inl ⟨rfl, _, SqL.of upd_same⟩, _, rfl, _, rfl, _, _, rfl, rfl, p, _, _, rfl, rfl, upd_same, (by rw [nl_len]; omega), ?_⟩
   have e : ((n : Int) - (l : Int)) = ((n - l : Nat) : Int) := by omega
   refine ⟨_, rfl, _, _, rfl, rfl, done ++ [n - l], n + 1, _, rfl, ?_, by rw [List.length_append, hd]; rfl, hG'⟩
   rw [upd_upd, nl_app]
   exact congrArg (fun z => upd H p (.lst (nl done ++ [V.int z]))) e
  ·rintro σ H' ⟨done, l, o, rfl, rfl, hd, hG⟩
   rw [nl_len, List.drop_length] at hG
   have e : gaps 0 ns = done := by rw [hG.1]; exact List.append_nil _
   exact ⟨_, rfl, k p _ (same_upd hp) hp (by rw [upd_same, e])⟩
seal PSs PS PE PT PA PG PI PGs PIfs in
theorem ok_gapsT {f : Addr} {fd : FuncData} (D : Df K mg "gaps_of" sGaps f fd) : FnOk P w K mg base CX0 1 f fd ["numbers"] (spGaps K fun _ H a xs => H a = some (.tup xs)) := by
 refine D.F.ok scGaps (fun vs H Q E h => ?_) (fun cdv A outer s H vs Q E hr h => ?_)
 ·obtain ⟨a, ns, rfl, _⟩ := h
  rfl
 ·obtain ⟨a, ns, rfl, hS, hris, hlen, k⟩ := h
  have hl : (sizeLine : Nat) = 16777216 := sizeLine_eq
  refine ⟨_, pss_cons (ps_set (i := 1) scGaps.nd rfl (Or.inl rfl) (pe_lst pa_nil))
   (pss_cons (ps_set (i := 2) scGaps.nd rfl (Or.inl rfl) pe_int)
   (pss_cons (ps_for PassesOwn.never rfl (pi_tup (pv 0)) (pg_name (i := 3) scGaps.nd rfl (Or.inl rfl))
    (pss_cons (ps_expr (pe_bm PySem.F.plainAttrs_list PySem.F.slot_list_append PySem.F.type_list_append mt_append (pv 1) (pa_cons (pe_op op_sub (pv 3) (pv 2)) pa_nil)))
    (pss_one (ps_set (i := 2) scGaps.nd rfl (Or.inl rfl) (pe_op op_add (pv 3) pe_int)))))
   (pss_one (ps_ret (pv 1))))), ?_⟩
  refine ⟨(by show 0 <= sizeLine; decide), fun p hp => ⟨_, rfl, a, rfl, ⟨_, SqT.of (same_upd hp _ _ hS)⟩, ?_⟩⟩
  refine for_tup (xs := nl ns) (fun i σ H' => ∃ (done : List Nat) (l : Nat) (o : Option V), σ = [some (.ref a), some (.ref p), some (.int l), o] /\ H' = upd H p (.lst (nl done)) /\ done.length = i /\ Gp ns done l (ns.drop i)) ?_ ?_ ?_ ?_
  ·exact ⟨[], 0, none, rfl, rfl, rfl, rfl, hris⟩
  ·rintro i σ H' _ ⟨done, l, o, _, rfl, _⟩
   exact SqT.of (same_upd hp _ _ hS)
  ·rintro i x σ H' hx ⟨done, l, o, rfl, rfl, hd, hG⟩
   obtain ⟨n, hn, rfl⟩ := nl_get hx
   rw [drop_at hn] at hG
   obtain ⟨hle, hG'⟩ := hG.step
   have hil := (List.getElem?_eq_some_iff.mp hn).1
   refine ⟨_, rfl, .inl ⟨rfl, _, SqL.of upd_same⟩, _, rfl, _, rfl, _, _, rfl, rfl, p, _, _, rfl, rfl, upd_same, (by rw [nl_len]; omega), ?_⟩
   have e : ((n : Int) - (l : Int)) = ((n - l : Nat) : Int) := by omega
   refine ⟨_, rfl, _, _, rfl, rfl, done ++ [n - l], n + 1, _, rfl, ?_, by rw [List.length_append, hd]; rfl, hG'⟩
   rw [upd_upd, nl_app]
   exact congrArg (fun z => upd H p (.lst (nl done ++ [V.int z]))) e
  ·rintro σ H' ⟨done, l, o, rfl, rfl, hd, hG⟩
   rw [nl_len, List.drop_length] at hG
   have e : gaps 0 ns = done := by rw [hG.1]; exact List.append_nil _
   exact ⟨_, rfl, k p _ (same_upd hp) hp (by rw [upd_same, e])⟩
structure Sz (row : List Pr) : Prop where
 l : row.length <= 2000
 r : (rn 0 row).length <= 2000
 p : (pk (rn 0 row)).length <= 2000
def spPRow : Sp := fun vs H Q _ => ∃ (a : Addr) (row : List Pr), vs = [.ref a] /\ RowAt H a row /\ RowOk 0 row /\ Sz row /\ ∀ p H', Same H H' -> H p = none -> H' p = some (.lst (nl (pk (rn 0 row)))) -> Q (.ref p) H'
theorem scPRow : FnScope ["row", "gaps", "told", "at", "pair", "places"] ["row"] (defScope sPRow) := ⟨rfl, rfl, rfl, by decide +kernel, rfl, by decide +kernel, by decide +kernel⟩
structure Rp (row : List Pr) (gs done : List Nat) (l i : Nat) : Prop where
 r : rn 0 row = done ++ rn l (row.drop i)
 g : gs.drop i = gaps l ((row.drop i).map (·.1))
 o : RowOk l (row.drop i)
theorem Rp.step {row : List Pr} {gs done : List Nat} {l i n : Nat} {pl : List Nat} (h : Rp row gs done l i) (hx : row[i]? = some (n, pl)) :
  gs[i]? = some (n - l) /\ pl ≠ [] /\ ris 0 pl /\ Rp row gs (done ++ [n - l, pl.length - 1] ++ gaps 0 pl) (n + 1) (i + 1) := by
 obtain ⟨hr, hg, ho⟩ := h
 rw [drop_at hx] at hr hg ho
 have hg' : gs.drop i = (n - l) :: gaps (n + 1) ((row.drop (i + 1)).map (·.1)) := hg
 have h1 : gs[i]? = some (n - l) := by
  have := congrArg (fun z => z[0]?) hg'
  simpa using this
 refine ⟨h1, ho.head.2.1, ho.head.2.2, ?_, ?_, ho.tail⟩
 ·rw [hr]
  show done ++ (n - l) :: (pl.length - 1) :: (gaps 0 pl ++ rn (n + 1) (row.drop (i + 1))) = _
  simp [List.append_assoc]
 ·have := drop_at h1
  rw [this] at hg'
  exact (List.cons.inj hg').2
seal PSs PS PE PT PA PG PI PGs PIfs in
theorem ok_prow {f fn fg fp : Addr} {fd fdn fdg fdp : FuncData} (D : Df K mg "packed_row" sPRow f fd) (DN : Df K mg "need_row" sNRow fn fdn) (GN : FnOk P w K mg base CX0 4 fn fdn ["thing"] spNRow)
  (DG : Df K mg "gaps_of" sGaps fg fdg) (DP : Df K mg "packed" sPacked fp fdp) (GP : FnOk P w K mg base CX0 3 fp fdp ["numbers"] (spPacked K)) (T : Txt mg) : FnOk P w K mg base CX0 5 f fd ["row"] spPRow := by
 have GL : FnOk P w K mg base CX0 1 fg fdg ["numbers"] (spGaps K SqL) := ok_gapsL DG
 have GT : FnOk P w K mg base CX0 1 fg fdg ["numbers"] (spGaps K fun _ H a xs => H a = some (.tup xs)) := ok_gapsT DG
 have bN := binds1 (p := "thing") DN.F fun _ _ _ _ _ _ _ => rfl
 have bG := binds1 (p := "numbers") DG.F fun _ _ _ _ _ _ _ => rfl
 have bP := binds1 (p := "numbers") DP.F fun _ _ _ _ _ _ _ => rfl
 refine D.F.ok scPRow (fun vs H Q E h => ?_) (fun cdv A outer s H vs Q E hr h => ?_)
 ·obtain ⟨a, row, rfl, _⟩ := h
  rfl
 ·obtain ⟨a, row, rfl, hR, ho, hs, k⟩ := h
  have hl : (sizeLine : Nat) = 16777216 := sizeLine_eq
  refine ⟨_, pss_cons (ps_set (i := 1) scPRow.nd rfl (Or.inl rfl) (pe_call (GL.mono (by decide)) hr rfl DG.m DG.F.kp bG .nil pass0 (pa_cons (pe_comp (own := 2) (caps := []) (N := ["number", "places"]) (N0 := ["row", "gaps", "told", "at", "pair", "places"]) (sc0 := defScope sPRow) rfl (pi_list (pe_call GN hr rfl DN.m DN.F.kp bN .nil pass0 (pa_cons (pv 0) pa_nil)))
    (fun _ _ _ => pg_tup (n := 2) rfl (pgs_cons (pg_name (i := 0) ndNP rfl (Or.inl rfl)) (pgs_cons (pg_name (i := 1) ndNP rfl (Or.inl rfl)) pgs_nil))) (fun _ _ _ => pf_none) (fun _ _ _ => pv 0) (gk_tup (gks_cons (gk_name (by decide)) (gks_cons (gk_name (by decide)) gks_nil))) rfl rfl
    (by decide +kernel) rfl (by decide +kernel) (by decide +kernel) rfl (by decide +kernel)) pa_nil)))
   (pss_cons (ps_set (i := 2) scPRow.nd rfl (Or.inl rfl) (pe_lst pa_nil))
   (pss_cons (ps_for PassesOwn.never rfl (pi_enumL rfl T.enum (pa_cons (pv 0) pa_nil)) (pg_tup (n := 2) rfl (pgs_cons (pg_name (i := 3) scPRow.nd rfl (Or.inl rfl)) (pgs_cons (pg_name (i := 4) scPRow.nd rfl (Or.inl rfl)) pgs_nil)))
    (pss_cons (ps_set (i := 5) scPRow.nd rfl (Or.inl rfl) (pe_ix ix_tup (pv 4) pe_int (fun _ _ => rfl)))
    (pss_cons (ps_expr (pe_bm PySem.F.plainAttrs_list PySem.F.slot_list_extend PySem.F.type_list_extend mt_extend (pv 2) (pa_cons (pe_lst (pa_cons (pe_ix ix_list (pv 1) (pv 3) (fun _ _ => rfl)) (pa_cons (pe_op op_sub (pe_callB call_len_seq rfl T.len b_len (pa_cons (pv 5) pa_nil)) pe_int) pa_nil))) pa_nil)))
    (pss_one (ps_expr (pe_bm PySem.F.plainAttrs_list PySem.F.slot_list_extend PySem.F.type_list_extend mt_extend (pv 2) (pa_cons (pe_call (GT.mono (by decide)) hr rfl DG.m DG.F.kp bG .nil pass0 (pa_cons (pv 5) pa_nil)) pa_nil)))))))
   (pss_one (ps_ret (pe_call (GP.mono (by decide)) hr rfl DP.m DP.F.kp bP .nil pass0 (pa_cons (pv 2) pa_nil)))))), ?_⟩
  refine ⟨_, rfl, ?_⟩
  refine ⟨a, row, rfl, hR, ho, hs.l, fun H1 s1 => ?_⟩
  obtain ⟨xs, hA, hp⟩ := hR.same s1
  have hxl := Gn.Paired.len hp
  have hrl := hs.l
  refine ⟨a, rfl, ⟨_, SqL.of hA⟩, comp_itl (xs := xs) (fun i ys H' => H' = H1 /\ ys = (nl (row.map (·.1))).take i) (by omega) (fun i ys H' q => by rw [q.1]; exact SqL.of hA) ⟨rfl, rfl⟩ ?_ ?_⟩
  ·rintro i v ys H' N hv ⟨rfl, rfl⟩ hN
   obtain ⟨r, hr', hpr⟩ := paired_get hp hv
   cases hpr with
   | mk h ht =>
    refine ⟨_, _, rfl, SqT.of h, rfl, _, _, rfl, _, _, rfl, rfl, nif ?_⟩
    refine ⟨_, rfl, hN _ _ ⟨rfl, ?_⟩⟩
    rw [List.take_add_one, List.getElem?_map, List.getElem?_map, hr']
    rfl
  ·rintro ys H' ⟨rfl, rfl⟩ _ q hq
   have hnl : (nl (row.map (·.1))).length = row.length := by rw [nl_len, List.length_map]
   rw [List.take_of_length_le (by omega)]
   refine ⟨q, row.map (·.1), rfl, SqL.of upd_same, ho.n, by rw [List.length_map]; omega, fun pG H2 s2 hpG hG => ?_⟩
   have s02 : Same H' H2 := (same_upd hq).trans s2
   replace hA := s02 _ _ hA
   replace hp := Gn.Paired.imp2 hp fun _ _ q => PrAt.same q s02
   refine ⟨(by show 0 <= sizeLine; decide), fun pT hpT => ?_⟩
   have hAT := same_upd (o := .lst []) hpT _ _ hA
   refine ⟨_, rfl, a, xs, rfl, hAT, ?_⟩
   refine for_iel (xs := xs) (fun i σ H' => ∃ (done : List Nat) (l : Nat) (o3 o4 o5 : Option V), σ = [some (.ref a), some (.ref pG), some (.ref pT), o3, o4, o5] /\ Same H2 H' /\ H' pT = some (.lst (nl done)) /\ Rp row (gaps 0 (row.map (·.1))) done l i) ?_ ?_ ?_ ?_
   ·exact ⟨[], 0, none, none, none, rfl, same_upd hpT, upd_same, rfl, rfl, ho⟩
   ·rintro i σ H3 _ ⟨_, _, _, _, _, _, sm, _⟩
    exact sm _ _ hA
   ·rintro i x σ H3 T hx ⟨done, l, o3, o4, o5, rfl, sm, hT, hRp⟩ hTn
    obtain ⟨r, hri, hpr⟩ := paired_get hp hx
    cases hpr with
    | mk h ht =>
     rename_i p t n pl
     obtain ⟨hgi, hpl0, hris, hRp'⟩ := hRp.step hri
     have hdl : (done ++ [n - l, pl.length - 1] ++ gaps 0 pl).length <= 2000 := by
      have h1 := hs.r
      rw [hRp'.r, List.length_append] at h1
      omega
     rw [List.length_append, List.length_append, gaps_len] at hdl
     have hdl' : done.length + 2 + pl.length <= 2000 := hdl
     have sT : Same H3 (upd H3 T (.tup [.int i, .ref p])) := same_upd hTn
     refine ⟨T, _, rfl, SqT.of upd_same, rfl, _, _, rfl, _, _, rfl, rfl, ?_⟩
     generalize upd H3 T (.tup [.int i, .ref p]) = H4 at sT ⊢
     replace sm := sm.trans sT
     replace hT := sT _ _ hT
     refine ⟨_, rfl, p, _, _, _, rfl, rfl, SqT.of (sm _ _ h), atI_nat (j := 1) rfl, ?_⟩
     refine ⟨_, rfl, .inl ⟨rfl, _, SqL.of hT⟩, ?_⟩
     refine ⟨_, rfl, _, rfl, pG, _, _, .int ((n - l : Nat) : Int), rfl, rfl, SqL.of (sm _ _ hG), atI_nat (by rw [List.getElem?_map, hgi]; rfl), ?_⟩
     refine ⟨_, rfl, t, _, rfl, .inr (SqT.of (sm _ _ ht)), _, _, rfl, rfl, (by show 2 <= sizeLine; decide), fun z hz => ?_⟩
     have sz := same_upd (o := .lst [.int ((n - l : Nat) : Int), .int (((nl pl).length : Nat) - 1)]) hz
     refine ⟨pT, z, _, _, rfl, rfl, sz _ _ hT, upd_same, (by rw [nl_len]; show _ + 2 <= sizeLine; omega), ?_⟩
     have hlp : 0 < pl.length := List.length_pos_iff.mpr hpl0
     have e1 : nl done ++ [V.int ((n - l : Nat) : Int), V.int (((nl pl).length : Nat) - 1)] = nl (done ++ [n - l, pl.length - 1]) := by
      rw [nl_app]
      have : ((((nl pl).length : Nat) : Int) - 1) = ((pl.length - 1 : Nat) : Int) := by rw [nl_len]; omega
      rw [this]
      rfl
     have hTz : pT ≠ z := ne_of_none hT hz
     have s5 : Same H2 (upd (upd H4 z (.lst [.int ((n - l : Nat) : Int), .int (((nl pl).length : Nat) - 1)])) pT (.lst (nl (done ++ [n - l, pl.length - 1])))) := fun b u e => by
      rw [upd_ne (ne_of_none e hpT)]
      exact sz _ _ (sm _ _ e)
     rw [e1]
     have hT5 : (upd (upd H4 z (.lst [.int ((n - l : Nat) : Int), .int (((nl pl).length : Nat) - 1)])) pT (.lst (nl (done ++ [n - l, pl.length - 1])))) pT = some (.lst (nl (done ++ [n - l, pl.length - 1]))) := upd_same
     generalize upd (upd H4 z (.lst [.int ((n - l : Nat) : Int), .int (((nl pl).length : Nat) - 1)])) pT (.lst (nl (done ++ [n - l, pl.length - 1]))) = H5 at s5 hT5 ⊢
     refine ⟨_, rfl, .inl ⟨rfl, _, SqL.of hT5⟩, ?_⟩
     refine ⟨_, rfl, t, pl, rfl, s5 _ _ ht, hris, by omega, fun pg H6 s6 hpg hg => ?_⟩
     refine ⟨pT, pg, _, _, rfl, rfl, s6 _ _ hT5, hg, (by rw [nl_len, nl_len, gaps_len, List.length_append]; show _ + 2 + _ <= sizeLine; omega), ?_⟩
     refine ⟨_, n + 1, _, _, _, rfl, fun b u e => ?_, ?_, hRp'⟩
     ·rw [upd_ne (ne_of_none e hpT)]
      exact s6 _ _ (s5 _ _ e)
     ·rw [upd_same, <- nl_app]
   ·rintro σ H3 ⟨done, l, o3, o4, o5, rfl, sm, hT, hRp⟩
    have hr0 := hRp.r
    rw [hxl, List.drop_length] at hr0
    have hd : rn 0 row = done := by rw [hr0]; exact List.append_nil _
    subst hd
    have s04 := (s1.trans s02).trans sm
    exact ⟨_, rfl, pT, rn 0 row, rfl, SqL.of hT, hs.p, fun p H4 s4 hp4 hP => k p H4 (s04.trans s4) (s04.free hp4) hP⟩
def spURow : Sp := fun vs H Q _ => ∃ (a : Addr) (row : List Pr), vs = [.ref a] /\ H a = some (.lst (nl (pk (rn 0 row)))) /\ RowOk 0 row /\ Sz row /\ ∀ p H', Same H H' -> H p = none -> RowAt H' p row -> Q (.ref p) H'
theorem scURow : FnScope ["parts", "told", "row", "least", "begin", "end", "number"] ["parts"] (defScope sURow) := ⟨rfl, rfl, rfl, by decide +kernel, rfl, by decide +kernel, by decide +kernel⟩
seal PSs PS PE PT PA PG PI PGs PIfs in
theorem ok_urow {f fu fn : Addr} {fd fdu fdn : FuncData} (D : Df K mg "unpacked_row" sURow f fd) (DU : Df K mg "unpacked" sUnp fu fdu) (GU : FnOk P w K mg base CX0 3 fu fdu ["parts"] spUnp)
  (DN : Df K mg "numbers_by" sNums fn fdn) (T : Txt mg) : FnOk P w K mg base CX0 4 f fd ["parts"] spURow := by
 have GN : FnOk P w K mg base CX0 1 fn fdn ["gaps"] spNums := ok_nums DN
 have bU := binds1 (p := "parts") DU.F fun _ _ _ _ _ _ _ => rfl
 have bN := binds1 (p := "gaps") DN.F fun _ _ _ _ _ _ _ => rfl
 refine D.F.ok scURow (fun vs H Q E h => ?_) (fun cdv A outer s H vs Q E hr h => ?_)
 ·obtain ⟨a, row, rfl, _⟩ := h
  rfl
 ·obtain ⟨a, row, rfl, hA, ho, hs, k⟩ := h
  have hl : (sizeLine : Nat) = 16777216 := sizeLine_eq
  refine ⟨_, pss_cons (ps_set (i := 1) scURow.nd rfl (Or.inl rfl) (pe_call GU hr rfl DU.m DU.F.kp bU .nil pass0 (pa_cons (pv 0) pa_nil)))
   (pss_cons (ps_set (i := 2) scURow.nd rfl (Or.inl rfl) (pe_lst pa_nil))
   (pss_cons (ps_set (i := 3) scURow.nd rfl (Or.inl rfl) pe_int)
   (pss_cons (ps_set (i := 4) scURow.nd rfl (Or.inl rfl) pe_int)
   (pss_cons (ps_while PassesOwn.never (pt_cmpR op_lt (pv 4) (pe_callB call_len_seq rfl T.len b_len (pa_cons (pv 1) pa_nil)) (nomark _))
    (pss_cons (ps_if (PW.pt (pw_or (pt_cmpR op_gt (pe_op op_add (pv 4) pe_int) (pe_callB call_len_seq rfl T.len b_len (pa_cons (pv 1) pa_nil)) (nomark _))
     (pw_or1 (pt_cmpR op_gt (pe_op op_add (pe_op op_add (pv 4) pe_int) (pe_ix ix_list (pv 1) (pe_op op_add (pv 4) pe_int) (fun _ _ => rfl))) (pe_callB call_len_seq rfl T.len b_len (pa_cons (pv 1) pa_nil)) (nomark _))))) (pss_one ps_never) pss_nil)
    (pss_cons (ps_set (i := 5) scURow.nd rfl (Or.inl rfl) (pe_op op_add (pe_op op_add (pv 4) pe_int) (pe_ix ix_list (pv 1) (pe_op op_add (pv 4) pe_int) (fun _ _ => rfl))))
    (pss_cons (ps_set (i := 6) scURow.nd rfl (Or.inl rfl) (pe_op op_add (pv 3) (pe_ix ix_list (pv 1) (pv 4) (fun _ _ => rfl))))
    (pss_cons (ps_expr (pe_bm PySem.F.plainAttrs_list PySem.F.slot_list_append PySem.F.type_list_append mt_append (pv 2) (pa_cons (pe_tup (pa_cons (pv 6) (pa_cons (pe_callTy call_tuple_of rfl T.tuple b_tuple (pa_cons (pe_call (GN.mono (by decide)) hr rfl DN.m DN.F.kp bN .nil pass0 (pa_cons (pe_slice sl_list (pv 1) (po_some (pe_op op_add (pv 4) pe_int)) (po_some (pv 5))) pa_nil)) pa_nil)) pa_nil))) pa_nil)))
    (pss_cons (ps_set (i := 3) scURow.nd rfl (Or.inl rfl) (pe_op op_add (pv 6) pe_int))
    (pss_one (ps_set (i := 4) scURow.nd rfl (Or.inl rfl) (pv 5)))))))))
   (pss_one (ps_ret (pv 2))))))), ?_⟩
  have hrl := hs.r
  have hrl2 := hs.l
  refine ⟨_, rfl, a, rn 0 row, rfl, hA, by omega, fun pU H1 s1 hpU hU => ?_⟩
  refine ⟨(by show 0 <= sizeLine; decide), fun pR hpR => ?_⟩
  refine while_by (fun σ H' => ∃ (pre : List Nat) (l : Nat) (done rest : List Pr) (o5 o6 : Option V) (ys : List V), σ = [some (.ref a), some (.ref pU), some (.ref pR), some (.int (l : Int)), some (.int (pre.length : Int)), o5, o6] /\ rn 0 row = pre ++ rn l rest /\ row = done ++ rest /\ RowOk l rest /\ Same H1 H' /\ H' pR = some (.lst ys) /\ Paired (PrAt H') ys done)
   (fun σ _ => match σ with | [_, _, _, _, some (.int b), _, _] => (3000 - b).toNat | _ => 0) ⟨[], 0, [], row, none, none, [], rfl, rfl, rfl, ho, same_upd hpR, upd_same, .nil⟩ ?_ ?_
  ·rintro σ H' ⟨pre, l, done, rest, o5, o6, ys, rfl, hrn, hrow, hok, sm, hR, hpd⟩
   refine ⟨_, rfl, _, rfl, pU, _, rfl, .inl (SqL.of (sm _ _ hU)), _, _, rfl, rfl, _, rfl, ?_⟩
   cases rest with
   | nil =>
    have e : rn 0 row = pre := by rw [hrn]; exact List.append_nil _
    have ed : row = done := by rw [hrow, List.append_nil]
    rw [decide_eq_false (by rw [nl_len, e]; omega)]
    refine iteF ⟨_, rfl, k pR H' (s1.trans sm) (s1.free hpR) ⟨ys, hR, ?_⟩⟩
    rw [ed]
    exact hpd
   | cons x rest =>
    obtain ⟨n, pl⟩ := x
    obtain ⟨hln, hpl0, hris⟩ := hok.head
    have hlp : 0 < pl.length := List.length_pos_iff.mpr hpl0
    have hrn' : rn 0 row = pre ++ (n - l) :: (pl.length - 1) :: (gaps 0 pl ++ rn (n + 1) rest) := hrn
    have htl : (rn 0 row).length = pre.length + (pl.length + (rn (n + 1) rest).length + 1 + 1) := by
     rw [hrn', List.length_append, List.length_cons, List.length_cons, List.length_append, gaps_len]
    have hdl : done.length <= 2000 := by
     have := congrArg List.length hrow
     rw [List.length_append] at this
     omega
    have hyl := Gn.Paired.len hpd
    have a0 : (nl (rn 0 row))[pre.length]? = some (.int ((n - l : Nat) : Int)) := nl_at (by rw [hrn']; exact at_pre _ _ _)
    have a1 : (nl (rn 0 row))[pre.length + 1]? = some (.int ((pl.length - 1 : Nat) : Int)) := nl_at (by rw [hrn']; exact at_pre1 _ _ _ _)
    rw [decide_eq_true (by rw [nl_len]; omega)]
    refine iteT ?_
    replace hU := sm _ _ hU
    refine ⟨_, rfl, _, _, rfl, rfl, _, rfl, pU, _, rfl, .inl (SqL.of hU), _, _, rfl, rfl, _, rfl, ?_⟩
    rw [decide_eq_false (by rw [nl_len]; omega)]
    refine iteF ?_
    refine ⟨_, rfl, _, _, rfl, rfl, _, rfl, _, rfl, _, _, rfl, rfl, pU, _, _, _, rfl, rfl, SqL.of hU, atI_nat (j := pre.length + 1) a1, _, _, rfl, rfl, _, rfl, pU, _, rfl, .inl (SqL.of hU), _, _, rfl, rfl, _, rfl, ?_⟩
    rw [decide_eq_false (by rw [nl_len]; omega)]
    refine iteF ?_
    have en : ((l : Int) + ((n - l : Nat) : Int)) = (n : Int) := by omega
    have ee : ((pre.length : Int) + 3 + ((pl.length - 1 : Nat) : Int)) = ((pre.length + 2 + pl.length : Nat) : Int) := by omega
    refine ⟨_, rfl, _, _, rfl, rfl, _, rfl, _, rfl, _, _, rfl, rfl, pU, _, _, _, rfl, rfl, SqL.of hU, atI_nat (j := pre.length + 1) a1, _, _, rfl, rfl, ?_⟩
    show gName 5 (V.int ((pre.length : Int) + 3 + ((pl.length - 1 : Nat) : Int))) _ _ _
    rw [ee]
    refine ⟨_, rfl, _, rfl, _, rfl, pU, _, _, _, rfl, rfl, SqL.of hU, atI_nat (j := pre.length) a0, _, _, rfl, rfl, ?_⟩
    show gName 6 (V.int ((l : Int) + ((n - l : Nat) : Int))) _ _ _
    rw [en]
    refine ⟨_, rfl, .inl ⟨rfl, _, SqL.of hR⟩, ?_⟩
    have hcut : cutV (nl (rn 0 row)) (some ((pre.length : Int) + 2)) (some ((pre.length + 2 + pl.length : Nat) : Int)) = nl (gaps 0 pl) := by
     have e1 : nl (rn 0 row) = nl (pre ++ [n - l, pl.length - 1]) ++ (nl (gaps 0 pl) ++ nl (rn (n + 1) rest)) := by
      rw [<- nl_app, <- nl_app, hrn']
      congr 1
      simp [List.append_assoc]
     have e2 : (nl (pre ++ [n - l, pl.length - 1])).length = pre.length + 2 := by rw [nl_len, List.length_append]; rfl
     have e3 : (nl (gaps 0 pl)).length = pl.length := by rw [nl_len, gaps_len]
     have := cut_mid (nl (pre ++ [n - l, pl.length - 1])) (nl (gaps 0 pl)) (nl (rn (n + 1) rest))
     rw [<- e1, e2, e3] at this
     exact this
    refine ⟨_, rfl, _, rfl, _, rfl, _, _, rfl, rfl, _, rfl, _, rfl, _, rfl, ?_⟩
    refine ⟨pU, _, rfl, SqL.of hU, fun pz hpz => ?_⟩
    refine ⟨pz, gaps 0 pl, rfl, upd_same.trans (congrArg (fun z => some (HO.lst z)) hcut), by rw [gaps_len]; omega, fun pN H2 s2 hpN hN => ?_⟩
    have sm2 : Same H' H2 := (same_upd hpz).trans s2
    rw [nums_gaps 0 pl hris] at hN
    refine ⟨pN, _, rfl, .inl ⟨SqL.of hN, fun pt hpt => ?_⟩⟩
    refine ⟨(by show 2 <= sizeLine; decide), fun pp hpp => ?_⟩
    have st : Same H2 (upd H2 pt (.tup (nl pl))) := same_upd hpt
    have ht : (upd H2 pt (.tup (nl pl))) pt = some (.tup (nl pl)) := upd_same
    generalize upd H2 pt (.tup (nl pl)) = H3 at st ht hpp ⊢
    have sp : Same H3 (upd H3 pp (.tup [.int (n : Int), .ref pt])) := same_upd hpp
    have hpq : (upd H3 pp (.tup [.int (n : Int), .ref pt])) pp = some (.tup [.int (n : Int), .ref pt]) := upd_same
    generalize upd H3 pp (.tup [.int (n : Int), .ref pt]) = H4 at sp hpq ⊢
    have s24 := (sm2.trans st).trans sp
    refine ⟨pR, _, _, rfl, rfl, s24 _ _ hR, (by omega), ?_⟩
    refine ⟨_, rfl, _, _, rfl, rfl, _, rfl, ⟨pre ++ [n - l, pl.length - 1] ++ gaps 0 pl, n + 1, done ++ [(n, pl)], rest, some (.int ((pre.length + 2 + pl.length : Nat) : Int)), some (.int (n : Int)), _, ?_, ?_, ?_, hok.tail, ?_, upd_same, ?_⟩, ?_⟩
    ·have eL : (pre ++ [n - l, pl.length - 1] ++ gaps 0 pl).length = pre.length + 2 + pl.length := by rw [List.length_append, List.length_append, gaps_len]; rfl
     rw [eL]
     rfl
    ·rw [hrn']
     simp [List.append_assoc]
    ·rw [hrow, List.append_assoc]
     rfl
    ·intro b u e
     rw [upd_ne (ne_of_none e hpR)]
     exact s24 _ _ (sm _ _ e)
    ·refine Gn.Paired.app (Gn.Paired.imp2 hpd fun x r q => q.lst s24 hR) ?_
     have n1 : pp ≠ pR := fun z => by rw [z, s24 _ _ hR] at hpq; cases hpq
     have n2 : pt ≠ pR := fun z => by rw [z, (sm2.trans st) _ _ hR] at ht; cases ht
     exact .mk (by rw [upd_ne n1]; exact hpq) (by rw [upd_ne n2]; exact sp _ _ ht)
    ·show (3000 - ((pre.length + 2 + pl.length : Nat) : Int)).toNat < (3000 - (pre.length : Int)).toNat
     omega
  ·intro σ H' Q1 Q2 hq h
   obtain ⟨x, h1, y, h2, p, xs, e1, hs, i, j, e2, e3, b, e4, z⟩ := h
   exact ⟨x, h1, y, h2, p, xs, e1, hs, i, j, e2, e3, b, e4, hq _ _ z⟩
end
open PySem L2 PyProof.Rows PySem.Spec Gn K04 K01 BK
section
variable {P : Program} {w : World} {K : PySem.W.Frag} {mg : Str -> Option Value} {base : Heap}
def FP (ws : List Str) : Hp -> Addr -> Str -> Prop := fun H a w => H a = some (.lst (nl (plc w ws 0)))
def spPBW : Sp := fun vs H Q _ => ∃ (a : Addr) (ws : List Str), vs = [.ref a] /\ H a = some (.lst (sl ws)) /\ ws.length <= 3000 /\
 ∀ p es H', Same H H' -> H p = none -> DL H H' p es (FP ws) -> es.length <= ws.length -> (∀ x, x ∈ es.map (·.1) ↔ x ∈ ws) -> Q (.ref p) H'
theorem scPBW : FnScope ["words", "places", "place", "word"] ["words"] (defScope sPBW) := ⟨rfl, rfl, rfl, by decide +kernel, rfl, by decide +kernel, by decide +kernel⟩
seal PSs PS PE PT PA PG PI PGs PIfs in
theorem ok_pbw {f : Addr} {fd : FuncData} (D : Df K mg "places_by_word" sPBW f fd) (T : Txt mg) : FnOk P w K mg base CX0 1 f fd ["words"] spPBW := by
 refine D.F.ok scPBW (fun vs H Q E h => ?_) (fun cdv A outer s H vs Q E hr h => ?_)
 ·obtain ⟨a, ws, rfl, _⟩ := h
  rfl
 ·obtain ⟨a, ws, rfl, hA, hlen, k⟩ := h
  have hl : (sizeLine : Nat) = 16777216 := sizeLine_eq
  refine ⟨_, pss_cons (ps_set (i := 1) scPBW.nd rfl (Or.inl rfl) pe_dnewK)
   (pss_cons (ps_for PassesOwn.never rfl (pi_enumL rfl T.enum (pa_cons (pv 0) pa_nil)) (pg_tup (n := 2) rfl (pgs_cons (pg_name (i := 2) scPBW.nd rfl (Or.inl rfl)) (pgs_cons (pg_name (i := 3) scPBW.nd rfl (Or.inl rfl)) pgs_nil)))
    (pss_one (ps_expr (pe_bm PySem.F.plainAttrs_list PySem.F.slot_list_append PySem.F.type_list_append mt_append
     (PE.imp (t' := tGet 1 3) (pe_bm PySem.F.plainAttrs_dict PySem.F.slot_dict_setdefault PySem.F.type_dict_setdefault mt_setd (pv 1) (pa_cons (pv 3) (pa_cons (pe_lst pa_nil) pa_nil))) fun _ _ _ => getL) (pa_cons (pv 2) pa_nil)))))
   (pss_one (ps_ret (pv 1)))), ?_⟩
  intro d hd
  refine ⟨_, rfl, a, sl ws, rfl, same_upd hd _ _ hA, ?_⟩
  refine for_iel (xs := sl ws) (fun i σ H' => ∃ (es : En) (o2 o3 : Option V), σ = [some (.ref a), some (.ref d), o2, o3] /\ Same H H' /\ DL H H' d es (FP (ws.take i)) /\ es.length <= i /\ (∀ x, x ∈ es.map (·.1) ↔ x ∈ ws.take i)) ?_ ?_ ?_ ?_
  ·exact ⟨[], none, none, rfl, same_upd hd, ⟨upd_same, List.nodup_nil, List.nodup_nil, (fun e he => nomatch he), (fun e he => nomatch he)⟩, Nat.le_refl _, fun x => by simp⟩
  ·rintro i σ H' _ ⟨es, o2, o3, _, sm, _⟩
   exact sm _ _ hA
  ·rintro i x σ H' t hx ⟨es, o2, o3, rfl, sm, hD, hel, hin⟩ ht
   obtain ⟨wd, hwd, rfl⟩ := sl_get hx
   have st : Same H' (upd H' t (.tup [.int i, .str wd])) := same_upd ht
   have hil := (List.getElem?_eq_some_iff.mp hwd).1
   refine ⟨t, _, rfl, SqT.of upd_same, rfl, _, _, rfl, _, _, rfl, rfl, ?_⟩
   generalize upd H' t (.tup [.int i, .str wd]) = H1 at st ⊢
   have sm1 := sm.trans st
   have e1 : ws.take (i + 1) = ws.take i ++ [wd] := take_snoc hwd
   have e2 : (ws.take i).length = i := len_take hwd
   have pl_ne : ∀ u : Str, u ≠ wd -> plc u (ws.take (i + 1)) 0 = plc u (ws.take i) 0 := fun u hu => by
    rw [e1, plc_snoc, if_neg (fun q => hu q.symm), List.append_nil]
   have pl_eq : plc wd (ws.take (i + 1)) 0 = plc wd (ws.take i) 0 ++ [i] := by
    rw [e1, plc_snoc, if_pos rfl, e2, Nat.zero_add]
   refine ⟨H, d, es, wd, FP (ws.take i), rfl, rfl, ⟨st _ _ hD.d, hD.k, hD.a, hD.n, fun e he => st _ _ (hD.f e he)⟩, by omega, fun z hz => sm1.free hz, fun e he => ⟨_, st _ _ (hD.f e he)⟩, ?_, ?_, ?_⟩
   ·intro G b y l sb hb hf
    exact sb _ _ hf fun q => by rw [q, st _ _ hD.d] at hb; cases hb
   ·intro G z hn hz
    show G z = _
    rw [hz, (plc_nil wd _ 0).mpr fun q => hn ((hin wd).mpr q)]
    rfl
   ·rintro p es' H2 sb hD2 hp hor ⟨l, hpl⟩
    have hpl' : H2 p = some (.lst (nl (plc wd (ws.take i) 0))) := hD2.f _ hp
    refine ⟨.inl ⟨rfl, _, SqL.of hpl'⟩, _, rfl, p, _, _, rfl, rfl, hpl', (by rw [nl_len]; have := plc_len wd (ws.take i) 0; omega), ?_⟩
    have npd : d ≠ p := fun q => by rw [<- q, hD2.d] at hpl; cases hpl
    refine ⟨es', _, _, rfl, fun b u q => ?_, hD2.put hp (by rw [upd_ne npd]; exact hD2.d) (fun e he n1 n2 hf => ?_) ?_, ?_, fun x => ?_⟩
    ·rw [upd_ne (ne_of_none q (hD2.n _ hp))]
     exact sb.new sm1 hd _ _ q
    ·show upd H2 p _ e.2 = _
     rw [upd_ne n2, pl_ne e.1 n1]
     exact hf
    ·show upd H2 p _ p = _
     rw [upd_same, pl_eq, nl_app]
     rfl
    ·rcases hor with rfl | ⟨_, rfl, _⟩
     ·omega
     ·rw [List.length_append]
      show es.length + 1 <= i + 1
      omega
    ·have hm : x ∈ es'.map (·.1) ↔ x ∈ es.map (·.1) \/ x = wd := by
      rcases hor with rfl | ⟨_, rfl, _⟩
      ·exact ⟨.inl, fun q => q.elim id fun z => by rw [z]; exact List.mem_map.mpr ⟨_, hp, rfl⟩⟩
      ·rw [List.map_append, List.mem_append]
       show (_ \/ x ∈ [wd]) ↔ _
       rw [List.mem_singleton]
     rw [hm, hin, e1, List.mem_append, List.mem_singleton]
  ·rintro σ H' ⟨es, o2, o3, rfl, sm, hD, hel, hin⟩
   have e : (sl ws).length = ws.length := List.length_map _
   rw [e] at hD hel hin
   rw [List.take_length] at hD hin
   exact ⟨_, rfl, k d es H' sm hd hD hel hin⟩
end
theorem PrAt.but {H H' : Hp} {v : V} {r : Pr} {x : Addr} (h : PrAt H v r) (s : SameBut x H H') (nt : ∀ ts, H x ≠ some (.tup ts)) : PrAt H' v r := by
 cases h with
 | mk h ht => exact .mk (s _ _ h fun z => nt _ (by rw [<- z]; exact h)) (s _ _ ht fun z => nt _ (by rw [<- z]; exact ht))
theorem RowAt.but {H H' : Hp} {a x : Addr} {row : List Pr} (h : RowAt H a row) (s : SameBut x H H') (na : a ≠ x) (nt : ∀ ts, H x ≠ some (.tup ts)) : RowAt H' a row := by
 obtain ⟨xs, h1, h2⟩ := h
 exact ⟨xs, s _ _ h1 na, Gn.Paired.imp2 h2 fun _ _ q => q.but s nt⟩
theorem RowAt.snoc {H : Hp} {p : Addr} {xs : List V} {row : List Pr} {v : V} {r : Pr} (hp : H p = some (.lst xs)) (h : Paired (PrAt H) xs row) (hv : PrAt H v r) : RowAt (upd H p (.lst (xs ++ [v]))) p (row ++ [r]) := by
 have s : SameBut p H (upd H p (.lst (xs ++ [v]))) := fun b u e hb => by rw [upd_ne hb]; exact e
 have nt : ∀ ts, H p ≠ some (.tup ts) := fun ts z => by rw [hp] at z; cases z
 exact ⟨_, upd_same, Gn.Paired.app (Gn.Paired.imp2 h fun _ _ q => q.but s nt) (hv.but s nt)⟩
section
variable {P : Program} {w : World} {K : PySem.W.Frag} {mg : Str -> Option Value} {base : Heap}
def FK (ro : Str -> List Pr) : Hp -> Addr -> Str -> Prop := fun H a w => H a = some (.lst (nl (pk (rn 0 (ro w)))))
def spPRs : Sp := fun vs H Q _ => ∃ (d : Addr) (es : En) (ro : Str -> List Pr), vs = [.ref d] /\ H d = some (.dK (dkl es)) /\ (es.map (·.1)).Nodup /\ es.length <= 3000 /\ (∀ e ∈ es, RowAt H e.2 (ro e.1) /\ RowOk 0 (ro e.1) /\ Sz (ro e.1)) /\
 ∀ p es' H', SameBut d H H' -> H p = none -> DL H H' p es' (FK ro) -> es'.map (·.1) = es.map (·.1) -> Q (.ref p) H'
theorem scPRs : FnScope ["rows", "packed", "word"] ["rows"] (defScope sPRs) := ⟨rfl, rfl, rfl, by decide +kernel, rfl, by decide +kernel, by decide +kernel⟩
seal PSs PS PE PT PA PG PI PGs PIfs in
theorem ok_prs {f fp : Addr} {fd fdp : FuncData} (D : Df K mg "packed_rows" sPRs f fd) (DP : Df K mg "packed_row" sPRow fp fdp) (GP : FnOk P w K mg base CX0 5 fp fdp ["row"] spPRow) : FnOk P w K mg base CX0 6 f fd ["rows"] spPRs := by
 have bP := binds1 (p := "row") DP.F fun _ _ _ _ _ _ _ => rfl
 refine D.F.ok scPRs (fun vs H Q E h => ?_) (fun cdv A outer s H vs Q E hr h => ?_)
 ·obtain ⟨d, es, ro, rfl, _⟩ := h
  rfl
 ·obtain ⟨d, es, ro, rfl, hd, hn, hlen, hrow, k⟩ := h
  have hl : (sizeLine : Nat) = 16777216 := sizeLine_eq
  have hu := hu_of hr
  refine ⟨_, pss_cons (ps_set (i := 1) scPRs.nd rfl (Or.inl rfl) pe_dnewK)
   (pss_cons (ps_for PassesOwn.never rfl (pi_dict (pv 0)) (pg_name (i := 2) scPRs.nd rfl (Or.inl rfl))
    (pss_one (ps_dput hu (pv 1) (pv 2) (pe_call GP hr rfl DP.m DP.F.kp bP .nil pass0 (pa_cons (pe_dget hu (pv 0) (pv 2) (fun _ _ => rfl)) pa_nil)) rfl)))
   (pss_one (ps_ret (pv 1)))), ?_⟩
  intro p hp
  have npd : d ≠ p := ne_of_none hd hp
  refine ⟨_, rfl, d, dkl es, rfl, (by rw [upd_ne npd]; exact hd), fun o => ?_⟩
  refine for_dict (kvs := dkl es) (fun i σ H' => ∃ (es' : En) (o2 : Option V), σ = [some (.ref d), some (.ref p), o2] /\ SameBut d H H' /\ H' d = some (.frz o (.dK (dkl es))) /\ DL H H' p es' (FK ro) /\ es'.map (·.1) = (es.map (·.1)).take i) ?_ ?_ ?_ ?_
  ·refine ⟨[], none, rfl, fun b u e hb => ?_, upd_same, ⟨?_, List.nodup_nil, List.nodup_nil, (fun e he => nomatch he), (fun e he => nomatch he)⟩, rfl⟩
   ·rw [upd_ne hb, upd_ne (ne_of_none e hp)]
    exact e
   ·rw [upd_ne (Ne.symm npd), upd_same]
    rfl
  ·rintro i σ H' _ ⟨_, _, _, _, h, _⟩
   exact h
  ·rintro i kv σ H' hkv ⟨es', o2, rfl, sm, hfd, hD, hke⟩
   obtain ⟨e, he, rfl⟩ := dkl_get hkv
   have hem := List.mem_of_getElem? he
   obtain ⟨hR, hok, hsz⟩ := hrow e hem
   have nel : e.2 ≠ d := fun z => by
    obtain ⟨xs, h1, _⟩ := hR
    rw [z, hd] at h1
    cases h1
   have hR' : RowAt H' e.2 (ro e.1) := hR.but sm nel fun ts z => by rw [hd] at z; cases z
   refine ⟨_, rfl, _, rfl, d, .ref e.2, rfl, .inl ⟨dkl es, Sum.inr e.1, .inr ⟨o, hfd⟩, rfl, (val_at hn hem).symm⟩, ?_⟩
   refine ⟨e.2, ro e.1, rfl, hR', hok, hsz, fun q H2 s2 hq hQ => ?_⟩
   have hp2 := s2 _ _ hD.d
   have hlen' : es'.length <= i := by
    have := congrArg List.length hke
    rw [List.length_map, List.length_take] at this
    omega
   have hil := (List.getElem?_eq_some_iff.mp he).1
   refine ⟨_, rfl, _, rfl, p, _, rfl, DPut.k (k := Sum.inr e.1) hp2 (by rw [dkl_len]; omega), ?_⟩
   have hnw : e.1 ∉ es'.map (·.1) := by
    rw [hke]
    exact nd_take hn (key_get he)
   have hqH : H q = none := sm.free hfd hq
   have hqp : q ≠ p := fun z => by rw [z, hp2] at hQ; cases hQ
   refine ⟨es' ++ [(e.1, q)], _, rfl, fun b u q1 q2 => ?_, ?_, hD.new hnw hqH (fun z => ?_) ?_ (fun e' he' n1 n2 hf => ?_) ?_, ?_⟩
   ·rw [upd_ne (ne_of_none q1 hp)]
    exact s2 _ _ (sm _ _ q1 q2)
   ·rw [upd_ne npd]
    exact s2 _ _ hfd
   ·obtain ⟨e', he', z⟩ := List.mem_map.mp z
    have := hD.f e' he'
    rw [z, FK, hq] at this
    cases this
   ·rw [upd_same, put_dkl (val_none hnw)]
   ·have h1 : H2 e'.2 = _ := s2 _ _ hf
    show upd H2 p _ e'.2 = _
    rw [upd_ne (fun z => by rw [z, hp2] at h1; cases h1)]
    exact h1
   ·show upd H2 p _ q = _
    rw [upd_ne hqp]
    exact hQ
   ·rw [List.map_append, hke, take_snoc (key_get he)]
    rfl
  ·rintro σ H' ⟨es', o2, rfl, sm, hfd, hD, hke⟩
   rw [dkl_len] at hke
   refine ⟨_, rfl, k p es' H' sm hp hD ?_⟩
   rw [hke, List.take_of_length_le (by rw [List.length_map]; exact Nat.le_refl _)]
def FX (f : Str -> List V) : Hp -> Addr -> Str -> Prop := fun H a w => H a = some (.lst (f w))
def spCopy : Sp := fun vs H Q _ => ∃ (d : Addr) (es : En) (f : Str -> List V), vs = [.ref d] /\ H d = some (.dK (dkl es)) /\ (es.map (·.1)).Nodup /\ es.length <= 3000 /\ (∀ e ∈ es, H e.2 = some (.lst (f e.1))) /\
 ∀ p es' H', SameBut d H H' -> H p = none -> DL H H' p es' (FX f) -> es'.map (·.1) = es.map (·.1) -> Q (.ref p) H'
theorem scCopy : FnScope ["rows", "copies", "word"] ["rows"] (defScope sCopy) := ⟨rfl, rfl, rfl, by decide +kernel, rfl, by decide +kernel, by decide +kernel⟩
seal PSs PS PE PT PA PG PI PGs PIfs in
theorem ok_copy {f : Addr} {fd : FuncData} (D : Df K mg "copied_rows" sCopy f fd) (T : Txt mg) : FnOk P w K mg base CX0 1 f fd ["rows"] spCopy := by
 refine D.F.ok scCopy (fun vs H Q E h => ?_) (fun cdv A outer s H vs Q E hr h => ?_)
 ·obtain ⟨d, es, ro, rfl, _⟩ := h
  rfl
 ·obtain ⟨d, es, fl, rfl, hd, hn, hlen, hrow, k⟩ := h
  have hl : (sizeLine : Nat) = 16777216 := sizeLine_eq
  have hu := hu_of hr
  refine ⟨_, pss_cons (ps_set (i := 1) scCopy.nd rfl (Or.inl rfl) pe_dnewK)
   (pss_cons (ps_for PassesOwn.never rfl (pi_dict (pv 0)) (pg_name (i := 2) scCopy.nd rfl (Or.inl rfl))
    (pss_one (ps_dput hu (pv 1) (pv 2) (pe_callTy call_list_of rfl T.list b_list (pa_cons (pe_dget hu (pv 0) (pv 2) (fun _ _ => rfl)) pa_nil)) rfl)))
   (pss_one (ps_ret (pv 1)))), ?_⟩
  intro p hp
  have npd : d ≠ p := ne_of_none hd hp
  refine ⟨_, rfl, d, dkl es, rfl, (by rw [upd_ne npd]; exact hd), fun o => ?_⟩
  refine for_dict (kvs := dkl es) (fun i σ H' => ∃ (es' : En) (o2 : Option V), σ = [some (.ref d), some (.ref p), o2] /\ SameBut d H H' /\ H' d = some (.frz o (.dK (dkl es))) /\ DL H H' p es' (FX fl) /\ es'.map (·.1) = (es.map (·.1)).take i) ?_ ?_ ?_ ?_
  ·refine ⟨[], none, rfl, fun b u e hb => ?_, upd_same, ⟨?_, List.nodup_nil, List.nodup_nil, (fun e he => nomatch he), (fun e he => nomatch he)⟩, rfl⟩
   ·rw [upd_ne hb, upd_ne (ne_of_none e hp)]
    exact e
   ·rw [upd_ne (Ne.symm npd), upd_same]
    rfl
  ·rintro i σ H' _ ⟨_, _, _, _, h, _⟩
   exact h
  ·rintro i kv σ H' hkv ⟨es', o2, rfl, sm, hfd, hD, hke⟩
   obtain ⟨e, he, rfl⟩ := dkl_get hkv
   have hem := List.mem_of_getElem? he
   have hR := hrow e hem
   have nel : e.2 ≠ d := fun z => by rw [z, hd] at hR; cases hR
   have hR' := sm _ _ hR nel
   refine ⟨_, rfl, _, rfl, d, .ref e.2, rfl, .inl ⟨dkl es, Sum.inr e.1, .inr ⟨o, hfd⟩, rfl, (val_at hn hem).symm⟩, ?_⟩
   refine ⟨e.2, fl e.1, rfl, .inl (SqL.of hR'), fun q hq => ?_⟩
   have s2 : Same H' (upd H' q (.lst (fl e.1))) := same_upd hq
   have hQ : upd H' q (.lst (fl e.1)) q = some (.lst (fl e.1)) := upd_same
   generalize upd H' q (.lst (fl e.1)) = H2 at s2 hQ ⊢
   have hp2 := s2 _ _ hD.d
   have hlen' : es'.length <= i := by
    have := congrArg List.length hke
    rw [List.length_map, List.length_take] at this
    omega
   have hil := (List.getElem?_eq_some_iff.mp he).1
   refine ⟨_, rfl, _, rfl, p, _, rfl, DPut.k (k := Sum.inr e.1) hp2 (by rw [dkl_len]; omega), ?_⟩
   have hnw : e.1 ∉ es'.map (·.1) := by
    rw [hke]
    exact nd_take hn (key_get he)
   have hqH : H q = none := sm.free hfd hq
   have hqp : q ≠ p := fun z => by rw [z, hp2] at hQ; cases hQ
   refine ⟨es' ++ [(e.1, q)], _, rfl, fun b u q1 q2 => ?_, ?_, hD.new hnw hqH (fun z => ?_) ?_ (fun e' he' n1 n2 hf => ?_) ?_, ?_⟩
   ·rw [upd_ne (ne_of_none q1 hp)]
    exact s2 _ _ (sm _ _ q1 q2)
   ·rw [upd_ne npd]
    exact s2 _ _ hfd
   ·obtain ⟨e', he', z⟩ := List.mem_map.mp z
    have := hD.f e' he'
    rw [z, FX, hq] at this
    cases this
   ·rw [upd_same, put_dkl (val_none hnw)]
   ·have h1 : H2 e'.2 = _ := s2 _ _ hf
    show upd H2 p _ e'.2 = _
    rw [upd_ne (fun z => by rw [z, hp2] at h1; cases h1)]
    exact h1
   ·show upd H2 p _ q = _
    rw [upd_ne hqp]
    exact hQ
   ·rw [List.map_append, hke, take_snoc (key_get he)]
    rfl
  ·rintro σ H' ⟨es', o2, rfl, sm, hfd, hD, hke⟩
   rw [dkl_len] at hke
   refine ⟨_, rfl, k p es' H' sm hp hD ?_⟩
   rw [hke, List.take_of_length_le (by rw [List.length_map]; exact Nat.le_refl _)]
end
structure Few (tws : List (List Str)) : Prop where
 l : tws.length <= 300
 t : tot tws <= 330
theorem Few.sz {tws : List (List Str)} (h : Few tws) (x : Str) : Sz (rowOf x tws 0) := by
 have h1 := (rowOf_len x tws 0).1
 have h2 := rn_rowOf x tws 0 0
 have h3 := h.l
 have h4 := h.t
 have h5 : ∀ y ∈ rn 0 (rowOf x tws 0), y < 128 ^ (1 + 1) := fun y hy => by
  have := rn_rowOf_lt x 1000 tws 0 0 (by omega) (fun ws hw => by have := tot_mem hw; omega) y hy
  have e : 128 ^ (1 + 1) = 16384 := rfl
  omega
 have h6 := pk_short 1 _ h5
 exact ⟨by omega, by omega, by omega⟩
theorem Few.ok {tws : List (List Str)} (x : Str) : RowOk 0 (rowOf x tws 0) := rowOf_ok x tws 0 0 (Nat.le_refl _)
section
variable {P : Program} {w : World} {K : PySem.W.Frag} {mg : Str -> Option Value} {base : Heap}
def WsV (H : Hp) : List V -> List (List Str) -> Prop := Paired fun v ws => ∃ p, v = .ref p /\ H p = some (.lst (sl ws))
theorem WsV.same {H H' : Hp} {xs : List V} {t : List (List Str)} (h : WsV H xs t) (s : Same H H') : WsV H' xs t := Gn.Paired.imp2 h fun _ _ ⟨p, e, q⟩ => ⟨p, e, s _ _ q⟩
def FR (tws : List (List Str)) : Hp -> Addr -> Str -> Prop := fun H a w => RowAt H a (rowOf w tws 0)
def spRBW : Sp := fun vs H Q _ => ∃ (a : Addr) (xs : List V) (tws : List (List Str)), vs = [.ref a] /\ H a = some (.lst xs) /\ WsV H xs tws /\ Few tws /\
 ∀ p es H', Same H H' -> H p = none -> DL H H' p es (FK fun x => rowOf x tws 0) -> es.length <= tot tws -> (∀ x, x ∈ es.map (·.1) ↔ ∃ ws ∈ tws, x ∈ ws) -> Q (.ref p) H'
theorem scRBW : FnScope ["texts_words", "rows", "number", "words", "places", "word"] ["texts_words"] (defScope sRBW) := ⟨rfl, rfl, rfl, by decide +kernel, rfl, by decide +kernel, by decide +kernel⟩
def mid (t1 t2 : List (List Str)) (ks : List Str) (x : Str) : List Pr := if x ∈ ks then rowOf x t2 0 else rowOf x t1 0
def FM (t1 t2 : List (List Str)) (ks : List Str) : Hp -> Addr -> Str -> Prop := fun H a w => RowAt H a (mid t1 t2 ks w)
theorem mid_ne {t1 t2 : List (List Str)} {ks : List Str} {x y : Str} (h : y ≠ x) : mid t1 t2 (ks ++ [x]) y = mid t1 t2 ks y := by
 unfold mid
 have e : (y ∈ ks ++ [x]) ↔ y ∈ ks := by
  rw [List.mem_append, List.mem_singleton]
  exact ⟨fun q => q.elim id fun z => absurd z h, .inl⟩
 by_cases q : y ∈ ks
 ·rw [if_pos q, if_pos (e.mpr q)]
 ·rw [if_neg q, if_neg (fun z => q (e.mp z))]
theorem mid_eq {t1 t2 : List (List Str)} {ks : List Str} {x : Str} : mid t1 t2 (ks ++ [x]) x = rowOf x t2 0 := if_pos (by simp)
theorem mid_no {t1 t2 : List (List Str)} {ks : List Str} {x : Str} (h : x ∉ ks) : mid t1 t2 ks x = rowOf x t1 0 := if_neg h
seal PSs PS PE PT PA PG PI PGs PIfs in
theorem ok_rbw {f fp fr : Addr} {fd fdp fdr : FuncData} (D : Df K mg "rows_by_word" sRBW f fd) (DP : Df K mg "places_by_word" sPBW fp fdp) (GP : FnOk P w K mg base CX0 1 fp fdp ["words"] spPBW)
  (DR : Df K mg "packed_rows" sPRs fr fdr) (GR : FnOk P w K mg base CX0 6 fr fdr ["rows"] spPRs) (T : Txt mg) : FnOk P w K mg base CX0 7 f fd ["texts_words"] spRBW := by
 have bP := binds1 (p := "words") DP.F fun _ _ _ _ _ _ _ => rfl
 have bR := binds1 (p := "rows") DR.F fun _ _ _ _ _ _ _ => rfl
 refine D.F.ok scRBW (fun vs H Q E h => ?_) (fun cdv A outer s H vs Q E hr h => ?_)
 ·obtain ⟨a, xs, tws, rfl, _⟩ := h
  rfl
 ·obtain ⟨a, xs, tws, rfl, hA, hW, hFew, k⟩ := h
  have hl : (sizeLine : Nat) = 16777216 := sizeLine_eq
  have hu := hu_of hr
  have hxl := Gn.Paired.len hW
  have hfl := hFew.l
  have hft := hFew.t
  refine ⟨_, pss_cons (ps_set (i := 1) scRBW.nd rfl (Or.inl rfl) pe_dnewK)
   (pss_cons (ps_for PassesOwn.never rfl (pi_enumL rfl T.enum (pa_cons (pv 0) pa_nil)) (pg_tup (n := 2) rfl (pgs_cons (pg_name (i := 2) scRBW.nd rfl (Or.inl rfl)) (pgs_cons (pg_name (i := 3) scRBW.nd rfl (Or.inl rfl)) pgs_nil)))
    (pss_cons (ps_set (i := 4) scRBW.nd rfl (Or.inl rfl) (pe_call (GP.mono (by decide)) hr rfl DP.m DP.F.kp bP .nil pass0 (pa_cons (pv 3) pa_nil)))
    (pss_one (ps_for PassesOwn.never rfl (pi_dict (pv 4)) (pg_name (i := 5) scRBW.nd rfl (Or.inl rfl))
     (pss_one (ps_expr (pe_bm PySem.F.plainAttrs_list PySem.F.slot_list_append PySem.F.type_list_append mt_append
      (PE.imp (t' := tGet 1 5) (pe_bm PySem.F.plainAttrs_dict PySem.F.slot_dict_setdefault PySem.F.type_dict_setdefault mt_setd (pv 1) (pa_cons (pv 5) (pa_cons (pe_lst pa_nil) pa_nil))) fun _ _ _ => getL)
      (pa_cons (pe_tup (pa_cons (pv 2) (pa_cons (pe_callTy call_tuple_of rfl T.tuple b_tuple (pa_cons (pe_dget hu (pv 4) (pv 5) (fun _ _ => rfl)) pa_nil)) pa_nil))) pa_nil))))))))
   (pss_one (ps_ret (pe_call GR hr rfl DR.m DR.F.kp bR .nil pass0 (pa_cons (pv 1) pa_nil))))), ?_⟩
  intro d hd
  refine ⟨_, rfl, a, xs, rfl, same_upd hd _ _ hA, ?_⟩
  refine for_iel (xs := xs) (fun i σ H' => ∃ (es : En) (o2 o3 o4 o5 : Option V), σ = [some (.ref a), some (.ref d), o2, o3, o4, o5] /\ Same H H' /\ DL H H' d es (FR (tws.take i)) /\ es.length <= tot (tws.take i) /\ (∀ x, x ∈ es.map (·.1) ↔ ∃ ws ∈ tws.take i, x ∈ ws)) ?_ ?_ ?_ ?_
  ·exact ⟨[], none, none, none, none, rfl, same_upd hd, ⟨upd_same, List.nodup_nil, List.nodup_nil, (fun e he => nomatch he), (fun e he => nomatch he)⟩, Nat.le_refl _, fun x => by simp⟩
  ·rintro i σ H' _ ⟨_, _, _, _, _, _, sm, _⟩
   exact sm _ _ hA
  ·rintro i x σ H' t hx ⟨es, o2, o3, o4, o5, rfl, sm, hD, hel, hin⟩ ht
   obtain ⟨ws, hws, pw, rfl, hpw⟩ := paired_get hW hx
   have st : Same H' (upd H' t (.tup [.int i, .ref pw])) := same_upd ht
   refine ⟨t, _, rfl, SqT.of upd_same, rfl, _, _, rfl, _, _, rfl, rfl, ?_⟩
   generalize upd H' t (.tup [.int i, .ref pw]) = H1 at st ⊢
   have hwl : ws.length <= 330 := by have := tot_mem (List.mem_of_getElem? hws); omega
   have sm1 := sm.trans st
   refine ⟨_, rfl, pw, ws, rfl, sm1 _ _ hpw, by omega, fun dp ep H2 s2 hdp hP hpl hpin => ?_⟩
   have sm2 := sm1.trans s2
   have s02 := st.trans s2
   refine ⟨_, rfl, dp, dkl ep, rfl, hP.d, fun o => ?_⟩
   have e1 : tws.take (i + 1) = tws.take i ++ [ws] := take_snoc hws
   have e2 : (tws.take i).length = i := len_take hws
   have hdp0 : H dp = none := sm1.free hdp
   have npd : d ≠ dp := fun z => by rw [<- z, st _ _ hD.d] at hdp; cases hdp
   have row_in : ∀ u, u ∈ ws -> rowOf u (tws.take (i + 1)) 0 = rowOf u (tws.take i) 0 ++ [(i, plc u ws 0)] := fun u hu' => by
    rw [e1, rowOf_snoc, if_pos hu', e2, Nat.zero_add]
   have row_out : ∀ u, u ∉ ws -> rowOf u (tws.take (i + 1)) 0 = rowOf u (tws.take i) 0 := fun u hu' => by
    rw [e1, rowOf_snoc, if_neg hu', List.append_nil]
   refine for_dict (kvs := dkl ep) (fun j σ H3 => ∃ (es : En) (o5 : Option V), σ = [some (.ref a), some (.ref d), some (.int (i : Int)), some (.ref pw), some (.ref dp), o5] /\ Same H H3 /\ H3 dp = some (.frz o (.dK (dkl ep))) /\
    (∀ e ∈ ep, H3 e.2 = some (.lst (nl (plc e.1 ws 0)))) /\ (∀ e ∈ ep, ∀ e' ∈ es, e.2 ≠ e'.2) /\ DL H H3 d es (FM (tws.take i) (tws.take (i + 1)) ((ep.map (·.1)).take j)) /\ es.length <= tot (tws.take i) + j /\
    (∀ x, x ∈ es.map (·.1) ↔ (∃ ws ∈ tws.take i, x ∈ ws) \/ x ∈ (ep.map (·.1)).take j)) ?_ ?_ ?_ ?_
   ·have hdd := s02 _ _ hD.d
    refine ⟨es, _, rfl, fun b u e => ?_, upd_same, fun e he => ?_, fun e he e' he' z => ?_, ⟨?_, hD.k, hD.a, hD.n, fun e he => ?_⟩, hel, fun x => ?_⟩
    ·rw [upd_ne (ne_of_none e hdp0)]
     exact sm2 _ _ e
    ·have h1 : H2 e.2 = _ := hP.f e he
     rw [upd_ne (fun z => by rw [z, hP.d] at h1; cases h1)]
     exact h1
    ·obtain ⟨ys, h1, _⟩ := hD.f e' he'
     have h2 := hP.n e he
     rw [z, st _ _ h1] at h2
     cases h2
    ·rw [upd_ne npd]
     exact hdd
    ·show RowAt _ e.2 (mid _ _ _ e.1)
     rw [mid_no (by simp)]
     have hR : RowAt H2 e.2 (rowOf e.1 (tws.take i) 0) := (hD.f e he).same s02
     refine hR.but (x := dp) (fun b u q hb => by rw [upd_ne hb]; exact q) (fun z => ?_) fun ts z => by rw [hP.d] at z; cases z
     obtain ⟨ys, h1, _⟩ := hR
     rw [z, hP.d] at h1
     cases h1
    ·rw [hin]
     simp
   ·rintro j σ H3 _ ⟨_, _, _, _, h, _⟩
    exact h
   ·rintro j kv σ H3 hkv ⟨es, o5, rfl, sm3, hfd, hpe, hap, hD, hel, hin⟩
    obtain ⟨e, he, rfl⟩ := dkl_get hkv
    have hem := List.mem_of_getElem? he
    have hk1 := key_get he
    have hks : (ep.map (·.1)).take (j + 1) = (ep.map (·.1)).take j ++ [e.1] := take_snoc hk1
    have hknew : e.1 ∉ (ep.map (·.1)).take j := nd_take hP.k hk1
    have hews : e.1 ∈ ws := (hpin e.1).mp (List.mem_map.mpr ⟨e, hem, rfl⟩)
    have hjl := (List.getElem?_eq_some_iff.mp he).1
    have htk := tot_take tws i
    have hls : ∀ e' ∈ es, ∃ l, H3 e'.2 = some (.lst l) := fun e' he' => let ⟨ys, h1, _⟩ := hD.f e' he'; ⟨ys, h1⟩
    refine ⟨H, d, es, e.1, FM (tws.take i) (tws.take (i + 1)) ((ep.map (·.1)).take j), rfl, rfl, hD, by omega, fun z hz => sm3.free hz, hls, ?_, ?_, ?_⟩
    ·intro G b y l sb hb hf
     exact RowAt.but hf sb (fun q => by rw [q, hD.d] at hb; cases hb) fun ts q => by rw [hD.d] at q; cases q
    ·intro G z hn hz
     refine ⟨[], hz, ?_⟩
     rw [mid_no hknew, (rowOf_nil e.1 _ 0).mpr fun ws' hw' q => hn ((hin e.1).mpr (.inl ⟨ws', hw', q⟩))]
     exact .nil
    ·rintro p es' H4 sb hD4 hp hor ⟨l, hpl⟩
     obtain ⟨ys, hys, hpr⟩ := hD4.f _ hp
     rw [mid_no hknew] at hpr
     have ndp : dp ≠ d := Ne.symm npd
     have hfd4 := sb _ _ hfd ndp
     have hepd : ∀ e' ∈ ep, e'.2 ≠ d := fun e' he' q => by
      have := hpe e' he'
      rw [q, hD.d] at this
      cases this
     have hpe4 : ∀ e' ∈ ep, H4 e'.2 = some (.lst (nl (plc e'.1 ws 0))) := fun e' he' => sb _ _ (hpe e' he') (hepd e' he')
     have hap4 : ∀ e' ∈ ep, ∀ e2 ∈ es', e'.2 ≠ e2.2 := fun e' he' e2 he2 => by
      rcases hor with rfl | ⟨_, rfl, hnp⟩
      ·exact hap e' he' e2 he2
      ·rcases List.mem_append.mp he2 with he2 | he2
       ·exact hap e' he' e2 he2
       ·rw [List.mem_singleton.mp he2]
        exact ne_of_none (hpe e' he') hnp
     have hyl : ys.length <= 300 := by
      have h1 := Gn.Paired.len hpr
      have h2 := (rowOf_len e.1 (tws.take i) 0).1
      have h3 := (List.getElem?_eq_some_iff.mp hws).1
      rw [h1]
      show (rowOf e.1 (tws.take i) 0).length <= 300
      omega
     refine ⟨.inl ⟨rfl, _, SqL.of hys⟩, ?_⟩
     refine ⟨_, rfl, _, rfl, _, rfl, dp, .ref e.2, rfl, .inl ⟨dkl ep, Sum.inr e.1, .inr ⟨o, hfd4⟩, rfl, (val_at hP.k hem).symm⟩, ?_⟩
     refine ⟨e.2, _, rfl, .inl ⟨SqL.of (hpe4 e hem), fun pt hpt => ⟨(by show 2 <= sizeLine; decide), fun pp hpp => ?_⟩⟩⟩
     have s5 : Same H4 (upd H4 pt (.tup (nl (plc e.1 ws 0)))) := same_upd hpt
     have h5 : (upd H4 pt (.tup (nl (plc e.1 ws 0)))) pt = some (.tup (nl (plc e.1 ws 0))) := upd_same
     generalize upd H4 pt (.tup (nl (plc e.1 ws 0))) = H5 at s5 h5 hpp ⊢
     have s6 : Same H5 (upd H5 pp (.tup [.int (i : Int), .ref pt])) := same_upd hpp
     have h6 : (upd H5 pp (.tup [.int (i : Int), .ref pt])) pp = some (.tup [.int (i : Int), .ref pt]) := upd_same
     generalize upd H5 pp (.tup [.int (i : Int), .ref pt]) = H6 at s6 h6 ⊢
     have s46 := s5.trans s6
     have hv : PrAt H6 (.ref pp) (i, plc e.1 ws 0) := .mk h6 (s6 _ _ h5)
     have hpr6 : Paired (PrAt H6) ys (rowOf e.1 (tws.take i) 0) := Gn.Paired.imp2 hpr fun _ _ q => q.same s46
     have hp6 := s46 _ _ hys
     refine ⟨p, ys, _, rfl, rfl, hp6, by omega, ?_⟩
     have sb7 : SameBut p H4 (upd H6 p (.lst (ys ++ [.ref pp]))) := fun b u q hb => by rw [upd_ne hb]; exact s46 _ _ q
     have hR7 := RowAt.snoc hp6 hpr6 hv
     generalize upd H6 p (.lst (ys ++ [.ref pp])) = H7 at sb7 hR7 ⊢
     have npp : d ≠ p := fun q => by rw [<- q, hD4.d] at hys; cases hys
     have nt : ∀ ts, H4 p ≠ some (.tup ts) := fun ts q => by rw [hys] at q; cases q
     refine ⟨es', _, rfl, fun b u q => ?_, ?_, fun e' he' => ?_, hap4, hD4.put hp (sb7 _ _ hD4.d npp) (fun e' he' n1 n2 hf => ?_) ?_, ?_, fun x => ?_⟩
     ·exact sb7 _ _ (sb.new sm3 hd _ _ q) (ne_of_none q (hD4.n _ hp))
     ·exact sb7 _ _ hfd4 fun q => by rw [q, hys] at hfd4; cases hfd4
     ·exact sb7 _ _ (hpe4 e' he') (hap4 e' he' _ hp)
     ·show RowAt H7 e'.2 (mid _ _ _ e'.1)
      rw [hks, mid_ne n1]
      exact RowAt.but hf sb7 n2 nt
     ·show RowAt H7 p (mid _ _ _ e.1)
      rw [hks, mid_eq, row_in e.1 hews]
      exact hR7
     ·rcases hor with rfl | ⟨_, rfl, _⟩
      ·omega
      ·rw [List.length_append]
       show es.length + 1 <= _
       omega
     ·have hm : x ∈ es'.map (·.1) ↔ x ∈ es.map (·.1) \/ x = e.1 := by
       rcases hor with rfl | ⟨_, rfl, _⟩
       ·exact ⟨.inl, fun q => q.elim id fun z => by rw [z]; exact List.mem_map.mpr ⟨_, hp, rfl⟩⟩
       ·rw [List.map_append, List.mem_append]
        show (_ \/ x ∈ [e.1]) ↔ _
        rw [List.mem_singleton]
      rw [hm, hin, hks, List.mem_append, List.mem_singleton, or_assoc]
   ·rintro σ H3 ⟨es, o5, rfl, sm3, hfd, hpe, hap, hD, hel, hin⟩
    rw [dkl_len] at hD hel hin
    have etk : (ep.map (·.1)).take ep.length = ep.map (·.1) := List.take_of_length_le (by rw [List.length_map]; exact Nat.le_refl _)
    rw [etk] at hD hin
    refine ⟨es, _, _, _, _, rfl, sm3, ⟨hD.d, hD.k, hD.a, hD.n, fun e he => ?_⟩, ?_, fun x => ?_⟩
    ·have hf : RowAt H3 e.2 (mid _ _ _ e.1) := hD.f e he
     show RowAt H3 e.2 _
     by_cases q : e.1 ∈ ep.map (·.1)
     ·rw [mid, if_pos q] at hf
      exact hf
     ·rw [mid_no q] at hf
      rw [row_out e.1 fun z => q ((hpin e.1).mpr z)]
      exact hf
    ·rw [e1, tot_app]
     omega
    ·rw [hin, e1]
     constructor
     ·rintro (⟨ws', h1, h2⟩ | q)
      ·exact ⟨ws', List.mem_append_left _ h1, h2⟩
      ·exact ⟨ws, List.mem_append_right _ (List.mem_singleton.mpr rfl), (hpin x).mp q⟩
     ·rintro ⟨ws', h1, h2⟩
      rcases List.mem_append.mp h1 with h1 | h1
      ·exact .inl ⟨ws', h1, h2⟩
      ·rw [List.mem_singleton.mp h1] at h2
       exact .inr ((hpin x).mpr h2)
  ·rintro σ H' ⟨es, o2, o3, o4, o5, rfl, sm, hD, hel, hin⟩
   rw [hxl, List.take_length] at hD hel hin
   refine ⟨_, rfl, d, es, fun x => rowOf x tws 0, rfl, hD.d, hD.k, by omega, fun e he => ⟨hD.f e he, Few.ok e.1, hFew.sz e.1⟩, fun p es' H2 sb hp hD' hk' => ?_⟩
   have hle := congrArg List.length hk'
   rw [List.length_map, List.length_map] at hle
   exact k p es' H2 (sb.new sm hd) (sm.free hp) ⟨hD'.d, hD'.k, hD'.a, fun e he => sm.free (hD'.n e he), hD'.f⟩ (by omega) fun x => by rw [hk']; exact hin x
end
def PairsV (H : Hp) : List V -> List (V × V) -> Prop := Paired fun v kt => ∃ p, v = .ref p /\ H p = some (.tup [kt.1, kt.2])
theorem PairsV.same {H H' : Hp} {xs : List V} {t : List (V × V)} (h : PairsV H xs t) (s : Same H H') : PairsV H' xs t := Gn.Paired.imp2 h fun _ _ ⟨p, e, q⟩ => ⟨p, e, s _ _ q⟩
def keyS : V -> Str
 | .str z => z
 | _ => Str.empty
def badOf : List Str -> List (V × V) -> Option Nat
 | _, [] => none
 | seen, (k, t) :: r => if rowV 12 k = false then some 0 else if txtV t = false then some 1 else if keyS k ∈ seen then some 2 else badOf (seen ++ [keyS k]) r
def kp (p : Str × Str) : V × V := (.str p.1, .str p.2)
structure GoodPs (ps : List (Str × Str)) : Prop where
 g : ∀ p ∈ ps, rowV 12 (.str p.1) = true /\ txtV (.str p.2) = true
 n : (ps.map (·.1)).Nodup
theorem row_str {m : Nat} {v : V} (h : rowV m v = true) : ∃ z, v = .str z := by cases v <;> first | exact ⟨_, rfl⟩ | cases h
theorem txt_str {v : V} (h : txtV v = true) : ∃ z, v = .str z := by cases v <;> first | exact ⟨_, rfl⟩ | cases h
theorem bad_none : ∀ {kts : List (V × V)} {seen : List Str}, badOf seen kts = none -> ∃ ps : List (Str × Str), kts = ps.map kp /\ (∀ p ∈ ps, rowV 12 (.str p.1) = true /\ txtV (.str p.2) = true) /\ (∀ p ∈ ps, p.1 ∉ seen) /\ (ps.map (·.1)).Nodup
 | [], _, _ => ⟨[], rfl, (fun p hp => nomatch hp), (fun p hp => nomatch hp), List.nodup_nil⟩
 | (k, t) :: r, seen, h => by
  unfold badOf at h
  by_cases h1 : rowV 12 k = false
  ·rw [if_pos h1] at h; cases h
  ·rw [if_neg h1] at h
   by_cases h2 : txtV t = false
   ·rw [if_pos h2] at h; cases h
   ·rw [if_neg h2] at h
    by_cases h3 : keyS k ∈ seen
    ·rw [if_pos h3] at h; cases h
    ·rw [if_neg h3] at h
     obtain ⟨ps, e, a, b, c⟩ := bad_none h
     obtain ⟨z, rfl⟩ := row_str (by simpa using h1)
     obtain ⟨y, rfl⟩ := txt_str (by simpa using h2)
     refine ⟨(z, y) :: ps, by rw [e]; rfl, fun p hp => ?_, fun p hp => ?_, ?_⟩
     ·rcases List.mem_cons.mp hp with rfl | hp
      ·exact ⟨by simpa using h1, by simpa using h2⟩
      ·exact a p hp
     ·rcases List.mem_cons.mp hp with rfl | hp
      ·exact h3
      ·exact fun q => b p hp (List.mem_append_left _ q)
     ·show (z :: ps.map (·.1)).Nodup
      refine List.nodup_cons.mpr ⟨fun q => ?_, c⟩
      obtain ⟨p, hp, e⟩ := List.mem_map.mp q
      exact b p hp (by rw [e]; exact List.mem_append_right _ (List.mem_singleton.mpr rfl))
def numd (ks : List Str) : List (Key × V) := ks.zipIdx.map fun p => ((Sum.inr p.1 : Key), V.int (p.2 : Int))
theorem numd_snoc (ks : List Str) (z : Str) : numd (ks ++ [z]) = numd ks ++ [((Sum.inr z : Key), V.int (ks.length : Int))] := by
 unfold numd
 rw [List.zipIdx_append, List.map_append]
 simp
theorem numd_len (ks : List Str) : (numd ks).length = ks.length := by unfold numd; simp
theorem numd_keys (ks : List Str) : (numd ks).map (·.1) = ks.map Sum.inr := by
 unfold numd
 rw [List.map_map]
 have : ((fun x : Key × V => x.1) ∘ fun p : Str × Nat => ((Sum.inr p.1 : Key), V.int (p.2 : Int))) = (Sum.inr ∘ Prod.fst : Str × Nat -> Key) := rfl
 rw [this, <- List.map_map, List.zipIdx_map_fst]
theorem numd_no {ks : List Str} {z : Str} (h : z ∉ ks) : valV (numd ks) (Sum.inr z) = none := by
 cases q : valV (numd ks) (Sum.inr z) with
 | none => rfl
 | some v =>
  have := valV_in q
  rw [numd_keys] at this
  obtain ⟨y, hy, e⟩ := List.mem_map.mp this
  rw [Sum.inr.inj e] at hy
  exact absurd hy h
theorem numd_yes {ks : List Str} {z : Str} (h : z ∈ ks) : ∃ v, valV (numd ks) (Sum.inr z) = some v := by
 cases q : valV (numd ks) (Sum.inr z) with
 | some v => exact ⟨v, rfl⟩
 | none =>
  have := valV_not q
  rw [numd_keys] at this
  exact absurd (List.mem_map.mpr ⟨z, h, rfl⟩) this
def cAt (C0 C1 C2 : Addr) : Nat -> Addr
 | 0 => C0
 | 1 => C1
 | _ => C2
section
variable {P : Program} {w : World} {K : PySem.W.Frag} {mg : Str -> Option Value} {base : Heap} {CK CT CW : Addr}
def KtOk (K : PySem.W.Frag) (H : Hp) (kt : V × V) : Prop := Known K H kt.1 /\ Fit kt.1 /\ Known K H kt.2 /\ Fit kt.2
def spNBK (K : PySem.W.Frag) (CK CT CW : Addr) : Sp := fun vs H Q E => ∃ (a : Addr) (xs : List V) (kts : List (V × V)), vs = [.ref a] /\ H a = some (.lst xs) /\ PairsV H xs kts /\ kts.length <= 1000 /\ (∀ kt ∈ kts, KtOk K H kt) /\
 (badOf [] kts = none -> ∀ p H', Same H H' -> H p = none -> H' p = some (.dK (numd (kts.map fun kt => keyS kt.1))) -> Q (.ref p) H') /\ (∀ i, badOf [] kts = some i -> ∀ H', Same H H' -> E (.ref (cAt CK CT CW i)) none H')
theorem scNBK : FnScope ["pairs", "numbers", "key", "text"] ["pairs"] (defScope sNBK) := ⟨rfl, rfl, rfl, by decide +kernel, rfl, by decide +kernel, by decide +kernel⟩
seal PSs PS PE PT PA PG PI PGs PIfs in
theorem ok_nbk {f fk ft : Addr} {fd fdk fdt : FuncData} (D : Df K mg "numbers_by_key" sNBK f fd) (DK : Df K mg "need_key" sNKey fk fdk) (GK : FnOk P w K mg base (CX1 P w) 3 fk fdk ["thing"] (spNeed K (rowV 12) CK))
  (DT : Df K mg "need_text" sNText ft fdt) (GT : FnOk P w K mg base (CX1 P w) 3 ft fdt ["thing"] (spNeed K txtV CT)) (X : Ex K mg "Twice" CW) (T : Txt mg) : FnOk P w K mg base (CX1 P w) 4 f fd ["pairs"] (spNBK K CK CT CW) := by
 have bK := binds1 (p := "thing") DK.F fun _ _ _ _ _ _ _ => rfl
 have bT := binds1 (p := "thing") DT.F fun _ _ _ _ _ _ _ => rfl
 refine D.F.ok1 scNBK (fun vs H Q E h => ?_) (fun cdv A outer s H vs Q E hr h => ?_)
 ·obtain ⟨a, xs, kts, rfl, _⟩ := h
  rfl
 ·obtain ⟨a, xs, kts, rfl, hA, hP, hlen, hk, k1, k2⟩ := h
  have hl : (sizeLine : Nat) = 16777216 := sizeLine_eq
  have hu := hu_of hr
  have hxl := Gn.Paired.len hP
  refine ⟨_, pss_cons (ps_set (i := 1) scNBK.nd rfl (Or.inl rfl) pe_dnewK)
   (pss_cons (ps_for PassesOwn.leaving rfl (pi_list (pv 0)) (pg_tup (n := 2) rfl (pgs_cons (pg_name (i := 2) scNBK.nd rfl (Or.inl rfl)) (pgs_cons (pg_name (i := 3) scNBK.nd rfl (Or.inl rfl)) pgs_nil)))
    (pss_cons (ps_expr (pe_call GK hr rfl DK.m DK.F.kp bK .nil (pass_out (E' := E) (fun _ _ _ h => h)) (pa_cons (pv 2) pa_nil)))
    (pss_cons (ps_expr (pe_call GT hr rfl DT.m DT.F.kp bT .nil (pass_out (E' := E) (fun _ _ _ h => h)) (pa_cons (pv 3) pa_nil)))
    (pss_cons (ps_if (pt_cmp (pc_din hu (pv 2) (pv 1))) (pss_one (ps_raise rfl X.q PySem.F.excBase_ValueError (by decide +kernel) PySem.F.excBase_ValueError rfl X.m (pa_cons pe_str pa_nil) raise_out)) pss_nil)
    (pss_one (ps_dput hu (pv 1) (pv 2) (pe_callB call_lenD rfl T.len b_len (pa_cons (pv 1) pa_nil)) rfl))))))
   (pss_one (ps_ret (pv 1)))), ?_⟩
  intro d hd
  refine ⟨_, rfl, a, rfl, ⟨_, SqL.of (same_upd hd _ _ hA)⟩, ?_⟩
  refine for_list (xs := xs) (fun i σ H' => ∃ (o2 o3 : Option V), σ = [some (.ref a), some (.ref d), o2, o3] /\ Same H H' /\ H' d = some (.dK (numd ((kts.take i).map fun kt => keyS kt.1))) /\ badOf [] kts = badOf ((kts.take i).map fun kt => keyS kt.1) (kts.drop i)) ?_ ?_ ?_ ?_
  ·exact ⟨none, none, rfl, same_upd hd, upd_same, rfl⟩
  ·rintro i σ H' _ ⟨_, _, _, sm, _⟩
   exact SqL.of (sm _ _ hA)
  ·rintro i x σ H' hx ⟨o2, o3, rfl, sm, hd', hbad⟩
   obtain ⟨kt, hkt, p, rfl, hp⟩ := paired_get hP hx
   obtain ⟨kv, tv⟩ := kt
   obtain ⟨c1, c2, c3, c4⟩ := hk _ (List.mem_of_getElem? hkt)
   have hil := (List.getElem?_eq_some_iff.mp hkt).1
   rw [drop_at hkt] at hbad
   replace hbad : badOf [] kts = (if rowV 12 kv = false then some 0 else if txtV tv = false then some 1 else if keyS kv ∈ ((kts.take i).map fun kt => keyS kt.1) then some 2 else badOf (((kts.take i).map fun kt => keyS kt.1) ++ [keyS kv]) (kts.drop (i + 1))) := hbad
   refine ⟨p, _, rfl, SqT.of (sm _ _ hp), rfl, _, _, rfl, _, _, rfl, rfl, ?_⟩
   refine ⟨_, rfl, kv, rfl, c1.same sm, c2, fun hg H1 s1 => ?_, fun hg H1 s1 => ?_⟩
   ·rw [if_neg (by rw [hg]; decide)] at hbad
    have sm1 := sm.trans s1
    refine ⟨_, rfl, tv, rfl, c3.same sm1, c4, fun hg2 H2 s2 => ?_, fun hg2 H2 s2 => ?_⟩
    ·rw [if_neg (by rw [hg2]; decide)] at hbad
     have sm2 := sm1.trans s2
     obtain ⟨z, rfl⟩ := row_str hg
     have hd2 := s2 _ _ (s1 _ _ hd')
     refine ⟨_, rfl, _, rfl, d, _, rfl, DGet.k (k := Sum.inr z) hd2, _, rfl, ?_⟩
     by_cases hz : z ∈ (kts.take i).map fun kt => keyS kt.1
     ·obtain ⟨v, hv⟩ := numd_yes hz
      rw [hv]
      refine iteT ⟨by show 1 <= sizeLine; decide, k2 2 ?_ H2 sm2⟩
      rw [hbad, if_pos (show keyS (V.str z) ∈ _ from hz)]
     ·rw [numd_no hz]
      rw [if_neg (show ¬ keyS (V.str z) ∈ _ from hz)] at hbad
      have hkl : ((kts.take i).map fun kt => keyS kt.1).length = i := by rw [List.length_map, len_take hkt]
      refine iteF ⟨_, rfl, d, _, rfl, hd2, _, rfl, _, rfl, d, _, rfl, DPut.k (k := Sum.inr z) hd2 (by rw [numd_len, hkl]; omega), ?_⟩
      refine ⟨_, _, rfl, fun b u e => ?_, ?_, ?_⟩
      ·rw [upd_ne (ne_of_none e hd)]
       exact sm2 _ _ e
      ·rw [upd_same, putK_new _ (numd_no hz), take_snoc hkt, List.map_append]
       show some (HO.dK (numd _ ++ [((Sum.inr z : Key), V.int ((numd _).length : Int))])) = some (HO.dK (numd (_ ++ [z])))
       rw [numd_snoc, numd_len]
      ·rw [hbad, take_snoc hkt, List.map_append]
       rfl
    ·rw [if_pos hg2] at hbad
     exact k2 1 hbad H2 (sm1.trans s2)
   ·rw [if_pos hg] at hbad
    exact k2 0 hbad H1 (sm.trans s1)
  ·rintro σ H' ⟨o2, o3, rfl, sm, hd', hbad⟩
   rw [hxl, List.take_length] at hd'
   rw [hxl, List.drop_length] at hbad
   exact ⟨_, rfl, k1 hbad d H' sm hd hd'⟩
end
end K08
namespace Gn
open PySem L2 PyProof.Rows PySem.Spec
def rLen (K : PySem.W.Frag) : List V -> Hp -> VK -> Prop := fun xs H Q => ∃ p ys, xs = [.ref p] /\ (SqL K H p ys \/ SqT K H p ys) /\ Q (.int ys.length) H
theorem call_lenK {X : Cx} {K : PySem.W.Frag} (h : X.K = K) : CallR X (.builtin "len") (rLen K) := by subst h; exact call_len_seq
structure FnD (K : PySem.W.Frag) (x qual : Str) (st : Stmt) (f : Addr) (fd : FuncData) (items : Array Value) : Prop where
 ex : ∃ (oc : Value) (od : Option Addr) (kV doc pm : Value) (an : Option Addr) (cdv ct : Value) (osl : Array (Option Value)) (T : Addr) (o : Obj) (n : Nat),
  fd = PySem.W.fnOf x qual (defArgs st) (defBody st) (defScope st) (.ref T) kV doc pm an cdv ct /\ K.lookup f = some ⟨oc, od, .func fd, osl⟩ /\ PySem.W.codeIn K cdv qual = true /\ K.lookup T = some o /\ o.data = .seq items n
section
variable {P : Program} {w : World} {K : PySem.W.Frag} {mg : Str -> Option Value} {base : Heap}
theorem FnD.ok1 {x qual : Str} {st : Stmt} {f : Addr} {fd : FuncData} {items : Array Value} {N ps : List Str} {k : Nat} {sp : Sp} (F : FnD K x qual st f fd items) (S : FnScope N ps (defScope st)) (len : ∀ vs H Q E, sp vs H Q E -> vs.length = ps.length)
  (hbody : ∀ (cdv : Value) (A : Around) (outer : List Env) (s : Shared) (H : Hp) (vs : List V) (Q : VK) (E : XK), Room k (A.deeper (envOfC qual (defScope st) s.heap.objs.size f cdv)) -> sp vs H Q E ->
   ∃ t, PSs (cxOf (CX1 P w) P w K mg base N qual (defScope st) f cdv A outer s H E) (defBody st) t /\ t { nx := fun _ H' => Q .non H', rt := Q } (L2.start N vs) H) : FnOk P w K mg base (CX1 P w) (k + 1) f fd ps sp := by
 obtain ⟨oc, od, kV, doc, pm, an, cdv, ct, osl, T, o, n, rfl, lk, hcd, _⟩ := F.ex
 exact fn_of lk hcd S len fun A outer s H vs Q E hr hsp => hbody cdv A outer s H vs Q E hr hsp
theorem FnD.binds {x qual : Str} {st : Stmt} {f : Addr} {fd : FuncData} {items : Array Value} {ps : List Str} {ds : List Value} (F : FnD K x qual st f fd items)
  (h : ∀ (T : Addr) (kV doc pm : Value) (an : Option Addr) (cdv ct : Value) (us : List Value), (us ++ ds).length = ps.length -> ∃ k : Option (Array Value) -> Sem (List (Str × Value)),
   bindArgs (PySem.W.fnOf x qual (defArgs st) (defBody st) (defScope st) (.ref T) kV doc pm an cdv ct) ⟨us, []⟩ = seqItems? (.ref T) >>= k /\ k (some items) = pure (ps.zip (us ++ ds))) : Binds K fd ps ds := by
 obtain ⟨oc, od, kV, doc, pm, an, cdv, ct, osl, T, o, n, rfl, lk, hcd, lT, hd⟩ := F.ex
 intro s us X hl
 obtain ⟨k, h1, h2⟩ := h T kV doc pm an cdv ct us hl
 exact BindsTo.of_defaults (T := T) rfl (X _ _ lT) hd h1 h2
end
end Gn
namespace K08
open PySem L2 PyProof.Rows PySem.Spec Gn K04 K01 BK
def bflds (dn pa sz dr ri : Addr) : List (Str × V) := putF "rising" (.ref ri) (putF "rows" (.ref dr) (putF "sizes" (.ref sz) (putF "pairs" (.ref pa) (putF "numbers" (.ref dn) []))))
section
variable {dn pa sz dr ri : Addr}
theorem bf_ri : (bflds dn pa sz dr ri).lookup ("rising" : Str) = some (.ref ri) := by
 unfold bflds
 rw [lookup_putF, if_pos rfl]
theorem bf_dr : (bflds dn pa sz dr ri).lookup ("rows" : Str) = some (.ref dr) := by
 unfold bflds
 rw [lookup_putF, if_neg (by decide +kernel), lookup_putF, if_pos rfl]
theorem bf_sz : (bflds dn pa sz dr ri).lookup ("sizes" : Str) = some (.ref sz) := by
 unfold bflds
 rw [lookup_putF, if_neg (by decide +kernel), lookup_putF, if_neg (by decide +kernel), lookup_putF, if_pos rfl]
theorem bf_pa : (bflds dn pa sz dr ri).lookup ("pairs" : Str) = some (.ref pa) := by
 unfold bflds
 rw [lookup_putF, if_neg (by decide +kernel), lookup_putF, if_neg (by decide +kernel), lookup_putF, if_neg (by decide +kernel), lookup_putF, if_pos rfl]
theorem bf_dn : (bflds dn pa sz dr ri).lookup ("numbers" : Str) = some (.ref dn) := by
 unfold bflds
 rw [lookup_putF, if_neg (by decide +kernel), lookup_putF, if_neg (by decide +kernel), lookup_putF, if_neg (by decide +kernel), lookup_putF, if_neg (by decide +kernel), lookup_putF, if_pos rfl]
theorem bf_no {m : Str} (h1 : ¬ m = "rising") (h2 : ¬ m = "rows") (h3 : ¬ m = "sizes") (h4 : ¬ m = "pairs") (h5 : ¬ m = "numbers") : (bflds dn pa sz dr ri).lookup m = none := by
 unfold bflds
 rw [lookup_putF, if_neg h1, lookup_putF, if_neg h2, lookup_putF, if_neg h3, lookup_putF, if_neg h4, lookup_putF, if_neg h5]
 rfl
end
def tw (z : Str) : List Str := (words (codes z)).map fun x => (⟨x.1.toArray⟩ : Str)
theorem tw_plain (z : Str) : plainL (words (codes z)) = sl (tw z) := by
 unfold plainL sl tw
 rw [List.map_map]
 rfl
def tws (ps : List (Str × Str)) : List (List Str) := ps.map fun p => tw p.2
structure RowsD (H : Hp) (dr : Addr) (t : List (List Str)) (es : En) : Prop where
 d : H dr = some (.dK (dkl es))
 k : (es.map (·.1)).Nodup
 w : ∀ x, x ∈ es.map (·.1) ↔ ∃ ws ∈ t, x ∈ ws
 f : ∀ e ∈ es, H e.2 = some (.lst (nl (pk (rn 0 (rowOf e.1 t 0)))))
theorem RowsD.same {H H' : Hp} {dr : Addr} {t : List (List Str)} {es : En} (h : RowsD H dr t es) (s : Same H H') : RowsD H' dr t es := ⟨s _ _ h.d, h.k, h.w, fun e he => s _ _ (h.f e he)⟩
structure BookAt (C : Addr) (H : Hp) (x : Addr) (ps : List (Str × Str)) : Prop where
 ex : ∃ (dx dn pa sz dr ri : Addr) (xs : List V) (es : En) (ts : List Str), H x = some (.ins C dx (bflds dn pa sz dr ri)) /\ H dn = some (.dK (numd (ps.map (·.1)))) /\ H pa = some (.lst xs) /\ PairsV H xs (ps.map kp) /\
  H sz = some (.lst (nl ((tws ps).map List.length))) /\ RowsD H dr (tws ps) es /\ H ri = some (.lst (sl ts)) /\ ts.Perm (es.map (·.1)) /\ sortedS ts = true
theorem BookAt.same {C : Addr} {H H' : Hp} {x : Addr} {ps : List (Str × Str)} (h : BookAt C H x ps) (s : Same H H') : BookAt C H' x ps := by
 obtain ⟨dx, dn, pa, sz, dr, ri, xs, es, ts, h1, h2, h3, h4, h5, h6, h7, h8, h9⟩ := h.ex
 exact ⟨dx, dn, pa, sz, dr, ri, xs, es, ts, s _ _ h1, s _ _ h2, s _ _ h3, h4.same s, s _ _ h5, h6.same s, s _ _ h7, h8, h9⟩
structure BkC (K : PySem.W.Frag) (mg : Str -> Option Value) (C : Addr) : Prop where
 cl : Cls K C
 nN : NoAttr K C "numbers"
 nP : NoAttr K C "pairs"
 nS : NoAttr K C "sizes"
 nR : NoAttr K C "rows"
 nI : NoAttr K C "rising"
 mgC : mg "Book" = some (.ref C)
theorem nd_sub {α : Type} [DecidableEq α] : ∀ {l m : List α}, l.Nodup -> (∀ x ∈ l, x ∈ m) -> l.length <= m.length
 | [], _, _, _ => Nat.zero_le _
 | a :: l, m, hn, h => by
  obtain ⟨n1, n2⟩ := List.nodup_cons.mp hn
  have ha := h a List.mem_cons_self
  have := nd_sub (m := m.erase a) n2 fun x hx => (List.mem_erase_of_ne fun z => n1 (by rw [<- z]; exact hx)).mpr (h x (List.mem_cons_of_mem _ hx))
  rw [List.length_erase_of_mem ha] at this
  have := List.length_pos_of_mem ha
  rw [List.length_cons]
  omega
def FewW (t : List (List Str)) : Prop := ∃ us : List Str, us.length < 64 /\ ∀ ws ∈ t, ∀ x ∈ ws, x ∈ us
def RowsArg (H : Hp) (r : V) (t : List (List Str)) : Prop := r = .non \/ ∃ d es, r = .ref d /\ RowsD H d t es
section
variable {P : Program} {w : World} {K : PySem.W.Frag} {mg : Str -> Option Value} {base : Heap} {C CK CT CW : Addr}
def spBInit (K : PySem.W.Frag) (C CK CT CW : Addr) : Sp := fun vs H Q E => ∃ (x a dx : Addr) (r : V) (xs : List V) (kts : List (V × V)), vs = [.ref x, .ref a, r] /\ H x = some (.ins C dx []) /\ H a = some (.lst xs) /\ PairsV H xs kts /\ kts.length <= 300 /\ (∀ kt ∈ kts, KtOk K H kt) /\
 (∀ ps, kts = ps.map kp -> GoodPs ps -> Few (tws ps) /\ FewW (tws ps) /\ RowsArg H r (tws ps)) /\
 (∀ i, badOf [] kts = some i -> ∀ H', Same H H' -> E (.ref (cAt CK CT CW i)) none H') /\
 (∀ ps, kts = ps.map kp -> GoodPs ps -> ∀ H', BookAt C H' x ps -> (r = .non -> ∀ h l0 l1, H h = some (.lst l0) -> BookAt C (upd H' h (.lst l1)) x ps) -> (∀ b u, H b = some u -> b ≠ x -> r ≠ .ref b -> H' b = some u) -> Q .non H')
theorem scBInit : FnScope ["self", "pairs", "rows", "texts_words"] ["self", "pairs", "rows"] (defScope bInit) := ⟨rfl, rfl, rfl, by decide +kernel, rfl, by decide +kernel, by decide +kernel⟩
theorem ndKT : (["key", "text"] : List Str).Nodup := by decide +kernel
theorem ndWs : (["words"] : List Str).Nodup := by decide +kernel
def tTexts : TE := fun σ H Q => ∃ (a : Addr) (xs : List V) (ps : List (Str × Str)), σ[1]? = some (some (.ref a)) /\ H a = some (.lst xs) /\ PairsV H xs (ps.map kp) /\ ps.length <= 300 /\ (∀ p ∈ ps, txtV (.str p.2) = true) /\
 ∀ l ys H', Same H H' -> H l = none -> H' l = some (.lst ys) -> WsV H' ys (tws ps) -> Q (.ref l) H'
def tSizes : TE := fun σ H Q => ∃ (a : Addr) (xs : List V) (t : List (List Str)), σ[3]? = some (some (.ref a)) /\ H a = some (.lst xs) /\ WsV H xs t /\ t.length <= 300 /\
 ∀ l, H l = none -> Q (.ref l) (upd H l (.lst (nl (t.map List.length))))
theorem Few.wl {t : List (List Str)} {ws : List Str} (h : Few t) (hw : ws ∈ t) : ws.length <= 330 := by have := tot_mem hw; have := h.t; omega
theorem b_sorted : bootBuiltins "sorted" = some (.builtin "sorted") := by decide +kernel
abbrev N4 : List Str := ["self", "pairs", "rows", "texts_words"]
seal PSs PS PE PT PA PG PI PGs PIfs in
theorem ok_binit {f fn fl fr fc : Addr} {fd fdn fdl fdr fdc : FuncData} (F : FnD K "__init__" "Book.__init__" bInit f fd #[.none]) (B : BkC K mg C) (T : Txt mg)
  (DN : Df K mg "numbers_by_key" sNBK fn fdn) (GN : FnOk P w K mg base (CX1 P w) 4 fn fdn ["pairs"] (spNBK K CK CT CW))
  (DL : Df K mg "plain_words" sPlain fl fdl) (GL : FnOk P w K mg base (CX1 P w) 5 fl fdl ["text"] (spPlain K CT))
  (DR : Df K mg "rows_by_word" sRBW fr fdr) (GR : FnOk P w K mg base CX0 7 fr fdr ["texts_words"] spRBW)
  (DC : Df K mg "copied_rows" sCopy fc fdc) (GC : FnOk P w K mg base CX0 1 fc fdc ["rows"] spCopy) : FnOk P w K mg base (CX1 P w) 8 f fd ["self", "pairs", "rows"] (spBInit K C CK CT CW) := by
 have bN := binds1 (p := "pairs") DN.F fun _ _ _ _ _ _ _ => rfl
 have bL := binds1 (p := "text") DL.F fun _ _ _ _ _ _ _ => rfl
 have bR := binds1 (p := "texts_words") DR.F fun _ _ _ _ _ _ _ => rfl
 have bC := binds1 (p := "rows") DC.F fun _ _ _ _ _ _ _ => rfl
 refine F.ok1 scBInit (fun vs H Q E h => ?_) (fun cdv A outer s H vs Q E hr h => ?_)
 ·obtain ⟨x, a, dx, r, xs, kts, rfl, _⟩ := h
  rfl
 ·obtain ⟨x, a, dx, r, xs, kts, rfl, hx, hA, hP, hlen, hk, kpre, kbad, kgood⟩ := h
  have hl : (sizeLine : Nat) = 16777216 := sizeLine_eq
  refine ⟨_, pss_cons (ps_fld (pv 0) (pe_call (GN.mono (by decide)) hr rfl DN.m DN.F.kp bN .nil (pass_out (E' := E) (fun _ _ _ h => h)) (pa_cons (pv 1) pa_nil)) rfl)
   (pss_cons (ps_fld (pv 0) (pe_callTy call_list_of rfl T.list b_list (pa_cons (pv 1) pa_nil)) rfl)
   (pss_cons (ps_setC (i := 3) (t' := tTexts) scBInit.nd rfl (Or.inl rfl) (own := 2) (caps := []) (N := ["key", "text"]) (N0 := N4) (sc0 := defScope bInit) rfl (pi_list (pv 1))
    (fun _ _ _ => pg_tup (n := 2) rfl (pgs_cons (pg_name (i := 0) ndKT rfl (Or.inl rfl)) (pgs_cons (pg_name (i := 1) ndKT rfl (Or.inl rfl)) pgs_nil))) (fun _ _ _ => pf_none)
    (fun _ _ _ => pe_call (GL.mono (by decide)) hr rfl DL.m DL.F.kp bL .nil passN (pa_cons (pv 1) pa_nil)) (gk_tup (gks_cons (gk_name (by decide)) (gks_cons (gk_name (by decide)) gks_nil))) rfl rfl
    (by decide +kernel) rfl (by decide +kernel) (by decide +kernel) rfl (by decide +kernel) ?mT)
   (pss_cons (ps_fld (pv 0) (PE.imp (t' := tSizes) (pe_comp (own := 1) (caps := []) (N := ["words"]) (N0 := N4) (sc0 := defScope bInit) rfl (pi_list (pv 3))
    (fun _ _ _ => pg_name (i := 0) ndWs rfl (Or.inl rfl)) (fun _ _ _ => pf_none) (fun _ _ _ => pe_callB (call_lenK (K := K) rfl) rfl T.len b_len (pa_cons (pv 0) pa_nil)) (gk_name (by decide)) rfl rfl
    (by decide +kernel) rfl (by decide +kernel) (by decide +kernel) rfl (by decide +kernel)) ?mS) rfl)
   (pss_cons (ps_fld (pv 0) (pe_ifExp (pt_cmp (pc_isN (pv 2))) (pe_call GR hr rfl DR.m DR.F.kp bR .nil pass0 (pa_cons (pv 3) pa_nil)) (pe_call (GC.mono (by decide)) hr rfl DC.m DC.F.kp bC .nil pass0 (pa_cons (pv 2) pa_nil))) rfl)
   (pss_one (ps_fld (pv 0) (pe_callB (call_sortedD rfl) rfl T.sorted b_sorted (pa_cons (pe_fld (pv 0) rfl) pa_nil)) rfl)))))), ?_⟩
  case mT =>
   rintro σ H1 Q1 ⟨a, xs, ps, h1, hA, hP, hlen, htx, q⟩
   have hxl := Gn.Paired.len hP
   rw [List.length_map] at hxl
   refine ⟨_, h1, a, rfl, ⟨_, SqL.of hA⟩, comp_itl (xs := xs) (fun i ys H' => Same H1 H' /\ WsV H' ys (tws (ps.take i)) /\ (∀ y ∈ ys, ∃ p, y = V.ref p /\ H1 p = none)) (by omega) (fun i ys H' p => SqL.of (p.1 _ _ hA)) ⟨Same.refl _, .nil, (fun y hy => nomatch hy)⟩ ?_ ?_⟩
   ·rintro i v ys H' N hv ⟨sm, hW, hnew⟩ hN
    obtain ⟨kt, hkt, p, rfl, hp⟩ := paired_get hP hv
    rw [List.getElem?_map] at hkt
    cases hps : ps[i]? with
    | none => rw [hps] at hkt; cases hkt
    | some pr =>
     rw [hps] at hkt
     have e : kp pr = kt := Option.some.inj hkt
     subst e
     have ht := htx pr (List.mem_of_getElem? hps)
     have hd := txt_drawn ht
     refine ⟨p, _, rfl, SqT.of (sm _ _ hp), rfl, _, _, rfl, _, _, rfl, rfl, nif ?_⟩
     refine ⟨_, rfl, .str pr.2, rfl, ⟨_, .str _⟩, (fun z e => by injection e with e; rw [<- e]; have := hd.1; omega), fun z e hd' l H2 s2 hl hL => ?_, fun e => by rw [ht] at e; cases e⟩
     injection e with e
     subst e
     refine hN _ _ ⟨sm.trans s2, ?_, fun y hy => ?_⟩
     ·show WsV H2 _ ((ps.take (i + 1)).map _)
      rw [take_snoc hps, List.map_append]
      refine Gn.Paired.app (hW.same s2) ⟨l, rfl, ?_⟩
      rw [hL, tw_plain]
     ·rcases List.mem_append.mp hy with hy | hy
      ·exact hnew y hy
      ·rw [List.mem_singleton.mp hy]
       exact ⟨l, rfl, sm.free hl⟩
   ·rintro ys H' ⟨sm, hW, _⟩ _ l hl
    rw [hxl, List.take_length] at hW
    exact q l ys _ (Same.upd sm hl) (sm.free hl) upd_same (hW.same (same_upd hl))
  case mS =>
   rintro σ H1 Q1 ⟨a, xs, t, h3, hA, hW, hlen, q⟩
   have hxl := Gn.Paired.len hW
   refine ⟨_, h3, a, rfl, ⟨_, SqL.of hA⟩, comp_itl (xs := xs) (fun i ys H' => H' = H1 /\ ys = nl ((t.take i).map List.length)) (by omega) (fun i ys H' p => by rw [p.1]; exact SqL.of hA) ⟨rfl, rfl⟩ ?_ ?_⟩
   ·rintro i v ys H' N hv ⟨rfl, rfl⟩ hN
    obtain ⟨ws, hws, p, rfl, hp⟩ := paired_get hW hv
    refine g1 ?_
    refine ⟨_, rfl, p, _, rfl, .inl (SqL.of hp), hN _ _ ⟨rfl, ?_⟩⟩
    rw [take_snoc hws, List.map_append, nl_app]
    show _ ++ [V.int ((sl ws).length : Nat)] = _
    rw [List.length_map]
    rfl
   ·rintro ys H' ⟨rfl, rfl⟩ _ l hl
    rw [hxl, List.take_length]
    exact q l hl
  refine ⟨_, rfl, a, xs, kts, rfl, hA, hP, by omega, hk, fun hb dn H1 s1 hdn hD1 => ?_, fun i hi H1 s1 => kbad i hi H1 s1⟩
  obtain ⟨ps, rfl, g1', _, g3⟩ := bad_none hb
  have hg : GoodPs ps := ⟨g1', g3⟩
  obtain ⟨hFew, ⟨us, hus, huw⟩, hRA⟩ := kpre ps rfl hg
  replace kgood := kgood ps rfl hg
  rw [List.length_map] at hlen
  have hkeys : ((ps.map kp).map fun kt => keyS kt.1) = ps.map (·.1) := by rw [List.map_map]; rfl
  rw [hkeys] at hD1
  have hx1 := s1 _ _ hx
  refine ⟨_, rfl, x, C, dx, [], rfl, hx1, B.cl, B.nN, (by show 0 < 1000; decide), ?_⟩
  have ndx : dn ≠ x := fun z => by rw [z, hx1] at hD1; cases hD1
  have sb2 : SameBut x H (upd H1 x (.ins C dx (putF "numbers" (.ref dn) []))) := fun b u e hb => by rw [upd_ne hb]; exact s1 _ _ e
  have hx2 : upd H1 x (.ins C dx (putF "numbers" (.ref dn) [])) x = some (.ins C dx (putF "numbers" (.ref dn) [])) := upd_same
  have hD2 : upd H1 x (.ins C dx (putF "numbers" (.ref dn) [])) dn = _ := (upd_ne ndx).trans hD1
  generalize upd H1 x (.ins C dx (putF "numbers" (.ref dn) [])) = H2 at sb2 hx2 hD2 ⊢
  have nax : a ≠ x := fun z => by rw [z, hx] at hA; cases hA
  have hA2 := sb2 _ _ hA nax
  have hP2 : PairsV H2 xs (ps.map kp) := Gn.Paired.imp2 hP fun _ _ ⟨p, e, q⟩ => ⟨p, e, sb2 _ _ q fun z => by rw [z, hx] at q; cases q⟩
  refine ⟨_, rfl, a, xs, rfl, .inl (SqL.of hA2), fun pa hpa => ?_⟩
  have s3 : Same H2 (upd H2 pa (.lst xs)) := same_upd hpa
  have hpa3 : upd H2 pa (.lst xs) pa = some (.lst xs) := upd_same
  generalize upd H2 pa (.lst xs) = H3 at s3 hpa3 ⊢
  have hx3 := s3 _ _ hx2
  refine ⟨_, rfl, x, C, dx, _, rfl, hx3, B.cl, B.nP, (by show 1 < 1000; decide), ?_⟩
  have npx : pa ≠ x := fun z => by rw [z, hx3] at hpa3; cases hpa3
  have sb4 : SameBut x H3 (upd H3 x (.ins C dx (putF "pairs" (.ref pa) (putF "numbers" (.ref dn) [])))) := fun b u e hb => by rw [upd_ne hb]; exact e
  have hx4 : upd H3 x (.ins C dx (putF "pairs" (.ref pa) (putF "numbers" (.ref dn) []))) x = _ := upd_same
  generalize upd H3 x (.ins C dx (putF "pairs" (.ref pa) (putF "numbers" (.ref dn) []))) = H4 at sb4 hx4 ⊢
  have sb04 : SameBut x H H4 := (sb2.tr s3).trb sb4
  have hD4 := sb4 _ _ (s3 _ _ hD2) ndx
  have hpa4 := sb4 _ _ hpa3 npx
  have hA4 := sb04 _ _ hA nax
  have hP4 : PairsV H4 xs (ps.map kp) := Gn.Paired.imp2 hP fun _ _ ⟨p, e, q⟩ => ⟨p, e, sb04 _ _ q fun z => by rw [z, hx] at q; cases q⟩
  refine ⟨a, xs, ps, rfl, hA4, hP4, hlen, fun p hp => (hg.g p hp).2, fun lt ys H5 s5 hlt hY5 hW5 => ?_⟩
  have sb05 := sb04.tr s5
  have hx5 := s5 _ _ hx4
  refine ⟨lt, ys, tws ps, rfl, hY5, hW5, hFew.l, fun sz hsz => ?_⟩
  have s6 : Same H5 (upd H5 sz (.lst (nl ((tws ps).map List.length)))) := same_upd hsz
  have hsz6 : upd H5 sz (.lst (nl ((tws ps).map List.length))) sz = _ := upd_same
  generalize upd H5 sz (.lst (nl ((tws ps).map List.length))) = H6 at s6 hsz6 ⊢
  have hx6 := s6 _ _ hx5
  refine ⟨_, rfl, x, C, dx, _, rfl, hx6, B.cl, B.nS, (by show 2 < 1000; decide), ?_⟩
  have nsx : sz ≠ x := fun z => by rw [z, hx6] at hsz6; cases hsz6
  have sb7 : SameBut x H6 (upd H6 x (.ins C dx (putF "sizes" (.ref sz) (putF "pairs" (.ref pa) (putF "numbers" (.ref dn) []))))) := fun b u e hb => by rw [upd_ne hb]; exact e
  have hx7 : upd H6 x (.ins C dx (putF "sizes" (.ref sz) (putF "pairs" (.ref pa) (putF "numbers" (.ref dn) [])))) x = _ := upd_same
  generalize upd H6 x (.ins C dx (putF "sizes" (.ref sz) (putF "pairs" (.ref pa) (putF "numbers" (.ref dn) [])))) = H7 at sb7 hx7 ⊢
  have s46 := s5.trans s6
  have sb07 : SameBut x H H7 := (sb04.tr s46).trb sb7
  have hD7 := sb7 _ _ (s46 _ _ hD4) ndx
  have hpa7 := sb7 _ _ (s46 _ _ hpa4) npx
  have hsz7 := sb7 _ _ hsz6 nsx
  have hP7 : PairsV H7 xs (ps.map kp) := Gn.Paired.imp2 hP fun _ _ ⟨p, e, q⟩ => ⟨p, e, sb07 _ _ q fun z => by rw [z, hx] at q; cases q⟩
  have nlx : lt ≠ x := fun z => by rw [z, hx5] at hY5; cases hY5
  have hY7 := sb7 _ _ (s6 _ _ hY5) nlx
  have hW7 : WsV H7 ys (tws ps) := Gn.Paired.imp2 (hW5.same s6) fun _ _ ⟨p, e, q⟩ => ⟨p, e, sb7 _ _ q fun z => by rw [z, hx6] at q; cases q⟩
  have last : ∀ (dr : Addr) (es : En) (H8 : Hp), RowsD H8 dr (tws ps) es -> H8 x = some (.ins C dx (putF "sizes" (.ref sz) (putF "pairs" (.ref pa) (putF "numbers" (.ref dn) [])))) -> H8 dn = some (.dK (numd (ps.map (·.1)))) -> H8 pa = some (.lst xs) -> PairsV H8 xs (ps.map kp) ->
    H8 sz = some (.lst (nl ((tws ps).map List.length))) -> (∀ b u, H b = some u -> b ≠ x -> r ≠ .ref b -> H8 b = some u) -> (r = .non -> H dr = none /\ ∀ e ∈ es, H e.2 = none) -> ∀ σ : L2.St, σ[0]? = some (some (.ref x)) ->
    sFld K (tVar 0) (tCB (fun xs H Q => ∃ (d : Addr) (kvs : List (Key × V)) (ss : List Str), xs = [.ref d] /\ Rd H d (.dK kvs) /\ kvs.map (·.1) = ss.map Sum.inr /\ ss.length < 64 /\ ∀ (l : Addr) (ts : List Str), H l = none -> ts.Perm ss -> sortedS ts = true -> Q (.ref l) (upd H l (.lst (ts.map V.str)))) (tCons (tFld K (tVar 0) "rows") tNil)) "rising"
     { nx := fun _ H' => Q .non H', rt := Q } σ (upd H8 x (.ins C dx (putF "rows" (.ref dr) (putF "sizes" (.ref sz) (putF "pairs" (.ref pa) (putF "numbers" (.ref dn) [])))))) := by
   intro dr es H8 hR hx8 hd8 hp8 hP8 hs8 hF8 hNw σ h0
   have sb9 : SameBut x H8 (upd H8 x (.ins C dx (putF "rows" (.ref dr) (putF "sizes" (.ref sz) (putF "pairs" (.ref pa) (putF "numbers" (.ref dn) [])))))) := fun b u e hb => by rw [upd_ne hb]; exact e
   have hx9 : upd H8 x (.ins C dx (putF "rows" (.ref dr) (putF "sizes" (.ref sz) (putF "pairs" (.ref pa) (putF "numbers" (.ref dn) []))))) x = _ := upd_same
   generalize upd H8 x (.ins C dx (putF "rows" (.ref dr) (putF "sizes" (.ref sz) (putF "pairs" (.ref pa) (putF "numbers" (.ref dn) []))))) = H9 at sb9 hx9 ⊢
   have nxd : ∀ {b : Addr} {u : HO}, H8 b = some u -> (∀ C dx fs, u ≠ .ins C dx fs) -> b ≠ x := fun {b u} e n z => by rw [z, hx8] at e; exact n _ _ _ (Option.some.inj e).symm
   have hR9 : RowsD H9 dr (tws ps) es := ⟨sb9 _ _ hR.d (nxd hR.d (by intro _ _ _ z; cases z)), hR.k, hR.w, fun e he => sb9 _ _ (hR.f e he) (nxd (hR.f e he) (by intro _ _ _ z; cases z))⟩
   refine ⟨_, h0, x, C, dx, _, .ref dr, rfl, hx9, B.cl, B.nR, (by rw [lookup_putF, if_pos rfl]), dr, dkl es, es.map (·.1), rfl, .inl hR9.d, dkl_keys es, ?_, fun ri ts hri hperm hsort => ?_⟩
   ·have := nd_sub hR9.k (m := us) fun y hy => by
     obtain ⟨ws, h1, h2⟩ := (hR9.w y).mp hy
     exact huw ws h1 y h2
    rw [List.length_map] at this ⊢
    omega
   ·have s10 : Same H9 (upd H9 ri (.lst (sl ts))) := same_upd hri
    have hri10 : upd H9 ri (.lst (sl ts)) ri = _ := upd_same
    have hx10 := s10 _ _ hx9
    refine ⟨_, h0, x, C, dx, _, rfl, hx10, B.cl, B.nI, (by show 4 < 1000; decide), ?_⟩
    have nrx : ri ≠ x := fun z => by rw [z, hx9] at hri; cases hri
    have hd9 := s10 _ _ (sb9 _ _ hd8 (nxd hd8 (by intro _ _ _ z; cases z)))
    have hp9 := s10 _ _ (sb9 _ _ hp8 (nxd hp8 (by intro _ _ _ z; cases z)))
    have hs9 := s10 _ _ (sb9 _ _ hs8 (nxd hs8 (by intro _ _ _ z; cases z)))
    have hP9 : PairsV _ xs (ps.map kp) := PairsV.same (H := H9) (Gn.Paired.imp2 hP8 fun _ _ ⟨p, e, q⟩ => ⟨p, e, sb9 _ _ q (nxd q (by intro _ _ _ z; cases z))⟩) s10
    have hR10 := hR9.same s10
    have fr : ∀ b u, H b = some u -> b ≠ x -> r ≠ .ref b -> (upd H9 ri (.lst (sl ts))) b = some u := fun b u e n1 n2 => s10 _ _ (sb9 _ _ (hF8 b u e n1 n2) n1)
    have nri : r = .non -> H ri = none := fun hr' => by
     cases q : H ri with
     | none => rfl
     | some u =>
      have := sb9 _ _ (hF8 ri u q nrx (by rw [hr']; intro z; cases z)) nrx
      rw [hri] at this
      cases this
    generalize upd H9 ri (.lst (sl ts)) = H10 at s10 hri10 hx10 hd9 hp9 hs9 hP9 hR10 fr ⊢
    have sb11 : SameBut x H10 (upd H10 x (.ins C dx (bflds dn pa sz dr ri))) := fun b u e hb => by rw [upd_ne hb]; exact e
    have nx10 : ∀ {b : Addr} {u : HO}, H10 b = some u -> (∀ C dx fs, u ≠ .ins C dx fs) -> b ≠ x := fun {b u} e n z => by rw [z, hx10] at e; exact n _ _ _ (Option.some.inj e).symm
    refine kgood _ ⟨dx, dn, pa, sz, dr, ri, xs, es, ts, upd_same, sb11 _ _ hd9 (nx10 hd9 (by intro _ _ _ z; cases z)), sb11 _ _ hp9 (nx10 hp9 (by intro _ _ _ z; cases z)), ?_, sb11 _ _ hs9 (nx10 hs9 (by intro _ _ _ z; cases z)), ?_, sb11 _ _ hri10 nrx, hperm, hsort⟩ (fun hr' h l0 l1 hh => ?_) fun b u e n1 n2 => sb11 _ _ (fr b u e n1 n2) n1
    ·exact Gn.Paired.imp2 hP9 fun _ _ ⟨p, e, q⟩ => ⟨p, e, sb11 _ _ q (nx10 q (by intro _ _ _ z; cases z))⟩
    ·exact ⟨sb11 _ _ hR10.d (nx10 hR10.d (by intro _ _ _ z; cases z)), hR10.k, hR10.w, fun e he => sb11 _ _ (hR10.f e he) (nx10 (hR10.f e he) (by intro _ _ _ z; cases z))⟩
    ·have nh : ∀ {b : Addr}, H b = none -> b ≠ h := fun {b} e z => by rw [z, hh] at e; cases e
     have hhx : h ≠ x := fun z => by rw [z, hx] at hh; cases hh
     have h10 : H10 h = some (.lst l0) := fr h _ hh hhx (by rw [hr']; intro z; cases z)
     have up : ∀ {b : Addr} {u : HO}, upd H10 x (.ins C dx (bflds dn pa sz dr ri)) b = some u -> b ≠ h -> upd (upd H10 x (.ins C dx (bflds dn pa sz dr ri))) h (.lst l1) b = some u := fun {b u} e n => by rw [upd_ne n]; exact e
     obtain ⟨w1, w2⟩ := hNw hr'
     refine ⟨dx, dn, pa, sz, dr, ri, xs, es, ts, up upd_same hhx.symm, up (sb11 _ _ hd9 (nx10 hd9 (by intro _ _ _ z; cases z))) (nh hdn), up (sb11 _ _ hp9 (nx10 hp9 (by intro _ _ _ z; cases z))) (nh (sb2.free hx2 hpa)), ?_, up (sb11 _ _ hs9 (nx10 hs9 (by intro _ _ _ z; cases z))) (nh (sb05.free hx5 hsz)), ?_, up (sb11 _ _ hri10 nrx) (nh (nri hr')), hperm, hsort⟩
     ·exact Gn.Paired.imp2 hP9 fun _ _ ⟨p, e, q⟩ => ⟨p, e, up (sb11 _ _ q (nx10 q (by intro _ _ _ z; cases z))) (fun z => by rw [z, h10] at q; cases q)⟩
     ·exact ⟨up (sb11 _ _ hR10.d (nx10 hR10.d (by intro _ _ _ z; cases z))) (nh w1), hR10.k, hR10.w, fun e he => up (sb11 _ _ (hR10.f e he) (nx10 (hR10.f e he) (by intro _ _ _ z; cases z))) (nh (w2 e he))⟩
  refine ⟨_, rfl, _, rfl, ?_⟩
  rcases hRA with rfl | ⟨d, es, rfl, hRd⟩
  ·refine iteT ⟨_, rfl, lt, ys, tws ps, rfl, hY7, hW7, hFew, fun dr es H8 s8 hdr hD8 _ hin => ?_⟩
   refine ⟨_, rfl, x, C, dx, _, rfl, s8 _ _ hx7, B.cl, B.nR, (by show 3 < 1000; decide), ?_⟩
   exact last dr es H8 ⟨hD8.d, hD8.k, hin, hD8.f⟩ (s8 _ _ hx7) (s8 _ _ hD7) (s8 _ _ hpa7) (hP7.same s8) (s8 _ _ hsz7) (fun b u e n1 _ => s8 _ _ (sb07 _ _ e n1)) (fun _ => ⟨sb07.free hx7 hdr, fun e he => sb07.free hx7 (hD8.n e he)⟩) _ rfl
  ·have ndd : d ≠ x := fun z => by have := hRd.d; rw [z, hx] at this; cases this
   have hRd7 : RowsD H7 d (tws ps) es := ⟨sb07 _ _ hRd.d ndd, hRd.k, hRd.w, fun e he => sb07 _ _ (hRd.f e he) fun z => by have := hRd.f e he; rw [z, hx] at this; cases this⟩
   have hesl : es.length <= 3000 := by
    have := nd_sub hRd.k (m := us) fun y hy => by
     obtain ⟨ws, h1, h2⟩ := (hRd.w y).mp hy
     exact huw ws h1 y h2
    rw [List.length_map] at this
    omega
   refine iteF ⟨_, rfl, d, es, fun y => nl (pk (rn 0 (rowOf y (tws ps) 0))), rfl, hRd7.d, hRd7.k, hesl, hRd7.f, fun dr es' H8 sb8 hdr hD8 hk8 => ?_⟩
   have hn8 : ∀ {b : Addr} {u : HO}, H7 b = some u -> (∀ kvs, u ≠ .dK kvs) -> H8 b = some u := fun {b u} e n => sb8 _ _ e fun z => by rw [z, hRd7.d] at e; exact n _ (Option.some.inj e).symm
   have hx8 := hn8 hx7 (by intro _ z; cases z)
   refine ⟨_, rfl, x, C, dx, _, rfl, hx8, B.cl, B.nR, (by show 3 < 1000; decide), ?_⟩
   have nnd : dn ≠ d := fun z => by rw [z] at hdn; rw [hRd.d] at hdn; cases hdn
   refine last dr es' H8 ⟨hD8.d, hD8.k, fun y => by rw [hk8]; exact hRd7.w y, hD8.f⟩ hx8 (sb8 _ _ hD7 nnd) (hn8 hpa7 (by intro _ z; cases z)) ?_ (hn8 hsz7 (by intro _ z; cases z)) (fun b u e n1 n2 => sb8 _ _ (sb07 _ _ e n1) fun z => n2 (by rw [z])) (fun z => by cases z) _ rfl
   exact Gn.Paired.imp2 hP7 fun _ _ ⟨p, e, q⟩ => ⟨p, e, hn8 q (by intro _ z; cases z)⟩
end
section
variable {P : Program} {w : World} {K : PySem.W.Frag} {mg : Str -> Option Value} {base : Heap} {C CN CNo CW : Addr}
def spMany (C : Addr) : Sp := fun vs H Q _ => ∃ (x : Addr) (ps : List (Str × Str)), vs = [.ref x] /\ BookAt C H x ps /\ Q (.int (ps.length : Int)) H
theorem scMany : FnScope ["self"] ["self"] (defScope bMany) := ⟨rfl, rfl, rfl, by decide +kernel, rfl, by decide +kernel, by decide +kernel⟩
seal PSs PS PE PT PA PG PI PGs PIfs in
theorem ok_many {f : Addr} {fd : FuncData} (F : Fun K "many" "Book.many" bMany f fd) (B : BkC K mg C) (T : Txt mg) : FnOk P w K mg base CX0 1 f fd ["self"] (spMany C) := by
 refine F.ok scMany (fun vs H Q E h => ?_) (fun cdv A outer s H vs Q E hr h => ?_)
 ·obtain ⟨x, ps, rfl, _⟩ := h
  rfl
 ·obtain ⟨x, ps, rfl, hB, k⟩ := h
  obtain ⟨dx, dn, pa, sz, dr, ri, xs, es, ts, h1, h2, h3, h4, h5, h6, h7, h8, h9⟩ := hB.ex
  have hxl := Gn.Paired.len h4
  rw [List.length_map] at hxl
  refine ⟨_, pss_one (ps_ret (pe_callB call_len_seq rfl T.len b_len (pa_cons (pe_fld (pv 0) rfl) pa_nil))), ?_⟩
  refine ⟨_, rfl, x, C, dx, _, _, rfl, h1, B.cl, B.nP, bf_pa, pa, _, rfl, .inl (SqL.of h3), ?_⟩
  rw [hxl]
  exact k
def spNOwn (K : PySem.W.Frag) (C CN : Addr) : Sp := fun vs H Q E => ∃ (x : Addr) (ps : List (Str × Str)) (v : V), vs = [.ref x, v] /\ BookAt C H x ps /\ Known K H v /\
 (goodN v 0 (some ((ps.length : Int) - 1)) = true -> Q v H) /\ (goodN v 0 (some ((ps.length : Int) - 1)) = false -> E (.ref CN) none H)
theorem scNOwn : FnScope ["self", "number"] ["self", "number"] (defScope bNeedOwn) := ⟨rfl, rfl, rfl, by decide +kernel, rfl, by decide +kernel, by decide +kernel⟩
seal PSs PS PE PT PA PG PI PGs PIfs in
theorem ok_nown {f fm fn : Addr} {fd fdm fdn : FuncData} (F : Fun K "need_own" "Book.need_own" bNeedOwn f fd) (B : BkC K mg C) (FM : Fun K "many" "Book.many" bMany fm fdm) (mM : Meth K C "many" fm) (GM : FnOk P w K mg base CX0 1 fm fdm ["self"] (spMany C))
  (DN : DfD K mg "need_number" sNNum fn fdn #[.none]) (GN : FnOk P w K mg base (CX1 P w) 2 fn fdn ["thing", "least", "most"] (spNNum K CN)) : FnOk P w K mg base (CX1 P w) 3 f fd ["self", "number"] (spNOwn K C CN) := by
 have bM := FM.binds (ps := ["self"]) fun _ _ _ _ _ _ us hl => match us, hl with | [_], _ => rfl
 have bN := DN.binds (ps := ["thing", "least", "most"]) (ds := []) fun T kV doc pm an cdv ct us hl => match us, (show us.length = 3 by simpa using hl) with | [_, _, _], _ => ⟨_, rfl, rfl⟩
 refine F.ok1 scNOwn (fun vs H Q E h => ?_) (fun cdv A outer s H vs Q E hr h => ?_)
 ·obtain ⟨x, ps, v, rfl, _⟩ := h
  rfl
 ·obtain ⟨x, ps, v, rfl, hB, hk, k1, k2⟩ := h
  obtain ⟨dx, dn, pa, sz, dr, ri, xs, es, ts, h1, _⟩ := hB.ex
  refine ⟨_, pss_one (ps_ret (pe_call GN hr rfl DN.m DN.kp bN .nil (pass_out (E' := E) (fun _ _ _ h => h)) (pa_cons (pv 1) (pa_cons pe_int (pa_cons (pe_op op_sub (pe_meth0 (pv 0) B.cl mM (GM.mono (by decide)) hr bM .nil pass0) pe_int) pa_nil))))), ?_⟩
  refine ⟨_, rfl, _, rfl, x, dx, _, rfl, h1, bf_no (by decide +kernel) (by decide +kernel) (by decide +kernel) (by decide +kernel) (by decide +kernel), ?_⟩
  refine ⟨x, ps, rfl, hB, _, _, rfl, rfl, ?_⟩
  exact ⟨v, 0, some ((ps.length : Int) - 1), rfl, hk, k1, k2⟩
theorem good_own {v : V} {n : Nat} (h : goodN v 0 (some ((n : Int) - 1)) = true) : ∃ j : Nat, v = .int (j : Int) /\ j < n := by
 cases v <;> first | cases h | skip
 rename_i i
 have h' : (decide ((0 : Int) <= i) && decide (i <= (n : Int) - 1)) = true := h
 rw [Bool.and_eq_true] at h'
 have h1 := of_decide_eq_true h'.1
 have h2 := of_decide_eq_true h'.2
 exact ⟨i.toNat, by rw [Int.toNat_of_nonneg h1], by omega⟩
def spKeyOf (K : PySem.W.Frag) (C CN : Addr) (sel : Str × Str -> Str) : Sp := fun vs H Q E => ∃ (x : Addr) (ps : List (Str × Str)) (v : V), vs = [.ref x, v] /\ BookAt C H x ps /\ Known K H v /\
 (∀ (j : Nat) p, v = .int (j : Int) -> ps[j]? = some p -> Q (.str (sel p)) H) /\ (goodN v 0 (some ((ps.length : Int) - 1)) = false -> E (.ref CN) none H)
theorem scKeyOf : FnScope ["self", "number"] ["self", "number"] (defScope bKeyOf) := ⟨rfl, rfl, rfl, by decide +kernel, rfl, by decide +kernel, by decide +kernel⟩
theorem scTextOf : FnScope ["self", "number"] ["self", "number"] (defScope bTextOf) := ⟨rfl, rfl, rfl, by decide +kernel, rfl, by decide +kernel, by decide +kernel⟩
theorem scSizeOf : FnScope ["self", "number"] ["self", "number"] (defScope bSizeOf) := ⟨rfl, rfl, rfl, by decide +kernel, rfl, by decide +kernel, by decide +kernel⟩
section
variable {fo : Addr} {fdo : FuncData} (FO : Fun K "need_own" "Book.need_own" bNeedOwn fo fdo) (mO : Meth K C "need_own" fo) (GO : FnOk P w K mg base (CX1 P w) 3 fo fdo ["self", "number"] (spNOwn K C CN)) (B : BkC K mg C)
include FO mO GO B
seal PSs PS PE PT PA PG PI PGs PIfs in
theorem ok_keyof {f : Addr} {fd : FuncData} (F : Fun K "key_of" "Book.key_of" bKeyOf f fd) : FnOk P w K mg base (CX1 P w) 4 f fd ["self", "number"] (spKeyOf K C CN (·.1)) := by
 have bO := FO.binds (ps := ["self", "number"]) fun _ _ _ _ _ _ us hl => match us, hl with | [_, _], _ => rfl
 refine F.ok1 scKeyOf (fun vs H Q E h => ?_) (fun cdv A outer s H vs Q E hr h => ?_)
 ·obtain ⟨x, ps, v, rfl, _⟩ := h
  rfl
 ·obtain ⟨x, ps, v, rfl, hB, hk, k1, k2⟩ := h
  obtain ⟨dx, dn, pa, sz, dr, ri, xs, es, ts, h1, h2, h3, h4, _⟩ := hB.ex
  refine ⟨_, pss_one (ps_ret (pe_ix ix_tup (pe_ix ix_list (pe_fld (pv 0) rfl) (pe_meth (pv 0) B.cl mO GO hr bO .nil (pass_out (E' := E) (fun _ _ _ h => h)) (pa_cons (pv 1) pa_nil)) (fun _ _ => rfl)) pe_int (fun _ _ => rfl))), ?_⟩
  refine ⟨_, rfl, x, C, dx, _, _, rfl, h1, B.cl, B.nP, bf_pa, _, rfl, x, dx, _, rfl, h1, bf_no (by decide +kernel) (by decide +kernel) (by decide +kernel) (by decide +kernel) (by decide +kernel), _, rfl, ?_⟩
  refine ⟨x, ps, v, rfl, hB, hk, fun hg => ?_, k2⟩
  obtain ⟨j, rfl, hj⟩ := good_own hg
  have hp : ps[j]? = some ps[j] := List.getElem?_eq_getElem hj
  obtain ⟨y, hy, p, rfl, hp'⟩ := Gn.Paired.at h4 (i := j) (by rw [List.getElem?_map, hp]; rfl)
  exact ⟨pa, _, _, _, rfl, rfl, SqL.of h3, atI_nat hy, p, _, _, _, rfl, rfl, SqT.of hp', atI_nat (j := 0) rfl, k1 j _ rfl hp⟩
seal PSs PS PE PT PA PG PI PGs PIfs in
theorem ok_textof {f : Addr} {fd : FuncData} (F : Fun K "text_of" "Book.text_of" bTextOf f fd) : FnOk P w K mg base (CX1 P w) 4 f fd ["self", "number"] (spKeyOf K C CN (·.2)) := by
 have bO := FO.binds (ps := ["self", "number"]) fun _ _ _ _ _ _ us hl => match us, hl with | [_, _], _ => rfl
 refine F.ok1 scTextOf (fun vs H Q E h => ?_) (fun cdv A outer s H vs Q E hr h => ?_)
 ·obtain ⟨x, ps, v, rfl, _⟩ := h
  rfl
 ·obtain ⟨x, ps, v, rfl, hB, hk, k1, k2⟩ := h
  obtain ⟨dx, dn, pa, sz, dr, ri, xs, es, ts, h1, h2, h3, h4, _⟩ := hB.ex
  refine ⟨_, pss_one (ps_ret (pe_ix ix_tup (pe_ix ix_list (pe_fld (pv 0) rfl) (pe_meth (pv 0) B.cl mO GO hr bO .nil (pass_out (E' := E) (fun _ _ _ h => h)) (pa_cons (pv 1) pa_nil)) (fun _ _ => rfl)) pe_int (fun _ _ => rfl))), ?_⟩
  refine ⟨_, rfl, x, C, dx, _, _, rfl, h1, B.cl, B.nP, bf_pa, _, rfl, x, dx, _, rfl, h1, bf_no (by decide +kernel) (by decide +kernel) (by decide +kernel) (by decide +kernel) (by decide +kernel), _, rfl, ?_⟩
  refine ⟨x, ps, v, rfl, hB, hk, fun hg => ?_, k2⟩
  obtain ⟨j, rfl, hj⟩ := good_own hg
  have hp : ps[j]? = some ps[j] := List.getElem?_eq_getElem hj
  obtain ⟨y, hy, p, rfl, hp'⟩ := Gn.Paired.at h4 (i := j) (by rw [List.getElem?_map, hp]; rfl)
  exact ⟨pa, _, _, _, rfl, rfl, SqL.of h3, atI_nat hy, p, _, _, _, rfl, rfl, SqT.of hp', atI_nat (j := 1) rfl, k1 j _ rfl hp⟩
def spSizeOf (K : PySem.W.Frag) (C CN : Addr) : Sp := fun vs H Q E => ∃ (x : Addr) (ps : List (Str × Str)) (v : V), vs = [.ref x, v] /\ BookAt C H x ps /\ Known K H v /\
 (∀ (j : Nat) p, v = .int (j : Int) -> ps[j]? = some p -> Q (.int ((tw p.2).length : Int)) H) /\ (goodN v 0 (some ((ps.length : Int) - 1)) = false -> E (.ref CN) none H)
seal PSs PS PE PT PA PG PI PGs PIfs in
theorem ok_sizeof {f : Addr} {fd : FuncData} (F : Fun K "size_of" "Book.size_of" bSizeOf f fd) : FnOk P w K mg base (CX1 P w) 4 f fd ["self", "number"] (spSizeOf K C CN) := by
 have bO := FO.binds (ps := ["self", "number"]) fun _ _ _ _ _ _ us hl => match us, hl with | [_, _], _ => rfl
 refine F.ok1 scSizeOf (fun vs H Q E h => ?_) (fun cdv A outer s H vs Q E hr h => ?_)
 ·obtain ⟨x, ps, v, rfl, _⟩ := h
  rfl
 ·obtain ⟨x, ps, v, rfl, hB, hk, k1, k2⟩ := h
  obtain ⟨dx, dn, pa, sz, dr, ri, xs, es, ts, h1, h2, h3, h4, h5, _⟩ := hB.ex
  refine ⟨_, pss_one (ps_ret (pe_ix ix_list (pe_fld (pv 0) rfl) (pe_meth (pv 0) B.cl mO GO hr bO .nil (pass_out (E' := E) (fun _ _ _ h => h)) (pa_cons (pv 1) pa_nil)) (fun _ _ => rfl))), ?_⟩
  refine ⟨_, rfl, x, C, dx, _, _, rfl, h1, B.cl, B.nS, bf_sz, _, rfl, x, dx, _, rfl, h1, bf_no (by decide +kernel) (by decide +kernel) (by decide +kernel) (by decide +kernel) (by decide +kernel), _, rfl, ?_⟩
  refine ⟨x, ps, v, rfl, hB, hk, fun hg => ?_, k2⟩
  obtain ⟨j, rfl, hj⟩ := good_own hg
  have hp : ps[j]? = some ps[j] := List.getElem?_eq_getElem hj
  refine ⟨sz, _, _, _, rfl, rfl, SqL.of h5, atI_nat (j := j) (v := .int ((tw ps[j].2).length : Int)) ?_, k1 j _ rfl hp⟩
  unfold tws
  rw [List.getElem?_map, List.getElem?_map, List.getElem?_map, hp]
  rfl
end
theorem numd_go : ∀ (ks : List Str) (n j : Nat) (z : Str), ks.Nodup -> ks[j]? = some z -> valV ((ks.zipIdx n).map fun p => ((Sum.inr p.1 : Key), V.int (p.2 : Int))) (Sum.inr z) = some (.int ((n + j : Nat) : Int))
 | [], _, j, _, _, h => by cases j <;> cases h
 | x :: r, n, 0, z, _, h => by
  have e : x = z := Option.some.inj h
  subst e
  exact valV_pos (p := ((Sum.inr x : Key), V.int (n : Int))) rfl
 | x :: r, n, j + 1, z, hn, h => by
  obtain ⟨n1, n2⟩ := List.nodup_cons.mp hn
  have h' : r[j]? = some z := h
  have hne : ¬ x = z := fun e => n1 (by rw [e]; exact List.mem_of_getElem? h')
  have := numd_go r (n + 1) j z n2 h'
  show valV (((Sum.inr x : Key), V.int (n : Int)) :: (r.zipIdx (n + 1)).map fun p => ((Sum.inr p.1 : Key), V.int (p.2 : Int))) (Sum.inr z) = _
  rw [valV_neg (fun e => hne (Sum.inr.inj e)), this]
  congr 3
  omega
theorem numd_at {ks : List Str} {j : Nat} {z : Str} (hn : ks.Nodup) (h : ks[j]? = some z) : valV (numd ks) (Sum.inr z) = some (.int (j : Int)) := by
 have := numd_go ks 0 j z hn h
 rw [Nat.zero_add] at this
 exact this
def spNumOf (K : PySem.W.Frag) (C CNo : Addr) : Sp := fun vs H Q E => ∃ (x : Addr) (ps : List (Str × Str)) (v : V), vs = [.ref x, v] /\ BookAt C H x ps /\ Known K H v /\ Fit v /\ (∀ p ∈ ps, rowV 12 (.str p.1) = true) /\ (ps.map (·.1)).Nodup /\
 (∀ (j : Nat) z H', v = .str z -> (ps.map (·.1))[j]? = some z -> Same H H' -> Q (.int (j : Int)) H') /\ ((∀ z, v = .str z -> z ∉ ps.map (·.1)) -> ∀ H', Same H H' -> E (.ref CNo) none H')
theorem scNumOf : FnScope ["self", "key"] ["self", "key"] (defScope bNumberOf) := ⟨rfl, rfl, rfl, by decide +kernel, rfl, by decide +kernel, by decide +kernel⟩
seal PSs PS PE PT PA PG PI PGs PIfs in
theorem ok_numof {f fk : Addr} {fd fdk : FuncData} (F : Fun K "number_of" "Book.number_of" bNumberOf f fd) (B : BkC K mg C) (DK : Df K mg "is_key" sKey fk fdk) (GK : FnOk P w K mg base CX0 2 fk fdk ["thing"] (spIs K 12)) (X : Ex K mg "NoText" CNo) : FnOk P w K mg base (CX1 P w) 3 f fd ["self", "key"] (spNumOf K C CNo) := by
 have bK := binds1 (p := "thing") DK.F fun _ _ _ _ _ _ _ => rfl
 refine F.ok1 scNumOf (fun vs H Q E h => ?_) (fun cdv A outer s H vs Q E hr h => ?_)
 ·obtain ⟨x, ps, v, rfl, _⟩ := h
  rfl
 ·obtain ⟨x, ps, v, rfl, hB, hk, hfit, hrow, hnd, k1, k2⟩ := h
  have hu := hu_of hr
  refine ⟨_, pss_cons (ps_if (PW.pt (pw_or (pt_not (pt_val (pe_call GK hr rfl DK.m DK.F.kp bK .nil pass0 (pa_cons (pv 1) pa_nil)))) (pw_or1 (pt_cmp (pc_dnotin hu (pv 1) (pe_fld (pv 0) rfl))))))
    (pss_one (ps_raise rfl X.q PySem.F.excBase_ValueError (by decide +kernel) PySem.F.excBase_ValueError rfl X.m (pa_cons pe_str pa_nil) raise_out)) pss_nil)
   (pss_one (ps_ret (pe_dget hu (pe_fld (pv 0) rfl) (pv 1) (fun _ _ => rfl)))), ?_⟩
  refine ⟨_, rfl, v, rfl, hk, hfit, fun H1 s1 => ?_⟩
  obtain ⟨dx, dn, pa, sz, dr, ri, xs, es, ts, h1, h2, h3, h4, _⟩ := (hB.same s1).ex
  refine ⟨_, rfl, ?_⟩
  cases hr12 : rowV 12 v with
  | false =>
   refine iteT (iteT ⟨by show 1 <= sizeLine; decide, k2 (fun z e hz => ?_) H1 s1⟩)
   obtain ⟨p, hp, e2⟩ := List.mem_map.mp hz
   have := hrow p hp
   rw [e2, <- e, hr12] at this
   cases this
  | true =>
   obtain ⟨z, rfl⟩ := row_str hr12
   refine iteF ⟨_, rfl, _, rfl, x, C, dx, _, _, rfl, h1, B.cl, B.nN, bf_dn, dn, _, rfl, DGet.k (k := Sum.inr z) h2, _, rfl, ?_⟩
   by_cases hz : z ∈ ps.map (·.1)
   ·obtain ⟨j, hj⟩ := List.getElem?_of_mem hz
    rw [numd_at hnd hj]
    exact iteF ⟨_, rfl, x, C, dx, _, _, rfl, h1, B.cl, B.nN, bf_dn, _, rfl, dn, _, rfl, .inl ⟨_, Sum.inr z, .inl h2, rfl, (numd_at hnd hj).symm⟩, k1 j z H1 rfl hj s1⟩
   ·rw [numd_no hz]
    exact iteT ⟨by show 1 <= sizeLine; decide, k2 (fun y e => by injection e with e; rw [<- e]; exact hz) H1 s1⟩
def spWordsB (C : Addr) : Sp := fun vs H Q _ => ∃ (x : Addr) (ps : List (Str × Str)), vs = [.ref x] /\ BookAt C H x ps /\ ∀ l ts H', Same H H' -> H l = none -> H' l = some (.lst (sl ts)) -> ts.Nodup -> (∀ y, y ∈ ts ↔ ∃ ws ∈ tws ps, y ∈ ws) -> sortedS ts = true -> Q (.ref l) H'
theorem scWordsB : FnScope ["self"] ["self"] (defScope bWords) := ⟨rfl, rfl, rfl, by decide +kernel, rfl, by decide +kernel, by decide +kernel⟩
seal PSs PS PE PT PA PG PI PGs PIfs in
theorem ok_wordsB {f : Addr} {fd : FuncData} (F : Fun K "words" "Book.words" bWords f fd) (B : BkC K mg C) (T : Txt mg) : FnOk P w K mg base CX0 1 f fd ["self"] (spWordsB C) := by
 refine F.ok scWordsB (fun vs H Q E h => ?_) (fun cdv A outer s H vs Q E hr h => ?_)
 ·obtain ⟨x, ps, rfl, _⟩ := h
  rfl
 ·obtain ⟨x, ps, rfl, hB, k⟩ := h
  obtain ⟨dx, dn, pa, sz, dr, ri, xs, es, ts, h1, h2, h3, h4, h5, h6, h7, h8, h9⟩ := hB.ex
  refine ⟨_, pss_one (ps_ret (pe_callTy call_list_of rfl T.list b_list (pa_cons (pe_fld (pv 0) rfl) pa_nil))), ?_⟩
  refine ⟨_, rfl, x, C, dx, _, _, rfl, h1, B.cl, B.nI, bf_ri, ri, _, rfl, .inl (SqL.of h7), fun l hl => ?_⟩
  exact k l ts _ (same_upd hl) hl upd_same (h8.nodup_iff.mpr h6.k) (fun y => by rw [h8.mem_iff]; exact h6.w y) h9
def prt (ps : List (Str × Str)) (z : Str) : List Nat := pk (rn 0 (rowOf z (tws ps) 0))
def spParts (K : PySem.W.Frag) (C CW : Addr) : Sp := fun vs H Q E => ∃ (x : Addr) (ps : List (Str × Str)) (v : V), vs = [.ref x, v] /\ BookAt C H x ps /\ Known K H v /\ Fit v /\
 (∀ z l H', v = .str z -> rowV 2000 v = true -> Same H H' -> H l = none -> H' l = some (.lst (nl (prt ps z))) -> Q (.ref l) H') /\ (rowV 2000 v = false -> ∀ H', Same H H' -> E (.ref CW) none H')
theorem scParts : FnScope ["self", "word"] ["self", "word"] (defScope bPartsOf) := ⟨rfl, rfl, rfl, by decide +kernel, rfl, by decide +kernel, by decide +kernel⟩
seal PSs PS PE PT PA PG PI PGs PIfs in
theorem ok_parts {f fw : Addr} {fd fdw : FuncData} (F : Fun K "parts_of" "Book.parts_of" bPartsOf f fd) (B : BkC K mg C) (DW : Df K mg "need_word" sNWord fw fdw) (GW : FnOk P w K mg base (CX1 P w) 3 fw fdw ["thing"] (spNeed K (rowV 2000) CW)) (T : Txt mg) : FnOk P w K mg base (CX1 P w) 4 f fd ["self", "word"] (spParts K C CW) := by
 have bW := binds1 (p := "thing") DW.F fun _ _ _ _ _ _ _ => rfl
 refine F.ok1 scParts (fun vs H Q E h => ?_) (fun cdv A outer s H vs Q E hr h => ?_)
 ·obtain ⟨x, ps, v, rfl, _⟩ := h
  rfl
 ·obtain ⟨x, ps, v, rfl, hB, hk, hfit, k1, k2⟩ := h
  have hu := hu_of hr
  obtain ⟨dx, dn, pa, sz, dr, ri, xs, es, ts, h1, h2, h3, h4, h5, h6, h7, h8, h9⟩ := hB.ex
  refine ⟨_, pss_one (ps_ret (pe_callTy call_list_of rfl T.list b_list (pa_cons (pe_bm PySem.F.plainAttrs_dict PySem.F.slot_dict_get PySem.F.type_dict_get (mt_dgetD hu) (pe_fld (pv 0) rfl)
   (pa_cons (pe_call GW hr rfl DW.m DW.F.kp bW .nil (pass_out (E' := E) (fun _ _ _ h => h)) (pa_cons (pv 1) pa_nil)) (pa_cons (pe_lst pa_nil) pa_nil))) pa_nil))), ?_⟩
  refine ⟨_, rfl, x, C, dx, _, _, rfl, h1, B.cl, B.nR, bf_dr, tyD h6.d, _, rfl, v, rfl, hk, hfit, fun hg H1 s1 => ?_, fun hg H1 s1 => k2 hg H1 s1⟩
  obtain ⟨z, rfl⟩ := row_str hg
  refine ⟨(by show 0 <= sizeLine; decide), fun q hq => ?_⟩
  have s2 : Same H1 (upd H1 q (.lst [])) := same_upd hq
  have hq2 : upd H1 q (.lst []) q = some (.lst []) := upd_same
  generalize upd H1 q (.lst []) = H2 at s2 hq2 ⊢
  have s02 := s1.trans s2
  refine ⟨dr, .str z, .ref q, _, rfl, rfl, DGet.k (k := Sum.inr z) (s02 _ _ h6.d), ?_⟩
  by_cases hz : z ∈ es.map (·.1)
  ·obtain ⟨a, e1, e2⟩ := val_isSome hz
   rw [e1]
   refine ⟨a, _, rfl, .inl (SqL.of (s02 _ _ (h6.f _ e2))), fun l hl => k1 z l _ rfl hg (s02.trans (same_upd hl)) (s02.free hl) upd_same⟩
  ·rw [val_none hz]
   have h0 : prt ps z = [] := by
    unfold prt
    rw [(rowOf_nil z (tws ps) 0).mpr fun ws hw q => hz ((h6.w z).mpr ⟨ws, hw, q⟩)]
    rfl
   refine ⟨q, _, rfl, .inl (SqL.of hq2), fun l hl => k1 z l _ rfl hg (s02.trans (same_upd hl)) (s02.free hl) ?_⟩
   rw [upd_same, h0]
   rfl
def spRowOfB (K : PySem.W.Frag) (C CW : Addr) : Sp := fun vs H Q E => ∃ (x : Addr) (ps : List (Str × Str)) (v : V), vs = [.ref x, v] /\ BookAt C H x ps /\ Few (tws ps) /\ Known K H v /\ Fit v /\
 (∀ z l H', v = .str z -> rowV 2000 v = true -> Same H H' -> H l = none -> RowAt H' l (rowOf z (tws ps) 0) -> Q (.ref l) H') /\ (rowV 2000 v = false -> ∀ H', Same H H' -> E (.ref CW) none H')
theorem scRowOfB : FnScope ["self", "word"] ["self", "word"] (defScope bRowOf) := ⟨rfl, rfl, rfl, by decide +kernel, rfl, by decide +kernel, by decide +kernel⟩
seal PSs PS PE PT PA PG PI PGs PIfs in
theorem ok_rowofB {f fp fu : Addr} {fd fdp fdu : FuncData} (F : Fun K "row_of" "Book.row_of" bRowOf f fd) (B : BkC K mg C) (FP : Fun K "parts_of" "Book.parts_of" bPartsOf fp fdp) (mP : Meth K C "parts_of" fp) (GP : FnOk P w K mg base (CX1 P w) 4 fp fdp ["self", "word"] (spParts K C CW))
  (DU : Df K mg "unpacked_row" sURow fu fdu) (GU : FnOk P w K mg base CX0 4 fu fdu ["parts"] spURow) : FnOk P w K mg base (CX1 P w) 5 f fd ["self", "word"] (spRowOfB K C CW) := by
 have bP := FP.binds (ps := ["self", "word"]) fun _ _ _ _ _ _ us hl => match us, hl with | [_, _], _ => rfl
 have bU := binds1 (p := "parts") DU.F fun _ _ _ _ _ _ _ => rfl
 refine F.ok1 scRowOfB (fun vs H Q E h => ?_) (fun cdv A outer s H vs Q E hr h => ?_)
 ·obtain ⟨x, ps, v, rfl, _⟩ := h
  rfl
 ·obtain ⟨x, ps, v, rfl, hB, hF, hk, hfit, k1, k2⟩ := h
  obtain ⟨dx, dn, pa, sz, dr, ri, xs, es, ts, h1, _⟩ := hB.ex
  refine ⟨_, pss_one (ps_ret (pe_call GU hr rfl DU.m DU.F.kp bU .nil pass0 (pa_cons (pe_meth (pv 0) B.cl mP GP hr bP .nil (pass_out (E' := E) (fun _ _ _ h => h)) (pa_cons (pv 1) pa_nil)) pa_nil))), ?_⟩
  refine ⟨_, rfl, x, dx, _, rfl, h1, bf_no (by decide +kernel) (by decide +kernel) (by decide +kernel) (by decide +kernel) (by decide +kernel), _, rfl, ?_⟩
  refine ⟨x, ps, v, rfl, hB, hk, hfit, fun z l H1 e hg s1 hl hL => ?_, k2⟩
  subst e
  exact ⟨l, rowOf z (tws ps) 0, rfl, hL, Few.ok z, hF.sz z, fun p H2 s2 hp hR => k1 z p H2 rfl hg (s1.trans s2) (s1.free hp) hR⟩
end
theorem join_codes : ∀ cs : List Nat, PySem.Str.join (Str.ofString "") (cs.map fun c => (⟨#[c]⟩ : Str)) = ⟨cs.toArray⟩
 | [] => rfl
 | [c] => rfl
 | c :: d :: r => by
  show (⟨[c].toArray⟩ : Str) ++ Str.ofString "" ++ PySem.Str.join (Str.ofString "") ((d :: r).map fun c => (⟨#[c]⟩ : Str)) = _
  rw [join_codes (d :: r), empty_str, str_app, str_app]
  rfl
theorem join_eq (cs : List Nat) : Txt.join (Str.ofString "") (cs.map fun c => (⟨#[c]⟩ : Str)) = ⟨cs.toArray⟩ := by
 show Builtin.Str.glued _ _ = _
 rw [StrLaws.glued_eq_join]
 exact join_codes cs
theorem sum_ones (cs : List Nat) : ((cs.map fun c => (⟨#[c]⟩ : Str)).map (·.length)).sum = cs.length := by
 induction cs with
 | nil => rfl
 | cons c r ih => rw [List.map_cons, List.map_cons, List.sum_cons, ih, List.length_cons]; show 1 + _ = _; (clear ih; omega)
theorem slice_mem {z : Str} {l u : Option Int} {c : Nat} (h : c ∈ (Txt.slice z l u).cps.toList) : c ∈ z.cps.toList := by
 unfold Txt.slice at h
 split at h
 ·exact h
 ·have h' : c ∈ (Builtin.Str.strSliceIndices l u 1 z.length).filterMap (z.cps[·]?) := by simpa using h
  obtain ⟨i, _, e⟩ := List.mem_filterMap.mp h'
  have := Array.mem_of_getElem? e
  simpa using this
theorem slice_all {p : Nat -> Bool} {z : Str} (l u : Option Int) (h : z.cps.toList.all p = true) : (Txt.slice z l u).cps.toList.all p = true :=
 List.all_eq_true.mpr fun c hc => List.all_eq_true.mp h c (slice_mem hc)
theorem sub_mem {z : Str} {i j c : Nat} (h : c ∈ (Builtin.Str.strSub z i j).cps.toList) : c ∈ z.cps.toList := by
 have h' : c ∈ (z.cps.extract i j).toList := h
 rw [Array.toList_extract] at h'
 exact List.mem_of_mem_drop (List.mem_of_mem_take h')
theorem strip_all {p : Nat -> Bool} {z : Str} (h : z.cps.toList.all p = true) : (Txt.strip z).cps.toList.all p = true := by
 refine List.all_eq_true.mpr fun c hc => List.all_eq_true.mp h c ?_
 unfold Txt.strip at hc
 rw [stripBy_eq] at hc
 exact sub_mem hc
theorem app_all {p : Nat -> Bool} {a b : Str} (ha : a.cps.toList.all p = true) (hb : b.cps.toList.all p = true) : (a ++ b).cps.toList.all p = true := by
 rw [PySem.Str.cps_append, Array.toList_append, List.all_append, ha, hb]
 rfl
theorem up_ok : ∀ c, c < 128 -> isS c = true -> okC (up1 c) = true := by decide +kernel
theorem upper_all {z : Str} (h : z.cps.toList.all isS = true) : (Txt.upper z).cps.toList.all okC = true /\ (Txt.upper z).length = z.length := by
 rw [upper_ascii fun c hc => isS_lt (List.all_eq_true.mp h c hc)]
 refine ⟨?_, by simp [Str.length]⟩
 rw [Array.toList_map, List.all_map]
 exact List.all_eq_true.mpr fun c hc => up_ok c (isS_lt (List.all_eq_true.mp h c hc)) (List.all_eq_true.mp h c hc)
theorem isS_all {z : Str} (h : z.cps.toList.all isS = true) : z.cps.toList.all okC = true := List.all_eq_true.mpr fun c hc => isS_ok (List.all_eq_true.mp h c hc)
theorem all_get {p : Nat -> Bool} {l : List Nat} (h : l.all p = true) {i : Nat} (hi : i < l.length) : p l[i] = true := List.all_eq_true.mp h _ (List.getElem_mem hi)
def pL (c : Nat) : Bool := isS (K01.lo c)
def sc (p : Bool) : List Nat -> Nat
 | [] => 0
 | c :: r => (if pL c = true /\ p = false then 1 else 0) + sc (pL c) r
def lst1 (p : Bool) : List Nat -> Bool
 | [] => p
 | c :: r => lst1 (pL c) r
theorem sc_app : ∀ (a b : List Nat) (p : Bool), sc p (a ++ b) = sc p a + sc (lst1 p a) b
 | [], b, p => by
  show sc p b = 0 + sc p b
  omega
 | c :: a, b, p => by
  show _ + sc (pL c) (a ++ b) = _ + sc (pL c) a + sc (lst1 (pL c) a) b
  rw [sc_app a b (pL c), Nat.add_assoc]
theorem sc_true : ∀ (b : List Nat), sc true b <= sc false b /\ sc false b <= sc true b + 1
 | [] => ⟨Nat.le_refl _, Nat.le_succ _⟩
 | c :: r => by
  show (if pL c = true /\ true = false then 1 else 0) + sc (pL c) r <= (if pL c = true /\ false = false then 1 else 0) + sc (pL c) r /\ (if pL c = true /\ false = false then 1 else 0) + sc (pL c) r <= (if pL c = true /\ true = false then 1 else 0) + sc (pL c) r + 1
  rw [if_neg (show ¬ (pL c = true /\ true = false) from fun z => nomatch z.2)]
  constructor
  ·omega
  ·split <;> omega
theorem sc_le (p : Bool) (b : List Nat) : sc p b <= sc false b := by
 cases p
 ·exact Nat.le_refl _
 ·exact (sc_true b).1
theorem sc_lst : ∀ (a : List Nat) (p : Bool), lst1 p a = true -> p = true \/ 1 <= sc p a
 | [], p, h => .inl h
 | c :: a, p, h => by
  have h' : lst1 (pL c) a = true := h
  show p = true \/ 1 <= (if pL c = true /\ p = false then 1 else 0) + sc (pL c) a
  rcases sc_lst a (pL c) h' with q | q
  ·cases p
   ·rw [if_pos ⟨q, rfl⟩]
    exact .inr (by omega)
   ·exact .inl rfl
  ·exact .inr (by omega)
theorem sc_app_le (a b : List Nat) : sc false (a ++ b) <= sc false a + sc false b := by
 rw [sc_app]
 have := sc_le (lst1 false a) b
 omega
theorem sc_left (a b : List Nat) : sc false a <= sc false (a ++ b) := by rw [sc_app]; omega
theorem sc_right (a b : List Nat) : sc false b <= sc false (a ++ b) := by
 rw [sc_app]
 cases h : lst1 false a with
 | false => omega
 | true =>
  have h1 := (sc_true b).2
  rcases sc_lst a false h with q | q
  ·cases q
  ·omega
theorem sc_ones : ∀ (y : List Nat) (p : Bool), y.all pL = true -> sc p y <= (if p = true then 0 else 1)
 | [], p, _ => Nat.zero_le _
 | c :: y, p, h => by
  rw [List.all_cons, Bool.and_eq_true] at h
  have ih := sc_ones y (pL c) h.2
  rw [if_pos h.1] at ih
  show (if pL c = true /\ p = false then 1 else 0) + sc (pL c) y <= _
  cases p
  ·rw [if_pos ⟨h.1, rfl⟩, if_neg (by decide)]
   omega
  ·rw [if_neg (fun z => nomatch z.2), if_pos rfl]
   omega
theorem sc_none : ∀ (t : List Nat) (p : Bool), t.all (fun c => !pL c) = true -> sc p t = 0
 | [], p, _ => rfl
 | c :: t, p, h => by
  rw [List.all_cons, Bool.and_eq_true] at h
  have hc : pL c = false := by simpa using h.1
  have ih := sc_none t (pL c) h.2
  show (if pL c = true /\ p = false then 1 else 0) + sc (pL c) t = 0
  rw [ih, if_neg (fun z => by rw [hc] at z; cases z.1)]
theorem wgo_sc : ∀ (r : List Nat) (i : Nat) (w : List Nat), (wgo (r.map K01.lo) i w).length = (if w = [] then 0 else 1) + sc (decide (w ≠ [])) r
 | [], i, w => by
  show (flush i w).length = _
  unfold flush
  by_cases h : w = []
  ·rw [if_pos h, if_pos h]
   rfl
  ·rw [if_neg h, if_neg h]
   rfl
 | c :: r, i, w => by
  show (wgo (K01.lo c :: r.map K01.lo) i w).length = _ + ((if pL c = true /\ decide (w ≠ []) = false then 1 else 0) + sc (pL c) r)
  cases h : isS (K01.lo c) with
  | true =>
   have hp : pL c = true := h
   rw [wgo_small h, wgo_sc r (i + 1) (w ++ [K01.lo c]), if_neg (by simp), hp]
   have e : decide (w ++ [K01.lo c] ≠ []) = true := by simp
   rw [e]
   by_cases hw : w = []
   ·rw [if_pos hw, if_pos ⟨rfl, by simp [hw]⟩]
    omega
   ·rw [if_neg hw, if_neg (fun z => by have := z.2; simp [hw] at this)]
    omega
  | false =>
   have hp : pL c = false := h
   rw [wgo_other h, List.length_append, wgo_sc r (i + 1) [], if_pos (rfl : ([] : List Nat) = []), hp, if_neg (show ¬ (false = true /\ decide (w ≠ []) = false) from fun z => nomatch z.1)]
   have e : decide (([] : List Nat) ≠ []) = false := by simp
   rw [e]
   unfold flush
   by_cases hw : w = []
   ·rw [if_pos hw, if_pos hw]
    show 0 + (0 + sc false r) = 0 + (0 + sc false r)
    rfl
   ·rw [if_neg hw, if_neg hw]
    show 1 + (0 + sc false r) = 1 + (0 + sc false r)
    rfl
theorem words_sc (cs : List Nat) : (words cs).length = sc false cs := by
 have := wgo_sc cs 0 []
 rw [if_pos rfl] at this
 have e : decide (([] : List Nat) ≠ []) = false := by simp
 rw [e, Nat.zero_add] at this
 exact this
theorem tw_len (z : Str) : (tw z).length = sc false (codes z) := by unfold tw; rw [List.length_map, words_sc]
theorem codes_app (a b : Str) : codes (a ++ b) = codes a ++ codes b := by
 unfold codes
 rw [PySem.Str.cps_append, Array.toList_append]
theorem sub_sc (l : List Nat) (i j : Nat) : sc false ((l.drop i).take (j - i)) <= sc false l := by
 have h1 := sc_left ((l.drop i).take (j - i)) ((l.drop i).drop (j - i))
 rw [List.take_append_drop] at h1
 have h2 := sc_right (l.take i) (l.drop i)
 rw [List.take_append_drop] at h2
 exact Nat.le_trans h1 h2
theorem strip_sc (z : Str) : sc false (codes (Txt.strip z)) <= sc false (codes z) := by
 unfold Txt.strip
 rw [stripBy_eq]
 have key : ∀ i j : Nat, sc false (z.cps.extract i j).toList <= sc false z.cps.toList := fun i j => by
  rw [Array.toList_extract]
  exact sub_sc z.cps.toList i j
 exact key _ _
theorem pL_isS : ∀ c, c < 128 -> isS c = true -> pL c = true := by decide +kernel
theorem pL_up : ∀ c, c < 128 -> isS c = true -> pL (up1 c) = true := by decide +kernel
theorem pL_all {z : Str} (h : z.cps.toList.all isS = true) : z.cps.toList.all pL = true := List.all_eq_true.mpr fun c hc => pL_isS c (isS_lt (List.all_eq_true.mp h c hc)) (List.all_eq_true.mp h c hc)
theorem pL_upper {z : Str} (h : z.cps.toList.all isS = true) : (Txt.upper z).cps.toList.all pL = true := by
 rw [upper_ascii fun c hc => isS_lt (List.all_eq_true.mp h c hc), Array.toList_map, List.all_map]
 exact List.all_eq_true.mpr fun c hc => pL_up c (isS_lt (List.all_eq_true.mp h c hc)) (List.all_eq_true.mp h c hc)
section
variable {P : Program} {w : World} {K : PySem.W.Frag} {mg : Str -> Option Value} {base : Heap}
def Wm (z : Str) : Prop := z.length <= 13 /\ z.cps.toList.all isS = true /\ 1 <= z.length
def spMenu : Sp := fun vs H Q _ => ∃ n : Int, vs = [.int n] /\ ∀ a H' (ws : List Str), Same H H' -> H' a = some (.lst (ws.map V.str)) -> ws.length = 5 -> (∀ z ∈ ws, Wm z) -> Q (.ref a) H'
theorem scMenu : FnScope ["_law_number_here", "_law_signs", "_law_rest", "_law_k", "_law_size", "_law_at", "_law_found", "_law_sign"] ["_law_number_here"] (defScope lMenu) := ⟨rfl, rfl, rfl, by decide +kernel, rfl, by decide +kernel, by decide +kernel⟩
theorem ndMenu : (["_law_j", "_law_signs", "_law_number_here"] : List Str).Nodup := by decide +kernel
theorem ndMenu2 : (["_law_k", "_law_rest"] : List Str).Nodup := by decide +kernel
seal PSs PS PE PT PA PG PI PGs PIfs in
theorem ok_menu {f fm : Addr} {fd fdm : FuncData} (D : Df K mg "_law_menu" lMenu f fd) (DM : Df K mg "_law_mixed" lMixed fm fdm) (T : Txt mg) : FnOk P w K mg base CX0 2 f fd ["_law_number_here"] spMenu := by
 have GM : FnOk P w K mg base CX0 1 fm fdm ["_law_number_here", "_law_k"] spMixed := ok_mixed DM
 have bM := DM.F.binds (ps := ["_law_number_here", "_law_k"]) fun _ _ _ _ _ _ us hl => us2 (fun _ _ => rfl) us hl
 refine D.F.ok scMenu (fun vs H Q E h => ?_) (fun cdv A outer s H vs Q E hr h => ?_)
 ·obtain ⟨n, rfl, _⟩ := h
  rfl
 ·obtain ⟨n, rfl, kk⟩ := h
  have hl : (sizeLine : Nat) = 16777216 := sizeLine_eq
  refine ⟨_, pss_cons (ps_set (i := 1) scMenu.nd rfl (Or.inr rfl) pe_str)
   (pss_cons (ps_ifJ (pt_cmpR op_eq (pe_op op_mod (pv 0) pe_int) pe_int (nomark _)) (pss_one (ps_set (i := 1) scMenu.nd rfl (Or.inr rfl) pe_str)) pss_nil)
   (pss_cons (ps_set (i := 2) scMenu.nd rfl (Or.inr rfl) (pe_bm PySem.F.plainAttrs_str PySem.F.slot_str_join PySem.F.type_str_join mt_join pe_str (pa_cons (pe_comp (own := 1) (caps := [1, 0]) (N := ["_law_j", "_law_signs", "_law_number_here"])
     (N0 := ["_law_number_here", "_law_signs", "_law_rest", "_law_k", "_law_size", "_law_at", "_law_found", "_law_sign"]) (sc0 := defScope lMenu) rfl
    (pi_range1 rfl T.range (pa_cons pe_int pa_nil)) (fun _ _ _ => pg_name (i := 0) ndMenu rfl (Or.inl rfl)) (fun _ _ _ => pf_none)
    (fun _ _ _ => pe_ix ix_str (pv 1) (pe_op op_mod (pe_call GM hr rfl DM.m DM.F.kp bM .nil pass0 (pa_cons (pv 2) (pa_cons (pe_op op_add pe_int (pv 0)) pa_nil))) pe_int) (fun _ _ => rfl)) (gk_name (by decide)) rfl rfl
    (by decide +kernel) rfl (by decide +kernel) (by decide +kernel) rfl (by decide +kernel)) pa_nil)))
   (pss_cons (ps_if (pt_cmpR op_eq (pe_op op_mod (pe_op op_fdiv (pv 0) pe_int) pe_int) pe_int (nomark _))
    (pss_one (ps_ret (pe_comp (own := 1) (caps := [2]) (N := ["_law_k", "_law_rest"])
     (N0 := ["_law_number_here", "_law_signs", "_law_rest", "_law_k", "_law_size", "_law_at", "_law_found", "_law_sign"]) (sc0 := defScope lMenu) rfl
     (pi_range1 rfl T.range (pa_cons pe_int pa_nil)) (fun _ _ _ => pg_name (i := 0) ndMenu2 rfl (Or.inl rfl)) (fun _ _ _ => pf_none)
     (fun _ _ _ => pe_slice sl_str (pv 1) po_none (po_some (pe_op op_add (pv 0) pe_int))) (gk_name (by decide)) rfl rfl
     (by decide +kernel) rfl (by decide +kernel) (by decide +kernel) rfl (by decide +kernel)))) pss_nil)
   (pss_cons (ps_set (i := 4) scMenu.nd rfl (Or.inl rfl) (pe_op op_mod (pe_op op_fdiv (pv 0) pe_int) pe_int))
   (pss_cons (ps_set (i := 5) scMenu.nd rfl (Or.inl rfl) (pe_op op_mod (pe_op op_fdiv (pv 0) pe_int) (pe_op op_add (pv 4) pe_int)))
   (pss_cons (ps_set (i := 6) scMenu.nd rfl (Or.inl rfl) (pe_lst pa_nil))
   (pss_cons (ps_for PassesOwn.never rfl (pi_range1 rfl T.range (pa_cons pe_int pa_nil)) (pg_name (i := 3) scMenu.nd rfl (Or.inl rfl))
    (pss_cons (ps_set (i := 7) scMenu.nd rfl (Or.inl rfl) (pe_ix ix_str (pv 1) (pe_op op_mod (pe_op op_add (pe_op op_fdiv (pv 0) pe_int) (pe_op op_mul pe_int (pv 3))) pe_int) (fun _ _ => rfl)))
    (pss_one (ps_expr (pe_bm PySem.F.plainAttrs_list PySem.F.slot_list_append PySem.F.type_list_append mt_append (pv 6)
     (pa_cons (pe_op op_add_str (pe_op op_add_str (pe_slice sl_str (pv 2) po_none (po_some (pv 5))) (pv 7)) (pe_slice sl_str (pv 2) (po_some (pv 5)) (po_some (pv 4)))) pa_nil))))))
   (pss_one (ps_ret (pv 6)))))))))), ?_⟩
  refine ⟨fun σ' H' => H' = H /\ ∃ S : Str, S.cps.toList.all isS = true /\ S.length = 26 /\ σ' = [some (.int n), some (.str S), none, none, none, none, none, none], ?_, ?_⟩
  ·refine ⟨_, rfl, _, _, rfl, rfl, (by show (0 : Int) < 3; decide), rfl, _, rfl, ?_⟩
   refine ite2 (fun _ => ?_) (fun _ => ?_)
   ·exact ⟨rfl, Str.ofString "0a1b2c3d4e5f6g7h8i9jklmnop", by decide +kernel, by decide +kernel, rfl⟩
   ·exact ⟨rfl, Str.ofString "abcdefghijklmnopqrstuvwxyz", by decide +kernel, by decide +kernel, rfl⟩
  ·rintro σ' H' ⟨rfl, S, hS, h26, rfl⟩
   have hSl : (codes S).length = 26 := by unfold codes; rw [str_len]; exact h26
   refine ⟨rfl, 6, rfl, by decide, by decide, comp_itr (fun i ys H1 => H1 = H' /\ ∃ cs : List Nat, cs.length = i /\ cs.all isS = true /\ ys = cs.map fun c => V.str ⟨#[c]⟩) (by rw [hl]; decide) ⟨rfl, [], rfl, rfl, rfl⟩ ?_ ?_⟩
   ·rintro i ys H1 N hi ⟨rfl, cs, hc, hok, rfl⟩ hN
    have hi6 : i < 6 := hi
    refine g1 ?_
    refine ⟨_, rfl, _, rfl, _, rfl, _, _, rfl, rfl, _, _, rfl, by (clear hi6 hok hc hi hSl h26 hS hl; omega), by (clear hi6 hok hc hSl h26 hS hl; omega), fun r r0 r1 => ?_⟩
    refine ⟨_, _, rfl, rfl, (by show (0 : Int) < 26; decide), ?_⟩
    obtain ⟨j, hj, hjl⟩ := mod_ix (r := r) (n := 26) (by decide)
    have hj' : j < (codes S).length := by (clear hjl r1 r0 hi6 hok hc hi h26 hS hl; omega)
    refine ⟨S, _, (codes S)[j], rfl, rfl, by (clear hj' hjl hj r1 r0 hi6 hok hc hi hSl hS; omega), ?_, hN _ _ ⟨rfl, cs ++ [(codes S)[j]], by simp [hc], by rw [List.all_append, hok]; simp [all_get (p := isS) (l := codes S) hS hj'], by rw [List.map_append]; rfl⟩⟩
    rw [<- hj]
    exact atI_nat (List.getElem?_eq_getElem hj')
   ·rintro ys H1 ⟨rfl, cs, hc, hok, rfl⟩ _ p hp
    have hc6 : cs.length = 6 := hc
    refine ⟨_, p, cs.map fun c => (⟨#[c]⟩ : Str), rfl, rfl, SqL.of (by rw [upd_same, List.map_map]; rfl), ?_, ?_⟩
    ·rw [sum_ones, List.length_map]
     show cs.length + cs.length * 0 <= _
     (clear hc6 hp hok hSl h26 hS hl; omega)
    rw [join_eq]
    have sm : Same H1 (upd H1 p (.lst (cs.map fun c => V.str ⟨#[c]⟩))) := same_upd hp
    generalize hG : upd H1 p (.lst (cs.map fun c => V.str ⟨#[c]⟩)) = H2 at sm
    have hR : (⟨cs.toArray⟩ : Str).cps.toList.all isS = true := by simpa using hok
    have hRl : (⟨cs.toArray⟩ : Str).length = 6 := by rw [str_len']; exact hc6
    generalize (⟨cs.toArray⟩ : Str) = R at hR hRl
    refine ⟨_, rfl, _, _, rfl, rfl, ⟨by decide, by decide⟩, _, _, rfl, rfl, (by show (0 : Int) < 3; decide), rfl, _, rfl, ?_⟩
    refine ite2 (fun _ => ?_) (fun _ => ?_)
    ·refine ⟨5, rfl, by decide, by decide, comp_itr (fun i ys H3 => H3 = H2 /\ ∃ ws : List Str, ws.length = i /\ (∀ z ∈ ws, Wm z) /\ ys = ws.map V.str) (by rw [hl]; decide) ⟨rfl, [], rfl, fun z hz => by simp at hz, rfl⟩ ?_ ?_⟩
     ·rintro i ys H3 N hi ⟨rfl, ws, hw, hok', rfl⟩ hN
      refine g1 ?_
      refine ⟨_, rfl, _, rfl, _, _, rfl, rfl, _, rfl, R, rfl, by (clear hw hG hi hR hc6 hp hok hc hSl h26 hS; omega), hN _ _ ⟨rfl, ws ++ [Txt.slice R none (some ((0 : Int) + i + 1))], by simp [hw], fun z hz => ?_, by rw [List.map_append]; rfl⟩⟩
      rcases List.mem_append.mp hz with q | q
      ·exact hok' z q
      ·have e : z = Txt.slice R none (some ((0 : Int) + i + 1)) := by simpa using q
       rw [e]
       have := Txt.slice_le R none (some ((0 : Int) + i + 1))
       exact ⟨by (clear e hw hG hi hR hc6 hp hok hc hSl h26 hS hl; omega), slice_all _ _ hR, by
        have hi5 : i < 5 := hi
        have l6 : (R.cps.toList.length : Int) = R.length := by simp [Str.length]
        have e1 : Txt.slice R none (some ((0 : Int) + i + 1)) = _ := PySem.StrLaws.sliceText_to ⟨by omega, by omega⟩
        have l7 : R.cps.toList.length = 6 := by omega
        rw [e1, str_len', List.length_take, List.length_drop, l7]
        omega⟩
     ·rintro ys H3 ⟨rfl, ws, hw, hok', rfl⟩ _ q hq
      exact kk q _ ws (sm.trans (same_upd hq)) upd_same hw hok'
    ·refine ⟨_, rfl, _, _, rfl, rfl, ⟨by decide, by decide⟩, _, _, rfl, rfl, (by show (0 : Int) < 5; decide), ?_⟩
     have s0 := Int.emod_nonneg (n / 9) (show (5 : Int) ≠ 0 by decide)
     refine ⟨_, rfl, _, _, rfl, rfl, ⟨by decide, by decide⟩, _, rfl, _, _, rfl, rfl, _, _, rfl, rfl, (by show (0 : Int) < n / 9 % 5 + 1; (clear s0 hRl hR hG hc6 hp hok hc hSl h26 hS hl; omega)), ?_⟩
     refine ⟨Nat.zero_le _, fun a ha => ?_⟩
     refine ⟨5, rfl, by decide, by decide, for_range (fun i σ H3 => ∃ (ws : List Str) (v3 v7 : Option V), σ = [some (.int n), some (.str S), some (.str R), v3, some (.int (n / 9 % 5)), some (.int (n / 45 % (n / 9 % 5 + 1))), some (.ref a), v7] /\ Same H1 H3 /\ H3 a = some (.lst (ws.map V.str)) /\ ws.length = i /\ ∀ z ∈ ws, Wm z) ?_ ?_ ?_⟩
     ·exact ⟨[], none, none, rfl, sm.trans (same_upd ha), upd_same, rfl, fun z hz => by simp at hz⟩
     ·rintro i σ H3 hi ⟨ws, v3, v7, rfl, sm3, hA, hw, hok'⟩
      have hi5 : i < 5 := hi
      refine ⟨_, rfl, _, rfl, _, _, rfl, rfl, ⟨by decide, by decide⟩, _, rfl, _, _, rfl, rfl, .inl ⟨by decide, by decide⟩, _, _, rfl, rfl, _, _, rfl, rfl, (by show (0 : Int) < 26; decide), ?_⟩
      obtain ⟨j, hj, hjl⟩ := mod_ix (r := n / 225 + 5 * (0 + (i : Int))) (n := 26) (by decide)
      have hj' : j < (codes S).length := by (clear hjl hi5 hw hA hi ha s0 hRl hR hG hc6 hp hok hc h26 hS hl; omega)
      refine ⟨S, _, (codes S)[j], rfl, rfl, by (clear hj' hjl hj hi5 hw hA hi ha s0 hRl hR hG hc6 hp hok hc hSl hS; omega), by rw [<- hj]; exact atI_nat (List.getElem?_eq_getElem hj'), ?_⟩
      have l1 := Txt.slice_le R none (some (n / 45 % (n / 9 % 5 + 1)))
      have l2 := Txt.slice_le R (some (n / 45 % (n / 9 % 5 + 1))) (some (n / 9 % 5))
      have hone : (⟨#[(codes S)[j]]⟩ : Str).length = 1 := rfl
      refine ⟨_, rfl, .inl ⟨rfl, _, SqL.of hA⟩, _, rfl, _, rfl, _, rfl, R, rfl, by (clear hone l2 l1 hj' hjl hj hi5 hw hA hi ha s0 hR hG hc6 hp hok hc hSl h26 hS; omega), _, rfl, _, _, rfl, rfl, by (clear l2 hjl hj hi5 hw hA hi ha s0 hR hG hc6 hp hok hc hSl h26 hS; omega), _, rfl, _, rfl, _, rfl, _, rfl, _, rfl, R, rfl, by (clear hone l2 l1 hj' hjl hj hi5 hw hA hi ha s0 hR hG hc6 hp hok hc hSl h26 hS; omega), _, _, rfl, rfl, by rw [PySem.Str.length_append]; (clear hjl hj hi5 hw hA hi ha s0 hR hG hc6 hp hok hc hSl h26 hS; omega), ?_⟩
      have hne : a ≠ a -> False := fun z => z rfl
      refine ⟨a, _, _, rfl, rfl, hA, by simp; (clear hone l2 l1 hj' hjl hj hi5 hA ha s0 hRl hR hG hc6 hp hok hc hSl h26 hS; omega), ?_⟩
      refine ⟨ws ++ [Txt.slice R none (some (n / 45 % (n / 9 % 5 + 1))) ++ ⟨#[(codes S)[j]]⟩ ++ Txt.slice R (some (n / 45 % (n / 9 % 5 + 1))) (some (n / 9 % 5))], _, _, rfl, fun b u e => ?_, by rw [upd_same, List.map_append]; rfl, by simp [hw], fun z hz => ?_⟩
      ·have hb : b ≠ a := fun z => by subst z; rw [sm.free ha] at e; cases e
       rw [upd_ne hb]; exact sm3 b u e
      ·rcases List.mem_append.mp hz with q | q
       ·exact hok' z q
       ·have e : z = Txt.slice R none (some (n / 45 % (n / 9 % 5 + 1))) ++ ⟨#[(codes S)[j]]⟩ ++ Txt.slice R (some (n / 45 % (n / 9 % 5 + 1))) (some (n / 9 % 5)) := by simpa using q
        rw [e]
        refine ⟨by rw [PySem.Str.length_append, PySem.Str.length_append]; (clear e hjl hj hi5 hw hA hi ha s0 hR hG hc6 hp hok hc hSl h26 hS hl; omega), app_all (app_all (slice_all _ _ hR) ?_) (slice_all _ _ hR), by rw [PySem.Str.length_append, PySem.Str.length_append]; omega⟩
        simp [all_get (p := isS) (l := codes S) hS hj']
     ·rintro σ H3 ⟨ws, v3, v7, rfl, sm3, hA, hw, hok'⟩
      exact ⟨_, rfl, kk a H3 ws sm3 hA hw hok'⟩
theorem pickS {ss : List Str} {n L : Int} (h0 : 0 < ss.length) (hL : L = (ss.length : Nat)) : ∃ z ∈ ss, atI (ss.map V.str) (n % L) = some (.str z) := by
 obtain ⟨v, hv, e⟩ := pickV (xs := ss.map V.str) (n := n) (L := L) (by rw [List.length_map]; exact h0) (by rw [List.length_map]; exact hL)
 obtain ⟨z, hz, rfl⟩ := List.mem_map.mp hv
 exact ⟨z, hz, e⟩
def betL : List Str := [" ", "  ", ", ", "\n", "-", ". ", " [", "] ", "_", " \\ ", "/", "; "]
def begL : List Str := ["", "", " ", "\n\n", "- "]
theorem bet_ok : ∀ z ∈ betL, z.length <= 3 /\ z.cps.toList.all okC = true := by decide +kernel
theorem beg_ok : ∀ z ∈ begL, z.length <= 2 /\ z.cps.toList.all okC = true := by decide +kernel
theorem strip_len (z : Str) : (Txt.strip z).length <= z.length := by
 unfold Txt.strip
 rw [stripBy_eq]
 show (z.cps.extract _ _).size <= z.cps.size
 rw [Array.size_extract]
 omega
theorem bet_no : ∀ z ∈ betL, z.cps.toList.all (fun c => !pL c) = true := by decide +kernel
theorem beg_no : ∀ z ∈ begL, z.cps.toList.all (fun c => !pL c) = true := by decide +kernel
def spTextL : Sp := fun vs H Q _ => ∃ (n : Int) (a : Addr) (ws : List Str) (m : Nat), vs = [.int n, .ref a, .int m] /\ m <= 12 /\ H a = some (.lst (ws.map V.str)) /\ ws.length = 5 /\ (∀ z ∈ ws, Wm z) /\ ∀ x H', Same H H' -> x.length <= 1000 -> (codes x).all okC = true -> (tw x).length <= m -> Q (.str x) H'
theorem scTextL : FnScope ["_law_number_here", "_law_menu_here", "_law_many", "_law_between", "_law_text_here", "_law_k", "_law_more", "_law_word"] ["_law_number_here", "_law_menu_here", "_law_many"] (defScope lText) := ⟨rfl, rfl, rfl, by decide +kernel, rfl, by decide +kernel, by decide +kernel⟩
seal PSs PS PE PT PA PG PI PGs PIfs in
theorem ok_textL {f fm : Addr} {fd fdm : FuncData} (D : Df K mg "_law_text" lText f fd) (DM : Df K mg "_law_mixed" lMixed fm fdm) (T : Txt mg) : FnOk P w K mg base CX0 2 f fd ["_law_number_here", "_law_menu_here", "_law_many"] spTextL := by
 have GM : FnOk P w K mg base CX0 1 fm fdm ["_law_number_here", "_law_k"] spMixed := ok_mixed DM
 have bM := DM.F.binds (ps := ["_law_number_here", "_law_k"]) fun _ _ _ _ _ _ us hl => us2 (fun _ _ => rfl) us hl
 refine D.F.ok scTextL (fun vs H Q E h => ?_) (fun cdv A outer s H vs Q E hr h => ?_)
 ·obtain ⟨n, a, ws, m, rfl, _⟩ := h
  rfl
 ·obtain ⟨n, a, ws, m, rfl, hm, hA, h5, hws, kk⟩ := h
  have hl : (sizeLine : Nat) = 16777216 := sizeLine_eq
  refine ⟨_, pss_cons (ps_set (i := 3) scTextL.nd rfl (Or.inl rfl) (pe_lst (pa_cons pe_str (pa_cons pe_str (pa_cons pe_str (pa_cons pe_str (pa_cons pe_str (pa_cons pe_str (pa_cons pe_str (pa_cons pe_str (pa_cons pe_str (pa_cons pe_str (pa_cons pe_str (pa_cons pe_str pa_nil))))))))))))))
   (pss_cons (ps_set (i := 4) scTextL.nd rfl (Or.inl rfl) (pe_ix ix_list (pe_lst (pa_cons pe_str (pa_cons pe_str (pa_cons pe_str (pa_cons pe_str (pa_cons pe_str pa_nil)))))) (pe_op op_mod (pv 0) pe_int) (fun _ _ => rfl)))
   (pss_cons (ps_for PassesOwn.never rfl (pi_range1 rfl T.range (pa_cons (pv 2) pa_nil)) (pg_name (i := 5) scTextL.nd rfl (Or.inl rfl))
    (pss_cons (ps_set (i := 6) scTextL.nd rfl (Or.inl rfl) (pe_call GM hr rfl DM.m DM.F.kp bM .nil pass0 (pa_cons (pv 0) (pa_cons (pv 5) pa_nil))))
    (pss_cons (ps_set (i := 7) scTextL.nd rfl (Or.inl rfl) (pe_ix ix_list (pv 1) (pe_op op_mod (pv 6) (pe_callB call_len_seq rfl T.len b_len (pa_cons (pv 1) pa_nil))) (fun _ _ => rfl)))
    (pss_cons (ps_set (i := 7) scTextL.nd rfl (Or.inl rfl) (pe_ix ix_list (pe_lst (pa_cons (pv 7) (pa_cons (pv 7) (pa_cons (pe_bm0 PySem.F.plainAttrs_str PySem.F.slot_str_upper PySem.F.type_str_upper mt_upper (pv 7))
      (pa_cons (pe_op op_add_str (pe_bm0 PySem.F.plainAttrs_str PySem.F.slot_str_upper PySem.F.type_str_upper mt_upper (pe_slice sl_str (pv 7) po_none (po_some pe_int))) (pe_slice sl_str (pv 7) (po_some pe_int) po_none)) pa_nil)))))
      (pe_op op_mod (pe_op op_fdiv (pv 6) pe_int) pe_int) (fun _ _ => rfl)))
    (pss_one (ps_set (i := 4) scTextL.nd rfl (Or.inl rfl) (pe_op op_add_str (pe_op op_add_str (pv 4) (pv 7)) (pe_ix ix_list (pv 3) (pe_op op_mod (pe_op op_fdiv (pv 6) pe_int) pe_int) (fun _ _ => rfl)))))))))
   (pss_cons (ps_if (pt_cmpR op_eq (pe_op op_mod (pe_op op_fdiv (pv 0) pe_int) pe_int) pe_int (nomark _)) (pss_one (ps_ret (pe_bm0 PySem.F.plainAttrs_str PySem.F.slot_str_strip PySem.F.type_str_strip mt_strip (pv 4)))) pss_nil)
   (pss_one (ps_ret (pv 4)))))), ?_⟩
  refine ⟨(by show 12 <= sizeLine; (clear h5 hA hm; omega)), fun b hb => ⟨(by show 5 <= sizeLine; (clear hb h5 hA hm; omega)), fun p hp => ?_⟩⟩
  have smb : Same H (upd H b (.lst (betL.map V.str))) := same_upd hb
  change (upd H b (.lst (betL.map V.str))) p = none at hp
  obtain ⟨x0, hx0, e0⟩ := pickS (ss := begL) (n := n) (L := 5) (by decide) rfl
  obtain ⟨lx0, ox0⟩ := beg_ok x0 hx0
  refine ⟨_, rfl, _, _, rfl, rfl, (by show (0 : Int) < 5; decide), p, begL.map V.str, _, _, rfl, rfl, SqL.of upd_same, e0, ?_⟩
  have smp : Same H (upd (upd H b (.lst (betL.map V.str))) p (.lst (begL.map V.str))) := Same.upd smb hp
  have hbp : (upd (upd H b (.lst (betL.map V.str))) p (.lst (begL.map V.str))) b = some (.lst (betL.map V.str)) := by rw [upd_ne (ne_of_none upd_same hp), upd_same]
  refine ⟨_, rfl, m, rfl, by (clear hbp ox0 lx0 e0 hp hb hl h5 hA hm; omega), by (clear hbp ox0 lx0 e0 hp hb hl h5 hA; omega), ?_⟩
  refine for_range (fun i σ H' => ∃ (x : Str) (v5 v6 v7 : Option V), σ = [some (.int n), some (.ref a), some (.int m), some (.ref b), some (.str x), v5, v6, v7] /\ Same H H' /\ H' b = some (.lst (betL.map V.str)) /\ x.length <= 2 + 29 * i /\ x.cps.toList.all okC = true /\ sc false (codes x) <= i) ?_ ?_ ?_
  ·exact ⟨x0, none, none, none, rfl, smp, hbp, by (clear hbp ox0 e0 hp hb hl h5 hA hm; omega), ox0, Nat.le_of_eq (sc_none _ _ (beg_no x0 hx0))⟩
  ·intro i σ H' hi hP
   refine genW fun B D' hB0 hnB => ?_
   obtain ⟨x, v5, v6, v7, rfl, sm, hB, hx, hox, hsc⟩ := hP
   have him : i < m := by simpa using hi
   refine nextW (R := B) hB0 fun R hR => ?_
   refine ⟨_, rfl, _, rfl, _, _, rfl, by (clear him hox hx hB hi hbp ox0 lx0 e0 hp hb hl h5 hA hm; omega), by (clear him hox hx hB hbp ox0 lx0 e0 hp hb hl h5 hA; omega), fun r r0 r1 => ?_⟩
   have hA' := sm _ _ hA
   obtain ⟨z, hz, ez⟩ := pickS (ss := ws) (n := r) (L := ((ws.map V.str).length : Nat)) (by (clear hA' r1 r0 him hox hx hB hi hbp ox0 lx0 e0 hp hb hl hA hm; omega)) (by rw [List.length_map])
   obtain ⟨lz, oz, _⟩ := hws z hz
   have ozk := isS_all oz
   refine nextW (R := R) hR fun R hR => ?_
   refine ⟨_, rfl, _, rfl, _, rfl, _, _, rfl, .inl (SqL.of hA'), _, _, rfl, rfl, (by show (0 : Int) < _; rw [List.length_map, h5]; decide), a, _, _, _, rfl, rfl, SqL.of hA', ez, ?_⟩
   have s1 := Txt.slice_le z none (some 1)
   have s2 := Txt.slice_le z (some 1) none
   obtain ⟨u1, u2⟩ := upper_all oz
   obtain ⟨u3, u4⟩ := upper_all (slice_all none (some 1) oz)
   have u5 := isS_all (slice_all (some 1) none oz)
   refine nextW (R := R) hR fun R hR => ?_
   refine ⟨_, rfl, _, rfl, _, rfl, rfl, z, rfl, rfl, by (clear u5 u4 u3 u2 u1 s2 s1 ozk oz ez hA' r1 r0 him hox hx hB hi hbp ox0 lx0 e0 hp hb hl h5 hA hm; omega), _, rfl, _, rfl, z, rfl, by (clear u5 u4 u3 u2 u1 s2 s1 ozk oz ez hA' r1 r0 him hox hx hB hi hbp ox0 lx0 e0 hp hb h5 hA hm; omega), rfl, _, rfl, rfl, by (clear u5 u4 u3 u2 u1 s2 ozk oz ez hA' r1 r0 him hox hx hB hi hbp ox0 lx0 e0 hp hb hl h5 hA hm; omega), _, rfl, _, rfl, z, rfl, by (clear u5 u4 u3 u2 u1 s2 s1 ozk oz ez hA' r1 r0 him hox hx hB hi hbp ox0 lx0 e0 hp hb h5 hA hm; omega), _, _, rfl, rfl, by (clear u5 u3 u2 u1 ozk oz ez hA' r1 r0 him hox hx hB hi hbp ox0 lx0 e0 hp hb h5 hA hm; omega), (by show 4 <= sizeLine; (clear u5 u4 u3 u2 u1 s2 s1 ozk oz lz ez hA' r1 r0 him hox hx hB hi hbp ox0 lx0 e0 hp hb h5 hA hm; omega)), fun q hq => ?_⟩
   refine ⟨_, rfl, _, _, rfl, rfl, ⟨by decide, by decide⟩, _, _, rfl, rfl, (by show (0 : Int) < 4; decide), ?_⟩
   obtain ⟨y, hy, ey⟩ := pickS (ss := [z, z, Txt.upper z, Txt.upper (Txt.slice z none (some 1)) ++ Txt.slice z (some 1) none]) (n := r / 7) (L := 4) (by simp) rfl
   have hyk : y.length <= 26 /\ y.cps.toList.all okC = true /\ y.cps.toList.all pL = true := by
    have hy' : y = z \/ y = z \/ y = Txt.upper z \/ y = Txt.upper (Txt.slice z none (some 1)) ++ Txt.slice z (some 1) none := by simpa using hy
    rcases hy' with e | e | e | e
    ·rw [e]; exact ⟨by (clear e ey hq u5 u4 u3 u2 u1 s2 s1 ozk oz ez hA' r1 r0 him hox hx hB hi hbp ox0 lx0 e0 hp hb hl h5 hA hm; omega), ozk, pL_all oz⟩
    ·rw [e]; exact ⟨by (clear e ey hq u5 u4 u3 u2 u1 s2 s1 ozk oz ez hA' r1 r0 him hox hx hB hi hbp ox0 lx0 e0 hp hb hl h5 hA hm; omega), ozk, pL_all oz⟩
    ·rw [e]; exact ⟨by (clear e ey hq u5 u4 u3 u1 s2 s1 ozk oz ez hA' r1 r0 him hox hx hB hi hbp ox0 lx0 e0 hp hb hl h5 hA hm; omega), u1, pL_upper oz⟩
    ·rw [e]; exact ⟨by rw [PySem.Str.length_append]; (clear e ey hq u5 u3 u2 u1 ozk oz ez hA' r1 r0 him hox hx hB hi hbp ox0 lx0 e0 hp hb hl h5 hA hm; omega), app_all u3 u5, app_all (pL_upper (slice_all none (some 1) oz)) (pL_all (slice_all (some 1) none oz))⟩
   obtain ⟨hy1, hy2, hy3⟩ := hyk
   refine ⟨q, _, _, _, rfl, rfl, SqL.of upd_same, ey, ?_⟩
   obtain ⟨t, ht, et⟩ := pickS (ss := betL) (n := r / 31) (L := 12) (by decide) rfl
   obtain ⟨ht1, ht2⟩ := bet_ok t ht
   have hB' : (upd H' q (.lst [V.str z, V.str z, V.str (Txt.upper z), V.str (Txt.upper (Txt.slice z none (some 1)) ++ Txt.slice z (some 1) none)])) b = some (.lst (betL.map V.str)) := by rw [upd_ne (ne_of_none hB hq)]; exact hB
   refine lastW (R := R) hR ?_
   refine ⟨_, rfl, _, rfl, _, _, rfl, rfl, by (clear hB' ht2 ht1 et hy2 ey hq u5 u4 u3 u2 u1 s2 s1 ozk oz lz ez hA' r1 r0 him hox hB hbp ox0 lx0 e0 hp hb h5 hA; omega), _, rfl, _, rfl, _, _, rfl, rfl, ⟨by decide, by decide⟩, _, _, rfl, rfl, (by show (0 : Int) < 12; decide), b, _, _, _, rfl, rfl, SqL.of hB', et, _, _, rfl, rfl, by rw [PySem.Str.length_append]; (clear hB' ht2 et hy2 ey hq u5 u4 u3 u2 u1 s2 s1 ozk oz lz ez hA' r1 r0 him hox hB hbp ox0 lx0 e0 hp hb h5 hA; omega), ?_⟩
   have hsn : sc false (codes (x ++ y ++ t)) <= i + 1 := by
    rw [codes_app, codes_app]
    have a1 := sc_app_le (codes x ++ codes y) (codes t)
    have a2 := sc_app_le (codes x) (codes y)
    have a3 := sc_ones (codes y) false hy3
    have a4 := sc_none (codes t) false (bet_no t ht)
    rw [if_neg (by decide)] at a3
    omega
   exact hnB _ _ ⟨x ++ y ++ t, _, _, _, rfl, Same.upd sm hq, hB', by rw [PySem.Str.length_append, PySem.Str.length_append]; (clear hB' ht2 et hy2 ey hq u5 u4 u3 u2 u1 s2 s1 ozk oz lz ez hA' r1 r0 him hox hB hi hbp ox0 lx0 e0 hp hb hl h5 hA hm; omega), app_all (app_all hox hy2) ht2, hsn⟩
  ·rintro σ H' ⟨x, v5, v6, v7, rfl, sm, hB, hx, hox, hsc⟩
   have hsc' : sc false (codes x) <= m := by simpa using hsc
   have hx' : x.length <= 2 + 29 * m := by simpa using hx
   refine ⟨_, rfl, _, _, rfl, rfl, ⟨by decide, by decide⟩, _, _, rfl, rfl, (by show (0 : Int) < 3; decide), rfl, _, rfl, ?_⟩
   refine ite2 (fun _ => ?_) (fun _ => ?_)
   ·refine ⟨_, rfl, rfl, x, rfl, rfl, by (clear hx' hox hB hbp ox0 lx0 e0 hp hb h5 hA; omega), kk _ _ sm ?_ (strip_all hox) (by rw [tw_len]; exact Nat.le_trans (strip_sc x) hsc')⟩
    have := strip_len x
    (clear hx' hox hB hbp ox0 lx0 e0 hp hb hl h5 hA; omega)
   ·exact ⟨_, rfl, kk _ _ sm (by (clear hx' hox hB hbp ox0 lx0 e0 hp hb hl h5 hA; omega)) hox (by rw [tw_len]; exact hsc')⟩
end
def mixF (n k : Int) : Int := (n % 2147483647 + 7919 * k * k + 31 * k) * 48271 % 2147483647 * (69621 + 2 * k) % 2147483629
def numF (ns : List Int) (k : Nat) : Int := match ns with
 | [] => mixF 17 k
 | n :: r => mixF ((n :: r)[k % (n :: r).length]'(Nat.mod_lt _ (Nat.succ_pos _))) k
def baseS : Str := "abzk09"
def baseF (n : Int) : Str := Txt.slice baseS none (some (n % 6))
def kpre (n : Int) : Str := Txt.slice (baseF n) none (some (n / 6 % (((baseF n).length : Nat) + 1)))
def kpost (n : Int) : Str := Txt.slice (baseF n) (some (n / 6 % (((baseF n).length : Nat) + 1))) none
def keyF (n : Int) (k : Nat) : Str := kpre n ++ ⟨#[48 + k]⟩ ++ kpost n
theorem base_all (n : Int) : (baseF n).cps.toList.all isS = true := slice_all _ _ (by decide +kernel)
theorem base_lens : ∀ r : Nat, r < 6 -> (Txt.slice baseS none (some (r : Int))).length <= 5 := by decide +kernel
theorem base_len (n : Int) : (baseF n).length <= 5 := by
 have h0 := Int.emod_nonneg n (show (6 : Int) ≠ 0 by decide)
 have h1 := Int.emod_lt_of_pos n (show (0 : Int) < 6 by decide)
 have e : n % 6 = ((n % 6).toNat : Int) := by omega
 unfold baseF
 rw [e]
 exact base_lens _ (by omega)
theorem key_len (n : Int) (k : Nat) : (keyF n k).length = (kpre n).length + 1 + (kpost n).length := by
 unfold keyF
 rw [PySem.Str.length_append, PySem.Str.length_append]
 rfl
theorem key_len2 (n : Int) : (kpre n).length <= 5 /\ (kpost n).length <= 5 := ⟨Nat.le_trans (Txt.slice_le _ _ _) (base_len n), Nat.le_trans (Txt.slice_le _ _ _) (base_len n)⟩
theorem key_codes (n : Int) (k : Nat) : (keyF n k).cps.toList = (kpre n).cps.toList ++ ((48 + k) :: (kpost n).cps.toList) := by
 unfold keyF
 rw [PySem.Str.cps_append, PySem.Str.cps_append, Array.toList_append, Array.toList_append, List.append_assoc]
 rfl
theorem key_inj {n : Int} {j k : Nat} (h : keyF n j = keyF n k) : j = k := by
 have e := congrArg (fun z : Str => z.cps.toList) h
 simp only [key_codes] at e
 have := (List.cons.inj (List.append_cancel_left e)).1
 omega
theorem dig_isS : ∀ k, k < 10 -> isS (48 + k) = true := by decide
theorem key_row {n : Int} {k : Nat} (hk : k < 10) : rowV 12 (.str (keyF n k)) = true := by
 have h1 := key_len n k
 obtain ⟨h2, h3⟩ := key_len2 n
 show (decide (1 <= (keyF n k).length) && decide ((keyF n k).length <= 12) && (keyF n k).cps.toList.all isS) = true
 rw [decide_eq_true (by omega), decide_eq_true (by omega), key_codes, List.all_append, List.all_cons, dig_isS k hk]
 have a1 : (kpre n).cps.toList.all isS = true := slice_all _ _ (base_all n)
 have a2 : (kpost n).cps.toList.all isS = true := slice_all _ _ (base_all n)
 rw [a1, a2]
 rfl
structure LawPs (ns : List Int) (ps : List (Str × Str)) : Prop where
 l : ps.length <= 4
 k : ∀ (j : Nat) p, ps[j]? = some p -> p.1 = keyF (numF ns 9) j
 t : ∀ p ∈ ps, p.2.length <= 1000 /\ (codes p.2).all okC = true /\ (tw p.2).length <= 6
section
variable {P : Program} {w : World} {K : PySem.W.Frag} {mg : Str -> Option Value} {base : Heap}
def spCell (K : PySem.W.Frag) : Sp := fun vs H Q _ => ∃ (a : Addr) (ns : List Int) (k : Nat), vs = [.ref a, .int k] /\ SqL K H a (ns.map V.int) /\ ∀ n : Int, Q (.int n) H
theorem scCell : FnScope ["_law_script", "_law_k"] ["_law_script", "_law_k"] (defScope lCell) := ⟨rfl, rfl, rfl, by decide +kernel, rfl, by decide +kernel, by decide +kernel⟩
seal PSs PS PE PT PA PG PI PGs PIfs in
theorem ok_cell {f : Addr} {fd : FuncData} (D : Df K mg "_law_cell_at" lCell f fd) (T : Txt mg) : FnOk P w K mg base CX0 1 f fd ["_law_script", "_law_k"] (spCell K) := by
 refine D.F.ok scCell (fun vs H Q E h => ?_) (fun cdv A outer s H vs Q E hr h => ?_)
 ·obtain ⟨a, ns, k, rfl, _⟩ := h
  rfl
 ·obtain ⟨a, ns, k, rfl, hS, kk⟩ := h
  refine ⟨_, pss_cons (ps_if (pt_cmpR op_lt (pv 1) (pe_callB call_len_seq rfl T.len b_len (pa_cons (pv 0) pa_nil)) (nomark _)) (pss_one (ps_ret (pe_ix ix_list (pv 0) (pv 1) (fun _ _ => rfl)))) pss_nil) (pss_one (ps_ret pe_int)), ?_⟩
  refine ⟨_, rfl, _, rfl, a, _, rfl, .inl hS, _, _, rfl, rfl, _, rfl, ?_⟩
  by_cases hk : (k : Int) < ((ns.map V.int).length : Nat)
  ·rw [decide_eq_true hk]
   have hk' : k < ns.length := by rw [List.length_map] at hk; omega
   exact iteT ⟨_, rfl, _, rfl, a, _, _, .int ns[k], rfl, rfl, hS, atI_nat (by rw [List.getElem?_map, List.getElem?_eq_getElem hk']; rfl), kk _⟩
  ·rw [decide_eq_false hk]
   exact iteF (kk 0)
def spMixedX : Sp := fun vs H Q _ => ∃ n k : Int, vs = [.int n, .int k] /\ 0 <= k /\ k <= 1000000 /\ Q (.int (mixF n k)) H
seal PSs PS PE PT PA PG PI PGs PIfs in
theorem ok_mixedX {f : Addr} {fd : FuncData} (D : Df K mg "_law_mixed" lMixed f fd) : FnOk P w K mg base CX0 1 f fd ["_law_number_here", "_law_k"] spMixedX := by
 refine D.F.ok scMixed (fun vs H Q E h => ?_) (fun cdv A outer s H vs Q E hr h => ?_)
 ·obtain ⟨n, k, rfl, _⟩ := h
  rfl
 ·obtain ⟨n, k, rfl, h0, h1, kk⟩ := h
  refine ⟨_, pss_cons (ps_set (i := 0) scMixed.nd rfl (Or.inl rfl) (pe_op op_mod (pe_op op_mul (pe_op op_add (pe_op op_add (pe_op op_mod (pv 0) pe_int) (pe_op op_mul (pe_op op_mul pe_int (pv 1)) (pv 1))) (pe_op op_mul pe_int (pv 1))) pe_int) pe_int))
   (pss_one (ps_ret (pe_op op_mod (pe_op op_mul (pv 0) (pe_op op_add pe_int (pe_op op_mul pe_int (pv 1)))) pe_int))), ?_⟩
  refine ⟨_, rfl, _, _, rfl, rfl, (by show (0 : Int) < 2147483647; decide), _, rfl, _, _, rfl, rfl, .inl ⟨by decide, by decide⟩, _, rfl, _, _, rfl, rfl, .inr ⟨by (clear h1; omega), by (clear h0; omega)⟩, _, _, rfl, rfl, _, rfl, _, _, rfl, rfl, .inl ⟨by decide, by decide⟩, _, _, rfl, rfl,
   _, _, rfl, rfl, .inr ⟨by decide, by decide⟩, _, _, rfl, rfl, (by show (0 : Int) < 2147483647; decide), ?_⟩
  have b1 := Int.emod_nonneg ((n % 2147483647 + 7919 * k * k + 31 * k) * 48271) (show (2147483647 : Int) ≠ 0 by decide)
  have b2 := Int.emod_lt_of_pos ((n % 2147483647 + 7919 * k * k + 31 * k) * 48271) (show (0 : Int) < 2147483647 by decide)
  exact ⟨_, rfl, _, rfl, _, _, rfl, rfl, .inl ⟨by decide, by decide⟩, _, _, rfl, rfl, _, _, rfl, rfl, .inl ⟨by (clear b2 b1 h1 h0; omega), by (clear b2 b1 h1 h0; omega)⟩, _, _, rfl, rfl, (by show (0 : Int) < 2147483629; decide), kk⟩
def spNumberX (K : PySem.W.Frag) : Sp := fun vs H Q _ => ∃ (a : Addr) (ns : List Int) (k : Nat), vs = [.ref a, .int k] /\ SqL K H a (ns.map V.int) /\ ns.length <= 63 /\ k <= 1000 /\ ∀ H', Same H H' -> Q (.int (numF ns k)) H'
seal PSs PS PE PT PA PG PI PGs PIfs in
theorem ok_numberX {f fm : Addr} {fd fdm : FuncData} (D : Df K mg "_law_number" lNumber f fd) (DM : Df K mg "_law_mixed" lMixed fm fdm) (T : Txt mg) : FnOk P w K mg base CX0 2 f fd ["_law_script", "_law_k"] (spNumberX K) := by
 have GM : FnOk P w K mg base CX0 1 fm fdm ["_law_number_here", "_law_k"] spMixedX := ok_mixedX DM
 have bM := DM.F.binds (ps := ["_law_number_here", "_law_k"]) fun _ _ _ _ _ _ us hl => us2 (fun _ _ => rfl) us hl
 refine D.F.ok scNumber (fun vs H Q E h => ?_) (fun cdv A outer s H vs Q E hr h => ?_)
 ·obtain ⟨a, ns, k, rfl, _⟩ := h
  rfl
 ·obtain ⟨a, ns, k, rfl, hS, hl, hk, kk⟩ := h
  refine ⟨_, pss_cons (ps_if (pt_cmpR (op_eqD hr.units100) (pv 0) (pe_lst pa_nil) (nomark _)) (pss_one (ps_ret (pe_call GM hr rfl DM.m DM.F.kp bM .nil pass0 (pa_cons pe_int (pa_cons (pv 1) pa_nil))))) pss_nil)
   (pss_one (ps_ret (pe_call GM hr rfl DM.m DM.F.kp bM .nil pass0 (pa_cons (pe_ix ix_list (pv 0) (pe_op op_mod (pv 1) (pe_callB call_len_seq rfl T.len b_len (pa_cons (pv 0) pa_nil))) (fun _ _ => rfl)) (pa_cons (pv 1) pa_nil))))), ?_⟩
  refine ⟨_, rfl, Nat.zero_le _, fun p hp => ?_⟩
  have sm : Same H (upd H p (.lst [])) := same_upd hp
  refine ⟨.list (ns.map .int), .list [], .lst (sm.seq hS) (dt_ints ns), .lst (SqL.of upd_same) .nil, lay_ints ns, rfl, Nat.le_trans (Nat.min_le_right _ _) (by decide), _, rfl, ?_⟩
  cases ns with
  | nil =>
   refine iteT ?_
   exact ⟨_, rfl, 17, k, rfl, by (clear hl hp hk; omega), by (clear hl hp; omega), kk _ sm⟩
  | cons n ns =>
   refine iteF ?_
   have hn : (0 : Int) < (((n :: ns).map V.int).length : Nat) := by simp
   refine ⟨_, rfl, _, rfl, _, rfl, _, _, rfl, .inl (sm.seq hS), _, _, rfl, rfl, hn, ?_⟩
   have hlt : k % (n :: ns).length < (n :: ns).length := Nat.mod_lt _ (by simp)
   have ei : ((k : Nat) : Int) % ((((n :: ns).map V.int).length : Nat) : Int) = ((k % (n :: ns).length : Nat) : Int) := by rw [List.length_map]; (clear hlt hn hl hp hk; omega)
   refine ⟨a, _, _, .int ((n :: ns)[k % (n :: ns).length]), rfl, rfl, sm.seq hS, ?_, _, rfl, _, k, rfl, by (clear ei hlt hn hl hp hk; omega), by (clear ei hlt hn hl hp; omega), kk _ sm⟩
   rw [ei]
   exact atI_nat (by rw [List.getElem?_map, List.getElem?_eq_getElem hlt]; rfl)
def spKeyL : Sp := fun vs H Q _ => ∃ (n : Int) (k : Nat), vs = [.int n, .int k] /\ k < 10 /\ Q (.str (keyF n k)) H
theorem scKeyL : FnScope ["_law_number_here", "_law_k", "_law_base", "_law_at"] ["_law_number_here", "_law_k"] (defScope lKey) := ⟨rfl, rfl, rfl, by decide +kernel, rfl, by decide +kernel, by decide +kernel⟩
theorem digs : ∀ k : Nat, k < 10 -> (Str.ofString "0123456789").cps.toList[k]? = some (48 + k) := by decide +kernel
seal PSs PS PE PT PA PG PI PGs PIfs in
theorem ok_keyL {f : Addr} {fd : FuncData} (D : Df K mg "_law_key" lKey f fd) (T : Txt mg) : FnOk P w K mg base CX0 1 f fd ["_law_number_here", "_law_k"] spKeyL := by
 refine D.F.ok scKeyL (fun vs H Q E h => ?_) (fun cdv A outer s H vs Q E hr h => ?_)
 ·obtain ⟨n, k, rfl, _⟩ := h
  rfl
 ·obtain ⟨n, k, rfl, hk, kk⟩ := h
  have hl : (sizeLine : Nat) = 16777216 := sizeLine_eq
  refine ⟨_, pss_cons (ps_set (i := 2) scKeyL.nd rfl (Or.inl rfl) (pe_slice sl_str pe_str po_none (po_some (pe_op op_mod (pv 0) pe_int))))
   (pss_cons (ps_set (i := 3) scKeyL.nd rfl (Or.inl rfl) (pe_op op_mod (pe_op op_fdiv (pv 0) pe_int) (pe_op op_add (pe_callB call_len_str rfl T.len b_len (pa_cons (pv 2) pa_nil)) pe_int)))
   (pss_one (ps_ret (pe_op op_add_str (pe_op op_add_str (pe_slice sl_str (pv 2) po_none (po_some (pv 3))) (pe_ix ix_str pe_str (pv 1) (fun _ _ => rfl))) (pe_slice sl_str (pv 2) (po_some (pv 3)) po_none))))), ?_⟩
  have bl := base_len n
  have k1 := key_len2 n
  refine ⟨_, rfl, _, _, rfl, rfl, (by show (0 : Int) < 6; decide), _, rfl, _, rfl, (by show 6 <= sizeLine; (clear k1 bl hk; omega)), ?_⟩
  refine ⟨_, rfl, _, _, rfl, rfl, ⟨by decide, by decide⟩, _, rfl, _, rfl, (by show (baseF n).length <= sizeLine; (clear k1 hk; omega)), _, _, rfl, rfl, _, _, rfl, rfl, (by show (0 : Int) < ((baseF n).length : Nat) + 1; (clear k1 bl hk hl; omega)), ?_⟩
  refine ⟨_, rfl, _, rfl, _, rfl, _, rfl, (by show (baseF n).length <= sizeLine; (clear k1 hk; omega)), _, rfl, _, _, (48 + k), rfl, rfl, (by show 10 <= sizeLine; (clear k1 bl hk; omega)), atI_nat (digs k hk), _, _, rfl, rfl, (by show (kpre n).length + 1 <= sizeLine; (clear bl hk; omega)), ?_⟩
  refine ⟨_, rfl, _, rfl, _, rfl, _, rfl, (by show (baseF n).length <= sizeLine; (clear k1 hk; omega)), _, _, rfl, rfl, ?_, kk⟩
  show (kpre n ++ ⟨#[48 + k]⟩ : Str).length + (kpost n).length <= sizeLine
  rw [PySem.Str.length_append]
  show (kpre n).length + 1 + (kpost n).length <= sizeLine
  (clear bl hk; omega)
end
theorem prs_snoc {H : Hp} {pa : Addr} {xs : List V} {qs : List (Str × Str)} {p : Addr} {q : Str × Str} (ha : H pa = some (.lst xs)) (h : PairsV H xs (qs.map kp)) (hp : H p = some (.tup [.str q.1, .str q.2])) : PairsV (upd H pa (.lst (xs ++ [.ref p]))) (xs ++ [.ref p]) ((qs ++ [q]).map kp) := by
 have nt : ∀ {b : Addr} {ts : List V}, H b = some (.tup ts) -> b ≠ pa := fun e z => by rw [z, ha] at e; cases e
 rw [List.map_append]
 exact Gn.Paired.app (Gn.Paired.imp2 h fun _ _ ⟨b, e, z⟩ => ⟨b, e, by rw [upd_ne (nt z)]; exact z⟩) ⟨p, rfl, by rw [upd_ne (nt hp)]; exact hp⟩
theorem tot_flat {α : Type} (t : List (List α)) : t.flatten.length = tot t := by
 unfold tot
 exact List.length_flatten
theorem few_of {t : List (List Str)} (hl : t.length <= 300) (h : tot t <= 60) : Few t /\ FewW t :=
 ⟨⟨hl, by omega⟩, t.flatten, by rw [tot_flat]; omega, fun ws h1 x h2 => List.mem_flatten.mpr ⟨ws, h1, h2⟩⟩
theorem tot_le {ps : List (Str × Str)} {m : Nat} (h : ∀ p ∈ ps, (tw p.2).length <= m) : tot (tws ps) <= ps.length * m := by
 induction ps with
 | nil => exact Nat.zero_le _
 | cons p r ih =>
  have h1 := h p List.mem_cons_self
  have h2 := ih fun q hq => h q (List.mem_cons_of_mem _ hq)
  show ((tw p.2).length :: (tws r).map List.length).sum <= _
  rw [List.sum_cons, List.length_cons, Nat.succ_mul]
  have h3 : tot (tws r) = ((tws r).map List.length).sum := rfl
  omega
section
variable {ns : List Int} {ps : List (Str × Str)}
theorem LawPs.good (h : LawPs ns ps) : GoodPs ps := by
 refine ⟨fun p hp => ?_, ?_⟩
 ·obtain ⟨j, hj⟩ := List.getElem?_of_mem hp
  have hjl : j < ps.length := (List.getElem?_eq_some_iff.mp hj).1
  have := h.l
  obtain ⟨t1, t2, _⟩ := h.t p hp
  refine ⟨by rw [h.k j p hj]; exact key_row (by omega), ?_⟩
  show (decide (p.2.length <= 2000) && (codes p.2).all okC) = true
  rw [decide_eq_true (by omega), t2]
  rfl
 ·rw [List.Nodup, List.pairwise_iff_getElem]
  intro i j hi hj hij e
  rw [List.length_map] at hi hj
  rw [List.getElem_map, List.getElem_map, h.k i _ (List.getElem?_eq_getElem hi), h.k j _ (List.getElem?_eq_getElem hj)] at e
  have := key_inj e
  omega
theorem LawPs.tot (h : LawPs ns ps) : BK.tot (tws ps) <= 24 := by
 have h1 := tot_le (m := 6) fun p hp => (h.t p hp).2.2
 have := h.l
 omega
theorem LawPs.few (h : LawPs ns ps) : Few (tws ps) /\ FewW (tws ps) := by
 have := h.tot
 have := h.l
 refine few_of ?_ (by omega)
 unfold tws
 rw [List.length_map]
 omega
end
section
variable {P : Program} {w : World} {K : PySem.W.Frag} {mg : Str -> Option Value} {base : Heap}
def spPairsL (K : PySem.W.Frag) : Sp := fun vs H Q _ => ∃ (a b : Addr) (ns : List Int) (ws : List Str) (m : Nat), vs = [.ref a, .int 0, .int m, .ref b] /\ SqL K H a (ns.map V.int) /\ ns.length <= 63 /\ m <= 4 /\ H b = some (.lst (ws.map V.str)) /\ ws.length = 5 /\ (∀ z ∈ ws, Wm z) /\
 ∀ l xs ps H', Same H H' -> H l = none -> H' l = some (.lst xs) -> PairsV H' xs (ps.map kp) -> ps.length = m -> LawPs ns ps -> Q (.ref l) H'
theorem scPairsL : FnScope ["_law_script", "_law_first", "_law_many", "_law_menu_here", "_law_found", "_law_k", "_law_number_here"] ["_law_script", "_law_first", "_law_many", "_law_menu_here"] (defScope lPairs) := ⟨rfl, rfl, rfl, by decide +kernel, rfl, by decide +kernel, by decide +kernel⟩
seal PSs PS PE PT PA PG PI PGs PIfs in
theorem ok_pairsL {f fn fk ft : Addr} {fd fdn fdk fdt : FuncData} (D : Df K mg "_law_pairs" lPairs f fd) (DN : Df K mg "_law_number" lNumber fn fdn) (GN : FnOk P w K mg base CX0 2 fn fdn ["_law_script", "_law_k"] (spNumberX K))
  (DK : Df K mg "_law_key" lKey fk fdk) (GK : FnOk P w K mg base CX0 1 fk fdk ["_law_number_here", "_law_k"] spKeyL) (DT : Df K mg "_law_text" lText ft fdt) (GT : FnOk P w K mg base CX0 2 ft fdt ["_law_number_here", "_law_menu_here", "_law_many"] spTextL) (T : Txt mg) :
  FnOk P w K mg base CX0 3 f fd ["_law_script", "_law_first", "_law_many", "_law_menu_here"] (spPairsL K) := by
 have bN := DN.F.binds (ps := ["_law_script", "_law_k"]) fun _ _ _ _ _ _ us hl => us2 (fun _ _ => rfl) us hl
 have bK := DK.F.binds (ps := ["_law_number_here", "_law_k"]) fun _ _ _ _ _ _ us hl => us2 (fun _ _ => rfl) us hl
 have bT := DT.F.binds (ps := ["_law_number_here", "_law_menu_here", "_law_many"]) fun _ _ _ _ _ _ us hl => match us, hl with | [_, _, _], _ => rfl
 refine D.F.ok scPairsL (fun vs H Q E h => ?_) (fun cdv A outer s H vs Q E hr h => ?_)
 ·obtain ⟨a, b, ns, ws, m, rfl, _⟩ := h
  rfl
 ·obtain ⟨a, b, ns, ws, m, rfl, hS, hns, hm, hB, h5, hws, kk⟩ := h
  have hl : (sizeLine : Nat) = 16777216 := sizeLine_eq
  refine ⟨_, pss_cons (ps_set (i := 4) scPairsL.nd rfl (Or.inl rfl) (pe_lst pa_nil))
   (pss_cons (ps_for PassesOwn.never rfl (pi_range1 rfl T.range (pa_cons (pv 2) pa_nil)) (pg_name (i := 5) scPairsL.nd rfl (Or.inl rfl))
    (pss_cons (ps_set (i := 6) scPairsL.nd rfl (Or.inl rfl) (pe_call GN hr rfl DN.m DN.F.kp bN .nil pass0 (pa_cons (pv 0) (pa_cons (pe_op op_add (pe_op op_add pe_int (pv 1)) (pv 5)) pa_nil))))
    (pss_one (ps_expr (pe_bm PySem.F.plainAttrs_list PySem.F.slot_list_append PySem.F.type_list_append mt_append (pv 4)
     (pa_cons (pe_tup (pa_cons (pe_call (GK.mono (by decide)) hr rfl DK.m DK.F.kp bK .nil pass0 (pa_cons (pe_call GN hr rfl DN.m DN.F.kp bN .nil pass0 (pa_cons (pv 0) (pa_cons pe_int pa_nil))) (pa_cons (pe_op op_add (pv 1) (pv 5)) pa_nil)))
      (pa_cons (pe_call GT hr rfl DT.m DT.F.kp bT .nil pass0 (pa_cons (pv 6) (pa_cons (pv 3) (pa_cons (pe_op op_mod (pe_op op_fdiv (pv 6) pe_int) pe_int) pa_nil)))) pa_nil))) pa_nil))))))
   (pss_one (ps_ret (pv 4)))), ?_⟩
  refine ⟨Nat.zero_le _, fun l hll => ?_⟩
  refine ⟨_, rfl, m, rfl, by omega, by omega, ?_⟩
  refine for_range (fun i σ H' => ∃ (xs : List V) (ps : List (Str × Str)) (v5 v6 : Option V), σ = [some (.ref a), some (.int 0), some (.int m), some (.ref b), some (.ref l), v5, v6] /\ Same H H' /\ H' l = some (.lst xs) /\ PairsV H' xs (ps.map kp) /\ ps.length = i /\
   (∀ (j : Nat) p, ps[j]? = some p -> p.1 = keyF (numF ns 9) j) /\ (∀ p ∈ ps, p.2.length <= 1000 /\ (codes p.2).all okC = true /\ (tw p.2).length <= 6)) ?_ ?_ ?_
  ·exact ⟨[], [], none, none, rfl, same_upd hll, upd_same, .nil, rfl, (fun j p h => by cases j <;> cases h), (fun p hp => nomatch hp)⟩
  ·rintro i σ H' hi ⟨xs, ps, v5, v6, rfl, sm, hL, hP, hlen, hk, ht⟩
   have him : i < m := by simpa using hi
   refine ⟨_, rfl, _, rfl, _, _, rfl, rfl, _, rfl, _, _, rfl, rfl, ?_⟩
   refine ⟨a, ns, 20 + i, congrArg (fun z => [V.ref a, V.int z]) (show (20 + 0 + (0 + (i : Int))) = ((20 + i : Nat) : Int) by omega), sm.seq hS, hns, by omega, fun H1 s1 => ?_⟩
   have hL1 := s1 _ _ hL
   refine ⟨_, rfl, .inl ⟨rfl, _, SqL.of hL1⟩, _, rfl, ?_⟩
   refine ⟨a, ns, 9, rfl, (sm.trans s1).seq hS, hns, by omega, fun H2 s2 => ?_⟩
   refine ⟨_, rfl, _, rfl, _, _, rfl, rfl, ?_⟩
   refine ⟨numF ns 9, i, congrArg (fun z => [V.int (numF ns 9), V.int z]) (show (0 + (0 + (i : Int))) = (i : Int) by omega), by omega, ?_⟩
   refine ⟨_, rfl, _, rfl, _, rfl, _, _, rfl, rfl, ⟨by decide, by decide⟩, _, _, rfl, rfl, (by show (0 : Int) < 7; decide), ?_⟩
   have m0 := Int.emod_nonneg (numF ns (20 + i) / 97) (show (7 : Int) ≠ 0 by decide)
   have m1 := Int.emod_lt_of_pos (numF ns (20 + i) / 97) (show (0 : Int) < 7 by decide)
   have hB2 := (sm.trans (s1.trans s2)) _ _ hB
   refine ⟨numF ns (20 + i), b, ws, (numF ns (20 + i) / 97 % 7).toNat, congrArg (fun z => [V.int (numF ns (20 + i)), V.ref b, V.int z]) (show numF ns (20 + i) / 97 % 7 = ((numF ns (20 + i) / 97 % 7).toNat : Int) by omega), by omega, hB2, h5, hws, fun x H3 s3 hx1 hx2 hx3 => ?_⟩
   refine ⟨(by show 2 <= sizeLine; omega), fun q hq => ?_⟩
   have s03 : Same H' (upd H3 q (.tup [.str (keyF (numF ns 9) i), .str x])) := (s1.trans (s2.trans s3)).trans (same_upd hq)
   have hq' : upd H3 q (.tup [.str (keyF (numF ns 9) i), .str x]) q = some (.tup [.str (keyF (numF ns 9) i), .str x]) := upd_same
   generalize upd H3 q (.tup [.str (keyF (numF ns 9) i), .str x]) = H4 at s03 hq' ⊢
   have hxl := Gn.Paired.len hP
   rw [List.length_map] at hxl
   refine ⟨l, _, _, rfl, rfl, s03 _ _ hL, (by omega), ?_⟩
   refine ⟨xs ++ [.ref q], ps ++ [(keyF (numF ns 9) i, x)], _, _, rfl, fun c u e => ?_, upd_same, prs_snoc (s03 _ _ hL) (hP.same s03) hq', by simp [hlen], fun j p hj => ?_, fun p hp => ?_⟩
   ·have hc : c ≠ l := fun z => by subst z; rw [hll] at e; cases e
    rw [upd_ne hc]
    exact s03 _ _ (sm _ _ e)
   ·by_cases hji : j < ps.length
    ·rw [List.getElem?_append_left hji] at hj
     exact hk j p hj
    ·have hj' : j - ps.length = 0 := by
      have := (List.getElem?_eq_some_iff.mp hj).1
      rw [List.length_append] at this
      simp at this
      omega
     rw [List.getElem?_append_right (by omega), hj'] at hj
     have e : (keyF (numF ns 9) i, x) = p := Option.some.inj hj
     rw [<- e, show j = i by omega]
   ·rcases List.mem_append.mp hp with hp | hp
    ·exact ht p hp
    ·rw [List.mem_singleton.mp hp]
     exact ⟨hx1, hx2, by show (tw x).length <= 6; omega⟩
  ·rintro σ H' ⟨xs, ps, v5, v6, rfl, sm, hL, hP, hlen, hk, ht⟩
   have hlen' : ps.length = m := by simpa using hlen
   exact ⟨_, rfl, kk l xs ps H' sm hll hL hP hlen' ⟨by omega, hk, ht⟩⟩
end
theorem kp_ne : ¬ (("pairs" : Str) = "place") := by decide +kernel
def flds (p : Addr) (z : Int) : List (Str × V) := putF "place" (.int z) (putF "pairs" (.ref p) [])
theorem flds_eq (p : Addr) (z : Int) : flds p z = ([("pairs", V.ref p), ("place", V.int z)] : List (Str × V)) := by
 show (if ("pairs" : Str) = "place" then [(("pairs" : Str), V.int z)] else (("pairs" : Str), V.ref p) :: putF "place" (V.int z) []) = _
 rw [if_neg kp_ne]
 rfl
theorem flds_pairs (p : Addr) (z : Int) : (flds p z).lookup ("pairs" : Str) = some (.ref p) := by
 unfold flds
 rw [lookup_putF, if_neg kp_ne, lookup_putF, if_pos rfl]
theorem flds_place (p : Addr) (z : Int) : (flds p z).lookup ("place" : Str) = some (.int z) := by
 unfold flds
 rw [lookup_putF, if_pos rfl]
theorem flds_no (p : Addr) (z : Int) {m : Str} (h1 : ¬ m = "place") (h2 : ¬ m = "pairs") : (flds p z).lookup m = none := by
 unfold flds
 rw [lookup_putF, if_neg h1, lookup_putF, if_neg h2]
 rfl
theorem flds_put (p : Addr) (z y : Int) : putF "place" (.int y) (flds p z) = flds p y := by
 rw [flds_eq, flds_eq]
 show (if ("pairs" : Str) = "place" then _ else (("pairs" : Str), V.ref p) :: (if ("place" : Str) = "place" then [(("place" : Str), V.int y)] else _)) = _
 rw [if_neg kp_ne, if_pos rfl]
theorem flds_len (p : Addr) (z : Int) : (flds p z).length < 1000 := by rw [flds_eq]; show 2 < 1000; decide
structure WkAt (C : Addr) (H : Hp) (x p : Addr) (row : List Pr) (j : Nat) : Prop where
 ob : ∃ dx, H x = some (.ins C dx (flds p (j : Int)))
 r : RowAt H p row
 le : j <= row.length
theorem WkAt.same {C : Addr} {H H' : Hp} {x p : Addr} {row : List Pr} {j : Nat} (h : WkAt C H x p row j) (s : Same H H') : WkAt C H' x p row j := ⟨let ⟨dx, e⟩ := h.ob; ⟨dx, s _ _ e⟩, h.r.same s, h.le⟩
theorem PrAt.updO {H : Hp} {v : V} {r : Pr} {x : Addr} {o o' : HO} (h : PrAt H v r) (hx : H x = some o) (nt : ∀ ts, o ≠ .tup ts) : PrAt (upd H x o') v r := by
 cases h with
 | mk h ht =>
  rename_i p t n pl
  refine .mk (t := t) ?_ ?_
  ·rw [upd_ne (fun z => by rw [z, hx] at h; exact nt _ (Option.some.inj h))]
   exact h
  ·rw [upd_ne (fun z => by rw [z, hx] at ht; exact nt _ (Option.some.inj ht))]
   exact ht
theorem RowAt.updO {H : Hp} {a x : Addr} {row : List Pr} {o o' : HO} (h : RowAt H a row) (hx : H x = some o) (nt : ∀ ts, o ≠ .tup ts) (na : a ≠ x) : RowAt (upd H x o') a row := by
 obtain ⟨xs, h1, h2⟩ := h
 exact ⟨xs, by rw [upd_ne na]; exact h1, Gn.Paired.imp2 h2 fun _ _ q => q.updO hx nt⟩
theorem RowAt.ne {H : Hp} {a x : Addr} {row : List Pr} {o : HO} (h : RowAt H a row) (hx : H x = some o) (nt : ∀ ts, o ≠ .lst ts) : a ≠ x := fun z => by
 obtain ⟨xs, h1, _⟩ := h
 rw [z, hx] at h1
 exact nt _ (Option.some.inj h1)
theorem sameBut_upd {H : Hp} {x : Addr} {o : HO} : SameBut x H (upd H x o) := fun b u e hb => by rw [upd_ne hb]; exact e
structure TxtC (K : PySem.W.Frag) (mg : Str -> Option Value) (C : Addr) : Prop where
 cl : Cls K C
 nP : NoAttr K C "pairs"
 nL : NoAttr K C "place"
 mgC : mg "Walk" = some (.ref C)
section
variable {P : Program} {w : World} {K : PySem.W.Frag} {mg : Str -> Option Value} {base : Heap} {C : Addr}
def spInit (C : Addr) : Sp := fun vs H Q _ => ∃ (x a dx : Addr) (row : List Pr), vs = [.ref x, .ref a] /\ H x = some (.ins C dx []) /\ H a = some (.lst (nl (pk (rn 0 row)))) /\ RowOk 0 row /\ Sz row /\
 ∀ p H', H p = none -> WkAt C H' x p row 0 -> SameBut x H H' -> Q .non H'
theorem scInit : FnScope ["self", "parts"] ["self", "parts"] (defScope wInit) := ⟨rfl, rfl, rfl, by decide +kernel, rfl, by decide +kernel, by decide +kernel⟩
seal PSs PS PE PT PA PG PI PGs PIfs in
theorem ok_init {f fu : Addr} {fd fdu : FuncData} (F : Fun K "__init__" "Walk.__init__" wInit f fd) (T : TxtC K mg C) (DU : Df K mg "unpacked_row" sURow fu fdu) (GU : FnOk P w K mg base CX0 4 fu fdu ["parts"] spURow) : FnOk P w K mg base CX0 5 f fd ["self", "parts"] (spInit C) := by
 have bU := binds1 (p := "parts") DU.F fun _ _ _ _ _ _ _ => rfl
 refine F.ok scInit (fun vs H Q E h => ?_) (fun cdv A outer s H vs Q E hr h => ?_)
 ·obtain ⟨x, a, dx, row, rfl, _⟩ := h
  rfl
 ·obtain ⟨x, a, dx, row, rfl, hx, hA, ho, hs, k⟩ := h
  refine ⟨_, pss_cons (ps_fld (pv 0) (pe_call GU hr rfl DU.m DU.F.kp bU .nil pass0 (pa_cons (pv 1) pa_nil)) rfl) (pss_one (ps_fld (pv 0) pe_int rfl)), ?_⟩
  refine ⟨_, rfl, a, row, rfl, hA, ho, hs, fun p H1 s1 hp hR => ?_⟩
  have hx1 := s1 _ _ hx
  refine ⟨_, rfl, x, C, dx, [], rfl, hx1, T.cl, T.nP, (by show 0 < 1000; decide), _, rfl, x, C, dx, _, rfl, upd_same, T.cl, T.nL, (by show 1 < 1000; decide), ?_⟩
  have hpx : p ≠ x := hR.ne hx1 fun ts z => by cases z
  refine k p _ hp ⟨⟨dx, upd_same⟩, (hR.updO hx1 (fun ts z => by cases z) hpx).updO upd_same (fun ts z => by cases z) hpx, Nat.zero_le _⟩ fun b u e hb => ?_
  rw [upd_ne hb, upd_ne hb]
  exact s1 _ _ e
def spRest (C : Addr) : Sp := fun vs H Q _ => ∃ (x p : Addr) (row : List Pr) (j : Nat), vs = [.ref x] /\ WkAt C H x p row j /\ ∀ z H', Same H H' -> H z = none -> RowAt H' z (row.drop j) -> Q (.ref z) H'
theorem scRest : FnScope ["self"] ["self"] (defScope wRest) := ⟨rfl, rfl, rfl, by decide +kernel, rfl, by decide +kernel, by decide +kernel⟩
seal PSs PS PE PT PA PG PI PGs PIfs in
theorem ok_rest {f : Addr} {fd : FuncData} (F : Fun K "rest" "Walk.rest" wRest f fd) (T : TxtC K mg C) : FnOk P w K mg base CX0 1 f fd ["self"] (spRest C) := by
 refine F.ok scRest (fun vs H Q E h => ?_) (fun cdv A outer s H vs Q E hr h => ?_)
 ·obtain ⟨x, p, row, j, rfl, _⟩ := h
  rfl
 ·obtain ⟨x, p, row, j, rfl, hW, k⟩ := h
  obtain ⟨⟨dx, hx⟩, ⟨xs, hX, hp⟩, hj⟩ := id hW
  refine ⟨_, pss_one (ps_ret (pe_slice sl_list (pe_fld (pv 0) rfl) (po_some (pe_fld (pv 0) rfl)) po_none)), ?_⟩
  refine ⟨_, rfl, x, C, dx, _, _, rfl, hx, T.cl, T.nP, flds_pairs _ _, _, rfl, x, C, dx, _, _, rfl, hx, T.cl, T.nL, flds_place _ _, _, rfl, p, _, rfl, SqL.of hX, fun z hz => ?_⟩
  rw [cut_drop]
  exact k z _ (same_upd hz) hz ⟨_, upd_same, Paired.dp j (Gn.Paired.imp2 hp fun _ _ q => PrAt.same q (same_upd hz))⟩
theorem ris_lt : ∀ {l : Nat} {ns : List Nat}, ris l ns -> ∀ {i k a b : Nat}, i < k -> ns[i]? = some a -> ns[k]? = some b -> a < b
 | _, [], _, i, _, _, _, _, h1, _ => by cases i <;> cases h1
 | _, n :: r, h, 0, k + 1, a, b, _, h1, h2 => by
  have ha : n = a := Option.some.inj h1
  subst ha
  have h2' : r[k]? = some b := h2
  exact ris_ge h.2 h2'
 | _, n :: r, h, i + 1, k + 1, a, b, hik, h1, h2 => ris_lt h.2 (Nat.lt_of_succ_lt_succ hik) h1 h2
where
 ris_ge : ∀ {l : Nat} {ns : List Nat}, ris l ns -> ∀ {k b : Nat}, ns[k]? = some b -> l <= b
 | _, [], _, k, _, h => by cases k <;> cases h
 | _, n :: r, h, 0, b, e => by have : n = b := Option.some.inj e; have := h.1; omega
 | _, n :: r, h, k + 1, b, e => by have := ris_ge h.2 (k := k) e; have := h.1; omega
structure Lp (row : List Pr) (j : Nat) (n : Int) (low : Nat) : Prop where
 a : j <= low
 b : low <= row.length
 c : ∀ i r, j <= i -> i < low -> row[i]? = some r -> (r.1 : Int) < n
 d : ∀ i r, low <= i -> row[i]? = some r -> ¬ (r.1 : Int) < n
def spLeap (K : PySem.W.Frag) (C CN : Addr) : Sp := fun vs H Q E => ∃ (x p : Addr) (row : List Pr) (j : Nat) (v : V), vs = [.ref x, v] /\ WkAt C H x p row j /\ RowOk 0 row /\ row.length <= 3000 /\ Known K H v /\
 (∀ n : Int, v = .int n -> 0 <= n -> ∀ low H', Lp row j n low -> WkAt C H' x p row low -> SameBut x H H' -> Q .non H') /\ (goodN v 0 none = false -> E (.ref CN) none H)
theorem scLeap : FnScope ["self", "number", "low", "high", "middle"] ["self", "number"] (defScope wLeap) := ⟨rfl, rfl, rfl, by decide +kernel, rfl, by decide +kernel, by decide +kernel⟩
seal PSs PS PE PT PA PG PI PGs PIfs in
theorem ok_leap {f fn CN : Addr} {fd fdn : FuncData} (F : Fun K "leap" "Walk.leap" wLeap f fd) (T : TxtC K mg C) (B : Txt mg) (DN : DfD K mg "need_number" sNNum fn fdn #[.none]) (GN : FnOk P w K mg base (CX1 P w) 2 fn fdn ["thing", "least", "most"] (spNNum K CN)) :
  FnOk P w K mg base (CX1 P w) 3 f fd ["self", "number"] (spLeap K C CN) := by
 have bN2 := DN.binds (ps := ["thing", "least", "most"]) (ds := [.none]) fun T kV doc pm an cdv ct us hl => match us, (show us.length = 2 by simpa using hl) with | [_, _], _ => ⟨_, rfl, rfl⟩
 refine F.ok1 scLeap (fun vs H Q E h => ?_) (fun cdv A outer s H vs Q E hr h => ?_)
 ·obtain ⟨x, p, row, j, v, rfl, _⟩ := h
  rfl
 ·obtain ⟨x, p, row, j, v, rfl, hW, ho, hlen, hk, k1, k2⟩ := h
  obtain ⟨⟨dx, hx⟩, hR, hj⟩ := id hW
  obtain ⟨xs, hX, hp⟩ := id hR
  have hxl := Gn.Paired.len hp
  refine ⟨_, pss_cons (ps_expr (pe_call GN hr rfl DN.m DN.kp bN2 (dvs := [.non]) (.cons rfl .nil) (pass_out (E' := E) fun _ _ _ h => h) (pa_cons (pv 1) (pa_cons pe_int pa_nil))))
   (pss_cons (ps_set (i := 2) scLeap.nd rfl (Or.inl rfl) (pe_fld (pv 0) rfl))
   (pss_cons (ps_set (i := 3) scLeap.nd rfl (Or.inl rfl) (pe_callB call_len_seq rfl B.len b_len (pa_cons (pe_fld (pv 0) rfl) pa_nil)))
   (pss_cons (PS.nox (ps_while PassesOwn.never (pt_cmpR op_lt (pv 2) (pv 3) (nomark _))
    (pss_cons (ps_set (i := 4) scLeap.nd rfl (Or.inl rfl) (pe_op op_fdiv (pe_op op_add (pv 2) (pv 3)) pe_int))
    (pss_one (ps_if (pt_cmpR op_lt (pe_ix ix_tup (pe_ix ix_list (pe_fld (pv 0) rfl) (pv 4) (fun _ _ => rfl)) pe_int (fun _ _ => rfl)) (pv 1) (nomark _))
     (pss_one (ps_set (i := 2) scLeap.nd rfl (Or.inl rfl) (pe_op op_add (pv 4) pe_int)))
     (pss_one (ps_set (i := 3) scLeap.nd rfl (Or.inl rfl) (pv 4))))))))
   (pss_one (ps_fld (pv 0) (pv 2) rfl))))), ?_⟩
  refine ⟨_, rfl, v, 0, none, rfl, hk, fun hg => ?_, k2⟩
  obtain ⟨n, rfl⟩ := good_nat hg
  refine ⟨_, rfl, x, C, dx, _, _, rfl, hx, T.cl, T.nL, flds_place _ _, ?_⟩
  refine ⟨_, rfl, x, C, dx, _, _, rfl, hx, T.cl, T.nP, flds_pairs _ _, p, _, rfl, .inl (SqL.of hX), ?_⟩
  refine while_by (fun σ H' => H' = H /\ ∃ (lw hi : Nat) (o4 : Option V), σ = [some (.ref x), some (.int (n : Int)), some (.int (lw : Int)), some (.int (hi : Int)), o4] /\ j <= lw /\ lw <= hi /\ hi <= row.length /\ (∀ i r, j <= i -> i < lw -> row[i]? = some r -> (r.1 : Int) < n) /\ (∀ i r, hi <= i -> row[i]? = some r -> ¬ (r.1 : Int) < n))
   (fun σ _ => match σ with | [_, _, some (.int lw), some (.int hi), _] => (hi - lw).toNat | _ => 0) ⟨rfl, j, xs.length, none, rfl, Nat.le_refl _, by omega, by omega, (fun i r h1 h2 => by omega), fun i r h1 h2 => ?_⟩ ?_ ?_
  ·rw [List.getElem?_eq_none (by omega)] at h2
   cases h2
  ·rintro σ H' ⟨rfl, lw, hi, o4, rfl, h1, h2, h3, h4, h5⟩
   refine ⟨_, rfl, _, rfl, _, _, rfl, rfl, _, rfl, ?_⟩
   by_cases hlt : lw < hi
   ·rw [decide_eq_true (by omega)]
    refine iteT ?_
    have em : ((lw : Int) + (hi : Int)) / 2 = (((lw + hi) / 2 : Nat) : Int) := by omega
    obtain ⟨m, em2⟩ : ∃ m, m = (lw + hi) / 2 := ⟨_, rfl⟩
    refine ⟨_, rfl, _, rfl, _, _, rfl, rfl, _, _, rfl, rfl, ⟨by decide, by decide⟩, ?_⟩
    show gName 4 (V.int (((lw : Int) + (hi : Int)) / 2)) _ _ _
    rw [em, <- em2]
    obtain ⟨r, hr'⟩ : ∃ r, row[m]? = some r := ⟨row[m]'(by omega), List.getElem?_eq_getElem (by omega)⟩
    obtain ⟨u, hu, hpu⟩ := Gn.Paired.at hp hr'
    cases hpu with
    | mk hq ht =>
     rename_i q t rn' rp
     refine ⟨_, rfl, x, C, dx, _, _, rfl, hx, T.cl, T.nP, flds_pairs _ _, _, rfl, p, _, _, _, rfl, rfl, SqL.of hX, atI_nat hu, q, _, _, _, rfl, rfl, SqT.of hq, atI_nat (j := 0) rfl, _, rfl, _, _, rfl, rfl, _, rfl, ?_⟩
     have mono : ∀ (i k : Nat) (a b : Pr), i < k -> row[i]? = some a -> row[k]? = some b -> a.1 < b.1 := fun i k a b hik e1 e2 => ris_lt ho.n (i := i) (k := k) hik (by rw [List.getElem?_map, e1]; rfl) (by rw [List.getElem?_map, e2]; rfl)
     by_cases hc : (rn' : Int) < (n : Int)
     ·rw [decide_eq_true hc]
      refine iteT ⟨_, rfl, _, _, rfl, rfl, ⟨rfl, m + 1, hi, _, rfl, by omega, by omega, h3, fun i r' hi1 hi2 e => ?_, h5⟩, ?_⟩
      ·by_cases him : i = m
       ·subst him
        rw [hr'] at e
        cases e
        exact hc
       ·have := mono i m r' _ (by omega) e hr'
        have hc' : rn' < n := by omega
        have : r'.1 < rn' := this
        omega
      ·show ((hi : Int) - ((m : Int) + 1)).toNat < ((hi : Int) - (lw : Int)).toNat
       omega
     ·rw [decide_eq_false hc]
      refine iteF ⟨_, rfl, ⟨rfl, lw, m, _, rfl, h1, by omega, by omega, h4, fun i r' hi1 e => ?_⟩, ?_⟩
      ·by_cases him : i = m
       ·subst him
        rw [hr'] at e
        cases e
        exact hc
       ·have : rn' < r'.1 := mono m i _ r' (by omega) hr' e
        omega
      ·show ((m : Int) - (lw : Int)).toNat < ((hi : Int) - (lw : Int)).toNat
       omega
   ·rw [decide_eq_false (by omega)]
    refine iteF ?_
    have e : hi = lw := by omega
    subst e
    refine ⟨_, rfl, _, rfl, x, C, dx, _, rfl, hx, T.cl, T.nL, flds_len _ _, ?_⟩
    have hpx : p ≠ x := hR.ne hx fun ts z => by cases z
    refine k1 n rfl (by omega) hi _ ⟨h1, h3, h4, h5⟩ ⟨⟨dx, ?_⟩, hR.updO hx (fun ts z => by cases z) hpx, h3⟩ sameBut_upd
    rw [upd_same]
    exact congrArg (fun l => some (HO.ins C dx l)) (flds_put _ _ _)
  ·intro σ H' Q1 Q2 hq h
   obtain ⟨x, h1, y, h2, i, j, e1, e2, b, e3, z⟩ := h
   exact ⟨x, h1, y, h2, i, j, e1, e2, b, e3, hq _ _ z⟩
end
section
variable {P : Program} {w : World} {K : PySem.W.Frag} {mg : Str -> Option Value} {base : Heap} {C CN CNo CW CWk : Addr}
theorem b_sum : bootBuiltins "sum" = some (.builtin "sum") := by decide +kernel
def spTotal (C : Addr) : Sp := fun vs H Q _ => ∃ (x : Addr) (ps : List (Str × Str)), vs = [.ref x] /\ BookAt C H x ps /\ Few (tws ps) /\ Q (.int ((tot (tws ps) : Nat) : Int)) H
theorem scTotal : FnScope ["self"] ["self"] (defScope bTotal) := ⟨rfl, rfl, rfl, by decide +kernel, rfl, by decide +kernel, by decide +kernel⟩
seal PSs PS PE PT PA PG PI PGs PIfs in
theorem ok_total {f : Addr} {fd : FuncData} (F : Fun K "total" "Book.total" bTotal f fd) (B : BkC K mg C) (T : Txt mg) : FnOk P w K mg base CX0 1 f fd ["self"] (spTotal C) := by
 refine F.ok scTotal (fun vs H Q E h => ?_) (fun cdv A outer s H vs Q E hr h => ?_)
 ·obtain ⟨x, ps, rfl, _⟩ := h
  rfl
 ·obtain ⟨x, ps, rfl, hB, hF, k⟩ := h
  obtain ⟨dx, dn, pa, sz, dr, ri, xs, es, ts, h1, h2, h3, h4, h5, h6, h7, h8, h9⟩ := hB.ex
  refine ⟨_, pss_one (ps_ret (pe_callB (call_sumN rfl) rfl T.sum b_sum (pa_cons (pe_fld (pv 0) rfl) pa_nil))), ?_⟩
  have := hF.t
  exact ⟨_, rfl, x, C, dx, _, _, rfl, h1, B.cl, B.nS, bf_sz, sz, _, rfl, SqL.of h5, (by show tot (tws ps) <= 1000000; omega), k⟩
def spStarts (K : PySem.W.Frag) (C CW : Addr) : Sp := fun vs H Q E => ∃ (x : Addr) (ps : List (Str × Str)) (z : Str), vs = [.ref x, .str z] /\ BookAt C H x ps /\ FewW (tws ps) /\ Fit (.str z) /\ rowV 2000 (.str z) = true /\
 ∀ l ts H', Same H H' -> H l = none -> H' l = some (.lst (sl (ts.filter fun y => Txt.startswith y z))) -> ts.Nodup -> (∀ y, y ∈ ts ↔ ∃ ws ∈ tws ps, y ∈ ws) -> sortedS ts = true -> Q (.ref l) H'
theorem scStarts : FnScope ["self", "word"] ["self", "word"] (defScope bStarts) := ⟨rfl, rfl, rfl, by decide +kernel, rfl, by decide +kernel, by decide +kernel⟩
theorem ndLg : (["longer", "word"] : List Str).Nodup := by decide +kernel
theorem few_len {t : List (List Str)} {ts : List Str} (h : FewW t) (hn : ts.Nodup) (hm : ∀ y, y ∈ ts ↔ ∃ ws ∈ t, y ∈ ws) : ts.length < 64 := by
 obtain ⟨us, hu, hin⟩ := h
 have := nd_sub hn fun x hx => by
  obtain ⟨ws, h1, h2⟩ := (hm x).mp hx
  exact hin ws h1 x h2
 omega
seal PSs PS PE PT PA PG PI PGs PIfs in
theorem ok_startsG {f fw : Addr} {fd fdw : FuncData} (F : Fun K "starts" "Book.starts" bStarts f fd) (B : BkC K mg C) (DW : Df K mg "need_word" sNWord fw fdw) (GW : FnOk P w K mg base (CX1 P w) 3 fw fdw ["thing"] (spNeed K (rowV 2000) CW)) : FnOk P w K mg base (CX1 P w) 4 f fd ["self", "word"] (spStarts K C CW) := by
 have bW := binds1 (p := "thing") DW.F fun _ _ _ _ _ _ _ => rfl
 refine F.ok1 scStarts (fun vs H Q E h => ?_) (fun cdv A outer s H vs Q E hr h => ?_)
 ·obtain ⟨x, ps, z, rfl, _⟩ := h
  rfl
 ·obtain ⟨x, ps, z, rfl, hB, hF, hfit, hg, k⟩ := h
  have hz : (sizeLine : Nat) = 16777216 := sizeLine_eq
  obtain ⟨dx, dn, pa, sz, dr, ri, xs, es, ts, h1, h2, h3, h4, h5, h6, h7, h8, h9⟩ := hB.ex
  refine ⟨_, pss_cons (ps_expr (pe_call GW hr rfl DW.m DW.F.kp bW .nil (pass_out (E' := E) (fun _ _ _ h => h)) (pa_cons (pv 1) pa_nil)))
   (pss_one (ps_ret (pe_comp (own := 1) (caps := [1]) (N := ["longer", "word"]) (N0 := ["self", "word"]) (sc0 := defScope bStarts) rfl (pi_list (pe_fld (pv 0) rfl)) (fun _ _ _ => pg_name (i := 0) ndLg rfl (Or.inl rfl)) (fun _ _ _ => pf_one (pt_val (pe_bmK (K := K) rfl PySem.F.plainAttrs_str PySem.F.slot_str_startswith PySem.F.type_str_startswith mt_starts (pv 0) (pa_cons (pv 1) pa_nil)))) (fun _ _ _ => (pv 0)) (gk_name (by decide)) rfl rfl
    (by decide +kernel) rfl (by decide +kernel) (by decide +kernel) rfl (by decide +kernel)))), ?_⟩
  refine ⟨_, rfl, _, rfl, ⟨_, .str _⟩, hfit, (fun _ H1 s1 => ?_), fun c => (by rw [hg] at c; cases c)⟩
  have tn := h8.nodup_iff.mpr h6.k
  have tm : ∀ y, y ∈ ts ↔ ∃ ws ∈ tws ps, y ∈ ws := fun y => by rw [h8.mem_iff]; exact h6.w y
  have tl := few_len hF tn tm
  have h7' := s1 _ _ h7
  refine ⟨_, rfl, x, C, dx, _, _, rfl, s1 _ _ h1, B.cl, B.nI, bf_ri, ri, rfl, ⟨_, SqL.of h7'⟩, ?_⟩
  have sll : (sl ts).length = ts.length := List.length_map _
  refine comp_itl (xs := sl ts) (fun i ys H' => H' = H1 /\ ys = sl ((ts.take i).filter fun y => Txt.startswith y z)) (by rw [sll]; omega) (fun i ys H' q => by rw [q.1]; exact SqL.of h7') ⟨rfl, rfl⟩ ?_ ?_
  ·rintro i v ys H' N hv ⟨rfl, rfl⟩ hN
   obtain ⟨y, hy, rfl⟩ := sl_get hv
   refine ⟨_, rfl, rfl, _, rfl, y, z, rfl, rfl, _, rfl, ?_⟩
   have tk : (ts.take (i + 1)).filter (fun y => Txt.startswith y z) = (ts.take i).filter (fun y => Txt.startswith y z) ++ (if Txt.startswith y z = true then [y] else []) := by
    rw [take_snoc hy, List.filter_append]
    congr 1
    rw [List.filter_cons]
    split <;> rfl
   cases hs : Txt.startswith y z with
   | true =>
    rw [hs, if_pos rfl] at tk
    exact iteT ⟨_, rfl, hN _ _ ⟨rfl, by rw [tk]; unfold sl; rw [List.map_append]; rfl⟩⟩
   | false =>
    rw [hs, if_neg (by decide), List.append_nil] at tk
    exact iteF (hN _ _ ⟨rfl, by rw [tk]⟩)
  ·rintro ys H' ⟨rfl, rfl⟩ _ p hp
   rw [sll, List.take_of_length_le (Nat.le_refl _)]
   exact k p ts _ (s1.trans (same_upd hp)) (s1.free hp) upd_same tn tm h9
def spWalkOf (K : PySem.W.Frag) (C CWk : Addr) : Sp := fun vs H Q E => ∃ (x : Addr) (ps : List (Str × Str)) (z : Str), vs = [.ref x, .str z] /\ BookAt C H x ps /\ Few (tws ps) /\ Fit (.str z) /\ rowV 2000 (.str z) = true /\
 ∀ y p H', Same H H' -> H y = none -> H p = none -> WkAt CWk H' y p (rowOf z (tws ps) 0) 0 -> Q (.ref y) H'
theorem scWalkOf : FnScope ["self", "word"] ["self", "word"] (defScope bWalkOf) := ⟨rfl, rfl, rfl, by decide +kernel, rfl, by decide +kernel, by decide +kernel⟩
seal PSs PS PE PT PA PG PI PGs PIfs in
theorem ok_walkofG {f fp fi : Addr} {fd fdp fdi : FuncData} (F : Fun K "walk_of" "Book.walk_of" bWalkOf f fd) (B : BkC K mg C) (FP : Fun K "parts_of" "Book.parts_of" bPartsOf fp fdp) (mP : Meth K C "parts_of" fp) (GP : FnOk P w K mg base (CX1 P w) 4 fp fdp ["self", "word"] (spParts K C CW))
  (FI : Fun K "__init__" "Walk.__init__" wInit fi fdi) (M : L2.Mk K CWk fi) (TW : TxtC K mg CWk) (GI : FnOk P w K mg base CX0 5 fi fdi ["self", "parts"] (spInit CWk)) : FnOk P w K mg base (CX1 P w) 7 f fd ["self", "word"] (spWalkOf K C CWk) := by
 have bP := FP.binds (ps := ["self", "word"]) fun _ _ _ _ _ _ us hl => us2 (fun _ _ => rfl) us hl
 have bI := FI.binds (ps := ["self", "parts"]) fun _ _ _ _ _ _ us hl => us2 (fun _ _ => rfl) us hl
 refine F.ok1 scWalkOf (fun vs H Q E h => ?_) (fun cdv A outer s H vs Q E hr h => ?_)
 ·obtain ⟨x, ps, z, rfl, _⟩ := h
  rfl
 ·obtain ⟨x, ps, z, rfl, hB, hF, hfit, hg, k⟩ := h
  obtain ⟨dx, dn, pa, sz, dr, ri, xs, es, ts, h1, _⟩ := hB.ex
  refine ⟨_, pss_one (ps_ret (pe_make M GI hr rfl TW.mgC bI .nil pass0 (pa_cons (pe_meth (pv 0) B.cl mP (GP.mono (by decide)) hr bP .nil (pass_out (E' := E) (fun _ _ _ h => h)) (pa_cons (pv 1) pa_nil)) pa_nil))), ?_⟩
  refine ⟨_, rfl, x, dx, _, rfl, h1, bf_no (by decide +kernel) (by decide +kernel) (by decide +kernel) (by decide +kernel) (by decide +kernel), _, rfl, ?_⟩
  refine ⟨x, ps, .str z, rfl, hB, ⟨_, .str _⟩, hfit, (fun z' l H1 e _ s1 hl hL => ?_), fun c => (by rw [hg] at c; cases c)⟩
  have ez : z' = z := by injection e with e; exact e.symm
  subst ez
  intro y dy hy hdy ne
  have nl : ∀ b u, H1 b = some u -> upd (upd H1 dy (.own y)) y (.ins CWk dy []) b = some u := fun b u e => by
   rw [upd_ne (ne_of_none e hy), upd_ne (ne_of_none e hdy)]
   exact e
  refine ⟨y, l, dy, rowOf z' (tws ps) 0, rfl, upd_same, nl _ _ hL, Few.ok z', hF.sz z', fun p H2 hp hW sb => ⟨rfl, ?_⟩⟩
  have hp1 : H1 p = none := by
   cases q : H1 p with
   | none => rfl
   | some u => rw [nl _ _ q] at hp; cases hp
  refine k y p H2 (fun b u e => ?_) (s1.free hy) (s1.free hp1) hW
  have e1 := s1 _ _ e
  exact sb _ _ (nl _ _ e1) (ne_of_none e1 hy)
end
section
variable {P : Program} {w : World} {K : PySem.W.Frag} {mg : Str -> Option Value} {base : Heap}
def smallS (c : Nat) : List Nat := if isS (K01.lo c) then [K01.lo c] else []
def spSmall : Sp := fun vs H Q _ => ∃ c : Nat, vs = [.str ⟨#[c]⟩] /\ okC c = true /\ Q (.str ⟨(smallS c).toArray⟩) H
theorem scSmall : FnScope ["_law_sign", "_law_great", "_law_small_here"] ["_law_sign"] (defScope lSmall) := ⟨rfl, rfl, rfl, by decide +kernel, rfl, by decide +kernel, by decide +kernel⟩
theorem in_lit (x : String) (c : Nat) : (!(Builtin.Str.occurrences (Str.ofString x) ⟨#[c]⟩ 0 (Str.ofString x).length 1).isEmpty) = decide (c ∈ (Str.ofString x).cps.toList) := PySem.StrLaws.found_one _ _
theorem great_list : (Str.ofString "ABCDEFGHIJKLMNOPQRSTUVWXYZ").cps.toList = List.range' 65 26 := by decide +kernel
theorem small_list : (Str.ofString "abcdefghijklmnopqrstuvwxyz").cps.toList = List.range' 97 26 := by decide +kernel
theorem fig_list : (Str.ofString "0123456789").cps.toList = List.range' 48 10 := by decide +kernel
theorem find_great : ∀ c, c < 128 -> 65 <= c -> c <= 90 -> Txt.find (Str.ofString "ABCDEFGHIJKLMNOPQRSTUVWXYZ") ⟨#[c]⟩ = ((c - 65 : Nat) : Int) := by decide +kernel
seal PSs PS PE PT PA PG PI PGs PIfs in
theorem ok_small {f : Addr} {fd : FuncData} (D : Df K mg "_law_small" lSmall f fd) : FnOk P w K mg base CX0 1 f fd ["_law_sign"] spSmall := by
 refine D.F.ok scSmall (fun vs H Q E h => ?_) (fun cdv A outer s H vs Q E hr h => ?_)
 ·obtain ⟨c, rfl, _⟩ := h
  rfl
 ·obtain ⟨c, rfl, hok, k⟩ := h
  have hlt := ok_lt hok
  refine ⟨_, pss_cons (ps_set (i := 1) scSmall.nd rfl (Or.inl rfl) pe_str) (pss_cons (ps_set (i := 2) scSmall.nd rfl (Or.inl rfl) pe_str)
   (pss_cons (ps_if (pt_cmpR op_in_str (pv 0) (pv 1) rfl) (pss_one (ps_ret (pe_ix ix_str (pv 2) (pe_bm PySem.F.plainAttrs_str PySem.F.slot_str_index PySem.F.type_str_index (mt_sindex rfl) (pv 1) (pa_cons (pv 0) pa_nil)) (fun _ _ => rfl)))) pss_nil)
   (pss_cons (ps_if (PW.pt (pw_or (pt_cmpR op_in_str (pv 0) (pv 2) rfl) (pw_or1 (pt_cmpR op_in_str (pv 0) pe_str rfl)))) (pss_one (ps_ret (pv 0))) pss_nil)
   (pss_one (ps_ret pe_str))))), ?_⟩
  refine ⟨_, rfl, _, rfl, _, _, rfl, rfl, _, rfl, ?_⟩
  rw [in_lit, great_list]
  by_cases hg : 65 <= c /\ c <= 90
  ·rw [decide_eq_true (by rw [List.mem_range'_1]; (clear hlt hok; omega))]
   refine iteT ?_
   have hf := find_great c hlt hg.1 hg.2
   refine ⟨_, rfl, _, rfl, rfl, _, rfl, _, _, rfl, rfl, ?_, _, _, c + 32, rfl, rfl, by decide, ?_, ?_⟩
   ·have e := in_lit "ABCDEFGHIJKLMNOPQRSTUVWXYZ" c
    rw [great_list, decide_eq_true (by rw [List.mem_range'_1]; (clear e hf hlt hok; omega))] at e
    simpa using e
   ·rw [hf, small_list]
    refine atI_nat ?_
    rw [List.getElem?_range' (by (clear hf hlt hok; omega))]
    congr 1
    (clear hf hlt hok; omega)
   ·have e : smallS c = [c + 32] := by
     unfold smallS K01.lo
     rw [if_pos hg, if_pos]
     unfold isS
     simp only [Bool.or_eq_true, Bool.and_eq_true, decide_eq_true_eq]
     (clear hf hlt hok; omega)
    rw [e] at k
    exact k
  ·rw [decide_eq_false (by rw [List.mem_range'_1]; (clear hlt hok; omega))]
   refine iteF ?_
   have el : K01.lo c = c := by unfold K01.lo; rw [if_neg hg]
   refine ⟨_, rfl, _, rfl, _, _, rfl, rfl, _, rfl, ?_⟩
   rw [in_lit, small_list]
   by_cases hs : 97 <= c /\ c <= 122
   ·rw [decide_eq_true (by rw [List.mem_range'_1]; (clear el hg hlt hok; omega))]
    refine iteT (iteT ⟨_, rfl, ?_⟩)
    have e : smallS c = [c] := by
     unfold smallS
     rw [el, if_pos]
     unfold isS
     simp only [Bool.or_eq_true, Bool.and_eq_true, decide_eq_true_eq]
     (clear el hg hlt hok; omega)
    rw [e] at k
    exact k
   ·rw [decide_eq_false (by rw [List.mem_range'_1]; (clear el hg hlt hok; omega))]
    refine iteF ⟨_, rfl, _, _, rfl, rfl, _, rfl, ?_⟩
    rw [in_lit, fig_list]
    by_cases hd : 48 <= c /\ c <= 57
    ·rw [decide_eq_true (by rw [List.mem_range'_1]; (clear hs el hg hlt hok; omega))]
     refine iteT ⟨_, rfl, ?_⟩
     have e : smallS c = [c] := by
      unfold smallS
      rw [el, if_pos]
      unfold isS
      simp only [Bool.or_eq_true, Bool.and_eq_true, decide_eq_true_eq]
      (clear hs el hg hlt hok; omega)
     rw [e] at k
     exact k
    ·rw [decide_eq_false (by rw [List.mem_range'_1]; (clear hs el hg hlt hok; omega))]
     refine iteF ?_
     have e : smallS c = [] := by
      unfold smallS
      rw [el, if_neg]
      unfold isS
      simp only [Bool.or_eq_true, Bool.and_eq_true, decide_eq_true_eq]
      (clear el hg hlt hok; omega)
     rw [e] at k
     exact k
def spWords : Sp := fun vs H Q _ => ∃ x, vs = [.str x] /\ Drawn x /\ ∀ a H', Same H H' -> H a = none -> WL H' a (words (codes x)) -> Q (.ref a) H'
theorem scWords : FnScope ["_law_text_here", "_law_found", "_law_word", "_law_at", "_law_sign"] ["_law_text_here"] (defScope lWords) := ⟨rfl, rfl, rfl, by decide +kernel, rfl, by decide +kernel, by decide +kernel⟩
seal PSs PS PE PT PA PG PI PGs PIfs in
theorem ok_words {f fs : Addr} {fd fds : FuncData} (D : Df K mg "_law_words" lWords f fd) (DS : Df K mg "_law_small" lSmall fs fds) (T : Txt mg) : FnOk P w K mg base CX0 2 f fd ["_law_text_here"] spWords := by
 have GS : FnOk P w K mg base CX0 1 fs fds ["_law_sign"] spSmall := ok_small DS
 have bS := binds1 (p := "_law_sign") DS.F fun _ _ _ _ _ _ _ => rfl
 refine D.F.ok scWords (fun vs H Q E h => ?_) (fun cdv A outer s H vs Q E hr h => ?_)
 ·obtain ⟨x, rfl, _⟩ := h
  rfl
 ·obtain ⟨x, rfl, ⟨hlen, hok⟩, kk⟩ := h
  have hl : (sizeLine : Nat) = 16777216 := sizeLine_eq
  have clen : (codes x).length = x.length := by unfold codes; simp [Str.length]
  refine ⟨_, pss_cons (ps_set (i := 1) scWords.nd rfl (Or.inl rfl) (pe_lst pa_nil)) (pss_cons (ps_set (i := 2) scWords.nd rfl (Or.inl rfl) pe_str)
   (pss_cons (ps_for PassesOwn.never rfl (pi_range1 rfl T.range (pa_cons (pe_op op_add (pe_callB call_len_str rfl T.len b_len (pa_cons (pv 0) pa_nil)) pe_int) pa_nil)) (pg_name (i := 3) scWords.nd rfl (Or.inl rfl))
    (pss_cons (ps_set (i := 4) scWords.nd rfl (Or.inl rfl) pe_str)
    (pss_cons (ps_if (pt_cmpR op_lt (pv 3) (pe_callB call_len_str rfl T.len b_len (pa_cons (pv 0) pa_nil)) (nomark _))
     (pss_one (ps_set (i := 4) scWords.nd rfl (Or.inl rfl) (pe_call GS hr rfl DS.m DS.F.kp bS .nil pass0 (pa_cons (pe_ix ix_str (pv 0) (pv 3) (fun _ _ => rfl)) pa_nil)))) pss_nil)
    (pss_cons (ps_if (PW.pt (pw_and (pt_cmpR op_eq (pv 4) pe_str (nomark _)) (pw_and1 (pt_cmpR op_ne (pv 2) pe_str (nomark _)))))
     (pss_cons (ps_expr (pe_bm PySem.F.plainAttrs_list PySem.F.slot_list_append PySem.F.type_list_append mt_append (pv 1)
       (pa_cons (pe_tup (pa_cons (pv 2) (pa_cons (pe_op op_sub (pv 3) (pe_callB call_len_str rfl T.len b_len (pa_cons (pv 2) pa_nil))) (pa_cons (pv 3) pa_nil)))) pa_nil)))
      (pss_one (ps_set (i := 2) scWords.nd rfl (Or.inl rfl) pe_str))) pss_nil)
    (pss_one (ps_set (i := 2) scWords.nd rfl (Or.inl rfl) (pe_op op_add_str (pv 2) (pv 4))))))))
   (pss_one (ps_ret (pv 1))))), ?_⟩
  refine ⟨Nat.zero_le _, fun a ha => ?_⟩
  refine ⟨_, rfl, x, rfl, by (clear ha clen hok; omega), _, _, rfl, rfl, _, rfl, by (clear ha clen hl hok hlen; omega), by (clear ha clen hl hok; omega), ?_⟩
  have en : (((x.length : Nat) : Int) + 1).toNat = x.length + 1 := by (clear ha clen hl hok hlen; omega)
  rw [en]
  refine for_range (fun i σ H' => ∃ (ds : List Wd) (wd : List Nat) (v3 v4 : Option V), σ = [some (.str x), some (.ref a), some (.str ⟨wd.toArray⟩), v3, v4] /\ Same H H' /\ WL H' a ds /\ wd.all isS = true /\ wd.length <= i /\ ds.length <= i /\
    ((i <= x.length /\ ds ++ wgo (((codes x).map K01.lo).drop i) i wd = words (codes x)) \/ (i = x.length + 1 /\ ds = words (codes x)))) ?_ ?_ ?_
  ·exact ⟨[], [], none, none, rfl, same_upd ha, ⟨[], upd_same, .nil⟩, rfl, Nat.le_refl _, Nat.le_refl _, .inl ⟨Nat.zero_le _, rfl⟩⟩
  ·intro i σ H' hi hP
   refine genW fun B D' hB hnB => ?_
   obtain ⟨ds, wd, v3, v4, rfl, sm, hW, hwd, hwl, hdl, hm⟩ := hP
   have hm' : i <= x.length /\ ds ++ wgo (((codes x).map K01.lo).drop i) i wd = words (codes x) := by
    rcases hm with q | ⟨q, _⟩
    ·exact q
    ·(clear hdl hwl hwd en ha clen hl hok hlen; omega)
   obtain ⟨hix, heq⟩ := hm'
   have e0 : (0 : Int) + (i : Nat) = (i : Int) := by (clear heq hix hm hdl hwl hwd hi en ha clen hl hok hlen; omega)
   rw [e0]
   have rest : ∀ (sg : List Nat), ((sg = [] /\ ((i < x.length -> False) \/ ∃ c, (codes x)[i]? = some c /\ isS (K01.lo c) = false)) \/ ∃ c, (codes x)[i]? = some c /\ isS (K01.lo c) = true /\ sg = [K01.lo c]) -> sg.length <= 1 -> True := fun _ _ _ => trivial
   refine nextW (R := B) hB fun R hR => ?_
   refine nextW (R := R) hR fun R hR => ?_
   refine ⟨_, rfl, _, rfl, x, rfl, by (clear e0 heq hix hm hdl hwl hwd hi en ha clen hok; omega), _, _, rfl, rfl, _, rfl, ?_⟩
   obtain ⟨ps, eA, pA⟩ := hW.ex
   have plen := Paired.len pA
   by_cases hlt : i < x.length
   ·rw [decide_eq_true (by (clear plen eA e0 heq hix hm hdl hwl hwd hi en ha clen hl hok hlen; omega))]
    refine iteT ?_
    have hci : i < (codes x).length := by (clear plen eA e0 heq hix hm hdl hwl hwd hi en ha hl hok hlen; omega)
    have hc : (codes x)[i]? = some (codes x)[i] := List.getElem?_eq_getElem hci
    have hdrop : ((codes x).map K01.lo).drop i = K01.lo (codes x)[i] :: ((codes x).map K01.lo).drop (i + 1) := by
     rw [List.drop_eq_getElem_cons (by rw [List.length_map]; exact hci), List.getElem_map]
    have hokc : okC (codes x)[i] = true := List.all_eq_true.mp hok _ (List.getElem_mem hci)
    refine ⟨_, rfl, _, rfl, x, _, (codes x)[i], rfl, rfl, by (clear hokc hdrop hc hci hlt plen eA e0 heq hix hm hdl hwl hwd hi en ha clen hok; omega), atI_nat hc, _, rfl, hokc, ?_⟩
    refine nextW (R := R) hR fun R hR => ?_
    refine ⟨_, rfl, rfl, _, rfl, ?_⟩
    have es : decide (V.str ⟨(smallS (codes x)[i]).toArray⟩ = V.str (Str.ofString "")) = decide (smallS (codes x)[i] = []) := str_eq _ []
    rw [es]
    cases hS : isS (K01.lo (codes x)[i]) with
    | true =>
     have e1 : smallS (codes x)[i] = [K01.lo (codes x)[i]] := by unfold smallS; rw [if_pos hS]
     rw [e1, decide_eq_false (by simp)]
     refine iteF (iteF (lastW (R := R) hR ?_))
     refine ⟨_, rfl, _, rfl, _, _, rfl, rfl, ?_, ?_⟩
     ·rw [str_len', str_len']; simp; (clear e1 hS es hokc hdrop hc hci hlt plen eA e0 heq hix hm hdl hwd en ha clen hok; omega)
     ·rw [str_app]
      refine hnB _ _ ⟨ds, wd ++ [K01.lo (codes x)[i]], _, _, rfl, sm, hW, by simp [List.all_append, hwd, hS], by simp; (clear e1 hS es hokc hdrop hc hci hlt plen eA e0 heq hix hm hdl hwd hi en ha clen hl hok hlen; omega), by (clear e1 hS es hokc hdrop hc hci hlt plen eA e0 heq hix hm hwl hwd hi en ha clen hl hok hlen; omega), .inl ⟨by (clear e1 hS es hokc hdrop hc hci plen eA e0 heq hix hm hdl hwl hwd hi en ha clen hl hok hlen; omega), ?_⟩⟩
      rw [hdrop, wgo_small hS] at heq
      exact heq
    | false =>
     have e1 : smallS (codes x)[i] = [] := by unfold smallS; rw [if_neg (by rw [hS]; exact Bool.false_ne_true)]
     rw [e1, decide_eq_true rfl]
     refine iteT ⟨_, rfl, rfl, _, rfl, ?_⟩
     have ew : (!decide (V.str ⟨wd.toArray⟩ = V.str (Str.ofString ""))) = !decide (wd = []) := by rw [show decide (V.str ⟨wd.toArray⟩ = V.str (Str.ofString "")) = decide (wd = []) from str_eq _ []]
     rw [ew]
     rw [hdrop, wgo_other hS, <- List.append_assoc] at heq
     by_cases hw0 : wd = []
     ·subst hw0
      rw [decide_eq_true rfl]
      refine iteF (lastW (R := R) hR ?_)
      refine ⟨_, rfl, _, rfl, _, _, rfl, rfl, fit_app (a := []) (b := []) (by simp), ?_⟩
      rw [str_app]
      refine hnB _ _ ⟨ds, [], _, _, rfl, sm, hW, rfl, Nat.zero_le _, by (clear ew heq hm hwl hwd e1 hS es hokc hdrop hc hci hlt plen eA e0 hix hi en ha clen hl hok hlen; omega), .inl ⟨by (clear ew heq hm hwl hwd e1 hS es hokc hdrop hc hci plen eA e0 hix hdl hi en ha clen hl hok hlen; omega), ?_⟩⟩
      simpa [flush] using heq
     ·rw [decide_eq_false hw0]
      refine iteT ?_
      refine ⟨_, rfl, .inl ⟨rfl, _, SqL.of eA⟩, _, rfl, _, rfl, _, rfl, _, rfl, by rw [str_len']; (clear hw0 ew e1 hS es hokc hdrop hc heq hci hlt plen eA e0 hix hm hdl hwd en ha clen hok; omega), _, _, rfl, rfl, _, rfl, (by show 3 <= sizeLine; decide), fun t ht => ?_⟩
      have hta : a ≠ t := ne_of_none eA ht
      refine ⟨a, _, _, rfl, rfl, by rw [upd_ne hta]; exact eA, by simp; (clear hta ht hw0 ew e1 hS es hokc hdrop hc heq hci hlt eA e0 hix hm hwl hwd en ha clen hok; omega), ?_⟩
      refine lastW (R := R) hR ?_
      refine ⟨_, rfl, _, rfl, _, _, rfl, rfl, fit_app (a := []) (b := []) (by simp), ?_⟩
      have et : HO.tup [V.str ⟨wd.toArray⟩, V.int (((i : Nat) : Int) - ((Str.length ⟨wd.toArray⟩ : Nat) : Int)), V.int (i : Int)] = wdT (wd, i - wd.length, i) := by
       unfold wdT
       rw [str_len']
       show HO.tup [_, V.int _, _] = HO.tup [_, V.int ((i - wd.length : Nat) : Int), _]
       rw [show ((i : Nat) : Int) - ((wd.length : Nat) : Int) = ((i - wd.length : Nat) : Int) by (clear hta ht hw0 ew e1 hS es hokc hdrop hc heq hci hlt plen eA e0 hix hm hdl hwd hi en ha clen hl hok hlen; omega)]
      rw [et]
      have ee : (Str.ofString "" : Str) ++ ⟨([] : List Nat).toArray⟩ = ⟨([] : List Nat).toArray⟩ := str_app [] []
      refine hnB _ _ ⟨ds ++ [(wd, i - wd.length, i)], [], _, _, (by rw [ee]; rfl), same_app sm ha ht, WL.more eA pA ht, rfl, Nat.zero_le _, by simp; (clear ee et hta ht hw0 ew e1 hS es hokc hdrop hc heq hci hlt plen eA e0 hix hm hwl hwd hi en ha clen hl hok hlen; omega), .inl ⟨by (clear ee et hta ht hw0 ew e1 hS es hokc hdrop hc heq hci plen eA e0 hix hm hdl hwl hwd hi en ha clen hl hok hlen; omega), ?_⟩⟩
      have hfl : flush i wd = [(wd, i - wd.length, i)] := by unfold flush; rw [if_neg hw0]
      rw [hfl] at heq
      exact heq
   ·rw [decide_eq_false (by (clear plen eA e0 heq hix hm hdl hwl hwd hi en ha clen hl hok hlen; omega))]
    refine iteF ?_
    have hin : i = x.length := by (clear plen eA e0 heq hix hm hdl hwl hwd en ha clen hl hok hlen; omega)
    have hdrop : ((codes x).map K01.lo).drop i = [] := List.drop_of_length_le (by rw [List.length_map]; (clear hin plen eA e0 heq hix hm hdl hwl hwd hi en ha hl hok hlen; omega))
    rw [hdrop] at heq
    have heq' : ds ++ flush i wd = words (codes x) := heq
    refine nextW (R := R) hR fun R hR => ?_
    refine ⟨_, rfl, rfl, _, rfl, ?_⟩
    have es : decide (V.str (Str.ofString "") = V.str (Str.ofString "")) = true := decide_eq_true rfl
    rw [es]
    refine iteT ⟨_, rfl, rfl, _, rfl, ?_⟩
    have ew : (!decide (V.str ⟨wd.toArray⟩ = V.str (Str.ofString ""))) = !decide (wd = []) := by rw [show decide (V.str ⟨wd.toArray⟩ = V.str (Str.ofString "")) = decide (wd = []) from str_eq _ []]
    rw [ew]
    have ee : (⟨wd.toArray⟩ : Str) ++ Str.ofString "" = ⟨wd.toArray⟩ := by
     rw [empty_str, str_app, List.append_nil]
    by_cases hw0 : wd = []
    ·subst hw0
     rw [decide_eq_true rfl]
     refine iteF (lastW (R := R) hR ?_)
     refine ⟨_, rfl, _, rfl, _, _, rfl, rfl, fit_app (a := []) (b := []) (by simp), ?_⟩
     rw [ee]
     exact hnB _ _ ⟨ds, [], _, _, rfl, sm, hW, rfl, Nat.zero_le _, by (clear ee ew heq' heq hm hwl hwd es hdrop hin hlt plen eA e0 hix hi en ha clen hl hok hlen; omega), .inr ⟨by (clear ee ew heq' heq hm hwl hwd es hdrop hin plen eA e0 hix hdl en ha clen hl hok hlen; omega), by simpa [flush] using heq'⟩⟩
    ·rw [decide_eq_false hw0]
     refine iteT ?_
     refine ⟨_, rfl, .inl ⟨rfl, _, SqL.of eA⟩, _, rfl, _, rfl, _, rfl, _, rfl, by rw [str_len']; (clear hw0 ee ew es heq' hdrop hin hlt plen eA e0 heq hix hm hdl hwd en ha clen hok; omega), _, _, rfl, rfl, _, rfl, (by show 3 <= sizeLine; decide), fun t ht => ?_⟩
     have hta : a ≠ t := ne_of_none eA ht
     refine ⟨a, _, _, rfl, rfl, by rw [upd_ne hta]; exact eA, by simp; (clear hta ht hw0 ee ew es heq' hdrop hin hlt eA e0 heq hix hm hwl hwd en ha clen hok; omega), ?_⟩
     refine lastW (R := R) hR ?_
     refine ⟨_, rfl, _, rfl, _, _, rfl, rfl, fit_app (a := []) (b := []) (by simp), ?_⟩
     have et : HO.tup [V.str ⟨wd.toArray⟩, V.int (((i : Nat) : Int) - ((Str.length ⟨wd.toArray⟩ : Nat) : Int)), V.int (i : Int)] = wdT (wd, i - wd.length, i) := by
      unfold wdT
      rw [str_len']
      show HO.tup [_, V.int _, _] = HO.tup [_, V.int ((i - wd.length : Nat) : Int), _]
      rw [show ((i : Nat) : Int) - ((wd.length : Nat) : Int) = ((i - wd.length : Nat) : Int) by (clear hta ht hw0 ee ew es heq' hdrop hin hlt plen eA e0 heq hix hm hdl hwd hi en ha clen hl hok hlen; omega)]
     rw [et]
     have e2 : (Str.ofString "" : Str) ++ Str.ofString "" = ⟨([] : List Nat).toArray⟩ := str_app [] []
     have hfl : flush i wd = [(wd, i - wd.length, i)] := by unfold flush; rw [if_neg hw0]
     rw [hfl] at heq'
     exact hnB _ _ ⟨ds ++ [(wd, i - wd.length, i)], [], _, _, (by rw [e2]; rfl), same_app sm ha ht, WL.more eA pA ht, rfl, Nat.zero_le _, by simp; (clear hfl e2 et hta ht hw0 ee ew es heq' hdrop hin hlt plen eA e0 heq hix hm hwl hwd hi en ha clen hl hok hlen; omega), .inr ⟨by (clear hfl e2 et hta ht hw0 ee ew es heq' hdrop hin plen eA e0 heq hix hm hdl hwl hwd en ha clen hl hok hlen; omega), heq'⟩⟩
  ·rintro σ H' ⟨ds, wd, v3, v4, rfl, sm, hW, _, _, _, hm⟩
   rcases hm with ⟨q, _⟩ | ⟨_, q⟩
   ·(clear en ha clen hl hok hlen; omega)
   ·subst q
    exact ⟨_, rfl, kk a H' sm ha hW⟩
def dPr (x : Pr) : PyData := .tuple [.int (x.1 : Int), .tuple (dN x.2)]
def dRow (row : List Pr) : PyData := .list (row.map dPr)
theorem dt_row {H : Hp} {a : Addr} {row : List Pr} (h : RowAt H a row) : DtV K H (.ref a) (dRow row) := by
 obtain ⟨xs, e, p⟩ := h
 refine .lst (SqL.of e) ?_
 clear e
 induction p with
 | nil => exact .nil
 | cons r _ ih =>
  cases r with
  | mk h ht => exact .cons (.tup (SqT.of h) (.cons (.int _) (.cons (.tup (SqT.of ht) (dt_nl _)) .nil))) ih
theorem lay_tn : ∀ (ns : List Nat), (PyData.tuple (dN ns)).canLay0 = true
 | [] => rfl
 | n :: ns => lay_tn ns
theorem lay_pr (x : Pr) : (dPr x).canLay0 = true := by
 show ((PyData.tuple (dN x.2)).canLay0 && true) = true
 rw [lay_tn]
 rfl
theorem lay_row : ∀ (row : List Pr), (dRow row).canLay0 = true
 | [] => rfl
 | x :: r => by
  show ((dPr x).canLay0 && (dRow r).canLay0) = true
  rw [lay_pr, lay_row r]
  rfl
theorem depth_tn : ∀ ns : List Nat, (PyData.tuple (dN ns)).depth <= 2
 | [] => by decide
 | s :: ss => by
  show max 0 (PyData.depthAll (dN ss)) + 1 <= 2
  have ih : PyData.depthAll (dN ss) + 1 <= 2 := depth_tn ss
  omega
theorem depth_row : ∀ row : List Pr, (dRow row).depth <= 4
 | [] => by decide
 | x :: r => by
  show max (max 0 (max (PyData.tuple (dN x.2)).depth 0) + 1) (PyData.depthAll (r.map dPr)) + 1 <= 4
  have ih : PyData.depthAll (r.map dPr) + 1 <= 4 := depth_row r
  have := depth_tn x.2
  omega
theorem b_any : bootBuiltins "any" = some (.builtin "any") := by decide +kernel
theorem ndOne : (["_law_one"] : List Str).Nodup := by decide +kernel
structure LiA (K : PySem.W.Frag) (H : Hp) (a b : Addr) : Prop where
 ex : ∃ (xs : List V) (d : PyData), H a = some (.lst xs) /\ xs.length <= 3000 /\ (∀ x ∈ xs, Known K H x /\ isBlV x = false) /\ DtV K H (.ref a) d /\ DtV K H (.ref b) d /\ d.canLay0 = true /\ d.depth <= 10
def spLI (K : PySem.W.Frag) : Sp := fun vs H Q _ => ∃ (a b : Addr), vs = [.ref a, .ref b] /\ LiA K H a b /\ ∀ H', Same H H' -> Q (.bl true) H'
theorem scLI : FnScope ["_law_found", "_law_due"] ["_law_found", "_law_due"] (defScope lListIs) := ⟨rfl, rfl, rfl, by decide +kernel, rfl, by decide +kernel, by decide +kernel⟩
seal PSs PS PE PT PA PG PI PGs PIfs in
theorem ok_li {f : Addr} {fd : FuncData} (D : Df K mg "_law_list_is" lListIs f fd) (T : Txt mg) : FnOk P w K mg base CX0 1 f fd ["_law_found", "_law_due"] (spLI K) := by
 refine D.F.ok scLI (fun vs H Q E h => ?_) (fun cdv A outer s H vs Q E hr h => ?_)
 ·obtain ⟨a, b, rfl, _⟩ := h
  rfl
 ·obtain ⟨a, b, rfl, ⟨xs, d, hA, hl, hk, d1, d2, lay, dep⟩, kk⟩ := h
  have hz : (sizeLine : Nat) = 16777216 := sizeLine_eq
  refine ⟨_, (pss_cons (ps_if (PW.pt (pw_or (pt_not (pt_val (pe_callB (call_isiK (K := K) rfl) rfl T.isi b_isi (pa_cons (pv 0) (pa_cons (pe_bltn (v := .ty "list") rfl T.list b_list rfl) pa_nil))))) (pw_or1 (pt_cmpR (op_neD hr.units100) (pv 0) (pv 1) (nomark _))))) (pss_one (ps_ret pe_bl)) pss_nil)
   (pss_one (ps_ret (pe_not (pe_callB (call_any_bools rfl) rfl T.any b_any (pa_cons (pe_comp (own := 1) (caps := []) (N := ["_law_one"]) (N0 := ["_law_found", "_law_due"]) (sc0 := defScope lListIs) rfl (pi_list (pv 0)) (fun _ _ _ => pg_name (i := 0) ndOne rfl (Or.inl rfl)) (fun _ _ _ => pf_none) (fun _ _ _ => pe_callB (call_isiK (K := K) rfl) rfl T.isi b_isi (pa_cons (pv 0) (pa_cons (pe_bltn (v := .ty "bool") rfl T.bool b_bool rfl) pa_nil))) (gk_name (by decide)) rfl rfl
    (by decide +kernel) rfl (by decide +kernel) (by decide +kernel) rfl (by decide +kernel)) pa_nil)))))), ?_⟩
  refine ⟨_, rfl, _, _, _, _, rfl, .lst hA, .inl ⟨_, rfl, kit_ll⟩, _, rfl, iteF ⟨_, rfl, _, rfl, d, d, d1, d2, lay, lay, (by omega), _, rfl, ?_⟩⟩
  rw [eqv_same lay]
  refine iteF ⟨_, rfl, a, rfl, ⟨_, SqL.of hA⟩, ?_⟩
  refine comp_itl (xs := xs) (fun i ys H' => H' = H /\ ys = List.replicate i (V.bl false)) (by omega) (fun i ys H' q => by rw [q.1]; exact SqL.of hA) ⟨rfl, rfl⟩ ?_ ?_
  ·rintro i v ys H' N hv ⟨rfl, rfl⟩ hN
   obtain ⟨⟨n, hty⟩, hb⟩ := hk v (List.mem_of_getElem? hv)
   refine g1 ⟨_, rfl, v, .ty "bool", _, _, rfl, hty, .inl ⟨_, rfl, kit_bool hty⟩, ?_⟩
   rw [hb]
   exact hN _ _ ⟨rfl, by rw [List.replicate_succ']⟩
  ·rintro ys H' ⟨rfl, rfl⟩ _ p hp
   refine ⟨p, List.replicate xs.length false, rfl, SqL.of (by rw [upd_same, List.map_replicate]), _, rfl, ?_⟩
   have e : (List.replicate xs.length false).any id = false := by
    rw [List.any_eq_false]
    intro x hx
    rw [List.eq_of_mem_replicate hx]
    decide
   rw [e]
   exact kk _ (same_upd hp)
def tGap : TE := fun σ H Q => ∃ (t : Addr) (pl : List Nat) (j c g : Nat), σ[4]? = some (some (.ref t)) /\ σ[5]? = some (some (.int (j : Int))) /\ H t = some (.tup (nl pl)) /\ pl[j]? = some c /\ (j = 0 -> g = 0) /\ (∀ b, 0 < j -> pl[j - 1]? = some b -> g = b + 1) /\ g <= c /\ Q (.int ((c - g : Nat) : Int)) H
theorem gapL {σ : L2.St} {H : Hp} {Q : VK} (h : tGap σ H Q) : tIf (tTest (tOp rEq (tVar 5) (tC (.int 0)))) (tOp (rIxT K) (tVar 4) (tC (.int 0))) (tOp (rI0 fun i j => .int (i - j)) (tOp (rI0 fun i j => .int (i - j)) (tOp (rIxT K) (tVar 4) (tVar 5)) (tOp (rIxT K) (tVar 4) (tOp (rI0 fun i j => .int (i - j)) (tVar 5) (tC (.int 1))))) (tC (.int 1))) σ H Q := by
 obtain ⟨t, pl, j, c, g, e4, e5, ht, hc, g0, g1', hle, q⟩ := h
 refine ⟨_, e5, rfl, _, rfl, ?_⟩
 by_cases hj : j = 0
 ·subst hj
  rw [dec_i (by rfl)]
  have := g0 rfl
  subst this
  exact iteT ⟨_, e4, t, _, _, _, rfl, rfl, SqT.of ht, atI_nat (j := 0) (by unfold nl; rw [List.getElem?_map, hc]; rfl), q⟩
 ·rw [dec_n (by omega)]
  have hjl := (List.getElem?_eq_some_iff.mp hc).1
  obtain ⟨b, hb⟩ : ∃ b, pl[j - 1]? = some b := ⟨pl[j - 1]'(by omega), List.getElem?_eq_getElem (by omega)⟩
  have := g1' b (by omega) hb
  subst this
  have e : (j : Int) - 1 = ((j - 1 : Nat) : Int) := by omega
  refine iteF ⟨_, e4, _, e5, t, _, _, _, rfl, rfl, SqT.of ht, atI_nat (by unfold nl; rw [List.getElem?_map, hc]; rfl), _, e4, _, e5, _, _, rfl, rfl, t, _, _, .int (b : Int), rfl, rfl, SqT.of ht, ?_, _, _, rfl, rfl, _, _, rfl, rfl, ?_⟩
  ·rw [e]
   exact atI_nat (by unfold nl; rw [List.getElem?_map, hb]; rfl)
  ·have e2 : (c : Int) - (b : Int) - 1 = ((c - (b + 1) : Nat) : Int) := by omega
   show Q (V.int ((c : Int) - (b : Int) - 1)) H
   rw [e2]
   exact q
def spPartsL (K : PySem.W.Frag) : Sp := fun vs H Q _ => ∃ (a : Addr) (row : List Pr), vs = [.ref a] /\ RowAt H a row /\ RowOk 0 row /\ Sz row /\ (∀ x ∈ row, x.2.length <= 2000) /\ ∀ p H', Same H H' -> H p = none -> H' p = some (.lst (nl (pk (rn 0 row)))) -> Q (.ref p) H'
theorem scPt : FnScope ["_law_row", "_law_numbers", "_law_last", "_law_number_here", "_law_places", "_law_k", "_law_parts_here"] ["_law_row"] (defScope lParts) := ⟨rfl, rfl, rfl, by decide +kernel, rfl, by decide +kernel, by decide +kernel⟩
seal PSs PS PE PT PA PG PI PGs PIfs in
theorem ok_pt {f : Addr} {fd : FuncData} (D : Df K mg "_law_parts" lParts f fd) (T : Txt mg) : FnOk P w K mg base CX0 1 f fd ["_law_row"] (spPartsL K) := by
 refine D.F.ok scPt (fun vs H Q E h => ?_) (fun cdv A outer s H vs Q E hr h => ?_)
 ·obtain ⟨a, row, rfl, _⟩ := h
  rfl
 ·obtain ⟨a, row, rfl, hA, ho, hs, hpls, kk⟩ := h
  have hl : (sizeLine : Nat) = 16777216 := sizeLine_eq
  refine ⟨_, (pss_cons (ps_set (i := 1) scPt.nd rfl (Or.inl rfl) (pe_lst pa_nil))
   (pss_cons (ps_set (i := 2) scPt.nd rfl (Or.inl rfl) (pe_un un_neg pe_int))
   (pss_cons (ps_for PassesOwn.never rfl (pi_list (pv 0)) (pg_tup (n := 2) rfl (pgs_cons (pg_name (i := 3) scPt.nd rfl (Or.inl rfl)) (pgs_cons (pg_name (i := 4) scPt.nd rfl (Or.inl rfl)) pgs_nil))) (pss_cons (ps_set (i := 1) scPt.nd rfl (Or.inl rfl) (pe_op op_cat (pv 1) (pe_lst (pa_cons (pe_op op_sub (pe_op op_sub (pv 3) (pv 2)) pe_int) (pa_cons (pe_op op_sub (pe_callB call_len_seq rfl T.len b_len (pa_cons (pv 4) pa_nil)) pe_int) pa_nil)))))
   (pss_cons (ps_set (i := 2) scPt.nd rfl (Or.inl rfl) (pv 3))
   (pss_one (ps_for PassesOwn.never rfl (pi_range1 rfl T.range (pa_cons (pe_callB call_len_seq rfl T.len b_len (pa_cons (pv 4) pa_nil)) pa_nil)) (pg_name (i := 5) scPt.nd rfl (Or.inl rfl)) (pss_one (ps_expr (pe_bm PySem.F.plainAttrs_list PySem.F.slot_list_append PySem.F.type_list_append mt_append (pv 1) (pa_cons (PE.imp (t' := tGap) (pe_ifExp (pt_cmpR op_eq (pv 5) pe_int (nomark _)) (pe_ix ix_tup (pv 4) pe_int (fun _ _ => rfl)) (pe_op op_sub (pe_op op_sub (pe_ix ix_tup (pv 4) (pv 5) (fun _ _ => rfl)) (pe_ix ix_tup (pv 4) (pe_op op_sub (pv 5) pe_int) (fun _ _ => rfl))) pe_int)) fun _ _ _ => gapL) pa_nil)))))))))
   (pss_cons (ps_set (i := 6) scPt.nd rfl (Or.inl rfl) (pe_lst pa_nil))
   (pss_cons (ps_for PassesOwn.never rfl (pi_list (pv 1)) (pg_name (i := 3) scPt.nd rfl (Or.inl rfl)) (pss_cons (ps_while PassesOwn.never (pt_cmpR op_gt (pv 3) pe_int (nomark _)) (pss_cons (ps_expr (pe_bm PySem.F.plainAttrs_list PySem.F.slot_list_append PySem.F.type_list_append mt_append (pv 6) (pa_cons (pe_op op_add (pe_op op_mod (pv 3) pe_int) pe_int) pa_nil)))
   (pss_one (ps_set (i := 3) scPt.nd rfl (Or.inl rfl) (pe_op op_fdiv (pv 3) pe_int)))))
   (pss_one (ps_expr (pe_bm PySem.F.plainAttrs_list PySem.F.slot_list_append PySem.F.type_list_append mt_append (pv 6) (pa_cons (pv 3) pa_nil))))))
   (pss_one (ps_ret (pv 6)))))))), ?_⟩
  obtain ⟨xs, hX, hp⟩ := id hA
  have hxl := Gn.Paired.len hp
  have hrl := hs.l
  have hrT := hs.r
  refine ⟨(by show 0 <= sizeLine; decide), fun p0 hp0 => ?_⟩
  have s0 : Same H (upd H p0 (.lst [])) := same_upd hp0
  refine ⟨_, rfl, _, rfl, a, rfl, ⟨_, SqL.of (s0 _ _ hX)⟩, ?_⟩
  refine for_list (xs := xs) (fun i σ H' => ∃ (pN : Addr) (l : Nat) (done : List Nat) (o3 o4 o5 o6 : Option V), σ = [some (.ref a), some (.ref pN), some (.int ((l : Int) - 1)), o3, o4, o5, o6] /\ Same H H' /\ H pN = none /\ H' pN = some (.lst (nl done)) /\ rn 0 row = done ++ rn l (row.drop i) /\ RowOk l (row.drop i)) ?_ ?_ ?_ ?_
  ·exact ⟨p0, 0, [], none, none, none, none, rfl, s0, hp0, upd_same, rfl, ho⟩
  ·rintro i σ H' _ ⟨_, _, _, _, _, _, _, _, sm, _⟩
   exact SqL.of (sm _ _ hX)
  ·rintro i x σ H' hx ⟨pN, l, done, o3, o4, o5, o6, rfl, sm, hpN, hN, hrn, hok⟩
   obtain ⟨r, hri, hpr⟩ := paired_get hp hx
   rw [drop_at hri] at hrn hok
   have hk4 := hpls r (List.mem_of_getElem? hri)
   replace hpr := hpr.same sm
   cases hpr with
   | mk h ht =>
    rename_i p t n pl
    have hk4' : pl.length <= 2000 := hk4
    obtain ⟨hln, hpl0, hris⟩ := hok.head
    have hlp : 0 < pl.length := List.length_pos_iff.mpr hpl0
    have hrn' : rn 0 row = done ++ [n - l, pl.length - 1] ++ (gaps 0 pl ++ rn (n + 1) (row.drop (i + 1))) := by
     rw [hrn, List.append_assoc]
     rfl
    have hdl : done.length + 2 + pl.length <= 2000 := by
     have hrT' := hrT
     rw [hrn', List.length_append, List.length_append, List.length_append, gaps_len] at hrT'
     have : [n - l, pl.length - 1].length = 2 := rfl
     omega
    refine ⟨p, _, rfl, SqT.of h, rfl, _, _, rfl, _, _, rfl, rfl, ?_⟩
    refine ⟨_, rfl, _, rfl, _, rfl, _, _, rfl, rfl, _, _, rfl, rfl, _, rfl, t, _, rfl, .inr (SqT.of ht), _, _, rfl, rfl, (by show 2 <= sizeLine; decide), fun z hz => ?_⟩
    have e1 : nl done ++ [V.int ((n : Int) - ((l : Int) - 1) - 1), V.int (((nl pl).length : Nat) - 1)] = nl (done ++ [n - l, pl.length - 1]) := by
     rw [nl_app]
     have q1 : ((n : Int) - ((l : Int) - 1) - 1) = ((n - l : Nat) : Int) := by omega
     have q2 : ((((nl pl).length : Nat) : Int) - 1) = ((pl.length - 1 : Nat) : Int) := by rw [nl_len]; omega
     rw [q1, q2]
     rfl
    have sz := same_upd (o := .lst [V.int ((n : Int) - ((l : Int) - 1) - 1), V.int (((nl pl).length : Nat) - 1)]) hz
    refine ⟨pN, z, _, _, rfl, rfl, sz _ _ hN, upd_same, (by rw [nl_len]; show _ + 2 <= sizeLine; omega), fun pM hpM => ?_⟩
    have sM : Same H' (upd (upd H' z (.lst [V.int ((n : Int) - ((l : Int) - 1) - 1), V.int (((nl pl).length : Nat) - 1)])) pM (.lst (nl (done ++ [n - l, pl.length - 1])))) := Same.upd sz hpM
    have hM : (upd (upd H' z (.lst [V.int ((n : Int) - ((l : Int) - 1) - 1), V.int (((nl pl).length : Nat) - 1)])) pM (.lst (nl (done ++ [n - l, pl.length - 1])))) pM = some (.lst (nl (done ++ [n - l, pl.length - 1]))) := upd_same
    have hMn : H' pM = none := sz.free hpM
    have eU : upd (upd H' z (.lst [V.int ((n : Int) - ((l : Int) - 1) - 1), V.int (((nl pl).length : Nat) - 1)])) pM (.lst (nl done ++ [V.int ((n : Int) - ((l : Int) - 1) - 1), V.int (((nl pl).length : Nat) - 1)])) = upd (upd H' z (.lst [V.int ((n : Int) - ((l : Int) - 1) - 1), V.int (((nl pl).length : Nat) - 1)])) pM (.lst (nl (done ++ [n - l, pl.length - 1]))) := by rw [e1]
    show gName 1 (.ref pM) _ (upd (upd H' z (.lst [V.int ((n : Int) - ((l : Int) - 1) - 1), V.int (((nl pl).length : Nat) - 1)])) pM (.lst (nl done ++ [V.int ((n : Int) - ((l : Int) - 1) - 1), V.int (((nl pl).length : Nat) - 1)]))) _
    rw [eU]
    generalize upd (upd H' z (.lst [V.int ((n : Int) - ((l : Int) - 1) - 1), V.int (((nl pl).length : Nat) - 1)])) pM (.lst (nl (done ++ [n - l, pl.length - 1]))) = H2 at sM hM ⊢
    have ht0 := ht
    replace ht := sM _ _ ht
    refine ⟨_, rfl, _, rfl, t, _, rfl, .inr (SqT.of ht), _, rfl, by rw [nl_len]; omega, by rw [nl_len]; omega, ?_⟩
    rw [Int.toNat_natCast, nl_len]
    refine for_range (fun j σ H3 => ∃ (g : Nat) (gd : List Nat) (o5 : Option V), σ = [some (.ref a), some (.ref pM), some (.int (n : Int)), some (.int (n : Int)), some (.ref t), o5, o6] /\ Same H' H3 /\ H3 pM = some (.lst (nl (done ++ [n - l, pl.length - 1] ++ gd))) /\ gd.length = j /\ Gp pl gd g (pl.drop j) /\ (j = 0 -> g = 0) /\ (∀ b, 0 < j -> pl[j - 1]? = some b -> g = b + 1)) ?_ ?_ ?_
    ·exact ⟨0, [], _, rfl, sM, (by rw [List.append_nil]; exact hM), rfl, ⟨rfl, hris⟩, fun _ => rfl, fun b h0 => absurd h0 (Nat.lt_irrefl 0)⟩
    ·rintro j σ H3 hj ⟨g, gd, q5, rfl, sm3, hM3, hgd, hG, hg0, hg1⟩
     rw [Int.zero_add]
     obtain ⟨c, hc⟩ : ∃ c, pl[j]? = some c := ⟨pl[j], List.getElem?_eq_getElem hj⟩
     rw [drop_at hc] at hG
     obtain ⟨hle, hG'⟩ := hG.step
     refine ⟨_, rfl, .inl ⟨rfl, _, SqL.of hM3⟩, t, pl, j, c, g, rfl, rfl, sm3 _ _ ht0, hc, hg0, hg1, hle, pM, _, _, rfl, rfl, hM3, (by rw [nl_len, List.length_append, List.length_append]; show done.length + 2 + gd.length < sizeLine; omega), ?_⟩
     refine ⟨c + 1, gd ++ [c - g], _, rfl, fun b u e => ?_, ?_, by rw [List.length_append, hgd]; rfl, hG', (fun z => absurd z (Nat.succ_ne_zero _)), fun b _ hb => ?_⟩
     ·rw [upd_ne (ne_of_none e hMn)]
      exact sm3 _ _ e
     ·rw [upd_same, <- List.append_assoc, nl_app _ [c - g]]
      rfl
     ·rw [Nat.add_sub_cancel, hc] at hb
      rw [Option.some.inj hb]
    ·rintro σ H3 ⟨g, gd, q5, rfl, sm3, hM3, hgd, hG, _, _⟩
     rw [List.drop_length] at hG
     have e : gaps 0 pl = gd := by rw [hG.1]; exact List.append_nil _
     have en : ((n + 1 : Nat) : Int) - 1 = (n : Int) := by omega
     refine ⟨pM, n + 1, _, _, _, _, _, (by rw [en]), sm.trans sm3, sm.free hMn, hM3, ?_, hok.tail⟩
     rw [hrn', <- e, List.append_assoc, List.append_assoc, List.append_assoc]
  ·rintro σ H' ⟨pN, l, done, o3, o4, o5, o6, rfl, sm, hpN, hN, hrn, hok⟩
   rw [hxl, List.drop_length] at hrn
   have e : rn 0 row = done := by rw [hrn]; exact List.append_nil _
   subst e
   refine ⟨(by show 0 <= sizeLine; decide), fun p hp => ?_⟩
   have sp := same_upd (o := .lst []) hp
   have hN2 := sp _ _ hN
   refine ⟨_, rfl, pN, rfl, ⟨_, SqL.of hN2⟩, ?_⟩
   have hpk := hs.p
   have npN : pN ≠ p := ne_of_none hN hp
   refine for_list (xs := nl (rn 0 row)) (fun i σ H2 => ∃ (o3 o4 o5 : Option V) (ol : V), σ = [some (.ref a), some (.ref pN), some ol, o3, o4, o5, some (.ref p)] /\ H2 = upd H' p (.lst (nl (pk ((rn 0 row).take i))))) ?_ ?_ ?_ ?_
   ·exact ⟨_, _, _, _, rfl, rfl⟩
   ·rintro i σ H2 _ ⟨_, _, _, _, _, rfl⟩
    refine SqL.of ?_
    rw [upd_ne npN]
    exact hN
   ·rintro i x σ H2 hxi ⟨q3, q4, q5, ol, rfl, rfl⟩
    obtain ⟨n, hn, rfl⟩ := nl_get hxi
    have hsp : pk ((rn 0 row).take (i + 1)) = pk ((rn 0 row).take i) ++ pk1 n := by rw [List.take_add_one, hn, pk_app]; exact congrArg _ (pk_one n)
    have hle : (pk ((rn 0 row).take (i + 1))).length <= 3000 := by
     have e : pk (rn 0 row) = pk ((rn 0 row).take (i + 1)) ++ pk ((rn 0 row).drop (i + 1)) := by rw [<- pk_app, List.take_append_drop]
     rw [e, List.length_append] at hpk
     omega
    refine while_by (fun σ H3 => ∃ (r : Nat) (ys : List Nat), σ = [some (.ref a), some (.ref pN), some ol, some (.int r), q4, q5, some (.ref p)] /\ H3 = upd H' p (.lst (nl ys)) /\ pk ((rn 0 row).take (i + 1)) = ys ++ pk1 r) (fun σ _ => match σ with | [_, _, _, some (.int r), _, _, _] => r.toNat | _ => 0) ⟨n, _, rfl, rfl, hsp⟩ ?_ ?_
    ·rintro σ H3 ⟨r, ys, rfl, rfl, he⟩
     have hyl : ys.length <= 3000 := by rw [he, List.length_append] at hle; omega
     refine ⟨_, rfl, _, _, rfl, rfl, _, rfl, ?_⟩
     by_cases hr : (127 : Int) < r
     ·rw [decide_eq_true hr]
      refine iteT ?_
      have hr' : ¬ r < 128 := by omega
      refine ⟨_, rfl, .inl ⟨rfl, _, SqL.of upd_same⟩, ?_⟩
      refine ⟨_, rfl, _, _, rfl, rfl, (by show (0 : Int) < 128; decide), _, _, rfl, rfl, p, _, _, rfl, rfl, upd_same, (by rw [nl_len]; omega), ?_⟩
      refine ⟨_, rfl, _, _, rfl, rfl, ⟨by decide, by decide⟩, ?_⟩
      refine ⟨⟨r / 128, ys ++ [128 + r % 128], ?_, ?_, ?_⟩, ?_⟩
      ·simp only [List.set]
       have : ((r : Int) / 128) = ((r / 128 : Nat) : Int) := by omega
       rw [this]
      ·rw [upd_upd, nl_app]
       show upd H' p (.lst (nl ys ++ [V.int ((r : Int) % 128 + 128)])) = _
       have : ((r : Int) % 128 + 128) = ((128 + r % 128 : Nat) : Int) := by omega
       rw [this]
       rfl
      ·rw [he, pk1_ge hr']
       simp
      ·show ((r : Int) / 128).toNat < (r : Int).toNat
       omega
     ·rw [decide_eq_false hr]
      refine iteF ?_
      have hr' : r < 128 := by omega
      refine ⟨_, rfl, .inl ⟨rfl, _, SqL.of upd_same⟩, _, rfl, p, _, _, rfl, rfl, upd_same, (by rw [nl_len]; omega), _, _, _, _, rfl, ?_⟩
      rw [upd_upd, he, pk1_lt hr', nl_app]
      rfl
    ·intro σ H3 Q1 Q2 hq h
     obtain ⟨x, h1, i, j, e1, e2, h2⟩ := h
     exact ⟨x, h1, i, j, e1, e2, let ⟨b, e, z⟩ := h2; ⟨b, e, hq _ _ z⟩⟩
   ·rintro σ H2 ⟨q3, q4, q5, ol, rfl, rfl⟩
    refine ⟨_, rfl, kk p _ (sm.trans (same_upd hp)) (sm.free hp) ?_⟩
    rw [upd_same, nl_len, List.take_length]
end
section
variable {P : Program} {w : World} {K : PySem.W.Frag} {mg : Str -> Option Value} {base : Heap}
theorem ndKw : (["_law_k", "_law_word", "_law_words_here"] : List Str).Nodup := by decide +kernel
theorem nl_snoc (a : List Nat) (n : Nat) : nl (a ++ [n]) = nl a ++ [V.int (n : Int)] := by rw [nl_app]; rfl
theorem rowOf_last (w : Str) {t : List (List Str)} (h : rowOf w t 0 ≠ []) : ∃ r x, rowOf w t 0 = r ++ [x] /\ x.1 < t.length := by
 refine ⟨(rowOf w t 0).dropLast, (rowOf w t 0).getLast h, (List.dropLast_concat_getLast h).symm, ?_⟩
 obtain ⟨j, ws, h1, _, h3⟩ := rowOf_mem w t 0 _ (List.getLast_mem h)
 rw [h3]
 have := (List.getElem?_eq_some_iff.mp h1).1
 show 0 + j < t.length
 omega
theorem PT.imp {X : Cx} {e : Expr} {t t' : TT} (h : PT X e t) (i : ∀ σ H Q, t' σ H Q -> t σ H Q) : PT X e t' := fun pins s σ H Q I q => h pins s σ H Q I (i σ H Q q)
def missB (row : List Pr) (i : Nat) : Bool := match row.getLast? with
 | none => true
 | some x => !decide (x.1 = i)
def tMiss : TT := fun σ H Q => ∃ (p : Addr) (row : List Pr) (i : Nat), σ[6]? = some (some (.ref p)) /\ σ[2]? = some (some (.int (i : Int))) /\ RowAt H p row /\ ∀ H', Same H H' -> Q (missB row i) H'
theorem row_split {H : Hp} {ys : List V} {row : List Pr} {x : Pr} (h : Paired (PrAt H) ys (row ++ [x])) : ∃ y0 yl, ys = y0 ++ [yl] /\ PrAt H yl x := by
 have hl' := Gn.Paired.len h
 rw [List.length_append] at hl'
 have l1 : [x].length = 1 := rfl
 obtain ⟨v, hv, hvp⟩ := Gn.Paired.at h (i := row.length) (b := x) (by simp)
 have hlen : row.length = ys.length - 1 := by omega
 have hne : ys ≠ [] := fun z => by rw [z] at hv; cases hv
 refine ⟨ys.dropLast, v, ?_, hvp⟩
 rw [hlen] at hv
 have := List.getLast?_eq_getElem? (l := ys)
 rw [hv, List.getLast?_eq_some_getLast hne] at this
 rw [<- Option.some.inj this]
 exact (List.dropLast_concat_getLast hne).symm
def spRowsL : Sp := fun vs H Q _ => ∃ (a : Addr) (xs : List V) (ps : List (Str × Str)), vs = [.ref a] /\ H a = some (.lst xs) /\ PairsV H xs (ps.map kp) /\ (∀ p ∈ ps, txtV (.str p.2) = true) /\ Few (tws ps) /\
 ∀ d es H', Same H H' -> H d = none -> DL H H' d es (FR (tws ps)) -> (∀ x, x ∈ es.map (·.1) ↔ ∃ ws ∈ tws ps, x ∈ ws) -> Q (.ref d) H'
theorem scRw : FnScope ["_law_pairs_here", "_law_rows_here", "_law_number_here", "_law_pair", "_law_words_here", "_law_word", "_law_row"] ["_law_pairs_here"] (defScope lRows) := ⟨rfl, rfl, rfl, by decide +kernel, rfl, by decide +kernel, by decide +kernel⟩
seal PSs PS PE PT PA PG PI PGs PIfs in
theorem ok_rw {f fw : Addr} {fd fdw : FuncData} (D : Df K mg "_law_rows" lRows f fd) (DW : Df K mg "_law_words" lWords fw fdw) (GW : FnOk P w K mg base CX0 2 fw fdw ["_law_text_here"] spWords) (T : Txt mg) : FnOk P w K mg base CX0 3 f fd ["_law_pairs_here"] spRowsL := by
 have bW := binds1 (p := "_law_text_here") DW.F fun _ _ _ _ _ _ _ => rfl
 refine D.F.ok scRw (fun vs H Q E h => ?_) (fun cdv A outer s H vs Q E hr h => ?_)
 ·obtain ⟨a, xs, ps, rfl, _⟩ := h
  rfl
 ·obtain ⟨a, xs, ps, rfl, hA, hP, hT, hFew, k⟩ := h
  have hl : (sizeLine : Nat) = 16777216 := sizeLine_eq
  have hxl := Gn.Paired.len hP
  have hfl := hFew.l
  have hft := hFew.t
  refine ⟨_, (pss_cons (ps_set (i := 1) scRw.nd rfl (Or.inl rfl) pe_dnewK)
   (pss_cons (ps_for PassesOwn.never rfl (pi_enumL rfl T.enum (pa_cons (pv 0) pa_nil)) (pg_tup (n := 2) rfl (pgs_cons (pg_name (i := 2) scRw.nd rfl (Or.inl rfl)) (pgs_cons (pg_name (i := 3) scRw.nd rfl (Or.inl rfl)) pgs_nil))) (pss_cons (ps_set (i := 4) scRw.nd rfl (Or.inr rfl) (pe_comp (own := 1) (caps := []) (N := ["_law_one"]) (N0 := ["_law_pairs_here", "_law_rows_here", "_law_number_here", "_law_pair", "_law_words_here", "_law_word", "_law_row"]) (sc0 := defScope lRows) rfl (pi_list (pe_call (GW.mono (by decide)) hr rfl DW.m DW.F.kp bW .nil pass0 (pa_cons (pe_ix ix_tup (pv 3) pe_int (fun _ _ => rfl)) pa_nil))) (fun _ _ _ => pg_name (i := 0) ndOne rfl (Or.inl rfl)) (fun _ _ _ => pf_none) (fun _ _ _ => pe_ix (ix_tupK (K := K) rfl) (pv 0) pe_int (fun _ _ => rfl)) (gk_name (by decide)) rfl rfl
    (by decide +kernel) rfl (by decide +kernel) (by decide +kernel) rfl (by decide +kernel)))
   (pss_one (ps_for PassesOwn.never rfl (pi_list (pv 4)) (pg_name (i := 5) scRw.nd rfl (Or.inr rfl)) (pss_cons (ps_set (i := 6) scRw.nd rfl (Or.inl rfl) (PE.imp (t' := tGet 1 5) (pe_bm PySem.F.plainAttrs_dict PySem.F.slot_dict_setdefault PySem.F.type_dict_setdefault mt_setd (pv 1) (pa_cons (pv 5) (pa_cons (pe_lst pa_nil) pa_nil))) fun _ _ _ => getL))
   (pss_one (ps_if (PT.imp (t' := tMiss) (PW.pt (pw_or (pt_cmpR (op_eqD hr.units100) (pv 6) (pe_lst pa_nil) (nomark _)) (pw_or1 (pt_cmpR op_ne (pe_ix ix_tup (pe_ix ix_list (pv 6) (pe_un un_neg pe_int) (fun _ _ => rfl)) pe_int (fun _ _ => rfl)) (pv 2) (nomark _))))) (fun σ H Q h => by
     obtain ⟨p, row, i, e6, e2, hR, kq⟩ := h
     obtain ⟨ys, hys, hpr⟩ := id hR
     refine ⟨_, e6, Nat.zero_le _, fun q0 hq0 => ?_⟩
     have s6 : Same H (upd H q0 (.lst [])) := same_upd hq0
     have z6 : upd H q0 (.lst []) q0 = some (.lst []) := upd_same
     generalize upd H q0 (.lst []) = H6 at s6 z6 ⊢
     refine ⟨dRow row, .list [], dt_row (hR.same s6), .lst (SqL.of z6) .nil, lay_row _, rfl, Nat.le_trans (Nat.min_le_right _ _) (by decide), _, rfl, ?_⟩
     have kq' := kq _ s6
     rcases List.eq_nil_or_concat row with rfl | ⟨r, x, e⟩
     ·exact iteT kq'
     ·rw [List.concat_eq_append] at e
      subst e
      have ne0 : PyData.eqv (dRow (r ++ [x])) (.list []) = false := by cases r <;> rfl
      rw [ne0]
      obtain ⟨y0, yl, rfl, hlast⟩ := row_split hpr
      have hlast6 := hlast.same s6
      have eB : missB (r ++ [x]) i = !decide (x.1 = i) := by unfold missB; rw [List.getLast?_concat]
      rw [eB] at kq'
      cases hlast6 with
      | mk hq ht' =>
       refine iteF ⟨_, e6, _, rfl, p, _, _, _, rfl, rfl, SqL.of (s6 _ _ hys), atI_last _ _, _, _, _, _, rfl, rfl, SqT.of hq, atI_nat (j := 0) rfl, _, e2, rfl, _, rfl, ?_⟩
       rename_i p2 t2 n pl
       by_cases en : n = i
       ·rw [dec_i (by omega)]
        rw [decide_eq_true (show (n, pl).1 = i from en)] at kq'
        exact kq'
       ·rw [dec_n (by omega)]
        rw [decide_eq_false (show ¬ (n, pl).1 = i from en)] at kq'
        exact kq' )) (pss_one (ps_expr (pe_bm PySem.F.plainAttrs_list PySem.F.slot_list_append PySem.F.type_list_append mt_append (pv 6) (pa_cons (pe_tup (pa_cons (pv 2) (pa_cons (pe_callTy call_tuple_of rfl T.tuple b_tuple (pa_cons (pe_comp (own := 1) (caps := [5, 4]) (N := ["_law_k", "_law_word", "_law_words_here"]) (N0 := ["_law_pairs_here", "_law_rows_here", "_law_number_here", "_law_pair", "_law_words_here", "_law_word", "_law_row"]) (sc0 := defScope lRows) rfl (pi_range1 rfl T.range (pa_cons (pe_callB call_len_seq rfl T.len b_len (pa_cons (pv 4) pa_nil)) pa_nil)) (fun _ _ _ => pg_name (i := 0) ndKw rfl (Or.inl rfl)) (fun _ _ _ => pf_one (pt_cmpR op_eq (pe_ix (ix_listK (K := K) rfl) (pv 2) (pv 0) (fun _ _ => rfl)) (pv 1) (nomark _))) (fun _ _ _ => pv 0) (gk_name (by decide)) rfl rfl
    (by decide +kernel) rfl (by decide +kernel) (by decide +kernel) rfl (by decide +kernel)) pa_nil)) pa_nil))) pa_nil)))) pss_nil)))))))
   (pss_one (ps_ret (pv 1))))), ?_⟩
  intro d hd
  refine ⟨_, rfl, a, xs, rfl, same_upd hd _ _ hA, ?_⟩
  refine for_iel (xs := xs) (fun i σ H' => ∃ (es : En) (o2 o3 o4 o5 o6 : Option V), σ = [some (.ref a), some (.ref d), o2, o3, o4, o5, o6] /\ Same H H' /\ DL H H' d es (FR ((tws ps).take i)) /\ es.length <= tot ((tws ps).take i) /\ (∀ x, x ∈ es.map (·.1) ↔ ∃ ws ∈ (tws ps).take i, x ∈ ws)) ?_ ?_ ?_ ?_
  ·exact ⟨[], none, none, none, none, none, rfl, same_upd hd, ⟨upd_same, List.nodup_nil, List.nodup_nil, (fun e he => nomatch he), (fun e he => nomatch he)⟩, Nat.le_refl _, fun x => by simp⟩
  ·rintro i σ H' _ ⟨_, _, _, _, _, _, _, sm, _⟩
   exact sm _ _ hA
  ·rintro i x σ H' t hx ⟨es, o2, o3, o4, o5, o6, rfl, sm, hD, hel, hin⟩ ht
   obtain ⟨kt, hkt, pp, rfl, hpp⟩ := paired_get hP hx
   rw [List.getElem?_map] at hkt
   obtain ⟨pr, hpr, e⟩ := Option.map_eq_some_iff.mp hkt
   subst e
   have hdr : Drawn pr.2 := txt_drawn (hT pr (List.mem_of_getElem? hpr))
   have hws : (tws ps)[i]? = some (tw pr.2) := by unfold tws; rw [List.getElem?_map, hpr]; rfl
   have st : Same H' (upd H' t (.tup [.int i, .ref pp])) := same_upd ht
   refine ⟨t, _, rfl, SqT.of upd_same, rfl, _, _, rfl, _, _, rfl, rfl, ?_⟩
   generalize upd H' t (.tup [.int i, .ref pp]) = H1 at st ⊢
   have sm1 := sm.trans st
   have hwl : (tw pr.2).length <= 330 := by have := tot_mem (List.mem_of_getElem? hws); omega
   refine ⟨_, rfl, pp, _, _, _, rfl, rfl, SqT.of (sm1 _ _ hpp), atI_nat (j := 1) rfl, pr.2, rfl, hdr, fun wa H2 s2 hwa hW => ?_⟩
   have sm2 := sm1.trans s2
   obtain ⟨us, eU, pU⟩ := hW.ex
   have ul := Gn.Paired.len pU
   have twl : (tw pr.2).length = (words (codes pr.2)).length := List.length_map _
   refine ⟨wa, rfl, ⟨_, SqL.of eU⟩, ?_⟩
   refine comp_itl (xs := us.map V.ref) (fun j ys H3 => H2 = H3 /\ ys = sl ((tw pr.2).take j)) (by rw [List.length_map]; omega) (fun j ys H3 q => by rw [<- q.1]; exact SqL.of eU) ⟨rfl, rfl⟩ ?_ ?_
   ·rintro j v ys H3 N hv ⟨rfl, rfl⟩ hN
    rw [List.getElem?_map] at hv
    obtain ⟨u, hu, rfl⟩ := Option.map_eq_some_iff.mp hv
    obtain ⟨y, hy, hyt⟩ := paired_get pU hu
    have hty : (tw pr.2)[j]? = some ⟨y.1.toArray⟩ := by unfold tw; rw [List.getElem?_map, hy]; rfl
    refine g1 ⟨_, rfl, u, _, _, _, rfl, rfl, SqT.of hyt, atI_nat (j := 0) rfl, ?_⟩
    exact hN _ _ ⟨rfl, by rw [take_snoc hty]; unfold sl; rw [List.map_append]; rfl⟩
   ·rintro ys H3 ⟨rfl, rfl⟩ _ pw hpw
    have ll : (us.map V.ref).length = (tw pr.2).length := by rw [List.length_map]; omega
    rw [ll, List.take_of_length_le (Nat.le_refl _)]
    have s3 : Same H2 (upd H2 pw (.lst (sl (tw pr.2)))) := same_upd hpw
    have epw : upd H2 pw (.lst (sl (tw pr.2))) pw = some (.lst (sl (tw pr.2))) := upd_same
    generalize upd H2 pw (.lst (sl (tw pr.2))) = H3 at s3 epw ⊢
    have sm3 := sm2.trans s3
    have s13 := (st.trans s2).trans s3
    generalize hgw : tw pr.2 = ws at *
    refine ⟨_, rfl, pw, rfl, ⟨_, SqL.of epw⟩, ?_⟩
    have e1 : (tws ps).take (i + 1) = (tws ps).take i ++ [ws] := take_snoc hws
    have e2 : ((tws ps).take i).length = i := len_take hws
    have row_in : ∀ u, u ∈ ws -> rowOf u ((tws ps).take (i + 1)) 0 = rowOf u ((tws ps).take i) 0 ++ [(i, plc u ws 0)] := fun u hu' => by
     rw [e1, rowOf_snoc, if_pos hu', e2, Nat.zero_add]
    have row_out : ∀ u, u ∉ ws -> rowOf u ((tws ps).take (i + 1)) 0 = rowOf u ((tws ps).take i) 0 := fun u hu' => by
     rw [e1, rowOf_snoc, if_neg hu', List.append_nil]
    have hpw0 : H pw = none := sm2.free hpw
    have hpe0 : ∀ e ∈ es, e.2 ≠ pw := fun e he z => by
     obtain ⟨ys, h1, _⟩ := hD.f e he
     have := (st.trans s2) _ _ h1
     rw [z, hpw] at this
     cases this
    refine for_list (xs := sl ws) (fun j σ H4 => ∃ (es : En) (o5 o6 : Option V), σ = [some (.ref a), some (.ref d), some (.int (i : Int)), some (.ref pp), some (.ref pw), o5, o6] /\ Same H H4 /\ H4 pw = some (.lst (sl ws)) /\ (∀ e ∈ es, e.2 ≠ pw) /\
     DL H H4 d es (FM ((tws ps).take i) ((tws ps).take (i + 1)) (ws.take j)) /\ es.length <= tot ((tws ps).take i) + j /\ (∀ x, x ∈ es.map (·.1) ↔ (∃ ws' ∈ (tws ps).take i, x ∈ ws') \/ x ∈ ws.take j)) ?_ ?_ ?_ ?_
    ·refine ⟨es, _, _, rfl, sm3, epw, hpe0, ⟨s13 _ _ hD.d, hD.k, hD.a, hD.n, fun e he => ?_⟩, hel, fun x => by rw [hin]; simp⟩
     show RowAt _ e.2 (mid _ _ _ e.1)
     rw [mid_no (by simp)]
     have hR : RowAt H' e.2 (rowOf e.1 ((tws ps).take i) 0) := hD.f e he
     exact hR.same s13
    ·rintro j σ H4 _ ⟨_, _, _, _, _, h, _⟩
     exact SqL.of h
    ·rintro j v σ H4 hv ⟨es, o5, o6, rfl, sm4, hpw4, hpe, hD, hel, hin⟩
     obtain ⟨x, hxj, rfl⟩ := sl_get hv
     have hxw : x ∈ ws := List.mem_of_getElem? hxj
     have hks : ws.take (j + 1) = ws.take j ++ [x] := take_snoc hxj
     have hjl := (List.getElem?_eq_some_iff.mp hxj).1
     have htk := tot_take (tws ps) i
     have hls : ∀ e' ∈ es, ∃ l, H4 e'.2 = some (.lst l) := fun e' he' => let ⟨ys, h1, _⟩ := hD.f e' he'; ⟨ys, h1⟩
     refine ⟨H, d, es, x, FM ((tws ps).take i) ((tws ps).take (i + 1)) (ws.take j), rfl, rfl, hD, by omega, fun z hz => sm4.free hz, hls, ?_, ?_, ?_⟩
     ·intro G b y l sb hb hf
      exact RowAt.but hf sb (fun q => by rw [q, hD.d] at hb; cases hb) fun ts q => by rw [hD.d] at q; cases q
     ·intro G z hn hz
      refine ⟨[], hz, ?_⟩
      rw [mid_no (fun q => hn ((hin x).mpr (.inr q))), (rowOf_nil x _ 0).mpr fun ws' hw' q => hn ((hin x).mpr (.inl ⟨ws', hw', q⟩))]
      exact .nil
     ·rintro p es' H5 sb hD5 hp hor ⟨l, hpl⟩
      have ndw : pw ≠ d := fun q => by rw [q, hD.d] at hpw4; cases hpw4
      have hpw5 := sb _ _ hpw4 ndw
      have sm5 : Same H H5 := fun b u q => sb _ _ (sm4 _ _ q) (ne_of_none q hd)
      have hpe5 : ∀ e2 ∈ es', e2.2 ≠ pw := fun e2 he2 => by
       rcases hor with rfl | ⟨_, rfl, hnp⟩
       ·exact hpe e2 he2
       ·rcases List.mem_append.mp he2 with he2 | he2
        ·exact hpe e2 he2
        ·rw [List.mem_singleton.mp he2]
         exact (ne_of_none hpw4 hnp).symm
      have hel5 : es'.length <= tot ((tws ps).take i) + (j + 1) := by
       rcases hor with rfl | ⟨_, rfl, _⟩
       ·omega
       ·rw [List.length_append]
        show es.length + 1 <= _
        omega
      have hin5 : ∀ y, y ∈ es'.map (·.1) ↔ (∃ ws' ∈ (tws ps).take i, y ∈ ws') \/ y ∈ ws.take (j + 1) := fun y => by
       have hm : y ∈ es'.map (·.1) ↔ y ∈ es.map (·.1) \/ y = x := by
        rcases hor with rfl | ⟨_, rfl, _⟩
        ·exact ⟨.inl, fun q => q.elim id fun z => by rw [z]; exact List.mem_map.mpr ⟨_, hp, rfl⟩⟩
        ·rw [List.map_append, List.mem_append]
         show (_ \/ y ∈ [x]) ↔ _
         rw [List.mem_singleton]
       rw [hm, hin, hks, List.mem_append, List.mem_singleton, or_assoc]
      have hRp : RowAt H5 p (mid ((tws ps).take i) ((tws ps).take (i + 1)) (ws.take j) x) := hD5.f _ hp
      obtain ⟨ys, hys, hpr'⟩ := id hRp
      refine ⟨p, _, i, rfl, rfl, hRp, fun H6 s6 => ?_⟩
      by_cases hxk : x ∈ ws.take j
      ·
       have em : mid ((tws ps).take i) ((tws ps).take (i + 1)) (ws.take j) x = rowOf x ((tws ps).take i) 0 ++ [(i, plc x ws 0)] := by
        show (if x ∈ ws.take j then _ else _) = _
        rw [if_pos hxk, row_in x hxw]
       have eB : missB (mid ((tws ps).take i) ((tws ps).take (i + 1)) (ws.take j) x) i = false := by
        rw [em]
        unfold missB
        rw [List.getLast?_concat]
        simp
       rw [eB]
       refine iteF ⟨es', _, _, rfl, sm5.trans s6, s6 _ _ hpw5, hpe5, ⟨s6 _ _ hD5.d, hD5.k, hD5.a, hD5.n, fun e he => ?_⟩, hel5, hin5⟩
       show RowAt _ e.2 (mid _ _ _ e.1)
       have hR : RowAt H5 e.2 (mid ((tws ps).take i) ((tws ps).take (i + 1)) (ws.take j) e.1) := hD5.f e he
       by_cases hex : e.1 = x
       ·rw [hex] at hR ⊢
        rw [hks, mid_eq, row_in x hxw, <- em]
        exact hR.same s6
       ·rw [hks, mid_ne hex]
        exact hR.same s6
      ·have em : mid ((tws ps).take i) ((tws ps).take (i + 1)) (ws.take j) x = rowOf x ((tws ps).take i) 0 := mid_no hxk
       have eB : missB (mid ((tws ps).take i) ((tws ps).take (i + 1)) (ws.take j) x) i = true := by
        rw [em]
        unfold missB
        by_cases h0 : rowOf x ((tws ps).take i) 0 = []
        ·rw [h0]; rfl
        ·obtain ⟨r, y, e, hlt⟩ := rowOf_last x h0
         rw [e, List.getLast?_concat]
         rw [e2] at hlt
         show (!decide (y.1 = i)) = true
         rw [decide_eq_false (by omega)]
         rfl
       rw [eB]
       rw [em] at hpr'
       have hyl : ys.length <= 300 := by
        have h1 := Gn.Paired.len hpr'
        have h2 := (rowOf_len x ((tws ps).take i) 0).1
        have h3 := (List.getElem?_eq_some_iff.mp hws).1
        rw [h1]
        omega
       have hpw6 := s6 _ _ hpw5
       have hwsl : (sl ws).length = ws.length := List.length_map _
       refine iteT ⟨_, rfl, .inl ⟨rfl, _, SqL.of (s6 _ _ hys)⟩, _, rfl, _, rfl, pw, _, rfl, .inl (SqL.of hpw6), _, rfl, by rw [hwsl]; omega, by rw [hwsl]; omega, ?_⟩
       rw [Int.toNat_natCast, hwsl]
       refine comp_itr (fun m zs H7 => H6 = H7 /\ zs = nl (plc x (ws.take m) 0)) (by omega) ⟨rfl, rfl⟩ ?_ ?_
       ·rintro m zs H7 N hm ⟨rfl, rfl⟩ hN
        rw [Int.zero_add]
        obtain ⟨y, hy⟩ : ∃ y, ws[m]? = some y := ⟨ws[m], List.getElem?_eq_getElem hm⟩
        have hml : (ws.take m).length = m := len_take hy
        have ep : plc x (ws.take (m + 1)) 0 = plc x (ws.take m) 0 ++ (if y = x then [m] else []) := by
         rw [take_snoc hy, plc_snoc, hml, Nat.zero_add]
        refine ⟨_, rfl, _, rfl, pw, _, _, .str y, rfl, rfl, SqL.of hpw6, atI_nat (by rw [List.getElem?_map, hy]; rfl), _, rfl, rfl, _, rfl, ?_⟩
        by_cases hyx : y = x
        ·rw [decide_eq_true (show V.str y = V.str x by rw [hyx])]
         rw [if_pos hyx] at ep
         exact iteT ⟨_, rfl, hN _ _ ⟨rfl, by rw [ep, nl_snoc]⟩⟩
        ·rw [decide_eq_false (show ¬ V.str y = V.str x from fun z => hyx (by injection z))]
         rw [if_neg hyx, List.append_nil] at ep
         exact iteF (hN _ _ ⟨rfl, by rw [ep]⟩)
       ·rintro zs H7 ⟨rfl, rfl⟩ _ pl hpl'
        rw [List.take_length]
        have s7 : Same H6 (upd H6 pl (.lst (nl (plc x ws 0)))) := same_upd hpl'
        have e7 : upd H6 pl (.lst (nl (plc x ws 0))) pl = some (.lst (nl (plc x ws 0))) := upd_same
        generalize upd H6 pl (.lst (nl (plc x ws 0))) = H7 at s7 e7 ⊢
        refine ⟨pl, _, rfl, .inl ⟨SqL.of e7, fun pt hpt => ⟨(by show 2 <= sizeLine; decide), fun pq hpq => ?_⟩⟩⟩
        have s8 : Same H7 (upd H7 pt (.tup (nl (plc x ws 0)))) := same_upd hpt
        have h8 : (upd H7 pt (.tup (nl (plc x ws 0)))) pt = some (.tup (nl (plc x ws 0))) := upd_same
        generalize upd H7 pt (.tup (nl (plc x ws 0))) = H8 at s8 h8 hpq ⊢
        have s9 : Same H8 (upd H8 pq (.tup [.int (i : Int), .ref pt])) := same_upd hpq
        have h9 : (upd H8 pq (.tup [.int (i : Int), .ref pt])) pq = some (.tup [.int (i : Int), .ref pt]) := upd_same
        generalize upd H8 pq (.tup [.int (i : Int), .ref pt]) = H9 at s9 h9 ⊢
        have s59 := ((s6.trans s7).trans s8).trans s9
        have hv9 : PrAt H9 (.ref pq) (i, plc x ws 0) := .mk h9 (s9 _ _ h8)
        have hpr9 : Paired (PrAt H9) ys (rowOf x ((tws ps).take i) 0) := Gn.Paired.imp2 hpr' fun _ _ q => q.same s59
        have hp9 := s59 _ _ hys
        refine ⟨p, ys, _, rfl, rfl, hp9, by omega, ?_⟩
        have sbp : SameBut p H5 (upd H9 p (.lst (ys ++ [.ref pq]))) := fun b u q hb => by rw [upd_ne hb]; exact s59 _ _ q
        have hRn := RowAt.snoc hp9 hpr9 hv9
        generalize upd H9 p (.lst (ys ++ [.ref pq])) = Hn at sbp hRn ⊢
        have npp : d ≠ p := fun q => by rw [<- q, hD5.d] at hys; cases hys
        have nt : ∀ ts, H5 p ≠ some (.tup ts) := fun ts q => by rw [hys] at q; cases q
        refine ⟨es', _, _, rfl, fun b u q => ?_, ?_, hpe5, hD5.put hp (sbp _ _ hD5.d npp) (fun e' he' n1 n2 hf => ?_) ?_, hel5, hin5⟩
        ·exact sbp _ _ (sm5 _ _ q) (ne_of_none q (hD5.n _ hp))
        ·exact sbp _ _ hpw5 (hpe5 _ hp).symm
        ·show RowAt Hn e'.2 (mid _ _ _ e'.1)
         rw [hks, mid_ne n1]
         exact RowAt.but hf sbp n2 nt
        ·show RowAt Hn p (mid _ _ _ x)
         rw [hks, mid_eq, row_in x hxw]
         exact hRn
    ·rintro σ H4 ⟨es, o5, o6, rfl, sm4, hpw4, hpe, hD, hel, hin⟩
     have eT : ws.take (sl ws).length = ws := by unfold sl; rw [List.length_map, List.take_length]
     rw [eT] at hD hin
     refine ⟨es, _, _, _, _, _, rfl, sm4, ⟨hD.d, hD.k, hD.a, hD.n, fun e he => ?_⟩, ?_, fun x => ?_⟩
     ·have hR : RowAt H4 e.2 (mid ((tws ps).take i) ((tws ps).take (i + 1)) ws e.1) := hD.f e he
      show RowAt H4 e.2 (rowOf e.1 ((tws ps).take (i + 1)) 0)
      by_cases hew : e.1 ∈ ws
      ·rw [show mid ((tws ps).take i) ((tws ps).take (i + 1)) ws e.1 = rowOf e.1 ((tws ps).take (i + 1)) 0 from if_pos hew] at hR
       exact hR
      ·rw [mid_no hew] at hR
       rw [row_out e.1 hew]
       exact hR
     ·rw [e1, tot_app]
      unfold sl at hel
      rw [List.length_map] at hel
      exact hel
     ·rw [hin, e1]
      constructor
      ·rintro (⟨ws', h1, h2⟩ | h)
       ·exact ⟨ws', List.mem_append_left _ h1, h2⟩
       ·exact ⟨ws, List.mem_append_right _ (List.mem_singleton.mpr rfl), h⟩
      ·rintro ⟨ws', h1, h2⟩
       rcases List.mem_append.mp h1 with q | q
       ·exact .inl ⟨ws', q, h2⟩
       ·rw [List.mem_singleton.mp q] at h2
        exact .inr h2
  ·rintro σ H' ⟨es, o2, o3, o4, o5, o6, rfl, sm, hD, hel, hin⟩
   have eT : (tws ps).take xs.length = tws ps := by
    have : xs.length = (tws ps).length := by rw [hxl, List.length_map]; unfold tws; rw [List.length_map]
    rw [this, List.take_length]
   rw [eT] at hD hin
   exact ⟨_, rfl, k d es H' sm hd hD hin⟩
end
section
variable {P : Program} {w : World} {K : PySem.W.Frag} {mg : Str -> Option Value} {base : Heap}
theorem ndK : (["_law_k"] : List Str).Nodup := by decide +kernel
theorem op_inK {X : Cx} {K : PySem.W.Frag} (h : X.K = K) : OpR X (compareOp .In) (rIn K false) := by subst h; exact op_in_seq
def qS : Str := Txt.mul (Str.ofString "q ") 200 ++ Str.ofString "z q"
def farK (k : Nat) : Str × Str := (Str.ofString "far" ++ Str.ofString (toString (k : Int)), if k = 0 \/ k = 139 then Str.ofString "z p" else Str.ofString "p")
def farP (c : Int) : List (Str × Str) := if c = 1 then [(Str.ofString "long", qS)] else if c = 2 then (List.range 140).map farK else []
theorem inV_far : ∀ k : Nat, k < 140 -> inV (.int (k : Int)) [.int 0, .int 139] = decide (k = 0 \/ k = 139) := by decide +kernel
theorem far_len : ∀ k : Nat, k < 140 -> (Str.ofString (toString (k : Int))).length <= 3 := by decide +kernel
theorem q_mul : MulOk (Str.ofString "q ") 200 := ⟨by decide +kernel, fun _ _ => by decide +kernel, fun _ _ => by decide +kernel⟩
theorem q_len : (Txt.mul (Str.ofString "q ") 200).length = 400 := by decide +kernel
theorem prs_cons {H : Hp} {p : Addr} {q : Str × Str} (hp : H p = some (.tup [.str q.1, .str q.2])) : PairsV H [.ref p] ([q].map kp) := .cons ⟨p, rfl, hp⟩ .nil
def spFar : Sp := fun vs H Q _ => ∃ c : Int, vs = [.int c] /\ ∀ l xs H', Same H H' -> H l = none -> H' l = some (.lst xs) -> PairsV H' xs ((farP c).map kp) -> Q (.ref l) H'
theorem scFar : FnScope ["_law_kind"] ["_law_kind"] (defScope lFar) := ⟨rfl, rfl, rfl, by decide +kernel, rfl, by decide +kernel, by decide +kernel⟩
seal PSs PS PE PT PA PG PI PGs PIfs in
theorem ok_far {f : Addr} {fd : FuncData} (D : Df K mg "_law_far_pairs" lFar f fd) (T : Txt mg) : FnOk P w K mg base CX0 1 f fd ["_law_kind"] spFar := by
 refine D.F.ok scFar (fun vs H Q E h => ?_) (fun cdv A outer s H vs Q E hr h => ?_)
 ·obtain ⟨c, rfl, _⟩ := h
  rfl
 ·obtain ⟨c, rfl, kk⟩ := h
  have hl : (sizeLine : Nat) = 16777216 := sizeLine_eq
  refine ⟨_, (pss_cons (ps_if (pt_cmpR op_eq (pv 0) pe_int (nomark _)) (pss_one (ps_ret (pe_lst (pa_cons (pe_tup (pa_cons pe_str (pa_cons (pe_op op_add_str (pe_op op_mul_str pe_str pe_int) pe_str) pa_nil))) pa_nil)))) pss_nil)
   (pss_cons (ps_if (pt_cmpR op_eq (pv 0) pe_int (nomark _)) (pss_one (ps_ret (pe_comp (own := 1) (caps := []) (N := ["_law_k"]) (N0 := ["_law_kind"]) (sc0 := defScope lFar) rfl (pi_range1 rfl T.range (pa_cons pe_int pa_nil)) (fun _ _ _ => pg_name (i := 0) ndK rfl (Or.inl rfl)) (fun _ _ _ => pf_none) (fun _ _ _ => pe_tup (pa_cons (pe_op op_add_str pe_str (pe_callTy call_str_int rfl T.str b_str (pa_cons (pv 0) pa_nil))) (pa_cons (pe_ix (ix_listK (K := K) rfl) (pe_lst (pa_cons pe_str (pa_cons pe_str pa_nil))) (pe_callTy call_int1 rfl T.int b_int (pa_cons (pe_cmpR (op_inK (K := K) rfl) (pv 0) (pe_tup (pa_cons pe_int (pa_cons pe_int pa_nil))) rfl) pa_nil)) (fun _ _ => rfl)) pa_nil))) (gk_name (by decide)) rfl rfl
    (by decide +kernel) rfl (by decide +kernel) (by decide +kernel) rfl (by decide +kernel)))) pss_nil)
   (pss_one (ps_ret (pe_lst pa_nil))))), ?_⟩
  refine ⟨_, rfl, rfl, _, rfl, ?_⟩
  by_cases h1 : c = 1
  ·rw [dec_i h1]
   refine iteT ⟨_, _, rfl, rfl, q_mul, _, _, rfl, rfl, (by rw [q_len]; show 400 + 3 <= sizeLine; omega), (by show 2 <= sizeLine; omega), fun t ht => ⟨(by show 1 <= sizeLine; omega), fun l hl' => ?_⟩⟩
   have s1 := same_upd (o := .tup [.str (Str.ofString "long"), .str qS]) ht
   have s2 := same_upd (H := upd H t (.tup [.str (Str.ofString "long"), .str qS])) (o := .lst [.ref t]) hl'
   refine kk l [.ref t] _ (s1.trans s2) (s1.free hl') upd_same ?_
   have ef : farP c = [(Str.ofString "long", qS)] := by unfold farP; rw [if_pos h1]
   rw [ef]
   exact prs_cons (q := (Str.ofString "long", qS)) (s2 _ _ upd_same)
  ·rw [dec_n h1]
   refine iteF ⟨_, rfl, rfl, _, rfl, ?_⟩
   by_cases h2 : c = 2
   ·rw [dec_i h2]
    have ef : farP c = (List.range 140).map farK := by unfold farP; rw [if_neg h1, if_pos h2]
    refine iteT ⟨140, rfl, by decide, by decide, comp_itr (fun i ys H' => Same H H' /\ PairsV H' ys (((List.range i).map farK).map kp)) (by rw [hl]; decide) ⟨fun _ _ h => h, .nil⟩ ?_ ?_⟩
    ·rintro i ys H' N hi ⟨sm, hP⟩ hN
     have hi' : i < 140 := hi
     rw [Int.zero_add]
     refine g1 ⟨_, rfl, _, rfl, (by show (i : Int).natAbs.log2 < 1920; exact Nat.lt_of_le_of_lt (Nat.log2_le_self _) (by omega)), _, _, rfl, rfl, (by have := far_len i hi'; show 3 + _ <= sizeLine; omega), (by show 2 <= sizeLine; omega), fun l1 hl1 => ⟨_, rfl, (by show 2 <= sizeLine; omega), fun t1 ht1 => ?_⟩⟩
     have s1 := same_upd (o := .lst [.str (Str.ofString "p"), .str (Str.ofString "z p")]) hl1
     have e1 : upd H' l1 (.lst [.str (Str.ofString "p"), .str (Str.ofString "z p")]) l1 = some (.lst [.str (Str.ofString "p"), .str (Str.ofString "z p")]) := upd_same
     generalize upd H' l1 (.lst [.str (Str.ofString "p"), .str (Str.ofString "z p")]) = H1 at s1 e1 ht1 ⊢
     have s2 := same_upd (o := .tup [.int 0, .int 139]) ht1
     have e2 : upd H1 t1 (.tup [.int 0, .int 139]) t1 = some (.tup [.int 0, .int 139]) := upd_same
     generalize upd H1 t1 (.tup [.int 0, .int 139]) = H2 at s2 e2 ⊢
     refine ⟨t1, _, rfl, .inr (SqT.of e2), rfl, rfl, .inr ⟨_, rfl, ?_⟩⟩
     show rIxL K (.ref l1) (.int (if inV (.int (i : Int)) [.int 0, .int 139] = true then 1 else 0)) H2 _
     rw [inV_far i hi']
     have fin : ∀ z : Str, z = (farK i).2 -> ∀ t, H2 t = none -> N (ys ++ [.ref t]) (upd H2 t (.tup [.str (farK i).1, .str z])) := fun z ez t ht => by
      subst ez
      refine hN _ _ ⟨((sm.trans s1).trans s2).trans (same_upd ht), ?_⟩
      rw [List.range_succ, List.map_append, List.map_append]
      exact Gn.Paired.cat (hP.same ((s1.trans s2).trans (same_upd ht))) (.cons ⟨t, rfl, upd_same⟩ .nil)
     by_cases hk : i = 0 \/ i = 139
     ·rw [decide_eq_true hk, if_pos rfl]
      exact ⟨l1, _, _, .str (Str.ofString "z p"), rfl, rfl, SqL.of (s2 _ _ e1), atI_nat (j := 1) rfl, (by show 2 <= sizeLine; omega), fun t ht => fin _ (by unfold farK; rw [if_pos hk]) t ht⟩
     ·rw [decide_eq_false hk, if_neg (by decide)]
      exact ⟨l1, _, _, .str (Str.ofString "p"), rfl, rfl, SqL.of (s2 _ _ e1), atI_nat (j := 0) rfl, (by show 2 <= sizeLine; omega), fun t ht => fin _ (by unfold farK; rw [if_neg hk]) t ht⟩
    ·rintro ys H' ⟨sm, hP⟩ _ p hp
     refine kk p ys _ (sm.trans (same_upd hp)) (sm.free hp) upd_same ?_
     rw [ef]
     exact hP.same (same_upd hp)
   ·rw [dec_n h2]
    have ef : farP c = [] := by unfold farP; rw [if_neg h1, if_neg h2]
    refine iteF ⟨Nat.zero_le _, fun l hl' => kk l [] _ (same_upd hl') hl' upd_same ?_⟩
    rw [ef]
    exact .nil
end
theorem far_good : GoodPs ((List.range 140).map farK) := ⟨by decide +kernel, by decide +kernel⟩
theorem far_tw : ∀ p ∈ (List.range 140).map farK, (tw p.2).length <= 2 /\ ∀ x ∈ tw p.2, x = Str.ofString "p" \/ x = Str.ofString "z" := by decide +kernel
theorem q_txt : txtV (.str qS) = true /\ rowV 12 (.str (Str.ofString "long")) = true := by decide +kernel
theorem q_tw : (tw qS).length <= 202 /\ ∀ x ∈ tw qS, x = Str.ofString "q" \/ x = Str.ofString "z" := by decide +kernel
structure LPs (ps : List (Str × Str)) : Prop where
 g : GoodPs ps
 f : Few (tws ps)
 w : FewW (tws ps)
 l : ps.length <= 150
theorem key_long {n : Int} {j : Nat} (hj : j < 10) : keyF n j ≠ Str.ofString "long" := by
 intro e
 have h := congrArg (fun z : Str => z.cps.toList) e
 simp only [key_codes] at h
 have hm : 48 + j ∈ (Str.ofString "long").cps.toList := by rw [<- h]; simp
 have : ∀ j, j < 10 -> 48 + j ∉ (Str.ofString "long").cps.toList := by decide +kernel
 exact this j hj hm
theorem lps_of {ns : List Int} {ps : List (Str × Str)} (h : LawPs ns ps) (c : Int) : LPs (farP c ++ (if c = 2 then [] else ps)) := by
 by_cases h2 : c = 2
 ·subst h2
  rw [if_pos rfl, List.append_nil]
  have ef : farP 2 = (List.range 140).map farK := rfl
  rw [ef]
  have hl : (tws ((List.range 140).map farK)).length = 140 := by unfold tws; simp
  have ht := tot_le (m := 2) fun p hp => (far_tw p hp).1
  rw [List.length_map, List.length_range] at ht
  refine ⟨far_good, ⟨by omega, by omega⟩, ⟨[Str.ofString "p", Str.ofString "z"], by decide, fun ws hw x hx => ?_⟩, by simp⟩
  obtain ⟨p, hp, rfl⟩ := List.mem_map.mp hw
  rcases (far_tw p hp).2 x hx with e | e <;> rw [e] <;> simp
 ·rw [if_neg h2]
  have hg := h.good
  have hf := h.few
  have ht := h.tot
  have hl := h.l
  have tl : (tws ps).length = ps.length := List.length_map _
  by_cases h1 : c = 1
  ·have ef : farP c = [(Str.ofString "long", qS)] := by unfold farP; rw [if_pos h1]
   rw [ef]
   show LPs ((Str.ofString "long", qS) :: ps)
   have e2 : tws ((Str.ofString "long", qS) :: ps) = tw qS :: tws ps := rfl
   have q1 := q_tw.1
   refine ⟨⟨fun p hp => ?_, ?_⟩, ?_, ?_, by rw [List.length_cons]; omega⟩
   ·rcases List.mem_cons.mp hp with e | e
    ·rw [e]; exact ⟨q_txt.2, q_txt.1⟩
    ·exact hg.g p e
   ·refine List.nodup_cons.mpr ⟨fun hm => ?_, hg.n⟩
    obtain ⟨p, hp, e⟩ := List.mem_map.mp hm
    obtain ⟨j, hj⟩ := List.getElem?_of_mem hp
    have hjl := (List.getElem?_eq_some_iff.mp hj).1
    rw [h.k j p hj] at e
    exact key_long (by omega) e
   ·rw [e2]
    refine ⟨by rw [List.length_cons]; omega, ?_⟩
    show ((tw qS).length :: (tws ps).map List.length).sum <= 330
    rw [List.sum_cons]
    have : BK.tot (tws ps) = ((tws ps).map List.length).sum := rfl
    omega
   ·rw [e2]
    refine ⟨Str.ofString "q" :: Str.ofString "z" :: (tws ps).flatten, ?_, fun ws hw x hx => ?_⟩
    ·rw [List.length_cons, List.length_cons, tot_flat]
     omega
    ·rcases List.mem_cons.mp hw with e | e
     ·rw [e] at hx
      rcases q_tw.2 x hx with e' | e' <;> rw [e'] <;> simp
     ·exact List.mem_cons_of_mem _ (List.mem_cons_of_mem _ (List.mem_flatten.mpr ⟨ws, e, hx⟩))
  ·have ef : farP c = [] := by unfold farP; rw [if_neg h1, if_neg h2]
   rw [ef]
   exact ⟨hg, hf.1, hf.2, by show ps.length <= 150; omega⟩
structure BkM (P : Program) (w : World) (K : PySem.W.Frag) (mg : Str -> Option Value) (base : Heap) (C CWk CN CNo CW : Addr) : Prop where
 cl : BkC K mg C
 many : ∃ f fd, Fun K "many" "Book.many" bMany f fd /\ Meth K C "many" f /\ FnOk P w K mg base CX0 1 f fd ["self"] (spMany C)
 total : ∃ f fd, Fun K "total" "Book.total" bTotal f fd /\ Meth K C "total" f /\ FnOk P w K mg base CX0 1 f fd ["self"] (spTotal C)
 key : ∃ f fd, Fun K "key_of" "Book.key_of" bKeyOf f fd /\ Meth K C "key_of" f /\ FnOk P w K mg base (CX1 P w) 4 f fd ["self", "number"] (spKeyOf K C CN (·.1))
 text : ∃ f fd, Fun K "text_of" "Book.text_of" bTextOf f fd /\ Meth K C "text_of" f /\ FnOk P w K mg base (CX1 P w) 4 f fd ["self", "number"] (spKeyOf K C CN (·.2))
 size : ∃ f fd, Fun K "size_of" "Book.size_of" bSizeOf f fd /\ Meth K C "size_of" f /\ FnOk P w K mg base (CX1 P w) 4 f fd ["self", "number"] (spSizeOf K C CN)
 num : ∃ f fd, Fun K "number_of" "Book.number_of" bNumberOf f fd /\ Meth K C "number_of" f /\ FnOk P w K mg base (CX1 P w) 3 f fd ["self", "key"] (spNumOf K C CNo)
 words : ∃ f fd, Fun K "words" "Book.words" bWords f fd /\ Meth K C "words" f /\ FnOk P w K mg base CX0 1 f fd ["self"] (spWordsB C)
 parts : ∃ f fd, Fun K "parts_of" "Book.parts_of" bPartsOf f fd /\ Meth K C "parts_of" f /\ FnOk P w K mg base (CX1 P w) 4 f fd ["self", "word"] (spParts K C CW)
 row : ∃ f fd, Fun K "row_of" "Book.row_of" bRowOf f fd /\ Meth K C "row_of" f /\ FnOk P w K mg base (CX1 P w) 5 f fd ["self", "word"] (spRowOfB K C CW)
 starts : ∃ f fd, Fun K "starts" "Book.starts" bStarts f fd /\ Meth K C "starts" f /\ FnOk P w K mg base (CX1 P w) 4 f fd ["self", "word"] (spStarts K C CW)
 walk : ∃ f fd, Fun K "walk_of" "Book.walk_of" bWalkOf f fd /\ Meth K C "walk_of" f /\ FnOk P w K mg base (CX1 P w) 7 f fd ["self", "word"] (spWalkOf K C CWk)
 wt : TxtC K mg CWk
 rest : ∃ f fd, Fun K "rest" "Walk.rest" wRest f fd /\ Meth K CWk "rest" f /\ FnOk P w K mg base CX0 1 f fd ["self"] (spRest CWk)
 leap : ∃ f fd, Fun K "leap" "Walk.leap" wLeap f fd /\ Meth K CWk "leap" f /\ FnOk P w K mg base (CX1 P w) 3 f fd ["self", "number"] (spLeap K CWk CN)
def mNames : List Str := ["many", "total", "key_of", "text_of", "size_of", "number_of", "words", "parts_of", "row_of", "starts", "walk_of"]
theorem names_no : ∀ m ∈ mNames, m ≠ "numbers" /\ m ≠ "pairs" /\ m ≠ "sizes" /\ m ≠ "rows" /\ m ≠ "rising" := by decide +kernel
theorem BookAt.at {C : Addr} {H : Hp} {x : Addr} {ps : List (Str × Str)} (h : BookAt C H x ps) : ∃ dx fs, H x = some (.ins C dx fs) /\ ∀ m ∈ mNames, fs.lookup m = none := by
 obtain ⟨dx, dn, pa, sz, dr, ri, xs, es, ts, h1, _⟩ := h.ex
 refine ⟨dx, _, h1, fun m hm => ?_⟩
 obtain ⟨a, b, c, d, e⟩ := names_no m hm
 exact bf_no e d c b a
theorem mn {m : Str} (h : m ∈ mNames := by decide +kernel) : m ∈ mNames := h
theorem good_lt {j n : Nat} (h : j < n) : goodN (.int (j : Int)) 0 (some ((n : Int) - 1)) = true := by
 show (decide ((0 : Int) <= j) && decide ((j : Int) <= (n : Int) - 1)) = true
 rw [decide_eq_true (by omega), decide_eq_true (by omega)]
 rfl
theorem row_fit {m : Nat} {z : Str} (h : rowV m (.str z) = true) (hm : m <= 5000) : Fit (.str z) := by
 intro y e
 injection e with e
 subst e
 have h' : (decide (1 <= z.length) && decide (z.length <= m) && z.cps.toList.all isS) = true := h
 rw [Bool.and_eq_true, Bool.and_eq_true, decide_eq_true_eq, decide_eq_true_eq] at h'
 omega
section
variable {P : Program} {w : World} {K : PySem.W.Frag} {mg : Str -> Option Value} {base : Heap} {C CWk CN CNo CW : Addr}
theorem ndP1 : (["_law_pair"] : List Str).Nodup := by decide +kernel
def spTT (C : Addr) : Sp := fun vs H Q _ => ∃ (x a : Addr) (xs : List V) (ps : List (Str × Str)), vs = [.ref x, .ref a] /\ BookAt C H x ps /\ LPs ps /\ H a = some (.lst xs) /\ PairsV H xs (ps.map kp) /\ ∀ H', Same H H' -> Q (.bl true) H'
theorem scTT : FnScope ["_law_book", "_law_pairs_here", "_law_pair", "_law_sizes", "_law_number_here"] ["_law_book", "_law_pairs_here"] (defScope lTT) := ⟨rfl, rfl, rfl, by decide +kernel, rfl, by decide +kernel, by decide +kernel⟩
seal PSs PS PE PT PA PG PI PGs PIfs in
theorem ok_tt {f fw : Addr} {fd fdw : FuncData} (D : Df K mg "_law_texts_told" lTT f fd) (M : BkM P w K mg base C CWk CN CNo CW) (DW : Df K mg "_law_words" lWords fw fdw) (GW : FnOk P w K mg base CX0 2 fw fdw ["_law_text_here"] spWords) (T : Txt mg) : FnOk P w K mg base CX0 5 f fd ["_law_book", "_law_pairs_here"] (spTT C) := by
 have bW := binds1 (p := "_law_text_here") DW.F fun _ _ _ _ _ _ _ => rfl
 obtain ⟨fm, fdm, FM, mM, GM⟩ := M.many
 obtain ⟨ft, fdt, FT, mT, GT⟩ := M.total
 obtain ⟨fk, fdk, FKy, mK, GK⟩ := M.key
 obtain ⟨fx, fdx, FX, mX, GX⟩ := M.text
 obtain ⟨fs_, fds, FS, mS, GS⟩ := M.size
 obtain ⟨fn, fdn, FN, mN, GN⟩ := M.num
 have bM := FM.binds (ps := ["self"]) fun _ _ _ _ _ _ us hl => us1 (fun _ => rfl) us hl
 have bT := FT.binds (ps := ["self"]) fun _ _ _ _ _ _ us hl => us1 (fun _ => rfl) us hl
 have bK := FKy.binds (ps := ["self", "number"]) fun _ _ _ _ _ _ us hl => us2 (fun _ _ => rfl) us hl
 have bX := FX.binds (ps := ["self", "number"]) fun _ _ _ _ _ _ us hl => us2 (fun _ _ => rfl) us hl
 have bS := FS.binds (ps := ["self", "number"]) fun _ _ _ _ _ _ us hl => us2 (fun _ _ => rfl) us hl
 have bN := FN.binds (ps := ["self", "key"]) fun _ _ _ _ _ _ us hl => us2 (fun _ _ => rfl) us hl
 refine D.F.ok scTT (fun vs H Q E h => ?_) (fun cdv A outer s H vs Q E hr h => ?_)
 ·obtain ⟨x, a, xs, ps, rfl, _⟩ := h
  rfl
 ·obtain ⟨x, a, xs, ps, rfl, hB, hL, hA, hP, kk⟩ := h
  have hz : (sizeLine : Nat) = 16777216 := sizeLine_eq
  have hxl := Gn.Paired.len hP
  rw [List.length_map] at hxl
  have hl150 := hL.l
  refine ⟨_, (pss_cons (ps_setC (i := 3) scTT.nd rfl (Or.inl rfl) (own := 1) (caps := []) (N := ["_law_pair"]) (N0 := ["_law_book", "_law_pairs_here", "_law_pair", "_law_sizes", "_law_number_here"]) (sc0 := defScope lTT) rfl (pi_list (pv 1)) (fun _ _ _ => pg_name (i := 0) ndP1 rfl (Or.inl rfl)) (fun _ _ _ => pf_none) (fun _ _ _ => pe_callB (call_lenK (K := K) rfl) rfl T.len b_len (pa_cons (pe_call (GW.mono (by decide)) hr rfl DW.m DW.F.kp bW .nil pass0 (pa_cons (pe_ix (ix_tupK (K := K) rfl) (pv 0) pe_int (fun _ _ => rfl)) pa_nil)) pa_nil)) (gk_name (by decide)) rfl rfl
    (by decide +kernel) rfl (by decide +kernel) (by decide +kernel) rfl (by decide +kernel) (fun _ _ _ h => h))
   (pss_cons (ps_if (PW.pt (pw_or (pt_cmpR op_ne (pe_meth0 (pv 0) M.cl.cl mM (GM.mono (by decide)) hr bM .nil pass0) (pe_callB call_len_seq rfl T.len b_len (pa_cons (pv 1) pa_nil)) (nomark _)) (pw_or1 (pt_cmpR op_ne (pe_meth0 (pv 0) M.cl.cl mT (GT.mono (by decide)) hr bT .nil pass0) (pe_callB (call_sumN rfl) rfl T.sum b_sum (pa_cons (pv 3) pa_nil)) (nomark _))))) (pss_one (ps_ret pe_bl)) pss_nil)
   (pss_cons (ps_for PassesOwn.never rfl (pi_enumL rfl T.enum (pa_cons (pv 1) pa_nil)) (pg_tup (n := 2) rfl (pgs_cons (pg_name (i := 4) scTT.nd rfl (Or.inl rfl)) (pgs_cons (pg_name (i := 2) scTT.nd rfl (Or.inl rfl)) pgs_nil))) (pss_cons (ps_if (PW.pt (pw_or (pt_cmpR op_ne (pe_meth (pv 0) M.cl.cl mK (GK.mono (by decide)) hr bK .nil passN (pa_cons (pv 4) pa_nil)) (pe_ix ix_tup (pv 2) pe_int (fun _ _ => rfl)) (nomark _)) (pw_or1 (pt_cmpR op_ne (pe_meth (pv 0) M.cl.cl mX (GX.mono (by decide)) hr bX .nil passN (pa_cons (pv 4) pa_nil)) (pe_ix ix_tup (pv 2) pe_int (fun _ _ => rfl)) (nomark _))))) (pss_one (ps_ret pe_bl)) pss_nil)
   (pss_one (ps_if (PW.pt (pw_or (pt_cmpR op_ne (pe_meth (pv 0) M.cl.cl mS (GS.mono (by decide)) hr bS .nil passN (pa_cons (pv 4) pa_nil)) (pe_ix ix_list (pv 3) (pv 4) (fun _ _ => rfl)) (nomark _)) (pw_or1 (pt_cmpR op_ne (pe_meth (pv 0) M.cl.cl mN (GN.mono (by decide)) hr bN .nil passN (pa_cons (pe_ix ix_tup (pv 2) pe_int (fun _ _ => rfl)) pa_nil)) (pv 4) (nomark _))))) (pss_one (ps_ret pe_bl)) pss_nil))))
   (pss_one (ps_ret pe_bl))))), ?_⟩
  refine ⟨_, rfl, a, rfl, ⟨_, SqL.of hA⟩, ?_⟩
  refine comp_itl (xs := xs) (fun i ys H' => Same H H' /\ ys = nl (((tws ps).take i).map List.length)) (by omega) (fun i ys H' q => SqL.of (q.1 _ _ hA)) ⟨fun _ _ h => h, rfl⟩ ?_ ?_
  ·rintro i v ys H' N hv ⟨sm, rfl⟩ hN
   obtain ⟨kt, hkt, pp, rfl, hpp⟩ := paired_get hP hv
   rw [List.getElem?_map] at hkt
   obtain ⟨pr, hpr, e⟩ := Option.map_eq_some_iff.mp hkt
   subst e
   have hdr : Drawn pr.2 := txt_drawn (hL.g.g pr (List.mem_of_getElem? hpr)).2
   have hws : (tws ps)[i]? = some (tw pr.2) := by unfold tws; rw [List.getElem?_map, hpr]; rfl
   refine g1 ⟨_, rfl, pp, _, _, _, rfl, rfl, SqT.of (sm _ _ hpp), atI_nat (j := 1) rfl, pr.2, rfl, hdr, fun wa H2 s2 hwa hW => ?_⟩
   obtain ⟨us, eU, pU⟩ := hW.ex
   have ul : (us.map V.ref).length = (tw pr.2).length := by rw [List.length_map, Gn.Paired.len pU]; exact (List.length_map _).symm
   refine ⟨wa, _, rfl, .inl (SqL.of eU), hN _ _ ⟨sm.trans s2, ?_⟩⟩
   rw [ul, take_snoc hws, List.map_append, nl_app]
   rfl
  ·rintro ys H' ⟨sm, rfl⟩ _ sz hsz
   have eT : (tws ps).take xs.length = tws ps := by
    have : xs.length = (tws ps).length := by rw [hxl]; unfold tws; rw [List.length_map]
    rw [this, List.take_length]
   rw [eT]
   have s1 := sm.trans (same_upd (o := .lst (nl ((tws ps).map List.length))) hsz)
   have eS : upd H' sz (.lst (nl ((tws ps).map List.length))) sz = some (.lst (nl ((tws ps).map List.length))) := upd_same
   generalize upd H' sz (.lst (nl ((tws ps).map List.length))) = H1 at s1 eS ⊢
   have hB1 := hB.same s1
   obtain ⟨dx, fs, hx, hno⟩ := hB1.at
   have ht := hL.f.t
   refine ⟨_, rfl, x, dx, _, rfl, hx, hno _ mn, x, ps, rfl, hB1, _, rfl, a, _, rfl, .inl (SqL.of (s1 _ _ hA)), rfl, _, rfl, ?_⟩
   rw [dec_i (by omega)]
   refine iteF ⟨_, rfl, x, dx, _, rfl, hx, hno _ mn, x, ps, rfl, hB1, hL.f, _, rfl, sz, _, rfl, SqL.of eS, (by show tot (tws ps) <= 1000000; omega), rfl, _, rfl, ?_⟩
   rw [dec_i (by rfl)]
   refine iteF ⟨_, rfl, a, xs, rfl, s1 _ _ hA, ?_⟩
   refine for_iel (xs := xs) (fun i σ H' => ∃ (o2 o4 : Option V), σ = [some (.ref x), some (.ref a), o2, some (.ref sz), o4] /\ Same H1 H') ?_ ?_ ?_ ?_
   ·exact ⟨_, _, rfl, fun _ _ h => h⟩
   ·rintro i σ H' _ ⟨_, _, _, sm2⟩
    exact sm2 _ _ (s1 _ _ hA)
   ·rintro i v σ H' t hv ⟨o2, o4, rfl, sm2⟩ ht'
    obtain ⟨kt, hkt, pp, rfl, hpp⟩ := paired_get hP hv
    rw [List.getElem?_map] at hkt
    obtain ⟨pr, hpr, e⟩ := Option.map_eq_some_iff.mp hkt
    subst e
    have hil := (List.getElem?_eq_some_iff.mp hpr).1
    have st : Same H' (upd H' t (.tup [.int i, .ref pp])) := same_upd ht'
    refine ⟨t, _, rfl, SqT.of upd_same, rfl, _, _, rfl, _, _, rfl, rfl, ?_⟩
    have sm3 := sm2.trans st
    generalize upd H' t (.tup [.int i, .ref pp]) = H2 at st sm3 ⊢
    have hB2 := hB1.same sm3
    have hx2 := sm3 _ _ hx
    have hpp2 := sm3 _ _ (s1 _ _ hpp)
    have gb : goodN (.int (i : Int)) 0 (some ((ps.length : Int) - 1)) = false -> False := fun c => by rw [good_lt hil] at c; cases c
    refine ⟨_, rfl, x, dx, _, rfl, hx2, hno _ mn, _, rfl, x, ps, _, rfl, hB2, ⟨_, .int _⟩, (fun j p e hj => ?_), fun c => (gb c).elim⟩
    have ej : j = i := by injection e with e; omega
    subst ej
    have ep : p = pr := by rw [hpr] at hj; exact (Option.some.inj hj).symm
    subst ep
    refine ⟨_, rfl, pp, _, _, _, rfl, rfl, SqT.of hpp2, atI_nat (j := 0) rfl, rfl, _, rfl, ?_⟩
    rw [show (!decide (V.str p.1 = (kp p).1)) = false by show (!decide (V.str p.1 = V.str p.1)) = false; rw [decide_eq_true rfl]; rfl]
    refine iteF ⟨_, rfl, x, dx, _, rfl, hx2, hno _ mn, _, rfl, x, ps, _, rfl, hB2, ⟨_, .int _⟩, (fun j' p' e' hj' => ?_), fun c => (gb c).elim⟩
    have ej : j' = j := by injection e' with e'; omega
    subst ej
    have ep : p' = p := by rw [hpr] at hj'; exact (Option.some.inj hj').symm
    subst ep
    refine ⟨_, rfl, pp, _, _, _, rfl, rfl, SqT.of hpp2, atI_nat (j := 1) rfl, rfl, _, rfl, ?_⟩
    rw [show (!decide (V.str p'.2 = (kp p').2)) = false by show (!decide (V.str p'.2 = V.str p'.2)) = false; rw [decide_eq_true rfl]; rfl]
    refine iteF ⟨_, rfl, x, dx, _, rfl, hx2, hno _ mn, _, rfl, x, ps, _, rfl, hB2, ⟨_, .int _⟩, (fun j2 p2 e2 hj2 => ?_), fun c => (gb c).elim⟩
    have ej : j2 = j' := by injection e2 with e2; omega
    subst ej
    have ep : p2 = p' := by rw [hpr] at hj2; exact (Option.some.inj hj2).symm
    subst ep
    have hsz2 : ((tws ps).map List.length)[j2]? = some (tw p2.2).length := by unfold tws; rw [List.map_map, List.getElem?_map, hpr]; rfl
    refine ⟨_, rfl, _, rfl, sz, _, _, _, rfl, rfl, SqL.of (sm3 _ _ eS), atI_nat (by unfold nl; rw [List.getElem?_map, hsz2]; rfl), rfl, _, rfl, ?_⟩
    rw [dec_i rfl]
    have hk12 := (hL.g.g p2 (List.mem_of_getElem? hpr)).1
    refine iteF ⟨_, rfl, x, dx, _, rfl, hx2, hno _ mn, _, rfl, pp, _, _, _, rfl, rfl, SqT.of hpp2, atI_nat (j := 0) rfl, x, ps, _, rfl, hB2, ⟨_, .str _⟩, row_fit hk12 (by decide), (fun p hp => (hL.g.g p hp).1), hL.g.n, (fun j3 z H3 ez hj3 s3 => ?_), fun c => (c p2.1 rfl (List.mem_map.mpr ⟨p2, List.mem_of_getElem? hpr, rfl⟩)).elim⟩
    have ez' : z = p2.1 := by injection ez with ez; exact ez.symm
    subst ez'
    have ej3 : j3 = j2 := by
     have h1 : (ps.map (·.1))[j2]? = some p2.1 := by rw [List.getElem?_map, hpr]; rfl
     exact (List.getElem?_inj (List.getElem?_eq_some_iff.mp hj3).1 hL.g.n).mp (hj3.trans h1.symm)
    subst ej3
    refine ⟨_, rfl, rfl, _, rfl, ?_⟩
    rw [dec_i rfl]
    exact iteF ⟨_, _, rfl, sm3.trans s3⟩
   ·rintro σ H' ⟨o2, o4, rfl, sm2⟩
    exact kk H' (s1.trans sm2)
end
section
variable {P : Program} {w : World} {K : PySem.W.Frag} {mg : Str -> Option Value} {base : Heap} {C CWk CN CNo CW : Addr}
theorem dt_sl {H : Hp} : ∀ (ts : List Str), DtVs K H (sl ts) (ts.map PyData.str)
 | [] => .nil
 | t :: ts => .cons (.str t) (dt_sl ts)
theorem lay_strs : ∀ (ns : List Str), (∀ n ∈ ns, (PyData.str n).canLay0 = true) -> (PyData.list (ns.map PyData.str)).canLay0 = true
 | [], _ => rfl
 | n :: ns, h => by
  show ((PyData.str n).canLay0 && (PyData.list (ns.map PyData.str)).canLay0) = true
  rw [h n List.mem_cons_self, lay_strs ns fun m hm => h m (List.mem_cons_of_mem _ hm)]
  rfl
theorem lay_str {z : Str} (h : ∀ c ∈ z.cps.toList, c < 1114112) : (PyData.str z).canLay0 = true := by
 show (z.cps.all fun c => decide (c < 0x110000)) = true
 rw [<- Array.all_toList, List.all_eq_true]
 exact fun c hc => decide_eq_true (h c hc)
theorem isS_lay {t : Str} (h : t.cps.toList.all isS = true) : (PyData.str t).canLay0 = true := lay_str fun c hc => by
 have := isS_lt (List.all_eq_true.mp h c hc)
 omega
theorem depth_sl : ∀ ts : List Str, (PyData.list (ts.map PyData.str)).depth <= 2
 | [] => by decide
 | s :: ss => by
  show max 0 (PyData.depthAll (ss.map PyData.str)) + 1 <= 2
  have ih : PyData.depthAll (ss.map PyData.str) + 1 <= 2 := depth_sl ss
  omega
theorem li_strs {H : Hp} {a b : Addr} {ts : List Str} (h1 : H a = some (.lst (sl ts))) (h2 : H b = some (.lst (sl ts))) (hl : ts.length <= 3000) (hc : ∀ t ∈ ts, t.cps.toList.all isS = true) : LiA K H a b := by
 refine ⟨_, _, h1, by unfold sl; rw [List.length_map]; exact hl, fun x hx => ?_, .lst (SqL.of h1) (dt_sl ts), .lst (SqL.of h2) (dt_sl ts), lay_strs ts (fun n hn => isS_lay (hc n hn)), Nat.le_trans (depth_sl ts) (by decide)⟩
 obtain ⟨t, _, rfl⟩ := List.mem_map.mp hx
 exact ⟨⟨_, .str _⟩, rfl⟩
theorem li_nats {H : Hp} {a b : Addr} {ns : List Nat} (h1 : H a = some (.lst (nl ns))) (h2 : H b = some (.lst (nl ns))) (hl : ns.length <= 3000) : LiA K H a b := by
 refine ⟨_, _, h1, by rw [nl_len]; exact hl, fun x hx => ?_, .lst (SqL.of h1) (dt_nl ns), .lst (SqL.of h2) (dt_nl ns), lay_nl ns, Nat.le_trans (depth_nl ns) (by decide)⟩
 obtain ⟨t, _, rfl⟩ := List.mem_map.mp hx
 exact ⟨⟨_, .int _⟩, rfl⟩
theorem li_row {H : Hp} {a b : Addr} {row : List Pr} (h1 : RowAt H a row) (h2 : RowAt H b row) (hl : row.length <= 3000) : LiA K H a b := by
 obtain ⟨xs, e, p⟩ := id h1
 refine ⟨xs, _, e, by rw [Gn.Paired.len p]; exact hl, fun x hx => ?_, dt_row h1, dt_row h2, lay_row row, Nat.le_trans (depth_row row) (by decide)⟩
 obtain ⟨j, hj⟩ := List.getElem?_of_mem hx
 obtain ⟨r, _, hr⟩ := paired_get p hj
 cases hr with
 | mk h _ => exact ⟨⟨_, .tup h⟩, rfl⟩
structure RwD (H : Hp) (d : Addr) (t : List (List Str)) (es : En) : Prop where
 d : H d = some (.dK (dkl es))
 k : (es.map (·.1)).Nodup
 w : ∀ x, x ∈ es.map (·.1) ↔ ∃ ws ∈ t, x ∈ ws
 f : ∀ e ∈ es, RowAt H e.2 (rowOf e.1 t 0)
theorem RwD.same {H H' : Hp} {d : Addr} {t : List (List Str)} {es : En} (h : RwD H d t es) (s : Same H H') : RwD H' d t es := ⟨s _ _ h.d, h.k, h.w, fun e he => (h.f e he).same s⟩
def tRowG : TE := fun σ H Q => ∃ (d : Addr) (es : En) (t : List (List Str)) (z : Str), σ[1]? = some (some (.ref d)) /\ σ[3]? = some (some (.str z)) /\ RwD H d t es /\ ∀ r H', Same H H' -> RowAt H' r (rowOf z t 0) -> Q (.ref r) H'
theorem rowGL {σ : L2.St} {H : Hp} {Q : VK} (h : tRowG σ H Q) : tBM K "dict" rDGetD (tVar 1) (tCons (tVar 3) (tCons (tLst tNil) tNil)) σ H Q := by
 obtain ⟨d, es, t, z, e1, e3, hD, kk⟩ := h
 refine ⟨_, e1, tyD hD.d, _, e3, (by show 0 <= sizeLine; decide), fun q hq => ?_⟩
 have s2 : Same H (upd H q (.lst [])) := same_upd hq
 have hq2 : upd H q (.lst []) q = some (.lst []) := upd_same
 generalize upd H q (.lst []) = H2 at s2 hq2 ⊢
 refine ⟨d, .str z, .ref q, _, rfl, rfl, DGet.k (k := Sum.inr z) (s2 _ _ hD.d), ?_⟩
 by_cases hz : z ∈ es.map (·.1)
 ·obtain ⟨a, q1, q2⟩ := val_isSome hz
  rw [q1]
  exact kk a H2 s2 ((hD.f _ q2).same s2)
 ·rw [val_none hz]
  refine kk q H2 s2 ?_
  rw [(rowOf_nil z t 0).mpr fun ws hw c => hz ((hD.w z).mpr ⟨ws, hw, c⟩)]
  exact ⟨[], hq2, .nil⟩
theorem tw_ylen {ps : List (Str × Str)} (hg : GoodPs ps) {pr : Str × Str} (hp : pr ∈ ps) {y : Str} (hy : y ∈ tw pr.2) : y.length <= 3000 := by
 obtain ⟨x, hx, e⟩ := List.mem_map.mp hy
 subst e
 have h1 := words_ok (codes pr.2) x hx
 have ht : (decide (pr.2.length <= 2000) && pr.2.cps.toList.all okC) = true := (hg.g pr hp).2
 rw [Bool.and_eq_true, decide_eq_true_eq] at ht
 have l : (codes pr.2).length = pr.2.length := by simp [codes, Str.length]
 obtain ⟨_, _, h3, h4⟩ := h1
 rw [str_len']
 omega
theorem tw_isS {z y : Str} (hy : y ∈ tw z) : y.cps.toList.all isS = true := by
 obtain ⟨x, hx, e⟩ := List.mem_map.mp hy
 subst e
 obtain ⟨_, h2, _, _⟩ := words_ok (codes z) x hx
 simpa using h2
def WdOk (z : Str) : Prop := rowV 2000 (.str z) = true
theorem wd_of {z : Str} (h1 : 1 <= z.length) (h2 : z.length <= 2000) (h3 : z.cps.toList.all isS = true) : WdOk z := by
 show (decide (1 <= z.length) && decide (z.length <= 2000) && z.cps.toList.all isS) = true
 rw [decide_eq_true h1, decide_eq_true h2, h3]
 rfl
theorem wm_ok {z : Str} (h : Wm z) : WdOk z := wd_of h.2.2 (by have := h.1; omega) h.2.1
theorem wd_zero {z : Str} (h : Wm z) : WdOk (z ++ Str.ofString "0") := by
 have l0 : (Str.ofString "0").length = 1 := by decide +kernel
 refine wd_of ?_ ?_ (app_all h.2.1 (by decide +kernel))
 ·rw [PySem.Str.length_append]; omega
 ·rw [PySem.Str.length_append]; have := h.1; omega
theorem wd_tail {z : Str} (h : Wm z) (h1 : 1 < z.length) : WdOk (Txt.slice z (some 1) none) := by
 have l : z.cps.toList.length = z.length := by simp [Str.length]
 have e2 : Txt.slice z (some 1) none = _ := PySem.StrLaws.sliceText_from ⟨by decide, by omega⟩
 have le := Txt.slice_le z (some 1) none
 refine wd_of ?_ (by have := h.1; omega) (slice_all _ _ h.2.1)
 rw [e2, str_len', List.length_take, List.length_drop]
 omega
theorem wd_head {z : Str} (h : Wm z) : WdOk (Txt.slice z none (some 1)) := by
 have l : z.cps.toList.length = z.length := by simp [Str.length]
 have e2 : Txt.slice z none (some 1) = _ := PySem.StrLaws.sliceText_to ⟨by decide, by have := h.2.2; omega⟩
 have le := Txt.slice_le z none (some 1)
 refine wd_of ?_ (by have := h.1; omega) (slice_all _ _ h.2.1)
 rw [e2, str_len', List.length_take, List.length_drop]
 have := h.2.2
 omega
theorem rl_len {ps : List (Str × Str)} (hL : LPs ps) (z : Str) : (rowOf z (tws ps) 0).length <= 300 /\ ∀ x ∈ rowOf z (tws ps) 0, x.2.length <= 2000 := by
 have h1 := (rowOf_len z (tws ps) 0).1
 have h2 := hL.f.l
 refine ⟨by omega, fun x hx => ?_⟩
 obtain ⟨j, ws, hj, _, e⟩ := rowOf_mem z (tws ps) 0 x hx
 rw [e]
 have h3 := plc_len z ws 0
 have h4 := tot_mem (List.mem_of_getElem? hj)
 have h5 := hL.f.t
 show (plc z ws 0).length <= 2000
 omega
theorem ndW1 : (["_law_word"] : List Str).Nodup := by decide +kernel
theorem ndOW : (["_law_one", "_law_word"] : List Str).Nodup := by decide +kernel
def spWT (C : Addr) : Sp := fun vs H Q _ => ∃ (x d m : Addr) (ps : List (Str × Str)) (es : En) (ws : List Str), vs = [.ref x, .ref d, .ref m] /\ BookAt C H x ps /\ LPs ps /\ RwD H d (tws ps) es /\ H m = some (.lst (sl ws)) /\ 0 < ws.length /\ ws.length <= 10 /\ (∀ z ∈ ws, Wm z) /\ ∀ H', Same H H' -> Q (.bl true) H'
theorem scWT : FnScope ["_law_book", "_law_rows_here", "_law_menu_here", "_law_word", "_law_row", "_law_pieces"] ["_law_book", "_law_rows_here", "_law_menu_here"] (defScope lWT) := ⟨rfl, rfl, rfl, by decide +kernel, rfl, by decide +kernel, by decide +kernel⟩
seal PSs PS PE PT PA PG PI PGs PIfs in
theorem ok_wt {f fl fpt : Addr} {fd fdl fdpt : FuncData} (D : Df K mg "_law_words_told" lWT f fd) (M : BkM P w K mg base C CWk CN CNo CW) (DL : Df K mg "_law_list_is" lListIs fl fdl) (GL : FnOk P w K mg base CX0 1 fl fdl ["_law_found", "_law_due"] (spLI K)) (DPt : Df K mg "_law_parts" lParts fpt fdpt) (GPt : FnOk P w K mg base CX0 1 fpt fdpt ["_law_row"] (spPartsL K)) (T : Txt mg) : FnOk P w K mg base CX0 8 f fd ["_law_book", "_law_rows_here", "_law_menu_here"] (spWT C) := by
 have bL := DL.F.binds (ps := ["_law_found", "_law_due"]) fun _ _ _ _ _ _ us hl => us2 (fun _ _ => rfl) us hl
 have bPt := binds1 (p := "_law_row") DPt.F fun _ _ _ _ _ _ _ => rfl
 obtain ⟨fw, fdw, FW, mW, GWd⟩ := M.words
 obtain ⟨fp, fdp, FPp, mP, GP⟩ := M.parts
 obtain ⟨fr, fdr, FRr, mR, GR⟩ := M.row
 obtain ⟨fs_, fds, FS, mSt, GSt⟩ := M.starts
 obtain ⟨fk, fdk, FKk, mWk, GWk⟩ := M.walk
 obtain ⟨fe, fde, FE, mRe, GRe⟩ := M.rest
 have bWd := FW.binds (ps := ["self"]) fun _ _ _ _ _ _ us hl => us1 (fun _ => rfl) us hl
 have bRe := FE.binds (ps := ["self"]) fun _ _ _ _ _ _ us hl => us1 (fun _ => rfl) us hl
 have bP := FPp.binds (ps := ["self", "word"]) fun _ _ _ _ _ _ us hl => us2 (fun _ _ => rfl) us hl
 have bR := FRr.binds (ps := ["self", "word"]) fun _ _ _ _ _ _ us hl => us2 (fun _ _ => rfl) us hl
 have bSt := FS.binds (ps := ["self", "word"]) fun _ _ _ _ _ _ us hl => us2 (fun _ _ => rfl) us hl
 have bWk := FKk.binds (ps := ["self", "word"]) fun _ _ _ _ _ _ us hl => us2 (fun _ _ => rfl) us hl
 refine D.F.ok scWT (fun vs H Q E h => ?_) (fun cdv A outer s H vs Q E hr h => ?_)
 ·obtain ⟨x, d, m, ps, es, ws, rfl, _⟩ := h
  rfl
 ·obtain ⟨x, d, m, ps, es, ws, rfl, hB, hL, hD, hM, hw0, hw10, hWm, kk⟩ := h
  have hz : (sizeLine : Nat) = 16777216 := sizeLine_eq
  have hu := hu_of hr
  refine ⟨_, (pss_cons (ps_if (pt_not (pt_val (pe_call (GL.mono (by decide)) hr rfl DL.m DL.F.kp bL .nil pass0 (pa_cons (pe_meth0 (pv 0) M.cl.cl mW (GWd.mono (by decide)) hr bWd .nil pass0) (pa_cons (pe_callB (call_sortedD rfl) rfl T.sorted b_sorted (pa_cons (pv 1) pa_nil)) pa_nil))))) (pss_one (ps_ret pe_bl)) pss_nil)
   (pss_cons (ps_for PassesOwn.never rfl (pi_list (pe_op op_cat (pv 2) (pe_lst (pa_cons pe_str (pa_cons (pe_op op_add_str (pe_ix ix_list (pv 2) pe_int (fun _ _ => rfl)) pe_str) pa_nil))))) (pg_name (i := 3) scWT.nd rfl (Or.inr rfl)) (pss_cons (ps_set (i := 4) scWT.nd rfl (Or.inl rfl) (PE.imp (t' := tRowG) (pe_bm PySem.F.plainAttrs_dict PySem.F.slot_dict_get PySem.F.type_dict_get (mt_dgetD hu) (pv 1) (pa_cons (pv 3) (pa_cons (pe_lst pa_nil) pa_nil))) fun _ _ _ h => rowGL h))
   (pss_cons (ps_if (PW.pt (pw_or (pt_not (pt_val (pe_call (GL.mono (by decide)) hr rfl DL.m DL.F.kp bL .nil pass0 (pa_cons (pe_meth (pv 0) M.cl.cl mP (GP.mono (by decide)) hr bP .nil passN (pa_cons (pv 3) pa_nil)) (pa_cons (pe_call (GPt.mono (by decide)) hr rfl DPt.m DPt.F.kp bPt .nil pass0 (pa_cons (pv 4) pa_nil)) pa_nil))))) (pw_or1 (pt_not (pt_val (pe_call (GL.mono (by decide)) hr rfl DL.m DL.F.kp bL .nil pass0 (pa_cons (pe_meth (pv 0) M.cl.cl mR (GR.mono (by decide)) hr bR .nil passN (pa_cons (pv 3) pa_nil)) (pa_cons (pv 4) pa_nil)))))))) (pss_one (ps_ret pe_bl)) pss_nil)
   (pss_one (ps_if (pt_cmpR (op_neD hr.units100) (pe_meth0 (pe_meth (pv 0) M.cl.cl mWk (GWk.mono (by decide)) hr bWk .nil passN (pa_cons (pv 3) pa_nil)) M.wt.cl mRe (GRe.mono (by decide)) hr bRe .nil pass0) (pv 4) (nomark _)) (pss_one (ps_ret pe_bl)) pss_nil)))))
   (pss_cons (ps_set (i := 5) scWT.nd rfl (Or.inl rfl) (pe_op op_cat (pe_comp (own := 1) (caps := []) (N := ["_law_word"]) (N0 := ["_law_book", "_law_rows_here", "_law_menu_here", "_law_word", "_law_row", "_law_pieces"]) (sc0 := defScope lWT) rfl (pi_list (pv 2)) (fun _ _ _ => pg_name (i := 0) ndW1 rfl (Or.inl rfl)) (fun _ _ _ => pf_one (pt_cmpR op_gt (pe_callB call_len_str rfl T.len b_len (pa_cons (pv 0) pa_nil)) pe_int (nomark _))) (fun _ _ _ => pe_slice sl_str (pv 0) (po_some pe_int) po_none) (gk_name (by decide)) rfl rfl
    (by decide +kernel) rfl (by decide +kernel) (by decide +kernel) rfl (by decide +kernel)) (pe_comp (own := 1) (caps := []) (N := ["_law_word"]) (N0 := ["_law_book", "_law_rows_here", "_law_menu_here", "_law_word", "_law_row", "_law_pieces"]) (sc0 := defScope lWT) rfl (pi_list (pv 2)) (fun _ _ _ => pg_name (i := 0) ndW1 rfl (Or.inl rfl)) (fun _ _ _ => pf_none) (fun _ _ _ => pe_slice sl_str (pv 0) po_none (po_some pe_int)) (gk_name (by decide)) rfl rfl
    (by decide +kernel) rfl (by decide +kernel) (by decide +kernel) rfl (by decide +kernel))))
   (pss_cons (ps_for PassesOwn.never rfl (pi_list (pe_op op_cat (pe_op op_cat (pv 2) (pv 5)) (pe_lst (pa_cons pe_str (pa_cons (pe_op op_add_str (pe_ix ix_list (pv 2) pe_int (fun _ _ => rfl)) pe_str) pa_nil))))) (pg_name (i := 3) scWT.nd rfl (Or.inr rfl)) (pss_one (ps_if (pt_not (pt_val (pe_call (GL.mono (by decide)) hr rfl DL.m DL.F.kp bL .nil pass0 (pa_cons (pe_meth (pv 0) M.cl.cl mSt (GSt.mono (by decide)) hr bSt .nil passN (pa_cons (pv 3) pa_nil)) (pa_cons (pe_comp (own := 1) (caps := [3]) (N := ["_law_one", "_law_word"]) (N0 := ["_law_book", "_law_rows_here", "_law_menu_here", "_law_word", "_law_row", "_law_pieces"]) (sc0 := defScope lWT) rfl (pi_list (pe_callB (call_sortedD rfl) rfl T.sorted b_sorted (pa_cons (pv 1) pa_nil))) (fun _ _ _ => pg_name (i := 0) ndOW rfl (Or.inl rfl)) (fun _ _ _ => pf_one (pt_cmpR op_eq (pe_slice sl_str (pv 0) po_none (po_some (pe_callB call_len_str rfl T.len b_len (pa_cons (pv 1) pa_nil)))) (pv 1) (nomark _))) (fun _ _ _ => pv 0) (gk_name (by decide)) rfl rfl
    (by decide +kernel) rfl (by decide +kernel) (by decide +kernel) rfl (by decide +kernel)) pa_nil))))) (pss_one (ps_ret pe_bl)) pss_nil)))
   (pss_one (ps_ret pe_bl)))))), ?_⟩
  obtain ⟨dx, fs, hx, hno⟩ := hB.at
  have el64 : (es.map (·.1)).length < 64 := few_len hL.w hD.k hD.w
  have uq : ∀ {ts : List Str}, ts.Nodup -> (∀ y, y ∈ ts ↔ ∃ ws ∈ tws ps, y ∈ ws) -> sortedS ts = true -> ∀ {us : List Str}, us.Perm (es.map (·.1)) -> sortedS us = true -> us = ts := fun tn tm tsrt us hp hs => srt_uniq hs tsrt (hp.trans (nd_perm hD.k tn fun y => by rw [hD.w, tm]))
  have tsS : ∀ t : Str, (∃ ws ∈ tws ps, t ∈ ws) -> t.cps.toList.all isS = true := fun t ⟨wl, hwl, ht⟩ => by
   obtain ⟨pr, _, e⟩ := List.mem_map.mp hwl
   subst e
   exact tw_isS ht
  refine ⟨_, rfl, x, dx, _, rfl, hx, hno _ mn, x, ps, rfl, hB, fun l1 ts H1 s1 hl1 e1 tn tm tsrt => ?_⟩
  have tl := few_len hL.w tn tm
  refine ⟨_, rfl, d, _, es.map (·.1), rfl, .inl (s1 _ _ hD.d), dkl_keys es, el64, fun l2 us hl2 hpm hsr => ?_⟩
  have eU := uq tn tm tsrt hpm hsr
  subst eU
  have s2 := s1.trans (same_upd (o := .lst (us.map V.str)) hl2)
  have e1' := same_upd (o := .lst (us.map V.str)) hl2 _ _ e1
  have e2' : upd H1 l2 (.lst (us.map V.str)) l2 = some (.lst (sl us)) := upd_same
  generalize upd H1 l2 (.lst (us.map V.str)) = H2 at s2 e1' e2' ⊢
  refine ⟨l1, l2, rfl, li_strs e1' e2' (by omega) (fun t ht => tsS t ((tm t).mp ht)), fun H3 s3 => ⟨_, rfl, iteF ?_⟩⟩
  have s03 := s2.trans s3
  obtain ⟨w0, hw0'⟩ : ∃ w0, ws[0]? = some w0 := ⟨ws[0], List.getElem?_eq_getElem hw0⟩
  have hm0 : Wm w0 := hWm w0 (List.mem_of_getElem? hw0')
  have hM3 := s03 _ _ hM
  have l0 : (Str.ofString "0").length = 1 := by decide +kernel
  have wl0 := hm0.1
  refine ⟨_, rfl, _, rfl, m, _, _, _, rfl, rfl, SqL.of hM3, atI_nat (j := 0) (by unfold sl; rw [List.getElem?_map, hw0']; rfl), _, _, rfl, rfl, (by rw [l0]; omega), (by show 2 <= sizeLine; omega), fun q1 hq1 => ?_⟩
  have s4 := same_upd (o := .lst [.str (Str.ofString "zz"), .str (w0 ++ Str.ofString "0")]) hq1
  have e4 : upd H3 q1 (.lst [.str (Str.ofString "zz"), .str (w0 ++ Str.ofString "0")]) q1 = some (.lst [.str (Str.ofString "zz"), .str (w0 ++ Str.ofString "0")]) := upd_same
  generalize upd H3 q1 (.lst [.str (Str.ofString "zz"), .str (w0 ++ Str.ofString "0")]) = H4 at s4 e4 ⊢
  have wsl : (sl ws).length = ws.length := List.length_map _
  refine ⟨m, q1, _, _, rfl, rfl, s4 _ _ hM3, e4, (by rw [wsl]; show _ + 2 <= sizeLine; omega), fun q2 hq2 => ?_⟩
  have s5 := same_upd (o := .lst (sl ws ++ [.str (Str.ofString "zz"), .str (w0 ++ Str.ofString "0")])) hq2
  have e5 : upd H4 q2 (.lst (sl ws ++ [.str (Str.ofString "zz"), .str (w0 ++ Str.ofString "0")])) q2 = some (.lst (sl (ws ++ [Str.ofString "zz", w0 ++ Str.ofString "0"]))) := by rw [upd_same]; unfold sl; rw [List.map_append]; rfl
  generalize upd H4 q2 (.lst (sl ws ++ [.str (Str.ofString "zz"), .str (w0 ++ Str.ofString "0")])) = H5 at s5 e5 ⊢
  have s05 := (s03.trans s4).trans s5
  have zzok : WdOk (Str.ofString "zz") := wd_of (by decide +kernel) (by decide +kernel) (by decide +kernel)
  have all1 : ∀ z ∈ ws ++ [Str.ofString "zz", w0 ++ Str.ofString "0"], WdOk z := fun z hz' => by
   rcases List.mem_append.mp hz' with q | q
   ·exact wm_ok (hWm z q)
   ·rcases List.mem_cons.mp q with e | q
    ·rw [e]; exact zzok
    ·rw [List.mem_singleton.mp q]; exact wd_zero hm0
  refine ⟨q2, rfl, ⟨_, SqL.of e5⟩, ?_⟩
  refine for_list (xs := sl (ws ++ [Str.ofString "zz", w0 ++ Str.ofString "0"])) (fun i σ H' => ∃ (o3 o4 : Option V), σ = [some (.ref x), some (.ref d), some (.ref m), o3, o4, none] /\ Same H5 H') ?_ ?_ ?_ ?_
  ·exact ⟨_, _, rfl, fun _ _ h => h⟩
  ·rintro i σ H' _ ⟨_, _, _, sm⟩
   exact SqL.of (sm _ _ e5)
  ·rintro i v σ H' hv ⟨o3, o4, rfl, sm⟩
   obtain ⟨z, hzi, rfl⟩ := sl_get hv
   have hzk : WdOk z := all1 z (List.mem_of_getElem? hzi)
   have hfit : Fit (.str z) := row_fit hzk (by decide)
   have s06 := s05.trans sm
   refine ⟨d, es, tws ps, z, rfl, rfl, hD.same s06, fun r H6 s6 hR => ?_⟩
   have s16 := s06.trans s6
   have hB6 := hB.same s16
   obtain ⟨rl, rp⟩ := rl_len hL z
   refine ⟨_, rfl, x, dx, _, rfl, s16 _ _ hx, hno _ mn, _, rfl, x, ps, _, rfl, hB6, ⟨_, .str _⟩, hfit, (fun z' l7 H7 ez _ s7 hl7 e7 => ?_), fun c => (by rw [hzk] at c; cases c)⟩
   have ez' : z' = z := by injection ez with ez; exact ez.symm
   subst ez'
   have szr := hL.f.sz z'
   refine ⟨_, rfl, r, _, rfl, hR.same s7, Few.ok z', szr, rp, fun l8 H8 s8 hl8 e8 => ?_⟩
   have e7' := s8 _ _ e7
   refine ⟨l7, l8, rfl, li_nats e7' e8 (by have := szr.p; show (pk (rn 0 (rowOf z' (tws ps) 0))).length <= 3000; omega), fun H9 s9 => ⟨_, rfl, iteF ?_⟩⟩
   have s69 := (s7.trans s8).trans s9
   have s19 := s16.trans s69
   refine ⟨_, rfl, x, dx, _, rfl, s19 _ _ hx, hno _ mn, _, rfl, x, ps, _, rfl, hB.same s19, hL.f, ⟨_, .str _⟩, hfit, (fun z2 lA HA eA _ sA hlA hRA => ?_), fun c => (by rw [hzk] at c; cases c)⟩
   have ez2 : z2 = z' := by injection eA with eA; exact eA.symm
   subst ez2
   refine ⟨_, rfl, lA, r, rfl, li_row hRA (hR.same (s69.trans sA)) (by omega), fun HB sB => ⟨_, rfl, iteF ?_⟩⟩
   have s6B := (s69.trans sA).trans sB
   have s1B := s16.trans s6B
   refine ⟨_, rfl, x, dx, _, rfl, s1B _ _ hx, hno _ mn, _, rfl, x, ps, z2, rfl, hB.same s1B, hL.f, hfit, hzk, fun y p HC sC hy hp hWk => ?_⟩
   obtain ⟨dy, hy1⟩ := hWk.ob
   refine ⟨y, dy, _, rfl, hy1, flds_no _ _ (by decide +kernel) (by decide +kernel), y, p, _, 0, rfl, hWk, fun zz HD sD hzz hRD => ?_⟩
   rw [List.drop_zero] at hRD
   refine ⟨_, rfl, _, _, dt_row hRD, dt_row (hR.same ((s6B.trans sC).trans sD)), lay_row _, lay_row _, Nat.le_trans (Nat.min_le_left _ _) (Nat.le_trans (depth_row _) (by decide)), _, rfl, ?_⟩
   rw [eqv_same (lay_row _)]
   exact iteF ⟨_, _, rfl, ((sm.trans s6).trans ((s6B.trans sC).trans sD))⟩
  ·rintro σ H' ⟨o3, o4, rfl, sm⟩
   have s06 := s05.trans sm
   have hM6 := s06 _ _ hM
   refine ⟨_, rfl, m, rfl, ⟨_, SqL.of hM6⟩, ?_⟩
   refine comp_itl (xs := sl ws) (fun i ys G => H' = G /\ ∃ us : List Str, ys = sl us /\ us.length <= i /\ ∀ z ∈ us, WdOk z) (by rw [wsl]; omega) (fun i ys G q => by rw [<- q.1]; exact SqL.of hM6) ⟨rfl, [], rfl, Nat.le_refl _, fun z hz' => nomatch hz'⟩ ?_ ?_
   ·rintro i v ys G N hv ⟨rfl, us, rfl, hul, hok⟩ hN
    obtain ⟨z, hzi, rfl⟩ := sl_get hv
    have hzm : Wm z := hWm z (List.mem_of_getElem? hzi)
    have hzl := hzm.1
    refine ⟨_, rfl, _, rfl, (by omega), _, _, rfl, rfl, _, rfl, ?_⟩
    by_cases h1 : 1 < z.length
    ·rw [decide_eq_true (show (1 : Int) < (z.length : Int) by omega)]
     refine iteT ⟨_, rfl, _, rfl, z, rfl, by omega, hN _ _ ⟨rfl, us ++ [Txt.slice z (some 1) none], by unfold sl; rw [List.map_append]; rfl, by rw [List.length_append]; show us.length + 1 <= i + 1; omega, fun y hy => ?_⟩⟩
     rcases List.mem_append.mp hy with q | q
     ·exact hok y q
     ·rw [List.mem_singleton.mp q]; exact wd_tail hzm h1
    ·rw [decide_eq_false (show ¬ (1 : Int) < (z.length : Int) by omega)]
     exact iteF (hN _ _ ⟨rfl, us, rfl, by omega, hok⟩)
   ·rintro ys G ⟨rfl, u1, rfl, hul1, hok1⟩ _ c1 hc1
    rw [wsl] at hul1
    have t1 := same_upd (o := .lst (sl u1)) hc1
    have f1 : upd H' c1 (.lst (sl u1)) c1 = some (.lst (sl u1)) := upd_same
    generalize upd H' c1 (.lst (sl u1)) = G1 at t1 f1 ⊢
    have hM7 := t1 _ _ hM6
    refine ⟨_, rfl, m, rfl, ⟨_, SqL.of hM7⟩, ?_⟩
    refine comp_itl (xs := sl ws) (fun i ys G => G1 = G /\ ∃ us : List Str, ys = sl us /\ us.length <= i /\ ∀ z ∈ us, WdOk z) (by rw [wsl]; omega) (fun i ys G q => by rw [<- q.1]; exact SqL.of hM7) ⟨rfl, [], rfl, Nat.le_refl _, fun z hz' => nomatch hz'⟩ ?_ ?_
    ·rintro i v ys G N hv ⟨rfl, us, rfl, hul, hok⟩ hN
     obtain ⟨z, hzi, rfl⟩ := sl_get hv
     have hzm : Wm z := hWm z (List.mem_of_getElem? hzi)
     have hzl := hzm.1
     refine g1 ⟨_, rfl, _, rfl, z, rfl, by omega, hN _ _ ⟨rfl, us ++ [Txt.slice z none (some 1)], by unfold sl; rw [List.map_append]; rfl, by rw [List.length_append]; show us.length + 1 <= i + 1; omega, fun y hy => ?_⟩⟩
     rcases List.mem_append.mp hy with q | q
     ·exact hok y q
     ·rw [List.mem_singleton.mp q]; exact wd_head hzm
    ·rintro ys G ⟨rfl, u2, rfl, hul2, hok2⟩ _ c2 hc2
     rw [wsl] at hul2
     have t2 := same_upd (o := .lst (sl u2)) hc2
     have f2 : upd G1 c2 (.lst (sl u2)) c2 = some (.lst (sl u2)) := upd_same
     generalize upd G1 c2 (.lst (sl u2)) = G2 at t2 f2 ⊢
     have sl1 : (sl u1).length = u1.length := List.length_map _
     have sl2 : (sl u2).length = u2.length := List.length_map _
     refine ⟨c1, c2, _, _, rfl, rfl, t2 _ _ f1, f2, by rw [sl1, sl2]; omega, fun pc hpc => ?_⟩
     have t3 := same_upd (o := .lst (sl u1 ++ sl u2)) hpc
     have f3 : upd G2 pc (.lst (sl u1 ++ sl u2)) pc = some (.lst (sl (u1 ++ u2))) := by rw [upd_same]; unfold sl; rw [List.map_append]
     generalize upd G2 pc (.lst (sl u1 ++ sl u2)) = G3 at t3 f3 ⊢
     have s08 := ((s06.trans t1).trans t2).trans t3
     have hM8 := s08 _ _ hM
     have sl3 : (sl (u1 ++ u2)).length = u1.length + u2.length := by unfold sl; rw [List.length_map, List.length_append]
     refine ⟨_, rfl, _, rfl, m, pc, _, _, rfl, rfl, hM8, f3, by rw [wsl, sl3]; omega, fun b1 hb1 => ?_⟩
     have t4 := same_upd (o := .lst (sl ws ++ sl (u1 ++ u2))) hb1
     have f4 : upd G3 b1 (.lst (sl ws ++ sl (u1 ++ u2))) b1 = some (.lst (sl (ws ++ (u1 ++ u2)))) := by rw [upd_same]; unfold sl; rw [<- List.map_append]
     generalize upd G3 b1 (.lst (sl ws ++ sl (u1 ++ u2))) = G4 at t4 f4 ⊢
     refine ⟨_, rfl, m, _, _, _, rfl, rfl, SqL.of (t4 _ _ hM8), atI_nat (j := 0) (by unfold sl; rw [List.getElem?_map, hw0']; rfl), _, _, rfl, rfl, (by rw [l0]; omega), (by show 2 <= sizeLine; omega), fun b2 hb2 => ?_⟩
     have t5 := same_upd (o := .lst [.str (Str.ofString "zz"), .str (w0 ++ Str.ofString "0")]) hb2
     have f5 : upd G4 b2 (.lst [.str (Str.ofString "zz"), .str (w0 ++ Str.ofString "0")]) b2 = some (.lst [.str (Str.ofString "zz"), .str (w0 ++ Str.ofString "0")]) := upd_same
     generalize upd G4 b2 (.lst [.str (Str.ofString "zz"), .str (w0 ++ Str.ofString "0")]) = G5 at t5 f5 ⊢
     have sl4 : (sl (ws ++ (u1 ++ u2))).length = ws.length + (u1.length + u2.length) := by unfold sl; rw [List.length_map, List.length_append, List.length_append]
     refine ⟨b1, b2, _, _, rfl, rfl, t5 _ _ f4, f5, by rw [sl4]; show _ + 2 <= sizeLine; omega, fun b3 hb3 => ?_⟩
     have t6 := same_upd (o := .lst (sl (ws ++ (u1 ++ u2)) ++ [.str (Str.ofString "zz"), .str (w0 ++ Str.ofString "0")])) hb3
     have f6 : upd G5 b3 (.lst (sl (ws ++ (u1 ++ u2)) ++ [.str (Str.ofString "zz"), .str (w0 ++ Str.ofString "0")])) b3 = some (.lst (sl (ws ++ (u1 ++ u2) ++ [Str.ofString "zz", w0 ++ Str.ofString "0"]))) := by rw [upd_same]; unfold sl; rw [List.map_append (l₂ := [Str.ofString "zz", w0 ++ Str.ofString "0"])]; rfl
     generalize upd G5 b3 (.lst (sl (ws ++ (u1 ++ u2)) ++ [.str (Str.ofString "zz"), .str (w0 ++ Str.ofString "0")])) = G6 at t6 f6 ⊢
     have s09 := ((s08.trans t4).trans t5).trans t6
     have all2 : ∀ z ∈ ws ++ (u1 ++ u2) ++ [Str.ofString "zz", w0 ++ Str.ofString "0"], WdOk z := fun z hz' => by
      rcases List.mem_append.mp hz' with q | q
      ·rcases List.mem_append.mp q with q | q
       ·exact wm_ok (hWm z q)
       ·rcases List.mem_append.mp q with q | q
        ·exact hok1 z q
        ·exact hok2 z q
      ·rcases List.mem_cons.mp q with e | q
       ·rw [e]; exact zzok
       ·rw [List.mem_singleton.mp q]; exact wd_zero hm0
     refine ⟨b3, rfl, ⟨_, SqL.of f6⟩, ?_⟩
     refine for_list (xs := sl (ws ++ (u1 ++ u2) ++ [Str.ofString "zz", w0 ++ Str.ofString "0"])) (fun i σ G => ∃ (o3 : Option V), σ = [some (.ref x), some (.ref d), some (.ref m), o3, o4, some (.ref pc)] /\ Same G6 G) ?_ ?_ ?_ ?_
     ·exact ⟨_, rfl, fun _ _ h => h⟩
     ·rintro i σ G _ ⟨_, _, sm⟩
      exact SqL.of (sm _ _ f6)
     ·rintro i v σ G hv ⟨o3, rfl, sm⟩
      obtain ⟨z, hzi, rfl⟩ := sl_get hv
      have hzk : WdOk z := all2 z (List.mem_of_getElem? hzi)
      have hfit : Fit (.str z) := row_fit hzk (by decide)
      have s0G := s09.trans sm
      refine ⟨_, rfl, x, dx, _, rfl, s0G _ _ hx, hno _ mn, _, rfl, x, ps, z, rfl, hB.same s0G, hL.w, hfit, hzk, fun lS ts HS sS hlS eS tn tm tsrt => ?_⟩
      have s0S := s0G.trans sS
      have tl := few_len hL.w tn tm
      refine ⟨_, rfl, d, _, es.map (·.1), rfl, .inl (s0S _ _ hD.d), dkl_keys es, el64, fun lU us hlU hpm hsr => ?_⟩
      have eU := uq tn tm tsrt hpm hsr
      subst eU
      have tU := same_upd (o := .lst (us.map V.str)) hlU
      have eUl : upd HS lU (.lst (us.map V.str)) lU = some (.lst (sl us)) := upd_same
      generalize upd HS lU (.lst (us.map V.str)) = HU at tU eUl ⊢
      refine ⟨lU, rfl, ⟨_, SqL.of eUl⟩, ?_⟩
      have slu : (sl us).length = us.length := List.length_map _
      have zl : z.length <= 2000 := by
       have h' : (decide (1 <= z.length) && decide (z.length <= 2000) && z.cps.toList.all isS) = true := hzk
       rw [Bool.and_eq_true, Bool.and_eq_true, decide_eq_true_eq, decide_eq_true_eq] at h'
       exact h'.1.2
      have ylen : ∀ y ∈ us, y.length <= 3000 := fun y hy => by
       obtain ⟨wl, hwl, hyw⟩ := (tm y).mp hy
       obtain ⟨pr, hpr, e⟩ := List.mem_map.mp hwl
       subst e
       exact tw_ylen hL.g hpr hyw
      refine comp_itl (xs := sl us) (fun i ys G' => HU = G' /\ ys = sl ((us.take i).filter fun y => Txt.startswith y z)) (by rw [slu]; omega) (fun i ys G' q => by rw [<- q.1]; exact SqL.of eUl) ⟨rfl, rfl⟩ ?_ ?_
      ·rintro i v ys G' N hv ⟨rfl, rfl⟩ hN
       obtain ⟨y, hy, rfl⟩ := sl_get hv
       have hyl := ylen y (List.mem_of_getElem? hy)
       refine ⟨_, rfl, _, rfl, _, rfl, (by omega), _, rfl, y, rfl, (by omega), _, rfl, rfl, _, rfl, ?_⟩
       rw [<- starts_eq y z (by omega)]
       have tk : (us.take (i + 1)).filter (fun y => Txt.startswith y z) = (us.take i).filter (fun y => Txt.startswith y z) ++ (if Txt.startswith y z = true then [y] else []) := by
        rw [take_snoc hy, List.filter_append]
        congr 1
        rw [List.filter_cons]
        split <;> rfl
       cases hs : Txt.startswith y z with
       | true =>
        rw [hs, if_pos rfl] at tk
        exact iteT ⟨_, rfl, hN _ _ ⟨rfl, by rw [tk]; unfold sl; rw [List.map_append]; rfl⟩⟩
       | false =>
        rw [hs, if_neg (by decide), List.append_nil] at tk
        exact iteF (hN _ _ ⟨rfl, by rw [tk]⟩)
      ·rintro ys G' ⟨rfl, rfl⟩ _ lF hlF
       rw [slu, List.take_of_length_le (Nat.le_refl _)]
       have tF := same_upd (o := .lst (sl (us.filter fun y => Txt.startswith y z))) hlF
       refine ⟨lS, lF, rfl, li_strs (tF _ _ (tU _ _ eS)) upd_same (by have := List.length_filter_le (fun y => Txt.startswith y z) us; omega) (fun t ht => tsS t ((tm t).mp (List.mem_filter.mp ht).1)), fun HX sX => ⟨_, rfl, iteF ⟨_, rfl, ?_⟩⟩⟩
       exact (((sm.trans sS).trans tU).trans tF).trans sX
     ·rintro σ G ⟨o3, rfl, sm⟩
      exact kk G (s09.trans sm)
end
theorem kp_inj : ∀ {a b : List (Str × Str)}, a.map kp = b.map kp -> a = b
 | [], [], _ => rfl
 | [], _ :: _, h => by cases h
 | _ :: _, [], h => by cases h
 | x :: a, y :: b, h => by
  rw [List.map_cons, List.map_cons] at h
  obtain ⟨h1, h2⟩ := List.cons.inj h
  obtain ⟨h3, h4⟩ := Prod.mk.inj h1
  have e : x = y := Prod.ext (V.str.inj h3) (V.str.inj h4)
  rw [e, kp_inj h2]
theorem good_none : ∀ {ps : List (Str × Str)} {seen : List Str}, (∀ p ∈ ps, rowV 12 (.str p.1) = true /\ txtV (.str p.2) = true) -> (∀ p ∈ ps, p.1 ∉ seen) -> (ps.map (·.1)).Nodup -> badOf seen (ps.map kp) = none
 | [], _, _, _, _ => rfl
 | p :: r, seen, h1, h2, h3 => by
  obtain ⟨a, b⟩ := h1 p List.mem_cons_self
  obtain ⟨n1, n2⟩ := List.nodup_cons.mp h3
  show (if rowV 12 (.str p.1) = false then some 0 else if txtV (.str p.2) = false then some 1 else if p.1 ∈ seen then some 2 else badOf (seen ++ [p.1]) (r.map kp)) = none
  rw [if_neg (by rw [a]; decide), if_neg (by rw [b]; decide), if_neg (h2 p List.mem_cons_self)]
  refine good_none (fun q hq => h1 q (List.mem_cons_of_mem _ hq)) (fun q hq z => ?_) n2
  rcases List.mem_append.mp z with z | z
  ·exact h2 q (List.mem_cons_of_mem _ hq) z
  ·exact n1 (List.mem_map.mpr ⟨q, hq, List.mem_singleton.mp z⟩)
theorem good_bad {ps : List (Str × Str)} (h : GoodPs ps) : badOf [] (ps.map kp) = none := good_none h.g (fun p _ z => nomatch z) h.n
def tp (H : Hp) : Hp := fun b => match H b with
 | some (.tup xs) => some (.tup xs)
 | _ => none
theorem tp_at {H : Hp} {b : Addr} {xs : List V} (h : H b = some (.tup xs)) : tp H b = some (.tup xs) := by unfold tp; rw [h]
theorem tp_to {H : Hp} : Same (tp H) H := fun b u e => by
 unfold tp at e
 split at e
 ·rename_i xs h
  rw [h]
  exact e
 ·cases e
theorem tp_mono {H H' : Hp} (h : ∀ b xs, H b = some (.tup xs) -> H' b = some (.tup xs)) : Same (tp H) (tp H') := fun b u e => by
 unfold tp at e
 split at e
 ·rename_i xs hb
  cases e
  exact tp_at (h b xs hb)
 ·cases e
theorem Same.tp {H H' : Hp} (s : Same H H') : Same (tp H) (tp H') := tp_mono fun b xs e => s _ _ e
theorem seqT_same {K : PySem.W.Frag} {H H' : Hp} {a : Addr} {xs : List V} (e : Same H H') (h : SqT K H a xs) : SqT K H' a xs := by
 rcases h with (h | ⟨o, h⟩) | h
 ·exact .inl (.inl (e _ _ h))
 ·exact .inl (.inr ⟨o, e _ _ h⟩)
 ·exact .inr h
mutual
theorem dtv_same {K : PySem.W.Frag} {H H' : Hp} (s : Same H H') : ∀ {x : V} {d : PyData}, DtV K H x d -> DtV K H' x d
 | _, _, .non => .non
 | _, _, .bl b => .bl b
 | _, _, .int i => .int i
 | _, _, .str x => .str x
 | _, _, .lst h hs => .lst (s.seq h) (dtvs_same s hs)
 | _, _, .tup h hs => .tup (seqT_same s h) (dtvs_same s hs)
theorem dtvs_same {K : PySem.W.Frag} {H H' : Hp} (s : Same H H') : ∀ {xs : List V} {ds : List PyData}, DtVs K H xs ds -> DtVs K H' xs ds
 | _, _, .nil => .nil
 | _, _, .cons h hs => .cons (dtv_same s h) (dtvs_same s hs)
end
theorem dtvs_app {K : PySem.W.Frag} {H : Hp} : ∀ {xs : List V} {ds : List PyData} {x : V} {d : PyData}, DtVs K H xs ds -> DtV K H x d -> DtVs K H (xs ++ [x]) (ds ++ [d])
 | _, _, _, _, .nil, h => .cons h .nil
 | _, _, _, _, .cons a as, h => .cons a (dtvs_app as h)
theorem lay_app : ∀ {ds : List PyData} {d : PyData}, PyData.canLayAll0 ds = true -> d.canLay0 = true -> PyData.canLayAll0 (ds ++ [d]) = true
 | [], d, _, h => by show (d.canLay0 && true) = true; rw [h]; rfl
 | e :: ds, d, h1, h => by
  have h1' : (e.canLay0 && PyData.canLayAll0 ds) = true := h1
  rw [Bool.and_eq_true] at h1'
  show (e.canLay0 && PyData.canLayAll0 (ds ++ [d])) = true
  rw [h1'.1, lay_app h1'.2 h]
  rfl
theorem dep_app : ∀ {ds : List PyData} {d : PyData} {n : Nat}, PyData.depthAll ds <= n -> d.depth <= n -> PyData.depthAll (ds ++ [d]) <= n
 | [], d, n, _, h => by show max d.depth 0 <= n; omega
 | e :: ds, d, n, h1, h => by
  have h1' : max e.depth (PyData.depthAll ds) <= n := h1
  have := dep_app (ds := ds) (n := n) (d := d) (by omega) h
  show max e.depth (PyData.depthAll (ds ++ [d])) <= n
  omega
def LO (K : PySem.W.Frag) (H : Hp) (l : Addr) : Prop := ∃ xs ds, H l = some (.lst xs) /\ xs.length <= 3000 /\ DtVs K (tp H) xs ds /\ PyData.canLayAll0 ds = true /\ PyData.depthAll ds <= 8
theorem LO.same {K : PySem.W.Frag} {H H' : Hp} {l : Addr} (h : LO K H l) (s : Same H H') : LO K H' l := by
 obtain ⟨xs, ds, h1, h2, h3, h4, h5⟩ := h
 exact ⟨xs, ds, s _ _ h1, h2, dtvs_same (Same.tp s) h3, h4, h5⟩
theorem LO.but {K : PySem.W.Frag} {H H' : Hp} {l s : Addr} {zs : List V} (h : LO K H l) (sb : SameBut s H H') (hs : H s = some (.lst zs)) (n : l ≠ s) : LO K H' l := by
 obtain ⟨xs, ds, h1, h2, h3, h4, h5⟩ := h
 exact ⟨xs, ds, sb _ _ h1 n, h2, dtvs_same (tp_mono fun b ys e => sb _ _ e fun z => by rw [z, hs] at e; cases e) h3, h4, h5⟩
theorem lo_strs {K : PySem.W.Frag} {H : Hp} {l : Addr} {ts : List Str} (h : H l = some (.lst (sl ts))) (hl : ts.length <= 3000) (hc : ∀ t ∈ ts, t.cps.toList.all isS = true) : LO K H l := by
 refine ⟨_, _, h, by unfold sl; rw [List.length_map]; exact hl, dt_sl ts, lay_strs ts fun n hn => isS_lay (hc n hn), ?_⟩
 have : PyData.depthAll (ts.map PyData.str) + 1 <= 2 := depth_sl ts
 omega
theorem lo_nats {K : PySem.W.Frag} {H : Hp} {l : Addr} {ns : List Nat} (h : H l = some (.lst (nl ns))) (hl : ns.length <= 3000) : LO K H l := by
 refine ⟨_, _, h, by rw [nl_len]; exact hl, dt_nl ns, lay_nl ns, ?_⟩
 have : PyData.depthAll (dN ns) + 1 <= 2 := depth_nl ns
 omega
theorem lo_row {K : PySem.W.Frag} {H : Hp} {l : Addr} {row : List Pr} (h : RowAt H l row) (hl : row.length <= 3000) : LO K H l := by
 obtain ⟨xs, e, p⟩ := h
 have hlen := Gn.Paired.len p
 refine ⟨xs, row.map dPr, e, by omega, ?_, lay_row row, ?_⟩
 ·clear e hl hlen
  induction p with
  | nil => exact .nil
  | cons r _ ih =>
   cases r with
   | mk h ht => exact .cons (.tup (SqT.of (tp_at h)) (.cons (.int _) (.cons (.tup (SqT.of (tp_at ht)) (dt_nl _)) .nil))) ih
 ·have : PyData.depthAll (row.map dPr) + 1 <= 4 := depth_row row
  omega
def HeldOk (K : PySem.W.Frag) (S : List Addr) (H : Hp) (hs : List V) : Prop := ∀ v ∈ hs, ∃ p t k xs ds, v = .ref p /\ H p = some (.tup [.ref t, .ref k]) /\ H t = some (.lst xs) /\ H k = some (.lst xs) /\ DtVs K (tp H) xs ds /\ PyData.canLayAll0 ds = true /\ PyData.depthAll ds <= 8 /\ ∀ s ∈ S, t ≠ s /\ k ≠ s
theorem HeldOk.same {K : PySem.W.Frag} {S : List Addr} {H H' : Hp} {hs : List V} (h : HeldOk K S H hs) (s : Same H H') : HeldOk K S H' hs := fun v hv => by
 obtain ⟨p, t, k, xs, ds, e, h1, h2, h3, h4, h5, h6, h7⟩ := h v hv
 exact ⟨p, t, k, xs, ds, e, s _ _ h1, s _ _ h2, s _ _ h3, dtvs_same (Same.tp s) h4, h5, h6, h7⟩
theorem HeldOk.but {K : PySem.W.Frag} {S : List Addr} {H H' : Hp} {hs : List V} {a : Addr} {zs : List V} (h : HeldOk K S H hs) (ha : a ∈ S) (sb : SameBut a H H') (hz : H a = some (.lst zs)) : HeldOk K S H' hs := fun v hv => by
 obtain ⟨p, t, k, xs, ds, e, h1, h2, h3, h4, h5, h6, h7⟩ := h v hv
 have nt : ∀ {b : Addr} {ys : List V}, H b = some (.tup ys) -> b ≠ a := fun {b ys} q z => by rw [z, hz] at q; cases q
 exact ⟨p, t, k, xs, ds, e, sb _ _ h1 (nt h1), sb _ _ h2 (h7 a ha).1, sb _ _ h3 (h7 a ha).2, dtvs_same (tp_mono fun b ys q => sb _ _ q (nt q)) h4, h5, h6, h7⟩
theorem HeldOk.ins {K : PySem.W.Frag} {S : List Addr} {H H' : Hp} {hs : List V} {a C dx : Addr} {fs : List (Str × V)} (h : HeldOk K S H hs) (sb : SameBut a H H') (hz : H a = some (.ins C dx fs)) : HeldOk K S H' hs := fun v hv => by
 obtain ⟨p, t, k, xs, ds, e, h1, h2, h3, h4, h5, h6, h7⟩ := h v hv
 have nt : ∀ {b : Addr} {u : HO}, H b = some u -> (∀ C dx fs, u ≠ .ins C dx fs) -> b ≠ a := fun {b u} q n z => by rw [z, hz] at q; exact n _ _ _ (Option.some.inj q).symm
 exact ⟨p, t, k, xs, ds, e, sb _ _ h1 (nt h1 (by intro _ _ _ z; cases z)), sb _ _ h2 (nt h2 (by intro _ _ _ z; cases z)), sb _ _ h3 (nt h3 (by intro _ _ _ z; cases z)), dtvs_same (tp_mono fun b ys q => sb _ _ q (nt q (by intro _ _ _ z; cases z))) h4, h5, h6, h7⟩
theorem HeldOk.less {K : PySem.W.Frag} {S S' : List Addr} {H : Hp} {hs : List V} (h : HeldOk K S H hs) (hS : ∀ s ∈ S', s ∈ S) : HeldOk K S' H hs := fun v hv => by
 obtain ⟨p, t, k, xs, ds, e, h1, h2, h3, h4, h5, h6, h7⟩ := h v hv
 exact ⟨p, t, k, xs, ds, e, h1, h2, h3, h4, h5, h6, fun s hs => h7 s (hS s hs)⟩
theorem HeldOk.more {K : PySem.W.Frag} {S S' : List Addr} {H : Hp} {hs : List V} (h : HeldOk K S H hs) (hS : ∀ s ∈ S', s ∈ S \/ H s = none) : HeldOk K S' H hs := fun v hv => by
 obtain ⟨p, t, k, xs, ds, e, h1, h2, h3, h4, h5, h6, h7⟩ := h v hv
 refine ⟨p, t, k, xs, ds, e, h1, h2, h3, h4, h5, h6, fun s hs => ?_⟩
 rcases hS s hs with q | q
 ·exact h7 s q
 ·exact ⟨ne_of_none h2 q, ne_of_none h3 q⟩
def dPs (ps : List (Str × Str)) : List PyData := ps.map fun p => .tuple [.str p.1, .str p.2]
theorem dt_ps {K : PySem.W.Frag} {H : Hp} : ∀ {xs : List V} {ps : List (Str × Str)}, PairsV H xs (ps.map kp) -> DtVs K H xs (dPs ps)
 | [], [], _ => .nil
 | _ :: _, [], h => by cases h
 | [], _ :: _, h => by cases h
 | x :: xs, p :: ps, h => by
  cases h with
  | cons h t =>
   obtain ⟨q, rfl, hq⟩ := h
   exact .cons (.tup (SqT.of hq) (.cons (.str _) (.cons (.str _) .nil))) (dt_ps t)
theorem lay_ps : ∀ {ps : List (Str × Str)}, (∀ p ∈ ps, rowV 12 (.str p.1) = true /\ txtV (.str p.2) = true) -> (PyData.list (dPs ps)).canLay0 = true
 | [], _ => rfl
 | p :: ps, h => by
  obtain ⟨h1, h2⟩ := h p List.mem_cons_self
  have a1 : (PyData.str p.1).canLay0 = true := isS_lay (by
   have h' : (decide (1 <= p.1.length) && decide (p.1.length <= 12) && p.1.cps.toList.all isS) = true := h1
   rw [Bool.and_eq_true] at h'
   exact h'.2)
  have a2 : (PyData.str p.2).canLay0 = true := lay_str fun c hc => by
   have h' : (decide (p.2.length <= 2000) && p.2.cps.toList.all okC) = true := h2
   rw [Bool.and_eq_true] at h'
   have := ok_lt (List.all_eq_true.mp h'.2 c hc)
   omega
  show (((PyData.str p.1).canLay0 && ((PyData.str p.2).canLay0 && true)) && (PyData.list (dPs ps)).canLay0) = true
  rw [a1, a2, lay_ps fun q hq => h q (List.mem_cons_of_mem _ hq)]
  rfl
theorem depth_ps : ∀ ps : List (Str × Str), (PyData.list (dPs ps)).depth <= 3
 | [] => by decide
 | p :: ps => by
  show max (max 0 (max 0 0) + 1) (PyData.depthAll (dPs ps)) + 1 <= 3
  have ih : PyData.depthAll (dPs ps) + 1 <= 3 := depth_ps ps
  omega
theorem lps_rev {ps : List (Str × Str)} (h : LPs ps) : LPs ps.reverse := by
 have hm : ∀ x, x ∈ ps.reverse ↔ x ∈ ps := fun x => List.mem_reverse
 have et : tws ps.reverse = (tws ps).reverse := by unfold tws; rw [List.map_reverse]
 refine ⟨⟨fun p hp => h.g.g p ((hm p).mp hp), by rw [List.map_reverse]; exact (List.reverse_perm _).nodup_iff.mpr h.g.n⟩, ?_, ?_, by rw [List.length_reverse]; exact h.l⟩
 ·rw [et]
  refine ⟨by rw [List.length_reverse]; exact h.f.l, ?_⟩
  have e : BK.tot (tws ps).reverse = BK.tot (tws ps) := by unfold BK.tot; rw [List.map_reverse, List.sum_reverse]
  rw [e]
  exact h.f.t
 ·rw [et]
  obtain ⟨us, h1, h2⟩ := h.w
  exact ⟨us, h1, fun ws hw => h2 ws (List.mem_reverse.mp hw)⟩
theorem prs_rev {H : Hp} {xs : List V} {ps : List (Str × Str)} (h : PairsV H xs (ps.map kp)) : PairsV H xs.reverse (ps.reverse.map kp) := by
 rw [List.map_reverse]
 exact rev_paired h
where
 rev_paired {α β : Type} {F : α -> β -> Prop} : ∀ {l : List α} {m : List β}, Paired F l m -> Paired F l.reverse m.reverse
  | _, _, .nil => .nil
  | _, _, .cons h t => by
   rw [List.reverse_cons, List.reverse_cons]
   exact Gn.Paired.app (rev_paired t) h
section
variable {P : Program} {w : World} {K : PySem.W.Frag} {mg : Str -> Option Value} {base : Heap} {C CWk CN CNo CW CK CT C2 : Addr}
theorem mk_book {H : Hp} {a x dx : Addr} {xs : List V} {ps : List (Str × Str)} {R : Hp -> Prop} {E : XK} (hA : H a = some (.lst xs)) (hP : PairsV H xs (ps.map kp)) (hL : LPs ps) (hx : H x = none) (hdx : H dx = none) (hne : dx ≠ x)
  (k : ∀ H', Same H H' -> BookAt C H' x ps -> (∀ h l0 l1, H h = some (.lst l0) -> BookAt C (upd H' h (.lst l1)) x ps) -> R H') :
  spBInit K C CK CT C2 [.ref x, .ref a, .non] (upd (upd H dx (.own x)) x (.ins C dx [])) (fun v H2 => v = .non /\ R H2) E := by
 have up : Same H (upd (upd H dx (.own x)) x (.ins C dx [])) := fun b u e => by rw [upd_ne (ne_of_none e hx), upd_ne (ne_of_none e hdx)]; exact e
 refine ⟨x, a, dx, .non, xs, ps.map kp, rfl, upd_same, up _ _ hA, hP.same up, by rw [List.length_map]; have := hL.l; omega, fun kt hkt => ?_, fun ps' e hg => ?_, fun i hi => ?_, fun ps' e hg H' hB hN fr => ?_⟩
 ·obtain ⟨p, hp, rfl⟩ := List.mem_map.mp hkt
  obtain ⟨h1, h2⟩ := hL.g.g p hp
  refine ⟨⟨_, .str _⟩, row_fit h1 (by decide), ⟨_, .str _⟩, fun z e => ?_⟩
  injection e with e
  subst e
  have h' : (decide (p.2.length <= 2000) && p.2.cps.toList.all okC) = true := h2
  rw [Bool.and_eq_true, decide_eq_true_eq] at h'
  omega
 ·have := kp_inj e
  subst this
  exact ⟨hL.f, hL.w, .inl rfl⟩
 ·rw [good_bad hL.g] at hi
  cases hi
 ·have := kp_inj e
  subst this
  exact ⟨rfl, k H' (fun b u e' => fr b u (up _ _ e') (ne_of_none e' hx) (by intro z; cases z)) hB fun h l0 l1 hh => hN rfl h l0 l1 (up _ _ hh)⟩
def spTells (C : Addr) : Sp := fun vs H Q _ => ∃ (x a m : Addr) (n : Int) (xs : List V) (ps : List (Str × Str)) (ws : List Str), vs = [.ref x, .ref a, .ref m, .int n] /\ BookAt C H x ps /\ LPs ps /\ H a = some (.lst xs) /\ PairsV H xs (ps.map kp) /\ H m = some (.lst (sl ws)) /\ 0 < ws.length /\ ws.length <= 10 /\ (∀ z ∈ ws, Wm z) /\ ∀ H', Same H H' -> Q (.bl true) H'
theorem scTl : FnScope ["_law_book", "_law_pairs_here", "_law_menu_here", "_law_turn", "_law_rows_here", "_law_k"] ["_law_book", "_law_pairs_here", "_law_menu_here", "_law_turn"] (defScope lTells) := ⟨rfl, rfl, rfl, by decide +kernel, rfl, by decide +kernel, by decide +kernel⟩
seal PSs PS PE PT PA PG PI PGs PIfs in
theorem ok_tl {f fr ft fw : Addr} {fd fdr fdt fdw : FuncData} (D : Df K mg "_law_tells" lTells f fd) (DRw : Df K mg "_law_rows" lRows fr fdr) (GRw : FnOk P w K mg base CX0 3 fr fdr ["_law_pairs_here"] spRowsL) (DTT : Df K mg "_law_texts_told" lTT ft fdt) (GTT : FnOk P w K mg base CX0 5 ft fdt ["_law_book", "_law_pairs_here"] (spTT C))
  (DWT : Df K mg "_law_words_told" lWT fw fdw) (GWT : FnOk P w K mg base CX0 8 fw fdw ["_law_book", "_law_rows_here", "_law_menu_here"] (spWT C)) (T : Txt mg) : FnOk P w K mg base CX0 9 f fd ["_law_book", "_law_pairs_here", "_law_menu_here", "_law_turn"] (spTells C) := by
 have bRw := binds1 (p := "_law_pairs_here") DRw.F fun _ _ _ _ _ _ _ => rfl
 have bTT := DTT.F.binds (ps := ["_law_book", "_law_pairs_here"]) fun _ _ _ _ _ _ us hl => us2 (fun _ _ => rfl) us hl
 have bWT := DWT.F.binds (ps := ["_law_book", "_law_rows_here", "_law_menu_here"]) fun _ _ _ _ _ _ us hl => us3 (fun _ _ _ => rfl) us hl
 refine D.F.ok scTl (fun vs H Q E h => ?_) (fun cdv A outer s H vs Q E hr h => ?_)
 ·obtain ⟨x, a, m, n, xs, ps, ws, rfl, _⟩ := h
  rfl
 ·obtain ⟨x, a, m, n, xs, ps, ws, rfl, hB, hL, hA, hP, hM, hw0, hw10, hWm, kk⟩ := h
  refine ⟨_, (pss_cons (ps_set (i := 4) scTl.nd rfl (Or.inl rfl) (pe_call (GRw.mono (by decide)) hr rfl DRw.m DRw.F.kp bRw .nil pass0 (pa_cons (pv 1) pa_nil)))
   (pss_cons (ps_for PassesOwn.never rfl (pi_range1 rfl T.range (pa_cons pe_int pa_nil)) (pg_name (i := 5) scTl.nd rfl (Or.inl rfl)) (pss_cons (ps_if (PW.pt (pw_and (pt_cmpR op_eq (pe_op op_mod (pe_op op_add (pv 3) (pv 5)) pe_int) pe_int (nomark _)) (pw_and1 (pt_not (pt_val (pe_call (GTT.mono (by decide)) hr rfl DTT.m DTT.F.kp bTT .nil pass0 (pa_cons (pv 0) (pa_cons (pv 1) pa_nil)))))))) (pss_one (ps_ret pe_bl)) pss_nil)
   (pss_one (ps_if (PW.pt (pw_and (pt_cmpR op_eq (pe_op op_mod (pe_op op_add (pv 3) (pv 5)) pe_int) pe_int (nomark _)) (pw_and1 (pt_not (pt_val (pe_call GWT hr rfl DWT.m DWT.F.kp bWT .nil pass0 (pa_cons (pv 0) (pa_cons (pv 4) (pa_cons (pv 2) pa_nil))))))))) (pss_one (ps_ret pe_bl)) pss_nil))))
   (pss_one (ps_ret pe_bl)))), ?_⟩
  refine ⟨_, rfl, a, xs, ps, rfl, hA, hP, (fun p hp => (hL.g.g p hp).2), hL.f, fun d es H1 s1 hd hD hin => ?_⟩
  have hR : RwD H1 d (tws ps) es := ⟨hD.d, hD.k, hin, fun e he => hD.f e he⟩
  refine ⟨2, rfl, by decide, by decide, for_range (fun i σ H' => ∃ (o5 : Option V), σ = [some (.ref x), some (.ref a), some (.ref m), some (.int n), some (.ref d), o5] /\ Same H1 H') ?_ ?_ ?_⟩
  ·exact ⟨_, rfl, fun _ _ h => h⟩
  ·rintro i σ H' hi ⟨o5, rfl, sm⟩
   have s2 := s1.trans sm
   rw [Int.zero_add]
   have par : (n + (i : Int)) % 2 = 0 \/ (n + (i : Int)) % 2 = 1 := by omega
   refine ⟨_, rfl, _, rfl, _, _, rfl, rfl, _, _, rfl, rfl, (by show (0 : Int) < 2; decide), rfl, _, rfl, ?_⟩
   rcases par with h0 | h1
   ·rw [dec_i h0]
    refine iteT ⟨_, rfl, _, rfl, x, a, xs, ps, rfl, hB.same s2, hL, s2 _ _ hA, hP.same s2, fun H2 s3 => ⟨_, rfl, iteF ?_⟩⟩
    refine ⟨_, rfl, _, rfl, _, _, rfl, rfl, _, _, rfl, rfl, (by show (0 : Int) < 2; decide), rfl, _, rfl, ?_⟩
    rw [dec_n (by omega)]
    exact iteF (iteF ⟨_, rfl, sm.trans s3⟩)
   ·rw [dec_n (by omega)]
    refine iteF (iteF ?_)
    refine ⟨_, rfl, _, rfl, _, _, rfl, rfl, _, _, rfl, rfl, (by show (0 : Int) < 2; decide), rfl, _, rfl, ?_⟩
    rw [dec_i h1]
    exact iteT ⟨_, rfl, _, rfl, _, rfl, x, d, m, ps, es, ws, rfl, hB.same s2, hL, hR.same sm, s2 _ _ hM, hw0, hw10, hWm, fun H2 s3 => ⟨_, rfl, iteF ⟨_, rfl, sm.trans s3⟩⟩⟩
  ·rintro σ H' ⟨o5, rfl, sm⟩
   exact kk H' (s1.trans sm)
end
section
variable {P : Program} {w : World} {K : PySem.W.Frag} {mg : Str -> Option Value} {base : Heap} {C CWk CN CNo CW CK CT C2 : Addr}
theorem ndTK : (["_law_told", "_law_kept"] : List Str).Nodup := by decide +kernel
def tRep : TE := fun σ H Q => ∃ (l : Addr) (c : Int) (xs : List V) (ps : List (Str × Str)), σ[2]? = some (some (.ref l)) /\ σ[3]? = some (some (.int c)) /\ H l = some (.lst xs) /\ PairsV H xs (ps.map kp) /\ xs.length <= 1000 /\
 ∀ p xs' H', Same H H' -> H' p = some (.lst xs') -> PairsV H' xs' ((if c = 2 then [] else ps).map kp) -> xs'.length <= 1000 -> Q (.ref p) H'
theorem repL {σ : L2.St} {H : Hp} {Q : VK} (h : tRep σ H Q) : tOp rRep (tVar 2) (tCB (fun xs H Q => (∃ i, xs = [.int i] /\ Q (.int i) H) \/ ∃ k, xs = [.bl k] /\ Q (.int (if k then 1 else 0)) H) (tCons (tOp rNe (tVar 3) (tC (.int 2))) tNil)) σ H Q := by
 obtain ⟨l, c, xs, ps, e2, e3, hl, hP, hx, kk⟩ := h
 have hz : (sizeLine : Nat) = 16777216 := sizeLine_eq
 refine ⟨_, e2, _, e3, rfl, .inr ⟨_, rfl, ?_⟩⟩
 by_cases h2 : c = 2
 ·rw [dec_i h2]
  refine ⟨l, 0, xs, rfl, rfl, hl, by decide, by decide, by show xs.length * 0 <= sizeLine; omega, fun p hp => kk p [] _ (same_upd hp) upd_same ?_ (Nat.zero_le _)⟩
  rw [if_pos h2]
  exact .nil
 ·rw [dec_n h2]
  refine ⟨l, 1, xs, rfl, rfl, hl, by decide, by decide, by show xs.length * 1 <= sizeLine; omega, fun p hp => kk p xs _ (same_upd hp) ?_ ?_ hx⟩
  ·rw [upd_same]
   show some (HO.lst (List.replicate 1 xs).flatten) = _
   simp
  ·rw [if_neg h2]
   exact hP.same (same_upd hp)
theorem wm_one : Wm (Str.ofString "q") /\ Wm (Str.ofString "z") /\ Wm (Str.ofString "p") := ⟨⟨by decide +kernel, by decide +kernel, by decide +kernel⟩, ⟨by decide +kernel, by decide +kernel, by decide +kernel⟩, ⟨by decide +kernel, by decide +kernel, by decide +kernel⟩⟩
theorem more_isS : (PyData.str (Str.ofString "more")).canLay0 = true := by decide +kernel
def spLaw (K : PySem.W.Frag) : Sp := fun vs H Q _ => ∃ (a : Addr) (ns : List Int), vs = [.ref a] /\ SqL K H a (ns.map V.int) /\ ns.length <= 63 /\ ∀ H', Q (.bl true) H'
theorem scLw : FnScope ["_law_script", "_law_menu_here", "_law_pairs_here", "_law_kind", "_law_handed", "_law_book", "_law_turned", "_law_other", "_law_turn", "_law_held", "_law_word", "_law_walk", "_law_told"] ["_law_script"] (defScope lLaw) := ⟨rfl, rfl, rfl, by decide +kernel, rfl, by decide +kernel, by decide +kernel⟩
set_option maxHeartbeats 8000000 in
seal PSs PS PE PT PA PG PI PGs PIfs in
theorem ok_law {f fMe fNu fPa fCe fFa fTl fi : Addr} {fd fdMe fdNu fdPa fdCe fdFa fdTl fdi : FuncData} (D : Df K mg "law" lLaw f fd) (T : Txt mg) (M : BkM P w K mg base C CWk CN CNo CW)
  (DMe : Df K mg "_law_menu" lMenu fMe fdMe) (GMe : FnOk P w K mg base CX0 2 fMe fdMe ["_law_number_here"] spMenu)
  (DNu : Df K mg "_law_number" lNumber fNu fdNu) (GNu : FnOk P w K mg base CX0 2 fNu fdNu ["_law_script", "_law_k"] (spNumberX K))
  (DPa : Df K mg "_law_pairs" lPairs fPa fdPa) (GPa : FnOk P w K mg base CX0 3 fPa fdPa ["_law_script", "_law_first", "_law_many", "_law_menu_here"] (spPairsL K))
  (DCe : Df K mg "_law_cell_at" lCell fCe fdCe) (GCe : FnOk P w K mg base CX0 1 fCe fdCe ["_law_script", "_law_k"] (spCell K))
  (DFa : Df K mg "_law_far_pairs" lFar fFa fdFa) (GFa : FnOk P w K mg base CX0 1 fFa fdFa ["_law_kind"] spFar)
  (DTl : Df K mg "_law_tells" lTells fTl fdTl) (GTl : FnOk P w K mg base CX0 9 fTl fdTl ["_law_book", "_law_pairs_here", "_law_menu_here", "_law_turn"] (spTells C))
  (FI : FnD K "__init__" "Book.__init__" bInit fi fdi #[.none]) (MB : L2.Mk K C fi) (GI : FnOk P w K mg base (CX1 P w) 8 fi fdi ["self", "pairs", "rows"] (spBInit K C CK CT C2)) : FnOk P w K mg base CX0 10 f fd ["_law_script"] (spLaw K) := by
 have bMe := binds1 (p := "_law_number_here") DMe.F fun _ _ _ _ _ _ _ => rfl
 have bNu := DNu.F.binds (ps := ["_law_script", "_law_k"]) fun _ _ _ _ _ _ us hl => us2 (fun _ _ => rfl) us hl
 have bPa := DPa.F.binds (ps := ["_law_script", "_law_first", "_law_many", "_law_menu_here"]) fun _ _ _ _ _ _ us hl => us4 (fun _ _ _ _ => rfl) us hl
 have bCe := DCe.F.binds (ps := ["_law_script", "_law_k"]) fun _ _ _ _ _ _ us hl => us2 (fun _ _ => rfl) us hl
 have bFa := binds1 (p := "_law_kind") DFa.F fun _ _ _ _ _ _ _ => rfl
 have bTl := DTl.F.binds (ps := ["_law_book", "_law_pairs_here", "_law_menu_here", "_law_turn"]) fun _ _ _ _ _ _ us hl => us4 (fun _ _ _ _ => rfl) us hl
 have bI := FI.binds (ps := ["self", "pairs", "rows"]) (ds := [.none]) fun T kV doc pm an cdv ct us hl => match us, (show us.length = 2 by simpa using hl) with | [_, _], _ => ⟨_, rfl, rfl⟩
 obtain ⟨fw, fdw, FW, mW, GWd⟩ := M.words
 obtain ⟨fp, fdp, FPp, mP, GP⟩ := M.parts
 obtain ⟨fr, fdr, FRr, mR, GR⟩ := M.row
 obtain ⟨fs_, fds, FS, mSt, GSt⟩ := M.starts
 obtain ⟨fk, fdk, FKk, mWk, GWk⟩ := M.walk
 obtain ⟨fe, fde, FE, mRe, GRe⟩ := M.rest
 obtain ⟨fl, fdl, FL, mLe, GLe⟩ := M.leap
 have bWd := FW.binds (ps := ["self"]) fun _ _ _ _ _ _ us hl => us1 (fun _ => rfl) us hl
 have bRe := FE.binds (ps := ["self"]) fun _ _ _ _ _ _ us hl => us1 (fun _ => rfl) us hl
 have bP := FPp.binds (ps := ["self", "word"]) fun _ _ _ _ _ _ us hl => us2 (fun _ _ => rfl) us hl
 have bR := FRr.binds (ps := ["self", "word"]) fun _ _ _ _ _ _ us hl => us2 (fun _ _ => rfl) us hl
 have bSt := FS.binds (ps := ["self", "word"]) fun _ _ _ _ _ _ us hl => us2 (fun _ _ => rfl) us hl
 have bWk := FKk.binds (ps := ["self", "word"]) fun _ _ _ _ _ _ us hl => us2 (fun _ _ => rfl) us hl
 have bLe := FL.binds (ps := ["self", "number"]) fun _ _ _ _ _ _ us hl => us2 (fun _ _ => rfl) us hl
 refine D.F.ok scLw (fun vs H Q E h => ?_) (fun cdv A outer s H vs Q E hr h => ?_)
 ·obtain ⟨a, ns, rfl, _⟩ := h
  rfl
 ·obtain ⟨a, ns, rfl, hS, hlen, kk⟩ := h
  have hz : (sizeLine : Nat) = 16777216 := sizeLine_eq
  refine ⟨_, (pss_cons (ps_set (i := 1) scLw.nd rfl (Or.inl rfl) (pe_call (GMe.mono (by decide)) hr rfl DMe.m DMe.F.kp bMe .nil pass0 (pa_cons (pe_call (GNu.mono (by decide)) hr rfl DNu.m DNu.F.kp bNu .nil pass0 (pa_cons (pv 0) (pa_cons pe_int pa_nil))) pa_nil)))
   (pss_cons (ps_set (i := 2) scLw.nd rfl (Or.inl rfl) (pe_call (GPa.mono (by decide)) hr rfl DPa.m DPa.F.kp bPa .nil pass0 (pa_cons (pv 0) (pa_cons pe_int (pa_cons (pe_op op_mod (pe_call (GCe.mono (by decide)) hr rfl DCe.m DCe.F.kp bCe .nil pass0 (pa_cons (pv 0) (pa_cons pe_int pa_nil))) pe_int) (pa_cons (pv 1) pa_nil))))))
   (pss_cons (ps_set (i := 3) scLw.nd rfl (Or.inl rfl) (pe_op op_mod (pe_op op_fdiv (pe_call (GCe.mono (by decide)) hr rfl DCe.m DCe.F.kp bCe .nil pass0 (pa_cons (pv 0) (pa_cons pe_int pa_nil))) pe_int) pe_int))
   (pss_cons (ps_set (i := 2) scLw.nd rfl (Or.inl rfl) (pe_op op_cat (pe_call (GFa.mono (by decide)) hr rfl DFa.m DFa.F.kp bFa .nil pass0 (pa_cons (pv 3) pa_nil)) (PE.imp (t' := tRep) (pe_op op_rep (pv 2) (pe_callTy call_int1 rfl T.int b_int (pa_cons (pe_cmpR op_ne (pv 3) pe_int (nomark _)) pa_nil))) fun _ _ _ h => repL h)))
   (pss_cons (ps_ifJ (pt_chain op_lt op_lt pe_int (pv 3) pe_int) (pss_one (ps_set (i := 1) scLw.nd rfl (Or.inl rfl) (pe_op op_cat (pv 1) (pe_lst (pa_cons pe_str (pa_cons pe_str (pa_cons pe_str pa_nil))))))) pss_nil)
   (pss_cons (ps_set (i := 4) scLw.nd rfl (Or.inl rfl) (pe_callTy call_list_of rfl T.list b_list (pa_cons (pv 2) pa_nil)))
   (pss_cons (ps_set (i := 5) scLw.nd rfl (Or.inl rfl) (pe_make MB (GI.mono (by decide)) hr rfl M.cl.mgC bI (dvs := [.non]) (.cons rfl .nil) passN (pa_cons (pv 4) pa_nil)))
   (pss_cons (ps_if (pt_cmpR (op_neD hr.units100) (pv 4) (pv 2) (nomark _)) (pss_one (ps_ret pe_bl)) pss_nil)
   (pss_cons (ps_expr (pe_bm PySem.F.plainAttrs_list PySem.F.slot_list_append PySem.F.type_list_append mt_append (pv 4) (pa_cons (pe_tup (pa_cons pe_str (pa_cons pe_str pa_nil))) pa_nil)))
   (pss_cons (ps_setC (i := 6) scLw.nd rfl (Or.inl rfl) (own := 1) (caps := []) (N := ["_law_pair"]) (N0 := ["_law_script", "_law_menu_here", "_law_pairs_here", "_law_kind", "_law_handed", "_law_book", "_law_turned", "_law_other", "_law_turn", "_law_held", "_law_word", "_law_walk", "_law_told"]) (sc0 := defScope lLaw) rfl (pi_rev rfl T.rev (pa_cons (pv 2) pa_nil)) (fun _ _ _ => pg_name (i := 0) ndP1 rfl (Or.inl rfl)) (fun _ _ _ => pf_none) (fun _ _ _ => pv 0) (gk_name (by decide)) rfl rfl
    (by decide +kernel) rfl (by decide +kernel) (by decide +kernel) rfl (by decide +kernel) (fun _ _ _ h => h))
   (pss_cons (ps_set (i := 7) scLw.nd rfl (Or.inl rfl) (pe_make MB (GI.mono (by decide)) hr rfl M.cl.mgC bI (dvs := [.non]) (.cons rfl .nil) passN (pa_cons (pv 6) pa_nil)))
   (pss_cons (ps_set (i := 8) scLw.nd rfl (Or.inl rfl) (pe_call (GNu.mono (by decide)) hr rfl DNu.m DNu.F.kp bNu .nil pass0 (pa_cons (pv 0) (pa_cons pe_int pa_nil))))
   (pss_cons (ps_if (PW.pt (pw_or (pt_not (pt_val (pe_call (GTl.mono (by decide)) hr rfl DTl.m DTl.F.kp bTl .nil pass0 (pa_cons (pv 5) (pa_cons (pv 2) (pa_cons (pv 1) (pa_cons (pv 8) pa_nil))))))) (pw_or1 (pt_not (pt_val (pe_call (GTl.mono (by decide)) hr rfl DTl.m DTl.F.kp bTl .nil pass0 (pa_cons (pv 7) (pa_cons (pv 6) (pa_cons (pv 1) (pa_cons (pe_op op_fdiv (pv 8) pe_int) pa_nil)))))))))) (pss_one (ps_ret pe_bl)) pss_nil)
   (pss_cons (ps_set (i := 9) scLw.nd rfl (Or.inl rfl) (pe_lst pa_nil))
   (pss_cons (ps_for PassesOwn.never rfl (pi_list (pv 1)) (pg_name (i := 10) scLw.nd rfl (Or.inl rfl)) (pss_cons (ps_set (i := 11) scLw.nd rfl (Or.inl rfl) (pe_meth (pv 5) M.cl.cl mWk (GWk.mono (by decide)) hr bWk .nil passN (pa_cons (pv 10) pa_nil)))
   (pss_cons (ps_expr (pe_meth (pv 11) M.wt.cl mLe (GLe.mono (by decide)) hr bLe .nil passN (pa_cons pe_int pa_nil)))
   (pss_one (ps_for PassesOwn.never rfl (pi_list (pe_lst (pa_cons (pe_meth0 (pv 5) M.cl.cl mW (GWd.mono (by decide)) hr bWd .nil pass0) (pa_cons (pe_meth (pv 5) M.cl.cl mR (GR.mono (by decide)) hr bR .nil passN (pa_cons (pv 10) pa_nil)) (pa_cons (pe_meth (pv 5) M.cl.cl mSt (GSt.mono (by decide)) hr bSt .nil passN (pa_cons (pv 10) pa_nil)) (pa_cons (pe_meth (pv 5) M.cl.cl mP (GP.mono (by decide)) hr bP .nil passN (pa_cons (pv 10) pa_nil)) (pa_cons (pe_meth0 (pv 11) M.wt.cl mRe (GRe.mono (by decide)) hr bRe .nil pass0) pa_nil))))))) (pg_name (i := 12) scLw.nd rfl (Or.inl rfl)) (pss_cons (ps_expr (pe_bm PySem.F.plainAttrs_list PySem.F.slot_list_append PySem.F.type_list_append mt_append (pv 12) (pa_cons pe_str pa_nil)))
   (pss_one (ps_expr (pe_bm PySem.F.plainAttrs_list PySem.F.slot_list_append PySem.F.type_list_append mt_append (pv 9) (pa_cons (pe_tup (pa_cons (pv 12) (pa_cons (pe_callTy call_list_of rfl T.list b_list (pa_cons (pv 12) pa_nil)) pa_nil))) pa_nil))))))))))
   (pss_cons (ps_if (pt_not (pt_val (pe_call (GTl.mono (by decide)) hr rfl DTl.m DTl.F.kp bTl .nil pass0 (pa_cons (pv 5) (pa_cons (pv 2) (pa_cons (pv 1) (pa_cons (pe_op op_fdiv (pv 8) pe_int) pa_nil))))))) (pss_one (ps_ret pe_bl)) pss_nil)
   (pss_one (ps_ret (pe_callB (call_all_bools rfl) rfl T.all b_all (pa_cons (pe_comp (own := 2) (caps := []) (N := ["_law_told", "_law_kept"]) (N0 := ["_law_script", "_law_menu_here", "_law_pairs_here", "_law_kind", "_law_handed", "_law_book", "_law_turned", "_law_other", "_law_turn", "_law_held", "_law_word", "_law_walk", "_law_told"]) (sc0 := defScope lLaw) rfl (pi_list (pv 9)) (fun _ _ _ => pg_tup (n := 2) rfl (pgs_cons (pg_name (i := 0) ndTK rfl (Or.inl rfl)) (pgs_cons (pg_name (i := 1) ndTK rfl (Or.inl rfl)) pgs_nil))) (fun _ _ _ => pf_none) (fun _ _ _ => pe_cmpR (op_eqDK (K := K) rfl hr.units100) (pv 0) (pv 1) (nomark _)) (gk_tup (gks_cons (gk_name (by decide)) (gks_cons (gk_name (by decide)) gks_nil))) rfl rfl
    (by decide +kernel) rfl (by decide +kernel) (by decide +kernel) rfl (by decide +kernel)) pa_nil)))))))))))))))))))), ?_⟩
  refine ⟨_, rfl, a, ns, 1, rfl, hS, hlen, by decide, fun H1 s1 => ⟨_, rfl, fun m1 H2 ws s2 hm1 hw5 hWm => ?_⟩⟩
  have s02 := s1.trans s2
  refine ⟨_, rfl, _, rfl, a, ns, 0, rfl, s02.seq hS, fun n1 => ⟨_, _, rfl, rfl, (by show (0 : Int) < 5; decide), _, rfl, ?_⟩⟩
  obtain ⟨j, hj, hjl⟩ := mod_ix (r := n1) (n := 5) (by decide)
  refine ⟨a, m1, ns, ws, j, (by show [V.ref a, V.int 0, V.int (n1 % 5), V.ref m1] = _; rw [<- hj]), s02.seq hS, hlen, by omega, hm1, hw5, hWm, fun l2 xsd psd H3 s3 hl2 hl2' hPd hpl hLaw => ?_⟩
  have s03 := s02.trans s3
  have hpl4 := hLaw.l
  have xdl : xsd.length = psd.length := by have := Gn.Paired.len hPd; rw [List.length_map] at this; exact this
  refine ⟨_, rfl, a, ns, 0, rfl, s03.seq hS, fun n2 => ⟨_, _, rfl, rfl, ⟨by decide, by decide⟩, _, _, rfl, rfl, (by show (0 : Int) < 9; decide), ?_⟩⟩
  show gName 3 (V.int (n2 / 5 % 9)) _ _ _
  generalize n2 / 5 % 9 = c
  refine ⟨_, rfl, c, rfl, fun lf xf H4 s4 hlf hlf' hPf => ?_⟩
  refine ⟨l2, c, xsd, psd, rfl, rfl, s4 _ _ hl2', hPd.same s4, by omega, fun p5 x5 H5 s5 hp5 hP5 hx5 => ?_⟩
  have hL := lps_of hLaw c
  have xfl : xf.length <= 1000 := by
   have h1 := Gn.Paired.len hPf
   rw [List.length_map] at h1
   have h2 := hL.l
   rw [List.length_append] at h2
   omega
  refine ⟨lf, p5, xf, x5, rfl, rfl, s5 _ _ hlf', hp5, by omega, fun pa hpa => ?_⟩
  have s6 := same_upd (o := .lst (xf ++ x5)) hpa
  have e6 : upd H5 pa (.lst (xf ++ x5)) pa = some (.lst (xf ++ x5)) := upd_same
  have hPx : PairsV (upd H5 pa (.lst (xf ++ x5))) (xf ++ x5) ((farP c ++ (if c = 2 then [] else psd)).map kp) := by
   rw [List.map_append]
   exact Gn.Paired.cat ((hPf.same s5).same s6) (hP5.same s6)
  generalize upd H5 pa (.lst (xf ++ x5)) = H6 at s6 e6 hPx ⊢
  generalize xf ++ x5 = xs at e6 hPx
  generalize farP c ++ (if c = 2 then [] else psd) = ps at hL hPx
  have s06 := ((s03.trans s4).trans s5).trans s6
  have s26 := (((s3).trans s4).trans s5).trans s6
  have hM6 : H6 m1 = some (.lst (sl ws)) := s26 _ _ hm1
  have hxl : xs.length = ps.length := by have := Gn.Paired.len hPx; rw [List.length_map] at this; exact this
  have hl150 := hL.l
  refine ⟨fun σ' H' => ∃ (m : Addr) (wm : List Str), σ' = [some (.ref a), some (.ref m), some (.ref pa), some (.int c), none, none, none, none, none, none, none, none, none] /\ Same H6 H' /\ H' m = some (.lst (sl wm)) /\ 0 < wm.length /\ wm.length <= 10 /\ ∀ z ∈ wm, Wm z, ?_, ?_⟩
  ·have skip : ∃ (m : Addr) (wm : List Str), [some (V.ref a), some (V.ref m1), some (V.ref pa), some (V.int c), none, none, none, none, none, none, none, none, none] = [some (.ref a), some (.ref m), some (.ref pa), some (.int c), none, none, none, none, none, none, none, none, none] /\ Same H6 H6 /\ H6 m = some (.lst (sl wm)) /\ 0 < wm.length /\ wm.length <= 10 /\ ∀ z ∈ wm, Wm z := ⟨m1, ws, rfl, fun _ _ h => h, hM6, by omega, by omega, hWm⟩
   refine ⟨_, rfl, _, _, rfl, rfl, _, rfl, ite2 (fun _ => ⟨_, _, rfl, rfl, _, rfl, ite2 (fun _ => ?_) (fun _ => skip)⟩) (fun _ => ⟨_, rfl, iteF skip⟩)⟩
   refine ⟨_, rfl, (by show 3 <= sizeLine; omega), fun q hq => ?_⟩
   have t1 := same_upd (o := .lst [.str (Str.ofString "q"), .str (Str.ofString "z"), .str (Str.ofString "p")]) hq
   have f1 : upd H6 q (.lst [.str (Str.ofString "q"), .str (Str.ofString "z"), .str (Str.ofString "p")]) q = some (.lst [.str (Str.ofString "q"), .str (Str.ofString "z"), .str (Str.ofString "p")]) := upd_same
   generalize upd H6 q (.lst [.str (Str.ofString "q"), .str (Str.ofString "z"), .str (Str.ofString "p")]) = G1 at t1 f1 ⊢
   have wl : (sl ws).length = 5 := by rw [List.length_map]; exact hw5
   refine ⟨m1, q, _, _, rfl, rfl, t1 _ _ hM6, f1, (by rw [wl]; show 5 + 3 <= sizeLine; omega), fun m2 hm2 => ⟨m2, ws ++ [Str.ofString "q", Str.ofString "z", Str.ofString "p"], rfl, t1.trans (same_upd hm2), ?_, ?_, ?_, fun z hz' => ?_⟩⟩
   ·rw [upd_same]
    unfold sl
    rw [List.map_append]
    rfl
   ·rw [List.length_append]; show 0 < ws.length + 3; omega
   ·rw [List.length_append]; show ws.length + 3 <= 10; omega
   ·rcases List.mem_append.mp hz' with q' | q'
    ·exact hWm z q'
    ·obtain ⟨a1, a2, a3⟩ := wm_one
     rcases List.mem_cons.mp q' with e | q'
     ·rw [e]; exact a1
     ·rcases List.mem_cons.mp q' with e | q'
      ·rw [e]; exact a2
      ·rw [List.mem_singleton.mp q']; exact a3
  ·rintro σ' H7 ⟨m, wm, rfl, s7, hM7, hw0, hw10, hWm'⟩
   have e7 := s7 _ _ e6
   have hP7 := hPx.same s7
   have s07 := s06.trans s7
   refine ⟨_, rfl, pa, _, rfl, .inl (SqL.of e7), fun h4 hh4 => ?_⟩
   have s8 := same_upd (o := .lst xs) hh4
   have e8 : upd H7 h4 (.lst xs) h4 = some (.lst xs) := upd_same
   generalize upd H7 h4 (.lst xs) = H8 at s8 e8 ⊢
   have s08 := s07.trans s8
   refine ⟨_, rfl, fun x dxb hxb hdxb hneb => ?_⟩
   refine mk_book e8 (hP7.same s8) hL hxb hdxb hneb (fun H9 s9 hB9 hN9 => ?_)
   have s89 := s8.trans s9
   have e9 := s9 _ _ e8
   have ep9 := s89 _ _ e7
   have hP9 := hP7.same s89
   refine ⟨_, rfl, _, rfl, .list (dPs ps), .list (dPs ps), .lst (SqL.of e9) (dt_ps hP9), .lst (SqL.of ep9) (dt_ps hP9), lay_ps hL.g.g, lay_ps hL.g.g, (by have := depth_ps ps; omega), _, rfl, ?_⟩
   rw [eqv_same (lay_ps hL.g.g)]
   refine iteF ⟨_, rfl, .inl ⟨rfl, _, SqL.of e9⟩, (by show 2 <= sizeLine; omega), fun t10 ht10 => ?_⟩
   have s10 := same_upd (o := .tup [.str (Str.ofString "more"), .str (Str.ofString "more")]) ht10
   refine ⟨h4, xs, _, rfl, rfl, s10 _ _ e9, by omega, ?_⟩
   have np4 : pa ≠ h4 := ne_of_none e7 hh4
   have hBb : BookAt C (upd (upd H9 t10 (.tup [.str (Str.ofString "more"), .str (Str.ofString "more")])) h4 (.lst (xs ++ [.ref t10]))) x ps := (hN9 h4 xs (xs ++ [.ref t10]) e8).same fun b u e => by
    by_cases hb : b = h4
    ·rw [hb, upd_same] at e
     rw [hb, upd_same]
     exact e
    ·rw [upd_ne hb] at e
     rw [upd_ne hb]
     exact s10 _ _ e
   have sbh : ∀ b u, H9 b = some u -> b ≠ h4 -> upd (upd H9 t10 (.tup [.str (Str.ofString "more"), .str (Str.ofString "more")])) h4 (.lst (xs ++ [.ref t10])) b = some u := fun b u e hb => by rw [upd_ne hb]; exact s10 _ _ e
   generalize upd (upd H9 t10 (.tup [.str (Str.ofString "more"), .str (Str.ofString "more")])) h4 (.lst (xs ++ [.ref t10])) = Ha at hBb sbh ⊢
   have s7a : Same H7 Ha := fun b u e => sbh _ _ (s89 _ _ e) (ne_of_none e hh4)
   have epa := s7a _ _ e7
   have hPa := hP7.same s7a
   have hMa := s7a _ _ hM7
   refine ⟨_, rfl, pa, xs, rfl, SqL.of epa, ?_⟩
   refine comp_irv (fun i ys G => Ha = G /\ ys = xs.reverse.take i) (by omega) (fun i ys G q => by rw [<- q.1]; exact SqL.of epa) ⟨rfl, rfl⟩ ?_ ?_
   ·rintro i v ys G N hv ⟨rfl, rfl⟩ hN
    exact g1 ⟨_, rfl, hN _ _ ⟨rfl, by rw [take_snoc hv]⟩⟩
   ·rintro ys G ⟨rfl, rfl⟩ _ pt hpt
    rw [List.take_of_length_le (by rw [List.length_reverse]; exact Nat.le_refl _)]
    have sb := same_upd (o := .lst xs.reverse) hpt
    have eb : upd Ha pt (.lst xs.reverse) pt = some (.lst xs.reverse) := upd_same
    generalize upd Ha pt (.lst xs.reverse) = Hb at sb eb ⊢
    have hPr : PairsV Hb xs.reverse (ps.reverse.map kp) := (prs_rev hPa).same sb
    have hLr := lps_rev hL
    refine ⟨_, rfl, fun y dxb2 hxb2 hdxb2 hneb2 => ?_⟩
    refine mk_book eb hPr hLr hxb2 hdxb2 hneb2 (fun Hc sc hBc hNc => ?_)
    have sac := sb.trans sc
    have s0c := (s07.trans s7a).trans sac
    refine ⟨_, rfl, a, ns, 2, rfl, s0c.seq hS, hlen, by decide, fun Hd sd => ?_⟩
    have sad := sac.trans sd
    generalize numF ns 2 = tn
    refine ⟨_, rfl, _, rfl, _, rfl, _, rfl, x, pa, m, tn, xs, ps, wm, rfl, hBb.same sad, hL, sad _ _ epa, hPa.same sad, sad _ _ hMa, hw0, hw10, hWm', fun He se => ⟨_, rfl, iteF ?_⟩⟩
    have sce := sd.trans se
    have sae := sad.trans se
    refine ⟨_, rfl, _, rfl, _, rfl, _, rfl, _, _, rfl, rfl, ⟨by decide, by decide⟩, y, pt, m, _, xs.reverse, ps.reverse, wm, rfl, hBc.same sce, hLr, sce _ _ (sc _ _ eb), (hPr.same sc).same sce, sae _ _ hMa, hw0, hw10, hWm', fun Hf sf => ⟨_, rfl, iteF ?_⟩⟩
    have saf := sae.trans sf
    refine ⟨Nat.zero_le _, fun h9 hh9 => ?_⟩
    have hBf := hBb.same saf
    have hMf := saf _ _ hMa
    have hPf' := hPa.same saf
    have epf := saf _ _ epa
    have s9' := same_upd (o := .lst []) hh9
    have e9' : upd Hf h9 (.lst []) h9 = some (.lst []) := upd_same
    generalize upd Hf h9 (.lst []) = Hg at s9' e9' ⊢
    obtain ⟨dx, fs, hx, hno⟩ := hBf.at
    refine ⟨_, rfl, m, rfl, ⟨_, SqL.of (s9' _ _ hMf)⟩, ?_⟩
    have wml : (sl wm).length = wm.length := List.length_map _
    refine for_list (xs := sl wm) (fun i σ G => ∃ (o10 o11 o12 : Option V) (hs : List V), σ = [some (.ref a), some (.ref m), some (.ref pa), some (.int c), some (.ref h4), some (.ref x), some (.ref pt), some (.ref y), some (.int tn), some (.ref h9), o10, o11, o12] /\ Same Hf G /\ G h9 = some (.lst hs) /\ HeldOk K [h9] G hs /\ hs.length <= 5 * i) ?_ ?_ ?_ ?_
    ·exact ⟨_, _, _, [], rfl, s9', e9', (fun v hv => nomatch hv), Nat.zero_le _⟩
    ·rintro i σ G _ ⟨_, _, _, _, _, sm, _⟩
     exact SqL.of (sm _ _ hMf)
    ·rintro i v σ G hv ⟨o10, o11, o12, hs, rfl, sG, hG9, hHeld, hhl⟩
     obtain ⟨z, hzi, rfl⟩ := sl_get hv
     have hil := (List.getElem?_eq_some_iff.mp hzi).1
     have hzk : WdOk z := wm_ok (hWm' z (List.mem_of_getElem? hzi))
     have hfit : Fit (.str z) := row_fit hzk (by decide)
     obtain ⟨rl, rp⟩ := rl_len hL z
     refine ⟨_, rfl, x, dx, _, rfl, sG _ _ hx, hno _ mn, _, rfl, x, ps, z, rfl, hBf.same sG, hL.f, hfit, hzk, fun y1 p1 G1 s1' hy1 hp1 hWk => ?_⟩
     obtain ⟨dy, hyo⟩ := id hWk.ob
     refine ⟨_, rfl, y1, dy, _, rfl, hyo, flds_no _ _ (by decide +kernel) (by decide +kernel), y1, p1, _, 0, _, rfl, hWk, Few.ok z, (by omega), ⟨_, .int _⟩, (fun n en hn low G2 _ hWk2 sb2 => ?_), fun c' => (by cases c')⟩
     have hfy1 : Hf y1 = none := sG.free hy1
     have sG2 : Same Hf G2 := fun b u e => sb2 _ _ (s1' _ _ (sG _ _ e)) (ne_of_none e hfy1)
     have n9y : h9 ≠ y1 := ne_of_none hG9 hy1
     have hG29 := sb2 _ _ (s1' _ _ hG9) n9y
     have hHeld2 : HeldOk K [h9] G2 hs := (hHeld.same s1').ins sb2 hyo
     refine ⟨_, rfl, x, dx, _, rfl, sG2 _ _ hx, hno _ mn, x, ps, rfl, hBf.same sG2, fun l1 ts G3 s3' hl1 el1 tn1 tm1 ts1 => ?_⟩
     have sG3 := sG2.trans s3'
     refine ⟨_, rfl, x, dx, _, rfl, sG3 _ _ hx, hno _ mn, _, rfl, x, ps, _, rfl, hBf.same sG3, hL.f, ⟨_, .str _⟩, hfit, (fun z2 l2' G4 ez2 _ s4' hl2' hR2 => ?_), fun c' => (by rw [hzk] at c'; cases c')⟩
     have ez : z2 = z := by injection ez2 with ez2; exact ez2.symm
     subst ez
     have sG4 := sG3.trans s4'
     refine ⟨_, rfl, x, dx, _, rfl, sG4 _ _ hx, hno _ mn, _, rfl, x, ps, z2, rfl, hBf.same sG4, hL.w, hfit, hzk, fun l3 ts3 G5 s5' hl3 el3 tn3 tm3 _ => ?_⟩
     have sG5 := sG4.trans s5'
     refine ⟨_, rfl, x, dx, _, rfl, sG5 _ _ hx, hno _ mn, _, rfl, x, ps, _, rfl, hBf.same sG5, ⟨_, .str _⟩, hfit, (fun z4 l4 G6 ez4 _ s6' hl4 el4 => ?_), fun c' => (by rw [hzk] at c'; cases c')⟩
     have ez : z4 = z2 := by injection ez4 with ez4; exact ez4.symm
     subst ez
     have sG6 := sG5.trans s6'
     have s26' := ((s3'.trans s4').trans s5').trans s6'
     have hWk6 := hWk2.same s26'
     obtain ⟨dy6, hyo6⟩ := id hWk6.ob
     refine ⟨_, rfl, y1, dy6, _, rfl, hyo6, flds_no _ _ (by decide +kernel) (by decide +kernel), y1, p1, _, low, rfl, hWk6, fun l5 G7 s7' hl5 hR5 => ?_⟩
     have sG7 := sG6.trans s7'
     refine ⟨(by show 5 <= sizeLine; omega), fun q5 hq5 => ?_⟩
     have s8' := same_upd (o := .lst [.ref l1, .ref l2', .ref l3, .ref l4, .ref l5]) hq5
     have e8' : upd G7 q5 (.lst [.ref l1, .ref l2', .ref l3, .ref l4, .ref l5]) q5 = some (.lst ([l1, l2', l3, l4, l5].map V.ref)) := upd_same
     generalize upd G7 q5 (.lst [.ref l1, .ref l2', .ref l3, .ref l4, .ref l5]) = G8 at s8' e8' ⊢
     have hw : ∀ t : Str, (∃ ws ∈ tws ps, t ∈ ws) -> t.cps.toList.all isS = true := fun t ⟨wl, hwl, ht⟩ => by
      obtain ⟨pr, _, e⟩ := List.mem_map.mp hwl
      subst e
      exact tw_isS ht
     have lo1 : LO K G8 l1 := (lo_strs el1 (by have := few_len hL.w tn1 tm1; omega) (fun t ht => hw t ((tm1 t).mp ht))).same ((((s4'.trans s5').trans s6').trans s7').trans s8')
     have lo2 : LO K G8 l2' := (lo_row hR2 (by omega)).same (((s5'.trans s6').trans s7').trans s8')
     have lo3 : LO K G8 l3 := (lo_strs el3 (by have := few_len hL.w tn3 tm3; have := List.length_filter_le (fun y => Txt.startswith y z4) ts3; omega) (fun t ht => hw t ((tm3 t).mp (List.mem_filter.mp ht).1))).same ((s6'.trans s7').trans s8')
     have lo4 : LO K G8 l4 := (lo_nats el4 (by have := (hL.f.sz z4).p; show (pk (rn 0 (rowOf z4 (tws ps) 0))).length <= 3000; omega)).same (s7'.trans s8')
     have lo5 : LO K G8 l5 := (lo_row hR5 (by rw [List.length_drop]; omega)).same s8'
     have some1 : ∃ u, G3 l1 = some u := ⟨_, el1⟩
     have n2 : G2 l2' = none := s3'.free hl2'
     have n3 : G2 l3 = none := (s3'.trans s4').free hl3
     have n4 : G2 l4 = none := ((s3'.trans s4').trans s5').free hl4
     have n5 : G2 l5 = none := s26'.free hl5
     have f5 : ∀ s ∈ [l1, l2', l3, l4, l5], G2 s = none := fun s hs' => by
      rcases List.mem_cons.mp hs' with e | q
      ·rw [e]; exact hl1
      ·rcases List.mem_cons.mp q with e | q
       ·rw [e]; exact n2
       ·rcases List.mem_cons.mp q with e | q
        ·rw [e]; exact n3
        ·rcases List.mem_cons.mp q with e | q
         ·rw [e]; exact n4
         ·rw [List.mem_singleton.mp q]; exact n5
     obtain ⟨_, _, g2l, _⟩ := (lo_row (K := K) hR2 (by omega) : LO K G4 l2')
     have nd : [l1, l2', l3, l4, l5].Nodup := by
      have a12 : l1 ≠ l2' := ne_of_none el1 hl2'
      have a13 : l1 ≠ l3 := ne_of_none (s4' _ _ el1) hl3
      have a14 : l1 ≠ l4 := ne_of_none (s5' _ _ (s4' _ _ el1)) hl4
      have a15 : l1 ≠ l5 := ne_of_none (s6' _ _ (s5' _ _ (s4' _ _ el1))) hl5
      have a23 : l2' ≠ l3 := ne_of_none g2l hl3
      have a24 : l2' ≠ l4 := ne_of_none (s5' _ _ g2l) hl4
      have a25 : l2' ≠ l5 := ne_of_none (s6' _ _ (s5' _ _ g2l)) hl5
      have a34 : l3 ≠ l4 := ne_of_none el3 hl4
      have a35 : l3 ≠ l5 := ne_of_none (s6' _ _ el3) hl5
      have a45 : l4 ≠ l5 := ne_of_none el4 hl5
      simp [a12, a13, a14, a15, a23, a24, a25, a34, a35, a45]
     have los : ∀ l ∈ [l1, l2', l3, l4, l5], LO K G8 l := fun l hl' => by
      rcases List.mem_cons.mp hl' with e | q
      ·rw [e]; exact lo1
      ·rcases List.mem_cons.mp q with e | q
       ·rw [e]; exact lo2
       ·rcases List.mem_cons.mp q with e | q
        ·rw [e]; exact lo3
        ·rcases List.mem_cons.mp q with e | q
         ·rw [e]; exact lo4
         ·rw [List.mem_singleton.mp q]; exact lo5
     have l7 : ∀ l ∈ [l1, l2', l3, l4, l5], ∃ u, G7 l = some u := fun l hl' => by
      rcases List.mem_cons.mp hl' with e | q
      ·rw [e]; exact ⟨_, s7' _ _ (s6' _ _ (s5' _ _ (s4' _ _ el1)))⟩
      ·rcases List.mem_cons.mp q with e | q
       ·rw [e]; exact ⟨_, s7' _ _ (s6' _ _ (s5' _ _ g2l))⟩
       ·rcases List.mem_cons.mp q with e | q
        ·rw [e]; exact ⟨_, s7' _ _ (s6' _ _ el3)⟩
        ·rcases List.mem_cons.mp q with e | q
         ·rw [e]; exact ⟨_, s7' _ _ el4⟩
         ·rw [List.mem_singleton.mp q]
          obtain ⟨_, g5, _⟩ := hR5
          exact ⟨_, g5⟩
     have hll : [l1, l2', l3, l4, l5].length = 5 := rfl
     have s28 := (s26'.trans s7').trans s8'
     have sG8 := sG2.trans s28
     have hG89 := s28 _ _ hG29
     have held8 : HeldOk K (h9 :: [l1, l2', l3, l4, l5]) G8 hs := (hHeld2.more fun s hs' => by
      rcases List.mem_cons.mp hs' with e | q
      ·rw [e]; exact .inl (List.mem_singleton.mpr rfl)
      ·exact .inr (f5 s q)).same s28
     have n9l : ∀ l ∈ [l1, l2', l3, l4, l5], h9 ≠ l := fun l hl' => ne_of_none hG29 (f5 l hl')
     have nql : ∀ l ∈ [l1, l2', l3, l4, l5], q5 ≠ l := fun l hl' e => by
      obtain ⟨u, hu⟩ := l7 l hl'
      rw [<- e, hq5] at hu
      cases hu
     have nq9 : q5 ≠ h9 := fun e => by
      have := (s26'.trans s7') _ _ hG29
      rw [<- e, hq5] at this
      cases this
     have hfl : ∀ l ∈ [l1, l2', l3, l4, l5], Hf l = none := fun l hl' => sG2.free (f5 l hl')
     generalize hls : [l1, l2', l3, l4, l5] = ls at *
     refine ⟨q5, rfl, ⟨_, SqL.of e8'⟩, ?_⟩
     refine for_list (xs := ls.map V.ref) (fun k σ G' => ∃ (o12 : Option V) (hs' : List V), σ = [some (.ref a), some (.ref m), some (.ref pa), some (.int c), some (.ref h4), some (.ref x), some (.ref pt), some (.ref y), some (.int tn), some (.ref h9), some (.str z4), some (.ref y1), o12] /\ Same Hf G' /\ G' q5 = some (.lst (ls.map V.ref)) /\ G' h9 = some (.lst hs') /\ HeldOk K (h9 :: ls.drop k) G' hs' /\ (∀ l ∈ ls.drop k, LO K G' l) /\ hs'.length <= 5 * i + k) ?_ ?_ ?_ ?_
     ·exact ⟨_, hs, rfl, sG8, e8', hG89, held8, los, hhl⟩
     ·rintro k σ G' _ ⟨_, _, _, _, h, _⟩
      exact SqL.of h
     ·rintro k v σ G' hv' ⟨o12', hs', rfl, sGk, hqk, h9k, hHk, hLk, hhk⟩
      rw [List.getElem?_map] at hv'
      obtain ⟨l, hlk, rfl⟩ := Option.map_eq_some_iff.mp hv'
      have hkl := (List.getElem?_eq_some_iff.mp hlk).1
      have hlm : l ∈ ls := List.mem_of_getElem? hlk
      have hdr : ls.drop k = l :: ls.drop (k + 1) := by
       rw [List.drop_eq_getElem_cons hkl]
       congr 1
       exact (List.getElem?_eq_some_iff.mp hlk).2
      rw [hdr] at hHk hLk
      obtain ⟨xl, dl, x1, x2, x3, x4, x5'⟩ := hLk l List.mem_cons_self
      have nl9 := n9l l hlm
      have nlq := nql l hlm
      refine ⟨_, rfl, .inl ⟨rfl, _, SqL.of x1⟩, l, xl, _, rfl, rfl, x1, by omega, ?_⟩
      have sbl : SameBut l G' (upd G' l (.lst (xl ++ [.str (Str.ofString "more")]))) := fun b u e hb => by rw [upd_ne hb]; exact e
      have eln : upd G' l (.lst (xl ++ [.str (Str.ofString "more")])) l = some (.lst (xl ++ [.str (Str.ofString "more")])) := upd_same
      generalize upd G' l (.lst (xl ++ [.str (Str.ofString "more")])) = Gl at sbl eln ⊢
      have hHl : HeldOk K (h9 :: l :: ls.drop (k + 1)) Gl hs' := hHk.but (List.mem_cons_of_mem _ List.mem_cons_self) sbl x1
      have h9l := sbl _ _ h9k nl9
      have hql := sbl _ _ hqk nlq
      have tpl : Same (tp G') (tp Gl) := tp_mono fun b ys e => sbl _ _ e fun zz => by rw [zz, x1] at e; cases e
      refine ⟨_, rfl, .inl ⟨rfl, _, SqL.of h9l⟩, _, rfl, _, rfl, l, _, rfl, .inl (SqL.of eln), fun k1 hk1 => ⟨(by show 2 <= sizeLine; omega), fun p2 hp2 => ?_⟩⟩
      have t1 := same_upd (o := .lst (xl ++ [.str (Str.ofString "more")])) hk1
      have ek1 : upd Gl k1 (.lst (xl ++ [.str (Str.ofString "more")])) k1 = some (.lst (xl ++ [.str (Str.ofString "more")])) := upd_same
      generalize upd Gl k1 (.lst (xl ++ [.str (Str.ofString "more")])) = Gm at t1 ek1 hp2 ⊢
      have t2 := same_upd (o := .tup [.ref l, .ref k1]) hp2
      have ep2 : upd Gm p2 (.tup [.ref l, .ref k1]) p2 = some (.tup [.ref l, .ref k1]) := upd_same
      generalize upd Gm p2 (.tup [.ref l, .ref k1]) = Gn' at t2 ep2 ⊢
      have tln := t1.trans t2
      have h9n := tln _ _ h9l
      refine ⟨h9, hs', _, rfl, rfl, h9n, (by have : ls.length = 5 := (by rw [<- hls]; rfl); omega), ?_⟩
      have sb9 : SameBut h9 Gn' (upd Gn' h9 (.lst (hs' ++ [.ref p2]))) := fun b u e hb => by rw [upd_ne hb]; exact e
      have e9n : upd Gn' h9 (.lst (hs' ++ [.ref p2])) h9 = some (.lst (hs' ++ [.ref p2])) := upd_same
      generalize upd Gn' h9 (.lst (hs' ++ [.ref p2])) = Go at sb9 e9n ⊢
      have sfo : Same Hf Go := fun b u e => sb9 _ _ (tln _ _ (sbl _ _ (sGk _ _ e) (ne_of_none e (hfl l hlm)))) (ne_of_none e hh9)
      have n9k1 : k1 ≠ h9 := fun zz => by rw [zz, h9l] at hk1; cases hk1
      have ndl := nd
      have lnd : ∀ s ∈ ls.drop (k + 1), l ≠ s := fun s hs2 zz => by
       have q := (List.drop_sublist k ls).nodup ndl
       rw [hdr] at q
       exact (List.nodup_cons.mp q).1 (by rw [zz]; exact hs2)
      refine ⟨_, hs' ++ [.ref p2], rfl, sfo, sb9 _ _ (tln _ _ hql) nq9, e9n, fun v hv2 => ?_, fun s hs2 => ?_, by rw [List.length_append]; show hs'.length + 1 <= _; omega⟩
      ·rcases List.mem_append.mp hv2 with q | q
       ·exact ((hHl.same tln).but List.mem_cons_self sb9 h9n).less (fun s hs2 => by
         rcases List.mem_cons.mp hs2 with e | q'
         ·rw [e]; exact List.mem_cons_self
         ·exact List.mem_cons_of_mem _ (List.mem_cons_of_mem _ q')) v q
       ·rw [List.mem_singleton.mp q]
        have np2 : p2 ≠ h9 := fun zz => by rw [zz, h9n] at ep2; cases ep2
        refine ⟨p2, l, k1, xl ++ [.str (Str.ofString "more")], dl ++ [.str (Str.ofString "more")], rfl, sb9 _ _ ep2 np2, sb9 _ _ (tln _ _ eln) nl9.symm, sb9 _ _ (t2 _ _ ek1) n9k1, ?_, lay_app x4 more_isS, dep_app x5' (Nat.zero_le _), fun s hs2 => ?_⟩
        ·have tpo : Same (tp Gn') (tp Go) := tp_mono fun b ys e => sb9 _ _ e fun zz => by rw [zz, h9n] at e; cases e
         exact dtvs_app (dtvs_same ((tpl.trans (Same.tp tln)).trans tpo) x3) (.str _)
        ·rcases List.mem_cons.mp hs2 with e | q'
         ·rw [e]; exact ⟨nl9.symm, n9k1⟩
         ·refine ⟨lnd s q', fun zz => ?_⟩
          obtain ⟨xs2, _, y1', _⟩ := hLk s (List.mem_cons_of_mem _ q')
          have := sbl _ _ y1' (lnd s q').symm
          rw [<- zz, hk1] at this
          cases this
      ·have hs3 := hLk s (List.mem_cons_of_mem _ hs2)
       have hsm : s ∈ ls := List.mem_of_mem_drop hs2
       exact ((hs3.but sbl x1 (lnd s hs2).symm).same tln).but sb9 h9n (n9l s hsm).symm
     ·rintro σ G' ⟨o12', hs', rfl, sGk, hqk, h9k, hHk, hLk, hhk⟩
      have e5 : (ls.map V.ref).length = 5 := by rw [<- hls]; rfl
      rw [e5] at hhk
      exact ⟨_, _, _, hs', rfl, sGk, h9k, hHk.less (fun s hs2 => by rw [List.mem_singleton.mp hs2]; exact List.mem_cons_self), by omega⟩
    ·rintro σ G ⟨o10, o11, o12, hs, rfl, sG, hG9, hHeld, hhl⟩
     rw [wml] at hhl
     refine ⟨_, rfl, _, rfl, _, rfl, _, rfl, _, _, rfl, rfl, ⟨by decide, by decide⟩, x, pa, m, _, xs, ps, wm, rfl, hBf.same sG, hL, sG _ _ epf, hPf'.same sG, sG _ _ hMf, hw0, hw10, hWm', fun Gz sz => ⟨_, rfl, iteF ?_⟩⟩
     have hHz := hHeld.same sz
     have h9z := sz _ _ hG9
     refine ⟨_, rfl, h9, rfl, ⟨_, SqL.of h9z⟩, ?_⟩
     refine comp_itl (xs := hs) (fun i ys G' => Gz = G' /\ ys = (List.replicate i true).map V.bl) (by omega) (fun i ys G' q => by rw [<- q.1]; exact SqL.of h9z) ⟨rfl, rfl⟩ ?_ ?_
     ·rintro i v ys G' N hv ⟨rfl, rfl⟩ hN
      obtain ⟨p, t, k, xk, dk, rfl, g1', g2, g3, g4, g5, g6, _⟩ := hHz v (List.mem_of_getElem? hv)
      have g4' := dtvs_same tp_to g4
      refine ⟨p, _, rfl, SqT.of g1', rfl, _, _, rfl, _, _, rfl, rfl, nif ?_⟩
      have lay : (PyData.list dk).canLay0 = true := g5
      refine ⟨_, rfl, _, rfl, .list dk, .list dk, .lst (SqL.of g2) g4', .lst (SqL.of g3) g4', lay, lay, ?_, ?_⟩
      ·have : (PyData.list dk).depth = PyData.depthAll dk + 1 := rfl
       omega
      ·rw [eqv_same lay]
       exact hN _ _ ⟨rfl, by rw [List.replicate_succ', List.map_append]; rfl⟩
     ·rintro ys G' ⟨rfl, rfl⟩ _ q hq
      refine ⟨q, List.replicate hs.length true, rfl, SqL.of upd_same, ?_⟩
      rw [all_rep]
      exact kk _
end
section
variable {P : Program} {w : World} {K : PySem.W.Frag} {mg : Str -> Option Value} {base h : Heap} {CK CT C2 CN C0 CW C CWk : Addr}
theorem txt_mk (X : K.In h) (G : h.Ns mainGlobals mg) {t0 t1 t2 t3 t4 t5 t6 : Tok}
  (n0 : PySem.W.nsIn K mainGlobals "isinstance" = some none)
  (n1 : PySem.W.nsIn K mainGlobals "int" = some none)
  (n2 : PySem.W.nsIn K mainGlobals "bool" = some none)
  (n3 : PySem.W.nsIn K mainGlobals "str" = some none)
  (n4 : PySem.W.nsIn K mainGlobals "list" = some none)
  (n5 : PySem.W.nsIn K mainGlobals "tuple" = some none)
  (n6 : PySem.W.nsIn K mainGlobals "len" = some none)
  (n7 : PySem.W.nsIn K mainGlobals "all" = some none)
  (n8 : PySem.W.nsIn K mainGlobals "ord" = some none)
  (n9 : PySem.W.nsIn K mainGlobals "range" = some none)
  (n10 : PySem.W.nsIn K mainGlobals "enumerate" = some none)
  (n11 : PySem.W.nsIn K mainGlobals "sorted" = some none)
  (n12 : PySem.W.nsIn K mainGlobals "sum" = some none)
  (n13 : PySem.W.nsIn K mainGlobals "any" = some none)
  (n14 : PySem.W.nsIn K mainGlobals "reversed" = some none)
  (n15 : PySem.W.nsIn K mainGlobals "ValueError" = some none)
  (c0 : PySem.W.nsIn K mainGlobals "MOST_TEXT_SIGNS" = some (some (.int 2000 t0)))
  (c1 : PySem.W.nsIn K mainGlobals "MOST_KEY_SIGNS" = some (some (.int 12 t1)))
  (c2 : PySem.W.nsIn K mainGlobals "MOST_WORD_SIGNS" = some (some (.int 2000 t2)))
  (c3 : PySem.W.nsIn K mainGlobals "SMALL_SIGNS" = some (some (.str "abcdefghijklmnopqrstuvwxyz0123456789" t3)))
  (c4 : PySem.W.nsIn K mainGlobals "PERCENT_NUMBER" = some (some (.int 37 t4)))
  (c5 : PySem.W.nsIn K mainGlobals "GREATEST_PART" = some (some (.int 255 t5)))
  (c6 : PySem.W.nsIn K mainGlobals "MORE_COMES" = some (some (.int 128 t6)))
  : Txt mg where
 isi := PySem.W.mg_none_of X G n0
 int := PySem.W.mg_none_of X G n1
 bool := PySem.W.mg_none_of X G n2
 str := PySem.W.mg_none_of X G n3
 list := PySem.W.mg_none_of X G n4
 tuple := PySem.W.mg_none_of X G n5
 len := PySem.W.mg_none_of X G n6
 all := PySem.W.mg_none_of X G n7
 ord := PySem.W.mg_none_of X G n8
 range := PySem.W.mg_none_of X G n9
 enum := PySem.W.mg_none_of X G n10
 sorted := PySem.W.mg_none_of X G n11
 sum := PySem.W.mg_none_of X G n12
 any := PySem.W.mg_none_of X G n13
 rev := PySem.W.mg_none_of X G n14
 val := PySem.W.mg_none_of X G n15
 cText := ⟨t0, PySem.W.mg_of X G c0⟩
 cKey := ⟨t1, PySem.W.mg_of X G c1⟩
 cWord := ⟨t2, PySem.W.mg_of X G c2⟩
 cSmall := ⟨t3, PySem.W.mg_of X G c3⟩
 cPer := ⟨t4, PySem.W.mg_of X G c4⟩
 cGreat := ⟨t5, PySem.W.mg_of X G c5⟩
 cMore := ⟨t6, PySem.W.mg_of X G c6⟩
def Clss (K : PySem.W.Frag) (mg : Str -> Option Value) : Prop := ∃ CK CT C2 CN C0 CW, Ex K mg "BadKey" CK /\ Ex K mg "BadText" CT /\ Ex K mg "Twice" C2 /\ Ex K mg "BadNumber" CN /\ Ex K mg "NoText" C0 /\ Ex K mg "BadWord" CW
theorem cl_mk (X : K.In h) (G : h.Ns mainGlobals mg)
  (a0 : PySem.W.nsIn K mainGlobals "BadKey" = some (some (.ref CK)))
  (x0 : PySem.W.excIn K CK [.type "ValueError", .type "Exception", .type "BaseException", .type "object"] "ValueError.__new__" = true)
  (a1 : PySem.W.nsIn K mainGlobals "BadText" = some (some (.ref CT)))
  (x1 : PySem.W.excIn K CT [.type "ValueError", .type "Exception", .type "BaseException", .type "object"] "ValueError.__new__" = true)
  (a2 : PySem.W.nsIn K mainGlobals "Twice" = some (some (.ref C2)))
  (x2 : PySem.W.excIn K C2 [.type "ValueError", .type "Exception", .type "BaseException", .type "object"] "ValueError.__new__" = true)
  (a3 : PySem.W.nsIn K mainGlobals "BadNumber" = some (some (.ref CN)))
  (x3 : PySem.W.excIn K CN [.type "ValueError", .type "Exception", .type "BaseException", .type "object"] "ValueError.__new__" = true)
  (a4 : PySem.W.nsIn K mainGlobals "NoText" = some (some (.ref C0)))
  (x4 : PySem.W.excIn K C0 [.type "ValueError", .type "Exception", .type "BaseException", .type "object"] "ValueError.__new__" = true)
  (a5 : PySem.W.nsIn K mainGlobals "BadWord" = some (some (.ref CW)))
  (x5 : PySem.W.excIn K CW [.type "ValueError", .type "Exception", .type "BaseException", .type "object"] "ValueError.__new__" = true)
  : Clss K mg :=
 ⟨CK, CT, C2, CN, C0, CW, ⟨PySem.W.mg_of X G a0, x0⟩, ⟨PySem.W.mg_of X G a1, x1⟩, ⟨PySem.W.mg_of X G a2, x2⟩, ⟨PySem.W.mg_of X G a3, x3⟩, ⟨PySem.W.mg_of X G a4, x4⟩, ⟨PySem.W.mg_of X G a5, x5⟩⟩
def Bk (K : PySem.W.Frag) (mg : Str -> Option Value) : Prop := ∃ C : Addr, BkC K mg C /\ (∃ f d, FnD K "__init__" "Book.__init__" bInit f d #[.none] /\ L2.Mk K C f) /\ (∃ f d, Fun K "many" "Book.many" bMany f d /\ Meth K C "many" f) /\ (∃ f d, Fun K "total" "Book.total" bTotal f d /\ Meth K C "total" f) /\ (∃ f d, Fun K "need_own" "Book.need_own" bNeedOwn f d /\ Meth K C "need_own" f) /\ (∃ f d, Fun K "key_of" "Book.key_of" bKeyOf f d /\ Meth K C "key_of" f) /\ (∃ f d, Fun K "text_of" "Book.text_of" bTextOf f d /\ Meth K C "text_of" f) /\ (∃ f d, Fun K "size_of" "Book.size_of" bSizeOf f d /\ Meth K C "size_of" f) /\ (∃ f d, Fun K "number_of" "Book.number_of" bNumberOf f d /\ Meth K C "number_of" f) /\ (∃ f d, Fun K "words" "Book.words" bWords f d /\ Meth K C "words" f) /\ (∃ f d, Fun K "starts" "Book.starts" bStarts f d /\ Meth K C "starts" f) /\ (∃ f d, Fun K "parts_of" "Book.parts_of" bPartsOf f d /\ Meth K C "parts_of" f) /\ (∃ f d, Fun K "row_of" "Book.row_of" bRowOf f d /\ Meth K C "row_of" f) /\ (∃ f d, Fun K "walk_of" "Book.walk_of" bWalkOf f d /\ Meth K C "walk_of" f)
theorem bk_mk {fI T : Addr} {odI anI tdI : Option Addr} {slI tslI : Array (Option Value)} {ocI kVI dcI pmI cdI ctI tcI : Value} {tnI : Nat} {f0 : Addr} {od0 an0 : Option Addr} {sl0 : Array (Option Value)} {oc0 kV0 dc0 pm0 cd0 ct0 : Value} {f1 : Addr} {od1 an1 : Option Addr} {sl1 : Array (Option Value)} {oc1 kV1 dc1 pm1 cd1 ct1 : Value} {f2 : Addr} {od2 an2 : Option Addr} {sl2 : Array (Option Value)} {oc2 kV2 dc2 pm2 cd2 ct2 : Value} {f3 : Addr} {od3 an3 : Option Addr} {sl3 : Array (Option Value)} {oc3 kV3 dc3 pm3 cd3 ct3 : Value} {f4 : Addr} {od4 an4 : Option Addr} {sl4 : Array (Option Value)} {oc4 kV4 dc4 pm4 cd4 ct4 : Value} {f5 : Addr} {od5 an5 : Option Addr} {sl5 : Array (Option Value)} {oc5 kV5 dc5 pm5 cd5 ct5 : Value} {f6 : Addr} {od6 an6 : Option Addr} {sl6 : Array (Option Value)} {oc6 kV6 dc6 pm6 cd6 ct6 : Value} {f7 : Addr} {od7 an7 : Option Addr} {sl7 : Array (Option Value)} {oc7 kV7 dc7 pm7 cd7 ct7 : Value} {f8 : Addr} {od8 an8 : Option Addr} {sl8 : Array (Option Value)} {oc8 kV8 dc8 pm8 cd8 ct8 : Value} {f9 : Addr} {od9 an9 : Option Addr} {sl9 : Array (Option Value)} {oc9 kV9 dc9 pm9 cd9 ct9 : Value} {f10 : Addr} {od10 an10 : Option Addr} {sl10 : Array (Option Value)} {oc10 kV10 dc10 pm10 cd10 ct10 : Value} {f11 : Addr} {od11 an11 : Option Addr} {sl11 : Array (Option Value)} {oc11 kV11 dc11 pm11 cd11 ct11 : Value}
  (X : K.In h) (G : h.Ns mainGlobals mg)
  (aC : PySem.W.nsIn K mainGlobals "Book" = some (some (.ref C)))
  (aI : PySem.W.findIn K (.ref C) "__init__" = some (some (.ref fI)))
  (iI : PySem.W.isFn K (.ref fI) = true)
  (lI : K.lookup fI = some ⟨ocI, odI, .func (PySem.W.fnOf "__init__" "Book.__init__" (defArgs bInit) (defBody bInit) (defScope bInit) (.ref T) kVI dcI pmI anI cdI ctI), slI⟩)
  (cI : PySem.W.codeIn K cdI "Book.__init__" = true)
  (tI : K.lookup T = some ⟨tcI, tdI, .seq #[.none] tnI, tslI⟩)
  (a0 : PySem.W.findIn K (.ref C) "many" = some (some (.ref f0)))
  (i0 : PySem.W.isFn K (.ref f0) = true)
  (l0 : K.lookup f0 = some ⟨oc0, od0, .func (PySem.W.fnOf "many" "Book.many" (defArgs bMany) (defBody bMany) (defScope bMany) .none kV0 dc0 pm0 an0 cd0 ct0), sl0⟩)
  (c0 : PySem.W.codeIn K cd0 "Book.many" = true)
  (k0 : PySem.W.keepIn K (.ref f0) = true)
  (a1 : PySem.W.findIn K (.ref C) "total" = some (some (.ref f1)))
  (i1 : PySem.W.isFn K (.ref f1) = true)
  (l1 : K.lookup f1 = some ⟨oc1, od1, .func (PySem.W.fnOf "total" "Book.total" (defArgs bTotal) (defBody bTotal) (defScope bTotal) .none kV1 dc1 pm1 an1 cd1 ct1), sl1⟩)
  (c1 : PySem.W.codeIn K cd1 "Book.total" = true)
  (k1 : PySem.W.keepIn K (.ref f1) = true)
  (a2 : PySem.W.findIn K (.ref C) "need_own" = some (some (.ref f2)))
  (i2 : PySem.W.isFn K (.ref f2) = true)
  (l2 : K.lookup f2 = some ⟨oc2, od2, .func (PySem.W.fnOf "need_own" "Book.need_own" (defArgs bNeedOwn) (defBody bNeedOwn) (defScope bNeedOwn) .none kV2 dc2 pm2 an2 cd2 ct2), sl2⟩)
  (c2 : PySem.W.codeIn K cd2 "Book.need_own" = true)
  (k2 : PySem.W.keepIn K (.ref f2) = true)
  (a3 : PySem.W.findIn K (.ref C) "key_of" = some (some (.ref f3)))
  (i3 : PySem.W.isFn K (.ref f3) = true)
  (l3 : K.lookup f3 = some ⟨oc3, od3, .func (PySem.W.fnOf "key_of" "Book.key_of" (defArgs bKeyOf) (defBody bKeyOf) (defScope bKeyOf) .none kV3 dc3 pm3 an3 cd3 ct3), sl3⟩)
  (c3 : PySem.W.codeIn K cd3 "Book.key_of" = true)
  (k3 : PySem.W.keepIn K (.ref f3) = true)
  (a4 : PySem.W.findIn K (.ref C) "text_of" = some (some (.ref f4)))
  (i4 : PySem.W.isFn K (.ref f4) = true)
  (l4 : K.lookup f4 = some ⟨oc4, od4, .func (PySem.W.fnOf "text_of" "Book.text_of" (defArgs bTextOf) (defBody bTextOf) (defScope bTextOf) .none kV4 dc4 pm4 an4 cd4 ct4), sl4⟩)
  (c4 : PySem.W.codeIn K cd4 "Book.text_of" = true)
  (k4 : PySem.W.keepIn K (.ref f4) = true)
  (a5 : PySem.W.findIn K (.ref C) "size_of" = some (some (.ref f5)))
  (i5 : PySem.W.isFn K (.ref f5) = true)
  (l5 : K.lookup f5 = some ⟨oc5, od5, .func (PySem.W.fnOf "size_of" "Book.size_of" (defArgs bSizeOf) (defBody bSizeOf) (defScope bSizeOf) .none kV5 dc5 pm5 an5 cd5 ct5), sl5⟩)
  (c5 : PySem.W.codeIn K cd5 "Book.size_of" = true)
  (k5 : PySem.W.keepIn K (.ref f5) = true)
  (a6 : PySem.W.findIn K (.ref C) "number_of" = some (some (.ref f6)))
  (i6 : PySem.W.isFn K (.ref f6) = true)
  (l6 : K.lookup f6 = some ⟨oc6, od6, .func (PySem.W.fnOf "number_of" "Book.number_of" (defArgs bNumberOf) (defBody bNumberOf) (defScope bNumberOf) .none kV6 dc6 pm6 an6 cd6 ct6), sl6⟩)
  (c6 : PySem.W.codeIn K cd6 "Book.number_of" = true)
  (k6 : PySem.W.keepIn K (.ref f6) = true)
  (a7 : PySem.W.findIn K (.ref C) "words" = some (some (.ref f7)))
  (i7 : PySem.W.isFn K (.ref f7) = true)
  (l7 : K.lookup f7 = some ⟨oc7, od7, .func (PySem.W.fnOf "words" "Book.words" (defArgs bWords) (defBody bWords) (defScope bWords) .none kV7 dc7 pm7 an7 cd7 ct7), sl7⟩)
  (c7 : PySem.W.codeIn K cd7 "Book.words" = true)
  (k7 : PySem.W.keepIn K (.ref f7) = true)
  (a8 : PySem.W.findIn K (.ref C) "starts" = some (some (.ref f8)))
  (i8 : PySem.W.isFn K (.ref f8) = true)
  (l8 : K.lookup f8 = some ⟨oc8, od8, .func (PySem.W.fnOf "starts" "Book.starts" (defArgs bStarts) (defBody bStarts) (defScope bStarts) .none kV8 dc8 pm8 an8 cd8 ct8), sl8⟩)
  (c8 : PySem.W.codeIn K cd8 "Book.starts" = true)
  (k8 : PySem.W.keepIn K (.ref f8) = true)
  (a9 : PySem.W.findIn K (.ref C) "parts_of" = some (some (.ref f9)))
  (i9 : PySem.W.isFn K (.ref f9) = true)
  (l9 : K.lookup f9 = some ⟨oc9, od9, .func (PySem.W.fnOf "parts_of" "Book.parts_of" (defArgs bPartsOf) (defBody bPartsOf) (defScope bPartsOf) .none kV9 dc9 pm9 an9 cd9 ct9), sl9⟩)
  (c9 : PySem.W.codeIn K cd9 "Book.parts_of" = true)
  (k9 : PySem.W.keepIn K (.ref f9) = true)
  (a10 : PySem.W.findIn K (.ref C) "row_of" = some (some (.ref f10)))
  (i10 : PySem.W.isFn K (.ref f10) = true)
  (l10 : K.lookup f10 = some ⟨oc10, od10, .func (PySem.W.fnOf "row_of" "Book.row_of" (defArgs bRowOf) (defBody bRowOf) (defScope bRowOf) .none kV10 dc10 pm10 an10 cd10 ct10), sl10⟩)
  (c10 : PySem.W.codeIn K cd10 "Book.row_of" = true)
  (k10 : PySem.W.keepIn K (.ref f10) = true)
  (a11 : PySem.W.findIn K (.ref C) "walk_of" = some (some (.ref f11)))
  (i11 : PySem.W.isFn K (.ref f11) = true)
  (l11 : K.lookup f11 = some ⟨oc11, od11, .func (PySem.W.fnOf "walk_of" "Book.walk_of" (defArgs bWalkOf) (defBody bWalkOf) (defScope bWalkOf) .none kV11 dc11 pm11 an11 cd11 ct11), sl11⟩)
  (c11 : PySem.W.codeIn K cd11 "Book.walk_of" = true)
  (k11 : PySem.W.keepIn K (.ref f11) = true)
  (pg : PySem.W.plainGet K C Str.empty = true)
  (hd : PySem.W.hasDictIn K C = true)
  (po : PySem.W.plainOver K C = true)
  (sa : PySem.W.findIn K (.ref C) "__setattr__" = some (some (.builtin "object.__setattr__")))
  (mk : PySem.W.makesIn K C = true)
  (kc : PySem.W.keepIn K (.ref C) = true)
  (nN : PySem.W.findIn K (.ref C) "numbers" = some none)
  (nP : PySem.W.findIn K (.ref C) "pairs" = some none)
  (nS : PySem.W.findIn K (.ref C) "sizes" = some none)
  (nR : PySem.W.findIn K (.ref C) "rows" = some none)
  (nI : PySem.W.findIn K (.ref C) "rising" = some none)
  : Bk K mg :=
 ⟨C, ⟨⟨pg, hd, po, sa⟩, nN, nP, nS, nR, nI, PySem.W.mg_of X G aC⟩, ⟨fI, _, ⟨ocI, odI, kVI, dcI, pmI, anI, cdI, ctI, slI, T, _, tnI, rfl, lI, cI, tI, rfl⟩, ⟨mk, aI, iI, kc⟩⟩, ⟨f0, _, fun_mk l0 c0 k0, ⟨a0, i0, k0⟩⟩, ⟨f1, _, fun_mk l1 c1 k1, ⟨a1, i1, k1⟩⟩, ⟨f2, _, fun_mk l2 c2 k2, ⟨a2, i2, k2⟩⟩, ⟨f3, _, fun_mk l3 c3 k3, ⟨a3, i3, k3⟩⟩, ⟨f4, _, fun_mk l4 c4 k4, ⟨a4, i4, k4⟩⟩, ⟨f5, _, fun_mk l5 c5 k5, ⟨a5, i5, k5⟩⟩, ⟨f6, _, fun_mk l6 c6 k6, ⟨a6, i6, k6⟩⟩, ⟨f7, _, fun_mk l7 c7 k7, ⟨a7, i7, k7⟩⟩, ⟨f8, _, fun_mk l8 c8 k8, ⟨a8, i8, k8⟩⟩, ⟨f9, _, fun_mk l9 c9 k9, ⟨a9, i9, k9⟩⟩, ⟨f10, _, fun_mk l10 c10 k10, ⟨a10, i10, k10⟩⟩, ⟨f11, _, fun_mk l11 c11 k11, ⟨a11, i11, k11⟩⟩⟩
def Wk (K : PySem.W.Frag) (mg : Str -> Option Value) : Prop := ∃ (C : Addr), TxtC K mg C /\ (∃ f d, Fun K "__init__" "Walk.__init__" wInit f d /\ L2.Mk K C f) /\ (∃ f d, Fun K "rest" "Walk.rest" wRest f d /\ Meth K C "rest" f) /\ (∃ f d, Fun K "leap" "Walk.leap" wLeap f d /\ Meth K C "leap" f)
theorem wk_mk {f : Addr} {od an : Option Addr} {sl : Array (Option Value)} {oc kV dc pm cd ct : Value} {f0 : Addr} {od0 an0 : Option Addr} {sl0 : Array (Option Value)} {oc0 kV0 dc0 pm0 cd0 ct0 : Value} {f1 : Addr} {od1 an1 : Option Addr} {sl1 : Array (Option Value)} {oc1 kV1 dc1 pm1 cd1 ct1 : Value} (X : K.In h) (G : h.Ns mainGlobals mg)
  (aC : PySem.W.nsIn K mainGlobals "Walk" = some (some (.ref CWk)))
  (aI : PySem.W.findIn K (.ref CWk) "__init__" = some (some (.ref f)))
  (iI : PySem.W.isFn K (.ref f) = true)
  (lI : K.lookup f = some ⟨oc, od, .func (PySem.W.fnOf "__init__" "Walk.__init__" (defArgs wInit) (defBody wInit) (defScope wInit) .none kV dc pm an cd ct), sl⟩)
  (cI : PySem.W.codeIn K cd "Walk.__init__" = true)
  (kI : PySem.W.keepIn K (.ref f) = true)
  (a0 : PySem.W.findIn K (.ref CWk) "rest" = some (some (.ref f0)))
  (i0 : PySem.W.isFn K (.ref f0) = true)
  (l0 : K.lookup f0 = some ⟨oc0, od0, .func (PySem.W.fnOf "rest" "Walk.rest" (defArgs wRest) (defBody wRest) (defScope wRest) .none kV0 dc0 pm0 an0 cd0 ct0), sl0⟩)
  (c0 : PySem.W.codeIn K cd0 "Walk.rest" = true)
  (k0 : PySem.W.keepIn K (.ref f0) = true)
  (a1 : PySem.W.findIn K (.ref CWk) "leap" = some (some (.ref f1)))
  (i1 : PySem.W.isFn K (.ref f1) = true)
  (l1 : K.lookup f1 = some ⟨oc1, od1, .func (PySem.W.fnOf "leap" "Walk.leap" (defArgs wLeap) (defBody wLeap) (defScope wLeap) .none kV1 dc1 pm1 an1 cd1 ct1), sl1⟩)
  (c1 : PySem.W.codeIn K cd1 "Walk.leap" = true)
  (k1 : PySem.W.keepIn K (.ref f1) = true)
  (pg : PySem.W.plainGet K CWk Str.empty = true)
  (hd : PySem.W.hasDictIn K CWk = true)
  (po : PySem.W.plainOver K CWk = true)
  (sa : PySem.W.findIn K (.ref CWk) "__setattr__" = some (some (.builtin "object.__setattr__")))
  (mk : PySem.W.makesIn K CWk = true)
  (kc : PySem.W.keepIn K (.ref CWk) = true)
  (nP : PySem.W.findIn K (.ref CWk) "pairs" = some none)
  (nL : PySem.W.findIn K (.ref CWk) "place" = some none)
  : Wk K mg :=
 ⟨CWk, ⟨⟨pg, hd, po, sa⟩, nP, nL, PySem.W.mg_of X G aC⟩, ⟨f, _, fun_mk lI cI kI, ⟨mk, aI, iI, kc⟩⟩, ⟨f0, _, fun_mk l0 c0 k0, ⟨a0, i0, k0⟩⟩, ⟨f1, _, fun_mk l1 c1 k1, ⟨a1, i1, k1⟩⟩⟩
theorem law_all (T : Txt mg) (X : Clss K mg) (B : Bk K mg) (W : Wk K mg)
  (d_sWhole : ∃ f fd, Df K mg "is_whole" sWhole f fd)
  (d_sSign : ∃ f fd, Df K mg "is_text_sign" sSign f fd)
  (d_sText : ∃ f fd, Df K mg "is_text" sText f fd)
  (d_sRow : ∃ f fd, Df K mg "is_small_row" sRow f fd)
  (d_sKey : ∃ f fd, Df K mg "is_key" sKey f fd)
  (d_sNText : ∃ f fd, Df K mg "need_text" sNText f fd)
  (d_sNKey : ∃ f fd, Df K mg "need_key" sNKey f fd)
  (d_sOne : ∃ f fd, Df K mg "parts_of_one" sOne f fd)
  (d_sPacked : ∃ f fd, Df K mg "packed" sPacked f fd)
  (d_sNParts : ∃ f fd, Df K mg "need_parts" sNParts f fd)
  (d_sUnp : ∃ f fd, Df K mg "unpacked" sUnp f fd)
  (d_sRis : ∃ f fd, Df K mg "is_rising" sRis f fd)
  (d_sHasP : ∃ f fd, Df K mg "has_places" sHasP f fd)
  (d_sNRow : ∃ f fd, Df K mg "need_row" sNRow f fd)
  (d_sGaps : ∃ f fd, Df K mg "gaps_of" sGaps f fd)
  (d_sNums : ∃ f fd, Df K mg "numbers_by" sNums f fd)
  (d_sPRow : ∃ f fd, Df K mg "packed_row" sPRow f fd)
  (d_sURow : ∃ f fd, Df K mg "unpacked_row" sURow f fd)
  (d_sWord : ∃ f fd, Df K mg "is_word" sWord f fd)
  (d_sNWord : ∃ f fd, Df K mg "need_word" sNWord f fd)
  (d_sWordsIn : ∃ f fd, Df K mg "words_in" sWordsIn f fd)
  (d_sPlain : ∃ f fd, Df K mg "plain_words" sPlain f fd)
  (d_sNBK : ∃ f fd, Df K mg "numbers_by_key" sNBK f fd)
  (d_sPBW : ∃ f fd, Df K mg "places_by_word" sPBW f fd)
  (d_sPRs : ∃ f fd, Df K mg "packed_rows" sPRs f fd)
  (d_sRBW : ∃ f fd, Df K mg "rows_by_word" sRBW f fd)
  (d_sCopy : ∃ f fd, Df K mg "copied_rows" sCopy f fd)
  (d_lCell : ∃ f fd, Df K mg "_law_cell_at" lCell f fd)
  (d_lMixed : ∃ f fd, Df K mg "_law_mixed" lMixed f fd)
  (d_lNumber : ∃ f fd, Df K mg "_law_number" lNumber f fd)
  (d_lMenu : ∃ f fd, Df K mg "_law_menu" lMenu f fd)
  (d_lText : ∃ f fd, Df K mg "_law_text" lText f fd)
  (d_lSmall : ∃ f fd, Df K mg "_law_small" lSmall f fd)
  (d_lWords : ∃ f fd, Df K mg "_law_words" lWords f fd)
  (d_lKey : ∃ f fd, Df K mg "_law_key" lKey f fd)
  (d_lPairs : ∃ f fd, Df K mg "_law_pairs" lPairs f fd)
  (d_lRows : ∃ f fd, Df K mg "_law_rows" lRows f fd)
  (d_lParts : ∃ f fd, Df K mg "_law_parts" lParts f fd)
  (d_lListIs : ∃ f fd, Df K mg "_law_list_is" lListIs f fd)
  (d_lFar : ∃ f fd, Df K mg "_law_far_pairs" lFar f fd)
  (d_lTT : ∃ f fd, Df K mg "_law_texts_told" lTT f fd)
  (d_lWT : ∃ f fd, Df K mg "_law_words_told" lWT f fd)
  (d_lTells : ∃ f fd, Df K mg "_law_tells" lTells f fd)
  (d_sNNum : ∃ f fd, DfD K mg "need_number" sNNum f fd #[.none])
  {f : Addr} {fd : FuncData} (D : Df K mg "law" lLaw f fd) : FnOk P w K mg base CX0 10 f fd ["_law_script"] (spLaw K) := by
 obtain ⟨CK, CT, C2, CN, C0, CW, XK, XT, X2, XN, X0, XW⟩ := X
 obtain ⟨C, BC, ⟨fI, dI, FI, MI⟩, ⟨f0, e0, F0, M0⟩, ⟨f1, e1, F1, M1⟩, ⟨f2, e2, F2, M2⟩, ⟨f3, e3, F3, M3⟩, ⟨f4, e4, F4, M4⟩, ⟨f5, e5, F5, M5⟩, ⟨f6, e6, F6, M6⟩, ⟨f7, e7, F7, M7⟩, ⟨f8, e8, F8, M8⟩, ⟨f9, e9, F9, M9⟩, ⟨f10, e10, F10, M10⟩, ⟨f11, e11, F11, M11⟩⟩ := B
 obtain ⟨CWk, TW, ⟨fW, dW, FWk, MWk⟩, ⟨fR, eR, FRe, MRe⟩, ⟨fL, eL, FLe, MLe⟩⟩ := W
 obtain ⟨_, _, D_sWhole⟩ := d_sWhole
 obtain ⟨_, _, D_sSign⟩ := d_sSign
 obtain ⟨_, _, D_sText⟩ := d_sText
 obtain ⟨_, _, D_sRow⟩ := d_sRow
 obtain ⟨_, _, D_sKey⟩ := d_sKey
 obtain ⟨_, _, D_sNText⟩ := d_sNText
 obtain ⟨_, _, D_sNKey⟩ := d_sNKey
 obtain ⟨_, _, D_sOne⟩ := d_sOne
 obtain ⟨_, _, D_sPacked⟩ := d_sPacked
 obtain ⟨_, _, D_sNParts⟩ := d_sNParts
 obtain ⟨_, _, D_sUnp⟩ := d_sUnp
 obtain ⟨_, _, D_sRis⟩ := d_sRis
 obtain ⟨_, _, D_sHasP⟩ := d_sHasP
 obtain ⟨_, _, D_sNRow⟩ := d_sNRow
 obtain ⟨_, _, D_sGaps⟩ := d_sGaps
 obtain ⟨_, _, D_sNums⟩ := d_sNums
 obtain ⟨_, _, D_sPRow⟩ := d_sPRow
 obtain ⟨_, _, D_sURow⟩ := d_sURow
 obtain ⟨_, _, D_sWord⟩ := d_sWord
 obtain ⟨_, _, D_sNWord⟩ := d_sNWord
 obtain ⟨_, _, D_sWordsIn⟩ := d_sWordsIn
 obtain ⟨_, _, D_sPlain⟩ := d_sPlain
 obtain ⟨_, _, D_sNBK⟩ := d_sNBK
 obtain ⟨_, _, D_sPBW⟩ := d_sPBW
 obtain ⟨_, _, D_sPRs⟩ := d_sPRs
 obtain ⟨_, _, D_sRBW⟩ := d_sRBW
 obtain ⟨_, _, D_sCopy⟩ := d_sCopy
 obtain ⟨_, _, D_lCell⟩ := d_lCell
 obtain ⟨_, _, D_lMixed⟩ := d_lMixed
 obtain ⟨_, _, D_lNumber⟩ := d_lNumber
 obtain ⟨_, _, D_lMenu⟩ := d_lMenu
 obtain ⟨_, _, D_lText⟩ := d_lText
 obtain ⟨_, _, D_lSmall⟩ := d_lSmall
 obtain ⟨_, _, D_lWords⟩ := d_lWords
 obtain ⟨_, _, D_lKey⟩ := d_lKey
 obtain ⟨_, _, D_lPairs⟩ := d_lPairs
 obtain ⟨_, _, D_lRows⟩ := d_lRows
 obtain ⟨_, _, D_lParts⟩ := d_lParts
 obtain ⟨_, _, D_lListIs⟩ := d_lListIs
 obtain ⟨_, _, D_lFar⟩ := d_lFar
 obtain ⟨_, _, D_lTT⟩ := d_lTT
 obtain ⟨_, _, D_lWT⟩ := d_lWT
 obtain ⟨_, _, D_lTells⟩ := d_lTells
 obtain ⟨_, _, D_sNNum⟩ := d_sNNum
 have gText := ok_text (P := P) (w := w) (base := base) D_sText D_sSign T
 have gKey := ok_key (P := P) (w := w) (base := base) D_sKey D_sRow T
 have gWord := ok_word (P := P) (w := w) (base := base) D_sWord D_sRow T
 have gNText := ok_ntext D_sNText D_sText XT gText
 have gNKey := ok_nkey D_sNKey D_sKey XK gKey
 have gNWord := ok_nword D_sNWord D_sWord XW gWord
 have gNNum := ok_nnum (P := P) (w := w) (base := base) D_sNNum D_sWhole XN T
 have gPlain := ok_plain D_sPlain D_sWordsIn (ok_win D_sWordsIn D_sNText gNText T)
 have gUnp := ok_unp (P := P) (w := w) (base := base) D_sUnp D_sNParts (ok_nparts D_sNParts D_sWhole T) T
 have gURow := ok_urow D_sURow D_sUnp gUnp D_sNums T
 have gPacked := ok_packed (P := P) (w := w) (base := base) D_sPacked D_sOne (ok_one D_sOne T) D_sNNum (ok_nn D_sNNum D_sWhole T)
 have gNRow := ok_nrow (P := P) (w := w) (base := base) D_sNRow D_sRis (ok_risL D_sRis D_sWhole T) D_sHasP (ok_hasp D_sHasP D_sRis (ok_risT D_sRis D_sWhole T) T) T
 have gPRow := ok_prow D_sPRow D_sNRow gNRow D_sGaps D_sPacked gPacked T
 have gPRs := ok_prs D_sPRs D_sPRow gPRow
 have gRBW := ok_rbw D_sRBW D_sPBW (ok_pbw D_sPBW T) D_sPRs gPRs T
 have gNBK := ok_nbk D_sNBK D_sNKey gNKey D_sNText gNText X2 T
 have gInit := ok_binit FI BC T D_sNBK gNBK D_sPlain gPlain D_sRBW gRBW D_sCopy (ok_copy D_sCopy T)
 have gMany := ok_many (P := P) (w := w) (base := base) F0 BC T
 have gTotal := ok_total (P := P) (w := w) (base := base) F1 BC T
 have gOwn := ok_nown F2 BC F0 M0 gMany D_sNNum gNNum
 have gKeyOf := ok_keyof F2 M2 gOwn BC F3
 have gTextOf := ok_textof F2 M2 gOwn BC F4
 have gSizeOf := ok_sizeof F2 M2 gOwn BC F5
 have gNumOf := ok_numof F6 BC D_sKey gKey X0
 have gWords := ok_wordsB (P := P) (w := w) (base := base) F7 BC T
 have gStarts := ok_startsG F8 BC D_sNWord gNWord
 have gParts := ok_parts F9 BC D_sNWord gNWord T
 have gRowOf := ok_rowofB F10 BC F9 M9 gParts D_sURow gURow
 have gWI := ok_init FWk TW D_sURow gURow
 have gWalkOf := ok_walkofG F11 BC F9 M9 gParts FWk MWk TW gWI
 have gRest := ok_rest (P := P) (w := w) (base := base) FRe TW
 have gLeap := ok_leap FLe TW T D_sNNum gNNum
 have BM : BkM P w K mg base C CWk CN C0 CW := ⟨BC, ⟨_, _, F0, M0, gMany⟩, ⟨_, _, F1, M1, gTotal⟩, ⟨_, _, F3, M3, gKeyOf⟩, ⟨_, _, F4, M4, gTextOf⟩, ⟨_, _, F5, M5, gSizeOf⟩, ⟨_, _, F6, M6, gNumOf⟩, ⟨_, _, F7, M7, gWords⟩, ⟨_, _, F9, M9, gParts⟩, ⟨_, _, F10, M10, gRowOf⟩, ⟨_, _, F8, M8, gStarts⟩, ⟨_, _, F11, M11, gWalkOf⟩, TW, ⟨_, _, FRe, MRe, gRest⟩, ⟨_, _, FLe, MLe, gLeap⟩⟩
 have gNumber := ok_numberX (P := P) (w := w) (base := base) D_lNumber D_lMixed T
 have gPairs := ok_pairsL D_lPairs D_lNumber gNumber D_lKey (ok_keyL D_lKey T) D_lText (ok_textL D_lText D_lMixed T) T
 have gWl := ok_words (P := P) (w := w) (base := base) D_lWords D_lSmall T
 have gRw := ok_rw D_lRows D_lWords gWl T
 have gTT := ok_tt D_lTT BM D_lWords gWl T
 have gWT := ok_wt D_lWT BM D_lListIs (ok_li D_lListIs T) D_lParts (ok_pt D_lParts T) T
 have gTl := ok_tl D_lTells D_lRows gRw D_lTT gTT D_lWT gWT T
 exact ok_law D T BM D_lMenu (ok_menu D_lMenu D_lMixed T) D_lNumber gNumber D_lPairs gPairs D_lCell (ok_cell D_lCell T) D_lFar (ok_far D_lFar T) D_lTells gTl FI MI gInit
theorem law_mk {f fa : Addr} {oc kV doc pm cd ct : Value} {od an : Option Addr} {sl : Array (Option Value)} (X : K.In h) (G : h.Ns mainGlobals mg) (hfa : mg "law" = some (.ref fa)) (a : PySem.W.nsIn K mainGlobals "law" = some (some (.ref f)))
  (l : K.lookup f = some ⟨oc, od, .func (PySem.W.fnOf "law" "law" (defArgs lLaw) (defBody lLaw) (defScope lLaw) .none kV doc pm an cd ct), sl⟩) (c : PySem.W.codeIn K cd "law" = true) (k : PySem.W.keepIn K (.ref f) = true)
  (ok : ∀ (fd : FuncData) (base : Heap), Df K mg "law" lLaw f fd -> FnOk P w K mg base CX0 10 f fd ["_law_script"] (spLaw K)) :
  ∃ fd : FuncData, (∀ (s : Shared) (v : Value), BindsTo s fd ⟨[v], []⟩ [("_law_script", v)]) /\ ∀ base : Heap, K.In base -> base.Ns mainGlobals mg -> FnOk P w K mg base CX0 10 fa fd ["_law_script"] (spLaw K) := by
 have e := hfa.symm.trans (PySem.W.mg_of X G a)
 cases e
 exact ⟨PySem.W.fnOf "law" "law" (defArgs lLaw) (defBody lLaw) (defScope lLaw) .none kV doc pm an cd ct, fun s v => .of_eq rfl, fun base _ _ => ok _ base ⟨fun_mk l c k, PySem.W.mg_of X G a⟩⟩
end
theorem walk {l : PySem.W.OpenLaw} {q : Program} {loose : List Str} {XP : (Str -> Option Value) -> Heap -> Prop} {YP : World -> Heap -> Prop} {d : DefRec} {K : Params -> PySem.W.Frag} (hn : l.most = some 63) (hdf : d.params.defaults = [])
  (hY : ∀ (w : World) (h : Heap), YP w h -> (K w.params).In h)
  (F : ∀ (w : World) (mg : Str -> Option Value) (fa : Addr) (h : Heap), (K w.params).In h -> h.Ns mainGlobals mg -> mg d.name = some (.ref fa) ->
   ∃ fd : FuncData, (∀ (s : Shared) (u : Value), BindsTo s fd ⟨[u], []⟩ [("_law_script", u)]) /\ ∀ base : Heap, (K w.params).In base -> base.Ns mainGlobals mg -> FnOk l.prog w (K w.params) mg base CX0 10 fa fd ["_law_script"] (spLaw (K w.params))) :
  PySem.W.WalkO q loose XP YP l.row.toRowW d [] (fun f vs => PySem.call f vs) :=
 walkB (n := 63) (k := 10) (x := "_law_script") (sp := spLaw) hn (by decide) hdf ⟨rfl, by decide, by decide⟩ hY F fun K H a ns hl hb hS => ⟨a, ns, rfl, hS, hl, fun _ => rfl⟩
end K08
open PySem PySem.W PyProof.Rows
set_option maxRecDepth 100000 in
set_option maxHeartbeats 0 in
theorem PySem.Challenge.cw_findhall_k08_books_holds : PySem.Challenge.rw_findhall_k08_books.Holds := by
 refine H08.head ?_
 k_fill
 refine K08.walk (l := PySem.Challenge.rw_findhall_k08_books) rfl rfl (fun w h Y => PySem.W.kIn_of Y) ?F
 case F =>
  intro w mg fa h KX G hmg
  have hC : K08.Clss (L2.KOf KX) mg := by
   dsimp only [L2.KOf]
   refine' K08.cl_mk KX G ?a0 ?x0 ?a1 ?x1 ?a2 ?x2 ?a3 ?x3 ?a4 ?x4 ?a5 ?x5
   (case a0 => k_is)
   (case x0 => k_exc)
   (case a1 => k_is)
   (case x1 => k_exc)
   (case a2 => k_is)
   (case x2 => k_exc)
   (case a3 => k_is)
   (case x3 => k_exc)
   (case a4 => k_is)
   (case x4 => k_exc)
   (case a5 => k_is)
   (case x5 => k_exc)
  have T : K08.Txt mg := by
   refine' K08.txt_mk KX G ?n0 ?n1 ?n2 ?n3 ?n4 ?n5 ?n6 ?n7 ?n8 ?n9 ?n10 ?n11 ?n12 ?n13 ?n14 ?n15 ?c0 ?c1 ?c2 ?c3 ?c4 ?c5 ?c6
   (case n0 => k_is)
   (case n1 => k_is)
   (case n2 => k_is)
   (case n3 => k_is)
   (case n4 => k_is)
   (case n5 => k_is)
   (case n6 => k_is)
   (case n7 => k_is)
   (case n8 => k_is)
   (case n9 => k_is)
   (case n10 => k_is)
   (case n11 => k_is)
   (case n12 => k_is)
   (case n13 => k_is)
   (case n14 => k_is)
   (case n15 => k_is)
   (case c0 => k_is)
   (case c1 => k_is)
   (case c2 => k_is)
   (case c3 => k_is)
   (case c4 => k_is)
   (case c5 => k_is)
   (case c6 => k_is)
  have B : K08.Bk (L2.KOf KX) mg := by
   dsimp only [L2.KOf]
   refine' K08.bk_mk KX G ?zaC ?zaI ?ziI ?zlI ?zcI ?ztI ?za0 ?zi0 ?zl0 ?zc0 ?zk0 ?za1 ?zi1 ?zl1 ?zc1 ?zk1 ?za2 ?zi2 ?zl2 ?zc2 ?zk2 ?za3 ?zi3 ?zl3 ?zc3 ?zk3 ?za4 ?zi4 ?zl4 ?zc4 ?zk4 ?za5 ?zi5 ?zl5 ?zc5 ?zk5 ?za6 ?zi6 ?zl6 ?zc6 ?zk6 ?za7 ?zi7 ?zl7 ?zc7 ?zk7 ?za8 ?zi8 ?zl8 ?zc8 ?zk8 ?za9 ?zi9 ?zl9 ?zc9 ?zk9 ?za10 ?zi10 ?zl10 ?zc10 ?zk10 ?za11 ?zi11 ?zl11 ?zc11 ?zk11 ?zpg ?zhd ?zpo ?zsa ?zmk ?zkc ?znN ?znP ?znS ?znR ?znI
   (case zaC => k_is)
   (case zaI => k_is)
   (case ziI => k_is)
   (case zlI => k_is)
   (case zcI => k_is)
   (case ztI => k_is)
   (case za0 => k_is)
   (case zi0 => k_is)
   (case zl0 => k_is)
   (case zc0 => k_is)
   (case zk0 => k_is)
   (case za1 => k_is)
   (case zi1 => k_is)
   (case zl1 => k_is)
   (case zc1 => k_is)
   (case zk1 => k_is)
   (case za2 => k_is)
   (case zi2 => k_is)
   (case zl2 => k_is)
   (case zc2 => k_is)
   (case zk2 => k_is)
   (case za3 => k_is)
   (case zi3 => k_is)
   (case zl3 => k_is)
   (case zc3 => k_is)
   (case zk3 => k_is)
   (case za4 => k_is)
   (case zi4 => k_is)
   (case zl4 => k_is)
   (case zc4 => k_is)
   (case zk4 => k_is)
   (case za5 => k_is)
   (case zi5 => k_is)
   (case zl5 => k_is)
   (case zc5 => k_is)
   (case zk5 => k_is)
   (case za6 => k_is)
   (case zi6 => k_is)
   (case zl6 => k_is)
   (case zc6 => k_is)
   (case zk6 => k_is)
   (case za7 => k_is)
   (case zi7 => k_is)
   (case zl7 => k_is)
   (case zc7 => k_is)
   (case zk7 => k_is)
   (case za8 => k_is)
   (case zi8 => k_is)
   (case zl8 => k_is)
   (case zc8 => k_is)
   (case zk8 => k_is)
   (case za9 => k_is)
   (case zi9 => k_is)
   (case zl9 => k_is)
   (case zc9 => k_is)
   (case zk9 => k_is)
   (case za10 => k_is)
   (case zi10 => k_is)
   (case zl10 => k_is)
   (case zc10 => k_is)
   (case zk10 => k_is)
   (case za11 => k_is)
   (case zi11 => k_is)
   (case zl11 => k_is)
   (case zc11 => k_is)
   (case zk11 => k_is)
   (case zpg => k_is)
   (case zhd => k_is)
   (case zpo => k_is)
   (case zsa => k_is)
   (case zmk => k_is)
   (case zkc => k_is)
   (case znN => k_is)
   (case znP => k_is)
   (case znS => k_is)
   (case znR => k_is)
   (case znI => k_is)
  have W : K08.Wk (L2.KOf KX) mg := by
   dsimp only [L2.KOf]
   refine' K08.wk_mk KX G ?zaC ?zaI ?ziI ?zlI ?zcI ?zkI ?za0 ?zi0 ?zl0 ?zc0 ?zk0 ?za1 ?zi1 ?zl1 ?zc1 ?zk1 ?zpg ?zhd ?zpo ?zsa ?zmk ?zkc ?znP ?znL
   (case zaC => k_is)
   (case zaI => k_is)
   (case ziI => k_is)
   (case zlI => k_is)
   (case zcI => k_is)
   (case zkI => k_is)
   (case za0 => k_is)
   (case zi0 => k_is)
   (case zl0 => k_is)
   (case zc0 => k_is)
   (case zk0 => k_is)
   (case za1 => k_is)
   (case zi1 => k_is)
   (case zl1 => k_is)
   (case zc1 => k_is)
   (case zk1 => k_is)
   (case zpg => k_is)
   (case zhd => k_is)
   (case zpo => k_is)
   (case zsa => k_is)
   (case zmk => k_is)
   (case zkc => k_is)
   (case znP => k_is)
   (case znL => k_is)
  have d_sWhole : ∃ f fd, Gn.Df (L2.KOf KX) mg "is_whole" K08.sWhole f fd := by
   dsimp only [L2.KOf]
   refine' Gn.df_mk KX G ?a ?l ?c ?k
   (case a => k_is); (case l => k_is); (case c => k_is); (case k => k_is)
  have d_sSign : ∃ f fd, Gn.Df (L2.KOf KX) mg "is_text_sign" K08.sSign f fd := by
   dsimp only [L2.KOf]
   refine' Gn.df_mk KX G ?a ?l ?c ?k
   (case a => k_is); (case l => k_is); (case c => k_is); (case k => k_is)
  have d_sText : ∃ f fd, Gn.Df (L2.KOf KX) mg "is_text" K08.sText f fd := by
   dsimp only [L2.KOf]
   refine' Gn.df_mk KX G ?a ?l ?c ?k
   (case a => k_is); (case l => k_is); (case c => k_is); (case k => k_is)
  have d_sRow : ∃ f fd, Gn.Df (L2.KOf KX) mg "is_small_row" K08.sRow f fd := by
   dsimp only [L2.KOf]
   refine' Gn.df_mk KX G ?a ?l ?c ?k
   (case a => k_is); (case l => k_is); (case c => k_is); (case k => k_is)
  have d_sKey : ∃ f fd, Gn.Df (L2.KOf KX) mg "is_key" K08.sKey f fd := by
   dsimp only [L2.KOf]
   refine' Gn.df_mk KX G ?a ?l ?c ?k
   (case a => k_is); (case l => k_is); (case c => k_is); (case k => k_is)
  have d_sNText : ∃ f fd, Gn.Df (L2.KOf KX) mg "need_text" K08.sNText f fd := by
   dsimp only [L2.KOf]
   refine' Gn.df_mk KX G ?a ?l ?c ?k
   (case a => k_is); (case l => k_is); (case c => k_is); (case k => k_is)
  have d_sNKey : ∃ f fd, Gn.Df (L2.KOf KX) mg "need_key" K08.sNKey f fd := by
   dsimp only [L2.KOf]
   refine' Gn.df_mk KX G ?a ?l ?c ?k
   (case a => k_is); (case l => k_is); (case c => k_is); (case k => k_is)
  have d_sOne : ∃ f fd, Gn.Df (L2.KOf KX) mg "parts_of_one" K08.sOne f fd := by
   dsimp only [L2.KOf]
   refine' Gn.df_mk KX G ?a ?l ?c ?k
   (case a => k_is); (case l => k_is); (case c => k_is); (case k => k_is)
  have d_sPacked : ∃ f fd, Gn.Df (L2.KOf KX) mg "packed" K08.sPacked f fd := by
   dsimp only [L2.KOf]
   refine' Gn.df_mk KX G ?a ?l ?c ?k
   (case a => k_is); (case l => k_is); (case c => k_is); (case k => k_is)
  have d_sNParts : ∃ f fd, Gn.Df (L2.KOf KX) mg "need_parts" K08.sNParts f fd := by
   dsimp only [L2.KOf]
   refine' Gn.df_mk KX G ?a ?l ?c ?k
   (case a => k_is); (case l => k_is); (case c => k_is); (case k => k_is)
  have d_sUnp : ∃ f fd, Gn.Df (L2.KOf KX) mg "unpacked" K08.sUnp f fd := by
   dsimp only [L2.KOf]
   refine' Gn.df_mk KX G ?a ?l ?c ?k
   (case a => k_is); (case l => k_is); (case c => k_is); (case k => k_is)
  have d_sRis : ∃ f fd, Gn.Df (L2.KOf KX) mg "is_rising" K08.sRis f fd := by
   dsimp only [L2.KOf]
   refine' Gn.df_mk KX G ?a ?l ?c ?k
   (case a => k_is); (case l => k_is); (case c => k_is); (case k => k_is)
  have d_sHasP : ∃ f fd, Gn.Df (L2.KOf KX) mg "has_places" K08.sHasP f fd := by
   dsimp only [L2.KOf]
   refine' Gn.df_mk KX G ?a ?l ?c ?k
   (case a => k_is); (case l => k_is); (case c => k_is); (case k => k_is)
  have d_sNRow : ∃ f fd, Gn.Df (L2.KOf KX) mg "need_row" K08.sNRow f fd := by
   dsimp only [L2.KOf]
   refine' Gn.df_mk KX G ?a ?l ?c ?k
   (case a => k_is); (case l => k_is); (case c => k_is); (case k => k_is)
  have d_sGaps : ∃ f fd, Gn.Df (L2.KOf KX) mg "gaps_of" K08.sGaps f fd := by
   dsimp only [L2.KOf]
   refine' Gn.df_mk KX G ?a ?l ?c ?k
   (case a => k_is); (case l => k_is); (case c => k_is); (case k => k_is)
  have d_sNums : ∃ f fd, Gn.Df (L2.KOf KX) mg "numbers_by" K08.sNums f fd := by
   dsimp only [L2.KOf]
   refine' Gn.df_mk KX G ?a ?l ?c ?k
   (case a => k_is); (case l => k_is); (case c => k_is); (case k => k_is)
  have d_sPRow : ∃ f fd, Gn.Df (L2.KOf KX) mg "packed_row" K08.sPRow f fd := by
   dsimp only [L2.KOf]
   refine' Gn.df_mk KX G ?a ?l ?c ?k
   (case a => k_is); (case l => k_is); (case c => k_is); (case k => k_is)
  have d_sURow : ∃ f fd, Gn.Df (L2.KOf KX) mg "unpacked_row" K08.sURow f fd := by
   dsimp only [L2.KOf]
   refine' Gn.df_mk KX G ?a ?l ?c ?k
   (case a => k_is); (case l => k_is); (case c => k_is); (case k => k_is)
  have d_sWord : ∃ f fd, Gn.Df (L2.KOf KX) mg "is_word" K08.sWord f fd := by
   dsimp only [L2.KOf]
   refine' Gn.df_mk KX G ?a ?l ?c ?k
   (case a => k_is); (case l => k_is); (case c => k_is); (case k => k_is)
  have d_sNWord : ∃ f fd, Gn.Df (L2.KOf KX) mg "need_word" K08.sNWord f fd := by
   dsimp only [L2.KOf]
   refine' Gn.df_mk KX G ?a ?l ?c ?k
   (case a => k_is); (case l => k_is); (case c => k_is); (case k => k_is)
  have d_sWordsIn : ∃ f fd, Gn.Df (L2.KOf KX) mg "words_in" K08.sWordsIn f fd := by
   dsimp only [L2.KOf]
   refine' Gn.df_mk KX G ?a ?l ?c ?k
   (case a => k_is); (case l => k_is); (case c => k_is); (case k => k_is)
  have d_sPlain : ∃ f fd, Gn.Df (L2.KOf KX) mg "plain_words" K08.sPlain f fd := by
   dsimp only [L2.KOf]
   refine' Gn.df_mk KX G ?a ?l ?c ?k
   (case a => k_is); (case l => k_is); (case c => k_is); (case k => k_is)
  have d_sNBK : ∃ f fd, Gn.Df (L2.KOf KX) mg "numbers_by_key" K08.sNBK f fd := by
   dsimp only [L2.KOf]
   refine' Gn.df_mk KX G ?a ?l ?c ?k
   (case a => k_is); (case l => k_is); (case c => k_is); (case k => k_is)
  have d_sPBW : ∃ f fd, Gn.Df (L2.KOf KX) mg "places_by_word" K08.sPBW f fd := by
   dsimp only [L2.KOf]
   refine' Gn.df_mk KX G ?a ?l ?c ?k
   (case a => k_is); (case l => k_is); (case c => k_is); (case k => k_is)
  have d_sPRs : ∃ f fd, Gn.Df (L2.KOf KX) mg "packed_rows" K08.sPRs f fd := by
   dsimp only [L2.KOf]
   refine' Gn.df_mk KX G ?a ?l ?c ?k
   (case a => k_is); (case l => k_is); (case c => k_is); (case k => k_is)
  have d_sRBW : ∃ f fd, Gn.Df (L2.KOf KX) mg "rows_by_word" K08.sRBW f fd := by
   dsimp only [L2.KOf]
   refine' Gn.df_mk KX G ?a ?l ?c ?k
   (case a => k_is); (case l => k_is); (case c => k_is); (case k => k_is)
  have d_sCopy : ∃ f fd, Gn.Df (L2.KOf KX) mg "copied_rows" K08.sCopy f fd := by
   dsimp only [L2.KOf]
   refine' Gn.df_mk KX G ?a ?l ?c ?k
   (case a => k_is); (case l => k_is); (case c => k_is); (case k => k_is)
  have d_lCell : ∃ f fd, Gn.Df (L2.KOf KX) mg "_law_cell_at" K08.lCell f fd := by
   dsimp only [L2.KOf]
   refine' Gn.df_mk KX G ?a ?l ?c ?k
   (case a => k_is); (case l => k_is); (case c => k_is); (case k => k_is)
  have d_lMixed : ∃ f fd, Gn.Df (L2.KOf KX) mg "_law_mixed" K08.lMixed f fd := by
   dsimp only [L2.KOf]
   refine' Gn.df_mk KX G ?a ?l ?c ?k
   (case a => k_is); (case l => k_is); (case c => k_is); (case k => k_is)
  have d_lNumber : ∃ f fd, Gn.Df (L2.KOf KX) mg "_law_number" K08.lNumber f fd := by
   dsimp only [L2.KOf]
   refine' Gn.df_mk KX G ?a ?l ?c ?k
   (case a => k_is); (case l => k_is); (case c => k_is); (case k => k_is)
  have d_lMenu : ∃ f fd, Gn.Df (L2.KOf KX) mg "_law_menu" K08.lMenu f fd := by
   dsimp only [L2.KOf]
   refine' Gn.df_mk KX G ?a ?l ?c ?k
   (case a => k_is); (case l => k_is); (case c => k_is); (case k => k_is)
  have d_lText : ∃ f fd, Gn.Df (L2.KOf KX) mg "_law_text" K08.lText f fd := by
   dsimp only [L2.KOf]
   refine' Gn.df_mk KX G ?a ?l ?c ?k
   (case a => k_is); (case l => k_is); (case c => k_is); (case k => k_is)
  have d_lSmall : ∃ f fd, Gn.Df (L2.KOf KX) mg "_law_small" K08.lSmall f fd := by
   dsimp only [L2.KOf]
   refine' Gn.df_mk KX G ?a ?l ?c ?k
   (case a => k_is); (case l => k_is); (case c => k_is); (case k => k_is)
  have d_lWords : ∃ f fd, Gn.Df (L2.KOf KX) mg "_law_words" K08.lWords f fd := by
   dsimp only [L2.KOf]
   refine' Gn.df_mk KX G ?a ?l ?c ?k
   (case a => k_is); (case l => k_is); (case c => k_is); (case k => k_is)
  have d_lKey : ∃ f fd, Gn.Df (L2.KOf KX) mg "_law_key" K08.lKey f fd := by
   dsimp only [L2.KOf]
   refine' Gn.df_mk KX G ?a ?l ?c ?k
   (case a => k_is); (case l => k_is); (case c => k_is); (case k => k_is)
  have d_lPairs : ∃ f fd, Gn.Df (L2.KOf KX) mg "_law_pairs" K08.lPairs f fd := by
   dsimp only [L2.KOf]
   refine' Gn.df_mk KX G ?a ?l ?c ?k
   (case a => k_is); (case l => k_is); (case c => k_is); (case k => k_is)
  have d_lRows : ∃ f fd, Gn.Df (L2.KOf KX) mg "_law_rows" K08.lRows f fd := by
   dsimp only [L2.KOf]
   refine' Gn.df_mk KX G ?a ?l ?c ?k
   (case a => k_is); (case l => k_is); (case c => k_is); (case k => k_is)
  have d_lParts : ∃ f fd, Gn.Df (L2.KOf KX) mg "_law_parts" K08.lParts f fd := by
   dsimp only [L2.KOf]
   refine' Gn.df_mk KX G ?a ?l ?c ?k
   (case a => k_is); (case l => k_is); (case c => k_is); (case k => k_is)
  have d_lListIs : ∃ f fd, Gn.Df (L2.KOf KX) mg "_law_list_is" K08.lListIs f fd := by
   dsimp only [L2.KOf]
   refine' Gn.df_mk KX G ?a ?l ?c ?k
   (case a => k_is); (case l => k_is); (case c => k_is); (case k => k_is)
  have d_lFar : ∃ f fd, Gn.Df (L2.KOf KX) mg "_law_far_pairs" K08.lFar f fd := by
   dsimp only [L2.KOf]
   refine' Gn.df_mk KX G ?a ?l ?c ?k
   (case a => k_is); (case l => k_is); (case c => k_is); (case k => k_is)
  have d_lTT : ∃ f fd, Gn.Df (L2.KOf KX) mg "_law_texts_told" K08.lTT f fd := by
   dsimp only [L2.KOf]
   refine' Gn.df_mk KX G ?a ?l ?c ?k
   (case a => k_is); (case l => k_is); (case c => k_is); (case k => k_is)
  have d_lWT : ∃ f fd, Gn.Df (L2.KOf KX) mg "_law_words_told" K08.lWT f fd := by
   dsimp only [L2.KOf]
   refine' Gn.df_mk KX G ?a ?l ?c ?k
   (case a => k_is); (case l => k_is); (case c => k_is); (case k => k_is)
  have d_lTells : ∃ f fd, Gn.Df (L2.KOf KX) mg "_law_tells" K08.lTells f fd := by
   dsimp only [L2.KOf]
   refine' Gn.df_mk KX G ?a ?l ?c ?k
   (case a => k_is); (case l => k_is); (case c => k_is); (case k => k_is)
  have d_sNNum : ∃ f fd, Gn.DfD (L2.KOf KX) mg "need_number" K08.sNNum f fd #[.none] := by
   dsimp only [L2.KOf]
   refine' Gn.dfd_mk KX G ?a ?l ?c ?k ?t
   (case a => k_is); (case l => k_is); (case c => k_is); (case k => k_is); (case t => k_is)
  refine' K08.law_mk KX G hmg ?a ?l ?c ?k fun fd base D => K08.law_all T hC B W d_sWhole d_sSign d_sText d_sRow d_sKey d_sNText d_sNKey d_sOne d_sPacked d_sNParts d_sUnp d_sRis d_sHasP d_sNRow d_sGaps d_sNums d_sPRow d_sURow d_sWord d_sNWord d_sWordsIn d_sPlain d_sNBK d_sPBW d_sPRs d_sRBW d_sCopy d_lCell d_lMixed d_lNumber d_lMenu d_lText d_lSmall d_lWords d_lKey d_lPairs d_lRows d_lParts d_lListIs d_lFar d_lTT d_lWT d_lTells d_sNNum D
  (case a => k_is); (case l => k_is); (case c => k_is); (case k => k_is)
