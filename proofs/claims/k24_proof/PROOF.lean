import PyProof.Rows.All
import Wide.All
import OpenK.AllK
import Wide.FinOn
import PyProof.EqAt
import PyProof.EqKinds
import PyProof.TupleCall
import Lean
import PySem.Challenge.RW_findhall_k24_shown_and_read
noncomputable section
set_option Elab.async false
set_option linter.all false
set_option compiler.extract_closed false
set_option maxRecDepth 100000
set_option maxHeartbeats 4000000
noncomputable section
namespace H24
open PySem PySem.W PyProof.Rows
abbrev pQ : Program := PySem.Challenge.pw_findhall_k24_shown_and_read
def vQ : Program := PySem.W.view pQ [1, 2, 3, 4, 5, 6, 7, 8, 9, 10, 11, 12, 13, 14, 16, 17, 18, 19, 20, 21, 22, 24, 26, 27, 28, 29, 32, 33, 34, 35, 36, 37, 38, 39, 40, 41, 43, 44, 45, 46, 47, 48, 49, 50, 51, 52, 53, 54, 55, 56, 57, 58, 59, 60, 61]
def lQ : List Str := [Str.ofString "SHOWN_SIGNS", Str.ofString "MEANT_SIGNS"]
def xQ (s : Shared) : Bool := xlAt vQ [] s && recOk (RowW.records PySem.Challenge.rw_findhall_k24_shown_and_read.row.toRowW) s
def sQ (w : World) (os : OsState) : Shared := ⟨boot_heap w.params, Array.mk [], boot_drawn, boot_toks, os⟩
def topRunT (tb : String -> Option Builtin) (p : Program) (w : World) (n₀ : Nat) (ann : Option Value) : Nat -> SharedT -> Thread -> Option SharedT
 | 0, _, _ => none
 | n + 1, s, t => match through t with
  | true => some s
  | false => match stepOk n₀ ann t with
   | false => none
   | true => match stepT (denote tb) p w s t with
    | some (s', t') => topRunT tb p w n₀ ann n s' t'
    | none => none
theorem topRun_of {tb : String -> Option Builtin} {p : Program} {w : World} {n₀ : Nat} {ann : Option Value} : ∀ {n : Nat} {s s' : SharedT} {t : Thread}, topRunT tb p w n₀ ann n s t = some s' -> topRun tb p w n₀ ann n s.abs t = some s'.abs
 | 0, _, _, _, h => by cases h
 | n + 1, s, s', t, h => by
  unfold topRunT at h
  unfold topRun
  cases he : through t with
  | true => rw [he] at h; cases h; rfl
  | false =>
   rw [he] at h
   cases hk : stepOk n₀ ann t with
   | false => rw [hk] at h; cases h
   | true =>
    rw [hk] at h
    cases hs : stepT (denote tb) p w s t with
    | none => rw [hs] at h; cases h
    | some r => obtain ⟨s₂, t₂⟩ := r; rw [hs] at h; rw [stepT_spec hs]; exact topRun_of h
def buildT : List Obj -> BT -> Nat -> Option BT
 | [], t, _ => some t
 | o :: r, t, n => match ((t.ins n o).get n).isSome with
  | true => buildT r (t.ins n o) (n + 1)
  | false => none
theorem build_of : ∀ {l : List Obj} {t t' : BT} {n : Nat} (life : Life), buildT l t n = some t' -> absHeap t' (n + l.length) life = ⟨(absHeap t n life).objs ++ l.toArray, life⟩
 | [], t, t', n, life, h => by
  cases h
  show absHeap t n life = _
  unfold absHeap
  simp
 | o :: r, t, t', n, life, h => by
  unfold buildT at h
  cases hs : ((t.ins n o).get n).isSome with
  | false => rw [hs] at h; cases h
  | true =>
   rw [hs] at h
   have e := build_of life h
   rw [show n + (o :: r).length = n + 1 + r.length by rw [List.length_cons]; omega, e, absHeap_ins hs]
   show Heap.mk _ _ = Heap.mk _ _
   congr 1
   show (absHeap t n life).objs.push o ++ r.toArray = (absHeap t n life).objs ++ (o :: r).toArray
   apply Array.ext'
   simp
def annQ (w : World) (os : OsState) : Option Value := (sQ w os).heap.nsMap mainGlobals (Str.ofString "__annotations__")
def topQ (w : World) (os : OsState) : Option Shared := match buildT (boot_heap w.params).objs.toList .nil 0 with
 | none => none
 | some t => (topRunT treeTable pQ w (boot_heap w.params).objs.size (annQ w os) 20000 ⟨t, (boot_heap w.params).objs.size, (boot_heap w.params).life, Array.mk [], boot_drawn, boot_toks, os⟩ (topStub pQ)).map SharedT.abs
theorem topQ_run {w : World} {os : OsState} {s : Shared} (h : topQ w os = some s) : topRun treeTable pQ w (sQ w os).heap.objs.size ((sQ w os).heap.nsMap mainGlobals (Str.ofString "__annotations__")) 20000 (sQ w os) (topStub pQ) = some s := by
 unfold topQ at h
 cases hb : buildT (boot_heap w.params).objs.toList .nil 0 with
 | none => rw [hb] at h; cases h
 | some t =>
  rw [hb] at h
  obtain ⟨x, hx, e⟩ := Option.map_eq_some_iff.mp h
  have q := topRun_of hx
  have a : absHeap t (boot_heap w.params).objs.size (boot_heap w.params).life = boot_heap w.params := by
   have := build_of (boot_heap w.params).life hb
   rw [Nat.zero_add, Array.length_toList] at this
   rw [this]
   show Heap.mk _ _ = _
   have e0 : (absHeap .nil 0 (boot_heap w.params).life).objs = #[] := by unfold absHeap BT.list; simp
   rw [e0]
   simp
  have es : SharedT.abs ⟨t, (boot_heap w.params).objs.size, (boot_heap w.params).life, Array.mk [], boot_drawn, boot_toks, os⟩ = sQ w os := by
   unfold SharedT.abs sQ
   rw [a]
  rw [es] at q
  rw [<- e]
  exact q
def okQ (h : Heap) (s : Shared) : Bool := staticsOk (importedModules pQ.main.body) h s.heap && namesBound pQ s.heap && gensDone s && laidKept h s.heap
def seenQ (s : Shared) := openSeen vQ lQ (importedModules pQ.main.body) xQ true s
def goodQ := openGood vQ lQ
def ok9 (w : World) (os : OsState) (s : Shared) : Bool := okQ (boot_heap w.params) s && ((sQ w os).heap.isNs mainGlobals && (sQ w os).gens.size == 0)
def seenA (s : Shared) := (fun x => (x.1, x.2.1, x.2.2.1, x.2.2.2.1, x.2.2.2.2.1, x.2.2.2.2.2.1, x.2.2.2.2.2.2.1, x.2.2.2.2.2.2.2.1, x.2.2.2.2.2.2.2.2)) (seenQ s)
def goodA := (true, (fun x => (x.1, x.2.1, x.2.2.1, x.2.2.2.1, x.2.2.2.2.1, x.2.2.2.2.2.1, x.2.2.2.2.2.2.1, x.2.2.2.2.2.2.2.1, x.2.2.2.2.2.2.2.2)) goodQ)
def runA (w : World) (os : OsState) := (topQ w os).map fun s => (ok9 w os s, seenA s)
def runK (as : List Nat) (w : World) (os : OsState) := (topQ w os).map fun s => as.map s.heap.get?
def _root_.PySem.W.Fast.tw14598715356260435866 := PySem.W.boot_o_0
theorem _root_.PySem.W.Fast.te14598715356260435866 : PySem.W.boot_o_0 = PySem.W.Fast.tw14598715356260435866 := rfl
def _root_.PySem.W.Fast.tw11015213414371557434 := PySem.Challenge.pw_findhall_k24_shown_and_read
theorem _root_.PySem.W.Fast.te11015213414371557434 : PySem.Challenge.pw_findhall_k24_shown_and_read = PySem.W.Fast.tw11015213414371557434 := rfl
lay_quick runA goodA
theorem hA0 : ∀ w os, PySem.W.Fast.tw1409808782711635618 (World.withFollow w "special-get-raises" false) os = some PySem.W.Fast.tw5405550424694879850 := fun w os => by kernel_rfl
theorem hA1 : ∀ w os, PySem.W.Fast.tw1409808782711635618 (World.withFollow w "special-get-raises" true) os = some PySem.W.Fast.tw5405550424694879850 := fun w os => by kernel_rfl
lay_quick runK
theorem rA (w : World) (os : OsState) : runA w os = some goodA := by
 have k : ∀ b, runA (World.withFollow w "special-get-raises" b) os = some goodA := fun b => by
  rw [PySem.W.Fast.te1409808782711635618, PySem.W.Fast.te5405550424694879850]
  cases b
  ·exact hA0 w os
  ·exact hA1 w os
 have := k (w.params.followText "special-get-raises")
 rwa [World.withFollow_self] at this
theorem spl {as : List Nat} {V : World -> List (Option Obj)} {w : World} {os : OsState} (k : ∀ b, PySem.W.Fast.tw8616398422056345531 as (World.withFollow w "special-get-raises" b) os = some (V (World.withFollow w "special-get-raises" b))) : PySem.W.Fast.tw8616398422056345531 as w os = some (V w) := by
 have := k (w.params.followText "special-get-raises")
 rwa [World.withFollow_self] at this
theorem topFrom_some {tb : String -> Option Builtin} {p : Program} {w : World} {N : Nat} {s0 s : Shared} (h1 : (s0.heap.isNs mainGlobals && s0.gens.size == 0) = true) (h2 : topRun tb p w s0.heap.objs.size (s0.heap.nsMap mainGlobals (Str.ofString "__annotations__")) N s0 (topStub p) = some s)
  (h3 : (staticsOk (importedModules p.main.body) s0.heap s.heap && namesBound p s.heap && gensDone s && laidKept s0.heap s.heap) = true) : topFrom tb p w N s0 = some s := by
 unfold topFrom
 rw [h1]
 dsimp only
 rw [h2]
 dsimp only [Option.bind]
 rw [h3]
theorem openEnds_some {tb : String -> Option Builtin} {p : Program} {w : World} {N : Nat} {s0 s : Shared} (a : fencedOpening tb p w N = some s0) (b : topFrom tb p w N s0 = some s) : openEnds tb p w N = some s := by
 unfold openEnds
 rw [a]
 exact b
theorem map_at {α β : Type} {o : Option α} {s : α} {f : α -> β} {b : β} (h : o = some s) (e : o.map f = some b) : f s = b := by
 subst h
 exact Option.some.inj e
theorem map_some' {α β : Type} {o : Option α} {f : α -> β} {b : β} (e : o.map f = some b) : ∃ s, o = some s := by
 cases o with
 | none => cases e
 | some s => exact ⟨s, rfl⟩
theorem pair_of {α β σ : Type} {f : σ -> α} {g : σ -> β} {o : Option σ} {s : σ} {a : α} {b : β} (e : o = some s) (h1 : f s = a) (h2 : g s = b) : o.map (fun s => (f s, g s)) = some (a, b) := by
 subst e
 subst h1
 subst h2
 rfl
theorem sh_eq {s : Shared} {h : Heap} {g : Array GenState} {d : Drawn} {k : Nat} (a : s.heap = h) (b : s.gens = g) (c : s.drawn = d) (e : s.toks = k) : s = ⟨h, g, d, k, s.os⟩ := by
 cases s
 cases a
 cases b
 cases c
 cases e
 rfl
theorem opQ : opening pQ = plainProg pQ.main.scope.names := by kernel_rfl
theorem feQ (s : Shared) : fenceModules? pQ s = some s := by kernel_rfl
theorem seen_eq {s : Shared} (aA : seenA s = goodA.2) : seenQ s = goodQ :=
 Prod.ext (congrArg (fun y => y.1) aA) (Prod.ext (congrArg (fun y => y.2.1) aA) (Prod.ext (congrArg (fun y => y.2.2.1) aA) (Prod.ext (congrArg (fun y => y.2.2.2.1) aA) (Prod.ext (congrArg (fun y => y.2.2.2.2.1) aA) (Prod.ext (congrArg (fun y => y.2.2.2.2.2.1) aA) (Prod.ext (congrArg (fun y => y.2.2.2.2.2.2.1) aA) (Prod.ext (congrArg (fun y => y.2.2.2.2.2.2.2.1) aA) ((congrArg (fun y => y.2.2.2.2.2.2.2.2) aA)))))))))
theorem end_of {as : List Nat} {V : World -> List (Option Obj)} {w : World} {os : OsState} {s : Shared} (ht : topQ w os = some s) (hs0 : fencedOpening treeTable pQ w 20000 = some (sQ w os)) (e : runK as w os = some (V w)) :
  openEnds treeTable pQ w 20000 = some s /\ seenQ s = goodQ /\ as.map s.heap.get? = V w := by
 have d0 := map_at (f := fun (s : Shared) => (ok9 w os s, seenA s)) ht (rA w os)
 have d1 : ok9 w os s = true := congrArg (fun y => y.1) d0
 have dA : seenA s = goodA.2 := congrArg (fun y => y.2) d0
 obtain ⟨d2, d3⟩ := Bool.and_eq_true_iff.mp d1
 exact ⟨openEnds_some hs0 (topFrom_some d3 (topQ_run ht) d2), seen_eq dA , map_at (f := fun (s : Shared) => as.map s.heap.get?) ht e⟩
theorem hl_of {as : List Nat} {V : World -> List (Option Obj)} (h : ∀ w os, PySem.W.Fast.tw8616398422056345531 as w os = some (V w)) : LeftO pQ vQ lQ xQ (fun s => as.map s.heap.get?) V 20000 := fun w => by
 obtain ⟨s0, hs0, hv⟩ := Option.map_eq_some_iff.mp (boot_open (p := pQ) (N := 20000) opQ rfl feQ w)
 have es : s0 = sQ w s0.os := sh_eq (congrArg (fun x => x.1) hv) (congrArg (fun x => x.2.1) hv) (congrArg (fun x => x.2.2.1) hv) (congrArg (fun x => x.2.2.2) hv)
 rw [es] at hs0
 obtain ⟨s, ht⟩ := map_some' (rA w s0.os)
 have e : runK as w s0.os = some (V w) := by rw [PySem.W.Fast.te8616398422056345531]; exact h w s0.os
 obtain ⟨e1, e2, e3⟩ := end_of ht hs0 e
 exact pair_of (f := seenQ) (g := fun s => as.map s.heap.get?) (a := goodQ) e1 e2 e3
theorem dry {p : Prop} (_ : True) (h : p) : p := h
end H24
section
open PySem PySem.W PyProof.Rows
local macro_rules | `(tactic| o_head $H:term) => `(tactic| refine H24.dry ?hw ?hc)
local macro_rules | `(tactic| w_witness2) => `(tactic| trivial)
open_top H24.pre for PySem.Challenge.rw_findhall_k24_shown_and_read
end
namespace H24
open PySem PySem.W PyProof.Rows
noncomputable def asQ : List Addr := [2, 3, 15, 22, 23, 24, 25, 28, 35, 36, 37, 40, 47, 48, 49, 52, 59, 60, 61, 64, 71, 72, 73, 76, 83, 84, 85, 88, 95, 96, 97, 100, 107, 108, 109, 112, 119, 120, 121, 124, 131, 132, 133, 136, 143, 144, 145, 148, 155, 156, 157, 160, 167, 169, 170, 172, 173, 174, 175, 176, 179, 186, 188, 189, 191, 192, 193, 194, 195, 198, 200, 201, 203, 204, 205, 207, 208, 210, 211, 212, 215, 216, 217, 219, 220, 222, 223, 224, 226, 227, 229, 230, 231, 232, 233, 236, 237, 238, 240, 241, 243, 244, 245, 247, 248, 250, 251, 252, 255, 256, 257, 259, 260, 262, 263, 264, 266, 267, 269, 270, 271, 273, 274, 276, 277, 278, 280, 281, 283, 284, 285, 288, 289, 290, 292, 293, 295, 296, 297, 299, 300, 302, 303, 304, 306, 307, 309, 310, 311, 314, 315, 316, 318, 319, 321, 322, 323, 325, 326, 328, 329, 330, 332, 333, 335, 336, 337, 339, 340, 342, 343, 344, 346, 347, 349, 350, 351, 353, 354, 356, 357, 358, 360, 361, 363, 364, 365, 368, 369, 370, 373, 374, 375, 378, 379, 380, 383, 384, 385, 387, 388, 390, 391, 392, 394, 395, 397, 398, 399, 402, 403, 404, 406, 407, 409, 410, 411, 414, 415]
noncomputable abbrev hkQ : Hook := kHook H24.pre.heap_39 asQ (fun _ => by kernel_rfl)
theorem kF : ∀ w os, PySem.W.Fast.tw8616398422056345531 asQ (World.withFollow w "special-get-raises" false) os = some (Hook.val hkQ (World.withFollow w "special-get-raises" false)) := fun w os => by kernel_rfl
theorem kT : ∀ w os, PySem.W.Fast.tw8616398422056345531 asQ (World.withFollow w "special-get-raises" true) os = some (Hook.val hkQ (World.withFollow w "special-get-raises" true)) := fun w os => by kernel_rfl
theorem kB (w : World) (os : OsState) : ∀ b, PySem.W.Fast.tw8616398422056345531 asQ (World.withFollow w "special-get-raises" b) os = some (Hook.val hkQ (World.withFollow w "special-get-raises" b))
 | false => kF w os
 | true => kT w os
end H24
section
open PySem PySem.W PyProof.Rows
local macro_rules | `(tactic| o_head $H:term) => `(tactic|
 refine holds_open
  (q := H24.vQ) (loose := H24.lQ)
  (Xt := H24.xQ) (XP := XL H24.vQ [])
  (Yf := Hook.obs H24.hkQ)
  (Ya := Hook.val H24.hkQ) (YP := Hook.says H24.hkQ)
  (N := 20000)
  (H24.hl_of fun w os => H24.spl (H24.kB w os))
  (Hook.of H24.hkQ) (Hook.keeps H24.hkQ)
  (fun s e => xl_of s (Bool.and_eq_true_iff.mp e).1)
  XL.keeps rfl rfl rfl
  (fun s e => recFacts_of (Bool.and_eq_true_iff.mp e).2)
  rfl
  (by first | assumption | decide +kernel)
  (by decide +kernel)
  ⟨rfl, rfl, rfl, rfl, rfl, by decide +kernel⟩
  ?hw ?hc)
open_top H24.head for PySem.Challenge.rw_findhall_k24_shown_and_read
end
namespace L2
open PySem PySem.Spec PyProof.Rows
theorem _root_.dkq {p:Prop} [Decidable p] (h:decide p=true:=by kernel_rfl):p:=of_decide_eq_true h
noncomputable abbrev Key:=Sum Int Str
noncomputable def om:Key->Value->Bool
 | .inl k,v=>Value.isInt k v
 | .inr x,v=>Value.isStrOf x v
noncomputable def EB(w:World):Key->Int
 | .inl k=>hashInt k
 | .inr x=>hashStr w x
theorem lY:∀{k:Key} {v:Value},om k v=true->(∃ i t,k=Sum.inl i/\v=Value.int i t)\/(∃ x t,k=Sum.inr x/\v=Value.str x t)
 | .inl i,v,h=>by
  obtain⟨t,e⟩:=Value.isInt_shape (k:=i) (v:=v) h
  exact .inl ⟨i,t,rfl,e⟩
 | .inr x,v,h=>by
  obtain⟨t,e⟩:=Value.isStrOf_shape (x:=x) (v:=v) h
  exact .inr ⟨x,t,rfl,e⟩
theorem Cc(i:Int)(t:Tok):om (.inl i) (.int i t)=true:=by simp [om,Value.isInt]
theorem j7(x:Str)(t:Tok):om (.inr x) (.str x t)=true:=by simp [om,Value.isStrOf]
theorem Ez(a b:Int):decide ((Sum.inl a:Key)=Sum.inl b)=(a == b):=by
 by_cases e:a=b
 ·subst e;simp
 ·have h:¬ (Sum.inl a:Key)=Sum.inl b:=fun q=>e (Sum.inl.inj q)
  rw [decide_eq_false h]
  exact(beq_eq_false_iff_ne.mpr e).symm
theorem D1(a b:Str):decide ((Sum.inr a:Key)=Sum.inr b)=decide (a=b):=by
 by_cases e:a=b
 ·subst e;simp
 ·have h:¬ (Sum.inr a:Key)=Sum.inr b:=fun q=>e (Sum.inr.inj q)
  rw [decide_eq_false h,decide_eq_false e]
theorem Dl(a:Int)(b:Str):decide ((Sum.inl a:Key)=Sum.inr b)=false:=decide_eq_false (fun q=>nomatch q)
theorem El(a:Str)(b:Int):decide ((Sum.inr a:Key)=Sum.inl b)=false:=decide_eq_false (fun q=>nomatch q)
noncomputable def j4(prog:Program)(w:World):PySem.KeyKind prog w Key where
 is:=om
 hash:=EB w
 inj:=fun v a b ha hb=>by
  rcases lY ha with ⟨i,t,rfl,rfl⟩ | ⟨x,t,rfl,rfl⟩
  ·rcases lY hb with ⟨j,u,rfl,e⟩ | ⟨y,u,rfl,e⟩
   ·injection e with e1 _;rw [e1]
   ·exact nomatch e
  ·rcases lY hb with ⟨j,u,rfl,e⟩ | ⟨y,u,rfl,e⟩
   ·exact nomatch e
   ·injection e with e1 _;rw [e1]
 byValue:=fun k v h=>by
  rcases lY h with ⟨i,t,rfl,rfl⟩ | ⟨x,t,rfl,rfl⟩<;>rfl
 pyHash:=fun J h=>by
  rcases lY J with ⟨i,t,rfl,rfl⟩ | ⟨x,t,rfl,rfl⟩
  ·exact wpAny_pyHash_int h
  ·exact wpAny_pyHash_str h
 eqBool:=fun U J h=>by
  rcases lY U with ⟨i,t,rfl,rfl⟩ | ⟨x,t,rfl,rfl⟩
  ·rcases lY J with ⟨j,u,rfl,rfl⟩ | ⟨y,u,rfl,rfl⟩
   ·rw [Ez] at h;exact wpAny_eqBool_int h
   ·rw [Dl] at h;exact SeqAt.EqAt.int_str i t y u _ _ _ _ h
  ·rcases lY J with ⟨j,u,rfl,rfl⟩ | ⟨y,u,rfl,rfl⟩
   ·rw [El] at h;exact SeqAt.EqAt.str_int x t j u _ _ _ _ h
   ·rw [D1] at h;exact wpAny_eqBool_str h
 «strs»:=fun k x t v h=>by
  rcases lY h with ⟨i,u,rfl,e⟩ | ⟨y,u,rfl,e⟩
  ·exact nomatch e
  ·injection e with e1 _
   subst e1
   cases v<;>rfl
theorem DE(prog:Program)(w:World)(i:Int)(t:Tok):(j4 prog w).is (.inl i) (.int i t)=true:=Cc i t
theorem Cd(prog:Program)(w:World)(x:Str)(t:Tok):(j4 prog w).is (.inr x) (.str x t)=true:=j7 x t
inductive V where
 | non | bl (b : Bool) | int (i : Int) | str (x : Str) | byt (b : Array UInt8) | flt (b : UInt64) | ref (a : Addr) | ty (n : String)
 deriving DecidableEq
noncomputable def RelV:V->Value->Prop
 | .non,u=>u=Value.none
 | .bl b,u=>u=Value.bool b
 | .int i,u=>∃ t,u=Value.int i t
 | .str x,u=>∃ t,u=Value.str x t
 | .byt b,u=>∃ t,u=Value.bytes b t
 | .flt b,u=>∃ t,u=Value.float b t
 | .ref a,u=>u=Value.ref a
 | .ty n,u=>u=Value.type n
noncomputable abbrev Vals:List V->List Value->Prop:=Paired RelV
theorem Vals.length {xs:List V}{us:List Value}(r:Vals xs us):xs.length=us.length:=Paired.length r
theorem Vals.get:∀{xs:List V} {us:List Value} {i:Nat} {x:V},Vals xs us->xs[i]? =some x->∃ u,us[i]? =some u/\RelV x u
 | _,_,_,_,.nil,e=>by simp at e
 | _,_,0,_,.cons r _,e=>by simp at e;subst e;exact⟨_,rfl,r⟩
 | _,_,i + 1,x,.cons _ t,e=>by
  obtain⟨u,h1,h2⟩:=Vals.get (i:=i) (x:=x) t (by simpa using e)
  exact⟨u,by simpa using h1,h2⟩
theorem Vals.set {x:V}{u:Value}(r:RelV x u):∀{xs:List V} {us:List Value} (i:Nat),Vals xs us->Vals (xs.set i x) (us.set i u)
 | _,_,_,.nil=> .nil
 | _,_,0,.cons _ t=> .cons r t
 | _,_,i + 1,.cons q t=> .cons q (Vals.set r i t)
theorem Vals.append:∀{xs ys:List V} {us ws:List Value},Vals xs us->Vals ys ws->Vals (xs++ys) (us++ws)
 | _,_,_,_,.nil,s=>s
 | _,_,_,_,.cons r t,s=> .cons r (Vals.append t s)
theorem Vals.take:∀{xs:List V} {us:List Value} (n:Nat),Vals xs us->Vals (xs.take n) (us.take n)
 | _,_,0,_=> .nil
 | _,_,_ + 1,.nil=> .nil
 | _,_,n + 1,.cons r t=> .cons r (Vals.take n t)
theorem Vals.drop:∀{xs:List V} {us:List Value} (n:Nat),Vals xs us->Vals (xs.drop n) (us.drop n)
 | _,_,0,r=>r
 | _,_,_ + 1,.nil=> .nil
 | _,_,n + 1,.cons _ t=>Vals.drop n t
noncomputable def nL:Option V->Option Value->Prop
 | some v,some u=>RelV v u
 | none,none=>True
 | _,_=>False
noncomputable def KV{κ:Type}:List (κ×V)->List (κ×Value)->Prop:=Paired fun(p:κ×V) (q:κ×Value)=>p.1=q.1/\RelV p.2 q.2
noncomputable def kV:Key->V
 | .inl i=> .int i
 | .inr x=> .str x
inductive HO where
 | lst (xs : List V)
 | tup (xs : List V)
 | dK (kvs : List (Key × V)) | dT (kvs : List (List Key × V))
 | set (S : Int -> Bool) (n : Nat)
 | ins (C dx : Addr) (fs : List (Str × V))
 | own (x : Addr)
 | xd (fs : List (Str × V))
 | met (f x : Addr)
 | rng (lo hi : Int)
 | frz (o : Obj) (u : HO)
 | tbl (ps : Array Value)
 | ext (φ : Heap -> Prop)
noncomputable abbrev Hp:=Addr->Option HO
noncomputable def upd(H:Hp)(a:Addr)(o:HO):Hp:=fun b=>if b=a then some o else H b
theorem gY{H:Hp}{a:Addr}{o:HO}:upd H a o a=some o:=by unfold upd;rw [if_pos rfl]
theorem ig{H:Hp}{a b:Addr}{o:HO}(h:b≠a):upd H a o b=H b:=by unfold upd;rw [if_neg h]
theorem jo{H:Hp}{a b:Addr}{o:HO}(h:H a=some o)(h':H b=none):a≠b:=by
 intro e;subst e;rw [h] at h';cases h'
section
variable (P : Program) (w : World)
noncomputable def jc(H:Hp)(h:Heap)(a:Addr):HO->Prop
 | .lst xs=>xs.length<=sizeLine/\∃(J:List Value) (n:Nat),Vals xs J/\h.get? a=some {cls:= .type "list",data:= .seq J.toArray n}
 | .tup xs=>xs.length<=sizeLine/\∃ J:List Value,Vals xs J/\IsTup h a J.toArray
 | .dK kvs=>kvs.length<=sizeLine/\(a == sysModules)=false/\∃ vs,KV kvs vs/\h.DictOf (j4 P w) a vs
 | .dT kvs=>kvs.length<=sizeLine/\(a == sysModules)=false/\∃ xs:List (List Key×Addr×Value),
   Paired (fun(p:List Key×V) (q:List Key×Addr×Value)=>p.1=q.1/\H q.2.1=some (.tup (p.1.map kV))/\RelV p.2 q.2.2) kvs xs/\
   ∃ o es ep,h.get? a=some o/\o.ExactDict/\o.data= .dict es ep/\es.toList=xs.map (entryOfKey (tupleKind (j4 P w)))/\(xs.map (·.1)).Nodup
 | .set S n=>h.SetOf (intKind P w) a S n
 | .ins C dx fs=>H dx=some (.own a)/\fs.length<=1000/\dx≠a/\h.get? a=some (W.instObj C dx)/\
   ∃ mA,h.Ns1 dx mA/\(∀ f,nL (fs.lookup f) (mA f))/\PySem.Within mA (fs.map (·.1))
 | .own _=>∃ o,h.get? a=some o
 | .xd fs=>∃ mA,h.Ns1 a mA/\∀ f,nL (fs.lookup f) (mA f)
 | .rng lo hi=>∃ t u v,h.get? a=some {cls:= .type "range",data:= .fields #[.int lo t,.int hi u,.int 1 v]}
 | .frz o u=>h.get? a=some o/\jc H h a u
 | .tbl ps=>h.get? a=some {cls:= .none,data:= .fields ps}
 | .met f x=>h.get? a=some (W.methodObj (.ref f) (.ref x))
 | .ext U=>U h/\(∃ o,h.get? a=some o)/\∀ h1 h2:Heap,U h1->(∀ o,h1.get? a=some o->h2.get? a=some o)->U h2
noncomputable def i8(H:Hp)(h:Heap):Prop:=∀ a o,H a=some o->jc P w H h a o
end
section
variable {P : Program} {w : World} {H H' : Hp} {h h' : Heap} {a : Addr} {o : HO}
theorem jc.lt (x:jc P w H h a o):a < h.objs.size:=by
 cases o with
 | lst xs=>obtain⟨_,_,_,_,e⟩:=x;exact Heap.lt_size e
 | tup xs=>obtain⟨_,_,_,p⟩:=x;exact p.lt
 | dK kvs=>obtain⟨_,_,_,_,o,_,_,e,_⟩:=x;exact Heap.lt_size e
 | dT kvs=>obtain⟨_,_,_,_,o,_,_,e,_⟩:=x;exact Heap.lt_size e
 | set S n=>obtain⟨o,_,_,_,e,_⟩:=x;exact Heap.lt_size e
 | ins C dx fs=>obtain⟨_,_,_,e,_⟩:=x;exact Heap.lt_size e
 | own y=>obtain⟨_,e⟩:=x;exact Heap.lt_size e
 | xd fs=>obtain⟨_,⟨_,_,_,e,_⟩,_⟩:=x;exact Heap.lt_size e
 | rng lo hi=>obtain⟨_,_,_,e⟩:=x;exact Heap.lt_size e
 | frz J u=>obtain⟨e,_⟩:=x;exact Heap.lt_size e
 | tbl ps=>exact Heap.lt_size (show h.get? a=some _ from x)
 | met f y=>exact Heap.lt_size (show h.get? a=some _ from x)
 | ext U=>obtain⟨_,⟨_,e⟩,_⟩:=x;exact Heap.lt_size e
theorem Paired.mapP {α β:Type}{F G:α->β->Prop}:∀{l₁:List α} {l₂:List β},Paired F l₁ l₂->(∀ a b,F a b->G a b)->Paired G l₁ l₂
 | _,_,.nil,_=> .nil
 | _,_,.cons r t,f=> .cons (f _ _ r) (Paired.mapP t f)
theorem jc.stay (x:jc P w H h a o)(k:∀ b u,(b=a\/H b=some (.own a))->h.get? b=some u->h'.get? b=some u)
  (ho:∀ b,H b=some (.own a)->H' b=some (.own a))(ht:∀ b xs,H b=some (.tup xs)->H' b=some (.tup xs)):jc P w H' h' a o:=by
 induction o with
 | lst xs=>obtain⟨z,aa,n,r,e⟩:=x;exact⟨z,aa,n,r,k _ _ (.inl rfl) e⟩
 | tup xs=>obtain⟨z,aa,r,J,e,c⟩:=x;exact⟨z,aa,r,J,k _ _ (.inl rfl) e,c⟩
 | dK kvs=>obtain⟨z,y,vs,r,J,es,U,e,c⟩:=x;exact⟨z,y,vs,r,J,es,U,k _ _ (.inl rfl) e,c⟩
 | dT kvs=>
  obtain⟨z,y,xs,r,J,es,U,e,c⟩:=x
  exact⟨z,y,xs,Paired.mapP r fun p q z=>⟨z.1,ht _ _ z.2.1,z.2.2⟩,J,es,U,k _ _ (.inl rfl) e,c⟩
 | set S n=>obtain⟨J,es,U,t,e,c⟩:=x;exact⟨J,es,U,t,k _ _ (.inl rfl) e,c⟩
 | ins C dx fs=>
  obtain⟨d,z,ne,e,mA,⟨od,es,U,e2,c⟩,r⟩:=x
  exact⟨ho _ d,z,ne,k _ _ (.inl rfl) e,mA,⟨od,es,U,k _ _ (.inr d) e2,c⟩,r⟩
 | own y=>obtain⟨J,e⟩:=x;exact⟨J,k _ _ (.inl rfl) e⟩
 | xd fs=>obtain⟨mA,⟨od,es,U,e,c⟩,r⟩:=x;exact⟨mA,⟨od,es,U,k _ _ (.inl rfl) e,c⟩,r⟩
 | rng lo hi=>obtain⟨t,u,v,e⟩:=x;exact⟨t,u,v,k _ _ (.inl rfl) e⟩
 | frz J u ih=>obtain⟨e,q⟩:=x;exact⟨k _ _ (.inl rfl) e,ih q⟩
 | tbl ps=>
  have e:h.get? a=some {cls:= .none,data:= .fields ps}:=x
  show h'.get? a=some {cls:= .none,data:= .fields ps}
  exact k a _ (.inl rfl) e
 | met f y=>
  have e:h.get? a=some (W.methodObj (.ref f) (.ref y)):=x
  show h'.get? a=some (W.methodObj (.ref f) (.ref y))
  exact k a _ (.inl rfl) e
 | ext φ=>obtain⟨p,⟨o,e⟩,st⟩:=x;exact⟨st _ _ p fun o q=>k _ _ (.inl rfl) q,⟨o,k _ _ (.inl rfl) e⟩,st⟩
theorem i8.lt (x:i8 P w H h)(e:H a=some o):a < h.objs.size:=(x a o e).lt
theorem i8.fresh (x:i8 P w H h)(e:h.objs.size<=a):H a=none:=by
 cases q:H a with
 | none=>rfl
 | some u=>exact absurd (Nat.lt_of_lt_of_le (x.lt q) e) (Nat.lt_irrefl _)
theorem i8.kept (x:i8 P w H h)(k:∀ b u,h.get? b=some u->h'.get? b=some u):i8 P w H h':=fun a o e=>
 (x a o e).stay (fun b u _ q=>k b u q) (fun _ q=>q) fun _ _ q=>q
theorem i8.laid (x:i8 P w H h)(k:∀ b u,h.get? b=some u->h'.get? b=some u)(hp:h.objs.size<=a)(new:jc P w (upd H a o) h' a o):i8 P w (upd H a o) h':=fun b u e=>by
 have hn:=x.fresh hp
 by_cases hb:b=a
 ·subst hb;rw [gY] at e;cases e;exact new
 ·rw [ig hb] at e
  exact(x b u e).stay (fun c v _ q=>k c v q) (fun c q=>by rw [ig (jo q hn)];exact q) fun c xs q=>by rw [ig (jo q hn)];exact q
end
noncomputable def Rd(H:Hp)(a:Addr)(u:HO):Prop:=H a=some u\/∃ o,H a=some (.frz o u)
theorem Rd.of {H:Hp}{a:Addr}{u:HO}(h:H a=some u):Rd H a u:= .inl h
theorem Rd.ok {P:Program}{w:World}{H:Hp}{h:Heap}{a:Addr}{u:HO}(r:Rd H a u)(x:i8 P w H h):jc P w H h a u:=by
 rcases r with r | ⟨o,r⟩
 ·exact x a u r
 ·obtain⟨_,q⟩:=x a _ r
  exact q
noncomputable def qw:Option HO->Prop
 | some (.lst _)=>True
 | some (.dK _)=>True
 | some (.dT _)=>True
 | some (.set _ _)=>True
 | some (.ins _ _ _)=>True
 | some (.ext _)=>True
 | _=>False
section
variable {P : Program} {w : World} {H : Hp} {h h' : Heap} {x e : Addr} {o' : HO}
theorem i8.write (ok:i8 P w H h)(mu:qw (H x))(he:e=x\/H e=some (.own x))(k:∀ b u,b≠e->h.get? b=some u->h'.get? b=some u)(heo:∃ u,h'.get? e=some u)
  (new:jc P w (upd H x o') h' x o'):i8 P w (upd H x o') h':=fun b u q=>by
 have U:∀ c y,H c=some (.own y)->c≠x:=fun c y r z=>by subst z;rw [r] at mu;exact mu
 have aa:∀ c xs,H c=some (.tup xs)->c≠x:=fun c xs r z=>by subst z;rw [r] at mu;exact mu
 by_cases hb:b=x
 ·subst hb;rw [gY] at q;cases q;exact new
 ·rw [ig hb] at q
  by_cases J:b=e
  ·have q':H b=some (.own x):=by
    rcases he with z | z
    ·exact absurd (J.trans z) hb
    ·rw [J];exact z
   rw [q] at q';cases q'
   obtain⟨v,hv⟩:=heo
   exact⟨v,by rw [J];exact hv⟩
  ·refine(ok b u q).stay (fun c v hc r=>k c v ?_ r) (fun c r=>by rw [ig (U c b r)];exact r) fun c xs r=>by rw [ig (aa c xs r)];exact r
   rcases hc with rfl | hc
   ·exact J
   ·rintro rfl
    rcases he with z | z
    ·exact U c b hc z
    ·rw [hc] at z;cases z;exact hb rfl
end
structure Un (fs ex : List Addr) (H H' : Hp) (h h' : Heap) : Prop where
 keep : ∀ b o, h.get? b = some o -> H b = none -> b ∉ fs -> b ∉ ex -> h'.get? b = some o
 slot : ∀ b o, h.get? b = some o -> H b = none -> b ∈ fs -> b ∉ ex -> ∃ sl, h'.get? b = some { o with slots := sl }
 free : ∀ b o, h.get? b = some o -> H b = none -> b ∉ ex -> H' b = none
 there : ∀ b o, h.get? b = some o -> b ∉ ex -> ∃ o', h'.get? b = some o'
 tups : ∀ b xs, H b = some (.tup xs) -> H' b = some (.tup xs)
 frzs : ∀ b o u, H b = some (.frz o u) -> H' b = some (.frz o u)
 tbls : ∀ b ps, H b = some (.tbl ps) -> ∃ more, H' b = some (.tbl (ps ++ more))
section
variable {fs fs' ex ex' : List Addr} {H H1 H2 : Hp} {h h1 h2 h' : Heap} {a x e : Addr} {o : HO}
theorem Un.any (u:Un fs ex H H1 h h1){b:Addr}{ob:Obj}(q:h.get? b=some ob)(n:H b=none)(hx:b∉ex):∃ sl,h1.get? b=some {ob with slots:=sl}:=by
 by_cases hb:b∈fs
 ·exact u.slot b ob q n hb hx
 ·exact⟨ob.slots,u.keep b ob q n hb hx⟩
theorem Un.kept (k:∀ b u,h.get? b=some u->h'.get? b=some u):Un fs ex H H h h':=
 ⟨fun b J q _ _ _=>k b J q,fun b J q _ _ _=>⟨J.slots,k b J q⟩,fun _ _ _ n _=>n,fun b J q _=>⟨J,k b J q⟩,fun _ _ q=>q,fun _ _ _ q=>q,fun _ ps q=>⟨#[],by rw [q];simp⟩⟩
theorem Un.refl:Un fs ex H H h h:=Un.kept fun _ _ q=>q
theorem Un.laid (k:∀ b u,h.get? b=some u->h'.get? b=some u)(hp:h.objs.size<=a)(hn:H a=none):Un fs ex H (upd H a o) h h' where
 keep:=fun b u q _ _ _=>k b u q
 slot:=fun b u q _ _ _=>⟨u.slots,k b u q⟩
 free:=fun b u q n _=>by rw [ig (Nat.ne_of_lt (Nat.lt_of_lt_of_le (Heap.lt_size q) hp))];exact n
 there:=fun b u q _=>⟨u,k b u q⟩
 tups:=fun b xs q=>by rw [ig (jo q hn)];exact q
 frzs:=fun b u xs q=>by rw [ig (jo q hn)];exact q
 tbls:=fun b ps q=>⟨#[],by rw [ig (jo q hn),q];simp⟩
theorem Un.write (mu:qw (H x))(he:e=x\/H e=some (.own x))(k:∀ b u,b≠e->h.get? b=some u->h'.get? b=some u)(heo:∃ u,h'.get? e=some u):Un fs ex H (upd H x o) h h':=by
 have U:∀ b,H b=none->b≠x:=fun b n z=>by subst z;rw [n] at mu;exact mu
 have hb:∀ b,H b=none->b≠e:=fun b n z=>by
  subst z
  rcases he with r | r
  ·exact U b n r
  ·rw [n] at r;cases r
 have hm:∀ b u,H b=some u->¬ qw (some u)->b≠x:=fun b u q nm z=>by subst z;rw [q] at mu;exact nm mu
 refine⟨fun b u q n _ _=>k b u (hb b n) q,fun b u q n _ _=>⟨u.slots,k b u (hb b n) q⟩,fun b u q n _=>by rw [ig (U b n)];exact n,fun b u q _=>?_,
  fun b xs q=>by rw [ig (hm b _ q fun z=>z)];exact q,fun b u xs q=>by rw [ig (hm b _ q fun z=>z)];exact q,fun b ps q=>⟨#[],by rw [ig (hm b _ q fun z=>z),q];simp⟩⟩
 by_cases J:b=e
 ·subst J;exact heo
 ·exact⟨u,k b u J q⟩
end
noncomputable def sv(h:Heap)(H:Hp):List Addr:=(List.range h.objs.size).filter fun a=>(H a).isSome
noncomputable def l5(h:Heap)(H:Hp):Heap:=W.hideAll h (sv h H)
theorem BU(h:Heap)(H:Hp):(l5 h H).objs.size=h.objs.size:=W.hideAll_size _ _
theorem Ew{h:Heap}{H:Hp}{b:Addr}{o:Obj}(e:h.get? b=some o)(n:H b=none):(l5 h H).get? b=some o:=
 W.hideAll_get _ e fun hm=>by
  have q:(H b).isSome=true:=(List.mem_filter.mp hm).2
  rw [n] at q;simp at q
theorem E6{h:Heap}{H:Hp}{b:Addr}{o:Obj}(e:(l5 h H).get? b=some o):h.get? b=some o/\H b=none:=by
 have J:h.get? b=some o:=W.of_hideAll (sv h H) e
 refine⟨J,?_⟩
 cases q:H b with
 | none=>rfl
 | some x=>
  have hm:b∈sv h H:=List.mem_filter.mpr ⟨List.mem_range.mpr (Heap.lt_size J),by simp [q]⟩
  have z:(l5 h H).get? b=none:=W.hideAll_none (sv h H) hm
  rw [z] at e;cases e
structure Mod (K : W.Frag) (mg : Str -> Option Value) (base : Heap) : Prop where
 kin : K.In base
 glob : base.Ns mainGlobals mg
 blt : ∃ mb, base.Ns builtinsNs mb /\ ∀ x : Str, x ≠ "__name__" -> mb x = bootBuiltins x
 nolimit : base.NoLimit
structure Cx where
 prog : Program
 w : World
 K : W.Frag
 mg : Str -> Option Value
 base : Heap
 A : Around
 N : List Str
 s₀ : Shared
 H₀ : Hp
 env : Env
 outer : List Env
 stack : List Env
 ex : List Addr
 fn : Str -> Bool
 calm : Bool
 pn : List (Addr × Obj)
 xe : Value -> Shared -> Prop
noncomputable def iF(l:List Env):List Addr:=l.filterMap (·.frame)
noncomputable abbrev Cx.fs (X:Cx):List Addr:=iF X.outer
noncomputable def pK(sc:Scope)(x:Str):Prop:=sc.names.lookup x=some .local\/sc.names.lookup x=some .cell\/sc.names.lookup x=some .free
noncomputable def Loc(sc:Scope)(x:Str):Prop:=sc.names.lookup x=some .local\/sc.names.lookup x=some .cell
noncomputable def Look(env:Env)(h:Heap)(m:Str->Option Value)(x:Str)(u:Value):Prop:=
 (env.kindOf x=some .local/\m x=some u)\/((env.kindOf x=some .cell\/env.kindOf x=some .free)/\∃ c,env.cells.lookup x=some c/\h.IsCell c (some u))
structure Cx.Ok (X : Cx) : Prop where
 mod : Mod X.K X.mg X.base
 kind : X.env.scope.kind = .function
 glob : X.env.globals = mainGlobals
 blt : X.env.builtins = builtinsNs
 above : X.s₀.heap.objs.size <= X.env.locals
 inj : ∀ x y c, X.env.cells.lookup x = some c -> X.env.cells.lookup y = some c -> x = y
 has : ∀ x, (X.env.kindOf x = some .cell \/ X.env.kindOf x = some .free) -> ∃ c, X.env.cells.lookup x = some c
 cab : ∀ x c, X.fn x = true -> X.env.cells.lookup x = some c -> X.s₀.heap.objs.size <= c
 hd : X.calm = true -> X.A.handled = none
 frames : X.A.frames = some X.stack
 stk : X.stack = X.outer \/ (X.stack = X.env :: X.outer /\ X.env.frame = some X.env.locals)
 exf : ∀ b ∈ X.ex, b ≠ X.env.locals /\ ∀ x c, X.env.cells.lookup x = some c -> c ≠ b
 bs : ∀ b o, X.base.get? b = some o -> X.s₀.heap.get? b = some o /\ X.H₀ b = none
 bsz : X.base.objs.size <= X.s₀.heap.objs.size
 noex : ∀ b o, X.base.get? b = some o -> b ∉ X.ex
 exfs : ∀ b ∈ X.ex, b ∉ X.fs
 funs : X.s₀.heap.FunFrames X.base X.outer
 frf : ∀ b ∈ X.fs, X.H₀ b = none
structure Inv (X : Cx) (pins : List (Addr × Obj)) (σ : List (Option V)) (H : Hp) (s : Shared) : Prop where
 ok : X.Ok
 os : s.os = X.s₀.os
 bare : AllBare s.gens
 base : Un X.fs X.ex X.H₀ H X.s₀.heap s.heap
 loc : ∃ m, s.heap.Ns X.env.locals m /\ ∀ (i : Nat) (x : Str) (v : V), X.N[i]? = some x -> σ[i]? = some (some v) -> pK X.env.scope x -> ∃ u, RelV v u /\ Look X.env s.heap m x u
 cell : ∀ x c, X.env.cells.lookup x = some c -> ∃ v, s.heap.IsCell c v
 free : H X.env.locals = none
 freeC : ∀ x c, X.env.cells.lookup x = some c -> H c = none
 pin : ∀ p ∈ X.pn ++ pins, s.heap.get? p.1 = some p.2 /\ H p.1 = none /\ p.1 ≠ X.env.locals /\ p.1 ∉ X.fs /\ ∀ v, p.2.data ≠ .cell v
 hok : i8 X.prog X.w H s.heap
 len : σ.length = X.N.length
section
variable {X : Cx} {pins : List (Addr × Obj)} {σ : List (Option V)} {H H' : Hp} {s : Shared} {h' : Heap}
theorem Cx.Ok.nofr (ok:X.Ok){b:Addr}{o:Obj}(e:X.base.get? b=some o):b∉X.fs:=fun hb=>by
 have:=(ok.funs.mem hb).1
 rw [e] at this;cases this
theorem Inv.bs (I:Inv X pins σ H s):∀ b o,X.base.get? b=some o->s.heap.get? b=some o/\H b=none:=fun b o e=>
 ⟨I.base.keep b o (I.ok.bs b o e).1 (I.ok.bs b o e).2 (I.ok.nofr e) (I.ok.noex b o e),I.base.free b o (I.ok.bs b o e).1 (I.ok.bs b o e).2 (I.ok.noex b o e)⟩
theorem Inv.bk (I:Inv X pins σ H s):∀ b o,X.base.get? b=some o->s.heap.get? b=some o:=fun b o e=>(I.bs b o e).1
theorem Inv.mod (I:Inv X pins σ H s):Mod X.K X.mg X.base:=I.ok.mod
theorem Inv.kIn (I:Inv X pins σ H s):X.K.In s.heap:=I.ok.mod.kin.keeps I.bk
theorem Inv.fr (I:Inv X pins σ H s):∃ m,Fr X.base X.env.locals s.heap m:=
 let ⟨m,hn,_⟩:=I.loc
 ⟨m,hn,I.bk,Nat.le_trans I.ok.bsz I.ok.above⟩
theorem Inv.lt (I:Inv X pins σ H s):X.env.locals < s.heap.objs.size:=let ⟨_,hn,_⟩:=I.loc;hn.lt
theorem Inv.sz (I:Inv X pins σ H s):X.s₀.heap.objs.size<=s.heap.objs.size:=Nat.le_trans I.ok.above (Nat.le_of_lt I.lt)
theorem Inv.nofs (I:Inv X pins σ H s){a:Addr}(h:s.heap.objs.size<=a):a∉X.fs:=fun hb=>by
 obtain⟨_,o,J,_⟩:=I.ok.funs.mem hb
 exact absurd (Nat.lt_of_lt_of_le (Heap.lt_size J) (Nat.le_trans I.sz h)) (Nat.lt_irrefl _)
theorem Inv.cne (I:Inv X pins σ H s):∀ x c,X.env.cells.lookup x=some c->c≠X.env.locals:=fun x c e z=>by
 obtain⟨v,o,ho,hd⟩:=I.cell x c e
 obtain⟨m,⟨o',es,ep,J,U,_⟩,_⟩:=I.loc
 rw [z,J] at ho;cases ho;rw [U] at hd;cases hd
theorem Inv.funs (I:Inv X pins σ H s):s.heap.FunFrames X.base X.outer:=by
 have all:∀(l:List Env),(∀ b∈iF l,b∈X.fs)->X.s₀.heap.FunFrames X.base l->s.heap.FunFrames X.base l:=by
  intro l
  induction l with
  | nil=>intro _ _;trivial
  | cons env r ih=>
   intro U hl
   obtain⟨hk,⟨L,o,hf,hn,ho,hd⟩,hr⟩:=hl
   have J:L∈X.fs:=U L (by unfold iF;rw [List.filterMap_cons,hf];exact List.mem_cons_self)
   obtain⟨sl,e⟩:=I.base.slot L o ho (I.ok.frf L J) J fun z=>I.ok.exfs L z J
   exact⟨hk,⟨L,_,hf,hn,e,hd⟩,ih (fun b hb=>U b (by unfold iF;rw [List.filterMap_cons,hf];exact List.mem_cons_of_mem _ hb)) hr⟩
 exact all X.outer (fun _ hb=>hb) I.ok.funs
theorem Inv.stack (I:Inv X pins σ H s):s.heap.FunFrames X.base X.stack:=by
 rcases I.ok.stk with e | ⟨e,hf⟩
 ·rw [e];exact I.funs
 ·rw [e]
  obtain⟨m,hn,_⟩:=I.loc
  refine .cons (by rw [I.ok.kind];decide) hf hn ?_ I.funs
  exact Heap.get?_none_of_le (Nat.le_trans I.ok.bsz I.ok.above)
theorem Inv.stkSub (I:Inv X pins σ H s):∀ b∈iF X.stack,b∈X.env.locals::X.fs:=fun b hb=>by
 rcases I.ok.stk with e | ⟨e,hf⟩
 ·rw [e] at hb;exact List.mem_cons_of_mem _ hb
 ·rw [e] at hb
  unfold iF at hb
  rw [List.filterMap_cons,hf] at hb
  exact hb
theorem Inv.stkFree (I:Inv X pins σ H s):∀ b∈iF X.stack,H b=none:=fun b hb=>by
 rcases List.mem_cons.mp (I.stkSub b hb) with e | hb
 ·rw [e];exact I.free
 ·obtain⟨_,o,J,_⟩:=I.ok.funs.mem hb
  exact I.base.free b o J (I.ok.frf b hb) fun z=>I.ok.exfs b z hb
theorem Inv.step {g':Array GenState}{t':Nat}{d':Drawn}{ch:List Addr}(I:Inv X pins σ H s)
  (hch:∀ b∈ch,(b∈X.ex\/X.s₀.heap.objs.size<=b)/\b≠X.env.locals/\(∀ x c,X.env.cells.lookup x=some c->c≠b)/\∀ p∈X.pn++pins,p.1≠b)
  (keep:∀ b o,b≠X.env.locals->b∉X.fs->b∉ch->s.heap.get? b=some o->H b=none->h'.get? b=some o)
  (slot:∀ b o,b≠X.env.locals->b∈X.fs->b∉ch->s.heap.get? b=some o->H b=none->∃ sl,h'.get? b=some {o with slots:=sl})(free:∀ b o,b∉ch->s.heap.get? b=some o->H b=none->H' b=none)
  (there:∀ b o,b∉ch->s.heap.get? b=some o->∃ o',h'.get? b=some o')
  (tups:∀ b xs,H b=some (.tup xs)->H' b=some (.tup xs))(frzs:∀ b o u,H b=some (.frz o u)->H' b=some (.frz o u))(tbls:∀ b ps,H b=some (.tbl ps)->∃ more,H' b=some (.tbl (ps++more)))
  (ns:∀ m,s.heap.Ns X.env.locals m->h'.Ns X.env.locals m)(hok:i8 X.prog X.w H' h')(hg:AllBare g'):
  Inv X pins σ H' {s with heap:=h',gens:=g',drawn:=d',toks:=t'}:=by
 have ae:∀ b o,X.s₀.heap.get? b=some o->b≠X.env.locals:=fun b o e=>Nat.ne_of_lt (Nat.lt_of_lt_of_le (Heap.lt_size e) I.ok.above)
 have aa:∀ b o,X.s₀.heap.get? b=some o->b∉X.ex->b∉ch:=fun b o e J hb=>by
  rcases(hch b hb).1 with z | z
  ·exact J z
  ·exact absurd (Nat.lt_of_lt_of_le (Heap.lt_size e) z) (Nat.lt_irrefl _)
 have cellK:∀ x c,X.env.cells.lookup x=some c->∀ v,s.heap.IsCell c v->h'.IsCell c v:=fun x c e v ⟨o,ho,hd⟩=>by
  have U:c∉ch:=fun z=>(hch c z).2.2.1 x c e rfl
  by_cases hc:c∈X.fs
  ·obtain⟨sl,q⟩:=slot c o (I.cne x c e) hc U ho (I.freeC x c e)
   exact⟨_,q,hd⟩
  ·exact⟨o,keep c o (I.cne x c e) hc U ho (I.freeC x c e),hd⟩
 refine⟨I.ok,I.os,hg,⟨fun b o e n hb J=>?_,fun b o e n hb J=>?_,fun b o e n J=>?_,fun b o e J=>?_,fun b xs e=>tups b xs (I.base.tups b xs e),fun b o xs e=>frzs b o xs (I.base.frzs b o xs e),fun b ps e=>?_⟩,?_,fun x c e=>?_,?_,fun x c e=>?_,fun p hp=>?_,hok,I.len⟩
 ·exact keep b o (ae b o e) hb (aa b o e J) (I.base.keep b o e n hb J) (I.base.free b o e n J)
 ·obtain⟨sl,e1⟩:=I.base.slot b o e n hb J
  obtain⟨af,e2⟩:=slot b _ (ae b o e) hb (aa b o e J) e1 (I.base.free b o e n J)
  exact⟨af,e2⟩
 ·obtain⟨o',e1⟩:=I.base.there b o e J
  exact free b o' (aa b o e J) e1 (I.base.free b o e n J)
 ·obtain⟨o',e1⟩:=I.base.there b o e J
  exact there b o' (aa b o e J) e1
 ·obtain⟨m1,e1⟩:=I.base.tbls b ps e
  obtain⟨m2,e2⟩:=tbls b _ e1
  exact⟨m1++m2,by rw [e2,Array.append_assoc]⟩
 ·obtain⟨m,hn,hl⟩:=I.loc
  refine⟨m,ns m hn,fun i x v e1 e2 e3=>?_⟩
  obtain⟨u,r,l⟩:=hl i x v e1 e2 e3
  refine⟨u,r,?_⟩
  rcases l with l | ⟨k,c,e,z⟩
  ·exact .inl l
  ·exact .inr ⟨k,c,e,cellK x c e _ z⟩
 ·obtain⟨v,z⟩:=I.cell x c e
  exact⟨v,cellK x c e v z⟩
 ·obtain⟨m,⟨o,_,_,ho,_⟩,_⟩:=I.loc
  exact free _ o (fun z=>(hch _ z).2.1 rfl) ho I.free
 ·obtain⟨v,o,ho,hd⟩:=I.cell x c e
  exact free c o (fun z=>(hch c z).2.2.1 x c e rfl) ho (I.freeC x c e)
 ·obtain⟨e,n,ne,nf,d⟩:=I.pin p hp
  have U:p.1∉ch:=fun z=>(hch p.1 z).2.2.2 p hp rfl
  exact⟨keep p.1 p.2 ne nf U e n,free p.1 p.2 U e n,ne,nf,d⟩
theorem Inv.un {t':Nat}(I:Inv X pins σ H s)(u:Un X.fs [] H H' s.heap h')(hok:i8 X.prog X.w H' h'):Inv X pins σ H' {s with heap:=h',toks:=t'}:=by
 obtain⟨m,⟨o,es,ep,ho,r⟩,_⟩:=id I.loc
 obtain⟨sl,hL⟩:=u.any ho I.free (by simp)
 exact I.step (g':=s.gens) (d':=s.drawn) (ch:=[]) (fun _ z=>nomatch z) (fun b o _ hb _ e n=>u.keep b o e n hb (by simp)) (fun b o _ hb _ e n=>u.slot b o e n hb (by simp)) (fun b o _ e n=>u.free b o e n (by simp)) (fun b o _ e=>u.there b o e (by simp)) u.tups u.frzs u.tbls (fun m' hm=>by
  obtain⟨o',U,aa,J,r'⟩:=hm
  rw [ho] at J;cases J
  exact⟨_,U,aa,hL,r'⟩) hok I.bare
theorem Inv.call {g':Array GenState}{t':Nat}{d':Drawn}{ch:List Addr}(I:Inv X pins σ H s)(u:Un (iF X.stack) ch H H' s.heap h')(hok:i8 X.prog X.w H' h')(hg:AllBare g')
  (hch:∀ b∈ch,(b∈X.ex\/X.s₀.heap.objs.size<=b)/\b≠X.env.locals/\(∀ x c,X.env.cells.lookup x=some c->c≠b)/\∀ p∈X.pn++pins,p.1≠b):
  Inv X pins σ H' {s with heap:=h',gens:=g',drawn:=d',toks:=t'}:=by
 obtain⟨m,⟨o,es,ep,ho,r⟩,_⟩:=id I.loc
 obtain⟨sl,U⟩:=u.any ho I.free fun z=>(hch _ z).2.1 rfl
 exact I.step (ch:=ch) hch (fun b o U hb hc e n=>u.keep b o e n (fun z=>(List.mem_cons.mp (I.stkSub b z)).elim U hb) hc) (fun b o _ _ hc e n=>u.any e n hc) (fun b o hc e n=>u.free b o e n hc) (fun b o hc e=>u.there b o e hc) u.tups u.frzs u.tbls (fun m' hm=>by
  obtain⟨o',aa,ae,J,r'⟩:=hm
  rw [ho] at J;cases J
  exact⟨_,aa,ae,U,r'⟩) hok hg
theorem Inv.turned {t':Nat}{it:Addr}(I:Inv X pins σ H s)(k:∀ b o,b≠it->s.heap.get? b=some o->h'.get? b=some o)(hn:H it=none)(hL:it≠X.env.locals)
  (h1:it∈X.ex\/X.s₀.heap.objs.size<=it)(h2:∀ x c,X.env.cells.lookup x=some c->c≠it)(h3:∀ p∈X.pn++pins,p.1≠it):Inv X pins σ H {s with heap:=h',toks:=t'}:=by
 have J:∀ b u,H b=some u->b≠it:=fun b u e z=>by rw [z,hn] at e;cases e
 refine I.step (g':=s.gens) (d':=s.drawn) (ch:=[it]) (fun b hb=>?_) (fun b o _ _ hc e _=>k b o (fun z=>hc (by simp [z])) e) (fun b o _ _ hc e _=>⟨o.slots,k b o (fun z=>hc (by simp [z])) e⟩) (fun _ _ _ _ n=>n)
  (fun b o hc e=>⟨o,k b o (fun z=>hc (by simp [z])) e⟩) (fun _ _ e=>e) (fun _ _ _ e=>e) (fun b ps e=>⟨#[],by rw [e];simp⟩) (fun m hm=>?_) (fun b u e=>?_) I.bare
 ·have e:b=it:=by simpa using hb
  subst e
  exact⟨h1,hL,h2,h3⟩
 ·obtain⟨o,es,U,ho,r⟩:=hm
  exact⟨o,es,U,k _ o (Ne.symm hL) ho,r⟩
 ·refine(I.hok b u e).stay (fun c v hc q=>k c v ?_ q) (fun _ q=>q) fun _ _ q=>q
  rcases hc with z | z
  ·rw [z];exact J b u e
  ·exact J c _ z
theorem Inv.tok (I:Inv X pins σ H s)(t:Nat):Inv X pins σ H {s with toks:=t}:=I.un (h':=s.heap) (t':=t) Un.refl I.hok
theorem Inv.kept {t':Nat}(I:Inv X pins σ H s)(k:∀ b u,s.heap.get? b=some u->h'.get? b=some u):Inv X pins σ H {s with heap:=h',toks:=t'}:=I.un (Un.kept k) (I.hok.kept k)
theorem Inv.laid {a:Addr}{o:HO}{t':Nat}(I:Inv X pins σ H s)(k:∀ b u,s.heap.get? b=some u->h'.get? b=some u)(hp:s.heap.objs.size<=a)(new:jc X.prog X.w (upd H a o) h' a o):
  Inv X pins σ (upd H a o) {s with heap:=h',toks:=t'}:=I.un (Un.laid k hp (I.hok.fresh hp)) (I.hok.laid k hp new)
theorem Inv.write {x e:Addr}{o:HO}{t':Nat}(I:Inv X pins σ H s)(mu:qw (H x))(he:e=x\/H e=some (.own x))(k:∀ b u,b≠e->s.heap.get? b=some u->h'.get? b=some u)(heo:∃ u,h'.get? e=some u)
  (new:jc X.prog X.w (upd H x o) h' x o):Inv X pins σ (upd H x o) {s with heap:=h',toks:=t'}:=I.un (Un.write mu he k heo) (I.hok.write mu he k heo new)
theorem Inv.weak {σ':List (Option V)}(I:Inv X pins σ H s)(hl:σ'.length=σ.length)(w:∀(i:Nat) v,σ'[i]? =some (some v)->σ[i]? =some (some v)):Inv X pins σ' H s:=
 ⟨I.ok,I.os,I.bare,I.base,let ⟨m,hn,hl'⟩:=I.loc;⟨m,hn,fun i x v J U e3=>hl' i x v J (w i v U) e3⟩,I.cell,I.free,I.freeC,I.pin,I.hok,hl.trans I.len⟩
theorem Inv.pins_of {pins':List (Addr×Obj)}(I:Inv X pins σ H s)(h:∀ p∈pins',s.heap.get? p.1=some p.2/\H p.1=none/\p.1≠X.env.locals/\p.1∉X.fs/\∀ v,p.2.data≠ .cell v):Inv X pins' σ H s:=
 ⟨I.ok,I.os,I.bare,I.base,I.loc,I.cell,I.free,I.freeC,fun p J=>(List.mem_append.mp J).elim (fun z=>I.pin p (List.mem_append_left _ z)) (h p),I.hok,I.len⟩
theorem tP{N:List Str}(hN:N.Nodup){i j:Nat}{x:Str}(a:N[i]? =some x)(b:N[j]? =some x):i=j:=by
 obtain⟨h1,J⟩:=List.getElem?_eq_some_iff.mp a
 obtain⟨h2,U⟩:=List.getElem?_eq_some_iff.mp b
 exact(List.getElem_inj hN).mp (J.trans U.symm)
theorem ye{M:Model}{A:Around}{E:Value->Shared->Prop}{i:Nat}{x:Str}{v:V}{u:Value}{Q:Unit->Shared->Prop}(I:Inv X pins σ H s)(hN:X.N.Nodup)(hi:X.N[i]? =some x)(hx:Loc X.env.scope x)(r:RelV v u)
  (h:∀ s',Inv X pins (σ.set i (some v)) H s'->(∃ a,Heap.SameBut a s.heap s'.heap/\(a=X.env.locals\/X.env.cells.lookup x=some a))->Q () s')(hf:X.fn x=true\/X.env.scope.names.lookup x=some .local:=by first | exact .inl rfl | exact .inr rfl | assumption):wpAny M A (storeName X.env x u) Q E s:=by
 obtain⟨m,hn,hl⟩:=id I.loc
 have ag:(X.env.scope.kind == .class || (X.env.scope.kind == .module && X.env.locals != X.env.globals))=false:=by rw [I.ok.kind];rfl
 have ae:i < σ.length:=by rw [I.len];exact(List.getElem?_eq_some_iff.mp hi).1
 have cne:=I.cne
 have tracked:∀{a:Addr} {h':Heap},(∃ o,s.heap.get? a=some o/\H a=none)->Heap.SameBut a s.heap h'->i8 X.prog X.w H h':=fun{a h'} ha J b ob e=>by
  obtain⟨_,_,aa⟩:=ha
  refine(I.hok b ob e).stay (fun c w' hc q=>(J.2 c ?_).trans q) (fun _ q=>q) fun _ _ q=>q
  rintro rfl
  rcases hc with rfl | hc
  ·rw [aa] at e;cases e
  ·rw [aa] at hc;cases hc
 rcases hx with hk | hk
 ·refine wpAny_storeName_local hk hn (fun h' ar J=>?_) ag
  obtain⟨oL,_,_,au,_⟩:=id hn
  refine h _ ⟨I.ok,I.os,I.bare,⟨fun b o e n hb hx=>?_,fun b o e n hb hx=>?_,I.base.free,fun b o e hx=>?_,I.base.tups,I.base.frzs,I.base.tbls⟩,⟨_,ar,fun j y v' U e2 e3=>?_⟩,fun y c e=>?_,I.free,I.freeC,fun p hp=>?_,tracked ⟨oL,au,I.free⟩ J,by simpa using I.len⟩ ⟨_,J,.inl rfl⟩
  ·exact(J.2 b (Nat.ne_of_lt (Nat.lt_of_lt_of_le (Heap.lt_size e) I.ok.above))).trans (I.base.keep b o e n hb hx)
  ·obtain⟨sl,U⟩:=I.base.slot b o e n hb hx
   exact⟨sl,(J.2 b (Nat.ne_of_lt (Nat.lt_of_lt_of_le (Heap.lt_size e) I.ok.above))).trans U⟩
  ·obtain⟨o',U⟩:=I.base.there b o e hx
   exact⟨o',(J.2 b (Nat.ne_of_lt (Nat.lt_of_lt_of_le (Heap.lt_size e) I.ok.above))).trans U⟩
  ·by_cases hj:j=i
   ·subst hj
    rw [hi] at U;cases U
    rw [List.getElem?_set_self ae] at e2
    cases e2
    exact⟨u,r,.inl ⟨hk,by simp⟩⟩
   ·rw [List.getElem?_set_ne (Ne.symm hj)] at e2
    obtain⟨u',r',q⟩:=hl j y v' U e2 e3
    refine⟨u',r',?_⟩
    rcases q with ⟨k,e⟩ | ⟨k,c,e,z⟩
    ·refine .inl ⟨k,?_⟩
     have:y≠x:=fun e=>hj (tP hN U (e ▸ hi))
     simp [this,e]
    ·exact .inr ⟨k,c,e,z.sameBut J (cne y c e)⟩
  ·obtain⟨w',z⟩:=I.cell y c e
   exact⟨w',z.sameBut J (cne y c e)⟩
  ·obtain⟨e,n,ne,nf,d⟩:=I.pin p hp
   exact⟨(J.2 p.1 ne).trans e,n,ne,nf,d⟩
 ·have af:X.fn x=true:=by
   rcases hf with z | z
   ·exact z
   ·rw [z] at hk;cases hk
  obtain⟨c,hc⟩:=I.ok.has x (.inl hk)
  obtain⟨w',z⟩:=I.cell x c hc
  refine wpAny_storeName_cell I.ok.kind hk hc z (fun h' ah J=>?_)
  obtain⟨oc,ak,ao⟩:=id z
  refine h {s with heap:=h'} ⟨I.ok,I.os,I.bare,⟨fun b o e n hb hx=>?_,fun b o e n hb hx=>?_,I.base.free,fun b o e hx=>?_,I.base.tups,I.base.frzs,I.base.tbls⟩,⟨m,hn.sameBut J (Ne.symm (cne x c hc)),fun j y v' U e2 e3=>?_⟩,fun y c' e=>?_,I.free,I.freeC,fun p hp=>?_,tracked ⟨oc,ak,I.freeC x c hc⟩ J,by simpa using I.len⟩ ⟨c,J,.inr hc⟩
  ·exact(J.2 b (Nat.ne_of_lt (Nat.lt_of_lt_of_le (Heap.lt_size e) (I.ok.cab x c af hc)))).trans (I.base.keep b o e n hb hx)
  ·obtain⟨sl,U⟩:=I.base.slot b o e n hb hx
   exact⟨sl,(J.2 b (Nat.ne_of_lt (Nat.lt_of_lt_of_le (Heap.lt_size e) (I.ok.cab x c af hc)))).trans U⟩
  ·obtain⟨o',U⟩:=I.base.there b o e hx
   exact⟨o',(J.2 b (Nat.ne_of_lt (Nat.lt_of_lt_of_le (Heap.lt_size e) (I.ok.cab x c af hc)))).trans U⟩
  ·by_cases hj:j=i
   ·subst hj
    rw [hi] at U;cases U
    rw [List.getElem?_set_self ae] at e2
    cases e2
    exact⟨u,r,.inr ⟨.inl hk,c,hc,ah⟩⟩
   ·rw [List.getElem?_set_ne (Ne.symm hj)] at e2
    obtain⟨u',r',q⟩:=hl j y v' U e2 e3
    refine⟨u',r',?_⟩
    rcases q with q | ⟨k,c',e,z'⟩
    ·exact .inl q
    ·refine .inr ⟨k,c',e,z'.sameBut J ?_⟩
     rintro rfl
     exact hj (tP hN U (I.ok.inj _ _ _ e hc ▸ hi))
  ·by_cases aq:c'=c
   ·subst aq;exact⟨_,ah⟩
   ·obtain⟨w2,z2⟩:=I.cell y c' e
    exact⟨w2,z2.sameBut J aq⟩
  ·obtain⟨e,n,ne,nf,d⟩:=I.pin p hp
   refine⟨(J.2 p.1 ?_).trans e,n,ne,nf,d⟩
   intro q
   rw [q,ak] at e
   have q':oc=p.2:=Option.some.inj e
   exact d w' (by rw [<-q'];exact ao)
theorem qt{M:Model}{A:Around}{E:Value->Shared->Prop}{i:Nat}{x:Str}{v:V}{u:Value}{Q:Unit->Shared->Prop}(I:Inv X pins σ H s)(hN:X.N.Nodup)(hi:X.N[i]? =some x)(hx:Loc X.env.scope x)(r:RelV v u)
  (h:∀ s',Inv X pins (σ.set i (some v)) H s'->Q () s')(hf:X.fn x=true\/X.env.scope.names.lookup x=some .local:=by first | exact .inl rfl | exact .inr rfl | assumption):wpAny M A (storeName X.env x u) Q E s:=
 ye I hN hi hx r (fun s' J _=>h s' J) hf
theorem Inv.call' {s':Shared}{ch:List Addr}(I:Inv X pins σ H s)(ho:s'.os=s.os)(u:Un (iF X.stack) ch H H' s.heap s'.heap)(hok:i8 X.prog X.w H' s'.heap)(hg:AllBare s'.gens)
  (hch:∀ b∈ch,(b∈X.ex\/X.s₀.heap.objs.size<=b)/\b≠X.env.locals/\(∀ x c,X.env.cells.lookup x=some c->c≠b)/\∀ p∈X.pn++pins,p.1≠b):Inv X pins σ H' s':=by
 obtain⟨h',g',d',t',o'⟩:=s'
 have e:o'=s.os:=ho
 subst e
 exact I.call (g':=g') (t':=t') (d':=d') u hok hg hch
end
noncomputable abbrev XK:=Value->Option Addr->Hp->Prop
noncomputable abbrev St:=List (Option V)
noncomputable abbrev VK:=V->Hp->Prop
noncomputable abbrev TE:=St->Hp->VK->Prop
noncomputable abbrev TT:=St->Hp->(Bool->Hp->Prop)->Prop
noncomputable abbrev TA:=St->Hp->(List V->Hp->Prop)->Prop
structure Ends where
 nx : St -> Hp -> Prop
 rt : VK
 bk : St -> Hp -> Prop := fun _ _ => False
 ct : St -> Hp -> Prop := fun _ _ => False
noncomputable abbrev TS:=Ends->St->Hp->Prop
noncomputable def EP(X:Cx)(pins:List (Addr×Obj))(σ:St)(Q:VK)(u:Value)(s':Shared):Prop:=∃ v H',Inv X pins σ H' s'/\RelV v u/\Q v H'
noncomputable def TP(X:Cx)(pins:List (Addr×Obj))(σ:St)(Q:Bool->Hp->Prop)(b:Bool)(s':Shared):Prop:=∃ H',Inv X pins σ H' s'/\Q b H'
noncomputable def AP(X:Cx)(pins:List (Addr×Obj))(σ:St)(Q:List V->Hp->Prop)(us:List Value)(s':Shared):Prop:=∃ vs H',Inv X pins σ H' s'/\Vals vs us/\Q vs H'
noncomputable def SP(X:Cx)(pins:List (Addr×Obj))(D:Ends)(f:Flow)(s':Shared):Prop:=
 match f with
 | .next=>∃ J H',Inv X pins J H' s'/\D.nx J H'
 | .brk=>∃ J H',Inv X pins J H' s'/\D.bk J H'
 | .cont=>∃ J H',Inv X pins J H' s'/\D.ct J H'
 | .ret u=>∃ v J H',Inv X pins J H' s'/\RelV v u/\D.rt v H'
noncomputable def PE(X:Cx)(e:Expr)(t:TE):Prop:=
 ∀(pins:List (Addr×Obj)) (s:Shared) (σ:St) (H:Hp) (Q:VK),Inv X pins σ H s->t σ H Q->wpAny (model X.prog X.w) X.A (eval e X.env) (EP X pins σ Q) X.xe s
noncomputable def PT(X:Cx)(e:Expr)(t:TT):Prop:=
 ∀(pins:List (Addr×Obj)) (s:Shared) (σ:St) (H:Hp) (Q:Bool->Hp->Prop),Inv X pins σ H s->t σ H Q->wpAny (model X.prog X.w) X.A (isTrue e X.env (eval e X.env)) (TP X pins σ Q) X.xe s
noncomputable def PW(X:Cx)(e:Expr)(t:TT):Prop:=
 ∀(whole:Sem Value) (pins:List (Addr×Obj)) (s:Shared) (σ:St) (H:Hp) (Q:Bool->Hp->Prop),Inv X pins σ H s->t σ H Q->wpAny (model X.prog X.w) X.A (isTrue e X.env whole) (TP X pins σ Q) X.xe s
theorem PW.pt {X:Cx}{e:Expr}{t:TT}(h:PW X e t):PT X e t:=h _
noncomputable def PA(X:Cx)(es:List Expr)(t:TA):Prop:=
 ∀(pos:Pos) (pins:List (Addr×Obj)) (s:Shared) (σ:St) (H:Hp) (Q:List V->Hp->Prop),Inv X pins σ H s->t σ H Q->wpAny (model X.prog X.w) X.A (spliced (backTo pos (starEach es X.env))) (AP X pins σ Q) X.xe s
noncomputable def PS(X:Cx)(st:Stmt)(t:TS):Prop:=
 ∀(pins:List (Addr×Obj)) (s:Shared) (σ:St) (H:Hp) (D:Ends),Inv X pins σ H s->t D σ H->wpAny (model X.prog X.w) X.A (exec st X.env) (SP X pins D) X.xe s
noncomputable def iD(X:Cx)(st:List Stmt)(t:TS):Prop:=
 ∀(pins:List (Addr×Obj)) (s:Shared) (σ:St) (H:Hp) (D:Ends),Inv X pins σ H s->t D σ H->wpAny (model X.prog X.w) X.A (execs st X.env) (SP X pins D) X.xe s
theorem ic{α:Type}{t:Sem α}{Q Q':α->Shared->Prop}{M:Model}{A:Around}{E:Value->Shared->Prop}{s:Shared}(h:wpAny M A t Q E s)(hQ:∀ a s,Q a s->Q' a s):wpAny M A t Q' E s:=wpAny_mono h hQ fun _ _ x=>x
section
variable {X : Cx}
noncomputable def qa(i:Nat):TE:=fun σ H Q=>∃ v,σ[i]? =some (some v)/\Q v H
noncomputable def tC(v:V):TE:=fun _ H Q=>Q v H
theorem Fp{i:Nat}{x:Str}{pos:Pos}(hN:X.N[i]? =some x)(hv:pK X.env.scope x)(hd:(x == ("__debug__":Str))=false:=by decide)(hcd:(x == ("__classdict__":Str))=false:=by decide):PE X (.Name x pos) (qa i):=by
 intro pins s σ H Q I h
 obtain⟨v,e,h⟩:=h
 obtain⟨m,hn,U⟩:=I.loc
 obtain⟨u,r,l⟩:=U i x v hN e hv
 have fin:EP X pins σ Q u s:=⟨v,H,I,r,h⟩
 rcases l with ⟨hk,hm⟩ | ⟨hk,c,hc,J⟩
 ·exact wpAny_Name (wpAny_loadName_local I.ok.kind hk hn hm fin) hd
 ·rcases hk with hk | hk
  ·exact wpAny_Name (wpAny_loadName_cell I.ok.kind hk hc J fin) hd
  ·exact wpAny_Name (wpAny_loadName_free I.ok.kind hk hc J fin hcd) hd
theorem gQ{i j pos}:PE X (.Constant (.int i) j pos) (tC (.int i)):=fun _ _ _ H _ I h=>wpAny_Constant_int ⟨.int i,H,I.tok _,⟨_,rfl⟩,h⟩
theorem jW{b j pos}:PE X (.Constant (.bool b) j pos) (tC (.bl b)):=fun _ _ _ H _ I h=>Constant_bool ⟨.bl b,H,I,rfl,h⟩
theorem lK{j pos}:PE X (.Constant .none j pos) (tC .non):=fun _ _ _ H _ I h=>Constant_none ⟨.non,H,I,rfl,h⟩
theorem gZ{x j pos}:PE X (.Constant (.str x) j pos) (tC (.str x)):=fun _ _ _ H _ I h=>Calls.Constant_str ⟨.str x,H,I.tok _,⟨_,rfl⟩,h⟩
noncomputable def Gl(X:Cx)(x:Str):Prop:=X.env.kindOf x=some .globalImplicit
theorem lT{E:Value->Shared->Prop}{pins:List (Addr×Obj)}{s:Shared}{σ:St}{H:Hp}{x:Str}{u:Value}{pos:Pos}{Q:Value->Shared->Prop}(I:Inv X pins σ H s)(hg:Gl X x)(hm:X.mg x=some u)(h:Q u s)
  (hd:(x == ("__debug__":Str))=false:=by decide):wpAny (model X.prog X.w) X.A (eval (.Name x pos) X.env) Q E s:=
 Calls.Name_function_global I.ok.kind hg (Calls.loadGlobal_global (by rw [I.ok.glob];exact I.mod.glob.keeps I.bk) hm h) hd
theorem kX{E:Value->Shared->Prop}{pins:List (Addr×Obj)}{s:Shared}{σ:St}{H:Hp}{x:Str}{u:Value}{pos:Pos}{Q:Value->Shared->Prop}(I:Inv X pins σ H s)(hg:Gl X x)(hm:X.mg x=none)(hv:bootBuiltins x=some u)(h:Q u s)
  (hn:x≠"__name__":=by decide)(hd:(x == ("__debug__":Str))=false:=by decide):wpAny (model X.prog X.w) X.A (eval (.Name x pos) X.env) Q E s:=by
 obtain⟨J,h1,h2⟩:=I.mod.blt
 exact Calls.Name_function_global I.ok.kind hg (Calls.loadGlobal_builtin (by rw [I.ok.glob];exact I.mod.glob.keeps I.bk) hm (by rw [I.ok.blt];exact h1.keeps I.bk) ((h2 x hn).trans hv) h) hd
theorem jA{x:Str}{v:V}{u:Value}{pos:Pos}(hg:Gl X x)(hm:X.mg x=some u)(r:RelV v u)(hd:(x == ("__debug__":Str))=false:=by decide):PE X (.Name x pos) (tC v):=
 fun _ _ _ H _ I h=>lT I hg hm ⟨v,H,I,r,h⟩ hd
theorem jX{x:Str}{v:V}{u:Value}{pos:Pos}(hg:Gl X x)(hm:X.mg x=none)(hv:bootBuiltins x=some u)(r:RelV v u)(hn:x≠"__name__":=by decide)(hd:(x == ("__debug__":Str))=false:=by decide):PE X (.Name x pos) (tC v):=
 fun _ _ _ H _ I h=>kX I hg hm hv ⟨v,H,I,r,h⟩ hn hd
variable {a b : Expr} {ta tb : TE} {pos : Pos}
noncomputable def tB(t:TE):TT:=fun σ H Q=>t σ H fun x H1=>∃ c,x= .bl c/\Q c H1
theorem jm{e:Expr}{t:TE}(h:PE X e t)(he:∀ whole,isTrue e X.env whole=(do let v<-whole;standAt e.pos;holding [v] (truthy v)):=by intro _;rfl):PT X e (tB t):=by
 intro pins s σ H Q I hw
 refine isTrue_plain (ic (h pins s σ H _ I hw) fun v s1 ⟨x,H1,J,U,q1⟩=>?_) (he _)
 obtain⟨d,rfl,q⟩:=q1
 cases U
 exact wpAny_truthy_bool ⟨H1,J,q⟩
variable {tA tB' : TT} {rest : List Expr}
noncomputable def Co(t u:TT):TT:=fun σ H Q=>t σ H fun c H1=>if c=true then u σ H1 Q else Q false H1
noncomputable def EC(t u:TT):TT:=fun σ H Q=>t σ H fun c H1=>if c=true then Q true H1 else u σ H1 Q
noncomputable def By(t:TT):TT:=fun σ H Q=>t σ H fun c H1=>Q (!c) H1
theorem tu(ha:PT X a tA):PW X (.BoolOp .And [a] pos) tA:=by
 intro J pins s σ H Q I h
 refine isTrue_and (ic (ha pins s σ H Q I h) fun c s1 e=>?_)
 cases c with
 | true=>exact isTrue_and_nil e
 | false=>exact e
theorem jH(ha:PT X a tA):PW X (.BoolOp .Or [a] pos) tA:=by
 intro J pins s σ H Q I h
 refine isTrue_or (ic (ha pins s σ H Q I h) fun c s1 e=>?_)
 cases c with
 | false=>exact isTrue_or_nil e
 | true=>exact e
theorem tY(ha:PT X a tA)(hb:PW X (.BoolOp .And (b::rest) pos) tB'):PW X (.BoolOp .And (a::b::rest) pos) (Co tA tB'):=by
 intro wh pins s σ H Q I h
 refine isTrue_and (ic (ha pins s σ H _ I h) fun c s1 ⟨H1,J,U⟩=>?_)
 cases c with
 | true=>exact hb wh pins s1 σ H1 Q J U
 | false=>exact⟨H1,J,U⟩
theorem jj(ha:PT X a tA)(hb:PW X (.BoolOp .Or (b::rest) pos) tB'):PW X (.BoolOp .Or (a::b::rest) pos) (EC tA tB'):=by
 intro wh pins s σ H Q I h
 refine isTrue_or (ic (ha pins s σ H _ I h) fun c s1 ⟨H1,J,U⟩=>?_)
 cases c with
 | true=>exact⟨H1,J,U⟩
 | false=>exact hb wh pins s1 σ H1 Q J U
theorem jG(ha:PT X a tA):PT X (.UnaryOp .Not a pos) (By tA):=by
 intro pins s σ H Q I h
 exact isTrue_not (ha pins s σ H (fun c H1=>Q (!c) H1) I h)
noncomputable def CU(ta tb:TE):TE:=fun σ H Q=>ta σ H fun x H1=>∃ c,x= .bl c/\if c=true then tb σ H1 Q else Q (.bl false) H1
noncomputable def BO(ta tb:TE):TE:=fun σ H Q=>ta σ H fun x H1=>∃ c,x= .bl c/\if c=true then Q (.bl true) H1 else tb σ H1 Q
noncomputable def Ft(ta:TE):TE:=fun σ H Q=>ta σ H fun x H1=>∃ c,x= .bl c/\Q (.bl (!c)) H1
theorem qc{op}{t:TE}(h:PE X a t):PE X (.BoolOp op [a] pos) t:=fun pins s σ H Q I hw=>BoolOp_one (h pins s σ H Q I hw)
theorem sy(ha:PE X a ta)(hb:PE X (.BoolOp .And (b::rest) pos) tb):PE X (.BoolOp .And (a::b::rest) pos) (CU ta tb):=by
 intro pins s σ H Q I h
 refine BoolOp_and (ic (ha pins s σ H _ I h) fun v s1 ⟨x,H1,U,r1,J⟩=>?_)
 obtain⟨c,rfl,J⟩:=J
 cases r1
 refine wpAny_truthy_bool ?_
 cases c with
 | true=>exact hb pins s1 σ H1 Q U J
 | false=>exact⟨.bl false,H1,U,rfl,J⟩
theorem HN(ha:PE X a ta)(hb:PE X (.BoolOp .Or (b::rest) pos) tb):PE X (.BoolOp .Or (a::b::rest) pos) (BO ta tb):=by
 intro pins s σ H Q I h
 refine BoolOp_or (ic (ha pins s σ H _ I h) fun v s1 ⟨x,H1,U,r1,J⟩=>?_)
 obtain⟨c,rfl,J⟩:=J
 cases r1
 refine wpAny_truthy_bool ?_
 cases c with
 | false=>exact hb pins s1 σ H1 Q U J
 | true=>exact⟨.bl true,H1,U,rfl,J⟩
theorem Es(ha:PE X a ta):PE X (.UnaryOp .Not a pos) (Ft ta):=by
 intro pins s σ H Q I h
 refine UnaryOp_ (ic (ha pins s σ H _ I h) fun v s1 ⟨x,H1,U,r1,J⟩=>?_)
 obtain⟨c,rfl,J⟩:=J
 cases r1
 exact not_of (wpAny_truthy_bool ⟨.bl (!c),H1,U,rfl,J⟩)
noncomputable def Ce(t:TT)(ta tb:TE):TE:=fun σ H Q=>t σ H fun c H1=>if c=true then ta σ H1 Q else tb σ H1 Q
theorem my{c:Expr}(hc:PT X c tA)(ha:PE X a ta)(hb:PE X b tb):PE X (.IfExp c a b pos) (Ce tA ta tb):=by
 intro pins s σ H Q I h
 refine wpAny_IfExp (ic (hc pins s σ H _ I h) fun d s1 ⟨H1,J,U⟩=>?_)
 cases d with
 | true=>exact ha pins s1 σ H1 Q J U
 | false=>exact hb pins s1 σ H1 Q J U
end
noncomputable def gR(K:W.Frag)(H:Hp)(a:Addr)(xs:List V):Prop:=
 Rd H a (.lst xs)\/
  ∃(o:Obj) (J:Array Value) (n:Nat),K.lookup a=some o/\o.cls= .type "list"/\o.dict=none/\o.data= .seq J n/\J.size<=sizeLine/\Vals xs J.toList
noncomputable def ia(K:W.Frag)(H:Hp)(a:Addr)(xs:List V):Prop:=
 Rd H a (.tup xs)\/
  ∃(o:Obj) (J:Array Value) (n:Nat),K.lookup a=some o/\o.cls= .type "tuple"/\o.data= .seq J n/\J.size<=sizeLine/\Vals xs J.toList
noncomputable def F3:Value->Option V
 | .none=>some .non
 | .bool b=>some (.bl b)
 | .int i _=>some (.int i)
 | .str x _=>some (.str x)
 | .bytes b _=>some (.byt b)
 | .float b _=>some (.flt b)
 | .ref a=>some (.ref a)
 | .type n=>some (.ty n)
 | _=>none
theorem RelV.abs {x:V}{u:Value}(r:RelV x u):F3 u=some x:=by
 cases x with
 | non=>cases r;rfl
 | bl _=>cases r;rfl
 | int _=>obtain⟨t,rfl⟩:=r;rfl
 | str _=>obtain⟨t,rfl⟩:=r;rfl
 | byt _=>obtain⟨t,rfl⟩:=r;rfl
 | flt _=>obtain⟨t,rfl⟩:=r;rfl
 | ref _=>cases r;rfl
 | ty _=>cases r;rfl
theorem RelV.inj {x y:V}{u:Value}(r:RelV x u)(q:RelV y u):x=y:=Option.some.inj (r.abs.symm.trans q.abs)
theorem Vals.inj:∀{xs ys:List V} {us:List Value},Vals xs us->Vals ys us->xs=ys
 | _,_,_,.nil,.nil=>rfl
 | _,_,_,.cons r t,.cons J t'=>by rw [r.inj J,Vals.inj t t']
section
variable {X : Cx} {pins : List (Addr × Obj)} {σ : St} {H : Hp} {s : Shared} {a : Addr} {xs ys : List V}
theorem gR.of {K:W.Frag}(h:H a=some (.lst xs)):gR K H a xs:= .inl (.inl h)
theorem ia.of {K:W.Frag}(h:H a=some (.tup xs)):ia K H a xs:= .inl (.inl h)
theorem Inv.list (I:Inv X pins σ H s)(h:gR X.K H a xs):∃ its:List Value,Vals xs its/\PlainL s.heap a its.toArray/\xs.length<=sizeLine:=by
 rcases h with h | ⟨o,its,n,hk,hc,hd,J,hz,r⟩
 ·obtain⟨z,its,n,r,e⟩:=h.ok I.hok
  exact⟨its,r,⟨_,n,e,rfl,rfl,rfl⟩,z⟩
 ·refine⟨its.toList,r,⟨o,n,I.kIn a o hk,hc,hd,by simpa using J⟩,?_⟩
  have e:=r.length
  simp only [Array.length_toList] at e
  omega
theorem Inv.tuple (I:Inv X pins σ H s)(h:ia X.K H a xs):∃ its:List Value,Vals xs its/\IsTup s.heap a its.toArray/\xs.length<=sizeLine:=by
 rcases h with h | ⟨o,its,n,hk,hc,J,hz,r⟩
 ·obtain⟨z,its,r,p⟩:=h.ok I.hok
  exact⟨its,r,p,z⟩
 ·refine⟨its.toList,r,⟨o,I.kIn a o hk,hc,n,by simpa using J⟩,?_⟩
  have e:=r.length
  simp only [Array.length_toList] at e
  omega
theorem Inv.list_inj (I:Inv X pins σ H s)(h:gR X.K H a xs)(h':gR X.K H a ys):xs=ys:=by
 obtain⟨J,r,⟨o,n,e,_,_,d⟩,_⟩:=I.list h
 obtain⟨its',r',⟨o',n',U,_,_,d'⟩,_⟩:=I.list h'
 rw [e] at U;cases U
 rw [d] at d'
 injection d' with d1 _
 have:J=its':=by simpa using congrArg Array.toList d1
 subst this
 exact r.inj r'
end
noncomputable abbrev Cx.wish (X:Cx)(E:Value->Shared->Prop):Cx:={X with xe:=E}
noncomputable abbrev Cx.nox (X:Cx):Cx:=X.wish fun _ _=>False
theorem Cx.Ok.wish {X:Cx}(ok:X.Ok)(E:Value->Shared->Prop):(X.wish E).Ok:=
 ⟨ok.mod,ok.kind,ok.glob,ok.blt,ok.above,ok.inj,ok.has,ok.cab,ok.hd,ok.frames,ok.stk,ok.exf,ok.bs,ok.bsz,ok.noex,ok.exfs,ok.funs,ok.frf⟩
theorem Cx.Ok.unwish {X:Cx}{E:Value->Shared->Prop}(ok:(X.wish E).Ok):X.Ok:=
 ⟨ok.mod,ok.kind,ok.glob,ok.blt,ok.above,ok.inj,ok.has,ok.cab,ok.hd,ok.frames,ok.stk,ok.exf,ok.bs,ok.bsz,ok.noex,ok.exfs,ok.funs,ok.frf⟩
section
variable {X : Cx} {pins : List (Addr × Obj)} {σ : St} {H : Hp} {s : Shared} {E : Value -> Shared -> Prop}
theorem Inv.wish (I:Inv X pins σ H s)(E:Value->Shared->Prop):Inv (X.wish E) pins σ H s:=⟨I.ok.wish E,I.os,I.bare,I.base,I.loc,I.cell,I.free,I.freeC,I.pin,I.hok,I.len⟩
theorem Inv.unwish (I:Inv (X.wish E) pins σ H s):Inv X pins σ H s:=⟨I.ok.unwish,I.os,I.bare,I.base,I.loc,I.cell,I.free,I.freeC,I.pin,I.hok,I.len⟩
theorem SP.unwish {D:Ends}{f:Flow}{s':Shared}(h:SP (X.wish E) pins D f s'):SP X pins D f s':=by
 cases f with
 | next=>obtain⟨J,H',I,q⟩:=h;exact⟨J,H',I.unwish,q⟩
 | brk=>obtain⟨J,H',I,q⟩:=h;exact⟨J,H',I.unwish,q⟩
 | cont=>obtain⟨J,H',I,q⟩:=h;exact⟨J,H',I.unwish,q⟩
 | ret u=>obtain⟨v,J,H',I,r,q⟩:=h;exact⟨v,J,H',I.unwish,r,q⟩
theorem iD.nox {st:List Stmt}{t:TS}(h:iD X.nox st t):iD X st t:=fun pins s σ H D I hw=>
 wpAny_mono (h pins s σ H D (I.wish _) hw) (fun _ _ q=>q.unwish) fun _ _ z=>False.elim z
end
section
variable {X : Cx} {st : Stmt} {rest : List Stmt} {t u : TS} {e : Expr} {te : TE} {pos : Pos}
noncomputable def Gi:TS:=fun D σ H=>D.nx σ H
noncomputable def j8(t u:TS):TS:=fun D σ H=>t {D with nx:=u D} σ H
theorem iL:iD X [] Gi:=fun _ _ σ H _ I h=>wpAny_execs_nil ⟨σ,H,I,h⟩
theorem gS(h1:PS X st t)(h2:iD X rest u):iD X (st::rest) (j8 t u):=by
 intro pins s σ H D I h
 refine wpAny_execs_cons (ic (h1 pins s σ H {D with nx:=u D} I h) fun f s1 q=>?_)
 cases f with
 | next=>
  obtain⟨J,H',U,q⟩:=q
  exact h2 pins s1 J H' D U q
 | ret v=>exact q
 | brk=>exact q
 | cont=>exact q
theorem g0(h1:PS X st t):iD X [st] t:=by
 intro pins s σ H D I h
 refine wpAny_execs_cons (ic (h1 pins s σ H D I h) fun f s1 q=>?_)
 cases f with
 | next=>exact wpAny_execs_nil q
 | ret v=>exact q
 | brk=>exact q
 | cont=>exact q
noncomputable def AZ:TS:=fun D σ H=>D.ct σ H
theorem Hd:PS X (.Continue pos) AZ:=fun _ _ σ H _ I h=>wpAny_Continue ⟨σ,H,I,h⟩
theorem Inv.quiet {pins:List (Addr×Obj)}{σ:St}{H:Hp}{s:Shared}(I:Inv X pins σ H s):interactive X.env=false:=by simp [interactive,I.ok.kind]
noncomputable def wF(te:TE):TS:=fun D σ H=>te σ H fun _ H1=>D.nx σ H1
theorem ke(he:PE X e te)(hs:swapsWith e none pos.line X.env=pure false:=by rfl):PS X (.Expr e pos) (wF te):=by
 intro pins s σ H D I h
 exact wpAny_Expr_any (ic (he pins s σ H _ I h) fun v s1 ⟨x,H1,J,r1,U⟩=>⟨σ,H1,J,U⟩) I.quiet hs
noncomputable def AY(te:TE):TS:=fun D σ H=>te σ H D.rt
theorem iC(he:PE X e te):PS X (.Return (some e) pos) (AY te):=by
 intro pins s σ H D I h
 exact wpAny_Return_some (ic (he pins s σ H _ I h) fun v s1 ⟨x,H1,J,U,q1⟩=>⟨x,σ,H1,J,U,q1⟩)
noncomputable def Cu(c:TT)(t u:TS):TS:=fun D σ H=>c σ H fun b H1=>if b=true then t D σ H1 else u D σ H1
theorem iN{c:Expr}{a b:List Stmt}{tc:TT}(hc:PT X c tc)(ha:iD X a t)(hb:iD X b u):PS X (.If c a b pos) (Cu tc t u):=by
 intro pins s σ H D I h
 refine wpAny_If (ic (hc pins s σ H _ I h) fun d s1 ⟨H1,J,U⟩=>?_)
 cases d with
 | true=>exact ha pins s1 σ H1 D J U
 | false=>exact hb pins s1 σ H1 D J U
noncomputable def DP:TS:=fun _ _ _=>False
theorem Et{sts:List Stmt}:iD X sts DP:=fun _ _ _ _ _ _ h=>h.elim
end
noncomputable abbrev TG:=V->St->Hp->(St->Hp->Prop)->Prop
noncomputable abbrev lG:=List V->St->Hp->(St->Hp->Prop)->Prop
noncomputable def PG(X:Cx)(target:Expr)(t:TG):Prop:=
 ∀(pins:List (Addr×Obj)) (s:Shared) (σ:St) (H:Hp) (v:V) (u:Value) (Q:St->Hp->Prop),Inv X pins σ H s->RelV v u->t v σ H Q->
  wpAny (model X.prog X.w) X.A (assign target X.env u) (fun _ s'=>∃ J H',Inv X pins J H' s'/\Q J H') X.xe s
noncomputable def iX(X:Cx)(ts:List Expr)(t:lG):Prop:=
 ∀(pins:List (Addr×Obj)) (s:Shared) (σ:St) (H:Hp) (vs:List V) (us:List Value) (Q:St->Hp->Prop),Inv X pins σ H s->Vals vs us->t vs σ H Q->
  wpAny (model X.prog X.w) X.A (assignInOrder ((assignEach ts X.env).map (·.2)) us) (fun _ s'=>∃ J H',Inv X pins J H' s'/\Q J H') X.xe s
noncomputable abbrev tU:=V->V->V->Hp->(Hp->Prop)->Prop
noncomputable def vH(X:Cx)(t:tU):Prop:=
 ∀(pins:List (Addr×Obj)) (s:Shared) (σ:St) (H:Hp) (o i v:V) (J U u:Value) (Q:Hp->Prop),Inv X pins σ H s->RelV o J->RelV i U->RelV v u->t o i v H Q->
  wpAny (model X.prog X.w) X.A (setItem J U u) (fun _ s'=>∃ H',Inv X pins σ H' s'/\Q H') X.xe s
noncomputable abbrev sF:=V->V->Hp->VK->Prop
noncomputable def wu(X:Cx)(op:Operator)(t:sF):Prop:=
 ∀(pins:List (Addr×Obj)) (s:Shared) (σ:St) (H:Hp) (x y:V) (v u:Value) (Q:VK),Inv X pins σ H s->RelV x v->RelV y u->t x y H Q->
  wpAny (model X.prog X.w) X.A (inplaceOp op v u) (EP X pins σ Q) X.xe s
section
variable {X : Cx} {pos : Pos}
noncomputable def kq(i:Nat):TG:=fun v σ H Q=>Q (σ.set i (some v)) H
theorem iS{i:Nat}{x:Str}(hN:X.N.Nodup)(hi:X.N[i]? =some x)(hx:Loc X.env.scope x)(hf:X.fn x=true\/X.env.scope.names.lookup x=some .local:=by first | exact .inl rfl | exact .inr rfl | assumption):PG X (.Name x pos) (kq i):=by
 intro pins s σ H v u Q I r h
 exact wpAny_assign_Name (qt I hN hi hx r (fun s' J=>⟨_,H,J,h⟩) hf)
noncomputable def yf:lG:=fun vs σ H Q=>vs=[]/\Q σ H
noncomputable def zX(t:TG)(u:lG):lG:=fun vs σ H Q=>∃ v r,vs=v::r/\t v σ H fun J H'=>u r J H' Q
theorem k7:iX X [] yf:=by
 intro pins s σ H vs us Q I r h
 obtain⟨e,h⟩:=h
 subst e
 cases r
 exact assignInOrder_nil ⟨σ,H,I,h⟩
theorem jx{e:Expr}{es:List Expr}{t:TG}{u:lG}(h1:PG X e t)(h2:iX X es u)
  (hs:(assignEach (e::es) X.env).map (·.2)=assign e X.env::(assignEach es X.env).map (·.2):=by rfl):iX X (e::es) (zX t u):=by
 intro pins s σ H vs us Q I r h
 obtain⟨v,vr,U,h⟩:=h
 subst U
 cases r with
 | cons r rr=>
  rw [hs]
  refine assignInOrder_cons (ic (h1 pins s σ H _ _ _ I r h) fun _ s1 ⟨J,H1,I1,q1⟩=>?_)
  exact h2 pins s1 J H1 _ _ Q I1 rr q1
noncomputable def vv(K:W.Frag)(n:Nat)(t:lG):TG:=fun v σ H Q=>∃ a xs,v= .ref a/\ia K H a xs/\xs.length=n/\t xs σ H Q
theorem kS{es:List Expr}{k:Nat}{t:lG}{n:Nat}(hc:X.calm=true)(h:iX X es t)
  (hn:(assignEach es X.env).length=n:=by rfl)(hst:(assignEach es X.env).findIdx? (·.1)=none:=by rfl):PG X (.Tuple es k pos) (vv X.K n t):=by
 intro pins s σ H v u Q I r hw
 obtain⟨a,xs,U,hq,hl,hw⟩:=hw
 subst U
 cases r
 obtain⟨aa,J,ht,hz⟩:=I.tuple hq
 refine assign_Tuple_tuple (I.ok.hd hc) ht (by simp [hn,<-hl,J.length]) hst fun h' hx=>?_
 have I1:Inv X pins σ H {s with heap:=h'}:=I.kept (t':=s.toks) fun b o e=>hx b o (Nat.ne_of_lt (Heap.lt_size e)) e
 exact h pins _ σ H xs _ Q I1 (by simpa using J) hw
noncomputable def F5(to ti:TE)(t:tU):TG:=fun v σ H Q=>to σ H fun o H1=>ti σ H1 fun i H2=>t o i v H2 fun J=>Q σ J
theorem zf{o i:Expr}{to ti:TE}{t:tU}(ho:PE X o to)(hi:PE X i ti)(hs:vH X t)
  (ha:∀ v,assign (.Subscript o i pos) X.env v=(do
   let ov<-holding [v] (eval o X.env)
   let iv<-holding [v,ov] (eval i X.env)
   standAt pos
   holding [v,ov,iv] (setItem ov iv v)
   release [v,ov,iv] []):=by intro _;rfl):PG X (.Subscript o i pos) (F5 to ti t):=by
 intro pins s σ H v u Q I r h
 rw [ha]
 refine wpAny_bind (wpAny_holding (ic (ho pins s σ H _ I h) fun ov s1 ⟨x,H1,J,U,q1⟩=>?_))
 refine wpAny_bind (wpAny_holding (ic (hi pins s1 σ H1 _ J q1) fun iv s2 ⟨y,H2,I2,r2,q2⟩=>?_))
 refine wpAny_bind (wpAny_standAt (wpAny_bind (wpAny_holding (ic (hs pins s2 σ H2 x y v ov iv u _ I2 U r2 r q2) fun _ s3 ⟨H3,I3,q3⟩=>?_))))
 exact wpAny_release ⟨σ,H3,I3,q3⟩
noncomputable def vh(te:TE)(g:TG):TS:=fun D σ H=>te σ H fun x H1=>g x σ H1 D.nx
theorem rY{tg e:Expr}{te:TE}{g:TG}(he:PE X e te)(hg:PG X tg g)(hs:swapsWithSole [tg] e pos.line X.env=pure false:=by rfl)(hw:swappedStores [tg] e X.env=pure none:=by rfl)
  (h1:(assignEach [tg] X.env).map (·.2)=[assign tg X.env]:=by rfl):PS X (.Assign [tg] e pos) (vh te g):=by
 intro pins s σ H D I h
 refine wpAny_Assign_stores (ic (he pins s σ H _ I h) fun v s1 ⟨x,H1,J,U,q1⟩=>?_) hs hw
 rw [h1]
 exact ic (hg pins s1 σ H1 x v _ J U q1) fun _ s2 q=>q
theorem hU{i:Nat}{x:Str}{e:Expr}{te:TE}{pos':Pos}(hN:X.N.Nodup)(hi:X.N[i]? =some x)(hx:Loc X.env.scope x)(he:PE X e te)(hs:swapsWith e (some (.Name x pos')) pos.line X.env=pure false:=by rfl)(hf:X.fn x=true\/X.env.scope.names.lookup x=some .local:=by first | exact .inl rfl | exact .inr rfl | assumption):
  PS X (.Assign [.Name x pos'] e pos) (vh te (kq i)):=by
 intro pins s σ H D I h
 refine wpAny_Assign_Name (ic (he pins s σ H _ I h) fun v s1 ⟨y,H1,J,U,q1⟩=>?_) hs
 exact qt J hN hi hx U (fun s2 I2=>⟨_,H1,I2,q1⟩) hf
noncomputable def HI(i:Nat)(te:TE)(ti:sF):TS:=fun D σ H=>∃ x,σ[i]? =some (some x)/\te σ H fun y H1=>ti x y H1 fun z H2=>D.nx (σ.set i (some z)) H2
theorem vL{i:Nat}{x:Str}{e:Expr}{te:TE}{op:Operator}{ti:sF}{pos':Pos}(hN:X.N.Nodup)(hi:X.N[i]? =some x)(hx:Loc X.env.scope x)(he:PE X e te)(ho:wu X op ti)(hf:X.fn x=true\/X.env.scope.names.lookup x=some .local:=by first | exact .inl rfl | exact .inr rfl | assumption):
  PS X (.AugAssign (.Name x pos') op e pos) (HI i te ti):=by
 intro pins s σ H D I h
 obtain⟨v,e1,h⟩:=h
 obtain⟨m,hn,hl⟩:=I.loc
 have ae:pK X.env.scope x:=by rcases hx with k | k;exact .inl k;exact .inr (.inl k)
 obtain⟨u,r,l⟩:=hl i x v hi e1 ae
 refine wpAny_AugAssign_Name ?_
 have go:wpAny (model X.prog X.w) X.A (eval e X.env) (fun w U=>wpAny (model X.prog X.w) X.A (inplaceOp op u w) (fun r aa=>wpAny (model X.prog X.w) X.A (storeName X.env x r) (fun _=>SP X pins D .next) X.xe aa) X.xe U) X.xe s:=by
  refine ic (he pins s σ H _ I h) fun w s1 ⟨y,H1,I1,r1,q1⟩=>?_
  refine ic (ho pins s1 σ H1 v y u w _ I1 r r1 q1) fun z s2 ⟨zv,H2,I2,r2,q2⟩=>?_
  exact qt I2 hN hi hx r2 (fun s3 I3=>⟨_,H2,I3,q2⟩) hf
 rcases l with ⟨hk,hm⟩ | ⟨hk,c,hc,J⟩
 ·exact wpAny_loadName_local I.ok.kind hk hn hm go
 ·rcases hk with hk | hk
  ·exact wpAny_loadName_cell I.ok.kind hk hc J go
  ·rcases hx with k | k
   ·have:X.env.scope.names.lookup x=some .free:=hk
    rw [k] at this;cases this
   ·have:X.env.scope.names.lookup x=some .free:=hk
    rw [k] at this;cases this
noncomputable def Gx(f:Int->Int->Int):sF:=fun x y H Q=>∃ i j,x= .int i/\y= .int j/\Q (.int (f i j)) H
theorem A4:wu X .Add (Gx fun i j=>i + j):=by
 intro pins s σ H x y v u Q I J U h
 obtain⟨i,j,e1,e2,q⟩:=h
 subst e1;subst e2
 obtain⟨t,rfl⟩:=J
 obtain⟨t',rfl⟩:=U
 exact iadd_int ⟨.int _,H,I.tok _,⟨_,rfl⟩,q⟩
noncomputable def tS(c:TT)(tb:TS):TS:=fun D σ H=>∃ W:Nat->St->Hp->Prop,(∃ m,W m σ H)/\∀ m σ H,W m σ H->
 c σ H fun b H1=>if b=true then ∃ N:St->Hp->Prop,(∀ J H',N J H'->∃ U,U < m/\W U J H')/\tb {D with nx:=N,ct:=N,bk:=D.nx} σ H1 else D.nx σ H1
theorem vp{c:Expr}{body:List Stmt}{tc:TT}{tb:TS}(hp:PassesOwn (model X.prog X.w) X.A X.env X.xe)(hc:PT X c tc)(hb:iD X body tb):PS X (.While c body [] pos) (tS tc tb):=by
 intro pins s σ H D I h
 obtain⟨W,⟨m0,w0⟩,turn⟩:=h
 refine wpAny_While (codeAny_whileLoop (fun n s'=>∃ aa H',Inv X pins aa H' s'/\W n aa H') ?_ m0 ⟨σ,H,I,w0⟩)
 rintro n s1 ⟨U,H1,I1,w1⟩
 refine wpAny_passesOwn hp (ic (hc pins s1 U H1 _ I1 (turn n U H1 w1)) fun b s2 ⟨H2,I2,q2⟩=>?_)
 cases b with
 | true=>
  obtain⟨N,hN,q2⟩:=q2
  rw [if_pos rfl]
  refine wpAny_passesOwn hp (ic (hb pins s2 U H2 _ I2 q2) fun f s3 q3=>?_)
  cases f with
  | next=>
   obtain⟨J,H3,I3,n3⟩:=q3
   obtain⟨m',hm,w3⟩:=hN J H3 n3
   exact⟨m',hm,J,H3,I3,w3⟩
  | cont=>
   obtain⟨J,H3,I3,n3⟩:=q3
   obtain⟨m',hm,w3⟩:=hN J H3 n3
   exact⟨m',hm,J,H3,I3,w3⟩
  | brk=>exact q3
  | ret v=>exact q3
 | false=>
  rw [if_neg Bool.false_ne_true]
  exact wpAny_execs_nil ⟨U,H2,I2,q2⟩
end
structure It where
 go : Nat -> Hp -> Prop
 yld : Nat -> Hp -> V -> Hp -> Prop
 stop : Nat -> Hp -> Prop
noncomputable def lF(X:Cx)(pins:List (Addr×Obj))(H:Hp)(b:Addr):Prop:=
 H b=none/\b≠X.env.locals/\b∉X.fs/\(b∈X.ex\/X.s₀.heap.objs.size<=b)/\(∀ x c,X.env.cells.lookup x=some c->c≠b)/\∀ p∈X.pn++pins,p.1≠b
theorem Inv.fpOk {X:Cx}{pins:List (Addr×Obj)}{σ:St}{H H':Hp}{s:Shared}{b:Addr}(I:Inv X pins σ H s)(hb:s.heap.objs.size<=b)(hn:H' b=none):lF X pins H' b:=by
 refine⟨hn,Nat.ne_of_gt (Nat.lt_of_lt_of_le I.lt hb),I.nofs hb,.inr (Nat.le_trans I.sz hb),fun x c e z=>?_,fun p J z=>?_⟩
 ·obtain⟨v,q⟩:=I.cell x c e
  exact absurd (Nat.lt_of_lt_of_le q.lt (by rw [z];exact hb)) (Nat.lt_irrefl _)
 ·exact absurd (Nat.lt_of_lt_of_le (Heap.lt_size (I.pin p J).1) (by rw [z];exact hb)) (Nat.lt_irrefl _)
structure Turn (P : Program) (w : World) (K : W.Frag) (tg : Expr) (J : It) (fp : List Addr) (it : Addr) (tn : Nat -> Heap -> Prop) : Prop where
 mem : it ∈ fp
 obj : ∀ i h, tn i h -> ∀ b ∈ fp, ∃ o, h.get? b = some o /\ ∀ v, o.data ≠ .cell v
 keep : ∀ i h h', tn i h -> (∀ b ∈ fp, ∀ o, h.get? b = some o -> h'.get? b = some o) -> tn i h'
 item : ∀ (X : Cx), X.prog = P -> X.w = w -> X.K = K -> X.calm = true -> ∀ (i : Nat) (pins : List (Addr × Obj)) (s : Shared) (σ : St) (H : Hp) (E : Value -> Shared -> Prop), Inv X pins σ H s -> (∀ b ∈ fp, lF X pins H b) -> tn i s.heap -> J.go i H ->
  wpAny (model P w) X.A (pyNext (.ref it)) (fun r s1 => ∃ u, r = some u /\
   wpAny (model P w) X.A (letOwnedTupleGo tg (.ref it) u) (fun _ s2 => ∃ x H', Inv X pins σ H' s2 /\ RelV x u /\ J.yld i H x H' /\ tn (i + 1) s2.heap /\ ∀ b ∈ fp, H' b = none) E s1) E s
 done : ∀ (X : Cx), X.prog = P -> X.w = w -> X.K = K -> X.calm = true -> ∀ (i : Nat) (pins : List (Addr × Obj)) (s : Shared) (σ : St) (H : Hp) (E : Value -> Shared -> Prop), Inv X pins σ H s -> (∀ b ∈ fp, lF X pins H b) -> tn i s.heap -> J.stop i H ->
  wpAny (model P w) X.A (pyNext (.ref it)) (fun r s1 => r = none /\ Inv X pins σ H s1) E s
 self : ∀ (A : Around) (i : Nat) (s : Shared) (Q : Value -> Shared -> Prop) (E : Value -> Shared -> Prop), tn i s.heap -> Q (.ref it) s -> wpAny (model P w) A (pyIter (.ref it)) Q E s
noncomputable abbrev TI:=St->Hp->(It->Hp->Prop)->Prop
noncomputable def xK(X:Cx)(pins:List (Addr×Obj))(σ:St)(tg:Expr)(R:It->Hp->Prop)(itv:Value)(s2:Shared):Prop:=
 ∃(it:Addr) (fp:List Addr) (U:Nat->Heap->Prop) (J:It) (H':Hp),itv= .ref it/\Inv X pins σ H' s2/\Turn X.prog X.w X.K tg J fp it U/\U 0 s2.heap/\(∀ b∈fp,lF X pins H' b)/\R J H'
noncomputable def PI(X:Cx)(tg iter:Expr)(wi:TI):Prop:=
 ∀(pins:List (Addr×Obj)) (s:Shared) (σ:St) (H:Hp) (R:It->Hp->Prop),Inv X pins σ H s->wi σ H R->
  wpAny (model X.prog X.w) X.A (eval iter X.env) (fun v s1=>wpAny (model X.prog X.w) X.A (pyIter v) (xK X pins σ tg R) X.xe s1) X.xe s
theorem rK {M : Model} {A : Around} {E : Value -> Shared -> Prop} {s : Shared} {tg : Expr} {it : Addr} {u : Value} {o : Obj} {n : String} {vs : Array Value} {Q : Unit -> Shared -> Prop} (ho : s.heap.get? it = some o) (hc : o.cls = .type n) (hd : o.data = .fields vs)
  (hn : ["enumerate", "zip", "dict_itemiterator", "dict_reverseitemiterator", "odict_iterator", "itertools.zip_longest", "itertools.pairwise"].contains n = false) (hQ : Q () s) : wpAny M A (letOwnedTupleGo tg (.ref it) u) Q E s := by
 unfold letOwnedTupleGo
 cases tg <;> first
  | exact wpAny_pure hQ
  | (cases u <;> first
    | exact wpAny_pure hQ
    | (refine wpAny_bind (wpAny_load ho ?_)
       rw [hc, hd]
       show wpAny M A (if (["enumerate", "zip", "dict_itemiterator", "dict_reverseitemiterator", "odict_iterator", "itertools.zip_longest", "itertools.pairwise"].contains n && vs[0]? == some (rawInt _)) = true then _ else _) Q E s
       rw [if_neg (by intro h; rw [hn, Bool.false_and] at h; cases h)]
       exact wpAny_pure hQ))
noncomputable def oK(K:W.Frag)(a:Addr):It:=
 ⟨fun i H=>∃ xs x,gR K H a xs/\xs[i]? =some x,fun i H x H'=>H'=H/\∀ xs,gR K H a xs->xs[i]? =some x,fun i H=>∃ xs,gR K H a xs/\xs.length<=i⟩
noncomputable def mJ(lo:Int)(n:Nat):It:=⟨fun i _=>i < n,fun i H x H'=>H'=H/\x= .int (lo + i),fun i _=>n<=i⟩
theorem Bl{P:Program}{w:World}{K:W.Frag}{tg:Expr}(a it:Addr):Turn P w K tg (oK K a) [it] it (fun i h=>h.IsListIter it a i) where
 mem:=by simp
 obj:=fun i h st b hb=>by
  have e:b=it:=by simpa using hb
  subst e
  obtain⟨o,e,c,d⟩:=st
  exact⟨o,e,fun v z=>by rw [d] at z;cases z⟩
 keep:=fun i h h' st k=>st.at fun o e=>k it (by simp) o e
 item:=by
  intro X hP hw hK hc i pins s σ H E I hf st hg
  subst hP hw hK
  obtain⟨xs,x,U,hx⟩:=hg
  obtain⟨aa,rv,p,hz⟩:=I.list U
  obtain⟨u,hu,ru⟩:=rv.get hx
  obtain⟨f0,f1,f2,f3,f4,f5⟩:=hf it (by simp)
  refine wpAny_pyNext_list_item st p.isList (x:=u) (by simpa using hu) fun h' J sb=>?_
  have I1:Inv X pins σ H {s with heap:=h'}:=I.turned (t':=s.toks) (fun b o hb e=>(sb.2 b hb).trans e) f0 f1 f3 f4 f5
  obtain⟨o,e,c,d⟩:=id J
  exact⟨u,rfl,rK (s:={s with heap:=h'}) e c d (by decide) ⟨x,H,I1,ru,⟨rfl,fun ys hy=>by rw [I.list_inj hy U];exact hx⟩,J,fun b hb=>(hf b hb).1⟩⟩
 done:=by
  intro X hP hw hK hc i pins s σ H E I hf st hg
  subst hP hw hK
  obtain⟨xs,U,hx⟩:=hg
  obtain⟨aa,rv,p,hz⟩:=I.list U
  obtain⟨f0,f1,f2,f3,f4,f5⟩:=hf it (by simp)
  have hl:=rv.length
  exact wpAny_pyNext_list_end (I.ok.hd hc) st p.isList (by simp;omega) fun h' eb=>⟨rfl,I.turned (t':=s.toks) (fun b o hb e=>eb b o hb e) f0 f1 f3 f4 f5⟩
 self:=fun _ _ _ _ _ st h=>wpAny_pyIter_listiter st h
theorem GJ{P:Program}{w:World}{K:PySem.W.Frag}{tg:Expr}(it:Addr)(lo:Int)(n:Nat):Turn P w K tg (mJ lo n) [it] it (fun i h=>IsRangeIter h it (lo + (i:Nat) * 1) ((n:Int) - (i:Nat)) 1) where
 mem:=by simp
 obj:=fun i h st b hb=>by
  have e:b=it:=by simpa using hb
  subst e
  exact⟨_,st,fun v z=>by
   have z':Data.fields _=Data.cell v:=z
   cases z'⟩
 keep:=fun i h h' st k=>k it (by simp) _ st
 item:=by
  intro X U hw hK hc i pins s σ H E I hf st hg
  subst U hw hK
  obtain⟨f0,f1,f2,f3,f4,f5⟩:=hf it (by simp)
  have W:=Walks.range (prog:=X.prog) (w:=X.w) (I.ok.hd hc) it lo 1 n
  refine W.item i s _ _ hg st fun v h' tk hv J kk=>?_
  obtain⟨t,rfl⟩:=hv
  have I1:Inv X pins σ H {s with heap:=h',toks:=tk}:=I.turned (fun b o hb e=>kk b o (by simpa using hb) e) f0 f1 f3 f4 f5
  refine⟨_,rfl,rK (s:={s with heap:=h',toks:=tk}) (n:="range_iterator") J rfl rfl (by decide) ⟨.int (lo + i),H,I1,⟨t,?_⟩,⟨rfl,rfl⟩,J,fun b hb=>(hf b hb).1⟩⟩
  rw [Int.mul_one]
 done:=by
  intro X U hw hK hc i pins s σ H E I hf st hg
  subst U hw hK
  obtain⟨f0,f1,f2,f3,f4,f5⟩:=hf it (by simp)
  exact wpAny_pyNext_range_end (I.ok.hd hc) st (by have:n<=i:=hg;omega) fun h' eb=>⟨rfl,I.turned (t':=s.toks) (fun b o hb e=>eb b o hb e) f0 f1 f3 f4 f5⟩
 self:=fun _ _ _ _ _ st h=>wpAny_pyIter_rangeiter st h
section
variable {X : Cx} {tg : Expr}
noncomputable def Cy(K:W.Frag)(tl:TE):TI:=fun σ H R=>tl σ H fun x H1=>∃ a,x= .ref a/\(∃ xs,gR K H1 a xs)/\R (oK K a) H1
theorem kJ{l:Expr}{tl:TE}(hl:PE X l tl):PI X tg l (Cy X.K tl):=by
 intro pins s σ H R I h
 refine ic (hl pins s σ H _ I h) fun v s1 ⟨x,H1,J,U,q1⟩=>?_
 obtain⟨a,e,⟨xs,hq⟩,q⟩:=q1
 subst e
 cases U
 obtain⟨aa,rv,p,hz⟩:=J.list hq
 refine wpAny_pyIter_list p.isList ?_
 refine⟨s1.heap.objs.size,[s1.heap.objs.size],_,_,H1,rfl,J.kept (t':=s1.toks) fun b o e=>Heap.get?_push_of_some _ e,Bl a _,⟨_,Heap.get?_push_size _ rfl,rfl,rfl⟩,fun b hb=>?_,q⟩
 have e:b=s1.heap.objs.size:=by simpa using hb
 subst e
 exact J.fpOk (Nat.le_refl _) (J.hok.fresh (Nat.le_refl _))
theorem yd{pins:List (Addr×Obj)}{σ:St}{H:Hp}{s:Shared}{R:It->Hp->Prop}{E:Value->Shared->Prop}{lo hi:Int}{t u v:Tok}{tk:Nat}(I:Inv X pins σ H s)(h1: -(2 ^ 62)<=lo)(h2:lo < 2 ^ 62)(h3: -(2 ^ 62)<=hi)(h4:hi < 2 ^ 62)
  (q:R (mJ lo (hi - lo).toNat) H):wpAny (model X.prog X.w) X.A (pyIter (.ref s.heap.objs.size)) (xK X pins σ tg R) E {s with heap:=s.heap.push {cls:= .type "range",data:= .fields #[.int lo t,.int hi u,.int 1 v]},toks:=tk}:=by
 refine wpAny_pyIter_range (IsRange.new ..) (small_one h1 h2 h3 h4) ?_
 have J:Inv X pins σ H {s with heap:=s.heap.push {cls:= .type "range",data:= .fields #[.int lo t,.int hi u,.int 1 v]},toks:=tk}:=I.kept fun b o e=>Heap.get?_push_of_some _ e
 refine⟨(s.heap.push {cls:= .type "range",data:= .fields #[.int lo t,.int hi u,.int 1 v]}).objs.size,[(s.heap.push {cls:= .type "range",data:= .fields #[.int lo t,.int hi u,.int 1 v]}).objs.size],_,_,H,rfl,
  J.kept (t':=tk) fun b o e=>Heap.get?_push_of_some _ e,GJ _ lo (hi - lo).toNat,?_,fun b hb=>?_,q⟩
 ·have U:lo + ((0:Nat):Int) * 1=lo:=by simp
  have e2:(((hi - lo).toNat:Nat):Int) - ((0:Nat):Int)=Builtin.Range.rangeSize lo hi 1:=by rw [rangeSize_one];split<;>omega
  show IsRangeIter _ _ (lo + ((0:Nat):Int) * 1) ((((hi - lo).toNat:Nat):Int) - ((0:Nat):Int)) 1
  rw [U,e2]
  exact Heap.get?_push_size _ rfl
 ·have e:b=(s.heap.push {cls:= .type "range",data:= .fields #[.int lo t,.int hi u,.int 1 v]}).objs.size:=by simpa using hb
  subst e
  exact J.fpOk (Nat.le_refl _) (J.hok.fresh (Nat.le_refl _))
noncomputable def Ek(ta:TA):TI:=fun σ H R=>ta σ H fun vs H1=>∃ j:Int,vs=[.int j]/\ -(2 ^ 62)<=j/\j < 2 ^ 62/\R (mJ 0 j.toNat) H1
noncomputable def Dg(ta:TA):TI:=fun σ H R=>ta σ H fun vs H1=>∃ i j:Int,vs=[.int i,.int j]/\(-(2 ^ 62)<=i/\i < 2 ^ 62/\ -(2 ^ 62)<=j/\j < 2 ^ 62)/\R (mJ i (j - i).toNat) H1
theorem nt{a:Expr}{ta:TA}{p pos:Pos}(hg:Gl X "range")(hm:X.mg "range"=none)(ha:PA X [a] ta)(hs:starEach [a] X.env=[(false,eval a X.env)]:=by rfl):PI X tg (.Call (.Name "range" p) [a] [] pos) (Ek ta):=by
 intro pins s σ H R I h
 refine Call_ (kX I hg hm boot_range (PyProof.Rows.callWith_type1 (ic (ha pos pins s σ H _ I h) fun us s1 ⟨vs,H1,U,r1,J⟩=>?_) hs rfl))
 obtain⟨j,e,J,q2,q⟩:=J
 subst e
 cases r1 with
 | cons r rr=>
  cases rr
  obtain⟨t,rfl⟩:=r
  exact call_range_1 (yd U (by omega) (by omega) J q2 (by simpa using q))
theorem CN{a b:Expr}{ta:TA}{p pos:Pos}(hg:Gl X "range")(hm:X.mg "range"=none)(ha:PA X [a,b] ta)(hs:starEach [a,b] X.env=[(false,eval a X.env),(false,eval b X.env)]:=by rfl)(hs2:starEach [b] X.env=[(false,eval b X.env)]:=by rfl):
  PI X tg (.Call (.Name "range" p) [a,b] [] pos) (Dg ta):=by
 intro pins s σ H R I h
 refine Call_ (kX I hg hm boot_range (PyProof.Rows.callWith_type1 (ic (ha pos pins s σ H _ I h) fun us s1 ⟨vs,H1,I1,r1,J⟩=>?_) (by rw [hs,hs2]) (by rw [hs2];rfl)))
 obtain⟨i,j,e,⟨J,q2,q3,q4⟩,q⟩:=J
 subst e
 cases r1 with
 | cons r U=>
  cases U with
  | cons r' U=>
   cases U
   obtain⟨t,rfl⟩:=r
   obtain⟨t',rfl⟩:=r'
   exact call_range_2 (yd I1 J q2 q3 q4 q)
noncomputable def AS(wi:TI)(g:TG)(tb:TS):TS:=fun D σ H=>wi σ H fun J H1=>∃ W:Nat->Nat->St->Hp->Prop,(∃ m,W 0 m σ H1)/\∀ i m σ H,W i m σ H->
 (J.stop i H/\D.nx σ H)\/(J.go i H/\∃ N:St->Hp->Prop,(∀ U H',N U H'->∃ m',m' < m/\W (i + 1) m' U H')/\∀ x H',J.yld i H x H'->g x σ H' fun aa H2=>tb {D with nx:=N,ct:=N,bk:=D.nx} aa H2)
noncomputable def qL(fp:List Addr)(h:Heap):List (Addr×Obj):=fp.filterMap fun b=>(h.get? b).map fun o=>(b,o)
theorem rM{fp:List Addr}{h:Heap}{b:Addr}{o:Obj}(hb:b∈fp)(e:h.get? b=some o):(b,o)∈qL fp h:=List.mem_filterMap.mpr ⟨b,hb,by rw [e];rfl⟩
theorem HW{fp:List Addr}{h:Heap}{p:Addr×Obj}(hp:p∈qL fp h):p.1∈fp/\h.get? p.1=some p.2:=by
 obtain⟨b,hb,e⟩:=List.mem_filterMap.mp hp
 cases q:h.get? b with
 | none=>rw [q] at e;cases e
 | some o=>
  rw [q] at e
  have J:(b,o)=p:=Option.some.inj e
  subst J
  exact⟨hb,q⟩
theorem Inv.pinned {pins:List (Addr×Obj)}{σ:St}{H:Hp}{s:Shared}{fp:List Addr}(I:Inv X pins σ H s)(hf:∀ b∈fp,lF X pins H b)(ho:∀ b∈fp,∃ o,s.heap.get? b=some o/\∀ v,o.data≠ .cell v):Inv X (pins++qL fp s.heap) σ H s:=
 I.pins_of fun p U=>(List.mem_append.mp U).elim (fun z=>I.pin p (List.mem_append_right _ z)) fun z=>by
  obtain⟨hb,e⟩:=HW z
  obtain⟨f0,f1,f2,_⟩:=hf p.1 hb
  obtain⟨o,J,d⟩:=ho p.1 hb
  rw [e] at J;cases J
  exact⟨e,f0,f1,f2,d⟩
theorem Inv.unpinned {pins pl:List (Addr×Obj)}{σ:St}{H:Hp}{s:Shared}(I:Inv X (pins++pl) σ H s):Inv X pins σ H s:=I.pins_of fun p J=>I.pin p (List.mem_append_right _ (List.mem_append_left _ J))
theorem kR{iter:Expr}{body:List Stmt}{wi:TI}{g:TG}{tb:TS}{pos:Pos}(hp:PassesOwn (model X.prog X.w) X.A X.env X.xe)(hc:X.calm=true)(hi:PI X tg iter wi)(hg:PG X tg g)(hb:iD X body tb)
  (hs:∀ x,foldedSetIterable iter X.env x=pure x:=by intro _;rfl):PS X (.For tg iter body [] pos) (AS wi g tb):=by
 intro pins s σ H D I h
 refine wpAny_For (ic (hi pins s σ H _ I h) fun v s1 h1=>ic h1 fun av s2 h2=>?_) hs
 obtain⟨it,fp,tn,J,H2,e,I2,T,ao,f2,W,⟨m0,w0⟩,turn⟩:=h2
 subst e
 have aa:∀{H':Hp},(∀ b∈fp,H' b=none)->∀ b∈fp,lF X pins H' b:=fun hn b hb=>⟨hn b hb,(f2 b hb).2⟩
 refine codeAny_forLoop_any (fun n s'=>∃ i ae H',Inv X pins ae H' s'/\tn i s'.heap/\(∀ b∈fp,H' b=none)/\W i n ae H') ?_ m0 ⟨0,σ,H2,I2,ao,fun b hb=>(f2 b hb).1,w0⟩
 rintro n s3 ⟨i,af,H3,I3,ah,ak,w3⟩
 rcases turn i n af H3 w3 with ⟨stop,qn⟩ | ⟨go,N,hN,step⟩
 ·refine wpAny_passesOwn hp (ic (T.done X rfl rfl rfl hc i pins s3 af H3 X.xe I3 (aa ak) ah stop) fun r s4 ⟨hr,I4⟩=>?_)
  subst hr
  exact wpAny_execs_nil ⟨af,H3,I4,qn⟩
 ·refine wpAny_passesOwn hp (ic (T.item X rfl rfl rfl hc i pins s3 af H3 X.xe I3 (aa ak) ah go) fun r s4 ⟨u,hr,h4⟩=>?_)
  subst hr
  refine wpAny_passesOwn hp (ic h4 fun _ s5 ⟨x,H5,I5,r5,y5,ag,aq⟩=>?_)
  have ar:=I5.pinned (aa aq) (T.obj _ _ ag)
  refine wpAny_passesOwn hp (ic (hg _ s5 af H5 x u _ ar r5 (step x H5 y5)) fun _ s6 ⟨au,H6,I6,q6⟩=>?_)
  refine wpAny_passesOwn hp (ic (hb _ s6 au H6 _ I6 q6) fun f s7 q7=>?_)
  have again:∀{U:St} {H7:Hp},Inv X (pins++qL fp s5.heap) U H7 s7->N U H7->∃ m,m < n/\∃ i ae H',Inv X pins ae H' s7/\tn i s7.heap/\(∀ b∈fp,H' b=none)/\W i m ae H':=fun{U H7} I7 n7=>by
   obtain⟨m',hm,w7⟩:=hN U H7 n7
   refine⟨m',hm,i + 1,U,H7,I7.unpinned,T.keep _ _ _ ag fun b hb o e=>(I7.pin (b,o) (List.mem_append_right _ (List.mem_append_right _ (rM hb e)))).1,fun b hb=>?_,w7⟩
   obtain⟨o,e,d⟩:=T.obj _ _ ag b hb
   exact(I7.pin (b,o) (List.mem_append_right _ (List.mem_append_right _ (rM hb e)))).2.1
  cases f with
  | next=>obtain⟨U,H7,I7,n7⟩:=q7;exact again I7 n7
  | cont=>obtain⟨U,H7,I7,n7⟩:=q7;exact again I7 n7
  | brk=>obtain⟨U,H7,I7,q7⟩:=q7;exact⟨U,H7,I7.unpinned,q7⟩
  | ret v=>obtain⟨x7,U,H7,I7,r7,q7⟩:=q7;exact⟨x7,U,H7,I7.unpinned,r7,q7⟩
end
theorem qe{K:PySem.W.Frag}{a:Addr}{xs:List V}{g:TG}{tb:TS}{D:Ends}{σ:St}{H:Hp}(Pv:Nat->St->Hp->Prop)(h0:Pv 0 σ H)(hl:∀ i σ H,i<=xs.length->Pv i σ H->gR K H a xs)
  (hs:∀ i x σ H,xs[i]? =some x->Pv i σ H->g x σ H fun σ2 H2=>tb {D with nx:=Pv (i + 1),ct:=Pv (i + 1),bk:=D.nx} σ2 H2)(hd:∀ σ H,Pv xs.length σ H->D.nx σ H):
  ∃ W:Nat->Nat->St->Hp->Prop,(∃ m,W 0 m σ H)/\∀ i m σ H,W i m σ H->
   ((oK K a).stop i H/\D.nx σ H)\/((oK K a).go i H/\∃ N:St->Hp->Prop,(∀ σ' H',N σ' H'->∃ m',m' < m/\W (i + 1) m' σ' H')/\∀ x H',(oK K a).yld i H x H'->g x σ H' fun σ2 H2=>tb {D with nx:=N,ct:=N,bk:=D.nx} σ2 H2):=by
 refine⟨fun i m σ H=>m=xs.length - i/\i<=xs.length/\Pv i σ H,⟨xs.length,by simp,Nat.zero_le _,h0⟩,?_⟩
 rintro i m σ H ⟨rfl,hi,p⟩
 have q:=hl i σ H hi p
 by_cases J:i < xs.length
 ·refine .inr ⟨⟨xs,xs[i],q,by simp [J]⟩,Pv (i + 1),fun σ' H' U=>⟨xs.length - (i + 1),by omega,rfl,J,U⟩,fun x H' y=>?_⟩
  obtain⟨e,y⟩:=y
  subst e
  exact hs i x σ _ (y xs q) p
 ·have e:i=xs.length:=by omega
  subst e
  exact .inl ⟨⟨xs,q,Nat.le_refl _⟩,hd σ H p⟩
theorem oQ{lo:Int}{n:Nat}{g:TG}{tb:TS}{D:Ends}{σ:St}{H:Hp}(Pv:Nat->St->Hp->Prop)(h0:Pv 0 σ H)
  (hs:∀ i σ H,i < n->Pv i σ H->g (.int (lo + i)) σ H fun σ2 H2=>tb {D with nx:=Pv (i + 1),ct:=Pv (i + 1),bk:=D.nx} σ2 H2)(hd:∀ σ H,Pv n σ H->D.nx σ H):
  ∃ W:Nat->Nat->St->Hp->Prop,(∃ m,W 0 m σ H)/\∀ i m σ H,W i m σ H->
   ((mJ lo n).stop i H/\D.nx σ H)\/((mJ lo n).go i H/\∃ N:St->Hp->Prop,(∀ σ' H',N σ' H'->∃ m',m' < m/\W (i + 1) m' σ' H')/\∀ x H',(mJ lo n).yld i H x H'->g x σ H' fun σ2 H2=>tb {D with nx:=N,ct:=N,bk:=D.nx} σ2 H2):=by
 refine⟨fun i m σ H=>m=n - i/\i<=n/\Pv i σ H,⟨n,by simp,Nat.zero_le _,h0⟩,?_⟩
 rintro i m σ H ⟨rfl,hi,p⟩
 by_cases J:i < n
 ·refine .inr ⟨J,Pv (i + 1),fun σ' H' U=>⟨n - (i + 1),by omega,rfl,J,U⟩,fun x H' y=>?_⟩
  obtain⟨e,y⟩:=y
  subst e y
  exact hs i σ _ J p
 ·have e:i=n:=by omega
  subst e
  exact .inl ⟨Nat.le_refl _,hd σ H p⟩
theorem xm{c:TT}{tb:TS}{D:Ends}{σ:St}{H:Hp}(Pv:St->Hp->Prop)(μ:St->Hp->Nat)(h0:Pv σ H)
  (hs:∀ σ H,Pv σ H->c σ H fun b H1=>if b=true then tb {D with nx:=fun σ' H'=>Pv σ' H'/\μ σ' H' < μ σ H,ct:=fun σ' H'=>Pv σ' H'/\μ σ' H' < μ σ H,bk:=D.nx} σ H1 else D.nx σ H1)
  (mono:∀ σ H Q Q',(∀ b H1,Q b H1->Q' b H1)->c σ H Q->c σ H Q'):tS c tb D σ H:=by
 refine⟨fun m σ H=>m=μ σ H/\Pv σ H,⟨_,rfl,h0⟩,?_⟩
 rintro m σ H ⟨rfl,p⟩
 refine mono σ H _ _ (fun b H1 q=>?_) (hs σ H p)
 cases b with
 | true=>exact⟨_,fun σ' H' ⟨J,l⟩=>⟨_,l,rfl,J⟩,q⟩
 | false=>exact q
noncomputable abbrev R2:=V->V->Hp->VK->Prop
noncomputable def jg(X:Cx)(f:Value->Value->Sem Value)(r:R2):Prop:=
 ∀(pins:List (Addr×Obj)) (s:Shared) (σ:St) (H:Hp) (x y:V) (v u:Value) (Q:VK),Inv X pins σ H s->RelV x v->RelV y u->r x y H Q->
  wpAny (model X.prog X.w) X.A (f v u) (EP X pins σ Q) X.xe s
noncomputable def tX(X:Cx)(f:Value->Sem Value)(r:V->Hp->VK->Prop):Prop:=
 ∀(pins:List (Addr×Obj)) (s:Shared) (σ:St) (H:Hp) (x:V) (v:Value) (Q:VK),Inv X pins σ H s->RelV x v->r x H Q->
  wpAny (model X.prog X.w) X.A (f v) (EP X pins σ Q) X.xe s
noncomputable def kQ(X:Cx)(f:Value)(r:List V->Hp->VK->Prop):Prop:=
 ∀(pins:List (Addr×Obj)) (s:Shared) (σ:St) (H:Hp) (xs:List V) (us:List Value) (Q:VK),Inv X pins σ H s->Vals xs us->r xs H Q->
  wpAny (model X.prog X.w) X.A (call f us) (EP X pins σ Q) X.xe s
noncomputable def q8(r:R2)(ta tb:TE):TE:=fun σ H Q=>ta σ H fun x H1=>tb σ H1 fun y H2=>r x y H2 Q
noncomputable def Eh(r:V->Hp->VK->Prop)(ta:TE):TE:=fun σ H Q=>ta σ H fun x H1=>r x H1 Q
noncomputable def rI(C:Int->Int->Prop)(g:Int->Int->V):R2:=fun x y H Q=>∃ i j,x= .int i/\y= .int j/\C i j/\Q (g i j) H
noncomputable def mP(g:Int->Int->V):R2:=fun x y H Q=>∃ i j,x= .int i/\y= .int j/\Q (g i j) H
noncomputable def rU(g:Int->V):V->Hp->VK->Prop:=fun x H Q=>∃ i,x= .int i/\Q (g i) H
section
variable {X : Cx} {a b c : Expr} {ta tb tc : TE} {pos : Pos}
theorem tJ(ha:PE X a ta)(hb:PE X b tb){pins:List (Addr×Obj)}{s:Shared}{σ:St}{H:Hp}{R:V->V->Hp->Prop}(I:Inv X pins σ H s)
  (h:ta σ H fun x H1=>tb σ H1 fun y H2=>R x y H2){Q:Value->Shared->Prop}{f:Value->Value->Sem Value}
  (hf:∀ v u s2 x y H2,Inv X pins σ H2 s2->RelV x v->RelV y u->R x y H2->wpAny (model X.prog X.w) X.A (f v u) Q X.xe s2):
  wpAny (model X.prog X.w) X.A (eval a X.env) (fun v s₁=>wpAny (model X.prog X.w) X.A (eval b X.env) (fun u s₂=>wpAny (model X.prog X.w) X.A (f v u) Q X.xe s₂) X.xe s₁) X.xe s:=by
 refine ic (ha pins s σ H _ I h) fun v s1 ⟨x,H1,J,U,q1⟩=>?_
 refine ic (hb pins s1 σ H1 _ J q1) fun u s2 ⟨y,H2,I2,r2,q2⟩=>?_
 exact hf v u s2 x y H2 I2 U r2 q2
theorem gX{op:Operator}{r:R2}(ho:jg X (binaryOp op) r)(ha:PE X a ta)(hb:PE X b tb):PE X (.BinOp a op b pos) (q8 r ta tb):=by
 intro pins s σ H Q I h
 exact wpAny_BinOp (tJ ha hb I h fun v u s2 x y H2 J U ry q=>ho pins s2 σ H2 x y v u Q J U ry q)
theorem pw{op:UnaryOp}{r:V->Hp->VK->Prop}(ho:tX X (unaryOp op) r)(ha:PE X a ta):PE X (.UnaryOp op a pos) (Eh r ta):=by
 intro pins s σ H Q I h
 exact UnaryOp_ (ic (ha pins s σ H _ I h) fun v s1 ⟨x,H1,J,U,q1⟩=>ho pins s1 σ H1 x v Q J U q1)
theorem uR{f:Value->Value->Sem Value}{C:Int->Int->Prop}{g:Int->Int->Int}
  (rule:∀(i j:Int) (t u:Tok) (s:Shared) (Q:Value->Shared->Prop) (E:Value->Shared->Prop),C i j->Q (.int (g i j) s.toks) {s with toks:=s.toks + 1}->wpAny (model X.prog X.w) X.A (f (.int i t) (.int j u)) Q E s):
  jg X f (rI C fun i j=> .int (g i j)):=by
 intro pins s σ H x y v u Q I J U h
 obtain⟨i,j,rfl,rfl,hc,q⟩:=h
 obtain⟨t,rfl⟩:=J
 obtain⟨t',rfl⟩:=U
 exact rule i j t t' s _ _ hc ⟨.int (g i j),H,I.tok _,⟨_,rfl⟩,q⟩
theorem xn{f:Value->Value->Sem Value}{g:Int->Int->Int}
  (rule:∀(i j:Int) (t u:Tok) (s:Shared) (Q:Value->Shared->Prop) (E:Value->Shared->Prop),Q (.int (g i j) s.toks) {s with toks:=s.toks + 1}->wpAny (model X.prog X.w) X.A (f (.int i t) (.int j u)) Q E s):
  jg X f (mP fun i j=> .int (g i j)):=by
 intro pins s σ H x y v u Q I J U h
 obtain⟨i,j,rfl,rfl,q⟩:=h
 obtain⟨t,rfl⟩:=J
 obtain⟨t',rfl⟩:=U
 exact rule i j t t' s _ _ ⟨.int (g i j),H,I.tok _,⟨_,rfl⟩,q⟩
theorem rB{f:Value->Value->Sem Value}{g:Int->Int->Bool}
  (rule:∀(i j:Int) (t u:Tok) (s:Shared) (Q:Value->Shared->Prop) (E:Value->Shared->Prop),Q (.bool (g i j)) s->wpAny (model X.prog X.w) X.A (f (.int i t) (.int j u)) Q E s):
  jg X f (mP fun i j=> .bl (g i j)):=by
 intro pins s σ H x y v u Q I J U h
 obtain⟨i,j,rfl,rfl,q⟩:=h
 obtain⟨t,rfl⟩:=J
 obtain⟨t',rfl⟩:=U
 exact rule i j t t' s _ _ ⟨.bl (g i j),H,I,rfl,q⟩
noncomputable def A9(i j:Int):Prop:=0 < j/\j < 1073741824
noncomputable def ur(i j:Int):Prop:=(-(2 ^ 64) < i/\i < 2 ^ 64)\/(-(2 ^ 64) < j/\j < 2 ^ 64)
theorem ur.ok {i j:Int}(h:ur i j):IntMulOk i j:=by
 rcases h with ⟨h1,h2⟩ | ⟨h1,h2⟩
 ·exact .of_left (intBits_le_64 h1 h2)
 ·exact .of_right (intBits_le_64 h1 h2)
theorem jb:jg X (binaryOp .Add) (mP fun i j=> .int (i + j)):=xn fun _ _ _ _ _ _ _ q=>add_int q
theorem lR:jg X (binaryOp .Sub) (mP fun i j=> .int (i - j)):=xn fun _ _ _ _ _ _ _ q=>sub_int q
theorem lB:jg X (binaryOp .Mult) (rI ur fun i j=> .int (i * j)):=uR fun _ _ _ _ _ _ _ hc q=>mul_int q hc.ok
theorem jO:jg X (binaryOp .FloorDiv) (rI A9 fun i j=> .int (i / j)):=uR fun i j _ _ _ _ _ hc q=>by
 have h1:(0:Int) < j:=hc.1
 have h2:j < 1073741824:=hc.2
 exact floordiv_int (by omega) (by rw [Int.fdiv_eq_ediv_of_nonneg i (by omega)];exact q) (.inl (PyProof.noPylong_small (by omega)))
theorem iZ:jg X (binaryOp .Mod) (rI (fun _ j=>0 < j) fun i j=> .int (i % j)):=uR fun i j _ _ _ _ _ hc q=>by
 have h1:(0:Int) < j:=hc
 exact mod_int' (by omega) (by rw [Int.fmod_eq_emod_of_nonneg i (by omega)];exact q)
theorem HU{f:Value->Sem Value}{g:Int->Int}
  (rule:∀(i:Int) (t:Tok) (s:Shared) (Q:Value->Shared->Prop) (E:Value->Shared->Prop),Q (.int (g i) s.toks) {s with toks:=s.toks + 1}->wpAny (model X.prog X.w) X.A (f (.int i t)) Q E s):
  tX X f (rU fun i=> .int (g i)):=by
 intro pins s σ H x v Q I J h
 obtain⟨i,rfl,q⟩:=h
 obtain⟨t,rfl⟩:=J
 exact rule i t s _ _ ⟨.int (g i),H,I.tok _,⟨_,rfl⟩,q⟩
theorem pJ:tX X (unaryOp .USub) (rU fun i=> .int (-i)):=HU fun _ _ _ _ _ q=>neg_int q
end
noncomputable def wJ:V->V->Bool
 | .non,.non=>true | .non,.int _=>true | .int _,.non=>true | .non,.bl _=>true | .bl _,.non=>true | .non,.str _=>true | .str _,.non=>true
 | .int _,.int _=>true | .bl _,.bl _=>true | .str _,.str _=>true | .byt _,.byt _=>true
 | .int _,.str _=>true | .str _,.int _=>true | .bl _,.str _=>true | .str _,.bl _=>true
 | _,_=>false
noncomputable def Ax:R2:=fun x y H Q=>wJ x y=true/\Q (.bl (decide (x=y))) H
noncomputable def Cf:R2:=fun x y H Q=>wJ x y=true/\Q (.bl (!decide (x=y))) H
theorem uP{i j:Int}:decide (V.int i=V.int j)=(i == j):=by
 rw [Bool.eq_iff_iff]
 simp
theorem z7{i j:Bool}:decide (V.bl i=V.bl j)=(i == j):=by
 rw [Bool.eq_iff_iff]
 simp
theorem vk{i j:Str}:decide (V.str i=V.str j)=(i == j):=by
 rw [Bool.eq_iff_iff]
 simp
theorem zA{i j:Array UInt8}:decide (V.byt i=V.byt j)=(i.toList == j.toList):=by
 rw [Bool.eq_iff_iff]
 cases i
 cases j
 simp
section
variable {X : Cx} {a b c : Expr} {ta tb tc : TE} {pos : Pos}
theorem i7{pins:List (Addr×Obj)}{σ:St}{H:Hp}{s:Shared}{Q:VK}{k k':Bool}(I:Inv X pins σ H s)(q:Q (.bl k) H)(e:k=k'):EP X pins σ Q (.bool k') s:=by
 subst e
 exact⟨.bl k,H,I,rfl,q⟩
theorem jD:jg X (compareOp .Eq) Ax:=by
 intro pins s σ H x y v u Q I rx J h
 obtain⟨U,q⟩:=h
 cases x with
 | non=>
  cases rx
  cases y with
  | non=>cases J;exact PySem.EqNone.eq_none_none (i7 I q (by simp))
  | bl j=>cases J;exact PySem.EqNone.eq_none_bool (i7 I q (by simp))
  | int j=>obtain⟨t',rfl⟩:=J;exact PySem.EqNone.eq_none_int (i7 I q (by simp))
  | str j=>obtain⟨t',rfl⟩:=J;exact PySem.EqNone.eq_none_str (i7 I q (by simp))
  | _=>exact absurd (show false=true from U) Bool.false_ne_true
 | bl i=>
  cases rx
  cases y with
  | non=>cases J;exact PySem.EqNone.eq_bool_none (i7 I q (by simp))
  | bl j=>cases J;exact eq_bool (i7 I q z7)
  | str j=>obtain⟨t',rfl⟩:=J;exact PySem.EqMixed.eq_bool_str (i7 I q (by simp))
  | _=>exact absurd (show false=true from U) Bool.false_ne_true
 | int i=>
  obtain⟨t,rfl⟩:=rx
  cases y with
  | non=>cases J;exact PySem.EqNone.eq_int_none (i7 I q (by simp))
  | int j=>obtain⟨t',rfl⟩:=J;exact eq_int (i7 I q uP)
  | str j=>obtain⟨t',rfl⟩:=J;exact PySem.EqMixed.eq_int_str (i7 I q (by simp))
  | _=>exact absurd (show false=true from U) Bool.false_ne_true
 | str i=>
  obtain⟨t,rfl⟩:=rx
  cases y with
  | non=>cases J;exact PySem.EqNone.eq_str_none (i7 I q (by simp))
  | bl j=>cases J;exact PySem.EqMixed.eq_str_bool (i7 I q (by simp))
  | int j=>obtain⟨t',rfl⟩:=J;exact PySem.EqMixed.eq_str_int (i7 I q (by simp))
  | str j=>obtain⟨t',rfl⟩:=J;exact eq_str (i7 I q vk)
  | _=>exact absurd (show false=true from U) Bool.false_ne_true
 | byt i=>
  obtain⟨t,rfl⟩:=rx
  cases y with
  | byt j=>obtain⟨t',rfl⟩:=J;exact W.eq_bytes (i7 I q zA)
  | _=>exact absurd (show false=true from U) Bool.false_ne_true
 | _=>cases y<;>exact absurd (show false=true from U) Bool.false_ne_true
theorem lh:jg X (compareOp .NotEq) Cf:=by
 intro pins s σ H x y v u Q I rx J h
 obtain⟨U,q⟩:=h
 cases x with
 | non=>
  cases rx
  cases y with
  | non=>cases J;exact PySem.EqNone.ne_none_none (i7 I q (by simp))
  | bl j=>cases J;exact PySem.EqNone.ne_none_bool (i7 I q (by simp))
  | int j=>obtain⟨t',rfl⟩:=J;exact PySem.EqNone.ne_none_int (i7 I q (by simp))
  | str j=>obtain⟨t',rfl⟩:=J;exact PySem.EqNone.ne_none_str (i7 I q (by simp))
  | _=>exact absurd (show false=true from U) Bool.false_ne_true
 | bl i=>
  cases rx
  cases y with
  | non=>cases J;exact PySem.EqNone.ne_bool_none (i7 I q (by simp))
  | bl j=>cases J;exact ne_bool (i7 I q (congrArg not z7))
  | str j=>obtain⟨t',rfl⟩:=J;exact PySem.EqMixed.ne_bool_str (i7 I q (by simp))
  | _=>exact absurd (show false=true from U) Bool.false_ne_true
 | int i=>
  obtain⟨t,rfl⟩:=rx
  cases y with
  | non=>cases J;exact PySem.EqNone.ne_int_none (i7 I q (by simp))
  | int j=>obtain⟨t',rfl⟩:=J;exact ne_int (i7 I q (congrArg not uP))
  | str j=>obtain⟨t',rfl⟩:=J;exact PySem.EqMixed.ne_int_str (i7 I q (by simp))
  | _=>exact absurd (show false=true from U) Bool.false_ne_true
 | str i=>
  obtain⟨t,rfl⟩:=rx
  cases y with
  | non=>cases J;exact PySem.EqNone.ne_str_none (i7 I q (by simp))
  | bl j=>cases J;exact PySem.EqMixed.ne_str_bool (i7 I q (by simp))
  | int j=>obtain⟨t',rfl⟩:=J;exact PySem.EqMixed.ne_str_int (i7 I q (by simp))
  | str j=>obtain⟨t',rfl⟩:=J;exact ne_str (i7 I q (congrArg not vk))
  | _=>exact absurd (show false=true from U) Bool.false_ne_true
 | byt i=>
  obtain⟨t,rfl⟩:=rx
  cases y with
  | byt j=>obtain⟨t',rfl⟩:=J;exact W.ne_bytes (i7 I q (congrArg not zA))
  | _=>exact absurd (show false=true from U) Bool.false_ne_true
 | _=>cases y<;>exact absurd (show false=true from U) Bool.false_ne_true
theorem lW:jg X (compareOp .Lt) (mP fun i j=> .bl (decide (i < j))):=rB fun _ _ _ _ _ _ _ q=>lt_int q
theorem zE:jg X (compareOp .LtE) (mP fun i j=> .bl (decide (i<=j))):=rB fun _ _ _ _ _ _ _ q=>le_int q
theorem ng:jg X (compareOp .Gt) (mP fun i j=> .bl (decide (j < i))):=rB fun _ _ _ _ _ _ _ q=>gt_int q
theorem yX:jg X (compareOp .GtE) (mP fun i j=> .bl (decide (j<=i))):=rB fun _ _ _ _ _ _ _ q=>ge_int q
theorem FF:jg X (compareOp .Lt) (fun x y H Q=>∃ i j,x= .str i/\y= .str j/\Q (.bl (decide (i.cps.toList < j.cps.toList))) H):=by
 intro pins s σ H x y v u Q I J U h
 obtain⟨i,j,rfl,rfl,q⟩:=h
 obtain⟨t,rfl⟩:=J
 obtain⟨t',rfl⟩:=U
 exact lt_str (i7 I q rfl)
theorem qZ:jg X (compareOp .In) (fun x y H Q=>∃ i j,x= .str i/\y= .str j/\Q (.bl (!(Builtin.Str.occurrences j i 0 j.length 1).isEmpty)) H):=by
 intro pins s σ H x y v u Q I J U h
 obtain⟨i,j,rfl,rfl,q⟩:=h
 obtain⟨t,rfl⟩:=J
 obtain⟨t',rfl⟩:=U
 exact in_str (i7 I q rfl)
theorem HG:jg X (compareOp .Is) (fun x y H Q=>y= .non/\Q (.bl (decide (x= .non))) H):=by
 intro pins s σ H x y v u Q I J U h
 obtain⟨rfl,q⟩:=h
 cases U
 refine is_none_gen (i7 I q ?_)
 cases x<;>first
  | (cases J;rfl)
  | (obtain⟨t,rfl⟩:=J;rfl)
theorem iy(b:Expr){op:CmpOp}(h:op≠ .In:=by decide)(h2:op≠ .NotIn:=by decide):behindInMarks op b=false:=by
 have J:(op == CmpOp.In)=false:=by cases op<;>first | rfl | exact absurd rfl h
 have U:(op == CmpOp.NotIn)=false:=by cases op<;>first | rfl | exact absurd rfl h2
 cases b<;>simp [behindInMarks,J,U]
theorem k9{op:CmpOp}{r:R2}(ho:jg X (compareOp op) r)(ha:PE X a ta)(hb:PE X b tb)(hm:behindInMarks op b=false):PE X (.Compare a [op] [b] pos) (q8 r ta tb):=by
 intro pins s σ H Q I h
 exact wpAny_Compare1 (tJ ha hb I h fun v u s2 x y H2 J U ry q=>ho pins s2 σ H2 x y v u Q J U ry q) hm
noncomputable def E8(t:TE):TT:=fun σ H Q=>t σ H fun x H'=>∃ k,x= .bl k/\Q k H'
theorem iq{op:CmpOp}{r:R2}(ho:jg X (compareOp op) r)(ha:PE X a ta)(hb:PE X b tb)(hm:behindInMarks op b=false):PT X (.Compare a [op] [b] pos) (E8 (q8 r ta tb)):=by
 intro pins s σ H Q I h
 refine wpAny_isTrue_Compare1 (ic (ha pins s σ H _ I h) fun v s1 ⟨x,H1,J,U,q1⟩=>ic (hb pins s1 σ H1 _ J q1) fun u s2 ⟨y,H2,I2,r2,q2⟩=>
  ic (ho pins s2 σ H2 x y v u _ I2 U r2 q2) fun c s3 ⟨z,H3,I3,r3,k,e,q3⟩=>?_) hm
 subst e
 cases r3
 exact wpAny_truthy_bool ⟨H3,I3,q3⟩
noncomputable def Fy(r r':R2)(ta tb tc:TE):TE:=fun σ H Q=>ta σ H fun x H1=>tb σ H1 fun y H2=>r x y H2 fun z J=>∃ k,z= .bl k/\
 (if k=true then tc σ J fun U H4=>r' y U H4 Q else Q (.bl false) J)
theorem Al{op op':CmpOp}{r r':R2}(ho:jg X (compareOp op) r)(ho':jg X (compareOp op') r')(ha:PE X a ta)(hb:PE X b tb)(hc:PE X c tc)
  (hm:lastMarks [op,op'] [b,c]=false:=by with_unfolding_all rfl):PE X (.Compare a [op,op'] [b,c] pos) (Fy r r' ta tb tc):=by
 intro pins s σ H Q I h
 refine Compare_chain (ic (ha pins s σ H _ I h) fun v s1 ⟨x,H1,I1,r1,q1⟩=>chain_link (ic (hb pins s1 σ H1 _ I1 q1) fun u s2 ⟨y,H2,I2,J,q2⟩=>
  ic (ho pins s2 σ H2 x y v u _ I2 r1 J q2) fun d s3 ⟨z,U,I3,r3,k,e,q3⟩=>?_)) hm
 subst e
 cases r3
 refine wpAny_truthy_bool ?_
 cases k with
 | false=>exact ite_ff ⟨.bl false,U,I3,rfl,q3⟩
 | true=>exact ite_tt (chain_last (ic (hc pins s3 σ U _ I3 q3) fun w' s4 ⟨z',H4,I4,r4,q4⟩=>ho' pins s4 σ H4 y z' u w' Q I4 J r4 q4))
theorem oA:(sizeLine:Nat) < 2 ^ 63:=by rw [sizeLine_eq];decide
theorem jF:jg X (binaryOp .Add) (fun x y H Q=>∃ i j,x= .str i/\y= .str j/\i.length + j.length<=sizeLine/\Q (.str (i++j)) H):=by
 intro pins s σ H x y v u Q I J U h
 obtain⟨i,j,rfl,rfl,hz,q⟩:=h
 obtain⟨t,rfl⟩:=J
 obtain⟨t',rfl⟩:=U
 exact add_str (fun t' tk=>⟨.str (i++j),H,I.tok _,⟨_,rfl⟩,q⟩) hz
theorem A8:jg X (inplaceOp .Add) (fun x y H Q=>∃ i j,x= .str i/\y= .str j/\i.length + j.length<=sizeLine/\Q (.str (i++j)) H):=by
 intro pins s σ H x y v u Q I J U h
 obtain⟨i,j,rfl,rfl,hz,q⟩:=h
 obtain⟨t,rfl⟩:=J
 obtain⟨t',rfl⟩:=U
 exact iadd_str (fun t' tk=>⟨.str (i++j),H,I.tok _,⟨_,rfl⟩,q⟩) hz
theorem vals1{x:V}{us:List Value}(r:Vals [x] us):∃ u,us=[u]/\RelV x u:=by
 cases r with
 | cons J U=>cases U;exact⟨_,rfl,J⟩
theorem vals2{x y:V}{us:List Value}(r:Vals [x,y] us):∃ u w',us=[u,w']/\RelV x u/\RelV y w':=by
 cases r with
 | cons J U=>
  cases U with
  | cons r3 r4=>cases r4;exact⟨_,_,rfl,J,r3⟩
theorem oP:kQ X (.type "int") (fun xs H Q=>(∃ i,xs=[.int i]/\Q (.int i) H)\/∃ k,xs=[.bl k]/\Q (.int (if k then 1 else 0)) H):=by
 intro pins s σ H xs us Q I r h
 rcases h with ⟨i,rfl,q⟩ | ⟨k,rfl,q⟩
 ·obtain⟨u,rfl,t,rfl⟩:=vals1 r
  exact call_int_int ⟨.int i,H,I,⟨_,rfl⟩,q⟩
 ·obtain⟨u,rfl,J⟩:=vals1 r
  cases J
  exact call_int_bool ⟨.int (if k then 1 else 0),H,I.tok _,⟨_,rfl⟩,q⟩
theorem FZ:kQ X (.builtin "ord") (fun xs H Q=>∃ x,xs=[.str x]/\x.length=1/\Q (.int (x.cps.getD 0 0:Nat)) H):=by
 intro pins s σ H xs us Q I r h
 obtain⟨x,rfl,hz,q⟩:=h
 obtain⟨u,rfl,t,rfl⟩:=vals1 r
 exact ord_of_one hz ⟨.int _,H,I.tok _,⟨_,rfl⟩,q⟩
end
structure uy (h : Heap) (x dx C : Addr) (mA : Str -> Option Value) : Prop where
 obj : h.get? x = some (W.instObj C dx)
 ns : h.Ns1 dx mA
 ne : dx ≠ x
theorem Ba{h:Heap}{dx:Addr}{mA:Str->Option Value}(n:h.Ns1 dx mA):∃ od,h.get? dx=some od/\∀ name,W.lookIn name od=some (mA name):=by
 obtain⟨o,es,ep,U,hd,hk,_,hm⟩:=n
 refine⟨o,U,fun name=>?_⟩
 have e:=hm name
 unfold nsFind findBy at e
 rw [<-Array.find?_toList] at e
 unfold W.lookIn
 rw [hd]
 dsimp only
 split
 ·rename_i y q
  rw [q] at e
  exact congrArg some e
 ·rename_i q
  rw [q] at e
  have a:es.toList.any (·.refKey)=false:=by
   rw [List.any_eq_false]
   intro y hy
   obtain⟨z,t,J⟩:=hk y (Array.mem_toList_iff.mp hy)
   simp [DictEntry.refKey,J]
  have a':¬ es.toList.any (·.refKey)=true:=by rw [a];exact Bool.false_ne_true
  rw [if_neg a']
  exact congrArg some e
theorem uy.look {h:Heap}{x dx C:Addr}{mA:Str->Option Value}(I:uy h x dx C mA):∃ od,W.InstAt h x (W.instObj C dx) C (some od)/\∀ name,W.lookIn name od=some (mA name):=
 let ⟨od,ho,hl⟩:=Ba I.ns
 ⟨od,⟨I.obj,rfl,rfl,ho⟩,hl⟩
section
variable {prog : Program} {w : World} {A : Around} {E : Value -> Shared -> Prop} {s : Shared} {K : PySem.W.Frag} {x dx C f : Addr} {mA : Str -> Option Value} {name : Str} {v : Value}
end
section
variable {P : Program} {w : World} {H H' : Hp} {h h' : Heap} {a C dx : Addr} {fs fs' : List (Str × V)}
theorem BR(hok:i8 P w H h)(e:H a=some (.ins C dx fs)):∃ mA,uy h a dx C mA/\(∀ f,nL (fs.lookup f) (mA f))/\PySem.Within mA (fs.map (·.1))/\fs.length<=1000/\H dx=some (.own a):=by
 obtain⟨d,z,ne,J,mA,n,r,q⟩:=(show jc P w H h a (.ins C dx fs) from hok a _ e)
 exact⟨mA,⟨J,n,ne⟩,r,q,z,d⟩
end
structure uM (K : W.Frag) (C : Addr) : Prop where
 pg : W.plainGet K C Str.empty = true
 hd : W.hasDictIn K C = true
 po : W.plainOver K C = true
 sa : W.findIn K (.ref C) "__setattr__" = some (some (.builtin "object.__setattr__"))
theorem uM.get {K:W.Frag}{C:Addr}(c:uM K C)(f:Str):W.plainGet K C f=true:=c.pg
section
variable {X : Cx} {pins : List (Addr × Obj)} {σ : St} {H : Hp} {s : Shared} {a C dx : Addr} {fs : List (Str × V)} {f : Str} {v : V} {A : Around} {E : Value -> Shared -> Prop}
end
section
variable {X : Cx} {o e value : Expr} {f : Str} {pos pos' tpos : Pos} {ta tv : TE}
end
section
variable {X : Cx} {pins : List (Addr × Obj)} {σ : St} {H : Hp} {s : Shared} {A : Around} {E : Value -> Shared -> Prop} {Q : Value -> Shared -> Prop} {c : Value} {b : Bool}
inductive jQ (K : W.Frag) (H : Hp) : V -> Value -> Prop where
 | non : jQ K H .non (.type "NoneType")
 | bl (x : Bool) : jQ K H (.bl x) (.type "bool")
 | int (i : Int) : jQ K H (.int i) (.type "int")
 | str (x : Str) : jQ K H (.str x) (.type "str")
 | flt (x : UInt64) : jQ K H (.flt x) (.type "float")
 | lst {a : Addr} {xs : List V} (e : H a = some (.lst xs)) : jQ K H (.ref a) (.type "list")
 | frz {a : Addr} {o : Obj} {xs : List V} (e : H a = some (.frz o (.lst xs))) : jQ K H (.ref a) (.type "list")
 | tup {a : Addr} {xs : List V} (e : H a = some (.tup xs)) : jQ K H (.ref a) (.type "tuple")
 | dK {a : Addr} {kvs : List (Key × V)} (e : H a = some (.dK kvs)) : jQ K H (.ref a) (.type "dict")
 | dT {a : Addr} {kvs : List (List Key × V)} (e : H a = some (.dT kvs)) : jQ K H (.ref a) (.type "dict")
 | ins {a C dx : Addr} {fs : List (Str × V)} (e : H a = some (.ins C dx fs)) (cl : uM K C) (ha : W.findIn K (.ref C) "__class__" = some (some (.builtin "object.__class__")))
   (hn : W.specialIn K (.builtin "object.__class__") "__get__" = some (some (.builtin "getset_descriptor.__get__"))) (htk : W.takesIn K (.builtin "object.__class__") = some true)
   (hm : W.mroIn K C (.type "object") = some true) : jQ K H (.ref a) (.ref C)
theorem xb{x:V}{u t:Value}(I:Inv X pins σ H s)(rx:RelV x u)(ty:jQ X.K H x t)(e:W.kitOne X.K t c=some b)(h:∀ tk,Q (.bool b) {s with toks:=tk}):
  wpAny (model X.prog X.w) A (call (.builtin "isinstance") [u,c]) Q E s:=by
 cases ty with
 | non=>cases (show u=Value.none from rx);exact W.kia_one W.kitx_none I.kIn True.intro e (fun z=>nomatch z) h
 | bl y=>cases (show u=Value.bool y from rx);exact W.kia_one W.kitx_bool I.kIn True.intro e (fun z=>nomatch z) h
 | int i=>obtain⟨t,q⟩:=(show ∃ t,u=Value.int i t from rx);cases q;exact W.kia_one W.kitx_int I.kIn True.intro e (fun z=>nomatch z) h
 | str y=>obtain⟨t,q⟩:=(show ∃ t,u=Value.str y t from rx);cases q;exact W.kia_one W.kitx_str I.kIn True.intro e (fun z=>nomatch z) h
 | flt y=>obtain⟨t,q⟩:=(show ∃ t,u=Value.float y t from rx);cases q;exact W.kia_one W.kitx_float I.kIn True.intro e (fun z=>nomatch z) h
 | @lst a xs ea=>
  cases (show u=Value.ref a from rx)
  obtain⟨_,_,n,_,h1⟩:=(show jc X.prog X.w H s.heap a (.lst xs) from I.hok a _ ea)
  exact W.kia_one W.kitx_list I.kIn ⟨_,h1,rfl⟩ e (fun z=>nomatch z) h
 | @frz a U xs ea=>
  cases (show u=Value.ref a from rx)
  obtain⟨_,_,_,n,_,h1⟩:=(show jc X.prog X.w H s.heap a (.frz U (.lst xs)) from I.hok a _ ea)
  exact W.kia_one W.kitx_list I.kIn ⟨_,h1,rfl⟩ e (fun z=>nomatch z) h
 | @tup a xs ea=>
  cases (show u=Value.ref a from rx)
  obtain⟨_,_,_,p⟩:=(show jc X.prog X.w H s.heap a (.tup xs) from I.hok a _ ea)
  obtain⟨o,h1,h2,_⟩:=p
  exact W.kia_one W.kitx_tuple I.kIn ⟨o,h1,h2⟩ e (fun z=>nomatch z) h
 | @dK a kvs ea=>
  cases (show u=Value.ref a from rx)
  obtain⟨_,_,vs,_,p⟩:=(show jc X.prog X.w H s.heap a (.dK kvs) from I.hok a _ ea)
  obtain⟨o,es,ep,h1,h2,_⟩:=p
  exact W.kia_one W.kitx_dict I.kIn ⟨o,h1,h2.1⟩ e (fun z=>nomatch z) h
 | @dT a kvs ea=>
  cases (show u=Value.ref a from rx)
  obtain⟨_,_,xs,_,o,es,ep,h1,h2,_⟩:=(show jc X.prog X.w H s.heap a (.dT kvs) from I.hok a _ ea)
  exact W.kia_one W.kitx_dict I.kIn ⟨o,h1,h2.1⟩ e (fun z=>nomatch z) h
 | @ins a C dx fs ea cl ha hn htk hm=>
  cases (show u=Value.ref a from rx)
  obtain⟨mA,O,_⟩:=BR I.hok ea
  obtain⟨od,J,_⟩:=O.look
  exact W.kia_one (W.kitx_own (cl.get _) cl.hd ha hn htk hm) I.kIn J e (fun z=>nomatch z) h
end
structure jE (k : Nat) (A : Around) : Prop where
 hd : A.handled = none
 dp : A.depth + 3 * k + 5 < recursionLimit
 un : A.units + 16 * k + 200 < cLine
theorem jE.mono {j k:Nat}{A:Around}(r:jE k A)(h:j<=k):jE j A:=⟨r.hd,by have:=r.dp;omega,by have:=r.un;omega⟩
theorem jE.deeper {k:Nat}{A:Around}(r:jE (k + 1) A)(env:Env):jE k (A.deeper env):=
 ⟨r.hd,by have:=r.dp;show A.depth + 1 + 3 * k + 5 < _;omega,by have:=r.un;show A.units + 3 + 16 * k + 200 < _;omega⟩
theorem jE.depth {k:Nat}{A:Around}(r:jE k A):A.depth < recursionLimit:=by have:=r.dp;omega
noncomputable def rh:TA:=fun _ H Q=>Q [] H
noncomputable def qh(ta:TE)(tr:TA):TA:=fun σ H Q=>ta σ H fun x H1=>tr σ H1 fun xs H2=>Q (x::xs) H2
section
variable {X : Cx} {e : Expr} {es : List Expr} {te : TE} {t : TA} {pos : Pos}
theorem gP:PA X [] rh:=fun _ _ _ _ H Q I h=>Calls.spliced_nil ⟨[],H,I,.nil,h⟩
theorem gN(ha:PE X e te)(hr:PA X es t)(hs:starEach (e::es) X.env=(false,eval e X.env)::starEach es X.env:=by rfl):PA X (e::es) (qh te t):=by
 intro pos pins s σ H Q I h
 rw [hs]
 show wpAny _ _ (spliced ((false,eval e X.env)::backTo pos (starEach es X.env))) _ _ s
 refine Calls.spliced_cons (ic (ha pins s σ H _ I h) fun u s1 ⟨x,H1,J,U,q1⟩=>?_)
 exact ic (hr pos pins s1 σ H1 _ J q1) fun us s2 ⟨xs,H2,I2,r2,q2⟩=>⟨x::xs,H2,I2,.cons U r2,q2⟩
noncomputable def zc(t:TA):TE:=fun σ H Q=>t σ H fun xs H1=>xs.length<=sizeLine/\∀ p,H1 p=none->Q (.ref p) (upd H1 p (.tup xs))
noncomputable def FK(t:TA):TE:=fun σ H Q=>t σ H fun xs H1=>xs.length<=sizeLine/\∀ p,H1 p=none->Q (.ref p) (upd H1 p (.lst xs))
theorem ja{x1}(h:PA X es t):PE X (.Tuple es x1 pos) (zc t):=by
 intro pins s σ H Q I U
 refine wpAny_Tuple_spliced (ic (h pos pins s σ H _ I U) fun us s1 ⟨xs,H1,J,r,z,q⟩=>⟨by rw [<-r.length];exact z,?_⟩)
 have hf:H1 s1.heap.objs.size=none:=J.hok.fresh (Nat.le_refl _)
 refine⟨.ref s1.heap.objs.size,upd H1 s1.heap.objs.size (.tup xs),J.laid (t':=s1.toks) (fun b u e=>Heap.get?_push_of_some _ e) (Nat.le_refl _) ?_,rfl,q _ hf⟩
 exact⟨z,us,r,⟨_,Heap.get?_push_size _ rfl,rfl,_,rfl⟩⟩
theorem iK(h:PA X es t):PE X (.List es pos) (FK t):=by
 intro pins s σ H Q I U
 refine wpAny_List_spliced (ic (h pos pins s σ H _ I U) fun us s1 ⟨xs,H1,J,r,z,q⟩=>⟨by rw [<-r.length];exact z,?_⟩)
 have hf:H1 s1.heap.objs.size=none:=J.hok.fresh (Nat.le_refl _)
 refine⟨.ref s1.heap.objs.size,upd H1 s1.heap.objs.size (.lst xs),J.laid (t':=s1.toks) (fun b u e=>Heap.get?_push_of_some _ e) (Nat.le_refl _) ?_,rfl,q _ hf⟩
 exact⟨z,us,0,r,Heap.get?_push_size _ rfl⟩
end
noncomputable abbrev Sp:=List V->Hp->VK->XK->Prop
noncomputable abbrev j9:=List Env->Hp->Shared->XK->Value->Shared->Prop
structure oD (P : Program) (w : World) (K : W.Frag) (mg : Str -> Option Value) (base : Heap) (A : Around) (outer : List Env) (s : Shared) (H : Hp) : Prop where
 frames : A.frames = some outer
 mod : Mod K mg base
 bs : ∀ b o, base.get? b = some o -> s.heap.get? b = some o /\ H b = none
 bsz : base.objs.size <= s.heap.objs.size
 funs : s.heap.FunFrames base outer
 frf : ∀ b ∈ iF outer, H b = none
 hok : i8 P w H s.heap
 bare : AllBare s.gens
noncomputable def CE(outer:List Env)(P:Program)(w:World)(H:Hp)(s:Shared)(Q:VK)(u:Value)(s':Shared):Prop:=
 ∃ v H',s'.os=s.os/\AllBare s'.gens/\Un (iF outer) [] H H' s.heap s'.heap/\i8 P w H' s'.heap/\RelV v u/\Q v H'
noncomputable def CR(CX:j9)(outer:List Env)(P:Program)(w:World)(H:Hp)(s:Shared)(Q:VK)(E:XK)(r:Result)(s':Shared):Prop:=
 match r with
 | .ok (.ret u)=>CE outer P w H s Q u s'
 | .ok _=>False
 | .error e=>CX outer H s E e s'
structure hZ (P : Program) (w : World) (K : W.Frag) (mg : Str -> Option Value) (base : Heap) (CX : j9) (k : Nat) (f : Addr) (fd : FuncData) (ps : List Str) (sp : Sp) : Prop where
 len : ∀ vs H Q E, sp vs H Q E -> vs.length = ps.length
 run : ∀ (A : Around) (outer : List Env) (s : Shared) (H : Hp) (args : Args) (us : List Value) (vs : List V) (Q : VK) (E : XK), jE k A -> oD P w K mg base A outer s H -> BindsTo s fd args (ps.zip us) -> Vals vs us -> sp vs H Q E ->
  codeAny (model P w) A (.call (.ref f) args) (CR CX outer P w H s Q E) s
theorem hZ.mono {P:Program}{w:World}{K:W.Frag}{mg:Str->Option Value}{base:Heap}{CX:j9}{j k:Nat}{f:Addr}{fd:FuncData}{ps:List Str}{sp:Sp}(F:hZ P w K mg base CX j f fd ps sp)(h:j<=k):
  hZ P w K mg base CX k f fd ps sp:=⟨F.len,fun A outer s H args us vs Q E J=>F.run A outer s H args us vs Q E (J.mono h)⟩
section
variable {X : Cx} {pins : List (Addr × Obj)} {σ : St} {H : Hp} {s s' : Shared}
theorem Inv.env0 (I:Inv X pins σ H s):oD X.prog X.w X.K X.mg X.base X.A X.stack s H:=
 ⟨I.ok.frames,I.ok.mod,I.bs,Nat.le_trans I.ok.bsz I.sz,I.stack,I.stkFree,I.hok,I.bare⟩
theorem Inv.after {Q:VK}{u:Value}(I:Inv X pins σ H s)(h:CE X.stack X.prog X.w H s Q u s'):EP X pins σ Q u s':=by
 obtain⟨v,H',os,bare,un,hok,r,q⟩:=h
 obtain⟨U,g,d,t,J⟩:=s'
 obtain rfl:J=s.os:=os
 exact⟨v,H',I.call (h':=U) (g':=g) (d':=d) (t':=t) (ch:=[]) un hok bare (fun b z=>absurd z (by simp)),r,q⟩
end
noncomputable def BM(sp:Sp)(dvs:List V)(E:XK)(t:TA):TE:=fun σ H Q=>t σ H fun vs H1=>sp (vs++dvs) H1 Q E
noncomputable def Binds(K:W.Frag)(fd:FuncData)(ps:List Str)(ds:List Value):Prop:=
 ∀(s:Shared) (us:List Value),K.In s.heap->(us++ds).length=ps.length->BindsTo s fd ⟨us,[]⟩ (ps.zip (us++ds))
theorem Binds.all {K:W.Frag}{fd:FuncData}{ps:List Str}(h:∀ us:List Value,us.length=ps.length->bindArgs fd ⟨us,[]⟩=pure (ps.zip us)):Binds K fd ps []:=fun s us _ J=>by
 rw [List.append_nil] at J ⊢
 exact .of_eq (h us J)
noncomputable def Passes(CX:j9)(X:Cx)(E:XK):Prop:=∀(pins:List (Addr×Obj)) (σ:St) (H:Hp) (s:Shared) (e:Value) (s':Shared),Inv X pins σ H s->CX X.stack H s E e s'->X.xe e s'
section
variable {X : Cx} {CX : j9} {k : Nat} {f C : Addr} {fd : FuncData} {ps : List Str} {sp : Sp} {dvs : List V} {ds : List Value} {E : XK} {x m : Str} {p pos apos : Pos} {e o : Expr} {es : List Expr} {ta : TE} {t : TA}
theorem Hu{pins:List (Addr×Obj)}{σ:St}{H:Hp}{s:Shared}{Q:VK}{us:List Value}{vs:List V}(F:hZ X.prog X.w X.K X.mg X.base CX k f fd ps sp)(hr:jE k X.A)(hb:Binds X.K fd ps ds)(hd:Vals dvs ds)(hx:Passes CX X E)
  (I:Inv X pins σ H s)(r:Vals vs us)(h:sp (vs++dvs) H Q E):wpAny (model X.prog X.w) X.A (call (.ref f) us) (EP X pins σ Q) X.xe s:=by
 have U:Vals (vs++dvs) (us++ds):=r.append hd
 have hl:(us++ds).length=ps.length:=by rw [<-U.length];exact F.len _ _ _ _ h
 refine wpAny_call (codeAny_mono (F.run X.A X.stack s H ⟨us,[]⟩ (us++ds) (vs++dvs) Q E hr I.env0 (hb s us I.kIn hl) U h) fun r s' J=>?_)
 cases r with
 | error e=>exact hx pins σ H s e s' I J
 | ok fl=>
  cases fl with
  | ret u=>exact I.after J
  | next=>exact False.elim J
  | brk=>exact False.elim J
  | cont=>exact False.elim J
theorem iE(F:hZ X.prog X.w X.K X.mg X.base CX k f fd ps sp)(hr:jE k X.A)(hg:Gl X x)(hm:X.mg x=some (.ref f))(hk:W.keepIn X.K (.ref f)=true)(hb:Binds X.K fd ps ds)(hd:Vals dvs ds)(hx:Passes CX X E)
  (ha:PA X (e::es) t)(hdb:(x == ("__debug__":Str))=false:=by decide)(he:starEach (e::es) X.env=(false,eval e X.env)::starEach es X.env:=by rfl)(hpl:(backTo pos (starEach es X.env)).any (·.1)=false:=by rfl):
  PE X (.Call (.Name x p) (e::es) [] pos) (BM sp dvs E t):=by
 intro pins s σ H Q I h
 refine wpAny_Call_Name_kw (lT I hg hm ?_ hdb)
 refine W.callWith_K (h₀:=X.base) I.ok.mod.kin hk (ic (ha pos pins s σ H _ I h) fun us s1 ⟨vs,H1,J,r,q⟩=>⟨J.kIn,?_⟩) he hpl
 exact Hu F hr hb hd hx J r q
end
section
variable {X : Cx} {CX : j9} {k : Nat} {f C : Addr} {fd : FuncData} {ps ks : List Str} {sp : Sp} {E : XK} {x m : Str} {p pos apos kpos : Pos} {e o : Expr} {es : List Expr} {kws : List Keyword} {te ta : TE} {t tk : TA} {nm : Option Str}
variable {g : List Value -> List Value -> List Value} {gV : List V -> List V -> List V}
end
structure iU (N P : List Str) (sc : Scope) : Prop where
 kind : sc.kind = .function
 co : sc.isCoroutine = false
 gen : sc.isGenerator = false
 nd : N.Nodup
 pre : N.take P.length = P
 par : ∀ x ∈ P, sc.names.lookup x = some .local \/ sc.names.lookup x = some .cell
 nofree : ∀ y ∈ sc.names, y.2 ≠ .free
theorem Af{kindOf:Str->Option NameKind}{x:Str}:∀{binds:List (Str×Value)} {m:Str->Option Value},(∀ v,(x,v)∉binds)->bindL kindOf binds m x=m x
 | [],_,_=>rfl
 | (n,v)::r,m,h=>by
  unfold bindL
  rw [Af fun w hw=>h w (List.mem_cons_of_mem _ hw)]
  split
  ·have:x≠n:=by rintro rfl;exact h v List.mem_cons_self
   simp [this]
  ·rfl
theorem xq{kindOf:Str->Option NameKind}{x:Str}:∀{binds:List (Str×Value)} {m:Str->Option Value},(∀ v,(x,v)∉binds)->bindC kindOf binds m x=m x
 | [],_,_=>rfl
 | (n,v)::r,m,h=>by
  unfold bindC
  rw [xq fun w hw=>h w (List.mem_cons_of_mem _ hw)]
  split
  ·rfl
  ·have:x≠n:=by rintro rfl;exact h v List.mem_cons_self
   simp [this]
theorem yH{kindOf:Str->Option NameKind}{x:Str}{v:Value}:∀{P:List Str} {vs:List Value} {i:Nat} {m:Str->Option Value},P.Nodup->P[i]? =some x->vs[i]? =some v->kindOf x=some .local->
  bindL kindOf (P.zip vs) m x=some v
 | [],_,_,_,_,h,_,_=>by simp at h
 | _::_,[],_,_,_,_,h,_=>by simp at h
 | p::P,w::vs,0,m,nd,h1,h2,hk=>by
  simp at h1 h2;subst h1;subst h2
  show bindL kindOf ((p,w)::P.zip vs) m p=_
  unfold bindL
  rw [Af fun v J=>(List.nodup_cons.mp nd).1 (List.of_mem_zip J).1,if_pos hk]
  simp
 | p::P,w::vs,i + 1,m,nd,h1,h2,hk=>by
  show bindL kindOf ((p,w)::P.zip vs) m x=_
  unfold bindL
  exact yH (i:=i) (List.nodup_cons.mp nd).2 (by simpa using h1) (by simpa using h2) hk
theorem za{kindOf:Str->Option NameKind}{x:Str}{v:Value}:∀{P:List Str} {vs:List Value} {i:Nat} {m:Str->Option Value},P.Nodup->P[i]? =some x->vs[i]? =some v->kindOf x≠some .local->
  bindC kindOf (P.zip vs) m x=some v
 | [],_,_,_,_,h,_,_=>by simp at h
 | _::_,[],_,_,_,_,h,_=>by simp at h
 | p::P,w::vs,0,m,nd,h1,h2,hk=>by
  simp at h1 h2;subst h1;subst h2
  show bindC kindOf ((p,w)::P.zip vs) m p=_
  unfold bindC
  rw [xq fun v J=>(List.nodup_cons.mp nd).1 (List.of_mem_zip J).1,if_neg hk]
  simp
 | p::P,w::vs,i + 1,m,nd,h1,h2,hk=>by
  show bindC kindOf ((p,w)::P.zip vs) m x=_
  unfold bindC
  exact za (i:=i) (List.nodup_cons.mp nd).2 (by simpa using h1) (by simpa using h2) hk
noncomputable def start(N:List Str)(vs:List V):St:=vs.map some++List.replicate (N.length - vs.length) none
noncomputable def iP(CX:j9)(P:Program)(w:World)(K:W.Frag)(mg:Str->Option Value)(base:Heap)(N:List Str)(qual:Str)(scope:Scope)(f:Addr)(cd:Value)(A:Around)(outer:List Env)(s:Shared)(H:Hp)(E:XK):Cx where
 prog:=P
 w:=w
 K:=K
 mg:=mg
 base:=base
 A:=A.deeper (envOfC qual scope s.heap.objs.size f cd)
 N:=N
 s₀:=s
 H₀:=H
 env:=envOfC qual scope s.heap.objs.size f cd
 outer:=outer
 stack:=envOfC qual scope s.heap.objs.size f cd::outer
 ex:=[]
 calm:=true
 fn:=fun _=>true
 pn:=[]
 xe:=fun e s'=>wpAny (model P w) (A.deeper (envOfC qual scope s.heap.objs.size f cd)) (leaving (envOfC qual scope s.heap.objs.size f cd) e) (fun _ J=>CX outer H s E e J) (fun U J=>CX outer H s E U J) s'
theorem xi{sc:Scope}{n:Nat}{x:Str}(h:sc.names.lookup x=some .cell):∃ c,(cellsFrom n sc.names []).lookup x=some c:=by
 have q:=W.cellsFrom_some sc.names n [] (.inl h)
 exact Option.isSome_iff_exists.mp q
theorem zz{CX:j9}{P:Program}{w:World}{K:W.Frag}{mg:Str->Option Value}{base:Heap}{N ps:List Str}{qual:Str}{scope:Scope}{f:Addr}{cd:Value}{A:Around}{outer:List Env}{s s1:Shared}{H:Hp}{E:XK}{us:List Value}{vs:List V}
  (S:iU N ps scope)(hd:A.handled=none)(e0:oD P w K mg base A outer s H)(hl:vs.length=ps.length)(r:Vals vs us)
  (x:InCallC s s.heap.objs.size (bindL (envOfC qual scope s.heap.objs.size f cd).kindOf (ps.zip us) fun _=>none) (cellsFrom (s.heap.objs.size + 1) scope.names []) (bindC (envOfC qual scope s.heap.objs.size f cd).kindOf (ps.zip us) fun _=>none) s1):
  Inv (iP CX P w K mg base N qual scope f cd A outer s H E) [] (start N vs) H s1:=by
 have ae:ps.length<=N.length:=by have:=congrArg List.length S.pre;rw [List.length_take] at this;omega
 obtain⟨h1,tk,rfl,hk⟩:=x.done
 have J:∀ b:Addr,b∉(iP CX P w K mg base N qual scope f cd A outer s H E).ex:=fun b z=>absurd (show b∈([]:List Addr) from z) (by simp)
 refine⟨⟨e0.mod,S.kind,rfl,rfl,Nat.le_refl _,fun y z c h1 h2=>?_,fun y hy=>?_,fun y c _ h=>?_,fun _=>hd,Around.frames_deeper e0.frames,.inr ⟨rfl,rfl⟩,fun b z=>absurd z (J b),e0.bs,e0.bsz,fun b _ _=>J b,fun b z=>absurd z (J b),e0.funs,e0.frf⟩,
  rfl,e0.bare,Un.kept hk,⟨_,x.toInCall.ns,fun i y v h1 h2 h3=>?_⟩,fun y c h=>⟨_,x.cell y c h⟩,e0.hok.fresh (Nat.le_refl _),fun y c h=>?_,fun p U=>absurd (show p∈([]:List (Addr×Obj)) from U) (by simp),e0.hok.kept hk,?_⟩
 ·exact name_of_addr x.apart (PySem.mem_of_lookup h1) (PySem.mem_of_lookup h2)
 ·have hy:scope.names.lookup y=some .cell\/scope.names.lookup y=some .free:=hy
  rcases hy with hy | hy
  ·exact xi hy
  ·exact absurd rfl (S.nofree _ (PySem.mem_of_lookup hy))
 ·exact Nat.le_of_lt (x.above y c (PySem.mem_of_lookup h))
 ·have hi:i < vs.length:=by
   unfold start at h2
   by_cases hi:i < vs.length
   ·exact hi
   ·rw [List.getElem?_append_right (by simpa using hi)] at h2
    rw [List.getElem?_replicate] at h2
    split at h2<;>cases h2
  have ha:vs[i]? =some v:=by
   unfold start at h2
   rw [List.getElem?_append_left (by simpa using hi),List.getElem?_map] at h2
   cases e:vs[i]? with
   | none=>rw [e] at h2;cases h2
   | some a=>rw [e] at h2;cases h2;rfl
  obtain⟨u,hu,rv⟩:=r.get ha
  have U:ps[i]? =some y:=by
   rw [<-S.pre,List.getElem?_take_of_lt (by omega)];exact h1
  have aa:ps.Nodup:=by rw [<-S.pre];exact S.nd.sublist (List.take_sublist _ _)
  refine⟨u,rv,?_⟩
  rcases S.par y (List.mem_of_getElem? U) with k | k
  ·exact .inl ⟨k,yH aa U hu k⟩
  ·obtain⟨c,e⟩:=xi (n:=s.heap.objs.size + 1) k
   refine .inr ⟨.inl k,c,e,?_⟩
   have q:=x.cell y c e
   rw [za aa U hu (by show scope.names.lookup y≠_;rw [k];decide)] at q
   exact q
 ·exact e0.hok.fresh (Nat.le_of_lt (x.above y c (PySem.mem_of_lookup h)))
 ·unfold start
  show _=N.length
  rw [List.length_append,List.length_map,List.length_replicate]
  omega
theorem tH{CX:j9}{P:Program}{w:World}{K:W.Frag}{mg:Str->Option Value}{base:Heap}{k:Nat}{f:Addr}{name qual:Str}{params:Arguments}{body:List Stmt}{scope:Scope}{dV kV doc pm cdv ct oc:Value}{an od:Option Addr}
  {osl:Array (Option Value)}{N ps:List Str}{sp:Sp}(lk:K.lookup f=some ⟨oc,od,.func (W.fnOf name qual params body scope dV kV doc pm an cdv ct),osl⟩)(hcd:W.codeIn K cdv qual=true)(S:iU N ps scope)
  (len:∀ vs H Q E,sp vs H Q E->vs.length=ps.length)
  (hbody:∀(A:Around) (outer:List Env) (s:Shared) (H:Hp) (vs:List V) (Q:VK) (E:XK),jE k (A.deeper (envOfC qual scope s.heap.objs.size f cdv))->sp vs H Q E->
   ∃ t,iD (iP CX P w K mg base N qual scope f cdv A outer s H E) body t/\t {nx:=fun _ H'=>Q .non H',rt:=Q} (start N vs) H):
  hZ P w K mg base CX (k + 1) f (W.fnOf name qual params body scope dV kV doc pm an cdv ct) ps sp:=by
 refine⟨len,fun A outer s H args us vs Q E hr e0 hb r ae=>?_⟩
 have hl:=len _ _ _ _ ae
 have KX:K.In s.heap:=e0.mod.kin.keeps fun b o e=>(e0.bs b o e).1
 have lim:s.heap.NoLimit:=e0.mod.nolimit.keeps fun b o e=>(e0.bs b o e).1
 have aa:∀ y∈ps.zip us,scope.names.lookup y.1=some .local\/(scope.names.lookup y.1=some .cell/\((cellsFrom (s.heap.objs.size + 1) scope.names []).lookup y.1).isSome=true):=fun⟨n,v⟩ hy=>by
  rcases S.par n (List.of_mem_zip hy).1 with q | q
  ·exact .inl q
  ·exact .inr ⟨q,W.cellsFrom_some _ _ _ (.inl q)⟩
 refine codeAny_call_function hr.depth (KX _ _ lk) rfl S.co S.gen rfl (W.codeRec_of KX hcd) (hb _ _ _ _ ?_)
 refine wpAny_newFunctionEnv_cells S.kind aa fun env he s1 x=>?_
 subst he
 refine⟨lim.keeps x.toInCall.keep,codeAny_func ?_⟩
 obtain⟨t,ht,hq⟩:=hbody A outer s H vs Q E (hr.deeper _) ae
 have I:Inv (iP CX P w K mg base N qual scope f cdv A outer s H E) [] (start N vs) H s1:=zz S hr.hd e0 hl r x
 refine wpAny_mono (ht [] s1 (start N vs) H _ I hq) (fun fl s' hs=>?_) fun e s' hs=>hs
 have fin:∀{U:St} {H':Hp} {v:V} {u:Value},Inv (iP CX P w K mg base N qual scope f cdv A outer s H E) [] U H' s'->RelV v u->Q v H'->CE outer P w H s Q u s':=
  fun{U H' v u} J rv q=>⟨v,H',J.os,J.bare,J.base,J.hok,rv,q⟩
 cases fl with
 | ret u=>
  obtain⟨v,U,H',J,rv,q⟩:=hs
  exact fin J rv q
 | next=>
  obtain⟨U,H',J,q⟩:=hs
  exact fin (v:=V.non) (u:=Value.none) J rfl q
 | brk=>
  obtain⟨_,_,_,q⟩:=hs
  exact False.elim q
 | cont=>
  obtain⟨_,_,_,q⟩:=hs
  exact False.elim q
section
variable {X : Cx} {x : Str} {p pos : Pos} {e : Expr} {es : List Expr} {t : TA} {id T : String} {r : List V -> Hp -> VK -> Prop}
noncomputable def xI(r:List V->Hp->VK->Prop)(t:TA):TE:=fun σ H Q=>t σ H fun vs H1=>r vs H1 Q
theorem ir(hc:kQ X (.builtin id) r)(hg:Gl X x)(hm:X.mg x=none)(hv:bootBuiltins x=some (.builtin id))(ha:PA X (e::es) t)(hn:x≠"__name__":=by decide)(hdb:(x == ("__debug__":Str))=false:=by decide)
  (he:starEach (e::es) X.env=(false,eval e X.env)::starEach es X.env:=by rfl)(hpl:(backTo pos (starEach es X.env)).any (·.1)=false:=by rfl):PE X (.Call (.Name x p) (e::es) [] pos) (xI r t):=by
 intro pins s σ H Q I h
 refine wpAny_Call_Name_kw (kX I hg hm hv ?_ hn hdb)
 exact PyProof.Rows.callWith_builtin1 (ic (ha pos pins s σ H _ I h) fun us s1 ⟨vs,H1,J,U,q1⟩=>hc pins s1 σ H1 vs us Q J U q1) he hpl
theorem lq(hc:kQ X (.type T) r)(hg:Gl X x)(hm:X.mg x=none)(hv:bootBuiltins x=some (.type T))(ha:PA X (e::es) t)(hn:x≠"__name__":=by decide)(hdb:(x == ("__debug__":Str))=false:=by decide)
  (he:starEach (e::es) X.env=(false,eval e X.env)::starEach es X.env:=by rfl)(hpl:(backTo pos (starEach es X.env)).any (·.1)=false:=by rfl):PE X (.Call (.Name x p) (e::es) [] pos) (xI r t):=by
 intro pins s σ H Q I h
 refine wpAny_Call_Name_kw (kX I hg hm hv ?_ hn hdb)
 exact PyProof.Rows.callWith_type1 (ic (ha pos pins s σ H _ I h) fun us s1 ⟨vs,H1,J,U,q1⟩=>hc pins s1 σ H1 vs us Q J U q1) he hpl
end
end L2
namespace HT
open PySem PyProof.Rows
section
open PySem.SeqAt
open PySem.AutoSeq1 (wpAny_loadPart')
open PySem.MeetsSeq PySem.MeetsSeq2 PySem.MeetsSeq3
end
section
variable {prog : Program} {w : World} {A : Around} {E : Value -> Shared -> Prop} {s : Shared}
noncomputable def iI(n d:Nat):Option Int->Nat
 | none=>d
 | some v=>if v < 0 then (v + (n:Int)).toNat else min v.toNat n
theorem D0(n d:Nat)(hd:d<=n)(o:Option Int):iI n d o<=n:=by
 cases o with
 | none=>exact hd
 | some v=>
  show(if v < 0 then (v + (n:Int)).toNat else min v.toNat n)<=n
  by_cases J:v < 0
  ·rw [if_pos J];omega
  ·rw [if_neg J];exact Nat.min_le_right _ _
theorem vS(v:Int)(n d:Nat):(if v < 0 then max (v + (n:Int)) 0 else min v (n:Int))=((iI n d (some v):Nat):Int):=by
 show(if v < 0 then max (v + (n:Int)) 0 else min v (n:Int))=(((if v < 0 then (v + (n:Int)).toNat else min v.toNat n):Nat):Int)
 by_cases J:v < 0
 ·simp only [if_pos J];omega
 ·simp only [if_neg J];omega
theorem FU(lo hi:Option Int)(n:Nat):Builtin.Slice.sliceAdjust lo hi 1 (n:Int)=(((iI n 0 lo:Nat):Int),((iI n n hi:Nat):Int)):=by
 have h1:¬ ((1:Int) < 0):=by omega
 unfold Builtin.Slice.sliceAdjust
 simp only [h1,if_false]
 refine Prod.ext ?_ ?_
 ·cases lo with
  | none=>rfl
  | some v=>exact vS v n 0
 ·cases hi with
  | none=>rfl
  | some v=>exact vS v n n
theorem D6(i j:Nat):Builtin.Slice.slicePlaces (i:Int) (j:Int) 1=j - i:=by
 unfold Builtin.Slice.slicePlaces
 have h1:(1:Int) > 0:=by omega
 simp only [h1,if_true,Int.ediv_one]
 split<;>omega
theorem vT{v:Value}{o:Option Int}{Q:Option Int->Shared->Prop}(p:IsPart v o)(h:Q o s):wpAny (model prog w) A (Builtin.Slice.slicePartIndex v) Q E s:=by
 cases p with
 | none=>exact slicePart_none h
 | int i t=>exact slicePart_int h
theorem GZ{sl:Addr}{vl vu:Value}{lo hi:Option Int}{n:Nat}{Q:Int×Int×Nat->Shared->Prop}(hs:s.heap.IsSliceOf sl vl vu .none)(pl:IsPart vl lo)(pu:IsPart vu hi)
  (h:Q (((iI n 0 lo:Nat):Int),1,iI n n hi - iI n 0 lo) s):wpAny (model prog w) A (Builtin.Slice.sliceApplied (.ref sl) (pure (n:Int))) Q E s:=by
 obtain⟨os,J,aa,U⟩:=id hs
 unfold Builtin.Slice.sliceApplied Builtin.Slice.sliceFields
 refine wpAny_bind (wpAny_bind (wpAny_field J U (x:=vl) rfl (wpAny_bind (wpAny_field J U (x:=vu) rfl (wpAny_bind (wpAny_field J U (x:= .none) rfl (wpAny_pure ?_)))))))
 refine wpAny_bind (slicePart_none ?_)
 show wpAny _ _ (if ((1:Int) == 0)=true then _ else _) _ _ s
 rw [if_neg (by decide)]
 refine wpAny_bind (vT pl (wpAny_bind (vT pu (wpAny_bind (wpAny_pure ?_)))))
 show wpAny _ _ (match Builtin.Slice.sliceAdjust lo hi 1 (n:Int) with | (lo,hi)=>pure (lo,(1:Int),Builtin.Slice.slicePlaces lo hi 1)) _ _ s
 rw [FU lo hi n]
 show wpAny _ _ (pure (((iI n 0 lo:Nat):Int),(1:Int),Builtin.Slice.slicePlaces ((iI n 0 lo:Nat):Int) ((iI n n hi:Nat):Int) 1)) _ _ s
 rw [D6]
 exact wpAny_pure h
theorem EV(xs:Array Value)(i k:Nat):((List.range k).filterMap fun(m:Nat)=>xs[((i:Int) + (m:Int) * 1).toNat]?).toArray=((xs.toList.drop i).take k).toArray:=by
 have e:(fun(m:Nat)=>xs[((i:Int) + (m:Int) * 1).toNat]?)=fun m=>xs[i + m]? :=by
  funext m
  have:((i:Int) + (m:Int) * 1).toNat=i + m:=by omega
  rw [this]
 rw [e]
 have:=pick_run xs i k
 rw [List.filterMap_map] at this
 have J:((fun x=>xs[x]?) ∘ fun x=>i + x)=fun m=>xs[i + m]? :=rfl
 rw [J] at this
 rw [this]
theorem AL{t sl:Addr}{items:Array Value}{vl vu:Value}{lo hi:Option Int}{Q:Value->Shared->Prop}(ht:IsTup s.heap t items)(hs:s.heap.IsSliceOf sl vl vu .none)(pl:IsPart vl lo)(pu:IsPart vu hi)
  (hw:¬ (iI items.size 0 lo=0/\iI items.size items.size hi=items.size))
  (h:Q (.ref s.heap.objs.size) {s with heap:=s.heap.push {cls:= .type "tuple",data:= .seq ((items.toList.drop (iI items.size 0 lo)).take (iI items.size items.size hi - iI items.size 0 lo)).toArray}})
  (hsz:items.size<=sizeLine):wpAny (model prog w) A (getItem (.ref t) (.ref sl)) Q E s:=by
 have J:sizeOk (.seq ((items.toList.drop (iI items.size 0 lo)).take (iI items.size items.size hi - iI items.size 0 lo)).toArray):=by
  show((items.toList.drop (iI items.size 0 lo)).take (iI items.size items.size hi - iI items.size 0 lo)).toArray.size<=sizeLine
  rw [List.size_toArray,List.length_take,List.length_drop,Array.length_toList]
  omega
 have hj:iI items.size items.size hi<=items.size:=D0 _ _ (Nat.le_refl _) hi
 obtain⟨os,U,aa,ag⟩:=id hs
 have ae:s.TypeIs (.ref sl) "slice":=⟨os,U,aa⟩
 unfold getItem
 try with_reducible refine wpAny_holding ?_
 first | refine wpAny_bind (wpAny_pure ?_) | skip
 refine wpAny_bind (wpAny_sequenceKey ht.typeIs (by decide) ?_)
 refine wpAny_bind (wpAny_callSpecial?_slot (name:=Str.ofString "__getitem__") ht.typeIs PyProof.Rows.slot_tuple_getitem
  (wpAny_call_entry PyProof.Rows.slot_tuple_getitem ht.typeIs entry_tuple_getitem ?_ (args_tuple_getitem _ _)))
 show wpAny _ _ (Builtin.Tuple.tupleItemsOf (.ref t) >>= _) _ _ s
 refine wpAny_bind (tupleItemsOf_ ht ?_)
 refine wpAny_bind (wpAny_typeOf ae ?_)
 rw [if_pos (by decide)]
 refine wpAny_bind (GZ hs pl pu ?_)
 have af:¬ ((((iI items.size 0 lo:Nat):Int) == 0 && (1:Int) == 1 && (iI items.size items.size hi - iI items.size 0 lo) == items.size)=true):=by
  intro q
  rw [Bool.and_eq_true,Bool.and_eq_true] at q
  have q1:((iI items.size 0 lo:Nat):Int)=0:=eq_of_beq q.1.1
  have q2:iI items.size items.size hi - iI items.size 0 lo=items.size:=eq_of_beq q.2
  exact hw ⟨by omega,by omega⟩
 show wpAny _ _ (if (((iI items.size 0 lo:Nat):Int) == 0 && (1:Int) == 1 && (iI items.size items.size hi - iI items.size 0 lo) == items.size)=true then _ else _) _ _ s
 rw [if_neg af,EV]
 first
  | exact wpAny_bind (m:=Builtin.Tuple.tupleExact _) (wpAny_newObj_type (wpAny_pure ⟨_,rfl,wpAny_pure h⟩) J)
  | exact wpAny_bind (m:=Builtin.Tuple.tupleExact _) (wpAny_newObj_type (wpAny_bind (wpAny_pure (wpAny_pure ⟨_,rfl,wpAny_pure h⟩))) J)
  | exact wpAny_bind (wpAny_bind (m:=Builtin.Tuple.tupleExact _) (wpAny_newObj_type (wpAny_pure (wpAny_pure ⟨_,rfl,wpAny_pure h⟩)) J))
  | exact wpAny_bind (wpAny_bind (m:=Builtin.Tuple.tupleExact _) (wpAny_newObj_type (wpAny_pure ⟨_,rfl,wpAny_pure h⟩) J))
end
end HT
namespace L2
open PySem PySem.Spec PyProof.Rows
noncomputable abbrev TO:=St->Hp->(Option Int->Hp->Prop)->Prop
noncomputable def PO(X:Cx)(e:Option Expr)(t:TO):Prop:=
 ∀(pins:List (Addr×Obj)) (s:Shared) (σ:St) (H:Hp) (Q:Option Int->Hp->Prop),Inv X pins σ H s->t σ H Q->
  wpAny (model X.prog X.w) X.A (evalPart e X.env) (fun u s'=>∃ o H',Inv X pins σ H' s'/\IsPart u o/\Q o H') X.xe s
noncomputable def Ds:TO:=fun _ H Q=>Q none H
noncomputable def Dw(t:TE):TO:=fun σ H Q=>t σ H fun x H1=>∃ i,x= .int i/\Q (some i) H1
section
variable {X : Cx} {e : Expr} {te : TE} {lo hi : Option Expr} {tl th : TO} {pos p2 : Pos}
theorem j6:PO X none Ds:=by
 intro pins s σ H Q I h
 rw [evalPart_none]
 exact wpAny_pure ⟨none,H,I,.none,h⟩
theorem i5(h:PE X e te):PO X (some e) (Dw te):=by
 intro pins s σ H Q I hw
 rw [evalPart_some]
 refine ic (h pins s σ H _ I hw) fun u s1 ⟨x,H1,J,U,q1⟩=>?_
 obtain⟨i,rfl,q⟩:=q1
 obtain⟨t,rfl⟩:=U
 exact⟨some i,H1,J,.int i t,q⟩
noncomputable def rF(X:Cx)(r:V->Option Int->Option Int->Hp->VK->Prop):Prop:=
 ∀(pins:List (Addr×Obj)) (s:Shared) (σ:St) (H:Hp) (x:V) (v J U:Value) (lo hi:Option Int) (sl:Addr) (Q:VK),Inv X pins σ H s->RelV x v->s.heap.IsSliceOf sl J U .none->IsPart J lo->IsPart U hi->r x lo hi H Q->
  ∃ T id,typeLookup (.type T) "__getitem__"=pure (some (.builtin id))/\s.TypeIs v T/\wpAny (model X.prog X.w) X.A (getItem v (.ref sl)) (EP X pins σ Q) X.xe s
noncomputable def Gh(r:V->Option Int->Option Int->Hp->VK->Prop)(te:TE)(tl th:TO):TE:=fun σ H Q=>te σ H fun x H1=>tl σ H1 fun l H2=>th σ H2 fun u J=>r x l u J Q
theorem js{r:V->Option Int->Option Int->Hp->VK->Prop}(hr:rF X r)(he:PE X e te)(hl:PO X lo tl)(hu:PO X hi th):PE X (.Subscript e (.Slice lo hi none p2) pos) (Gh r te tl th):=by
 intro pins s σ H Q I h
 refine Subscript_ (ic (he pins s σ H _ I h) fun v s1 ⟨x,H1,I1,r1,q1⟩=>?_)
 refine wpAny_Slice (ic (hl pins s1 σ H1 _ I1 q1) fun J s2 ⟨l,H2,I2,pl,q2⟩=>ic (hu pins s2 σ H2 _ I2 q2) fun U s3 ⟨u,H3,I3,pu,q3⟩=>?_)
 rw [evalPart_none]
 refine wpAny_pure ?_
 have I4:Inv X pins σ H3 {s3 with heap:=s3.heap.push {cls:= .type "slice",data:= .fields #[J,U,.none]}}:=I3.kept (t':=s3.toks) fun b ob q=>Heap.get?_push_of_some _ q
 obtain⟨T,id,hT,ht,hg⟩:=hr pins {s3 with heap:=s3.heap.push {cls:= .type "slice",data:= .fields #[J,U,.none]}} σ H3 x v J U l u s3.heap.objs.size Q I4 r1 (Heap.IsSliceOf.new ..) pl pu q3
 show wpAny (model X.prog X.w) X.A (subscriptTail e (.Slice lo hi none p2) v (.ref s3.heap.objs.size)) (EP X pins σ Q) X.xe {s3 with heap:=s3.heap.push {cls:= .type "slice",data:= .fields #[J,U,.none]}}
 exact tail_any (ops:=[.ref s3.heap.objs.size,v]) ht hT hg (by with_unfolding_all rfl)
noncomputable def jB(xs:List V)(lo hi:Option Int):List V:=(xs.drop (HT.iI xs.length 0 lo)).take (HT.iI xs.length xs.length hi - HT.iI xs.length 0 lo)
theorem jT(xs:List V)(lo hi:Option Int):(jB xs lo hi).length<=xs.length:=by
 unfold jB
 rw [List.length_take,List.length_drop]
 omega
noncomputable def A0(K:W.Frag):V->Option Int->Option Int->Hp->VK->Prop:=fun x lo hi H Q=>∃ a xs,x= .ref a/\ia K H a xs/\
 ¬ (HT.iI xs.length 0 lo=0/\HT.iI xs.length xs.length hi=xs.length)/\∀ p,H p=none->Q (.ref p) (upd H p (.tup (jB xs lo hi)))
theorem HA:rF X (A0 X.K):=by
 intro pins s σ H x v vl vu lo hi sl Q I U hs pl pu h
 obtain⟨a,xs,rfl,hx,hw,q⟩:=h
 cases U
 obtain⟨J,r,ht,hz⟩:=I.tuple hx
 have hlen:J.toArray.size=xs.length:=by rw [List.size_toArray];exact r.length.symm
 refine⟨"tuple",_,PyProof.Rows.slot_tuple_getitem.lookup,ht.typeIs,?_⟩
 refine HT.AL ht hs pl pu (by rw [hlen];exact hw) ?_ (by rw [hlen];exact hz)
 rw [hlen]
 refine⟨.ref s.heap.objs.size,_,I.laid (t':=s.toks) (o:= .tup (jB xs lo hi)) (fun b ob q=>Heap.get?_push_of_some _ q) (Nat.le_refl _) ?_,rfl,q _ (I.hok.fresh (Nat.le_refl _))⟩
 exact⟨Nat.le_trans (jT xs lo hi) hz,_,(r.drop (HT.iI xs.length 0 lo)).take (HT.iI xs.length xs.length hi - HT.iI xs.length 0 lo),IsTup.new _ _⟩
end
noncomputable def kO(n:Nat)(i:Int):Option Nat:=if 0<=i then (if i < n then some i.toNat else none) else if -(n:Int)<=i then some (i + n).toNat else none
noncomputable def j3{α:Type}(xs:List α)(i:Int):Option α:=(kO xs.length i).bind fun j=>xs[j]?
theorem xj{n:Nat}{i:Int}{j:Nat}(h:kO n i=some j):seqIndex? i n=some j/\j < n/\ -(n:Int)<=i/\i < n:=by
 unfold kO at h
 by_cases h0:0<=i
 ·rw [if_pos h0] at h
  by_cases h1:i < n
  ·rw [if_pos h1] at h
   have e:i.toNat=j:=Option.some.inj h
   exact⟨by rw [seqIndex_of h0 h1,e],by omega,by omega,h1⟩
  ·rw [if_neg h1] at h;cases h
 ·rw [if_neg h0] at h
  by_cases h1: -(n:Int)<=i
  ·rw [if_pos h1] at h
   have e:(i + n).toNat=j:=Option.some.inj h
   exact⟨by rw [seqIndex_neg (by omega) h1,e],by omega,h1,by omega⟩
  ·rw [if_neg h1] at h;cases h
theorem tF{α:Type}{xs:List α}{i:Int}{v:α}(h:j3 xs i=some v):∃ j,seqIndex? i xs.length=some j/\xs[j]? =some v/\j < xs.length/\ -(xs.length:Int)<=i/\i < xs.length:=by
 unfold j3 at h
 cases e:kO xs.length i with
 | none=>rw [e] at h;cases h
 | some j=>
  rw [e] at h
  obtain⟨h1,h2,J,U⟩:=xj e
  exact⟨j,h1,h,h2,J,U⟩
theorem ik{α:Type}{xs:List α}{j:Nat}{v:α}(h:xs[j]? =some v):j3 xs (j:Int)=some v:=by
 have J:j < xs.length:=(List.getElem?_eq_some_iff.mp h).1
 have e:kO xs.length (j:Int)=some j:=by
  unfold kO
  rw [if_pos (by omega),if_pos (by omega)];simp
 unfold j3;rw [e];exact h
noncomputable def DU(b:Expr):Prop:=∀ o i,subscripted b false o i=operate [o,i] (getItem o i)
noncomputable def oC(X:Cx)(r:R2):Prop:=
 ∀(value slice:Expr) (pins:List (Addr×Obj)) (s:Shared) (σ:St) (H:Hp) (x y:V) (v u:Value) (Q:VK),Inv X pins σ H s->RelV x v->RelV y u->r x y H Q->
  subscripted slice false v u=operate [v,u] (getItem v u)->wpAny (model X.prog X.w) X.A (subscriptTail value slice v u) (EP X pins σ Q) X.xe s
noncomputable def kH(X:Cx)(id:String)(r:V->List V->Hp->VK->Prop):Prop:=
 ∀(pins:List (Addr×Obj)) (s:Shared) (σ:St) (H:Hp) (x:V) (xs:List V) (v:Value) (us:List Value) (Q:VK),Inv X pins σ H s->RelV x v->Vals xs us->r x xs H Q->
  wpAny (model X.prog X.w) X.A (call (.builtin id) (v::us)) (EP X pins σ Q) X.xe s
section
variable {X : Cx} {a b : Expr} {ta tb : TE} {pos : Pos}
theorem g9{r:R2}(hr:oC X r)(ha:PE X a ta)(hb:PE X b tb)(hs:DU b):PE X (.Subscript a b pos) (q8 r ta tb):=by
 intro pins s σ H Q I h
 exact Subscript_ (tJ ha hb I h fun v u s2 x y H2 J U ry q=>hr a b pins s2 σ H2 x y v u Q J U ry q (hs _ _))
noncomputable def xt(K:W.Frag):R2:=fun x y H Q=>∃ p xs i v,x= .ref p/\y= .int i/\gR K H p xs/\j3 xs i=some v/\Q v H
noncomputable def xC(K:W.Frag):R2:=fun x y H Q=>∃ p xs i v,x= .ref p/\y= .int i/\ia K H p xs/\j3 xs i=some v/\Q v H
noncomputable def DH:R2:=fun x y H Q=>∃ z i c,x= .str z/\y= .int i/\z.length<=sizeLine/\j3 z.cps.toList i=some c/\Q (.str ⟨#[c]⟩) H
theorem jn:oC X (xt X.K):=by
 intro value slice pins s σ H x y v u Q I rx ry h hs
 obtain⟨p,xs,i,z,rfl,rfl,hq,he,q⟩:=h
 cases rx
 obtain⟨t,rfl⟩:=ry
 obtain⟨J,r,pl,hz⟩:=I.list hq
 obtain⟨j,h1,h2,h3,h4,h5⟩:=tF he
 obtain⟨w,ew,U⟩:=r.get h2
 have hl:=r.length
 have hn:=oA
 have fin:EP X pins σ Q w s:=⟨z,H,I,U,q⟩
 by_cases h0:0<=i
 ·have hj:i.toNat=j:=by
   rw [seqIndex_of h0 h5] at h1
   exact Option.some.inj h1
  exact item_listR pl.isList h0 (by omega) (by rw [hj];simpa using ew) fin hs
 ·have hj:(i + (J.toArray.size:Int)).toNat=j:=by
   rw [seqIndex_neg (by omega) h4] at h1
   rw [List.size_toArray,<-hl]
   exact Option.some.inj h1
  exact subscriptTail_builtinR (x:=w) pl.isList.typeIs slot_list_getitem.lookup
   (wpAny_getItem_list_neg (Q:=fun r s'=>r=w/\EP X pins σ Q r s') pl.isList (by omega) (by rw [List.size_toArray]<;>omega) (by omega) (by rw [hj];simpa using ew) ⟨rfl,fin⟩) hs
theorem iO:oC X (xC X.K):=by
 intro value slice pins s σ H x y v u Q I U ry h hs
 obtain⟨p,xs,i,z,rfl,rfl,hq,he,q⟩:=h
 cases U
 obtain⟨t,rfl⟩:=ry
 obtain⟨aa,r,pl,hz⟩:=I.tuple hq
 obtain⟨j,h1,h2,h3,h4,h5⟩:=tF he
 obtain⟨w,ew,J⟩:=r.get h2
 have hl:=r.length
 have hn:=oA
 have fin:EP X pins σ Q w s:=⟨z,H,I,J,q⟩
 exact subscriptTail_builtinR (x:=w) pl.typeIs slot_tuple_getitem.lookup
  (getItem_tuple (j:=j) (Q:=fun r s'=>r=w/\EP X pins σ Q r s') pl (by omega) (by omega) (by rw [List.size_toArray,<-hl];exact h1) (by simpa using ew) ⟨rfl,fin⟩) hs
theorem me:oC X DH:=by
 intro value slice pins s σ H x y v u Q I J U h hs
 obtain⟨z,i,c,rfl,rfl,hz,he,q⟩:=h
 obtain⟨t,rfl⟩:=J
 obtain⟨t',rfl⟩:=U
 obtain⟨j,h1,h2,h3,h4,h5⟩:=tF he
 have hl:z.cps.toList.length=z.length:=by simp [Str.length]
 rw [hl] at h1 h4 h5
 have hn:=oA
 exact tail_any (typeIs_str s z t) slot_str_getitem.lookup (getItem_str (c:=c) (by
  have e1:decide (i < -(2 ^ 63:Int))=false:=decide_eq_false (by omega)
  have e2:decide (i ≥ 2 ^ 63)=false:=decide_eq_false (by omega)
  rw [e1,e2,Bool.or_false]) (by rw [h1];simpa using h2) ⟨.str ⟨#[c]⟩,H,I.tok _,⟨_,rfl⟩,q⟩) hs
theorem BG(its:List Value)(n j:Nat)(u:Value):Obj.mapSeq (·.setIfInBounds j u) {cls:= .type "list",data:= .seq its.toArray n}={cls:= .type "list",data:= .seq (its.set j u).toArray n}:=by
 simp [Obj.mapSeq]
theorem Inv.lst {pins:List (Addr×Obj)}{σ:St}{H:Hp}{s:Shared}{p:Addr}{xs:List V}(I:Inv X pins σ H s)(h:H p=some (.lst xs)):
  ∃(its:List Value) (n:Nat),Vals xs its/\s.heap.get? p=some {cls:= .type "list",data:= .seq its.toArray n}/\xs.length<=sizeLine:=by
 obtain⟨z,its,n,r,e⟩:=I.hok p _ h
 exact⟨its,n,r,e,z⟩
theorem Inv.lstUpd {pins:List (Addr×Obj)}{σ:St}{H:Hp}{s:Shared}{p:Addr}{xs ys:List V}{its its':List Value}{n n':Nat}{f:Obj->Obj}(I:Inv X pins σ H s)(h:H p=some (.lst xs))
  (ho:s.heap.get? p=some {cls:= .type "list",data:= .seq its.toArray n})(hf:f {cls:= .type "list",data:= .seq its.toArray n}={cls:= .type "list",data:= .seq its'.toArray n'})(r:Vals ys its')(hz:ys.length<=sizeLine)(t:Nat):
  Inv X pins σ (upd H p (.lst ys)) {s with heap:=s.heap.update p f,toks:=t}:=by
 have e:(s.heap.update p f).get? p=some {cls:= .type "list",data:= .seq its'.toArray n'}:=by
  rw [Heap.get?_update_self f ho (by rw [hf]<;>rfl),hf]
 refine I.write (x:=p) (e:=p) (by rw [h];trivial) (.inl rfl) (fun b u hb q=>(Heap.get?_update_other _ _ (Ne.symm hb)).trans q) ⟨_,e⟩ ?_
 exact⟨hz,its',n',r,e⟩
noncomputable def GV:V->V->V->Hp->(Hp->Prop)->Prop:=fun o i v H Q=>∃ p xs k j,o= .ref p/\i= .int k/\H p=some (.lst xs)/\kO xs.length k=some j/\Q (upd H p (.lst (xs.set j v)))
theorem set_list:vH X GV:=by
 intro pins s σ H o i v ov iv u Q I ro ri rv h
 obtain⟨p,xs,k,j,rfl,rfl,hp,hj,q⟩:=h
 cases ro
 obtain⟨t,rfl⟩:=ri
 obtain⟨J,n,r,U,hz⟩:=I.lst hp
 obtain⟨h1,h2,h3,h4⟩:=xj hj
 have hl:=r.length
 have hn:=oA
 have I':Inv X pins σ (upd H p (.lst (xs.set j v))) {s with heap:=s.heap.update p (Obj.mapSeq (·.setIfInBounds j u))}:=
  I.lstUpd hp U (BG J n j u) (r.set rv j) (by rw [List.length_set];exact hz) s.toks
 by_cases h0:0<=k
 ·have hk:k.toNat=j:=by
   rw [seqIndex_of h0 h4] at h1
   exact Option.some.inj h1
  exact W.ki_setAt U h0 (by omega) (by rw [List.size_toArray,<-hl];exact h4) (by rw [hk];exact⟨_,I',q⟩)
 ·have hk:(k + (J.toArray.size:Int)).toNat=j:=by
   rw [seqIndex_neg (by omega) h3] at h1
   rw [List.size_toArray,<-hl]
   exact Option.some.inj h1
  exact W.ki_setBack U (by omega) (by rw [List.size_toArray,<-hl];exact h3) (by omega) (by rw [hk];exact⟨_,I',q⟩)
theorem Fu(lo hi:Option Int)(n:Nat):(sliceBounds lo hi none n).1=((HT.iI n 0 lo:Nat):Int)/\(sliceBounds lo hi none n).2.1=((HT.iI n n hi:Nat):Int)/\(sliceBounds lo hi none n).2.2=1:=by
 refine⟨?_,?_,rfl⟩
 ·cases lo with
  | none=>simp [sliceBounds,HT.iI]
  | some i=>
   simp only [sliceBounds,HT.iI,Option.getD_none,show(1:Int) > 0 by decide,if_true]
   by_cases h:i < 0
   ·simp only [h,if_true]<;>omega
   ·simp only [h,if_false]<;>omega
 ·cases hi with
  | none=>simp [sliceBounds,HT.iI]
  | some i=>
   simp only [sliceBounds,HT.iI,Option.getD_none,show(1:Int) > 0 by decide,if_true]
   by_cases h:i < 0
   ·simp only [h,if_true]<;>omega
   ·simp only [h,if_false]<;>omega
theorem Ea(its:List Value)(lo hi:Option Int):slicePick its.toArray lo hi none=((its.drop (HT.iI its.length 0 lo)).take (HT.iI its.length its.length hi - HT.iI its.length 0 lo)).toArray:=by
 obtain⟨h1,h2,J⟩:=Fu lo hi its.toArray.size
 unfold slicePick
 rw [h1,h2,J]
 simp only [sliceRange_one,pick_run,List.size_toArray]<;>rfl
noncomputable def FI(K:W.Frag):V->Option Int->Option Int->Hp->VK->Prop:=fun x lo hi H Q=>∃ a xs,x= .ref a/\gR K H a xs/\∀ p,H p=none->Q (.ref p) (upd H p (.lst (jB xs lo hi)))
theorem nA:rF X (FI X.K):=by
 intro pins s σ H x v vl vu lo hi sl Q I J U pl pu h
 obtain⟨a,xs,rfl,hx,q⟩:=h
 cases J
 obtain⟨aa,r,ht,hz⟩:=I.list hx
 have hlen:=r.length
 refine⟨"list",_,slot_list_getitem.lookup,ht.isList.typeIs,?_⟩
 refine wpAny_getItem_list_slice ht.isList U pl pu .none (by simp) ?_ (by rw [List.size_toArray]<;>omega)
 rw [Ea,<-hlen]
 refine⟨.ref s.heap.objs.size,_,I.laid (t':=s.toks) (o:= .lst (jB xs lo hi)) (fun b ob q=>Heap.get?_push_of_some _ q) (Nat.le_refl _) ?_,rfl,q _ (I.hok.fresh (Nat.le_refl _))⟩
 exact⟨Nat.le_trans (jT xs lo hi) hz,_,0,(r.drop (HT.iI xs.length 0 lo)).take (HT.iI xs.length xs.length hi - HT.iI xs.length 0 lo),Heap.get?_push_size _ rfl⟩
noncomputable def kD:V->Bool
 | .non=>true
 | .bl _=>true
 | .int _=>true
 | .str _=>true
 | _=>false
noncomputable def mD:V->V->Bool
 | .non,.non=>true
 | .bl a,.bl b=>a == b
 | .bl a,.int b=>(if a then 1 else 0) == b
 | .int a,.bl b=>a == (if b then 1 else 0)
 | .int a,.int b=>a == b
 | .str a,.str b=>a == b
 | _,_=>false
theorem BC{A:Around}{s:Shared}{y x:V}{u v:Value}(ry:RelV y u)(rx:RelV x v)(fy:kD y=true)(fx:kD x=true):SeqAt.EqAt A s u v (mD y x):=by
 cases y with
 | non=>
  cases ry
  cases x with
  | non=>cases rx;exact SeqAt.EqAt.same _
  | bl b=>cases rx;exact SeqAt.EqAt.none_bool b
  | int b=>obtain⟨t,rfl⟩:=rx;exact SeqAt.EqAt.none_int b t
  | str b=>obtain⟨t,rfl⟩:=rx;exact SeqAt.EqAt.none_str b t
  | _=>exact absurd (show false=true from fx) Bool.false_ne_true
 | bl a=>
  cases ry
  cases x with
  | non=>cases rx;exact SeqAt.EqAt.bool_none a
  | bl b=>cases rx;exact SeqAt.EqAt.bool_bool a b
  | int b=>obtain⟨t,rfl⟩:=rx;exact SeqAt.EqAt.bool_int a b t
  | str b=>obtain⟨t,rfl⟩:=rx;exact SeqAt.EqAt.bool_str a b t
  | _=>exact absurd (show false=true from fx) Bool.false_ne_true
 | int a=>
  obtain⟨t',rfl⟩:=ry
  cases x with
  | non=>cases rx;exact SeqAt.EqAt.int_none a t'
  | bl b=>cases rx;exact SeqAt.EqAt.int_bool a t' b
  | int b=>obtain⟨t,rfl⟩:=rx;exact SeqAt.EqAt.int_int a t' b t
  | str b=>obtain⟨t,rfl⟩:=rx;exact SeqAt.EqAt.int_str a t' b t
  | _=>exact absurd (show false=true from fx) Bool.false_ne_true
 | str a=>
  obtain⟨t',rfl⟩:=ry
  cases x with
  | non=>cases rx;exact SeqAt.EqAt.str_none a t'
  | bl b=>cases rx;exact SeqAt.EqAt.str_bool a t' b
  | int b=>obtain⟨t,rfl⟩:=rx;exact SeqAt.EqAt.str_int a t' b t
  | str b=>obtain⟨t,rfl⟩:=rx;exact SeqAt.EqAt.str_str a t' b t
  | _=>exact absurd (show false=true from fx) Bool.false_ne_true
 | _=>exact absurd (show false=true from fy) Bool.false_ne_true
noncomputable def jV(x:V)(u:Value):Bool:=match u with
 | .none=>mD .non x
 | .bool b=>mD (.bl b) x
 | .int i _=>mD (.int i) x
 | .str z _=>mD (.str z) x
 | _=>false
theorem sT{x y:V}{u:Value}(r:RelV y u)(f:kD y=true):jV x u=mD y x:=by
 cases y with
 | non=>cases r;rfl
 | bl b=>cases r;rfl
 | int i=>obtain⟨t,rfl⟩:=r;rfl
 | str z=>obtain⟨t,rfl⟩:=r;rfl
 | _=>exact absurd (show false=true from f) Bool.false_ne_true
theorem qq{x:V}:∀{xs:List V} {us:List Value},Vals xs us->xs.all kD=true->us.any (jV x)=xs.any fun y=>mD y x
 | _,_,.nil,_=>rfl
 | y::xs,u::us,.cons r t,f=>by
  rw [List.all_cons,Bool.and_eq_true] at f
  rw [List.any_cons,List.any_cons,sT r f.1,qq t f.2]
theorem oJ{A:Around}{s:Shared}{x:V}{v:Value}(rx:RelV x v)(fx:kD x=true):∀{xs:List V} {us:List Value},Vals xs us->xs.all kD=true->∀ u∈us,SeqAt.EqAt A s u v (jV x u)
 | _,_,.nil,_=>fun u hu=>by cases hu
 | y::xs,u::us,.cons r t,f=>fun J hu=>by
  rw [List.all_cons,Bool.and_eq_true] at f
  rcases List.mem_cons.mp hu with rfl | hu
  ·rw [sT r f.1];exact BC r rx f.1 fx
  ·exact oJ rx fx t f.2 J hu
noncomputable def kZ(x:V)(xs:List V):Bool:=xs.any fun y=>mD y x
noncomputable def wH(K:W.Frag)(neg:Bool):R2:=fun x y H Q=>∃ p xs,y= .ref p/\(gR K H p xs\/ia K H p xs)/\kD x=true/\xs.all kD=true/\Q (.bl (if neg then !kZ x xs else kZ x xs)) H
theorem vi:jg X (compareOp .In) (wH X.K false):=by
 intro pins s σ H x y v u Q I U ry h
 obtain⟨p,xs,rfl,hq,fx,fs,q⟩:=h
 cases ry
 rcases hq with hq | hq
 ·obtain⟨J,r,pl,hz⟩:=I.list hq
  refine SeqAt.in_listAt (jV x) pl.isList (fun w hw=>oJ U fx r fs w (by simpa using hw)) ⟨.bl _,H,I,rfl,?_⟩
  rw [show J.toArray.any (jV x)=J.any (jV x) by simp,qq r fs]
  exact q
 ·obtain⟨J,r,pl,hz⟩:=I.tuple hq
  refine SeqAt.in_tupleAt (jV x) pl (fun w hw=>oJ U fx r fs w (by simpa using hw)) ⟨.bl _,H,I,rfl,?_⟩
  rw [show J.toArray.any (jV x)=J.any (jV x) by simp,qq r fs]
  exact q
theorem pQ:jg X (compareOp .NotIn) (wH X.K true):=by
 intro pins s σ H x y v u Q I U ry h
 obtain⟨p,xs,rfl,hq,fx,fs,q⟩:=h
 cases ry
 rcases hq with hq | hq
 ·obtain⟨J,r,pl,hz⟩:=I.list hq
  refine SeqAt.notIn_listAt (jV x) pl.isList (fun w hw=>oJ U fx r fs w (by simpa using hw)) ⟨.bl _,H,I,rfl,?_⟩
  rw [show J.toArray.any (jV x)=J.any (jV x) by simp,qq r fs]
  exact q
 ·obtain⟨J,r,pl,hz⟩:=I.tuple hq
  refine SeqAt.notIn_tupleAt (jV x) pl (fun w hw=>oJ U fx r fs w (by simpa using hw)) ⟨.bl _,H,I,rfl,?_⟩
  rw [show J.toArray.any (jV x)=J.any (jV x) by simp,qq r fs]
  exact q
theorem zt:jg X (compareOp .NotIn) (fun x y H Q=>∃ i j,x= .str i/\y= .str j/\Q (.bl (!(!(Builtin.Str.occurrences j i 0 j.length 1).isEmpty))) H):=by
 intro pins s σ H x y v u Q I J U h
 obtain⟨i,j,rfl,rfl,q⟩:=h
 obtain⟨t,rfl⟩:=J
 obtain⟨t',rfl⟩:=U
 exact notIn_str ⟨.bl _,H,I,rfl,q⟩
theorem jN:kQ X (.builtin "len") (fun xs H Q=>∃ p ys,xs=[.ref p]/\(gR X.K H p ys\/ia X.K H p ys)/\Q (.int ys.length) H):=by
 intro pins s σ H xs us Q I r h
 obtain⟨p,ys,rfl,hq,q⟩:=h
 obtain⟨u,rfl,rx⟩:=vals1 r
 cases rx
 have hn:=oA
 rcases hq with hq | hq
 ·obtain⟨J,U,pl,hz⟩:=I.list hq
  have hlen:=U.length
  exact Calls.call_len_list pl.isList (by simp only [List.size_toArray]<;>omega) ⟨.int ys.length,H,I.tok _,⟨s.toks + 1,by rw [List.size_toArray,hlen]⟩,q⟩
 ·obtain⟨J,U,pl,hz⟩:=I.tuple hq
  have hlen:=U.length
  exact len_tuple pl (by simp only [List.size_toArray]<;>omega) ⟨.int ys.length,H,I.tok _,⟨s.toks + 1,by rw [List.size_toArray,hlen]⟩,q⟩
theorem kg:kQ X (.builtin "len") (fun xs H Q=>∃ z,xs=[.str z]/\z.length<=sizeLine/\Q (.int z.length) H):=by
 intro pins s σ H xs us Q I r h
 obtain⟨z,rfl,hz,q⟩:=h
 obtain⟨u,rfl,t,rfl⟩:=vals1 r
 have hn:=oA
 exact len_str (by omega) ⟨.int z.length,H,I.tok _,⟨_,rfl⟩,q⟩
theorem tG:kQ X (.type "list") (fun xs H Q=>∃ p ys,xs=[.ref p]/\(gR X.K H p ys\/ia X.K H p ys)/\∀ l,H l=none->Q (.ref l) (upd H l (.lst ys))):=by
 intro pins s σ H xs us Q I r h
 obtain⟨p,ys,rfl,hq,q⟩:=h
 obtain⟨u,rfl,rx⟩:=vals1 r
 cases rx
 have fin:∀(J:List Value),Vals ys J->ys.length<=sizeLine->∀(h':Heap) (U:Nat),(∀ b o',s.heap.get? b=some o'->h'.get? b=some o')->
   h'.get? s.heap.objs.size=some {cls:= .type "list",dict:=none,data:= .seq J.toArray U,slots:=#[]}->EP X pins σ Q (.ref s.heap.objs.size) {s with heap:=h'}:=fun J r' hz h' U kp e=>
  ⟨.ref s.heap.objs.size,_,I.laid (t':=s.toks) kp (Nat.le_refl _) (show jc X.prog X.w _ h' _ (.lst ys) from⟨hz,J,U,r',e⟩),rfl,q _ (I.hok.fresh (Nat.le_refl _))⟩
 rcases hq with hq | hq
 ·obtain⟨J,r',pl,hz⟩:=I.list hq
  have hlen:=r'.length
  obtain⟨o,ho,hc,n,hd⟩:=pl.isList
  exact call_list_seq p (.inl rfl) ho hc hd (fun h' U kp e=>fin J r' hz h' U kp e) (by simp only [List.size_toArray]<;>omega)
 ·obtain⟨J,r',pl,hz⟩:=I.tuple hq
  have hlen:=r'.length
  obtain⟨o,ho,hc,n,hd⟩:=pl
  exact call_list_seq p (.inr rfl) ho hc hd (fun h' U kp e=>fin J r' hz h' U kp e) (by simp only [List.size_toArray]<;>omega)
theorem HY:kQ X (.type "tuple") (fun xs H Q=>∃ p ys,xs=[.ref p]/\((gR X.K H p ys/\∀ l,H l=none->Q (.ref l) (upd H l (.tup ys)))\/(ia X.K H p ys/\Q (.ref p) H))):=by
 intro pins s σ H xs us Q I r h
 obtain⟨p,ys,rfl,h⟩:=h
 obtain⟨u,rfl,rx⟩:=vals1 r
 cases rx
 rcases h with ⟨U,q⟩ | ⟨U,q⟩
 ·obtain⟨J,r',pl,hz⟩:=I.list U
  have hlen:=r'.length
  refine call_tuple_list pl.isList (fun h' kp=>?_) (by simp only [List.size_toArray]<;>omega)
  have I1:Inv X pins σ H {s with heap:=h'}:=I.kept (t':=s.toks) kp
  have I2:Inv X pins σ (upd H h'.objs.size (.tup ys)) {s with heap:=h'.push {cls:= .type "tuple",data:= .seq J.toArray}}:=
   I1.laid (t':=s.toks) (fun b o e=>Heap.get?_push_of_some _ e) (Nat.le_refl _) (show jc X.prog X.w _ _ _ (.tup ys) from⟨hz,J,r',IsTup.new _ _⟩)
  exact⟨.ref h'.objs.size,_,I2,rfl,q _ (I1.hok.fresh (Nat.le_refl _))⟩
 ·obtain⟨J,r',pl,hz⟩:=I.tuple U
  exact call_tuple_same pl ⟨.ref p,H,I,rfl,q⟩
noncomputable def sP(K:W.Frag)(T:String)(x:V)(H:Hp):Prop:=match x with
 | .str _=>T="str"
 | .int _=>T="int"
 | .ref p=>(T="list"/\∃ xs,gR K H p xs)\/(T="tuple"/\∃ o,K.lookup p=some o/\o.cls= .type "tuple"/\o.dict=none)\/
   (T="dict"/\((∃ kvs,H p=some (.dK kvs))\/∃ kvs,H p=some (.dT kvs)))\/(T="set"/\∃ S n,H p=some (.set S n))
 | _=>False
theorem uU{pins:List (Addr×Obj)}{σ:St}{H:Hp}{s:Shared}{T:String}{x:V}{v:Value}(I:Inv X pins σ H s)(r:RelV x v)(ty:sP X.K T x H):
  s.TypeIs v T/\∀ a,v= .ref a->∃ ob,s.heap.get? a=some ob/\ob.dict=none:=by
 cases x with
 | str z=>
  obtain⟨t,rfl⟩:=r
  cases (show T="str" from ty)
  exact⟨typeIs_str s z t,fun _ e=>nomatch e⟩
 | int i=>
  obtain⟨t,rfl⟩:=r
  cases (show T="int" from ty)
  exact⟨typeIs_int s i t,fun _ e=>nomatch e⟩
 | ref p=>
  cases r
  rcases ty with ⟨rfl,xs,U⟩ | ⟨rfl,o,hk,hc,hd⟩ | ⟨rfl,hk⟩ | ⟨rfl,S,n,hk⟩
  ·obtain⟨aa,_,pl,_⟩:=I.list U
   refine⟨pl.isList.typeIs,fun a e=>?_⟩
   cases e
   obtain⟨o,n,e,c,hd,_⟩:=pl
   exact⟨o,e,hd⟩
  ·refine⟨⟨o,I.kIn p o hk,hc⟩,fun a e=>?_⟩
   cases e
   exact⟨o,I.kIn _ o hk,hd⟩
  ·have z:∃ o,s.heap.get? p=some o/\o.ExactDict:=by
    rcases hk with ⟨kvs,hk⟩ | ⟨kvs,hk⟩
    ·obtain⟨_,_,_,_,o,_,_,e,ex,_⟩:=I.hok p _ hk
     exact⟨o,e,ex⟩
    ·obtain⟨_,_,_,_,o,_,_,e,ex,_⟩:=I.hok p _ hk
     exact⟨o,e,ex⟩
   obtain⟨o,e,ex⟩:=z
   refine⟨⟨o,e,ex.1⟩,fun a J=>?_⟩
   cases J
   exact⟨o,e,ex.2.1⟩
  ·obtain⟨o,_,_,_,e,ex,_⟩:=I.hok p _ hk
   refine⟨⟨o,e,ex.1⟩,fun a J=>?_⟩
   cases J
   exact⟨o,e,ex.2.1⟩
 | _=>exact False.elim ty
noncomputable def Eg(K:W.Frag)(T:String)(r:V->List V->Hp->VK->Prop)(to:TE):TE:=fun σ H Q=>to σ H fun x H1=>sP K T x H1/\r x [] H1 Q
noncomputable def tK(K:W.Frag)(T:String)(r:V->List V->Hp->VK->Prop)(to:TE)(t:TA):TE:=fun σ H Q=>to σ H fun x H1=>sP K T x H1/\t σ H1 fun xs H2=>r x xs H2 Q
variable {o e : Expr} {es : List Expr} {to : TE} {t : TA} {name : Str} {apos cpos : Pos} {T id : String} {r : V -> List V -> Hp -> VK -> Prop}
theorem rG(pa:PlainAttrs T)(slot:Slot T name id)(hty:typeOf (.builtin id)=pure (.type "method_descriptor"))(hm:kH X id r)(ho:PE X o to)
  (hbase:attributeBase o name X.env (eval o X.env)=eval o X.env:=by rfl)(hline:(apos.endLine == cpos.line)=true:=by rfl):PE X (.Call (.Attribute o name apos) [] [] cpos) (Eg X.K T r to):=by
 intro pins s σ H Q I h
 refine wpAny_Call_method0_late hbase hline (ic (ho pins s σ H _ I h) fun v s1 ⟨x,H1,J,U,ty,q1⟩=>?_)
 obtain⟨h1,h2⟩:=uU J U ty
 exact⟨T,id,pa,slot,hty,h1,h2,Calls.callWith_builtin rfl (PySem.evalArgs_none (hm pins s1 σ H1 x [] v [] Q J U .nil q1))⟩
theorem jr(pa:PlainAttrs T)(slot:Slot T name id)(hty:typeOf (.builtin id)=pure (.type "method_descriptor"))(hm:kH X id r)(ho:PE X o to)(ha:PA X (e::es) t)
  (hbase:attributeBase o name X.env (eval o X.env)=eval o X.env:=by rfl)
  (hfew:((backTo cpos (starEach (e::es) X.env)).all (fun x=> !x.1) && (backToKw cpos (keywordEach [] X.env)).all (fun x=>x.1.isSome)
   && decide ((e::es).length + ([]:List Keyword).length + (if ([]:List Keyword).isEmpty then 0 else 1) < 30))=true:=by rfl)
  (hline:(apos.endLine == cpos.line)=true:=by rfl)(hs:starEach (e::es) X.env=(false,eval e X.env)::starEach es X.env:=by rfl)(hplain:(backTo cpos (starEach es X.env)).any (·.1)=false:=by rfl):
  PE X (.Call (.Attribute o name apos) (e::es) [] cpos) (tK X.K T r to t):=by
 intro pins s σ H Q I h
 refine wpAny_Call_method_late hbase hfew hline rfl (ic (ho pins s σ H _ I h) fun v s1 ⟨x,H1,J,U,ty,q1⟩=>?_)
 obtain⟨h1,h2⟩:=uU J U ty
 refine⟨T,id,pa,slot,hty,h1,h2,?_⟩
 have hA:=ha cpos pins s1 σ H1 _ J q1
 rw [hs] at hA ⊢
 refine Calls.callWith_builtin (by show(false || (backTo cpos (starEach es X.env)).any (·.1))=false;rw [hplain]<;>rfl) (Calls.evalArgs_plain ?_)
 exact ic hA fun us s2 ⟨vs,H2,I2,r2,q2⟩=>hm pins s2 σ H2 x vs v us Q I2 U r2 q2
end
noncomputable def zr(X:Cx)(id:String)(r:V->List V->Hp->VK->Prop):Prop:=
 ∀(pins:List (Addr×Obj)) (s:Shared) (σ:St) (H:Hp) (x:V) (xs:List V) (v:Value) (us:List Value) (Q:VK),Inv X pins σ H s->RelV x v->Vals xs us->r x xs H Q->
  wpAny (model X.prog X.w) X.A (call (.builtin id) (v::us)) (EP X pins σ Q) X.xe s
theorem Vals.one:∀{x:V} {us:List Value},Vals [x] us->∃ u,us=[u]/\RelV x u
 | _,_,.cons r .nil=>⟨_,rfl,r⟩
theorem Vals.two:∀{x y:V} {us:List Value},Vals [x,y] us->∃ u v,us=[u,v]/\RelV x u/\RelV y v
 | _,_,_,.cons r (.cons q .nil)=>⟨_,_,rfl,r,q⟩
theorem Vals.eraseIdx:∀{xs:List V} {us:List Value} (i:Nat),Vals xs us->Vals (xs.eraseIdx i) (us.eraseIdx i)
 | _,_,_,.nil=> .nil
 | _,_,0,.cons _ t=>t
 | _,_,i + 1,.cons r t=> .cons r (Vals.eraseIdx i t)
theorem yS{α:Type}:∀(l:List α) (i:Nat),(l.eraseIdx i).length<=l.length
 | [],_=>Nat.le_refl _
 | _::_,0=>Nat.le_succ _
 | _::r,i + 1=>Nat.succ_le_succ (yS r i)
section
variable {X : Cx} {pins : List (Addr × Obj)} {σ : St} {H : Hp} {s : Shared} {l b : Addr} {xs ys zs : List V}
theorem Inv.lset {its its':List Value}{n:Nat}{f:Array Value->Array Value}{t':Nat}(I:Inv X pins σ H s)(hH:H l=some (.lst xs))
  (e:s.heap.get? l=some {cls:= .type "list",data:= .seq its.toArray n})(hf:f its.toArray=its'.toArray)(hv:Vals ys its')(hz:ys.length<=sizeLine):
  Inv X pins σ (upd H l (.lst ys)) {s with heap:=s.heap.update l (Obj.mapSeq f),toks:=t'}:=by
 have q:=PySem.IsL.update e f
 rw [hf] at q
 refine I.write (x:=l) (e:=l) (by rw [hH];exact trivial) (.inl rfl) (fun U u hb J=>(Heap.get?_update_other s.heap (Obj.mapSeq f) (Ne.symm hb)).trans J) ⟨_,q⟩ ?_
 exact⟨hz,its',_,hv,q⟩
theorem Inv.lnew {its:List Value}{t':Nat}(I:Inv X pins σ H s)(hv:Vals ys its)(hz:ys.length<=sizeLine):
  Inv X pins σ (upd H s.heap.objs.size (.lst ys)) {s with heap:=s.heap.push {cls:= .type "list",data:= .seq its.toArray},toks:=t'}:=
 I.laid (fun _ _ q=>Heap.get?_push_of_some _ q) (Nat.le_refl _) ⟨hz,its,0,hv,Heap.get?_push_size _ rfl⟩
theorem Inv.fresh (I:Inv X pins σ H s):H s.heap.objs.size=none:=I.hok.fresh (Nat.le_refl _)
theorem Inv.lstM (I:Inv X pins σ H s)(hH:H l=some (.lst xs)):xs.length<=sizeLine/\∃(its:List Value) (n:Nat),Vals xs its/\xs.length=its.length/\s.heap.get? l=some {cls:= .type "list",data:= .seq its.toArray n}:=by
 obtain⟨z,its,n,r,e⟩:=I.hok l _ hH
 exact⟨z,its,n,r,r.length,e⟩
end
section
variable {X : Cx}
noncomputable def zT:V->List V->Hp->VK->Prop:=fun x vs H Q=>∃ l xs y,x= .ref l/\vs=[y]/\H l=some (.lst xs)/\xs.length < sizeLine/\Q .non (upd H l (.lst (xs++[y])))
theorem kj:zr X "list.append" zT:=by
 intro pins s σ H x vs v us Q I rx rv h
 obtain⟨l,xs,y,rfl,rfl,U,hz,q⟩:=h
 cases rx
 obtain⟨u,rfl,ru⟩:=rv.one
 obtain⟨z,J,n,r,hl,e⟩:=I.lstM U
 refine call_meets F.slot_list_append ⟨_,e,rfl⟩ F.entry_list_append (F.args_list_append_2 _ _) (PySem.list_append l J.toArray n u (by rw [List.size_toArray];omega)) ⟨e,?_⟩
 refine⟨.non,_,I.lset (its':=J++[u]) U e (by simp) (r.append (.cons ru .nil)) ?_,rfl,q⟩
 rw [List.length_append,List.length_singleton]
 omega
noncomputable def Bv:V->List V->Hp->VK->Prop:=fun x vs H Q=>∃ l xs i k y,x= .ref l/\vs=[.int i]/\H l=some (.lst xs)/\ -(2 ^ 63)<=i/\i < 2 ^ 63/\seqIndex? i xs.length=some k/\xs[k]? =some y/\Q y (upd H l (.lst (xs.eraseIdx k)))
theorem wO:zr X "list.pop" Bv:=by
 intro pins s σ H x vs v us Q I rx rv h
 obtain⟨l,xs,i,k,y,rfl,rfl,hH,h1,h2,hk,hy,q⟩:=h
 cases rx
 obtain⟨u,rfl,ru⟩:=rv.one
 obtain⟨t,rfl⟩:=ru
 obtain⟨z,J,n,r,hl,e⟩:=I.lstM hH
 obtain⟨w,hw,U⟩:=r.get hy
 refine call_meets F.slot_list_pop ⟨_,e,rfl⟩ F.entry_list_pop (F.args_list_pop_2 _ _)
  (MeetsSeq.list_pop_at l J.toArray n i t k w (fitsIndex_both h1 h2) (by rw [List.size_toArray,<-hl];exact hk) (by rw [<-Array.getElem?_toList];exact hw) (by rw [List.size_toArray];omega)) ⟨e,?_⟩
 refine⟨y,_,I.lset (its':=J.eraseIdx k) hH e ?_ (r.eraseIdx k) ?_,U,q⟩
 ·show J.toArray.eraseIdxIfInBounds k=(J.eraseIdx k).toArray
  rw [List.eraseIdxIfInBounds_toArray]
 ·have:=yS xs k
  omega
noncomputable def A5:R2:=fun x y H Q=>∃ l b xs zs,x= .ref l/\y= .ref b/\H l=some (.lst xs)/\H b=some (.lst zs)/\xs.length + zs.length<=sizeLine/\∀ p,H p=none->Q (.ref p) (upd H p (.lst (xs++zs)))
theorem kL:jg X (binaryOp .Add) A5:=by
 intro pins s σ H x y v u Q I rx ry h
 obtain⟨l,b,xs,zs,rfl,rfl,hH,hB,hz,q⟩:=h
 cases rx
 cases ry
 obtain⟨z,U,n,r,hl,e⟩:=I.lstM hH
 obtain⟨z2,J,n2,r2,aa,e2⟩:=I.lstM hB
 refine PySem.P.add_list e e2 ?_ (by rw [List.size_toArray,List.size_toArray];omega)
 have ea:U.toArray++J.toArray=(U++J).toArray:=by simp
 rw [ea]
 exact⟨.ref _,_,I.lnew (t':=s.toks) (r.append r2) (by rw [List.length_append];omega),rfl,q _ I.fresh⟩
end
section
variable {prog : Program} {w : World} {A : Around} {E : Value -> Shared -> Prop} {s : Shared}
end
section
variable {X : Cx}
end
end L2
namespace Att
open PySem PySem.W PySem.Calls PyProof.Rows
theorem A3{P:Params}{h:Heap}:∀(ns:List Int) (vs:List Value),WellAll P h vs (ns.map WData.int)->IntsAre vs ns:=by
 intro ns
 induction ns with
 | nil=>
  intro vs w
  rw [List.map_nil] at w
  cases w
  exact .nil
 | cons n ns J=>
  intro vs w
  rw [List.map_cons] at w
  cases w with
  | cons a b=>
   cases a
   exact .cons _ _ (J _ b)
theorem CZ{l:OpenLaw}{n:Nat}(hn:l.most=some n){P:Params}{h:Heap}{args:List WData}{vals:List Value}
  (hpre:l.row.toRowW.claim.pre args=true)(hwl:WellAll P h vals args):
  ∃ a vs ns,vals=[Value.ref a]/\args=[WData.list (ns.map WData.int)]/\h.get? a=some {cls:= .type "list",data:= .seq vs.toArray}/\IntsAre vs ns/\ns.length<=n:=by
 have aa:WShape.hasAll [] args [.list .int]=true:=(pre_splitW hpre).1
 have hc:l.pre.holds [] {args:=args}=true:=(pre_splitW hpre).2
 obtain⟨d,r,rfl,h1,h2⟩:=hasAllW_cons aa
 obtain rfl:=hasAllW_nil h2
 obtain⟨xs,rfl,h3⟩:=hasW_list h1
 obtain⟨ns,rfl⟩:=items_int h3
 have hlen:ns.length<=n:=by
  unfold OpenLaw.pre at hc
  have U:(WTm.not (.lt (.lit (.int (n:Int))) (.len (.arg 0)))).holds [] {args:=[.list (ns.map .int)]}=true:=by
   have U:=(holds_andW hc).1
   rw [hn] at U
   exact U
  have h5:=condW_of U (w_not (w_lt w_lit (w_len_list (w_arg rfl))))
  rw [List.length_map] at h5
  refine Nat.le_of_not_lt fun q=>?_
  have q':(n:Int) < ((ns.length:Nat):Int):=by omega
  first
   | (rw [decide_eq_true q'] at h5;exact absurd h5 (by decide))
   | (simp at h5;omega)
 cases hwl with
 | cons w1 w2=>
  cases w2
  cases w1 with
  | list ho J=>exact⟨_,_,ns,rfl,rfl,ho,A3 ns _ J,hlen⟩
theorem Dy(l:OpenLaw)(args:List WData):l.row.toRowW.claim.post args (.bool true) args=true:=
 postW_of (r:=l.row.toRowW) (X:=(true == true))
  (show WShape.has [] (.bool true) .bool=true by first | rfl | decide | simp [WShape.has,WShape.arms,WShape.armsAll])
  (show(WTm.eq .res (.lit (.bool true))).value [] {args:=args,res:=some (.bool true),after:=args}=some (.bool (true == true)) from w_eq_bool (w_res rfl) w_lit) rfl
section
variable {prog : Program} {w : World} {A : Around} {E : Value -> Shared -> Prop} {s : Shared} {K : Frag}
end
end Att
namespace L2
open PySem PySem.Spec PyProof.Rows
theorem zG:∀{vs:List Value} {ns:List Int},IntsAre vs ns->Vals (ns.map V.int) vs
 | _,_,.nil=> .nil
 | _,_,.cons n t h=> .cons ⟨t,rfl⟩ (zG h)
noncomputable def yO(H:Hp):Prop:=∀ b,H b=none\/∃ o xs,H b=some (.frz o (.lst xs))
theorem Bg{P:Program}{w:World}{K:W.Frag}{mg mb:Str->Option Value}{CX:j9}{k:Nat}{fa a:Addr}{fd:FuncData}{x:Str}{sp:Sp}{s₁:Shared}{vs:List Value}{ns:List Int}
  (KX:K.In s₁.heap)(hns:s₁.heap.Ns mainGlobals mg)(hb:s₁.heap.Ns builtinsNs mb)(hbb:∀ x:Str,x≠"__name__"->mb x=bootBuiltins x)(hlim:s₁.heap.NoLimit)(hg:s₁.gens=#[])
  (ha:s₁.heap.get? a=some {cls:= .type "list",data:= .seq vs.toArray})(hi:IntsAre vs ns)(hl:ns.length<=sizeLine)(hr:jE k callerA)
  (F:∀ base:Heap,K.In base->base.Ns mainGlobals mg->hZ P w K mg base CX k fa fd [x] sp)(hbind:∀(s:Shared) (u:Value),BindsTo s fd ⟨[u],[]⟩ [(x,u)])
  (hsp:∀ H:Hp,yO H->gR K H a (ns.map V.int)->sp [.ref a] H (fun v _=>v= .bl true) fun _ _ _=>False)
  (hCX:∀ H e s',CX [] H s₁ (fun _ _ _=>False) e s'->False):
  codeAny (model P w) callerA (.call (.ref fa) ⟨[.ref a],[]⟩) (fun r s'=>r= .ok (.ret (.bool true))/\OldK s₁.heap s'.heap/\s'.os=s₁.os/\AllBare s'.gens) s₁:=by
 have rv:=zG hi
 have aa:=hi.length
 have core:∀ H:Hp,yO H->gR K H a (ns.map V.int)->i8 P w H s₁.heap->(∀ b,H b≠none->b=a)->(H a≠none->K.lookup a=none)->
   codeAny (model P w) callerA (.call (.ref fa) ⟨[.ref a],[]⟩) (fun r s'=>r= .ok (.ret (.bool true))/\OldK s₁.heap s'.heap/\s'.os=s₁.os/\AllBare s'.gens) s₁:=by
  intro H hO hS hok hA hK
  have J:∀{b:Addr} {o:Obj},s₁.heap.get? b=some o->H b=none->(l5 s₁.heap H).get? b=some o:=fun e n=>Ew e n
  have ag:∀{b:Addr} {o:Obj} {es:Array DictEntry} {ep:Nat},s₁.heap.get? b=some o->o.data= .dict es ep->H b=none:=fun{b o es ep} e d=>by
   cases q:H b with
   | none=>rfl
   | some u=>
    have e':b=a:=hA b (by rw [q];simp)
    subst e'
    rw [ha] at e;cases e
    have d':Data.seq vs.toArray _=Data.dict es ep:=d
    cases d'
  have U:∀{b:Addr} {m:Str->Option Value},s₁.heap.Ns b m->(l5 s₁.heap H).Ns b m:=fun{b m} ⟨o,es,ep,e,d,r⟩=>⟨o,es,ep,J e (ag e d),d,r⟩
  have ae:K.In (l5 s₁.heap H):=fun b o e=>J (KX b o e) (by
   cases q:H b with
   | none=>rfl
   | some u=>
    have e':b=a:=hA b (by rw [q];simp)
    subst e'
    rw [hK (by rw [q];simp)] at e;cases e)
  have hM:Mod K mg (l5 s₁.heap H):=⟨ae,U hns,⟨mb,U hb,hbb⟩,let ⟨mc,h1,h2⟩:=hlim;⟨mc,U h1,h2⟩⟩
  have e0:oD P w K mg (l5 s₁.heap H) callerA [] s₁ H:=⟨rfl,hM,fun b o e=>E6 e,Nat.le_of_eq (BU _ _),trivial,fun b hb=>absurd (show b∈([]:List Addr) from hb) (by simp),hok,.of_eq hg⟩
  refine codeAny_mono ((F _ ae (U hns)).run callerA [] s₁ H ⟨[.ref a],[]⟩ [.ref a] [.ref a] _ _ hr e0 (hbind s₁ (.ref a)) (.cons rfl .nil) (hsp H hO hS)) fun r s' h=>?_
  cases r with
  | error e=>exact(hCX H e s' h).elim
  | ok fl=>
   cases fl with
   | next=>exact False.elim h
   | brk=>exact False.elim h
   | cont=>exact False.elim h
   | ret u=>
    obtain⟨v,H',os,bare,un,af,r',q⟩:=h
    have q':v= .bl true:=q
    subst q'
    obtain rfl:u=Value.bool true:=r'
    refine⟨rfl,OldK.of_keep fun b o e=>?_,os,bare⟩
    cases q:H b with
    | none=>exact un.keep b o e q (by intro z;exact absurd (show b∈([]:List Addr) from z) (by simp)) (by simp)
    | some u=>
     rcases hO b with z | ⟨ob,xs,z⟩
     ·rw [q] at z;cases z
     ·have z2:=un.frzs b ob _ z
      obtain⟨e1,_⟩:=hok b _ z
      obtain⟨e2,_⟩:=af b _ z2
      rw [e] at e1;cases e1
      exact e2
 cases hk:K.lookup a with
 | some o=>
  have e:=KX a o hk
  rw [ha] at e
  cases e
  refine core (fun _=>none) (fun _=> .inl rfl) (.inr ⟨_,vs.toArray,_,hk,rfl,rfl,rfl,by rw [List.size_toArray,aa];exact hl,by simpa using rv⟩) (fun b u z=>by have z':(none:Option HO)=some u:=z;cases z') (fun b z=>absurd rfl z) fun z=>absurd rfl z
 | none=>
  refine core (fun b=>if b=a then some (.frz {cls:= .type "list",data:= .seq vs.toArray} (.lst (ns.map V.int))) else none) (fun b=>?_) (.inl (.inr ⟨{cls:= .type "list",data:= .seq vs.toArray},if_pos rfl⟩)) (fun b u z=>?_) (fun b z=>?_) fun _=>hk
  ·by_cases hb:b=a
   ·exact .inr ⟨_,_,if_pos hb⟩
   ·exact .inl (if_neg hb)
  ·by_cases hb:b=a
   ·have z':=(if_pos hb).symm.trans z
    cases z'
    subst hb
    exact⟨ha,by rw [List.length_map];exact hl,vs,_,rv,ha⟩
   ·have z':=(if_neg hb).symm.trans z
    cases z'
  ·by_cases hb:b=a
   ·exact hb
   ·exact absurd (if_neg hb) z
noncomputable abbrev ip{K:W.Frag}{h:Heap}(_:K.In h):W.Frag:=K
noncomputable def lV(s:Stmt):Arguments:=match s with
 | .FunctionDef _ a _ _ _ _ _ _ _ _=>a
 | _=>{posonlyargs:=[],args:=[],vararg:=none,kwonlyargs:=[],kw_defaults:=[],kwarg:=none,defaults:=[]}
noncomputable def kM(s:Stmt):List Stmt:=match s with
 | .FunctionDef _ _ b _ _ _ _ _ _ _=>b
 | _=>[]
noncomputable def iu(s:Stmt):Scope:=match s with
 | .FunctionDef _ _ _ _ _ _ sc _ _ _=>sc
 | _=>{kind:= .function,names:=[],isGenerator:=false,isCoroutine:=false}
noncomputable abbrev iw:j9:=fun _ _ _ _ _ _=>False
noncomputable abbrev E0:XK:=fun _ _ _=>False
theorem iM{X:Cx}:Passes iw X E0:=fun _ _ _ _ _ _ _ h=>h.elim
structure kP (K : W.Frag) (x qual : Str) (st : Stmt) (f : Addr) (fd : FuncData) : Prop where
 ex : ∃ (oc : Value) (od : Option Addr) (kV doc pm : Value) (an : Option Addr) (cdv ct : Value) (osl : Array (Option Value)),
  fd = W.fnOf x qual (lV st) (kM st) (iu st) .none kV doc pm an cdv ct /\ K.lookup f = some ⟨oc, od, .func fd, osl⟩ /\ W.codeIn K cdv qual = true
 kp : W.keepIn K (.ref f) = true
section
variable {P : Program} {w : World} {K : PySem.W.Frag} {mg : Str -> Option Value} {base : Heap}
theorem kP.ok {x qual:Str}{st:Stmt}{f:Addr}{fd:FuncData}{N ps:List Str}{k:Nat}{sp:Sp}(F:kP K x qual st f fd)(S:iU N ps (iu st))(len:∀ vs H Q E,sp vs H Q E->vs.length=ps.length)
  (hbody:∀(cdv:Value) (A:Around) (outer:List Env) (s:Shared) (H:Hp) (vs:List V) (Q:VK) (E:XK),jE k (A.deeper (envOfC qual (iu st) s.heap.objs.size f cdv))->sp vs H Q E->
   ∃ t,iD (iP iw P w K mg base N qual (iu st) f cdv A outer s H E).nox (kM st) t/\t {nx:=fun _ H'=>Q .non H',rt:=Q} (start N vs) H):hZ P w K mg base iw (k + 1) f fd ps sp:=by
 obtain⟨oc,od,kV,doc,pm,an,cdv,ct,aa,rfl,lk,J⟩:=F.ex
 refine tH lk J S len fun A outer s H vs Q E hr U=>?_
 obtain⟨t,h,q⟩:=hbody cdv A outer s H vs Q E hr U
 exact⟨t,h.nox,q⟩
theorem kP.binds {x qual:Str}{st:Stmt}{f:Addr}{fd:FuncData}{ps:List Str}(F:kP K x qual st f fd)
  (h:∀(kV doc pm:Value) (an:Option Addr) (cdv ct:Value) (us:List Value),us.length=ps.length->bindArgs (W.fnOf x qual (lV st) (kM st) (iu st) .none kV doc pm an cdv ct) ⟨us,[]⟩=pure (ps.zip us)):Binds K fd ps []:=by
 obtain⟨oc,od,kV,doc,pm,an,cdv,ct,J,rfl,lk,U⟩:=F.ex
 exact .all (h kV doc pm an cdv ct)
theorem wg{x qual:Str}{st:Stmt}{f:Addr}{oc:Value}{od an:Option Addr}{osl:Array (Option Value)}{kV doc pm cdv ct:Value}(l:K.lookup f=some ⟨oc,od,.func (W.fnOf x qual (lV st) (kM st) (iu st) .none kV doc pm an cdv ct),osl⟩)
  (c:W.codeIn K cdv qual=true)(k:W.keepIn K (.ref f)=true):kP K x qual st f (W.fnOf x qual (lV st) (kM st) (iu st) .none kV doc pm an cdv ct):=⟨⟨oc,od,kV,doc,pm,an,cdv,ct,osl,rfl,l,c⟩,k⟩
end
section
variable {X : Cx}
theorem pv(i:Nat){x:Str}{pos:Pos}(hN:X.N[i]? =some x:=by rfl)(hv:pK X.env.scope x:=by first | exact Or.inl rfl | exact Or.inr (Or.inl rfl) | exact Or.inr (Or.inr rfl))(hd:(x == ("__debug__":Str))=false:=by decide)
  (hcd:(x == ("__classdict__":Str))=false:=by decide):PE X (.Name x pos) (qa i):=Fp hN hv hd hcd
end
theorem g8{A B:Prop}(h:B):if false=true then A else B:=by
 rw [if_neg Bool.false_ne_true]
 exact h
theorem gU{A B:Prop}(h:A):if true=true then A else B:=by
 rw [if_pos rfl]
 exact h
theorem kY{c A B:Prop} [Decidable c] (h1:c->A)(h2:¬ c->B):if c then A else B:=by
 by_cases h:c
 ·rw [if_pos h]
  exact h1 h
 ·rw [if_neg h]
  exact h2 h
noncomputable def gO(H H':Hp):Prop:=∀ b o,H b=some o->H' b=some o
theorem gO.refl (H:Hp):gO H H:=fun _ _ h=>h
theorem gO.trans {H H1 H2:Hp}(a:gO H H1)(b:gO H1 H2):gO H H2:=fun c o h=>b c o (a c o h)
theorem gO.free {H H':Hp}(e:gO H H'){l:Addr}(h:H' l=Option.none):H l=Option.none:=by
 cases q:H l with
 | none=>rfl
 | some o=>
  rw [e l o q] at h
  cases h
theorem gO.seq {K:W.Frag}{H H':Hp}{a:Addr}{xs:List V}(e:gO H H')(h:gR K H a xs):gR K H' a xs:=by
 rcases h with (h | ⟨o,h⟩) | h
 ·exact .inl (.inl (e _ _ h))
 ·exact .inl (.inr ⟨o,e _ _ h⟩)
 ·exact .inr h
end L2
set_option maxHeartbeats 4000000
namespace L2
open PySem PySem.Spec PyProof.Rows
section
variable {X : Cx}
theorem HS:kH X "str.lower" (fun x xs H Q=>∃ z,x= .str z/\xs=[]/\z.length<=5592405/\Q (.str (Txt.lower z)) H):=by
 intro pins s σ H x xs v us Q I J rs h
 obtain⟨z,rfl,rfl,hz,q⟩:=h
 obtain⟨t,rfl⟩:=J
 cases rs
 exact SCL.lower hz fun _=>⟨.str _,H,I.tok _,⟨_,rfl⟩,q⟩
theorem vw:kH X "str.upper" (fun x xs H Q=>∃ z,x= .str z/\xs=[]/\z.length<=5592405/\Q (.str (Txt.upper z)) H):=by
 intro pins s σ H x xs v us Q I J rs h
 obtain⟨z,rfl,rfl,hz,q⟩:=h
 obtain⟨t,rfl⟩:=J
 cases rs
 exact SCL.upper hz fun _=>⟨.str _,H,I.tok _,⟨_,rfl⟩,q⟩
theorem Bx:kH X "str.strip" (fun x xs H Q=>∃ z,x= .str z/\xs=[]/\z.length<=sizeLine/\Q (.str (Txt.strip z)) H):=by
 intro pins s σ H x xs v us Q I J rs h
 obtain⟨z,rfl,rfl,hz,q⟩:=h
 obtain⟨t,rfl⟩:=J
 cases rs
 exact SCL.strip (fun t' k _=>⟨.str _,H,I.tok _,⟨_,rfl⟩,q⟩) hz
theorem DD(hc:X.calm=true):kH X "str.index" (fun x xs H Q=>∃ z y,x= .str z/\xs=[.str y]/\(Builtin.Str.occurrences z y 0 z.length 1).isEmpty=false/\Q (.int (Txt.find z y)) H):=by
 intro pins s σ H x xs v us Q I J rs h
 obtain⟨z,y,rfl,rfl,hz,q⟩:=h
 obtain⟨t,rfl⟩:=J
 obtain⟨u,rfl,t',rfl⟩:=vals1 rs
 refine index_or (I.ok.hd hc) (fun _ e=>?_) fun _ _=>⟨.int _,H,I.tok _,⟨_,rfl⟩,q⟩
 rw [hz] at e
 cases e
theorem zR:∀{ys:List Str} {us:List Value},Vals (ys.map V.str) us->StrsAre us ys
 | [],_,.nil=> .nil
 | y::ys,_,.cons r t=>by
  obtain⟨k,e⟩:=(show ∃ k,_=Value.str y k from r)
  subst e
  exact .cons y k (zR t)
theorem uT:kH X "str.join" (fun x xs H Q=>∃ z p ys,x= .str z/\xs=[.ref p]/\gR X.K H p (ys.map V.str)/\(ys.map (·.length)).sum + ys.length * z.length<=16777216/\Q (.str (Txt.join z ys)) H):=by
 intro pins s σ H x xs v us Q I J rs h
 obtain⟨z,p,ys,rfl,rfl,U,hz,q⟩:=h
 obtain⟨t,rfl⟩:=J
 obtain⟨u,rfl,r1⟩:=vals1 rs
 cases r1
 obtain⟨aa,r,pl,_⟩:=I.list U
 exact join_list pl.isList (by simpa using zR r) hz fun t' k=>⟨.str _,H,I.tok _,⟨_,rfl⟩,q⟩
noncomputable def Gy:V->Option Int->Option Int->Hp->VK->Prop:=fun x lo hi H Q=>∃ z,x= .str z/\z.length<=sizeLine/\Q (.str (Txt.slice z lo hi)) H
theorem jU:rF X Gy:=by
 intro pins s σ H x v vl vu lo hi sl Q I rx J pl pu h
 obtain⟨z,rfl,hz,q⟩:=h
 obtain⟨t,rfl⟩:=rx
 refine⟨"str",_,F.slot_str_getitem.lookup,typeIs_str _ _ _,?_⟩
 cases pl with
 | none=>
  cases pu with
  | none=>exact wpAny_getItem_str_slice (l:=none) (u:=none) (st:=none) J rfl (post_val_or_str ⟨Nat.le_trans (Txt.slice_le z _ _) hz,fun t' k=>⟨.str (Txt.slice z none none),H,I.tok _,⟨_,rfl⟩,q⟩⟩)
  | int j U=>exact wpAny_getItem_str_slice (l:=none) (u:=some (j,U)) (st:=none) J rfl (post_val_or_str ⟨Nat.le_trans (Txt.slice_le z _ _) hz,fun t' k=>⟨.str (Txt.slice z none (some j)),H,I.tok _,⟨_,rfl⟩,q⟩⟩)
 | int i ti=>
  cases pu with
  | none=>exact wpAny_getItem_str_slice (l:=some (i,ti)) (u:=none) (st:=none) J rfl (post_val_or_str ⟨Nat.le_trans (Txt.slice_le z _ _) hz,fun t' k=>⟨.str (Txt.slice z (some i) none),H,I.tok _,⟨_,rfl⟩,q⟩⟩)
  | int j U=>exact wpAny_getItem_str_slice (l:=some (i,ti)) (u:=some (j,U)) (st:=none) J rfl (post_val_or_str ⟨Nat.le_trans (Txt.slice_le z _ _) hz,fun t' k=>⟨.str (Txt.slice z (some i) (some j)),H,I.tok _,⟨_,rfl⟩,q⟩⟩)
theorem xD:jg X (compareOp .LtE) (fun x y H Q=>∃ i j,x= .str i/\y= .str j/\Q (.bl (!(decide (j.cps.toList < i.cps.toList)))) H):=by
 intro pins s σ H x y v u Q I J U h
 obtain⟨i,j,rfl,rfl,q⟩:=h
 obtain⟨t,rfl⟩:=J
 obtain⟨t',rfl⟩:=U
 exact PySem.P.le_str ⟨.bl _,H,I,rfl,q⟩
mutual
inductive km (K : PySem.W.Frag) (H : Hp) : V -> PyData -> Prop
 | non : km K H .non .none
 | bl (b : Bool) : km K H (.bl b) (.bool b)
 | int (i : Int) : km K H (.int i) (.int i)
 | str (x : Str) : km K H (.str x) (.str x)
 | lst {a : Addr} {xs : List V} {ds : List PyData} : gR K H a xs -> kr K H xs ds -> km K H (.ref a) (.list ds)
 | tup {a : Addr} {xs : List V} {ds : List PyData} : ia K H a xs -> kr K H xs ds -> km K H (.ref a) (.tuple ds)
inductive kr (K : PySem.W.Frag) (H : Hp) : List V -> List PyData -> Prop
 | nil : kr K H [] []
 | cons {x : V} {xs : List V} {d : PyData} {ds : List PyData} : km K H x d -> kr K H xs ds -> kr K H (x :: xs) (d :: ds)
end
mutual
theorem km.reads {pins : List (Addr × Obj)} {σ : St} {H : Hp} {s : Shared} (I : Inv X pins σ H s) : ∀ {x : V} {d : PyData} {u : Value}, km X.K H x d -> RelV x u -> ∃ as, Reads s.heap u d as
 | _, _, _, .non, r => by cases r; exact ⟨_, .none⟩
 | _, _, _, .bl b, r => by cases r; exact ⟨_, .bool b⟩
 | _, _, _, .int i, r => by obtain ⟨t, rfl⟩ := r; exact ⟨_, .int i t⟩
 | _, _, _, .str x, r => by obtain ⟨t, rfl⟩ := r; exact ⟨_, .str x t⟩
 | _, _, _, .lst hq hs, r => by
  cases r
  obtain ⟨its, rv, ⟨o, n, e, c, _, d⟩, _⟩ := I.list hq
  obtain ⟨as, ra⟩ := kr.reads I hs rv
  exact ⟨_, .list e c d (by simpa using ra)⟩
 | _, _, _, .tup hq hs, r => by
  cases r
  obtain ⟨its, rv, ⟨o, e, c, n, d⟩, _⟩ := I.tuple hq
  obtain ⟨as, ra⟩ := kr.reads I hs rv
  exact ⟨_, .tuple e c d (by simpa using ra)⟩
theorem kr.reads {pins : List (Addr × Obj)} {σ : St} {H : Hp} {s : Shared} (I : Inv X pins σ H s) : ∀ {xs : List V} {ds : List PyData} {us : List Value}, kr X.K H xs ds -> Vals xs us -> ∃ as, ReadsAll s.heap us ds as
 | _, _, _, .nil, .nil => ⟨_, .nil⟩
 | _, _, _, .cons h hs, .cons r rs => by
  obtain ⟨as, ra⟩ := km.reads I h r
  obtain ⟨bs, rb⟩ := kr.reads I hs rs
  exact ⟨_, .cons ra rb⟩
end
noncomputable def FT(X:Cx):R2:=fun x y H Q=>∃ dx J,km X.K H x dx/\km X.K H y J/\dx.canLay0=true/\J.canLay0=true/\min dx.depth J.depth<=100/\Q (.bl (PyData.eqv dx J)) H
noncomputable def Be(X:Cx):R2:=fun x y H Q=>∃ dx J,km X.K H x dx/\km X.K H y J/\dx.canLay0=true/\J.canLay0=true/\min dx.depth J.depth<=100/\Q (.bl (!PyData.eqv dx J)) H
theorem oS(hu:X.A.units + 100 < cLine):jg X (compareOp .Eq) (FT X):=by
 intro pins s σ H x y v u Q I rx ry h
 obtain⟨dx,dy,hx,hy,J,U,hd,q⟩:=h
 obtain⟨as,ra⟩:=hx.reads I rx
 obtain⟨bs,rb⟩:=hy.reads I ry
 exact SeqAt.compareEq_reads ra rb J U (by(clear U J;omega)) ⟨.bl _,H,I,rfl,q⟩
theorem nF(hu:X.A.units + 100 < cLine):jg X (compareOp .NotEq) (Be X):=by
 intro pins s σ H x y v u Q I rx ry h
 obtain⟨dx,dy,hx,hy,J,U,hd,q⟩:=h
 obtain⟨as,ra⟩:=hx.reads I rx
 obtain⟨bs,rb⟩:=hy.reads I ry
 exact SeqAt.compareNe_reads ra rb J U (by(clear U J;omega)) ⟨.bl _,H,I,rfl,q⟩
theorem sO:∀{bs:List Bool} {us:List Value},Vals (bs.map V.bl) us->∀(i:Nat) (v:Value),us[i]? =some v->∃ b,bs[i]? =some b/\v= .bool b
 | [],_,.nil,i,v,h=>by simp at h
 | b::bs,_,.cons r t,0,v,h=>by
  have J:_=Value.bool b:=r
  subst J
  simp at h
  exact⟨b,by simp,h.symm⟩
 | b::bs,_,.cons r t,i + 1,v,h=>by
  obtain⟨c,U,e2⟩:=sO t i v (by simpa using h)
  exact⟨c,by simpa using U,e2⟩
theorem Dr(hc:X.calm=true):kQ X (.builtin "all") (fun xs H Q=>∃(p:Addr) (bs:List Bool),xs=[.ref p]/\gR X.K H p (bs.map V.bl)/\Q (.bl (bs.all id)) H):=by
 intro pins s σ H xs us Q I r h
 obtain⟨p,bs,rfl,hq,q⟩:=h
 obtain⟨u,rfl,rx⟩:=vals1 r
 cases rx
 obtain⟨J,rv,pl,hz⟩:=I.list hq
 have U:=pl.isList
 have hlen:=rv.length
 rw [List.length_map] at hlen
 have aa:p < s.heap.objs.size:=by obtain⟨_,e,_⟩:=U;exact Heap.lt_size e
 refine call_all_walk (wpAny_pyIter_list U ?_)
 refine⟨s.heap.objs.size,[s.heap.objs.size,p],[s.heap.objs.size],J.toArray.size,_,_,fun i=>(bs[i]?).getD true,rfl,Walks.list (A:=X.A.in1) (I.ok.hd hc) _ p (Nat.ne_of_lt aa) J.toArray,
  ⟨⟨_,Heap.get?_push_size _ rfl,rfl,rfl⟩,U.push _⟩,fun i v s' Q' E' hP hQ=>?_,fun h' tk hk=>?_⟩
 ·obtain⟨b,e,rfl⟩:=sO rv i v (by simpa using hP)
  simp only [e,Option.getD_some] at hQ
  exact wpAny_truthy_bool hQ
 ·have e:((List.range J.toArray.size).all fun i=>(bs[i]?).getD true)=bs.all id:=by
   rw [List.size_toArray,<-hlen];exact LSm.range_all bs
  rw [e]
  exact⟨.bl _,H,I.kept (LSm.kept_iter hk),rfl,q⟩
theorem kB:kQ X (.builtin "isinstance") (fun xs H Q=>∃ x c t b,xs=[x,c]/\jQ X.K H x t/\
  ((∃ n,c= .ty n/\W.kitOne X.K t (.type n)=some b)\/(∃ C,c= .ref C/\W.kitOne X.K t (.ref C)=some b))/\Q (.bl b) H):=by
 intro pins s σ H xs us Q I r h
 obtain⟨x,c,t,b,rfl,ty,hc,q⟩:=h
 obtain⟨u,U,rfl,J,rc⟩:=vals2 r
 rcases hc with ⟨n,rfl,e⟩ | ⟨C,rfl,e⟩
 ·cases rc
  exact xb I J ty e fun tk=>⟨.bl b,H,I.tok tk,rfl,q⟩
 ·cases rc
  exact xb I J ty e fun tk=>⟨.bl b,H,I.tok tk,rfl,q⟩
end
section
variable {X : Cx} {pins : List (Addr × Obj)} {σ : St} {H H' : Hp} {s : Shared} {h' : Heap}
theorem Inv.track {a:Addr}{o:HO}(I:Inv X pins σ H s)(hs:X.s₀.heap.get? a=none\/a∈X.ex)(hn:H a=none)(hL:a≠X.env.locals)(hC:∀ x c,X.env.cells.lookup x=some c->c≠a)(hp:∀ p∈X.pn++pins,p.1≠a)
  (new:jc X.prog X.w (upd H a o) s.heap a o):Inv X pins σ (upd H a o) s:=by
 refine⟨I.ok,I.os,I.bare,⟨I.base.keep,I.base.slot,fun b U e n hx=>?_,I.base.there,fun b xs e=>?_,fun b U u e=>?_,fun b ps e=>?_⟩,I.loc,I.cell,?_,fun x c e=>?_,fun p J=>?_,fun b u e=>?_,I.len⟩
 ·have hb:b≠a:=by
   rintro rfl
   rcases hs with z | z
   ·rw [z] at e;cases e
   ·exact hx z
  rw [ig hb]
  exact I.base.free b U e n hx
 ·have q:=I.base.tups b xs e
  rw [ig (jo q hn)];exact q
 ·have q:=I.base.frzs b U u e
  rw [ig (jo q hn)];exact q
 ·obtain⟨m,q⟩:=I.base.tbls b ps e
  exact⟨m,by rw [ig (jo q hn)];exact q⟩
 ·rw [ig (Ne.symm hL)];exact I.free
 ·rw [ig (hC x c e)];exact I.freeC x c e
 ·obtain⟨e,n,r⟩:=I.pin p J
  exact⟨e,by rw [ig (hp p J)];exact n,r⟩
 ·by_cases hb:b=a
  ·subst hb;rw [gY] at e;cases e;exact new
  ·rw [ig hb] at e
   exact(I.hok b u e).stay (fun c v _ q=>q) (fun c q=>by rw [ig (jo q hn)];exact q) fun c xs q=>by rw [ig (jo q hn)];exact q
theorem Inv.turnedL {t':Nat}{fp:List Addr}(I:Inv X pins σ H s)(k:∀ b o,b∉fp->s.heap.get? b=some o->h'.get? b=some o)(hf:∀ b∈fp,lF X pins H b):Inv X pins σ H {s with heap:=h',toks:=t'}:=by
 have J:∀ b u,H b=some u->b∉fp:=fun b u e z=>by rw [(hf b z).1] at e;cases e
 refine I.step (g':=s.gens) (d':=s.drawn) (ch:=fp) (fun b hb=>?_) (fun b o _ _ hc e _=>k b o hc e) (fun b o _ _ hc e _=>⟨o.slots,k b o hc e⟩) (fun _ _ _ _ n=>n)
  (fun b o hc e=>⟨o,k b o hc e⟩) (fun _ _ e=>e) (fun _ _ _ e=>e) (fun b ps e=>⟨#[],by rw [e];simp⟩) (fun m hm=>?_) (fun b u e=>?_) I.bare
 ·obtain⟨f0,f1,f2,U,f4,f5⟩:=hf b hb
  exact⟨U,f1,f4,f5⟩
 ·obtain⟨o,es,ep,ho,r⟩:=hm
  exact⟨o,es,ep,k _ o (fun z=>(hf _ z).2.1 rfl) ho,r⟩
 ·refine(I.hok b u e).stay (fun c v hc q=>k c v ?_ q) (fun _ q=>q) fun _ _ q=>q
  rcases hc with z | z
  ·rw [z];exact J b u e
  ·exact J c _ z
end
noncomputable def sY(x:Str):It:=⟨fun i _=>i < x.cps.size,fun i H v H'=>H'=H/\∃ c,x.cps[i]? =some c/\v= .str ⟨#[c]⟩,fun i _=>i=x.cps.size⟩
theorem Au{P:Program}{w:World}{A:Around}(hh:A.handled=none)(I:Addr)(x:Str)(t:Tok):Walks P w A I [I] [I] x.cps.size (SignAt x) (fun i h=>h.IsStrIter I (strIterType x) x t i):=by
 unfold strIterType
 cases x.cps.all (· < 128)
 ·exact Walks.strWide hh I x t
 ·exact Walks.strAscii hh I x t
theorem CW{x:Str}:["enumerate","zip","dict_itemiterator","dict_reverseitemiterator","odict_iterator","itertools.zip_longest","itertools.pairwise"].contains (strIterType x)=false:=by
 unfold strIterType
 cases x.cps.all (· < 128)<;>decide
theorem C7{P:Program}{w:World}{K:W.Frag}{tg:Expr}(x:Str)(t:Tok)(it:Addr):Turn P w K tg (sY x) [it] it (fun i h=>h.IsStrIter it (strIterType x) x t i) where
 mem:=by simp
 obj:=fun i h st b hb=>by
  have e:b=it:=by simpa using hb
  subst e
  obtain⟨o,e,c,d⟩:=st
  exact⟨o,e,fun v z=>by rw [d] at z;cases z⟩
 keep:=fun i h h' st k=>by
  obtain⟨o,e,r⟩:=st
  exact⟨o,k it (by simp) o e,r⟩
 item:=by
  intro X U hw hK hc i pins s σ H E I hf st hg
  subst U hw hK
  refine(Au (P:=X.prog) (w:=X.w) (I.ok.hd hc) it x t).item i s _ _ hg st fun v h' tk hv J kk=>?_
  obtain⟨c,u,aa,rfl⟩:=hv
  have I1:Inv X pins σ H {s with heap:=h',toks:=tk}:=I.turnedL kk hf
  obtain⟨o,e,c2,d⟩:=id J
  exact⟨_,rfl,rK (s:={s with heap:=h',toks:=tk}) e c2 d CW ⟨.str ⟨#[c]⟩,H,I1,⟨u,rfl⟩,⟨rfl,c,aa,rfl⟩,J,fun b hb=>(hf b hb).1⟩⟩
 done:=by
  intro X U hw hK hc i pins s σ H E I hf st hg
  subst U hw hK
  have ae:i=x.cps.size:=hg
  subst ae
  exact(Au (P:=X.prog) (w:=X.w) (I.ok.hd hc) it x t).done s _ _ st fun h' tk kk=>⟨rfl,I.turnedL kk hf⟩
 self:=fun A i s Q E st h=>by
  revert st
  unfold strIterType
  cases x.cps.all (· < 128)
  ·exact fun st=>wpAny_pyIter_striter_wide st h
  ·exact fun st=>wpAny_pyIter_striter_ascii st h
noncomputable def Hc(tl:TE):TI:=fun σ H R=>tl σ H fun v H1=>∃ x,v= .str x/\R (sY x) H1
section
variable {X : Cx} {tg : Expr}
theorem yW{l:Expr}{tl:TE}(hl:PE X l tl):PI X tg l (Hc tl):=by
 intro pins s σ H R I h
 refine ic (hl pins s σ H _ I h) fun v s1 ⟨y,H1,J,U,x,e,q⟩=>?_
 subst e
 obtain⟨t,rfl⟩:=U
 refine wpAny_pyIter_strU ?_
 refine⟨s1.heap.objs.size,[s1.heap.objs.size],_,_,H1,rfl,J.kept (t':=s1.toks) fun b o e=>Heap.get?_push_of_some _ e,C7 x t _,⟨_,Heap.get?_push_size _ rfl,rfl,rfl⟩,fun b hb=>?_,q⟩
 have e:b=s1.heap.objs.size:=by simpa using hb
 subst e
 exact J.fpOk (Nat.le_refl _) (J.hok.fresh (Nat.le_refl _))
end
theorem vJ{P:Program}{w:World}{A:Around}(hh:A.handled=none)(it:Addr)(x:Str)(t:Tok):
  Draws P w A it [it] x.cps.size (fun i v=>∃ c u,x.cps[i]? =some c/\v= .str ⟨#[c]⟩ u) (fun i h=>h.IsStrIter it (strIterType x) x t i):=by
 unfold strIterType
 cases x.cps.all (· < 128)
 ·exact Draws.strWide hh it x t
 ·exact Draws.strAscii hh it x t
noncomputable def pG(x:Str):It:=⟨fun i _=>i < x.cps.size,fun i H v H'=>∃ T c,H T=none/\x.cps[i]? =some c/\v= .ref T/\H'=upd H T (.tup [.int i,.str ⟨#[c]⟩]),fun i _=>i=x.cps.size⟩
theorem GP{P:Program}{w:World}{K:PySem.W.Frag}{elts:List Expr}{k:Nat}{pos:Pos}(x:Str)(t:Tok)(e it:Addr)(hei:e≠it):
  Turn P w K (.Tuple elts k pos) (pG x) [e,it] e (fun i h=>(∃ old,IsEnum h e it i old)/\h.IsStrIter it (strIterType x) x t i) where
 mem:=by simp
 obj:=fun i h st b hb=>by
  obtain⟨⟨old,he⟩,o,ho,c,d⟩:=st
  rcases List.mem_cons.mp hb with rfl | hb
  ·exact⟨_,he,fun v z=>nomatch z⟩
  ·have e:b=it:=by simpa using hb
   subst e
   exact⟨o,ho,fun v z=>by rw [d] at z;cases z⟩
 keep:=fun i h h' st U=>by
  obtain⟨⟨old,he⟩,o,ho,r⟩:=st
  exact⟨⟨old,U e (by simp) _ he⟩,o,U it (by simp) o ho,r⟩
 item:=by
  intro X hP hw hK hc i pins s σ H E I hf st hg
  subst hP hw hK
  have W:=WalksT.enumerateD (vJ (P:=X.prog) (w:=X.w) (A:=X.A.in1) (I.ok.hd hc) it x t) e hei (by simpa using hei) (by simp)
  refine W.item i s _ _ hg st fun T vals h' tk hv hT ht mid U=>⟨_,rfl,?_⟩
  obtain⟨t',y,⟨c,u,hx,rfl⟩,rfl⟩:=hv
  refine W.go elts k pos i T _ _ _ mid fun J aa ae=>?_
  have keep:∀ b o,b∉[e,it]->s.heap.get? b=some o->J.get? b=some o:=fun b o hb q=>ae b o hb (U b o hb q)
  have I1:Inv X pins σ H {s with heap:=J,toks:=tk}:=I.turnedL keep hf
  have hn:H T=none:=I.hok.fresh hT
  have af:T∉[e,it]:=W.apart i T h' mid
  obtain⟨ot,ag,ah,n,ak⟩:=ht
  have I2:Inv X pins σ (upd H T (.tup [.int i,.str ⟨#[c]⟩])) {s with heap:=J,toks:=tk}:=by
   refine I1.track (.inl (Heap.get?_none_of_le (Nat.le_trans I.sz hT))) hn (Nat.ne_of_gt (Nat.lt_of_lt_of_le I.lt hT)) (fun y c' q z=>?_) (fun p hp z=>?_) ?_
   ·obtain⟨v,q'⟩:=I.cell y c' q
    exact absurd (Nat.lt_of_lt_of_le q'.lt (by rw [z];exact hT)) (Nat.lt_irrefl _)
   ·exact absurd (Nat.lt_of_lt_of_le (Heap.lt_size (I.pin p hp).1) (by rw [z];exact hT)) (Nat.lt_irrefl _)
   ·exact⟨by show 2<=sizeLine;decide,[.int i t',.str ⟨#[c]⟩ u],.cons ⟨_,rfl⟩ (.cons ⟨_,rfl⟩ .nil),ot,ae T ot af ag,ah,n,ak⟩
  refine⟨.ref T,_,I2,rfl,⟨T,c,hn,hx,rfl,rfl⟩,aa,fun b hb=>?_⟩
  have ao:b≠T:=fun z=>af (z ▸ hb)
  rw [ig ao]
  exact(hf b hb).1
 done:=by
  intro X hP hw hK hc i pins s σ H E I hf st hg
  subst hP hw hK
  have aq:i=x.cps.size:=hg
  subst aq
  have W:=WalksT.enumerateD (vJ (P:=X.prog) (w:=X.w) (A:=X.A.in1) (I.ok.hd hc) it x t) e hei (by simpa using hei) (by simp)
  exact W.done s _ _ st fun h' tk U=>⟨rfl,I.turnedL U hf⟩
 self:=fun A i s Q E st h=>by
  obtain⟨⟨old,he⟩,_⟩:=st
  exact wpAny_pyIter_enum he h
noncomputable def Ct(ta:TA):TI:=fun σ H R=>ta σ H fun vs H1=>∃ x,vs=[.str x]/\R (pG x) H1
section
variable {X : Cx}
theorem Ay{elts:List Expr}{k:Nat}{tpos p pos:Pos}{a:Expr}{ta:TA}(hg:Gl X "enumerate")(hm:X.mg "enumerate"=none)(ha:PA X [a] ta)(hs:starEach [a] X.env=[(false,eval a X.env)]:=by rfl):
  PI X (.Tuple elts k tpos) (.Call (.Name "enumerate" p) [a] [] pos) (Ct ta):=by
 intro pins s σ H R I h
 refine Call_ (kX I hg hm boot_enumerate (PyProof.Rows.callWith_type1 (ic (ha pos pins s σ H _ I h) fun us s1 ⟨vs,H1,J,U,q1⟩=>?_) hs rfl))
 obtain⟨x,e,q⟩:=q1
 subst e
 obtain⟨u,rfl,t,rfl⟩:=vals1 U
 refine call_enumerate_str fun h' he hit aa hk=>?_
 refine wpAny_pyIter_enum he ?_
 refine⟨s1.heap.objs.size + 1,[s1.heap.objs.size + 1,s1.heap.objs.size],_,_,H1,rfl,J.kept (t':=s1.toks) hk,GP x t _ _ (Nat.succ_ne_self _),⟨⟨_,he⟩,hit⟩,fun b hb=>?_,q⟩
 rcases List.mem_cons.mp hb with rfl | hb
 ·exact J.fpOk (Nat.le_succ _) (J.hok.fresh (Nat.le_succ _))
 ·have e:b=s1.heap.objs.size:=by simpa using hb
  subst e
  exact J.fpOk (Nat.le_refl _) (J.hok.fresh (Nat.le_refl _))
end
theorem ET{x:Str}{g:TG}{tb:TS}{D:Ends}{σ:St}{H:Hp}(Pv:Nat->St->Hp->Prop)(h0:Pv 0 σ H)
  (hs:∀ i c σ H T,x.cps[i]? =some c->Pv i σ H->H T=none->g (.ref T) σ (upd H T (.tup [.int i,.str ⟨#[c]⟩])) fun σ2 H2=>tb {D with nx:=Pv (i + 1),ct:=Pv (i + 1),bk:=D.nx} σ2 H2)(hd:∀ σ H,Pv x.cps.size σ H->D.nx σ H):
  ∃ W:Nat->Nat->St->Hp->Prop,(∃ m,W 0 m σ H)/\∀ i m σ H,W i m σ H->
   ((pG x).stop i H/\D.nx σ H)\/((pG x).go i H/\∃ N:St->Hp->Prop,(∀ σ' H',N σ' H'->∃ m',m' < m/\W (i + 1) m' σ' H')/\∀ y H',(pG x).yld i H y H'->g y σ H' fun σ2 H2=>tb {D with nx:=N,ct:=N,bk:=D.nx} σ2 H2):=by
 refine⟨fun i m σ H=>m=x.cps.size - i/\i<=x.cps.size/\Pv i σ H,⟨x.cps.size,by simp,Nat.zero_le _,h0⟩,?_⟩
 rintro i m σ H ⟨rfl,hi,p⟩
 by_cases J:i < x.cps.size
 ·refine .inr ⟨J,Pv (i + 1),fun σ' H' U=>⟨x.cps.size - (i + 1),by(clear hi;omega),rfl,J,U⟩,fun y H' q=>?_⟩
  obtain⟨T,c,hT,hc,e,e2⟩:=q
  subst e e2
  exact hs i c σ _ T hc p hT
 ·have e:i=x.cps.size:=by omega
  subst e
  exact .inl ⟨rfl,hd σ H p⟩
open PySem
noncomputable def lD(env:Env):List (Str×NameKind)->List (Str×Addr)->List (Str×Addr)
 | [],cs=>cs
 | (n,k)::r,cs=>lD env r (if (k == NameKind.free)=true then (n,(env.cells.lookup n).getD 0)::cs else cs)
theorem Ga{scope:Scope}{env:Env}(h:∀ x∈scope.names,x.2= .free->∃ c,env.cells.lookup x.1=some c):closureFor scope env=pure (lD env scope.names []):=by
 unfold closureFor
 have go:∀(names:List (Str×NameKind)) (cs:List (Str×Addr)),(∀ x∈names,x.2= .free->∃ c,env.cells.lookup x.1=some c)->
   (forIn names cs fun(x:Str×NameKind) (r:List (Str×Addr))=>(match x with
    | (name,kind)=>if (kind == NameKind.free)=true then do let a<-cellOf env name;pure (ForInStep.yield ((name,a)::r)) else pure (ForInStep.yield r):Sem (ForInStep (List (Str×Addr)))))=pure (lD env names cs):=by
  intro names
  induction names with
  | nil=>intro cs _;rfl
  | cons x r J=>
   intro cs h
   obtain⟨n,k⟩:=x
   rw [List.forIn_cons]
   have U:=fun y hy=>h y (List.mem_cons_of_mem _ hy)
   cases hk:(k == NameKind.free) with
   | false=>
    simp only [hk,Bool.false_eq_true,if_false]
    show(pure (ForInStep.yield cs) >>= _:Sem _)=_
    simp only [pure_bind]
    rw [J cs U]
    simp only [lD,hk,Bool.false_eq_true,if_false]
   | true=>
    obtain⟨c,hc⟩:=h (n,k) List.mem_cons_self (by simpa using hk)
    have e:cellOf env n=pure c:=by unfold cellOf;rw [show env.cells.lookup n=some c from hc]
    simp only [hk,if_true,e,pure_bind]
    rw [J _ U]
    simp only [lD,hk,if_true]
    rw [show env.cells.lookup n=some c from hc]
    rfl
 exact congrArg (fun m:Sem (List (Str×Addr))=>m >>= fun r=>pure r) (go scope.names [] h)
theorem xG{env:Env}{x:Str}{c:Addr}:∀{names:List (Str×NameKind)} {cs:List (Str×Addr)},(lD env names cs).lookup x=some c->cs.lookup x=some c\/((x,NameKind.free)∈names/\c=(env.cells.lookup x).getD 0)
 | [],_,h=> .inl h
 | (n,k)::r,cs,h=>by
  rcases xG (names:=r) h with q | ⟨q,e⟩
  ·cases hk:(k == NameKind.free) with
   | false=>rw [hk] at q;exact .inl q
   | true=>
    rw [hk,if_pos rfl] at q
    have J:k=NameKind.free:=by simpa using hk
    subst J
    cases hx:x == n with
    | true=>
     rw [List.lookup_cons,hx] at q
     have e:x=n:=by simpa using hx
     subst e
     exact .inr ⟨List.mem_cons_self,(Option.some.inj q).symm⟩
    | false=>
     rw [List.lookup_cons,hx] at q
     exact .inl q
  ·exact .inr ⟨List.mem_cons_of_mem _ q,e⟩
theorem rN{env:Env}{x:Str}:∀{names:List (Str×NameKind)} {cs:List (Str×Addr)},(x,NameKind.free)∈names\/(∃ c,cs.lookup x=some c)->∃ c,(lD env names cs).lookup x=some c
 | [],_,h=>by
  rcases h with h | h
  ·cases h
  ·exact h
 | (n,k)::r,cs,h=>by
  refine rN (names:=r) ?_
  rcases h with h | ⟨c,h⟩
  ·rcases List.mem_cons.mp h with e | e
   ·cases e
    refine .inr ⟨(env.cells.lookup x).getD 0,?_⟩
    rw [if_pos (by rfl),List.lookup_cons]
    simp
   ·exact .inl e
  ·refine .inr ?_
   cases hk:(k == NameKind.free) with
   | false=>exact⟨c,h⟩
   | true=>
    rw [if_pos rfl,List.lookup_cons]
    cases hx:x == n with
    | true=>exact⟨_,rfl⟩
    | false=>exact⟨c,h⟩
theorem zJ{env:Env}(hf:env.scope.kind= .function):∀{names:List (Str×NameKind)} {x:Str},names.lookup x=some .free->env.kindOf x=some .cell->
  (names.map fun(n,k)=>if (k == NameKind.free && env.scope.kind == .function && env.kindOf n == some .cell) then (n,NameKind.cell) else (n,k)).lookup x=some .cell
 | [],_,h,_=>by simp at h
 | (n,k)::r,x,h,hc=>by
  have U:=@zJ env hf r x
  show List.lookup x ((if (k == NameKind.free && env.scope.kind == .function && env.kindOf n == some .cell)=true then (n,NameKind.cell) else (n,k))::_)=_
  cases hx:x == n with
  | true=>
   have e:x=n:=by simpa using hx
   subst e
   simp only [List.lookup_cons,hx] at h
   cases h
   rw [if_pos (by rw [hf,hc];rfl)]
   simp [List.lookup_cons]
  | false=>
   simp only [List.lookup_cons,hx] at h
   by_cases J:(k == NameKind.free && env.scope.kind == .function && env.kindOf n == some .cell)=true
   ·rw [if_pos J];simp only [List.lookup_cons,hx];exact U h hc
   ·rw [if_neg J];simp only [List.lookup_cons,hx];exact U h hc
theorem uC{env:Env}:∀{names:List (Str×NameKind)} {x:Str} {k':NameKind},(∀ y∈names,y.2≠ .cell)->(k'= .cell\/k'= .free)->
  (names.map fun(n,k)=>if (k == NameKind.free && env.scope.kind == .function && env.kindOf n == some .cell) then (n,NameKind.cell) else (n,k)).lookup x=some k'->(x,NameKind.free)∈names
 | [],_,_,_,_,h=>by simp at h
 | (n,k)::r,x,k',hn,hk,h=>by
  have ih:=@uC env r x k' (fun y hy=>hn y (List.mem_cons_of_mem _ hy)) hk
  have h':List.lookup x ((if (k == NameKind.free && env.scope.kind == .function && env.kindOf n == some .cell)=true then (n,NameKind.cell) else (n,k))::r.map fun(n,k)=>if (k == NameKind.free && env.scope.kind == .function && env.kindOf n == some .cell) then (n,NameKind.cell) else (n,k))=some k':=h
  have U:k≠ .cell:=hn (n,k) List.mem_cons_self
  by_cases J:(k == NameKind.free && env.scope.kind == .function && env.kindOf n == some .cell)=true
  ·rw [if_pos J,List.lookup_cons] at h'
   have aa:k= .free:=by
    rw [Bool.and_eq_true,Bool.and_eq_true] at J
    simpa using J.1.1
   cases hx:x == n with
   | true=>
    have e:x=n:=by simpa using hx
    subst e
    rw [aa]
    exact List.mem_cons_self
   | false=>rw [hx] at h';exact List.mem_cons_of_mem _ (ih h')
  ·rw [if_neg J,List.lookup_cons] at h'
   cases hx:x == n with
   | true=>
    rw [hx] at h'
    have e:x=n:=by simpa using hx
    subst e
    have e2:k=k':=Option.some.inj h'
    subst e2
    rcases hk with z | z
    ·exact absurd z U
    ·rw [z];exact List.mem_cons_self
   | false=>rw [hx] at h';exact List.mem_cons_of_mem _ (ih h')
section
variable {prog : Program} {w : World} {A : Around} {R : Result -> Shared -> Prop} {s : Shared}
theorem EY{elt target iter:Expr}{ifs:List Expr}{scope:Scope}{pos:Pos}{it acc:Value}{env:Env}(I:Nat->Shared->Prop)
  (turn:∀ n s,I n s->wpAny (model prog w) A (pyNext it) (fun r s₁=>match r with
   | none=>R (.ok .next) s₁
   | some v=>wpAny (model prog w) A (letOwnedTupleGo target it v) (fun _ s₀=>wpAny (model prog w) A (assign target env v) (fun _ s₂=>
     wpAny (model prog w) A (forIn ifs true fun c r=>if r=true then do let ok<-isTrue c env (eval c env);pure (ForInStep.yield ok) else pure (ForInStep.yield r)) (fun ok s₃=>
      if ok=true then wpAny (model prog w) A (eval elt env) (fun x s₄=>
       wpAny (model prog w) A (call (.builtin "list.append") [acc,x]) (fun _ s₅=>∃ m,m < n/\I m s₅) (fun _ _=>False) s₄) (fun _ _=>False) s₃
      else ∃ m,m < n/\I m s₃) (fun _ _=>False) s₂) (fun _ _=>False) s₀) (fun _ _=>False) s₁) (fun _ _=>False) s)
  (n:Nat)(h:I n s):
  codeAny (model prog w) A (.compLoop (.ListComp elt [⟨target,iter,ifs,0⟩] scope pos) 0 it acc env) R s:=by
 refine codeAny_loop rfl I (fun n s hI=>?_) n h
 show wpAny _ A ((compTurn (.ListComp elt [⟨target,iter,ifs,0⟩] scope pos) 0 it acc env).onRaise (fun x=>do noteFrame x env;theTreesLotGoes x)) _ _ s
 refine wpAny_noted ?_
 rw [compTurn_list]
 refine wpAny_bind (wpAny_standAt (wpAny_bind (wpAny_mono (turn n s hI) (fun r s₁ J=>?_) fun _ _ h'=>h'.elim)))
 cases r with
 | none=>exact wpAny_pure J
 | some v=>
  refine wpAny_bind (wpAny_mono J (fun _ s₀ h₀=>?_) fun _ _ h'=>h'.elim)
  refine wpAny_bind (wpAny_mono h₀ (fun _ s₂ aa=>wpAny_bind (wpAny_mono aa (fun ok s₃ U=>?_) fun _ _ h'=>h'.elim)) fun _ _ h'=>h'.elim)
  cases ok with
  | false=>exact wpAny_pure ⟨rfl,U⟩
  | true=>
   exact wpAny_bind (wpAny_bind (wpAny_mono U (fun x s₄ ae=>wpAny_bind (wpAny_mono ae (fun _ s₅ af=>wpAny_pure (wpAny_pure ⟨rfl,af⟩)) fun _ _ h'=>h'.elim)) fun _ _ h'=>h'.elim))
end
noncomputable def jJ(X:Cx)(scope:Scope)(N:List Str)(s₀:Shared)(H₀:Hp)(ex:List Addr):Cx:=
 {X with N:=N,s₀:=s₀,H₀:=H₀,env:=compEnvC scope (lD X.env scope.names []) s₀.heap.objs.size X.env,outer:=X.stack,ex:=ex,fn:=fun _=>false,pn:=[],xe:=fun _ _=>False}
section
variable {X : Cx} {c : Expr} {t : TT}
noncomputable def iW(X:Cx)(ifs:List Expr)(t:TT):Prop:=∀(pins:List (Addr×Obj)) (s:Shared) (σ:St) (H:Hp) (Q:Bool->Hp->Prop),Inv X pins σ H s->t σ H Q->
 wpAny (model X.prog X.w) X.A (forIn ifs true fun c r=>if r=true then do let ok<-isTrue c X.env (eval c X.env);pure (ForInStep.yield ok) else pure (ForInStep.yield r)) (TP X pins σ Q) X.xe s
noncomputable def yF:TT:=fun _ H Q=>Q true H
theorem k8:iW X [] yF:=fun _ _ _ H _ I h=>wpAny_tests_nil ⟨H,I,h⟩
theorem uj(h:PT X c t):iW X [c] t:=fun pins s σ H Q I J=>wpAny_tests_one (h pins s σ H Q I J)
end
noncomputable def o9(own:Nat)(g:TG):Prop:=∀ x σ H Q U,g x σ H Q->(∀ J H',Q J H'->J.length=σ.length->(∀ j v,own<=j->σ[j]? =some (some v)->J[j]? =some (some v))->U J H')->g x σ H U
noncomputable def rP(own:Nat)(g:lG):Prop:=∀ xs σ H Q U,g xs σ H Q->(∀ J H',Q J H'->J.length=σ.length->(∀ j v,own<=j->σ[j]? =some (some v)->J[j]? =some (some v))->U J H')->g xs σ H U
theorem jK{own i:Nat}(hi:i < own):o9 own (kq i):=fun x σ H Q J h k=>k _ H h (by simp) fun j v U e=>by rw [List.getElem?_set_ne (by(clear e;omega))];exact e
theorem mY{own:Nat}:rP own yf:=fun xs σ H Q J ⟨e,h⟩ k=>⟨e,k σ H h rfl fun _ _ _ e=>e⟩
theorem ky{own:Nat}{t:TG}{u:lG}(h1:o9 own t)(h2:rP own u):rP own (zX t u):=fun xs σ H Q Q' ⟨v,r,e,h⟩ k=>
 ⟨v,r,e,h1 v σ H _ _ h fun U H' q l1 k1=>h2 r U H' _ _ q fun J aa q2 l2 k2=>k J aa q2 (l2.trans l1) fun j w hj e=>k2 j w hj (k1 j w hj e)⟩
theorem nc{own n:Nat}{K:W.Frag}{t:lG}(h:rP own t):o9 own (vv K n t):=fun x σ H Q J ⟨a,xs,e,U,hl,q⟩ k=>⟨a,xs,e,U,hl,h xs σ H Q J q k⟩
noncomputable def mh(own:Nat)(caps:List Nat)(σ:St):St:=List.replicate own none++caps.map fun j=>(σ[j]?).join
noncomputable def ni(J:It)(g:TG)(tc:TT)(te:TE)(σ0:St)(Q:VK)(H:Hp):Prop:=
  ∃ W:Nat->Nat->List V->Hp->Prop,(∃ m,W 0 m [] H)/\∀ i m ys H,W i m ys H->
   (J.stop i H/\ys.length<=sizeLine/\∀ p,H p=none->Q (.ref p) (upd H p (.lst ys)))\/
   (J.go i H/\ys.length < sizeLine/\∀ x H',J.yld i H x H'->g x σ0 H' fun U H2=>tc U H2 fun b H3=>
    if b=true then te U H3 fun y H4=>∃ m',m' < m/\W (i + 1) m' (ys++[y]) H4 else ∃ m',m' < m/\W (i + 1) m' ys H3)
noncomputable def uF(own:Nat)(caps:List Nat)(wi:TI)(g:TG)(tc:TT)(te:TE):TE:=fun σ H Q=>wi σ H fun J H1=>ni J g tc te (mh own caps σ) Q H1
theorem yN{a:Addr}{o:Obj}:∀ p∈[(a,o)],p.1=a:=fun p J=>by rw [List.mem_singleton.mp J]
section
variable {X : Cx}
theorem Eo{scope:Scope}{N:List Str}{pins:List (Addr×Obj)}{σ σ':St}{H2 He:Hp}{s2 s1:Shared}{hp h':Heap}{fp:List Addr}{ys:List V}{its:List Value}{na:Nat}{lo:Obj}
  (I2:Inv X pins σ H2 s2)(f2:∀ b∈fp,lF X pins H2 b)(ehp:hp=s2.heap.push lo)
  (J:Inv (jJ X scope N {s2 with heap:=hp} H2 (s2.heap.objs.size::fp)) [(s2.heap.objs.size,{cls:= .type "list",data:= .seq its.toArray na})] σ' He s1)
  (hsb:Heap.SameBut hp.objs.size s1.heap h')(hv:Vals ys its)(hz:ys.length<=sizeLine):
  Inv X pins σ (upd He s2.heap.objs.size (.lst ys)) {s1 with heap:=h'}:=by
 have hC:hp.objs.size=s2.heap.objs.size + 1:=by rw [ehp,Heap.size_push]
 have below:∀{b:Addr} {o:Obj},s2.heap.get? b=some o->b≠hp.objs.size/\b≠s2.heap.objs.size:=fun{b o} e=>by
  have q:=Heap.lt_size e
  exact⟨by rw [hC];exact Nat.ne_of_lt (Nat.lt_succ_of_lt q),Nat.ne_of_lt q⟩
 have up:∀{b:Addr} {o:Obj},s2.heap.get? b=some o->hp.get? b=some o:=fun e=>by rw [ehp];exact Heap.get?_push_of_some _ e
 have un:Un (iF X.stack) (s2.heap.objs.size::fp) H2 He hp s1.heap:=J.base
 have nD:∀{b:Addr} {o:Obj},s2.heap.get? b=some o->b∉fp->b∉s2.heap.objs.size::fp:=fun e hx z=>(List.mem_cons.mp z).elim (below e).2 hx
 have U:He hp.objs.size=none:=J.free
 have u2:Un (iF X.stack) fp H2 He s2.heap h':=by
  refine⟨fun b o e n hb hx=>?_,fun b o e n hb hx=>?_,fun b o e n hx=>?_,fun b o e hx=>?_,un.tups,un.frzs,un.tbls⟩
  ·exact(hsb.2 b (below e).1).trans (un.keep b o (up e) n hb (nD e hx))
  ·obtain⟨sl,q⟩:=un.slot b o (up e) n hb (nD e hx)
   exact⟨sl,(hsb.2 b (below e).1).trans q⟩
  ·exact un.free b o (up e) n (nD e hx)
  ·obtain⟨o',q⟩:=un.there b o (up e) (nD e hx)
   exact⟨o',(hsb.2 b (below e).1).trans q⟩
 have hok:i8 X.prog X.w He h':=fun b u e=>by
  refine(J.hok b u e).stay (fun c v hc q=>(hsb.2 c ?_).trans q) (fun _ q=>q) fun _ _ q=>q
  rintro rfl
  rcases hc with z | z
  ·rw [<-z,U] at e;cases e
  ·rw [U] at z;cases z
 have I3:Inv X pins σ He {s1 with heap:=h'}:=I2.call' (s':={s1 with heap:=h'}) (ch:=fp) J.os u2 hok J.bare fun b hb=>by
  obtain⟨f0,f1,f3,f4,f5,f6⟩:=f2 b hb
  exact⟨f4,f1,f5,f6⟩
 obtain⟨pe,pn,_⟩:=J.pin _ (List.mem_append_right _ List.mem_cons_self)
 refine I3.track (.inl (Heap.get?_none_of_le I2.sz)) pn (Nat.ne_of_gt I2.lt) (fun y c' q z=>?_) (fun p aa z=>?_) ?_
 ·obtain⟨v,q'⟩:=I2.cell y c' q
  exact absurd q'.lt (by rw [z];exact Nat.lt_irrefl _)
 ·exact absurd (Heap.lt_size (I2.pin p aa).1) (by rw [z];exact Nat.lt_irrefl _)
 ·exact⟨hz,its,na,hv,(hsb.2 _ (by rw [hC];exact Nat.ne_of_lt (Nat.lt_succ_self _))).trans pe⟩
theorem zK{elt target iter:Expr}{ifs:List Expr}{scope sc0:Scope}{pos:Pos}{N N0:List Str}{own:Nat}{caps:List Nat}{wi:TI}{g:TG}{tc:TT}{te:TE}
  (hcalm:X.calm=true)(hi:PI X target iter wi)
  (hg:∀ s₀ H₀ ex,PG (jJ X scope N s₀ H₀ ex) target g)(hc:∀ s₀ H₀ ex,iW (jJ X scope N s₀ H₀ ex) ifs tc)(he:∀ s₀ H₀ ex,PE (jJ X scope N s₀ H₀ ex) elt te)(hk:o9 own g)
  (hX:X.N=N0)(hsc:X.env.scope=sc0)
  (hcell:∀ y∈scope.names,y.2≠ .cell)(hkind:scope.kind= .function)(hnames:∀ y∈scope.names,y.2= .local->scope.names.lookup y.1=some .local)
  (hfree:∀ y∈scope.names,y.2= .free->sc0.names.lookup y.1=some .cell)(hN:N.length=own + caps.length)
  (hcap:∀ p∈caps.zip (N.drop own),N0[p.1]? =some p.2/\scope.names.lookup p.2=some .free)
  (hs:∀ x,foldedSetIterable iter X.env x=pure x)
  {use:Option (Value->Sem Unit)}{Qf:Value->Shared->Prop}{pins:List (Addr×Obj)}{s:Shared}{σ:St}{H:Hp}{Q:VK}{cpos:Pos}(I:Inv X pins σ H s)(h:uF own caps wi g tc te σ H Q)
  (hR:∀(D C:Addr) (s':Shared) (He:Hp) (ys:List V) (m:Str->Option Value) (f:Flow),s'.heap.Ns C m->(∀ h',Heap.SameBut C s'.heap h'->Inv X pins σ (upd He D (.lst ys)) {s' with heap:=h'})->
   lF X pins (upd He D (.lst ys)) C->Q (.ref D) (upd He D (.lst ys))->compPost (model X.prog X.w) X.A X.xe use Qf (.ref D) C (.ok f) s'):
  wpAny (model X.prog X.w) X.A (comprehension (.ListComp elt [⟨target,iter,ifs,0⟩] scope pos) scope X.env cpos (newList []) false (eval iter X.env) use) Qf X.xe s:=by
 have ae:∀ y∈scope.names,y.2= .free->X.env.kindOf y.1=some .cell:=fun y hy e=>by
  show X.env.scope.names.lookup y.1=some .cell
  rw [hsc];exact hfree y hy e
 refine wpAny_comprehension_free (use:=use) rfl hs (Ga fun y hy e=>I.ok.has y.1 (.inl (ae y hy e))) hkind hnames ?_
 refine ic (hi pins s σ H _ I h) fun v s1 h1=>ic h1 fun a6 s2 h2=>?_
 obtain⟨it,fp,tn,J,H2,e,I2,T,aG,f2,W,⟨m0,w0⟩,turn⟩:=h2
 subst e
 refine wpAny_newObj_type (wpAny_newFunctionEnv hcell (by intro y hy;simp at hy) (fun ar ag ah=>?_) hkind)
 dsimp only at ag ah ⊢
 generalize ak:s2.heap.push {cls:= .type "list",dict:=none,data:= .seq ([]:List Value).toArray}=hp at ag ah ⊢
 have hC:hp.objs.size=s2.heap.objs.size + 1:=by rw [<-ak,Heap.size_push]
 have ao:s2.heap.objs.size≠hp.objs.size:=by rw [hC];exact Nat.ne_of_lt (Nat.lt_succ_self _)
 have ay:hp.get? s2.heap.objs.size=some {cls:= .type "list",data:= .seq ([]:List Value).toArray}:=by rw [<-ak];exact Heap.get?_push_size _ rfl
 have up:∀{b:Addr} {o:Obj},s2.heap.get? b=some o->hp.get? b=some o:=fun e=>by rw [<-ak];exact Heap.get?_push_of_some _ e
 have up1:∀{b:Addr} {o:Obj},hp.get? b=some o->ar.get? b=some o:=fun{b o} e=>ah.extBut b o (Nat.ne_of_lt (Heap.lt_size e)) (Heap.get?_push_of_some _ e)
 have aF:∀{b:Addr} {o:Obj},s2.heap.get? b=some o->b < s2.heap.objs.size:=fun e=>Heap.lt_size e
 have aU:∀ b∈fp,∃ o,s2.heap.get? b=some o:=fun b hb=>by obtain⟨o,e,_⟩:=T.obj 0 _ aG b hb;exact⟨o,e⟩
 have aA:∀ b∈fp,b≠hp.objs.size/\b≠s2.heap.objs.size:=fun b hb=>by
  obtain⟨o,e⟩:=aU b hb
  have q:=aF e
  exact⟨by rw [hC];exact Nat.ne_of_lt (Nat.lt_succ_of_lt q),Nat.ne_of_lt q⟩
 have aa:∀{x:Str} {c:Addr},(lD X.env scope.names []).lookup x=some c->X.env.cells.lookup x=some c/\X.env.kindOf x=some .cell:=fun{x c} q=>by
  rcases xG q with z | ⟨z,e⟩
  ·cases z
  ·have k:=ae _ z rfl
   obtain⟨c',au⟩:=I2.ok.has x (.inl k)
   rw [au] at e
   have e':c=c':=e
   subst e'
   exact⟨au,k⟩
 have aq:∀{x:Str} {c:Addr},(lD X.env scope.names []).lookup x=some c->c < s2.heap.objs.size:=fun q=>by
  obtain⟨v,z⟩:=I2.cell _ _ (aa q).1
  exact z.lt
 have av:∀ b∈iF X.stack,b < s2.heap.objs.size:=fun b hb=>by
  obtain⟨_,o,ho,_⟩:=I2.stack.mem hb
  exact Heap.lt_size ho
 have aV:(jJ X scope N {s2 with heap:=hp} H2 (s2.heap.objs.size::fp)).Ok:=by
  refine⟨I2.ok.mod,hkind,I2.ok.glob,I2.ok.blt,Nat.le_refl _,fun x y c q1 q2=>I2.ok.inj x y c (aa q1).1 (aa q2).1,fun x hx=>?_,(fun x c z=>by cases z),I2.ok.hd,I2.ok.frames,.inl rfl,fun b hb=>?_,fun b o q=>⟨up (I2.bs b o q).1,(I2.bs b o q).2⟩,?_,fun b o q hb=>?_,fun b hb=>?_,?_,fun b hb=>I2.stkFree b hb⟩
  ·rcases hx with hx | hx
   ·exact rN (.inl (uC (env:=X.env) hcell (.inl rfl) hx))
   ·exact rN (.inl (uC (env:=X.env) hcell (.inr rfl) hx))
  ·rcases List.mem_cons.mp hb with rfl | hb
   ·exact⟨by show s2.heap.objs.size≠hp.objs.size;exact ao,fun x c q=>Nat.ne_of_lt (aq q)⟩
   ·exact⟨(aA b hb).1,fun x c q=>(f2 b hb).2.2.2.2.1 x c (aa q).1⟩
  ·show X.base.objs.size<=hp.objs.size
   rw [hC]
   exact Nat.le_succ_of_le (Nat.le_trans I2.ok.bsz I2.sz)
  ·rcases List.mem_cons.mp hb with rfl | hb
   ·exact Nat.lt_irrefl _ (aF (I2.bs _ o q).1)
   ·rcases(f2 b hb).2.2.2.1 with z | z
    ·exact I2.ok.noex b o q z
    ·exact Nat.lt_irrefl _ (Nat.lt_of_lt_of_le (Heap.lt_size (I2.ok.bs b o q).1) z)
  ·intro z
   rcases List.mem_cons.mp hb with rfl | hb
   ·exact Nat.lt_irrefl _ (av _ z)
   ·rcases List.mem_cons.mp (I2.stkSub b z) with q | q
    ·exact(f2 b hb).2.1 q
    ·exact(f2 b hb).2.2.1 q
  ·show hp.FunFrames X.base X.stack
   exact I2.stack.of_keeps fun b o q _=>⟨o,up q,rfl⟩
 have len0:(mh own caps σ).length=N.length:=by unfold mh;rw [List.length_append,List.length_replicate,List.length_map,hN]
 have I0:Inv (jJ X scope N {s2 with heap:=hp} H2 (s2.heap.objs.size::fp)) [] (mh own caps σ) H2 {s2 with heap:=ar,toks:=s2.toks + ([]:List (Str×Value)).length}:=by
  refine⟨aV,rfl,I2.bare,Un.kept fun b o q=>up1 q,⟨_,ag,fun i x v e1 e2 e3=>?_⟩,fun x c q=>?_,I2.hok.fresh (by show s2.heap.objs.size<=hp.objs.size;rw [hC];exact Nat.le_succ _),fun x c q=>I2.freeC x c (aa q).1,fun p af=>absurd (show p∈([]:List (Addr×Obj)) from af) (by simp),I2.hok.kept fun b o q=>up1 (up q),len0⟩
  ·
   unfold mh at e2
   by_cases aN:i < own
   ·rw [List.getElem?_append_left (by simpa using aN),List.getElem?_replicate] at e2
    split at e2<;>cases e2
   ·rw [List.getElem?_append_right (by simpa using aN),List.length_replicate,List.getElem?_map] at e2
    cases ec:caps[i - own]? with
    | none=>rw [ec] at e2;cases e2
    | some j=>
     rw [ec] at e2
     have aw:(σ[j]?).join=some v:=Option.some.inj e2
     have aO:σ[j]? =some (some v):=by
      cases q:σ[j]? with
      | none=>rw [q] at aw;cases aw
      | some z=>rw [q] at aw;exact congrArg some aw
     have hx:(N.drop own)[i - own]? =some x:=by
      rw [List.getElem?_drop]
      have:own + (i - own)=i:=by(clear aO aw ec e2 e1 len0 ay ao hC ak hN hkind hsc hX hcalm;omega)
      rw [this];exact e1
     have hz:(caps.zip (N.drop own))[i - own]? =some (j,x):=by
      rw [List.getElem?_zip_eq_some];exact⟨ec,hx⟩
     obtain⟨hj,hf⟩:=hcap _ (List.mem_of_getElem? hz)
     rw [<-hX] at hj
     have aP:(x,NameKind.free)∈scope.names:=PySem.mem_of_lookup hf
     have aH:=ae _ aP rfl
     obtain⟨m,hn,hl⟩:=I2.loc
     obtain⟨u,ru,lk⟩:=hl j x v hj aO (.inr (.inl aH))
     refine⟨u,ru,.inr ⟨.inl (zJ I2.ok.kind hf aH),?_⟩⟩
     obtain⟨c,au⟩:=rN (env:=X.env) (cs:=[]) (.inl aP)
     have aW:=(aa au).1
     rcases lk with ⟨z,_⟩ | ⟨_,c2,aQ,aB⟩
     ·rw [aH] at z;cases z
     ·rw [aW] at aQ
      cases aQ
      obtain⟨oc,aI,aJ⟩:=aB
      exact⟨c,au,oc,up1 (up aI),aJ⟩
  ·obtain⟨v,oc,aI,aJ⟩:=I2.cell x c (aa q).1
   exact⟨v,oc,up1 (up aI),aJ⟩
 have aR:∀{aC:St} {H':Hp} {s':Shared} {U:List Value} {na:Nat},Inv (jJ X scope N {s2 with heap:=hp} H2 (s2.heap.objs.size::fp)) [] aC H' s'->H' s2.heap.objs.size=none->
   s'.heap.get? s2.heap.objs.size=some {cls:= .type "list",data:= .seq U.toArray na}->
   Inv (jJ X scope N {s2 with heap:=hp} H2 (s2.heap.objs.size::fp)) [(s2.heap.objs.size,{cls:= .type "list",data:= .seq U.toArray na})] aC H' s':=fun{aC H' s' U na} I' hn hd=>I'.pins_of fun p af=>by
  have e:p=(s2.heap.objs.size,{cls:= .type "list",data:= .seq U.toArray na}):=by simpa using af
  subst e
  exact⟨hd,hn,ao,fun z=>Nat.lt_irrefl _ (av _ z),fun v z=>nomatch z⟩
 have aS:∀{H':Hp} {pl:List (Addr×Obj)},(∀ b∈fp,H' b=none)->(∀ p∈pl,p.1=s2.heap.objs.size)->∀ b∈fp,lF (jJ X scope N {s2 with heap:=hp} H2 (s2.heap.objs.size::fp)) pl H' b:=fun hn aX b hb=>by
  refine⟨hn b hb,(aA b hb).1,fun z=>?_,.inl (List.mem_cons_of_mem _ hb),fun x c q=>(f2 b hb).2.2.2.2.1 x c (aa q).1,fun p af z=>?_⟩
  ·rcases List.mem_cons.mp (I2.stkSub b z) with q | q
   ·exact(f2 b hb).2.1 q
   ·exact(f2 b hb).2.2.1 q
  ·exact(aA b hb).2 (z.symm.trans (aX p af))
 have loop:∀ ax:Shared,ax={s2 with heap:=ar,toks:=s2.toks + ([]:List (Str×Value)).length}->
   codeAny (model X.prog X.w) X.A (.compLoop (.ListComp elt [⟨target,iter,ifs,0⟩] scope pos) 0 (.ref it) (.ref s2.heap.objs.size) (compEnvC scope (lD X.env scope.names []) hp.objs.size X.env))
    (compPost (model X.prog X.w) X.A X.xe use Qf (.ref s2.heap.objs.size) hp.objs.size) ax:=by
  rintro ax rfl
  refine EY (fun n s'=>∃ i ys U na H',Inv (jJ X scope N {s2 with heap:=hp} H2 (s2.heap.objs.size::fp)) [] (mh own caps σ) H' s'/\tn i s'.heap/\(∀ b∈fp,H' b=none)/\H' s2.heap.objs.size=none/\
   Vals ys U/\s'.heap.get? s2.heap.objs.size=some {cls:= .type "list",data:= .seq U.toArray na}/\W i n ys H') ?_ m0
   ⟨0,[],[],0,H2,I0,T.keep _ _ _ aG fun b _ o q=>up1 (up q),fun b hb=>(f2 b hb).1,I2.hok.fresh (Nat.le_refl _),.nil,up1 ay,w0⟩
  rintro n s3 ⟨i,ys,U,na,H3,I3,aT,aY,aK,aD,aL,w3⟩
  have Ip:=aR I3 aK aL
  have f3:=aS (H':=H3) (pl:=[(s2.heap.objs.size,{cls:= .type "list",data:= .seq U.toArray na})]) aY yN
  rcases turn i n ys H3 w3 with ⟨stop,hz,fin⟩ | ⟨go,hz,step⟩
  ·refine ic (T.done (jJ X scope N {s2 with heap:=hp} H2 (s2.heap.objs.size::fp)) rfl rfl rfl hcalm i _ s3 _ H3 _ Ip f3 aT stop) fun r s4 ⟨hr,I4⟩=>?_
   subst hr
   obtain⟨m,hn,_⟩:=I4.loc
   exact hR _ _ _ _ ys m _ hn (fun h' aZ=>Eo I2 f2 ak.symm I4 aZ aD hz) (I2.fpOk (by rw [hC];exact Nat.le_succ _) (by rw [ig (Ne.symm ao)];exact I4.free)) (fin _ (I4.pin _ (List.mem_append_right _ List.mem_cons_self)).2.1)
  ·refine ic (T.item (jJ X scope N {s2 with heap:=hp} H2 (s2.heap.objs.size::fp)) rfl rfl rfl hcalm i _ s3 _ H3 _ Ip f3 aT go) fun r s4 ⟨u,hr,h4⟩=>?_
   subst hr
   refine ic h4 fun _ s5 ⟨x,H5,I5,r5,y5,aM,a0⟩=>?_
   have a5:=I5.pinned (aS (H':=H5) (pl:=[(s2.heap.objs.size,{cls:= .type "list",data:= .seq U.toArray na})]) a0 yN) (T.obj _ _ aM)
   refine ic (hg _ _ _ _ s5 _ H5 x u _ a5 r5 (hk x _ H5 _ _ (step x H5 y5) fun aC H' q l k=>(⟨q,l,k⟩:_/\_/\_))) fun _ s6 ⟨aE,H6,I6,q6,l6,k6⟩=>?_
   refine ic (hc _ _ _ _ s6 aE H6 _ I6 q6) fun ok s7 ⟨H7,I7,q7⟩=>?_
   have weak:∀{H':Hp} {s':Shared} {pl:List (Addr×Obj)},Inv (jJ X scope N {s2 with heap:=hp} H2 (s2.heap.objs.size::fp)) pl aE H' s'->Inv (jJ X scope N {s2 with heap:=hp} H2 (s2.heap.objs.size::fp)) pl (mh own caps σ) H' s':=fun I'=>
    I'.weak l6.symm fun j v e=>k6 j v (by
     by_cases hj:j < own
     ·unfold mh at e
      rw [List.getElem?_append_left (by simpa using hj),List.getElem?_replicate] at e
      split at e<;>cases e
     ·(clear e l6 hz aL aK len0 ay ao hC ak hN hkind hsc hX hcalm;omega)) e
   have after:∀{H':Hp} {s':Shared},Inv (jJ X scope N {s2 with heap:=hp} H2 (s2.heap.objs.size::fp)) ([(s2.heap.objs.size,{cls:= .type "list",data:= .seq U.toArray na})]++qL fp s5.heap) aE H' s'->
     tn (i + 1) s'.heap/\(∀ b∈fp,H' b=none)/\H' s2.heap.objs.size=none/\s'.heap.get? s2.heap.objs.size=some {cls:= .type "list",data:= .seq U.toArray na}:=fun I'=>by
    refine⟨T.keep _ _ _ aM fun b hb o e=>(I'.pin (b,o) (List.mem_append_right _ (List.mem_append_right _ (rM hb e)))).1,fun b hb=>?_,?_,?_⟩
    ·obtain⟨o,e,d⟩:=T.obj _ _ aM b hb
     exact(I'.pin (b,o) (List.mem_append_right _ (List.mem_append_right _ (rM hb e)))).2.1
    ·exact(I'.pin _ (List.mem_append_right _ (List.mem_append_left _ List.mem_cons_self))).2.1
    ·exact(I'.pin _ (List.mem_append_right _ (List.mem_append_left _ List.mem_cons_self))).1
   cases ok with
   | false=>
    rw [if_neg Bool.false_ne_true]
    obtain⟨m',hm,w7⟩:=(show ∃ m',m' < n/\W (i + 1) m' ys H7 by rw [if_neg Bool.false_ne_true] at q7;exact q7)
    obtain⟨a1,a2,a3,a4⟩:=after I7
    exact⟨m',hm,i + 1,ys,U,na,H7,(weak I7).pins_of (fun p af=>absurd af (by simp)),a1,a2,a3,aD,a4,w7⟩
   | true=>
    rw [if_pos rfl]
    rw [if_pos rfl] at q7
    refine ic (he _ _ _ _ s7 aE H7 _ I7 q7) fun yv s8 ⟨y,H8,I8,r8,m',hm,w8⟩=>?_
    obtain⟨a1,a2,a3,a4⟩:=after I8
    have hl:=aD.length
    refine call_meets F.slot_list_append ⟨_,a4,rfl⟩ F.entry_list_append (F.args_list_append_2 _ _) (PySem.list_append s2.heap.objs.size U.toArray na yv (by rw [List.size_toArray];(clear a4 a3 hm l6 aL aK len0 ay ao hC ak hN hkind hsc hX hcalm;omega))) ⟨a4,?_⟩
    have I9:Inv (jJ X scope N {s2 with heap:=hp} H2 (s2.heap.objs.size::fp)) [] (mh own caps σ) H8 s8:=(weak I8).pins_of (fun p af=>absurd af (by simp))
    have q:(s8.heap.update s2.heap.objs.size (Obj.mapSeq (·.push yv))).get? s2.heap.objs.size=some {cls:= .type "list",data:= .seq (U++[yv]).toArray (na + 1)}:=by
     have q:=PySem.IsL.update a4 (·.push yv)
     simpa using q
    refine⟨m',hm,i + 1,ys++[y],U++[yv],na + 1,H8,I9.turned (it:=s2.heap.objs.size) (t':=s8.toks) (fun b o hb e=>?_) a3 (ao) (.inl List.mem_cons_self) (fun x c z=>Nat.ne_of_lt (aq z)) (fun p af=>absurd (show p∈([]:List (Addr×Obj)) from af) (by simp)),?_,a2,a3,aD.append (.cons r8 .nil),q,w8⟩
    ·rw [Heap.get?_update_other _ _ (Ne.symm hb)];exact e
    ·exact T.keep _ _ _ a1 fun b hb o e=>by rw [Heap.get?_update_other _ _ (Ne.symm (aA b hb).2)];exact e
 exact codeAny_compStart_list (loop _ rfl) (T.self _ 0 _ _ _ (T.keep _ _ _ aG fun b _ o q=>up1 (up q)) (loop _ rfl))
theorem nr{elt target iter:Expr}{ifs:List Expr}{scope sc0:Scope}{pos:Pos}{N N0:List Str}{own:Nat}{caps:List Nat}{wi:TI}{g:TG}{tc:TT}{te:TE}
  (hcalm:X.calm=true)(hi:PI X target iter wi)
  (hg:∀ s₀ H₀ ex,PG (jJ X scope N s₀ H₀ ex) target g)(hc:∀ s₀ H₀ ex,iW (jJ X scope N s₀ H₀ ex) ifs tc)(he:∀ s₀ H₀ ex,PE (jJ X scope N s₀ H₀ ex) elt te)(hk:o9 own g)
  (hX:X.N=N0)(hsc:X.env.scope=sc0)
  (hcell:∀ y∈scope.names,y.2≠ .cell)(hkind:scope.kind= .function)(hnames:∀ y∈scope.names,y.2= .local->scope.names.lookup y.1=some .local)
  (hfree:∀ y∈scope.names,y.2= .free->sc0.names.lookup y.1=some .cell)(hN:N.length=own + caps.length)
  (hcap:∀ p∈caps.zip (N.drop own),N0[p.1]? =some p.2/\scope.names.lookup p.2=some .free)
  (hs:∀ x,foldedSetIterable iter X.env x=pure x:=by intro _;rfl):
  PE X (.ListComp elt [⟨target,iter,ifs,0⟩] scope pos) (uF own caps wi g tc te):=by
 intro pins s σ H Q I h
 rw [eval_ListComp]
 exact zK hcalm hi hg hc he hk hX hsc hcell hkind hnames hfree hN hcap hs I h fun D C s' He ys m f hn U _ q=>⟨m,hn,fun h' J=>⟨.ref D,_,U h' J,rfl,q⟩⟩
end
theorem jc.at {P:Program}{w:World}{H:Hp}{h:Heap}{a:Addr}{o:HO}(x:jc P w H h a o):∃ ob,h.get? a=some ob:=by
 cases o with
 | lst xs=>obtain⟨_,_,_,_,e⟩:=x;exact⟨_,e⟩
 | tup xs=>obtain⟨_,_,_,ob,e,_⟩:=x;exact⟨_,e⟩
 | dK kvs=>obtain⟨_,_,_,_,o,_,_,e,_⟩:=x;exact⟨_,e⟩
 | dT kvs=>obtain⟨_,_,_,_,o,_,_,e,_⟩:=x;exact⟨_,e⟩
 | set S n=>obtain⟨o,_,_,_,e,_⟩:=x;exact⟨_,e⟩
 | ins C dx fs=>obtain⟨_,_,_,e,_⟩:=x;exact⟨_,e⟩
 | own y=>obtain⟨_,e⟩:=x;exact⟨_,e⟩
 | xd fs=>obtain⟨_,⟨_,_,_,e,_⟩,_⟩:=x;exact⟨_,e⟩
 | rng lo hi=>obtain⟨_,_,_,e⟩:=x;exact⟨_,e⟩
 | frz ob u=>obtain⟨e,_⟩:=x;exact⟨_,e⟩
 | tbl ps=>exact⟨_,show h.get? a=some _ from x⟩
 | met f y=>exact⟨_,show h.get? a=some _ from x⟩
 | ext J=>obtain⟨_,⟨_,e⟩,_⟩:=x;exact⟨_,e⟩
noncomputable def iT(P:Program)(w:World):j9:=fun outer H s E e s'=>∃(ea:Addr) (cls J:Value) (B:Heap) (H':Hp),
 e= .ref ea/\s'.os=s.os/\AllBare s'.gens/\Un (iF outer) [] H H' s.heap s'.heap/\i8 P w H' s'.heap/\Heap.FlyingW B outer ea cls J s'.heap/\
 (∀ b o,s.heap.get? b=some o->H b=none->b∉iF outer->B.get? b=some o)/\(∀ b o,s.heap.get? b=some o->b∉iF outer->∃ o',B.get? b=some o')/\
 (∀ b u,H' b=some u->∃ o,B.get? b=some o)/\E cls none H'
theorem pB{fs:List Addr}{H H':Hp}{h h1 h2 B base:Heap}{outer:List Env}(hfs:fs=iF outer)(u:Un fs [] H H' h h1)(k1:∀ b o,h.get? b=some o->H b=none->b∉fs->B.get? b=some o)
  (k3:∀ b o,h.get? b=some o->b∉fs->∃ o',B.get? b=some o')(ff:h1.FunFrames base outer)(st:B.StaysIn h2)(up:h1.UpToSlots h2):Un fs [] H H' h h2:=by
 have fr:∀ b∈fs,∀ o,h1.get? b=some o->∃ sl,h2.get? b=some {o with slots:=sl}:=fun b hb o e=>by
  rw [hfs] at hb
  obtain⟨_,o',J,nf⟩:=ff.mem hb
  rw [e] at J;cases J
  exact up b o e nf
 refine⟨fun b o e n hb _=>st b o (k1 b o e n hb),fun b o e n hb U=>?_,u.free,fun b o e U=>?_,u.tups,u.frzs,u.tbls⟩
 ·obtain⟨sl,e1⟩:=u.slot b o e n hb U
  obtain⟨aa,e2⟩:=fr b hb _ e1
  exact⟨aa,e2⟩
 ·by_cases hb:b∈fs
  ·obtain⟨o1,e1⟩:=u.there b o e U
   obtain⟨sl,e2⟩:=fr b hb _ e1
   exact⟨_,e2⟩
  ·obtain⟨o',J⟩:=k3 b o e hb
   exact⟨o',st b o' J⟩
theorem pN{P:Program}{w:World}{H:Hp}{h1 h2 B:Heap}(x:i8 P w H h1)(k2:∀ b u,H b=some u->∃ o,B.get? b=some o)(s1:B.StaysIn h1)(s2:B.StaysIn h2):i8 P w H h2:=fun b u e=>by
 refine(x b u e).stay (fun c v hc q=>?_) (fun _ q=>q) fun _ _ q=>q
 have ht:∃ z,H c=some z:=by
  rcases hc with z | z
  ·subst z;exact⟨u,e⟩
  ·exact⟨_,z⟩
 obtain⟨z,U⟩:=ht
 obtain⟨o,J⟩:=k2 c z U
 have:=s1 c o J
 rw [q] at this;cases this
 exact s2 c v J
section
variable {P : Program} {w : World} {K : PySem.W.Frag} {mg : Str -> Option Value} {base : Heap} {N : List Str} {qual : Str} {scope : Scope} {f : Addr} {cdv : Value} {A : Around} {outer : List Env} {s₀ : Shared} {H₀ : Hp} {E E' : XK}
noncomputable def Raises(X:Cx)(E:XK):Prop:=∀(pins:List (Addr×Obj)) (σ:St) (H:Hp) (s:Shared) (h':Heap) (ea:Addr) (cls:Value) (args:List Value),Inv X pins σ H s->Heap.MadeExcOf s.heap h' ea cls args->E cls none H->X.xe (.ref ea) {s with heap:=h'}
theorem rD:Raises (iP (iT P w) P w K mg base N qual scope f cdv A outer s₀ H₀ E) E:=by
 intro pins σ H s h' ea cls args I hx hE
 have stk:=I.stack
 have U:∀ env∈(iP (iT P w) P w K mg base N qual scope f cdv A outer s₀ H₀ E).stack,∀ b,env.frame=some b->b∈iF (iP (iT P w) P w K mg base N qual scope f cdv A outer s₀ H₀ E).stack:=fun env he b hb=>List.mem_filterMap.mpr ⟨env,he,hb⟩
 have J:∀{b:Addr} {o:Obj},s.heap.get? b=some o->b∉iF (iP (iT P w) P w K mg base N qual scope f cdv A outer s₀ H₀ E).stack->(W.hideAll s.heap (iF (iP (iT P w) P w K mg base N qual scope f cdv A outer s₀ H₀ E).stack)).get? b=some o:=fun e hb=>W.hideAll_get _ e hb
 have hL:∀{b:Addr} {o:Obj},s₀.heap.get? b=some o->b∉iF outer->b∉iF (iP (iT P w) P w K mg base N qual scope f cdv A outer s₀ H₀ E).stack:=fun{b o} e hb z=>by
  rcases List.mem_cons.mp (I.stkSub b z) with q | q
  ·have h1:=Heap.lt_size e
   have h2:s₀.heap.objs.size<=(iP (iT P w) P w K mg base N qual scope f cdv A outer s₀ H₀ E).env.locals:=I.ok.above
   rw [q] at h1
   exact Nat.lt_irrefl _ (Nat.lt_of_lt_of_le h1 h2)
  ·exact hb q
 show wpAny (model P w) (A.deeper (envOfC qual scope s₀.heap.objs.size f cdv)) (leaving (envOfC qual scope s₀.heap.objs.size f cdv) (.ref ea)) _ _ _
 refine wpAny_leaves_madeW (s:={s with heap:=h'}) (h:=s.heap) (base:=W.hideAll s.heap (iF (iP (iT P w) P w K mg base N qual scope f cdv A outer s₀ H₀ E).stack)) I.ok.frames rfl (fun b o q=>W.of_hideAll _ q) (W.funFrames_hide stk U) hx fun aa t fl _ _ up=>?_
 have u0:Un (iF outer) [] H₀ H s₀.heap s.heap:=I.base
 have tr:∀ b u,H b=some u->b∉iF (iP (iT P w) P w K mg base N qual scope f cdv A outer s₀ H₀ E).stack:=fun b u e z=>by rw [I.stkFree b z] at e;cases e
 have k1:∀ b o,s₀.heap.get? b=some o->H₀ b=none->b∉iF outer->(W.hideAll s.heap (iF (iP (iT P w) P w K mg base N qual scope f cdv A outer s₀ H₀ E).stack)).get? b=some o:=fun b o e n hb=>J (u0.keep b o e n hb (by simp)) (hL e hb)
 have k3:∀ b o,s₀.heap.get? b=some o->b∉iF outer->∃ o',(W.hideAll s.heap (iF (iP (iT P w) P w K mg base N qual scope f cdv A outer s₀ H₀ E).stack)).get? b=some o':=fun b o e hb=>by
  obtain⟨o',e'⟩:=u0.there b o e (by simp)
  exact⟨o',J e' (hL e hb)⟩
 have k2:∀ b u,H b=some u->∃ o,(W.hideAll s.heap (iF (iP (iT P w) P w K mg base N qual scope f cdv A outer s₀ H₀ E).stack)).get? b=some o:=fun b u e=>by
  obtain⟨o,eo⟩:=(I.hok b u e).at
  exact⟨o,J eo (tr b u e)⟩
 exact⟨ea,cls,.ref t,_,H,rfl,I.os,I.bare,pB rfl u0 k1 k3 I.funs fl.1 ((Heap.UpToSlots.of_keeps hx.keeps).trans up),pN I.hok k2 (fun b o q=>W.of_hideAll _ q) fl.1,fl,k1,k3,k2,hE⟩
theorem Cz(hE:∀ cls od H',E' cls od H'->E cls od H'):Passes (iT P w) (iP (iT P w) P w K mg base N qual scope f cdv A outer s₀ H₀ E) E':=by
 intro pins σ H s e s' I h
 obtain⟨ea,cls,a0,B,H',rfl,os,bare,un,hok,fl,k1,k3,k2,U⟩:=h
 have stk:(iP (iT P w) P w K mg base N qual scope f cdv A outer s₀ H₀ E).stack=envOfC qual scope s₀.heap.objs.size f cdv::outer:=rfl
 have af:iF (iP (iT P w) P w K mg base N qual scope f cdv A outer s₀ H₀ E).stack=s₀.heap.objs.size::iF outer:=rfl
 have J:Un (iF outer) [] H₀ H s₀.heap s.heap:=I.base
 have aa:∀{b:Addr} {o:Obj},s₀.heap.get? b=some o->b∉iF outer->b∉iF (iP (iT P w) P w K mg base N qual scope f cdv A outer s₀ H₀ E).stack:=fun{b o} e hb z=>by
  rw [af] at z
  rcases List.mem_cons.mp z with q | q
  ·have h1:=Heap.lt_size e
   rw [q] at h1
   exact Nat.lt_irrefl _ h1
  ·exact hb q
 show wpAny (model P w) (A.deeper (envOfC qual scope s₀.heap.objs.size f cdv)) (leaving (envOfC qual scope s₀.heap.objs.size f cdv) (.ref ea)) _ _ _
 refine wpAny_leaves_onW I.ok.frames rfl fl fun ah ae up=>?_
 have u1:Un (iF outer) [] H₀ H' s₀.heap s'.heap:=by
  refine⟨fun b o e n hb U=>?_,fun b o e n hb U=>?_,fun b o e n U=>?_,fun b o e U=>?_,fun b xs q=>un.tups b xs (J.tups b xs q),fun b ob u q=>un.frzs b ob u (J.frzs b ob u q),fun b ps q=>?_⟩
  ·exact un.keep b o (J.keep b o e n hb U) (J.free b o e n U) (aa e hb) (by simp)
  ·obtain⟨sl,e1⟩:=J.slot b o e n hb U
   obtain⟨ag,e2⟩:=un.any e1 (J.free b o e n U) (by simp)
   exact⟨ag,e2⟩
  ·obtain⟨o',e1⟩:=J.there b o e U
   exact un.free b o' e1 (J.free b o e n U) (by simp)
  ·obtain⟨o',e1⟩:=J.there b o e U
   exact un.there b o' e1 (by simp)
  ·obtain⟨m1,e1⟩:=J.tbls b ps q
   obtain⟨m2,e2⟩:=un.tbls b _ e1
   exact⟨m1++m2,by rw [e2,Array.append_assoc]⟩
 have K1:∀ b o,s₀.heap.get? b=some o->H₀ b=none->b∉iF outer->B.get? b=some o:=fun b o e n hb=>k1 b o (J.keep b o e n hb (by simp)) (J.free b o e n (by simp)) (aa e hb)
 have K3:∀ b o,s₀.heap.get? b=some o->b∉iF outer->∃ o',B.get? b=some o':=fun b o e hb=>by
  obtain⟨o',e1⟩:=J.there b o e (by simp)
  exact k3 b o' e1 (aa e hb)
 have ff:s'.heap.FunFrames B outer:=by
  obtain⟨_,_,⟨_,_,r⟩,_⟩:=fl
  exact r
 exact⟨ea,cls,a0,B,H',rfl,os.trans I.os,bare,pB rfl u1 K1 K3 ff ae.1 up,pN hok k2 fl.1 ae.1,ae,K1,K3,k2,hE _ _ _ U⟩
end
theorem xu{K:W.Frag}{h:Heap}{C:Addr}{bmB:List Value}{newId:String}(X:K.In h)(q:W.excIn K C bmB newId=true):
  ∃ bm N nm qn bs hdct sn sub ab col dd k0 k1 k2 k3 k5 mN,h.get? C=some (excClassObj nm qn C N bs bm hdct sn sub ab col dd k0 k1 k2 k3 k5 newId)/\h.Ns N mN/\mN "__init__"=none/\OwnTail h bmB bm:=by
 unfold W.excIn at q
 split at q
 ·rename_i dd cd sl ho
  split at q
  ·rename_i C' bm k0 k1 k2 k3 n k5 hm hs
   simp only [Bool.and_eq_true,beq_iff_eq,Bool.not_eq_true'] at q
   obtain⟨⟨⟨⟨⟨rfl,rfl⟩,J⟩,ht⟩,hok⟩,U⟩:=q
   obtain⟨nm,bs,mro,ns,qn,hd,sn,sub,ab,col,del⟩:=cd
   dsimp only at hm J hok U
   subst hm J
   have aa:sl=#[k0,k1,k2,k3,some (.builtin n),k5]:=by
    obtain⟨l⟩:=sl
    simp only at hs
    rw [hs]
   subst aa
   exact⟨bm,ns,nm,qn,bs,hd,sn,sub,ab,col,dd,k0,k1,k2,k3,k5,_,X _ _ ho,.of_isNs (W.isNs_of_in X hok),W.nsMap_none_of_in X hok U,W.tail_of_in X ht⟩
  ·cases q
 ·cases q
section
variable {X : Cx} {E : XK}
noncomputable def Cn(C:Addr)(E:XK)(t:TA):TS:=fun _ σ H=>t σ H fun vs H1=>vs.length<=sizeLine/\E (.ref C) none H1
theorem lP{x:Str}{C:Addr}{e:Expr}{es:List Expr}{t:TA}{np cpos pos:Pos}{B Bn newId nid initId inN:String}{bmB bmN:List Value}(hcalm:X.calm=true)(hq:W.excIn X.K C bmB newId=true)
  (Fn:ExcBaseFacts Bn newId inN bmN)(hBn:bmB.contains (.type Bn)=true)(FB:ExcBaseFacts B nid initId bmB)(hg:Gl X x)(hm:X.mg x=some (.ref C))(ha:PA X (e::es) t)(hR:Raises X E)
  (hdb:(x == ("__debug__":Str))=false:=by decide)(he:starEach (e::es) X.env=(false,eval e X.env)::starEach es X.env:=by rfl)(hpl:(backTo cpos (starEach es X.env)).any (·.1)=false:=by rfl):
  PS X (.Raise (some (.Call (.Name x np) (e::es) [] cpos)) none pos) (Cn C E t):=by
 intro pins s σ H D I h
 obtain⟨tl,N,nm,qn,bs,hdct,sn,sub,ab,col,dd,k0,k1,k2,k3,k5,mN,hC,hN,U,T⟩:=xu I.ok.mod.kin hq
 refine wpAny_Raise_call_subU (C:=C) (nm:=nm) (q:=qn) (N:=N) (bs:=bs) (bm:=tl) (hdct:=hdct) (sn:=sn) (sub:=sub) (ab:=ab) (col:=col) (dd:=dd) (k0:=k0) (k1:=k1) (k2:=k2) (k3:=k3) (k5:=k5)
  Fn hBn FB (mN:=mN) (T.hasType FB.hasBase) (I.ok.hd hcalm) (by rw [he];show(false || (backTo cpos (starEach es X.env)).any (·.1))=false;rw [hpl];rfl) U (lT I hg hm ⟨rfl,?_⟩ hdb)
 have hA:=ha cpos pins s σ H _ I h
 rw [he] at hA ⊢
 exact Calls.evalArgs_plain (ic hA fun us s2 ⟨vs,H2,J,r,hz,hE⟩=>⟨rfl,by rw [<-r.length];exact hz,J.bk _ _ hC,hN.keeps J.bk,T.keeps J.bk,fun h' ea mk=>hR pins σ H2 s2 h' ea (.ref C) us J mk hE⟩)
end
section
variable {P : Program} {w : World} {K : PySem.W.Frag} {mg : Str -> Option Value} {base : Heap}
theorem kP.ok1 {x qual:Str}{st:Stmt}{f:Addr}{fd:FuncData}{N ps:List Str}{k:Nat}{sp:Sp}(F:kP K x qual st f fd)(S:iU N ps (iu st))(len:∀ vs H Q E,sp vs H Q E->vs.length=ps.length)
  (hbody:∀(cdv:Value) (A:Around) (outer:List Env) (s:Shared) (H:Hp) (vs:List V) (Q:VK) (E:XK),jE k (A.deeper (envOfC qual (iu st) s.heap.objs.size f cdv))->sp vs H Q E->
   ∃ t,iD (iP (iT P w) P w K mg base N qual (iu st) f cdv A outer s H E) (kM st) t/\t {nx:=fun _ H'=>Q .non H',rt:=Q} (start N vs) H):hZ P w K mg base (iT P w) (k + 1) f fd ps sp:=by
 obtain⟨oc,od,kV,doc,pm,an,cdv,ct,aa,rfl,lk,J⟩:=F.ex
 exact tH lk J S len fun A outer s H vs Q E hr U=>hbody cdv A outer s H vs Q E hr U
end
noncomputable def nK(ea C:Addr):HO:= .ext fun h=>∃ o vs,h.get? ea=some o/\o.cls= .ref C/\o.data= .fields vs
noncomputable abbrev Cx.tr (X:Cx)(p:List (Addr×Obj))(E:Value->Shared->Prop):Cx:={X with pn:=p,xe:=E}
noncomputable def oU(X:Cx)(ea:Addr)(p:List (Addr×Obj)):Cx:={X with A:=X.A.mark (some (.ref ea)),calm:=false,xe:=fun _ _=>False,pn:=p}
noncomputable def nV(CX:j9)(X:Cx)(E:St->XK):Prop:=∀(pins:List (Addr×Obj)) (σ:St) (H:Hp) (s:Shared) (e:Value) (s':Shared),Inv X pins σ H s->CX X.stack H s (E σ) e s'->X.xe e s'
noncomputable def FA(sp:Sp)(dvs:List V)(E:St->XK)(t:TA):TE:=fun σ H Q=>t σ H fun vs H1=>sp (vs++dvs) H1 Q (E σ)
section
variable {X : Cx} {CX : j9} {k : Nat} {f C : Addr} {fd : FuncData} {ps : List Str} {sp : Sp} {dvs : List V} {ds : List Value} {E : St -> XK} {x m : Str} {p pos apos : Pos} {e o : Expr} {es : List Expr} {ta : TE} {t : TA}
theorem EA{pins:List (Addr×Obj)}{σ:St}{H:Hp}{s:Shared}{Q:VK}{us:List Value}{vs:List V}(F:hZ X.prog X.w X.K X.mg X.base CX k f fd ps sp)(hr:jE k X.A)(hb:Binds X.K fd ps ds)(hd:Vals dvs ds)(hx:nV CX X E)
  (I:Inv X pins σ H s)(r:Vals vs us)(h:sp (vs++dvs) H Q (E σ)):wpAny (model X.prog X.w) X.A (call (.ref f) us) (EP X pins σ Q) X.xe s:=by
 have U:Vals (vs++dvs) (us++ds):=r.append hd
 have hl:(us++ds).length=ps.length:=by rw [<-U.length];exact F.len _ _ _ _ h
 refine wpAny_call (codeAny_mono (F.run X.A X.stack s H ⟨us,[]⟩ (us++ds) (vs++dvs) Q (E σ) hr I.env0 (hb s us I.kIn hl) U h) fun r s' J=>?_)
 cases r with
 | error e=>exact hx pins σ H s e s' I J
 | ok fl=>
  cases fl with
  | ret u=>exact I.after J
  | next=>exact False.elim J
  | brk=>exact False.elim J
  | cont=>exact False.elim J
theorem um(F:hZ X.prog X.w X.K X.mg X.base CX k f fd ps sp)(hr:jE k X.A)(hg:Gl X x)(hm:X.mg x=some (.ref f))(hk:W.keepIn X.K (.ref f)=true)(hb:Binds X.K fd ps ds)(hd:Vals dvs ds)(hx:nV CX X E)
  (ha:PA X (e::es) t)(hdb:(x == ("__debug__":Str))=false:=by decide)(he:starEach (e::es) X.env=(false,eval e X.env)::starEach es X.env:=by rfl)(hpl:(backTo pos (starEach es X.env)).any (·.1)=false:=by rfl):
  PE X (.Call (.Name x p) (e::es) [] pos) (FA sp dvs E t):=by
 intro pins s σ H Q I h
 refine wpAny_Call_Name_kw (lT I hg hm ?_ hdb)
 refine W.callWith_K (h₀:=X.base) I.ok.mod.kin hk (ic (ha pos pins s σ H _ I h) fun us s1 ⟨vs,H1,J,r,q⟩=>⟨J.kIn,?_⟩) he hpl
 exact EA F hr hb hd hx J r q
end
section
variable {X : Cx} {pins : List (Addr × Obj)} {σ : St} {H : Hp} {s : Shared}
theorem Inv.unset {n:Str}{i:Nat}{m:Str->Option Value}{u:Option Value}{h':Heap}(I:Inv X pins σ H s)(hN:X.N.Nodup)(hi:X.N[i]? =some n)
  (hl:∀(i:Nat) (x:Str) (v:V),X.N[i]? =some x->σ[i]? =some (some v)->pK X.env.scope x->∃ u,RelV v u/\Look X.env s.heap m x u)
  (hn':h'.Ns X.env.locals (fun x=>if x=n then u else m x))(hs:Heap.SameBut X.env.locals s.heap h'):Inv X pins (σ.set i none) H {s with heap:=h'}:=by
 have cne:=I.cne
 obtain⟨m0,⟨oL,_,_,aa,_⟩,_⟩:=id I.loc
 have tracked:i8 X.prog X.w H h':=fun b ob e=>by
  refine(I.hok b ob e).stay (fun c w' hc q=>(hs.2 c ?_).trans q) (fun _ q=>q) fun _ _ q=>q
  rintro rfl
  have hf:=I.free
  rcases hc with hc | hc
  ·rw [<-hc,hf] at e;cases e
  ·rw [hf] at hc;cases hc
 refine⟨I.ok,I.os,I.bare,⟨fun b o e n hb hx=>?_,fun b o e n hb hx=>?_,I.base.free,fun b o e hx=>?_,I.base.tups,I.base.frzs,I.base.tbls⟩,⟨_,hn',fun j y v' J U e3=>?_⟩,fun y c e=>?_,I.free,I.freeC,fun p hp=>?_,tracked,by simpa using I.len⟩
 ·exact(hs.2 b (Nat.ne_of_lt (Nat.lt_of_lt_of_le (Heap.lt_size e) I.ok.above))).trans (I.base.keep b o e n hb hx)
 ·obtain⟨sl,J⟩:=I.base.slot b o e n hb hx
  exact⟨sl,(hs.2 b (Nat.ne_of_lt (Nat.lt_of_lt_of_le (Heap.lt_size e) I.ok.above))).trans J⟩
 ·obtain⟨o',J⟩:=I.base.there b o e hx
  exact⟨o',(hs.2 b (Nat.ne_of_lt (Nat.lt_of_lt_of_le (Heap.lt_size e) I.ok.above))).trans J⟩
 ·by_cases hj:j=i
  ·subst hj
   rw [List.getElem?_set] at U
   rw [if_pos rfl] at U
   split at U<;>cases U
  ·rw [List.getElem?_set_ne (Ne.symm hj)] at U
   obtain⟨u',r',q⟩:=hl j y v' J U e3
   refine⟨u',r',?_⟩
   rcases q with ⟨k,e⟩ | ⟨k,c,e,z⟩
   ·refine .inl ⟨k,?_⟩
    have:y≠n:=fun e=>hj (tP hN J (e ▸ hi))
    simp [this,e]
   ·exact .inr ⟨k,c,e,z.sameBut hs (cne y c e)⟩
 ·obtain⟨w',z⟩:=I.cell y c e
  exact⟨w',z.sameBut hs (cne y c e)⟩
 ·obtain⟨e,n,ne,nf,d⟩:=I.pin p hp
  exact⟨(hs.2 p.1 ne).trans e,n,ne,nf,d⟩
theorem sL{n:Str}{i:Nat}{pos:Pos}{Q:Unit->Shared->Prop}(I:Inv X pins σ H s)(hN:X.N.Nodup)(hi:X.N[i]? =some n)(hk:X.env.scope.names.lookup n=some .local)
  (h:∀ s',Inv X pins (σ.set i none) H s'->Q () s'):wpAny (model X.prog X.w) X.A (do bindName X.env n .none;unbindBehindTheSuite X.env n pos) Q X.xe s:=by
 have J:(X.env.scope.kind == .class || (X.env.scope.kind == .module && X.env.locals != X.env.globals))=false:=by rw [I.ok.kind];rfl
 refine wpAny_bind (wpAny_bindName (qt I hN hi (.inl hk) (show RelV .non .none from rfl) (fun s1 I1=>?_) (.inr hk)))
 obtain⟨m,hn,hl⟩:=id I1.loc
 have U:i < σ.length:=by rw [I.len];exact(List.getElem?_eq_some_iff.mp hi).1
 obtain⟨u,ru,lk⟩:=hl i n .non hi (by rw [List.getElem?_set_self U]) (.inl hk)
 have hm:m n=some u:=by
  rcases lk with ⟨_,e⟩ | ⟨z,_⟩
  ·exact e
  ·have aa:X.env.kindOf n=some .local:=hk
   rw [aa] at z
   rcases z with z | z<;>cases z
 unfold unbindBehindTheSuite
 refine wpAny_onRaise (wpAny_unbindName_local hk hn hm J fun h' u' ae af=>?_)
 have I2:=I1.unset hN hi hl ae af
 rw [List.set_set] at I2
 exact h _ I2
end
section
variable {X : Cx}
noncomputable def Fh(K:W.Frag)(CH:Addr)(i:Nat)(E:St->XK)(tb ts:TS):TS:=fun D σ H=>tb D σ H/\∀ U cls H' ea,E U cls none H'->H' ea=none->
 ∃ C,cls= .ref C/\W.exmOne K (.ref C) (.ref CH)=some true/\
  ts {nx:=fun J H2=>D.nx (J.set i none) H2,rt:=D.rt,bk:=fun J H2=>D.bk (J.set i none) H2,ct:=fun J H2=>D.ct (J.set i none) H2} (U.set i (some (.ref ea))) (upd H' ea (nK ea C))
theorem FV{pins:List (Addr×Obj)}{D:Ends}{CH:Addr}{i:Nat}{E:St->XK}{x n:Str}{np pos:Pos}{b₀:Stmt}{suite:List Stmt}{ts:TS}
  (hstk:X.stack=X.env::X.outer)(hfr:X.env.frame=some X.env.locals)(hN:X.N.Nodup)(hi:X.N[i]? =some n)(hk:X.env.scope.names.lookup n=some .local)(hg:Gl X x)(hm:X.mg x=some (.ref CH))
  (hs:∀ ea p,iD (oU X ea p) (b₀::suite) ts)
  (hc:∀ σ' cls H' ea,E σ' cls none H'->H' ea=none->∃ C,cls= .ref C/\W.exmOne X.K (.ref C) (.ref CH)=some true/\
   ts {nx:=fun σ2 H2=>D.nx (σ2.set i none) H2,rt:=D.rt,bk:=fun σ2 H2=>D.bk (σ2.set i none) H2,ct:=fun σ2 H2=>D.ct (σ2.set i none) H2} (σ'.set i (some (.ref ea))) (upd H' ea (nK ea C)))
  (hdb:(x == ("__debug__":Str))=false:=by decide):
  nV (iT X.prog X.w) (X.tr (X.pn++pins) fun e s₁=>wpAny (model X.prog X.w) X.A (noteFrame e X.env) (fun _ s₂=>wpAny (model X.prog X.w) X.A (setFlight e none) (fun _ s₃=>
   wpAny (model X.prog X.w) X.A (handleBy e X.env [.ExceptHandler (some (.Name x np)) (some n) (b₀::suite) pos]) (SP X pins D) X.xe s₃) X.xe s₂) X.xe s₁) E:=by
 intro aa σ' H1 s1 e s' J hx
 obtain⟨ea,cls,a0,B,H',rfl,os,bare,un,hok,fl,k1,k3,k2,hE⟩:=hx
 have aA:Heap.FlyingW B (X.env::X.outer) ea cls a0 s'.heap:=hstk ▸ fl
 have ah:X.A.frames=some (X.env::X.outer):=hstk ▸ J.ok.frames
 have ak:ea∉iF X.stack:=fun z=>by
  obtain⟨_,o,ho,nf⟩:=fl.2.2.1.mem z
  obtain⟨oe,vs,_,_,_,he,_,hd,_⟩:=fl.2.2.2
  rw [he] at ho;cases ho
  exact nf vs hd
 have nE:∀{b:Addr} {o:Obj},s1.heap.get? b=some o->b≠ea:=fun{b o} q z=>by
  subst z
  obtain⟨o',e'⟩:=k3 b o q ak
  rw [fl.2.1] at e';cases e'
 have nH:H' ea=none:=by
  cases q:H' ea with
  | none=>rfl
  | some u=>
   obtain⟨o,e'⟩:=k2 ea u q
   rw [fl.2.1] at e';cases e'
 have go:∀{h2:Heap},Heap.FlyingW B (X.env::X.outer) ea cls a0 h2->s'.heap.UpToSlots h2->Inv (X.tr (X.pn++pins) fun e s₁=>wpAny (model X.prog X.w) X.A (noteFrame e X.env) (fun _ s₂=>wpAny (model X.prog X.w) X.A (setFlight e none) (fun _ s₃=>
   wpAny (model X.prog X.w) X.A (handleBy e X.env [.ExceptHandler (some (.Name x np)) (some n) (b₀::suite) pos]) (SP X pins D) X.xe s₃) X.xe s₂) X.xe s₁) aa σ' H' {s' with heap:=h2}:=fun{h2} ao up=>
  J.call' (s':={s' with heap:=h2}) (ch:=[]) os (pB rfl un k1 k3 fl.2.2.1 ao.1 up) (pN hok k2 fl.1 ao.1) bare fun b z=>absurd z (by simp)
 have aq:∀{s2:Shared} {H2:Hp},Inv (X.tr (X.pn++pins) fun e s₁=>wpAny (model X.prog X.w) X.A (noteFrame e X.env) (fun _ s₂=>wpAny (model X.prog X.w) X.A (setFlight e none) (fun _ s₃=>
   wpAny (model X.prog X.w) X.A (handleBy e X.env [.ExceptHandler (some (.Name x np)) (some n) (b₀::suite) pos]) (SP X pins D) X.xe s₃) X.xe s₂) X.xe s₁) aa σ' H2 s2->Inv (oU X ea (X.pn++pins)) [] σ' H2 s2:=fun I=>
  ⟨⟨I.ok.mod,I.ok.kind,I.ok.glob,I.ok.blt,I.ok.above,I.ok.inj,I.ok.has,I.ok.cab,(fun z=>by cases z),I.ok.frames,I.ok.stk,I.ok.exf,I.ok.bs,I.ok.bsz,I.ok.noex,I.ok.exfs,I.ok.funs,I.ok.frf⟩,
   I.os,I.bare,I.base,I.loc,I.cell,I.free,I.freeC,fun p hp=>I.pin p (List.mem_append_left _ (by have ae:p∈(X.pn++pins)++[]:=hp;rw [List.append_nil] at ae;exact ae)),I.hok,I.len⟩
 refine wpAny_looks_onW ah hfr aA fun h4 held ar=>?_
 refine wpAny_landsW held fun h5 af au=>?_
 obtain⟨C,rfl,av,aB⟩:=hc σ' cls H' ea hE nH
 have I5:=aq (go af (ar.trans au))
 refine wpAny_handleBy_cons (codeAny_handlers_test ?_) (by intro q;cases q)
 refine lT I5 hg hm ?_ hdb
 obtain⟨ob,aC,aw⟩:=af.there
 have LT:W.Looks (model X.prog X.w) h5 (typeOf (.ref ea)) (.ref C):=by
  rw [<-aw]
  exact(W.Looks.ld aC).andThen .now
 refine W.exm_one I5.kIn LT av _ _ _ _ (fun _ _ q=>q) ?_
 refine codeAny_handlers_suite_as (lands_againW af fun h6 ax aD=>?_)
 have I6:=aq (go ax ((ar.trans au).trans aD))
 have I7:Inv (oU X ea (X.pn++pins)) [] σ' (upd H' ea (nK ea C)) {s' with heap:=h6}:=by
  refine I6.track ?_ nH (fun z=>?_) (fun y c q z=>?_) (fun p hp z=>?_) ?_
  ·by_cases hx:ea∈X.ex
   ·exact .inr hx
   ·refine .inl ?_
    cases q:X.s₀.heap.get? ea with
    | none=>exact q
    | some o=>
     obtain⟨o',e'⟩:=J.base.there ea o q hx
     exact absurd rfl (nE e')
  ·exact ak (by rw [hstk];exact List.mem_filterMap.mpr ⟨X.env,List.mem_cons_self,by rw [hfr];exact congrArg some z.symm⟩)
  ·obtain⟨v,oc,aE,_⟩:=J.cell y c q
   exact nE aE z
  ·exact nE (J.pin p (List.mem_append_left _ (by have ae:p∈(X.pn++pins)++[]:=hp;rw [List.append_nil] at ae;exact ae))).1 z
  ·obtain⟨oe,vs,_,_,_,he,⟨aF,_⟩,hd,_⟩:=ax.2.2.2
   exact⟨⟨oe,vs,he,aF,hd⟩,⟨oe,he⟩,fun h1 h2 ⟨o,ws,q1,q2,q3⟩ k=>⟨o,ws,k o q1,q2,q3⟩⟩
 refine qt (X:=oU X ea (X.pn++pins)) I7 hN hi (.inl hk) (show RelV (.ref ea) (.ref ea) from rfl) (fun s8 I8=>?_) (.inr hk)
 refine wpAny_mono (hs ea (X.pn++pins) [] s8 _ _ _ I8 aB) (fun ay s9 h9=>?_) fun _ _ z=>False.elim z
 have back:∀{σ2:St} {H2:Hp},Inv (oU X ea (X.pn++pins)) [] σ2 H2 s9->Inv X pins σ2 H2 s9:=fun I=>
  ⟨⟨J.ok.mod,J.ok.kind,J.ok.glob,J.ok.blt,J.ok.above,J.ok.inj,J.ok.has,J.ok.cab,J.ok.hd,J.ok.frames,J.ok.stk,J.ok.exf,J.ok.bs,J.ok.bsz,J.ok.noex,J.ok.exfs,J.ok.funs,J.ok.frf⟩,
   I.os,I.bare,I.base,I.loc,I.cell,I.free,I.freeC,fun p hp=>I.pin p (List.mem_append_left _ hp),I.hok,I.len⟩
 show wpAny (model X.prog X.w) X.A (do bindName X.env n .none;unbindBehindTheSuite X.env n pos) (fun _ s₃=>SP X pins D ay s₃) X.xe s9
 cases ay with
 | next=>
  obtain⟨σ2,H2,I9,q9⟩:=h9
  exact sL (back I9) hN hi hk fun ag U=>⟨_,H2,U,q9⟩
 | brk=>
  obtain⟨σ2,H2,I9,q9⟩:=h9
  exact sL (back I9) hN hi hk fun ag U=>⟨_,H2,U,q9⟩
 | cont=>
  obtain⟨σ2,H2,I9,q9⟩:=h9
  exact sL (back I9) hN hi hk fun ag U=>⟨_,H2,U,q9⟩
 | ret u=>
  obtain⟨v,σ2,H2,I9,rv,q9⟩:=h9
  exact sL (back I9) hN hi hk fun ag U=>⟨v,_,H2,U,rv,q9⟩
theorem xF{CH:Addr}{i:Nat}(E:St->XK){x n:Str}{np hpos pos:Pos}{b₀:Stmt}{suite body:List Stmt}{tb ts:TS}
  (hstk:X.stack=X.env::X.outer)(hfr:X.env.frame=some X.env.locals)(hN:X.N.Nodup)(hi:X.N[i]? =some n)(hk:X.env.scope.names.lookup n=some .local)(hg:Gl X x)(hm:X.mg x=some (.ref CH))
  (hb:∀ p xe,nV (iT X.prog X.w) (X.tr p xe) E->iD (X.tr p xe) body tb)(hs:∀ ea p,iD (oU X ea p) (b₀::suite) ts)
  (hdb:(x == ("__debug__":Str))=false:=by decide):PS X (.Try body [.ExceptHandler (some (.Name x np)) (some n) (b₀::suite) hpos] [] [] pos) (Fh X.K CH i E tb ts):=by
 intro pins s σ H D I h
 obtain⟨h1,h2⟩:=h
 refine wpAny_Try_except ?_
 have I':Inv (X.tr (X.pn++pins) fun e aa=>wpAny (model X.prog X.w) X.A (noteFrame e X.env) (fun _ ae=>wpAny (model X.prog X.w) X.A (setFlight e none) (fun _ af=>
   wpAny (model X.prog X.w) X.A (handleBy e X.env [.ExceptHandler (some (.Name x np)) (some n) (b₀::suite) hpos]) (SP X pins D) X.xe af) X.xe ae) X.xe aa) [] σ H s:=
  ⟨⟨I.ok.mod,I.ok.kind,I.ok.glob,I.ok.blt,I.ok.above,I.ok.inj,I.ok.has,I.ok.cab,I.ok.hd,I.ok.frames,I.ok.stk,I.ok.exf,I.ok.bs,I.ok.bsz,I.ok.noex,I.ok.exfs,I.ok.funs,I.ok.frf⟩,
   I.os,I.bare,I.base,I.loc,I.cell,I.free,I.freeC,fun p hp=>I.pin p (by simpa using hp),I.hok,I.len⟩
 have back:∀{U:St} {H2:Hp} {s2:Shared},Inv (X.tr (X.pn++pins) fun e aa=>wpAny (model X.prog X.w) X.A (noteFrame e X.env) (fun _ ae=>wpAny (model X.prog X.w) X.A (setFlight e none) (fun _ af=>
   wpAny (model X.prog X.w) X.A (handleBy e X.env [.ExceptHandler (some (.Name x np)) (some n) (b₀::suite) hpos]) (SP X pins D) X.xe af) X.xe ae) X.xe aa) [] U H2 s2->Inv X pins U H2 s2:=fun J=>
  ⟨I.ok,J.os,J.bare,J.base,J.loc,J.cell,J.free,J.freeC,fun p hp=>J.pin p (List.mem_append_left _ hp),J.hok,J.len⟩
 refine wpAny_mono (hb _ _ (FV hstk hfr hN hi hk hg hm hs h2 hdb) [] s σ H D I' h1) (fun f s1 q=>?_) fun e s1 q=>q
 cases f with
 | next=>
  obtain⟨U,H2,J,q⟩:=q
  exact wpAny_execs_nil ⟨U,H2,back J,q⟩
 | brk=>obtain⟨U,H2,J,q⟩:=q;exact⟨U,H2,back J,q⟩
 | cont=>obtain⟨U,H2,J,q⟩:=q;exact⟨U,H2,back J,q⟩
 | ret u=>obtain⟨v,U,H2,J,r,q⟩:=q;exact⟨v,U,H2,back J,r,q⟩
end
structure jZ (k : Nat) (A : Around) : Prop where
 dp : A.depth + 3 * k + 5 < recursionLimit
 un : A.units + 16 * k + 200 < cLine
theorem jE.toN {k:Nat}{A:Around}(r:jE k A):jZ k A:=⟨r.dp,r.un⟩
theorem jZ.mono {j k:Nat}{A:Around}(r:jZ k A)(h:j<=k):jZ j A:=⟨by have:=r.dp;omega,by have:=r.un;omega⟩
theorem jZ.deeper {k:Nat}{A:Around}(r:jZ (k + 1) A)(env:Env):jZ k (A.deeper env):=
 ⟨by have:=r.dp;show A.depth + 1 + 3 * k + 5 < _;omega,by have:=r.un;show A.units + 3 + 16 * k + 200 < _;omega⟩
theorem jZ.mark {k:Nat}{A:Around}(r:jZ k A)(e:Option Value):jZ k (A.mark e):=⟨r.dp,r.un⟩
theorem jZ.depth {k:Nat}{A:Around}(r:jZ k A):A.depth < recursionLimit:=by have:=r.dp;omega
theorem jZ.units {k:Nat}{A:Around}(r:jZ k A):A.units + 100 < cLine:=by have:=r.un;omega
theorem jE.units100 {k:Nat}{A:Around}(r:jE k A):A.units + 100 < cLine:=r.toN.units
structure nW (P : Program) (w : World) (K : W.Frag) (mg : Str -> Option Value) (base : Heap) (k : Nat) (f : Addr) (fd : FuncData) (ps : List Str) (sp : List V -> Hp -> VK -> Prop) : Prop where
 len : ∀ vs H Q, sp vs H Q -> vs.length = ps.length
 run : ∀ (A : Around) (outer : List Env) (s : Shared) (H : Hp) (args : Args) (us : List Value) (vs : List V) (Q : VK), jZ k A -> oD P w K mg base A outer s H -> BindsTo s fd args (ps.zip us) -> Vals vs us -> sp vs H Q ->
  codeAny (model P w) A (.call (.ref f) args) (CR iw outer P w H s Q E0) s
noncomputable def qX(P:Program)(w:World)(K:W.Frag)(mg:Str->Option Value)(base:Heap)(N:List Str)(qual:Str)(scope:Scope)(f:Addr)(cd:Value)(A:Around)(outer:List Env)(s:Shared)(H:Hp):Cx:=
 {iP iw P w K mg base N qual scope f cd A outer s H E0 with calm:=false,xe:=fun _ _=>False}
theorem Ig{P:Program}{w:World}{K:W.Frag}{mg:Str->Option Value}{base:Heap}{k:Nat}{f:Addr}{name qual:Str}{params:Arguments}{body:List Stmt}{scope:Scope}{dV kV doc pm cdv ct oc:Value}{an od:Option Addr}
  {osl:Array (Option Value)}{N ps:List Str}{sp:List V->Hp->VK->Prop}(lk:K.lookup f=some ⟨oc,od,.func (W.fnOf name qual params body scope dV kV doc pm an cdv ct),osl⟩)(hcd:W.codeIn K cdv qual=true)(S:iU N ps scope)
  (len:∀ vs H Q,sp vs H Q->vs.length=ps.length)
  (hbody:∀(A:Around) (outer:List Env) (s:Shared) (H:Hp) (vs:List V) (Q:VK),jZ k (A.deeper (envOfC qual scope s.heap.objs.size f cdv))->sp vs H Q->
   ∃ t,iD (qX P w K mg base N qual scope f cdv A outer s H) body t/\t {nx:=fun _ H'=>Q .non H',rt:=Q} (start N vs) H):
  nW P w K mg base (k + 1) f (W.fnOf name qual params body scope dV kV doc pm an cdv ct) ps sp:=by
 refine⟨len,fun A outer s H args us vs Q hr e0 hb r af=>?_⟩
 have hl:=len _ _ _ af
 have KX:K.In s.heap:=e0.mod.kin.keeps fun b o e=>(e0.bs b o e).1
 have lim:s.heap.NoLimit:=e0.mod.nolimit.keeps fun b o e=>(e0.bs b o e).1
 have ae:∀ y∈ps.zip us,scope.names.lookup y.1=some .local\/(scope.names.lookup y.1=some .cell/\((cellsFrom (s.heap.objs.size + 1) scope.names []).lookup y.1).isSome=true):=fun⟨n,v⟩ hy=>by
  rcases S.par n (List.of_mem_zip hy).1 with q | q
  ·exact .inl q
  ·exact .inr ⟨q,W.cellsFrom_some _ _ _ (.inl q)⟩
 refine codeAny_call_function hr.depth (KX _ _ lk) rfl S.co S.gen rfl (W.codeRec_of KX hcd) (hb _ _ _ _ ?_)
 refine wpAny_newFunctionEnv_cells S.kind ae fun env he s1 x=>?_
 subst he
 refine⟨lim.keeps x.toInCall.keep,codeAny_func ?_⟩
 obtain⟨t,ht,hq⟩:=hbody A outer s H vs Q (hr.deeper _) af
 have ag:oD P w K mg base {A with handled:=none} outer s H:=⟨e0.frames,e0.mod,e0.bs,e0.bsz,e0.funs,e0.frf,e0.hok,e0.bare⟩
 have U:Inv (iP iw P w K mg base N qual scope f cdv {A with handled:=none} outer s H E0) [] (start N vs) H s1:=zz S rfl ag hl r x
 have I:Inv (qX P w K mg base N qual scope f cdv A outer s H) [] (start N vs) H s1:=
  ⟨⟨U.ok.mod,U.ok.kind,U.ok.glob,U.ok.blt,U.ok.above,U.ok.inj,U.ok.has,U.ok.cab,(fun z=>by cases z),Around.frames_deeper e0.frames,U.ok.stk,U.ok.exf,U.ok.bs,U.ok.bsz,U.ok.noex,U.ok.exfs,U.ok.funs,U.ok.frf⟩,
   U.os,U.bare,U.base,U.loc,U.cell,U.free,U.freeC,U.pin,U.hok,U.len⟩
 refine wpAny_mono (ht [] s1 (start N vs) H _ I hq) (fun fl s' hs=>?_) fun e s' hs=>False.elim hs
 have fin:∀{aa:St} {H':Hp} {v:V} {u:Value},Inv (qX P w K mg base N qual scope f cdv A outer s H) [] aa H' s'->RelV v u->Q v H'->CE outer P w H s Q u s':=
  fun{aa H' v u} J rv q=>⟨v,H',J.os,J.bare,J.base,J.hok,rv,q⟩
 cases fl with
 | ret u=>
  obtain⟨v,aa,H',J,rv,q⟩:=hs
  exact fin J rv q
 | next=>
  obtain⟨aa,H',J,q⟩:=hs
  exact fin (v:=V.non) (u:=Value.none) J rfl q
 | brk=>
  obtain⟨_,_,_,q⟩:=hs
  exact False.elim q
 | cont=>
  obtain⟨_,_,_,q⟩:=hs
  exact False.elim q
theorem kP.okN {P:Program}{w:World}{K:W.Frag}{mg:Str->Option Value}{base:Heap}{x qual:Str}{st:Stmt}{f:Addr}{fd:FuncData}{N ps:List Str}{k:Nat}{sp:List V->Hp->VK->Prop}(F:kP K x qual st f fd)(S:iU N ps (iu st))(len:∀ vs H Q,sp vs H Q->vs.length=ps.length)
  (hbody:∀(cdv:Value) (A:Around) (outer:List Env) (s:Shared) (H:Hp) (vs:List V) (Q:VK),jZ k (A.deeper (envOfC qual (iu st) s.heap.objs.size f cdv))->sp vs H Q->
   ∃ t,iD (qX P w K mg base N qual (iu st) f cdv A outer s H) (kM st) t/\t {nx:=fun _ H'=>Q .non H',rt:=Q} (start N vs) H):nW P w K mg base (k + 1) f fd ps sp:=by
 obtain⟨oc,od,kV,doc,pm,an,cdv,ct,aa,rfl,lk,J⟩:=F.ex
 exact Ig lk J S len fun A outer s H vs Q hr U=>hbody cdv A outer s H vs Q hr U
noncomputable def Gk(sp:List V->Hp->VK->Prop)(dvs:List V)(t:TA):TE:=fun σ H Q=>t σ H fun vs H1=>sp (vs++dvs) H1 Q
section
variable {X : Cx} {k : Nat} {f C : Addr} {fd : FuncData} {ps : List Str} {sp : List V -> Hp -> VK -> Prop} {dvs : List V} {ds : List Value} {x m : Str} {p pos apos : Pos} {e o : Expr} {es : List Expr} {ta : TE} {t : TA}
theorem wq(F:nW X.prog X.w X.K X.mg X.base k f fd ps sp)(hr:jZ k X.A)(hg:Gl X x)(hm:X.mg x=some (.ref f))(hk:W.keepIn X.K (.ref f)=true)(hb:Binds X.K fd ps ds)(hd:Vals dvs ds)
  (ha:PA X (e::es) t)(hdb:(x == ("__debug__":Str))=false:=by decide)(he:starEach (e::es) X.env=(false,eval e X.env)::starEach es X.env:=by rfl)(hpl:(backTo pos (starEach es X.env)).any (·.1)=false:=by rfl):
  PE X (.Call (.Name x p) (e::es) [] pos) (Gk sp dvs t):=by
 intro pins s σ H Q I h
 refine wpAny_Call_Name_kw (lT I hg hm ?_ hdb)
 refine W.callWith_K (h₀:=X.base) I.ok.mod.kin hk (ic (ha pos pins s σ H _ I h) fun us s1 ⟨vs,H1,U,r,q⟩=>⟨U.kIn,?_⟩) he hpl
 have r2:Vals (vs++dvs) (us++ds):=r.append hd
 have hl:(us++ds).length=ps.length:=by rw [<-r2.length];exact F.len _ _ _ q
 refine wpAny_call (codeAny_mono (F.run X.A X.stack s1 H1 ⟨us,[]⟩ (us++ds) (vs++dvs) Q hr U.env0 (hb s1 us U.kIn hl) r2 q) fun r s' J=>?_)
 cases r with
 | error e=>exact False.elim J
 | ok fl=>
  cases fl with
  | ret u=>exact U.after J
  | next=>exact False.elim J
  | brk=>exact False.elim J
  | cont=>exact False.elim J
end
end L2
namespace PySem.W
open PySem PySem.Spec PySem.Calls PyProof.Rows PySem.Builtin.ObjectAttr PySem.Builtin.Getset_descriptor PySem.Builtin
structure ExcCls (K : Frag) (C : Addr) : Prop where
 cl : (clsIn K C).isSome = true
 ga : findIn K (.ref C) "__getattribute__" = some (some (.builtin "BaseException.__getattribute__"))
 hk : findIn K (.ref C) "__getattr__" = some none
 ha : findIn K (.ref C) "__class__" = some (some (.builtin "object.__class__"))
 hn : specialIn K (.builtin "object.__class__") "__get__" = some (some (.builtin "getset_descriptor.__get__"))
 ht : takesIn K (.builtin "object.__class__") = some true
 hm : mroIn K C (.type "object") = some true
 hb : mroIn K C (.type "BaseException") = some true
section
variable {prog : Program} {w : World} {A : Around} {E : Value -> Shared -> Prop} {K : Frag} {x C : Addr} {ox : Obj}
theorem Hf{R:Result->Shared->Prop}{h:Heap}{g:Array GenState}{d:Drawn}{t:Nat}{os:OsState}{tp:Value}(X:K.In h)(L0:Looks (model prog w) h (typeOf (.ref x)) (.ref C))(hm:mroIn K C (.type "object")=some true)
  (hq:R (.ok (.ret (.ref C))) ⟨h,g,d,t,os⟩):codeAny (model prog w) A (.call (.builtin "getset_descriptor.__get__") ⟨[.builtin "object.__class__",.ref x,tp],[]⟩) R ⟨h,g,d,t,os⟩:=by
 have J:=looks_mroIn (M:=model prog w) X hm
 refine codeAny_call_builtin KF.slot_gs.plain KF.entry_gs (KF.slot_gs.check _ _ _ _ _ _ _ _ KF.type_class (KF.args_gs _ _ _) ?_)
 unfold Builtin.«getset_descriptor.__get__» descrGet
 rw [dga_obj]
 refine wpAny_bind (wpAny_pure ?_)
 unfold descrGetter descrCheckInstance descrNameAndClass isInstance
 simp only [KF.owner_class]
 repeat lk
 refine⟨Code.quiet_builtin _ (by first | decide +kernel),codeAny_builtin KF.entry_class ?_⟩
 unfold Builtin.«object.__class__» shownTypeOf
 repeat lk
 exact hq
theorem EX{h:Heap}{g:Array GenState}{d:Drawn}{t:Nat}{os:OsState}{vs:Array Value}{Q:Option Value->Shared->Prop}(X:K.In h)(T:ExcCls K C)(hx:h.get? x=some ox)(hc:ox.cls= .ref C)(hd:ox.data= .fields vs)
  (hq:Q (some (.ref C)) ⟨h,g,d,t + 1,os⟩):wpAny (model prog w) A (getAttr? (.ref x) "__class__") Q E ⟨h,g,d,t,os⟩:=by
 have L0:Looks (model prog w) h (typeOf (.ref x)) (.ref C):=hc ▸ (Looks.ld hx).andThen .now
 have L1:=looks_findIn (M:=model prog w) X T.ga
 unfold getAttr? getAttrBy? getAttrBy
 refine wpAny_bind (wpAny_mkText (wpAny_bind (wpAny_attempt (wpAny_holding (wpAny_bind (L0.at (wpAny_bind (L1.at ?_))))))))
 show wpAny _ _ (getAttrByItsOwn (.ref x) (.str "__class__" t) (.ref C) (.builtin "BaseException.__getattribute__") false false) _ _ _
 have LH:=looks_findIn (M:=model prog w) X T.hk
 unfold getAttrByItsOwn callGetattribute boundAndCalled hookBefore
 refine wpAny_bind (LH.at (wpAny_bind (wpAny_attempt (wpAny_holding ?_))))
 rw [if_neg (by simp)]
 refine wpAny_bind (wpAny_of_eq (F.excAttr_ValueError.ga.bind _) ?_)
 refine wpAny_call ?_
 refine codeAny_call_builtin F.excAttr_ValueError.ga.plain F.entry_bexc_ga ?_
 have J:Looks (model prog w) h (isSubtype (.ref C) (.type "BaseException")) true:=looks_mroIn X T.hb
 have aa:∀{A':Around} {Q':Unit->Shared->Prop} {E':Value->Shared->Prop} {t':Nat},Q' () ⟨h,g,d,t',os⟩->wpAny (model prog w) A' (checkBuiltinCall "BaseException.__getattribute__" ⟨[.ref x,.str "__class__" t],[]⟩) Q' E' ⟨h,g,d,t',os⟩:=fun U=>by
  have ae:builtinKind "BaseException.__getattribute__"=some .slot:=by kernel_rfl
  have af:splitId "BaseException.__getattribute__"=some ("BaseException","__getattribute__"):=by kernel_rfl
  simp only [checkBuiltinCall,ae,af]
  have LI:Looks (model prog w) h (isInstance (.ref x) (.type "BaseException")) true:=L0.andThen J
  refine wpAny_bind (LI.at ?_)
  simp only [Bool.not_true,Bool.false_eq_true,if_false]
  have ha:=F.args_bexc_ga (.ref x) (.str "__class__" t)
  cases hsig:Manifest.signature? "BaseException.__getattribute__" with
  | none=>exact wpAny_pure U
  | some sig=>
   simp only [argsOk,hsig] at ha
   have h2:Bind.checkArgs "BaseException.__getattribute__" sig ⟨[.ref x,.str "__class__" t],[]⟩=pure ():=ha
   show wpAny _ _ (Bind.checkArgs "BaseException.__getattribute__" sig ⟨[.ref x,.str "__class__" t],[]⟩) _ _ _
   rw [h2];exact wpAny_pure U
 refine aa ?_
 have LF:Looks (model prog w) h (Builtin.ObjectAttr.find (.ref x) (.ref C) "__class__") (Found.bind (.builtin "getset_descriptor.__get__") (.builtin "object.__class__")):=by
  have L1:=looks_findIn (M:=model prog w) X T.ha
  have L2:Looks (model prog w) h (getOf (some (.builtin "object.__class__"))) (some (.builtin "getset_descriptor.__get__")):=looks_specialIn X T.hn
  have L3:=looks_takesIn (M:=model prog w) X T.ht
  unfold Builtin.ObjectAttr.find
  exact L1.andThen (L2.andThen ((show Looks (model prog w) h (dataDescriptor? (some (.builtin "object.__class__")) (some (.builtin "getset_descriptor.__get__"))) (some (.builtin "getset_descriptor.__get__",.builtin "object.__class__")) from L3.andThen .now).andThen (Looks.tag .now)))
 show wpAny _ _ (Builtin.«object.__getattribute__» ⟨[.ref x,.str "__class__" t],[]⟩) _ _ _
 unfold Builtin.«object.__getattribute__»
 refine wpAny_bind (wpAny_pure (wpAny_bind (wpAny_pure (wpAny_bind (L0.at (wpAny_bind (LF.at ?_)))))))
 show wpAny _ _ (bindTo (.builtin "getset_descriptor.__get__") (.builtin "object.__class__") (.ref x) (.ref C)) _ _ _
 show wpAny _ _ (holding [Value.builtin "object.__class__"] (call (.builtin "getset_descriptor.__get__") [.builtin "object.__class__",.ref x,.ref C]) >>= ret) _ _ _
 refine wpAny_bind (wpAny_holding (wpAny_call (Hf X L0 T.hm ?_)))
 refine wpAny_pure ?_
 exact handed_on rfl (wpAny_pure hq)
noncomputable def ExcAtH(x C:Addr)(h:Heap):Prop:=∃ o vs,h.get? x=some o/\o.cls= .ref C/\o.data= .fields vs
theorem kitx_exc(T:ExcCls K C):KitX K (.ref x) (.ref C) (ExcAtH x C) where
 ty:=fun M h _ ⟨o,vs,e,c,d⟩=>c ▸ (Looks.ld e).andThen .now
 it:=fun _ _ X _=>by
  obtain⟨U,J⟩:=Option.isSome_iff_exists.mp T.cl
  unfold clsIn at J
  split at J
  ·rename_i c' d' aa ae ho
   intro A' Q' E' s' k q
   unfold isType loadHead
   exact wpAny_bind (wpAny_loadPart (k _ _ (X _ _ ho)) (wpAny_pure q))
  ·cases J
 ne:=fun h tp dd ag n sl X af=>by
  obtain⟨U,J⟩:=Option.isSome_iff_exists.mp T.cl
  refine Bool.eq_false_iff.mpr fun q=>?_
  have e:C=tp:=Value.ref.inj (beq_iff_eq.mp q)
  subst e
  unfold clsIn at J
  split at J
  ·rename_i c' d' aa ae ho
   have z:=(X _ _ ho).symm.trans af
   cases z
  ·cases J
 ca:=fun{prog w A E Q s} X ⟨o,vs,e,c,d⟩ k=>by
  obtain⟨hh,g,dd,t,os⟩:=s
  exact EX X T e c d k
end
end PySem.W
namespace L2
open PySem PySem.Spec PyProof.Rows
theorem zB:∀{Cs:List Addr} {its:List Value},Vals (Cs.map V.ref) its->its=Cs.map Value.ref
 | [],_,.nil=>rfl
 | _::_,_,.cons J U=>by cases J;rw [zB U,List.map_cons]
section
variable {X : Cx}
theorem kx:kQ X (.builtin "isinstance") (fun xs H Q=>∃ ea D c b,xs=[.ref ea,c]/\H ea=some (nK ea D)/\W.ExcCls X.K D/\
  ((∃ n,c= .ty n/\W.kitOne X.K (.ref D) (.type n)=some b)\/(∃ C,c= .ref C/\W.kitOne X.K (.ref D) (.ref C)=some b)\/
   (∃(p:Addr) (Cs:List Addr),c= .ref p/\H p=some (.tup (Cs.map V.ref))/\W.kitAny X.K (.ref D) (Cs.map Value.ref)=some b))/\Q (.bl b) H):=by
 intro pins s σ H xs us Q I r h
 obtain⟨ea,D,c,b,rfl,hH,T,hc,q⟩:=h
 obtain⟨u,w',rfl,rx,rc⟩:=vals2 r
 cases rx
 have hE:W.ExcAtH ea D s.heap:=(I.hok ea _ hH).1
 have fin:∀ tk,EP X pins σ Q (.bool b) {s with toks:=tk}:=fun tk=>⟨.bl b,H,I.tok tk,rfl,q⟩
 rcases hc with ⟨n,rfl,e⟩ | ⟨C,rfl,e⟩ | ⟨p,Cs,rfl,hp,e⟩
 ·cases rc
  exact W.kia_one (W.kitx_exc T) I.kIn hE e (fun z=>nomatch z) fin
 ·cases rc
  exact W.kia_one (W.kitx_exc T) I.kIn hE e (fun z=>nomatch z) fin
 ·cases rc
  obtain⟨_,J,rv,o,ho,aa,n,hd⟩:=(show jc X.prog X.w H s.heap p (.tup (Cs.map V.ref)) from I.hok p _ hp)
  have ei:J=Cs.map Value.ref:=zB rv
  obtain⟨cls,dd,data,sl⟩:=o
  have U:cls= .type "tuple":=aa
  have ae:data= .seq J.toArray n:=hd
  subst U ae
  exact W.kia_tup (W.kitx_exc T) I.kIn hE ho (by rw [ei];exact e) (fun z=>nomatch z) fin
end
theorem qK{J:It}{g:TG}{tc:TT}{te:TE}{σ0:St}{H:Hp}{Q:VK}(n:Nat)(Pv:Nat->List V->Hp->Prop)(hz:n < sizeLine)(hgo:∀ i ys H,i < n->Pv i ys H->J.go i H)(hstop:∀ ys H,Pv n ys H->J.stop n H)(h0:Pv 0 [] H)
  (hs:∀ i ys H x H' (N:List V->Hp->Prop),i < n->Pv i ys H->J.yld i H x H'->(∀ ys' H2,Pv (i + 1) ys' H2->N ys' H2)->
   g x σ0 H' fun σ2 H2=>tc σ2 H2 fun b H3=>if b=true then te σ2 H3 fun y H4=>N (ys++[y]) H4 else N ys H3)
  (hd:∀ ys H,Pv n ys H->ys.length<=n->∀ p,H p=none->Q (.ref p) (upd H p (.lst ys))):
  ni J g tc te σ0 Q H:=by
 refine⟨fun i m ys H=>m=n - i/\i<=n/\ys.length<=i/\Pv i ys H,⟨n,by simp,Nat.zero_le _,Nat.le_refl _,h0⟩,?_⟩
 rintro i m ys H ⟨rfl,hi,hl,p⟩
 by_cases aa:i < n
 ·refine .inr ⟨hgo i ys H aa p,by(clear aa;omega),fun x H' y=>?_⟩
  have key:=hs i ys H x H' (fun ys' H2=>(ys'.length<=ys.length + 1->∃ U,U < n - i/\U=n - (i + 1)/\i + 1<=n/\ys'.length<=i + 1/\Pv (i + 1) ys' H2)) aa p y (fun ys' H2 q hle=>⟨n - (i + 1),by(clear hle hl hi hz;omega),rfl,aa,by(clear aa hi hz;omega),q⟩)
  have e:(fun σ2 H2=>tc σ2 H2 fun b H3=>if b=true then te σ2 H3 fun y H4=>((ys++[y]).length<=ys.length + 1->∃ U,U < n - i/\U=n - (i + 1)/\i + 1<=n/\(ys++[y]).length<=i + 1/\Pv (i + 1) (ys++[y]) H4)
    else (ys.length<=ys.length + 1->∃ U,U < n - i/\U=n - (i + 1)/\i + 1<=n/\ys.length<=i + 1/\Pv (i + 1) ys H3))=
   (fun σ2 H2=>tc σ2 H2 fun b H3=>if b=true then te σ2 H3 fun y H4=>∃ U,U < n - i/\U=n - (i + 1)/\i + 1<=n/\(ys++[y]).length<=i + 1/\Pv (i + 1) (ys++[y]) H4
    else ∃ U,U < n - i/\U=n - (i + 1)/\i + 1<=n/\ys.length<=i + 1/\Pv (i + 1) ys H3):=by
   funext σ2 H2
   congr 1
   funext b H3
   have e1:∀(y:V) (H4:Hp),((ys++[y]).length<=ys.length + 1->∃ U,U < n - i/\U=n - (i + 1)/\i + 1<=n/\(ys++[y]).length<=i + 1/\Pv (i + 1) (ys++[y]) H4)=(∃ U,U < n - i/\U=n - (i + 1)/\i + 1<=n/\(ys++[y]).length<=i + 1/\Pv (i + 1) (ys++[y]) H4):=fun y H4=>
    propext ⟨fun q=>q (by simp),fun q _=>q⟩
   have e2:(ys.length<=ys.length + 1->∃ U,U < n - i/\U=n - (i + 1)/\i + 1<=n/\ys.length<=i + 1/\Pv (i + 1) ys H3)=(∃ U,U < n - i/\U=n - (i + 1)/\i + 1<=n/\ys.length<=i + 1/\Pv (i + 1) ys H3):=propext ⟨fun q=>q (by(clear aa hl hi hz;omega)),fun q _=>q⟩
   simp only [e1,e2]
  rw [e] at key
  exact key
 ·have e:i=n:=by(clear hl hz;omega)
  subst e
  exact .inl ⟨hstop ys H p,by(clear aa hi;omega),hd ys H p hl⟩
theorem wR{x:Str}{g:TG}{tc:TT}{te:TE}{σ0:St}{H:Hp}{Q:VK}(Pv:Nat->List V->Hp->Prop)(hz:x.cps.size < sizeLine)(h0:Pv 0 [] H)
  (hs:∀ i c ys H (N:List V->Hp->Prop),x.cps[i]? =some c->Pv i ys H->(∀ ys' H2,Pv (i + 1) ys' H2->N ys' H2)->
   g (.str ⟨#[c]⟩) σ0 H fun σ2 H2=>tc σ2 H2 fun b H3=>if b=true then te σ2 H3 fun y H4=>N (ys++[y]) H4 else N ys H3)
  (hd:∀ ys H,Pv x.cps.size ys H->ys.length<=x.cps.size->∀ p,H p=none->Q (.ref p) (upd H p (.lst ys))):ni (sY x) g tc te σ0 Q H:=qK x.cps.size Pv hz (fun i ys H hi _=>hi) (fun ys H _=>rfl) h0
 (fun i ys H v H' N hi p y J=>by
  obtain⟨e,c,hc,U⟩:=y
  subst e U
  exact hs i c ys _ N hc p J) hd
theorem zM{lo:Int}{n:Nat}{g:TG}{tc:TT}{te:TE}{σ0:St}{H:Hp}{Q:VK}(Pv:Nat->List V->Hp->Prop)(hz:n < sizeLine)(h0:Pv 0 [] H)
  (hs:∀ i ys H (N:List V->Hp->Prop),i < n->Pv i ys H->(∀ ys' H2,Pv (i + 1) ys' H2->N ys' H2)->
   g (.int (lo + i)) σ0 H fun σ2 H2=>tc σ2 H2 fun b H3=>if b=true then te σ2 H3 fun y H4=>N (ys++[y]) H4 else N ys H3)
  (hd:∀ ys H,Pv n ys H->ys.length<=n->∀ p,H p=none->Q (.ref p) (upd H p (.lst ys))):ni (mJ lo n) g tc te σ0 Q H:=qK n Pv hz (fun i ys H hi _=>hi) (fun ys H _=>Nat.le_refl _) h0
 (fun i ys H v H' N hi p y J=>by
  obtain⟨e,U⟩:=y
  subst e U
  exact hs i ys _ N hi p J) hd
theorem mT{K:W.Frag}{a:Addr}{xs:List V}{g:TG}{tc:TT}{te:TE}{σ0:St}{H:Hp}{Q:VK}(Pv:Nat->List V->Hp->Prop)(hz:xs.length < sizeLine)(hl:∀ i ys H,Pv i ys H->gR K H a xs)(h0:Pv 0 [] H)
  (hs:∀ i x ys H (N:List V->Hp->Prop),xs[i]? =some x->Pv i ys H->(∀ ys' H2,Pv (i + 1) ys' H2->N ys' H2)->
   g x σ0 H fun σ2 H2=>tc σ2 H2 fun b H3=>if b=true then te σ2 H3 fun y H4=>N (ys++[y]) H4 else N ys H3)
  (hd:∀ ys H,Pv xs.length ys H->ys.length<=xs.length->∀ p,H p=none->Q (.ref p) (upd H p (.lst ys))):ni (oK K a) g tc te σ0 Q H:=qK xs.length Pv hz
 (fun i ys H hi p=>⟨xs,xs[i],hl i ys H p,by simp [hi]⟩) (fun ys H p=>⟨xs,hl _ ys H p,Nat.le_refl _⟩) h0
 (fun i ys H v H' N hi p y J=>by
  obtain⟨e,y⟩:=y
  subst e
  exact hs i v ys _ N (y xs (hl i ys _ p)) p J) hd
@[elab_as_elim] theorem EF {α:Type}{p:List α->Prop}(h:∀ a,p [a])(us:List α)(hl:us.length=1):p us:=by
 obtain⟨a,rfl⟩:=List.length_eq_one_iff.mp hl
 exact h a
@[elab_as_elim] theorem tV {α:Type}{p:List α->Prop}(h:∀ a b,p [a,b])(us:List α)(hl:us.length=2):p us:=by
 cases us with
 | nil=>cases hl
 | cons a r=>exact @EF _ (fun r=>p (a::r)) (fun b=>h a b) r (Nat.succ.inj hl)
@[elab_as_elim] theorem Ee {α:Type}{p:List α->Prop}(h:∀ a b c,p [a,b,c])(us:List α)(hl:us.length=3):p us:=by
 cases us with
 | nil=>cases hl
 | cons a r=>exact @tV _ (fun r=>p (a::r)) (fun b c=>h a b c) r (Nat.succ.inj hl)
@[elab_as_elim] theorem Ii {α:Type}{p:List α->Prop}(h:∀ a b c d,p [a,b,c,d])(us:List α)(hl:us.length=4):p us:=by
 cases us with
 | nil=>cases hl
 | cons a r=>exact @Ee _ (fun r=>p (a::r)) (fun b c d=>h a b c d) r (Nat.succ.inj hl)
section
variable {X : Cx}
theorem mE{i:Nat}{x:Str}{pos' spos:Pos}{elt target iter:Expr}{ifs:List Expr}{scope sc0:Scope}{pos:Pos}{N N0:List Str}{own:Nat}{caps:List Nat}{wi:TI}{g:TG}{tc:TT}{te t':TE}
  (hNd:X.N.Nodup)(hxi:X.N[i]? =some x)(hx:Loc X.env.scope x)
  (hcalm:X.calm=true)(hi:PI X target iter wi)
  (hg:∀ s₀ H₀ ex,PG (jJ X scope N s₀ H₀ ex) target g)(hc:∀ s₀ H₀ ex,iW (jJ X scope N s₀ H₀ ex) ifs tc)(he:∀ s₀ H₀ ex,PE (jJ X scope N s₀ H₀ ex) elt te)(hk:o9 own g)
  (hX:X.N=N0)(hsc:X.env.scope=sc0)
  (hcell:∀ y∈scope.names,y.2≠ .cell)(hkind:scope.kind= .function)(hnames:∀ y∈scope.names,y.2= .local->scope.names.lookup y.1=some .local)
  (hfree:∀ y∈scope.names,y.2= .free->sc0.names.lookup y.1=some .cell)(hN:N.length=own + caps.length)
  (hcap:∀ p∈caps.zip (N.drop own),N0[p.1]? =some p.2/\scope.names.lookup p.2=some .free)
  (himp:∀ σ H Q,t' σ H Q->uF own caps wi g tc te σ H Q)
  (hs:∀ x,foldedSetIterable iter X.env x=pure x:=by intro _;rfl)
  (hsw:swapsWith (.ListComp elt [⟨target,iter,ifs,0⟩] scope pos) (some (.Name x pos')) spos.line X.env=pure true:=by rfl)
  (hf:X.fn x=true\/X.env.scope.names.lookup x=some .local:=by first | exact .inl rfl | exact .inr rfl | assumption):
  PS X (.Assign [.Name x pos'] (.ListComp elt [⟨target,iter,ifs,0⟩] scope pos) spos) (vh t' (kq i)):=by
 intro pins s σ H D I h
 rw [exec_Assign_Name_used _ _ _ _ hsw]
 refine wpAny_bind (wpAny_standAt (wpAny_bind ?_))
 show wpAny _ X.A (do let _<-comprehension (.ListComp elt [⟨target,iter,ifs,0⟩] scope pos) scope X.env _ (newList []) false (eval iter X.env) (some (assign (.Name x pos') X.env))) _ _ s
 refine wpAny_bind (wpAny_mono (zK (use:=some (assign (.Name x pos') X.env)) (Qf:=fun _ s'=>SP X pins D .next s') hcalm hi hg hc he hk hX hsc hcell hkind hnames hfree hN hcap hs I (himp _ _ _ h) ?_) (fun _ s' hq=>wpAny_pure (wpAny_pure hq)) fun _ _ e=>e)
 intro U C s' He ys m f hn hI J q
 show wpAny _ X.A (assign (.Name x pos') X.env (.ref U)) _ _ s'
 have I1:Inv X pins σ (upd He U (.lst ys)) s':=hI s'.heap ⟨rfl,fun _ _=>rfl⟩
 refine wpAny_assign_Name (ye (v:= .ref U) I1 hNd hxi hx rfl (fun aa I2 ⟨a,ae,ha⟩=>?_) hf)
 have af:C≠a:=by
  rcases ha with rfl | ha
  ·exact J.2.1
  ·exact fun z=>J.2.2.2.2.1 _ _ ha z.symm
 refine⟨m,hn.sameBut ae af,fun h' ag=>⟨_,_,I2.turnedL (fp:=[C]) (t':=aa.toks) (fun b o hb e=>(ag.2 b (fun z=>hb (by rw [z];exact List.mem_singleton.mpr rfl))).trans e) (fun b hb=>?_),q⟩⟩
 rw [List.mem_singleton.mp hb]
 exact J
end
noncomputable def uY(a:Addr):It:=⟨fun i H=>∃ xs x,H a=some (.lst xs)/\xs[i]? =some x,fun i H v H'=>∃ T x,H T=none/\(∀ xs,H a=some (.lst xs)->xs[i]? =some x)/\v= .ref T/\H'=upd H T (.tup [.int i,x]),fun i H=>∃ xs,H a=some (.lst xs)/\i=xs.length⟩
theorem BE{P:Program}{w:World}{K:PySem.W.Frag}{elts:List Expr}{k:Nat}{pos:Pos}(a e it:Addr)(hei:e≠it):
  Turn P w K (.Tuple elts k pos) (uY a) [e,it] e (fun i h=>(∃ old,IsEnum h e it i old)/\h.IsListIter it a i) where
 mem:=by simp
 obj:=fun i h st b hb=>by
  obtain⟨⟨old,he⟩,o,ho,c,d⟩:=st
  rcases List.mem_cons.mp hb with rfl | hb
  ·exact⟨_,he,fun v z=>nomatch z⟩
  ·have e:b=it:=by simpa using hb
   subst e
   exact⟨o,ho,fun v z=>by rw [d] at z;cases z⟩
 keep:=fun i h h' st kk=>by
  obtain⟨⟨old,he⟩,o,ho,r⟩:=st
  exact⟨⟨old,kk e (by simp) _ he⟩,o,kk it (by simp) o ho,r⟩
 item:=by
  intro X hP hw hK hc i pins s σ H E I hf st hg
  subst hP hw hK
  obtain⟨xs,x,U,hx⟩:=hg
  obtain⟨J,rv,p,hz⟩:=I.list (gR.of U)
  obtain⟨u,hu,ru⟩:=rv.get hx
  have ae:a≠e:=fun z=>by rw [z,(hf e (by simp)).1] at U;cases U
  have af:a≠it:=fun z=>by rw [z,(hf it (by simp)).1] at U;cases U
  have aq:i < J.toArray.size:=by
   have:=(List.getElem?_eq_some_iff.mp hu).1
   simpa using this
  have W:=WalksT.enumerateD (Draws.list (prog:=X.prog) (w:=X.w) (A:=X.A.in1) (I.ok.hd hc) it a af J.toArray) e hei (by simp [hei,Ne.symm ae]) (by simp)
  refine W.item i s _ _ aq ⟨st.1,st.2,p.isList⟩ fun T vals h' tk hv hT ht mid kk=>⟨_,rfl,?_⟩
  obtain⟨t',y,hy,rfl⟩:=hv
  have ar:y=u:=by
   have h1:J[i]? =some y:=by simpa using hy
   rw [hu] at h1
   exact(Option.some.inj h1).symm
  subst ar
  refine W.go elts k pos i T _ _ _ mid fun ag aa ah=>?_
  have keep:∀ b o,b∉[e,it]->s.heap.get? b=some o->ag.get? b=some o:=fun b o hb q=>ah b o hb (kk b o hb q)
  have I1:Inv X pins σ H {s with heap:=ag,toks:=tk}:=I.turnedL keep hf
  have hn:H T=none:=I.hok.fresh hT
  have ak:T∉[e,it]:=W.apart i T h' mid
  obtain⟨ot,au,av,n,aw⟩:=ht
  have I2:Inv X pins σ (upd H T (.tup [.int i,x])) {s with heap:=ag,toks:=tk}:=by
   refine I1.track (.inl (Heap.get?_none_of_le (Nat.le_trans I.sz hT))) hn (Nat.ne_of_gt (Nat.lt_of_lt_of_le I.lt hT)) (fun y c' q z=>?_) (fun p hp z=>?_) ?_
   ·obtain⟨v,q'⟩:=I.cell y c' q
    exact absurd (Nat.lt_of_lt_of_le q'.lt (by rw [z];exact hT)) (Nat.lt_irrefl _)
   ·exact absurd (Nat.lt_of_lt_of_le (Heap.lt_size (I.pin p hp).1) (by rw [z];exact hT)) (Nat.lt_irrefl _)
   ·exact⟨by show 2<=sizeLine;decide,[.int i t',y],.cons ⟨_,rfl⟩ (.cons ru .nil),ot,ah T ot ak au,av,n,aw⟩
  refine⟨.ref T,_,I2,rfl,⟨T,x,hn,(fun ys ao=>?_),rfl,rfl⟩,⟨aa.1,aa.2.1⟩,fun b hb=>?_⟩
  ·rw [U] at ao
   cases ao
   exact hx
  ·have ax:b≠T:=fun z=>ak (z ▸ hb)
   rw [ig ax]
   exact(hf b hb).1
 done:=by
  intro X hP hw hK hc i pins s σ H E I hf st hg
  subst hP hw hK
  obtain⟨xs,U,hx⟩:=hg
  obtain⟨J,rv,p,hz⟩:=I.list (gR.of U)
  have hl:=rv.length
  have ae:a≠e:=fun z=>by rw [z,(hf e (by simp)).1] at U;cases U
  have af:a≠it:=fun z=>by rw [z,(hf it (by simp)).1] at U;cases U
  have W:=WalksT.enumerateD (Draws.list (prog:=X.prog) (w:=X.w) (A:=X.A.in1) (I.ok.hd hc) it a af J.toArray) e hei (by simp [hei,Ne.symm ae]) (by simp)
  have hi:i=J.toArray.size:=by rw [hx,hl];simp
  subst hi
  exact W.done s _ _ ⟨st.1,st.2,p.isList⟩ fun h' tk kk=>⟨rfl,I.turnedL kk hf⟩
 self:=fun A i s Q E st h=>by
  obtain⟨⟨old,he⟩,_⟩:=st
  exact wpAny_pyIter_enum he h
noncomputable def Dj(ta:TA):TI:=fun σ H R=>ta σ H fun vs H1=>∃(a:Addr) (xs:List V),vs=[.ref a]/\H1 a=some (.lst xs)/\R (uY a) H1
section
variable {X : Cx}
theorem vU{elts:List Expr}{k:Nat}{tpos p pos:Pos}{a:Expr}{ta:TA}(hg:Gl X "enumerate")(hm:X.mg "enumerate"=none)(ha:PA X [a] ta)(hs:starEach [a] X.env=[(false,eval a X.env)]:=by rfl):
  PI X (.Tuple elts k tpos) (.Call (.Name "enumerate" p) [a] [] pos) (Dj ta):=by
 intro pins s σ H R I h
 refine Call_ (kX I hg hm boot_enumerate (PyProof.Rows.callWith_type1 (ic (ha pos pins s σ H _ I h) fun us s1 ⟨vs,H1,J,U,q1⟩=>?_) hs rfl))
 obtain⟨l,xs,e,hH,q⟩:=q1
 subst e
 obtain⟨u,rfl,ru⟩:=vals1 U
 cases ru
 obtain⟨aa,rv,pl,hz⟩:=J.list (gR.of hH)
 refine call_enumerate_list pl.isList fun h' he hit ae hk=>?_
 refine wpAny_pyIter_enum he ?_
 refine⟨s1.heap.objs.size + 1,[s1.heap.objs.size + 1,s1.heap.objs.size],_,_,H1,rfl,J.kept (t':=s1.toks) hk,BE l _ _ (Nat.succ_ne_self _),⟨⟨_,he⟩,hit⟩,fun b hb=>?_,q⟩
 rcases List.mem_cons.mp hb with rfl | hb
 ·exact J.fpOk (Nat.le_succ _) (J.hok.fresh (Nat.le_succ _))
 ·have e:b=s1.heap.objs.size:=by simpa using hb
  subst e
  exact J.fpOk (Nat.le_refl _) (J.hok.fresh (Nat.le_refl _))
end
section
variable {X : Cx} {CX : j9} {k : Nat} {f C : Addr} {fd : FuncData} {ps : List Str} {ds : List Value} {dvs : List V} {sp : Sp} {m : Str} {pos apos : Pos} {e o : Expr} {es : List Expr} {ta : TE} {t : TA} {E : St -> XK}
end
section
variable {κ : Type} [DecidableEq κ]
noncomputable def kC(kvs:List (κ×V))(k:κ):Option V:=(kvs.find? fun J=>decide (J.1=k)).map (·.2)
noncomputable def putK(kvs:List (κ×V))(k:κ)(v:V):List (κ×V):=
 if (kvs.any fun J=>decide (J.1=k))=true then kvs.map (fun J=>if J.1=k then (J.1,v) else J) else kvs++[(k,v)]
theorem zd{p:κ×V}{r:List (κ×V)}{k:κ}(e:p.1=k):kC (p::r) k=some p.2:=by simp [kC,List.find?_cons,e]
theorem vP{p:κ×V}{r:List (κ×V)}{k:κ}(e:¬ p.1=k):kC (p::r) k=kC r k:=by simp [kC,List.find?_cons,e]
theorem Az(kvs:List (κ×V))(k:κ)(v:V):(putK kvs k v).length<=kvs.length + 1:=by
 unfold putK
 split
 ·rw [List.length_map];omega
 ·rw [List.length_append,List.length_cons,List.length_nil];omega
theorem nL.getD {o:Option V}{u:Option Value}{d:V}{d':Value}(r:nL o u)(rd:RelV d d'):RelV (o.getD d) (u.getD d'):=by
 cases o with
 | none=>cases u with
  | none=>exact rd
  | some _=>exact(show False from r).elim
 | some _=>cases u with
  | none=>exact(show False from r).elim
  | some _=>exact r
theorem KV.val {kvs:List (κ×V)}{vs:List (κ×Value)}(r:KV kvs vs)(k:κ):nL (kC kvs k) (valueAt vs k):=by
 unfold KV at r
 induction r with
 | nil=>exact True.intro
 | @cons p q ps J h t ih=>
  obtain⟨h1,h2⟩:=h
  by_cases e:p.1=k
  ·have U:q.1=k:=h1.symm.trans e
   have b:valueAt (q::J) k=some q.2:=by simp [valueAt,List.find?_cons,U]
   rw [zd e,b];exact h2
  ·have U:¬ q.1=k:=fun z=>e (h1.trans z)
   have b:valueAt (q::J) k=valueAt J k:=by simp [valueAt,List.find?_cons,U]
   rw [vP e,b];exact ih
theorem KV.any {kvs:List (κ×V)}{vs:List (κ×Value)}(r:KV kvs vs)(k:κ):(kvs.any fun kv=>decide (kv.1=k))=vs.any fun kv=>decide (kv.1=k):=by
 unfold KV at r
 induction r with
 | nil=>rfl
 | cons h t J=>rw [List.any_cons,List.any_cons,J,h.1]
theorem KV.repl {kvs:List (κ×V)}{vs:List (κ×Value)}(r:KV kvs vs)(k:κ){y:V}{u:Value}(ry:RelV y u):
  KV (kvs.map fun kv=>if kv.1=k then (kv.1,y) else kv) (vs.map fun kv=>if kv.1=k then (kv.1,u) else kv):=by
 unfold KV at r ⊢
 induction r with
 | nil=>exact .nil
 | @cons p q ps U h t J=>
  rw [List.map_cons,List.map_cons]
  refine .cons ?_ J
  obtain⟨h1,h2⟩:=h
  by_cases e:p.1=k
  ·rw [if_pos e,if_pos (h1.symm.trans e)];exact⟨h1,ry⟩
  ·rw [if_neg e,if_neg (fun z=>e (h1.trans z))];exact⟨h1,h2⟩
theorem KV.put {kvs:List (κ×V)}{vs:List (κ×Value)}(r:KV kvs vs)(k:κ){y:V}{u:Value}(ry:RelV y u):KV (putK kvs k y) (stored vs k u):=by
 unfold putK stored
 rw [r.any k]
 by_cases e:(vs.any fun J=>decide (J.1=k))=true
 ·rw [if_pos e,if_pos e];exact r.repl k ry
 ·rw [if_neg e,if_neg e];exact Paired.snoc r ⟨rfl,ry⟩
end
theorem rH{P:Program}{w:World}{k:Key}{u:Value}(r:RelV (kV k) u):(j4 P w).is k u=true:=by
 cases k with
 | inl i=>obtain⟨t,e⟩:=(show ∃ t,u=Value.int i t from r);subst e;exact DE P w i t
 | inr x=>obtain⟨t,e⟩:=(show ∃ t,u=Value.str x t from r);subst e;exact Cd P w x t
theorem yZ{P:Program}{w:World}:∀{ks:List Key} {us:List Value},Vals (ks.map kV) us->ItemsAre (j4 P w) ks us
 | [],_,r=>by rw [List.map_nil] at r;cases r;exact .nil
 | k::ks,_,r=>by
  rw [List.map_cons] at r
  cases r with
  | cons h t=>exact .cons (rH h) (yZ t)
noncomputable abbrev KT(H:Hp):List (List Key×V)->List (List Key×Addr×Value)->Prop:=Paired fun p q=>p.1=q.1/\H q.2.1=some (.tup (p.1.map kV))/\RelV p.2 q.2.2
theorem KT.val {H:Hp}{kvs:List (List Key×V)}{xs:List (List Key×Addr×Value)}(r:KT H kvs xs)(k:List Key):nL (kC kvs k) ((atKey xs k).map (·.2)):=by
 induction r with
 | nil=>exact True.intro
 | @cons p q ps J h t ih=>
  obtain⟨h1,_,h2⟩:=h
  by_cases e:p.1=k
  ·have U:q.1=k:=h1.symm.trans e
   have b:atKey (q::J) k=some q.2:=by simp [atKey,List.find?_cons,U]
   rw [zd e,b];exact h2
  ·have U:¬ q.1=k:=fun z=>e (h1.trans z)
   have b:atKey (q::J) k=atKey J k:=by simp [atKey,List.find?_cons,U]
   rw [vP e,b];exact ih
section
variable {P : Program} {w : World} {H : Hp} {h : Heap} {a : Addr}
theorem vj{u:HO}(ok:i8 P w H h)(e:Rd H a u):jc P w H h a u:=e.ok ok
theorem tW{kvs:List (Key×V)}(ok:i8 P w H h)(e:Rd H a (.dK kvs)):kvs.length<=sizeLine/\(a == sysModules)=false/\∃ vs,KV kvs vs/\h.DictOf (j4 P w) a vs:=
 show jc P w H h a (.dK kvs) from vj ok e
theorem GO{kvs:List (Key×V)}(ok:i8 P w H h)(e:H a=some (.dK kvs)):kvs.length<=sizeLine/\(a == sysModules)=false/\∃ vs,KV kvs vs/\h.DictOf (j4 P w) a vs:=tW ok (.inl e)
theorem zp{ks:List Key}(ok:i8 P w H h)(e:H a=some (.tup (ks.map kV))):(tupleKind (j4 P w)).is h ks a:=by
 obtain⟨_,J,r,o,h1,h2,n,U⟩:=(show jc P w H h a (.tup (ks.map kV)) from ok a _ e)
 exact⟨o,J.toArray,n,h1,h2,U,by simpa using yZ r⟩
theorem Am{kvs:List (List Key×V)}(ok:i8 P w H h)(e:Rd H a (.dT kvs)):kvs.length<=sizeLine/\(a == sysModules)=false/\
  ∃ xs,KT H kvs xs/\h.DictOfH (tupleKind (j4 P w)) a xs:=by
 obtain⟨z,y,xs,r,o,es,U,h1,h2,h3,h4,h5⟩:=(show jc P w H h a (.dT kvs) from vj ok e)
 refine⟨z,y,xs,r,o,es,U,h1,h2,h3,h4,fun x hx=>?_,h5⟩
 have all:∀{l:List (List Key×V)} {m:List (List Key×Addr×Value)},KT H l m->∀ x∈m,(tupleKind (j4 P w)).is h x.1 x.2.1:=by
  intro l m q
  induction q with
  | nil=>intro x hx;exact nomatch hx
  | @cons p q ps qs J t ih=>
   intro x hx
   rcases List.mem_cons.mp hx with e | hx
   ·subst e
    exact zp ok (by rw [<-J.1];exact J.2.1)
   ·exact ih x hx
 exact all r x hx
end
noncomputable def xN(H:Hp)(a:Addr)(y:V)(r:Option V):Prop:=
 (∃ kvs k,Rd H a (.dK kvs)/\y=kV k/\r=kC kvs k)\/∃ kvs k b,Rd H a (.dT kvs)/\y= .ref b/\H b=some (.tup (k.map kV))/\r=kC kvs k
section
variable {X : Cx} {pins : List (Addr × Obj)} {σ : St} {H : Hp} {s : Shared} {a : Addr} {y v : V} {u r : Value} {o : Option V} {A : Around} {E : Value -> Shared -> Prop}
theorem Inv.big (I:Inv X pins σ H s):sysModules < s.heap.objs.size:=by
 have h:mainGlobals < s.heap.objs.size:=(I.mod.glob.keeps I.bk).lt
 exact Nat.lt_trans (by decide) h
theorem AE{h':Heap}{t':Nat}{ob:HO}(I:Inv X pins σ H s)(mu:qw (H a))(hs:Heap.SameBut a s.heap h')(he:∃ q,h'.get? a=some q)(new:jc X.prog X.w (upd H a ob) h' a ob):
  Inv X pins σ (upd H a ob) {s with heap:=h',toks:=t'}:=
 I.write (x:=a) (e:=a) mu (.inl rfl) (fun b q hb z=>(hs.2 b hb).trans z) he new
theorem BY{P:Program}{w:World}{H':Hp}{h':Heap}{kvs:List (Key×V)}{vs:List (Key×Value)}(z:kvs.length<=sizeLine)(hd:(a == sysModules)=false)(rel:KV kvs vs)(dd:h'.DictOf (j4 P w) a vs):
  jc P w H' h' a (.dK kvs):=⟨z,hd,vs,rel,dd⟩
end
section
variable {X : Cx} {pins : List (Addr × Obj)} {σ : St} {H : Hp} {s : Shared} {a : Addr} {kvs : List (Key × V)} {k : Key} {u : Value} {A : Around} {E : Value -> Shared -> Prop}
end
section
variable {X : Cx} {o i e value : Expr} {pos pos' tpos : Pos} {td ty tv : TE}
end
theorem HM{P:Program}{w:World}{H:Hp}(h:Heap)(hb:sysModules < h.objs.size):jc P w H (h.push {cls:= .type "dict",data:= .dict #[]}) h.objs.size (.dK []):=
 ⟨Nat.zero_le _,beq_eq_false_iff_ne.mpr (Ne.symm (Nat.ne_of_lt hb)),[],.nil,Heap.DictOf.new h⟩
section
variable {X : Cx} {pos : Pos}
end
noncomputable def sQ:List (TE×TE)->St->Hp->(List (V×V)->Hp->Prop)->Prop
 | [],_,H,Q=>Q [] H
 | (tk,tv)::r,σ,H,Q=>tk σ H fun x H1=>tv σ H1 fun y H2=>sQ r σ H2 fun ps J=>Q ((x,y)::ps) J
noncomputable abbrev VV:List (V×V)->List (Value×Value)->Prop:=Paired fun p q=>RelV p.1 q.1/\RelV p.2 q.2
noncomputable def si(X:Cx)(pos:Pos)(keys:List (Option Expr))(values:List Expr)(trs:List (TE×TE)):Prop:=
 ∀(pins:List (Addr×Obj)) (s:Shared) (σ:St) (H:Hp) (Q:List (V×V)->Hp->Prop),Inv X pins σ H s->sQ trs σ H Q->
  wpAny (model X.prog X.w) X.A (evalPairs (pairTrees keys values X.env pos)) (fun vs s'=>∃ ps H',Inv X pins σ H' s'/\VV ps vs/\Q ps H') X.xe s
theorem HF{X:Cx}{pos:Pos}:si X pos [] [] []:=fun pins s σ H Q I h=>pairTrees_nil_walk ⟨[],H,I,.nil,h⟩
theorem rf{X:Cx}{pos:Pos}{k v:Expr}{ks:List (Option Expr)}{vs:List Expr}{tk tv:TE}{trs:List (TE×TE)}(hk:PE X k tk)(hv:PE X v tv)(hr:si X pos ks vs trs):
  si X pos (some k::ks) (v::vs) ((tk,tv)::trs):=fun pins s σ H Q I h=>
 pairTrees_cons_walk (ic (hk pins s σ H _ I h) fun u s1 ⟨x,H1,J,U,q1⟩=>ic (hv pins s1 σ H1 _ J q1) fun w2 s2 ⟨y,H2,I2,ry,q2⟩=>
  ic (hr pins s2 σ H2 _ I2 q2) fun ws s3 ⟨ps,H3,I3,rel,q3⟩=>⟨(x,y)::ps,H3,I3,.cons ⟨U,ry⟩ rel,q3⟩)
noncomputable def nX(kvs more:List (Key×V)):List (Key×V):=more.foldl (fun acc J=>putK acc J.1 J.2) kvs
theorem KV.merge:∀{more:List (Key×V)} {rs:List (Key×Value)} {kvs:List (Key×V)} {vs:List (Key×Value)},KV more rs->KV kvs vs->KV (nX kvs more) (merged vs rs):=by
 intro more rs kvs vs r
 unfold KV at r
 induction r generalizing kvs vs with
 | nil=>intro q;exact q
 | @cons p q ps qs h t J=>
  intro U
  have e:KV (putK kvs p.1 p.2) (stored vs q.1 q.2):=by
   have:=U.put p.1 h.2
   rw [<-h.1];exact this
  exact J e
theorem An:∀(more kvs:List (Key×V)),(nX kvs more).length<=kvs.length + more.length
 | [],kvs=>by show kvs.length<=kvs.length + 0;omega
 | p::r,kvs=>by
  have h1:=An r (putK kvs p.1 p.2)
  have h2:=Az kvs p.1 p.2
  show(nX (putK kvs p.1 p.2) r).length<=_
  rw [List.length_cons];omega
theorem wD{P:Program}{w:World}:∀{kvs:List (Key×V)} {ws:List (Value×Value)},VV (kvs.map fun kv=>(kV kv.1,kv.2)) ws->∃ rs,Carries (j4 P w) ws rs/\KV kvs rs
 | [],_,r=>by rw [List.map_nil] at r;cases r;exact⟨[],True.intro,.nil⟩
 | p::kvs,_,r=>by
  rw [List.map_cons] at r
  cases r with
  | @cons a b as bs h t=>
   obtain⟨rs,c,q⟩:=wD (P:=P) (w:=w) t
   obtain⟨U,J⟩:=b
   exact⟨(p.1,J)::rs,⟨rH h.1,rfl,c⟩,.cons ⟨rfl,h.2⟩ q⟩
noncomputable def Fj(trs:List (TE×TE)):TE:=fun σ H Q=>∀ p,H p=none->sQ trs σ (upd H p (.dK [])) fun ps H2=>H2 p=some (.dK [])/\∃ kvs:List (Key×V),ps=kvs.map (fun J=>(kV J.1,J.2))/\kvs.length<=15/\Q (.ref p) (upd H2 p (.dK (nX [] kvs)))
theorem Cb{X:Cx}{pos:Pos}{keys:List (Option Expr)}{values:List Expr}{trs:List (TE×TE)}(h:si X pos keys values trs)(hall:keys.all (·.isSome)=true)(hl:keys.length=values.length)(h0:keys≠[])
  (h15:keys.length<=15):PE X (.Dict keys values pos) (Fj trs):=by
 intro pins s σ H Q I q
 have hn:=I.hok.fresh (Nat.le_refl s.heap.objs.size)
 have I1:=I.laid (a:=s.heap.objs.size) (o:= .dK []) (h':=s.heap.push {cls:= .type "dict",data:= .dict #[]}) (t':=s.toks) (fun _ _ q=>Heap.get?_push_of_some _ q) (Nat.le_refl _) (HM s.heap I.big)
 refine wpAny_Dict_walk (knd:=j4 X.prog X.w) hall hl h0 h15 (ic (h pins _ σ _ _ I1 (q _ hn)) fun ws s2 ⟨ps,H2,U,rel,e,kvs,ep,lk,q2⟩=>?_)
 subst ep
 obtain⟨rs,c,rk⟩:=wD (P:=X.prog) (w:=X.w) rel
 obtain⟨z,hd,aa,r0,dd⟩:=GO U.hok e
 cases r0
 refine⟨rs,c,dd,fun h' J hs=>⟨.ref s.heap.objs.size,_,?_,rfl,q2⟩⟩
 have hz:(nX [] kvs).length<=sizeLine:=by
  have h1:=An kvs []
  rw [List.length_nil] at h1
  rw [sizeLine_eq];omega
 have he:∃ q,h'.get? s.heap.objs.size=some q:=let ⟨q,_,_,hq,_⟩:=J;⟨q,hq⟩
 exact AE U (by rw [e];exact True.intro) hs he (BY hz hd (rk.merge .nil) J)
structure M2 (X : Cx) (o : Expr) (m : Str) (apos : Pos) (e f : Expr) (cpos : Pos) : Prop where
 base : attributeBase o m X.env (eval o X.env) = eval o X.env
 few : ((backTo cpos (starEach [e, f] X.env)).all (fun x => !x.1) && (backToKw cpos (keywordEach [] X.env)).all (fun x => x.1.isSome)
  && decide (([e, f] : List Expr).length + ([] : List Keyword).length + (if ([] : List Keyword).isEmpty then 0 else 1) < 30)) = true
 line : (apos.endLine == cpos.line) = true
 trees : backTo cpos (starEach [e, f] X.env) = [(false, eval e X.env), (false, eval f X.env)]
noncomputable def vn(H:Hp)(a:Addr):Prop:=(∃ kvs,Rd H a (.dK kvs))\/∃ kvs,Rd H a (.dT kvs)
theorem AH{X:Cx}{pins:List (Addr×Obj)}{σ:St}{H:Hp}{s:Shared}{a:Addr}(I:Inv X pins σ H s)(d:vn H a):
  s.TypeIs (.ref a) "dict"/\(∀ b,Value.ref a= .ref b->∃ ob,s.heap.get? b=some ob/\ob.dict=none)/\(a == sysModules)=false:=by
 rcases d with ⟨kvs,e⟩ | ⟨kvs,e⟩
 ·obtain⟨_,hd,vs,_,dd⟩:=tW I.hok e
  refine⟨dd.typeIs,fun b q=>?_,hd⟩
  cases q
  obtain⟨ob,_,_,h1,h2,_⟩:=dd
  exact⟨ob,h1,h2.2.1⟩
 ·obtain⟨_,hd,xs,_,dd⟩:=Am I.hok e
  refine⟨dd.typeIs,fun b q=>?_,hd⟩
  cases q
  obtain⟨ob,_,_,h1,h2,_⟩:=dd
  exact⟨ob,h1,h2.2.1⟩
section
variable {X : Cx} {pins : List (Addr × Obj)} {σ : St} {H : Hp} {s : Shared} {a : Addr} {y d : V} {u r : Value} {o : Option V} {A : Around} {E : Value -> Shared -> Prop}
theorem DQ{Q:Value->Shared->Prop}(hu:A.units + 1 < cLine)(I:Inv X pins σ H s)(g:xN H a y o)(ry:RelV y u)(rd:RelV d r)(h:∀ w' s',Inv X pins σ H s'->RelV (o.getD d) w'->Q w' s'):
  wpAny (model X.prog X.w) A (call (.builtin "dict.get") [.ref a,u,r]) Q E s:=by
 rcases g with ⟨kvs,k,e,J,l⟩ | ⟨kvs,k,b,e,J,U,l⟩
 ·subst J
  obtain⟨z,hd,vs,rel,dd⟩:=tW I.hok e
  refine call_meetsIn F.slot_dict_get dd.typeIs F.entry_dict_get (F.args_dict_get_3 _ _ _) (meets_dict_get_default (j4 X.prog X.w) a (rH ry) hd r) ⟨_,dd.mapOf,h _ _ (I.tok _) ?_⟩
  rw [l]
  exact(rel.val k).getD rd
 ·subst J
  cases (show u=Value.ref b from ry)
  obtain⟨z,hd,xs,rel,dd⟩:=Am I.hok e
  refine call_meetsIn F.slot_dict_get dd.typeIs F.entry_dict_get (F.args_dict_get_3 _ _ _) (meetsH_dict_get_default (tupleKind (j4 X.prog X.w)) a b hd r) ⟨tupleKind_room_in1 hu,k,xs,zp I.hok U,dd,h _ _ (I.tok _) ?_⟩
  rw [l]
  exact(rel.val k).getD rd
end
noncomputable def ER(td ty tx:TE):TE:=fun σ H Q=>td σ H fun x H1=>∃ a,x= .ref a/\vn H1 a/\ty σ H1 fun y H2=>tx σ H2 fun z J=>∃ o,xN J a y o/\Q (o.getD z) J
section
variable {X : Cx} {o e f : Expr} {apos cpos : Pos} {td ty tx : TE}
theorem BA(hu:X.A.units + 1 < cLine)(ho:PE X o td)(he:PE X e ty)(hf:PE X f tx)(m:M2 X o "get" apos e f cpos):PE X (.Call (.Attribute o "get" apos) [e,f] [] cpos) (ER td ty tx):=by
 intro pins s σ H Q I h
 refine wpAny_Call_method m.base m.few m.line F.plainAttrs_dict F.slot_dict_get F.type_dict_get (ic (ho pins s σ H _ I h) fun u s1 ⟨x,H1,U,rx,a,ex,d,q1⟩=>?_)
 subst ex
 obtain rfl:u=Value.ref a:=rx
 obtain⟨t1,t2,_⟩:=AH U d
 refine⟨t1,t2,?_⟩
 rw [m.trees]
 refine Calls.callWith_builtin rfl (Calls.evalArgs_plain (Calls.spliced_cons (ic (he pins s1 σ H1 _ U q1) fun iv s2 ⟨y,H2,I2,ry,q2⟩=>
  Calls.spliced_cons (ic (hf pins s2 σ H2 _ I2 q2) fun fv s3 ⟨z,H3,I3,rz,ov,g,q3⟩=>Calls.spliced_nil ?_))))
 exact DQ hu I3 g ry rz fun w' s4 I4 J=>⟨_,H3,I4,J,q3⟩
end
section
variable {X : Cx} {pins : List (Addr × Obj)} {σ : St} {H : Hp} {s : Shared} {a : Addr} {kvs : List (Key × V)} {A : Around} {E : Value -> Shared -> Prop}
end
section
variable {X : Cx} {pins : List (Addr × Obj)} {σ : St} {H : Hp} {s : Shared} {a : Addr} {y : V} {u : Value} {A : Around} {E : Value -> Shared -> Prop}
end
section
variable {X : Cx}
end
section
variable {κ : Type} [DecidableEq κ]
end
section
variable {X : Cx} {pins : List (Addr × Obj)} {σ : St} {H : Hp} {s : Shared} {a : Addr}
end
section
variable {X : Cx}
theorem F4:kH X "str.startswith" (fun x xs H Q=>∃ z y,x= .str z/\xs=[.str y]/\Q (.bl (Txt.startswith z y)) H):=by
 intro pins s σ H x xs v us Q I J rs h
 obtain⟨z,y,rfl,rfl,q⟩:=h
 obtain⟨t,rfl⟩:=J
 obtain⟨u,rfl,t',rfl⟩:=vals1 rs
 exact SC.startswith ⟨.bl _,H,I,rfl,q⟩
end
section
variable {X : Cx} {o e : Expr} {es : List Expr} {to : TE} {t : TA} {name : Str} {apos cpos : Pos} {T id : String} {r : V -> List V -> Hp -> VK -> Prop}
end
end L2
namespace Gn
open PySem L2 PyProof.Rows PySem.Spec
end Gn
namespace L2
open PySem PySem.Spec PyProof.Rows
section
variable {X : Cx}
end
end L2
namespace Gn
open PySem L2 PyProof.Rows PySem.Spec
section
variable {P : Program} {w : World} {K : PySem.W.Frag} {mg : Str -> Option Value} {base h : Heap}
noncomputable def mR:V->Bool
 | .str _=>true
 | _=>false
noncomputable def ma:V->Bool
 | .int _=>true
 | .bl _=>true
 | _=>false
noncomputable def mG:V->Bool
 | .bl _=>true
 | _=>false
noncomputable def Known(K:W.Frag)(H:Hp)(x:V):Prop:=∃ n,jQ K H x (.type n)
theorem sq{K:W.Frag}{H:Hp}{x:V}{n:String}(h:jQ K H x (.type n)):W.kitOne K (.type n) (.type "str")=some (mR x):=by
 cases h<;>kernel_rfl
theorem yg{K:W.Frag}{H:Hp}{x:V}{n:String}(h:jQ K H x (.type n)):W.kitOne K (.type n) (.type "int")=some (ma x):=by
 cases h<;>kernel_rfl
theorem qU{K:W.Frag}{H:Hp}{x:V}{n:String}(h:jQ K H x (.type n)):W.kitOne K (.type n) (.type "bool")=some (mG x):=by
 cases h<;>kernel_rfl
theorem hJ{H:Hp}{a:Addr}{o:HO}(h:H a=none):gO H (upd H a o):=fun b u e=>by rw [ig (jo e h)];exact e
theorem gO.upd {H H':Hp}{a:Addr}{o:HO}(s:gO H H')(h:H' a=none):gO H (upd H' a o):=s.trans (hJ h)
structure Df (K : W.Frag) (mg : Str -> Option Value) (x : Str) (st : Stmt) (f : Addr) (fd : FuncData) : Prop where
 F : kP K x x st f fd
 m : mg x = some (.ref f)
theorem je:bootBuiltins "isinstance"=some (.builtin "isinstance"):=dkq
theorem mz:bootBuiltins "int"=some (.type "int"):=dkq
theorem qP:bootBuiltins "bool"=some (.type "bool"):=dkq
theorem rQ:bootBuiltins "str"=some (.type "str"):=dkq
theorem mW:bootBuiltins "list"=some (.type "list"):=dkq
theorem oG:bootBuiltins "tuple"=some (.type "tuple"):=dkq
theorem i0:bootBuiltins "len"=some (.builtin "len"):=dkq
theorem HD:bootBuiltins "all"=some (.builtin "all"):=dkq
theorem Hm:bootBuiltins "ValueError"=some (.type "ValueError"):=dkq
theorem jM{x p:Str}{st:Stmt}{f:Addr}{fd:FuncData}(F:kP K x x st f fd)
  (h:∀(kV doc pm:Value) (an:Option Addr) (cdv ct:Value) (u:Value),bindArgs (W.fnOf x x (lV st) (kM st) (iu st) .none kV doc pm an cdv ct) ⟨[u],[]⟩=pure ([p].zip [u])):Binds K fd [p] []:=
 F.binds fun kV doc pm an cdv ct us J=>match us,J with | [u],_=>h kV doc pm an cdv ct u
theorem g1{i:Nat}{v:V}{σ:L2.St}{H:Hp}{te:TE}{M:V->Hp->Prop}{N0:Hp->Prop}(h:te (σ.set i (some v)) H M):kq i v σ H fun σ2 H2=>yF σ2 H2 fun b H3=>if b=true then te σ2 H3 M else N0 H3:=by
 show if true=true then te (σ.set i (some v)) H M else N0 H
 exact gU h
structure Ex (K : W.Frag) (mg : Str -> Option Value) (x : Str) (C : Addr) : Prop where
 m : mg x = some (.ref C)
 q : W.excIn K C [.type "ValueError", .type "Exception", .type "BaseException", .type "object"] "ValueError.__new__" = true
structure Ij (K : W.Frag) (mg : Str -> Option Value) (x : Str) (st : Stmt) (f : Addr) (fd : FuncData) (items : Array Value) : Prop where
 ex : ∃ (oc : Value) (od : Option Addr) (kV doc pm : Value) (an : Option Addr) (cdv ct : Value) (osl : Array (Option Value)) (T : Addr) (o : Obj) (n : Nat),
  fd = W.fnOf x x (lV st) (kM st) (iu st) (.ref T) kV doc pm an cdv ct /\ K.lookup f = some ⟨oc, od, .func fd, osl⟩ /\ W.codeIn K cdv x = true /\ K.lookup T = some o /\ o.data = .seq items n
 kp : W.keepIn K (.ref f) = true
 m : mg x = some (.ref f)
theorem wo{K:W.Frag}{H:Hp}:∀(ns:List Int),kr K H (ns.map V.int) (ns.map PyData.int)
 | []=> .nil
 | n::ns=> .cons (.int n) (wo ns)
theorem lay_ints:∀(ns:List Int),(PyData.list (ns.map PyData.int)).canLay0=true:=by
 intro ns
 induction ns with
 | nil=>rfl
 | cons n ns J=>exact J
theorem Paired.imp2 {α β:Type}{F G:α->β->Prop}:∀{l:List α} {m:List β},Paired F l m->(∀ a b,F a b->G a b)->Paired G l m
 | _,_,.nil,_=> .nil
 | _,_,.cons r t,f=> .cons (f _ _ r) (Paired.imp2 t f)
theorem Paired.app {α β:Type}{F:α->β->Prop}{a:α}{b:β}:∀{l:List α} {m:List β},Paired F l m->F a b->Paired F (l++[a]) (m++[b])
 | _,_,.nil,h=> .cons h .nil
 | _,_,.cons r t,h=> .cons r (Paired.app t h)
theorem Paired.len {α β:Type}{F:α->β->Prop}:∀{l:List α} {m:List β},Paired F l m->l.length=m.length
 | _,_,.nil=>rfl
 | _,_,.cons _ t=>by simp [Paired.len t]
theorem PS.nox {X:Cx}{st:Stmt}{t:TS}(h:PS X.nox st t):PS X st t:=fun pins s σ H D I hw=>
 wpAny_mono (h pins s σ H D (I.wish _) hw) (fun _ _ q=>q.unwish) fun _ _ z=>False.elim z
theorem vd{r n:Int}(hn:0 < n):∃ j:Nat,(j:Int)=r % n/\(j:Int) < n:=by
 have h1:=Int.emod_nonneg r (show n≠0 by omega)
 have h2:=Int.emod_lt_of_pos r hn
 exact⟨(r % n).toNat,by omega,by omega⟩
noncomputable def A6(c:TT)(t u:TS):TS:=fun D σ H=>∃ J:L2.St->Hp->Prop,(c σ H fun b H1=>if b=true then t {D with nx:=J} σ H1 else u {D with nx:=J} σ H1)/\∀ U H',J U H'->D.nx U H'
theorem oH{X:Cx}{c:Expr}{a b:List Stmt}{tc:TT}{t u:TS}{pos:Pos}(hc:PT X c tc)(ha:iD X a t)(hb:iD X b u):PS X (.If c a b pos) (A6 tc t u):=by
 intro pins s σ H D I h
 obtain⟨J,h1,h2⟩:=h
 refine ic (iN hc ha hb pins s σ H {D with nx:=J} I h1) fun f s1 q=>?_
 cases f with
 | next=>obtain⟨U,H',I',q⟩:=q;exact⟨U,H',I',h2 _ _ q⟩
 | brk=>exact q
 | cont=>exact q
 | ret u=>exact q
theorem pV{xs:List V}{n L:Int}(h0:0 < xs.length)(hL:L=(xs.length:Nat)):∃ v∈xs,j3 xs (n % L)=some v:=by
 obtain⟨j,U,aa⟩:=vd (r:=n) (n:=L) (by omega)
 have J:j < xs.length:=by omega
 refine⟨xs[j],List.getElem_mem J,?_⟩
 rw [<-U]
 exact ik (List.getElem?_eq_getElem J)
theorem Gm{a b:Int}(h:a=b):decide (V.int a=V.int b)=true:=by subst h;exact decide_eq_true rfl
theorem DK{a b:Int}(h:a≠b):decide (V.int a=V.int b)=false:=decide_eq_false fun z=>h (by injection z)
theorem PE.imp {X:Cx}{e:Expr}{t t':TE}(h:PE X e t)(i:∀ σ H Q,t' σ H Q->t σ H Q):PE X e t':=fun pins s σ H Q I q=>h pins s σ H Q I (i σ H Q q)
theorem md{d:PyData}(h:d.canLay0=true):PyData.eqv d d=true:=SeqAt.eqv_refl d h
noncomputable def HC(K:W.Frag):List V->Hp->VK->Prop:=fun xs H Q=>∃ x c t b,xs=[x,c]/\jQ K H x t/\
  ((∃ n,c= .ty n/\W.kitOne K t (.type n)=some b)\/(∃ C,c= .ref C/\W.kitOne K t (.ref C)=some b))/\Q (.bl b) H
theorem qC{X:Cx}{K:W.Frag}(h:X.K=K):kQ X (.builtin "isinstance") (HC K):=by subst h;exact kB
theorem rT{X:Cx}{K:W.Frag}(h:X.K=K):oC X (xt K):=by subst h;exact jn
theorem lO{X:Cx}{K:W.Frag}(h:X.K=K):oC X (xC K):=by subst h;exact iO
theorem jd{x:Str}{st:Stmt}{f:Addr}{oc kV doc pm cd ct:Value}{od an:Option Addr}{sl:Array (Option Value)}(X:K.In h)(G:h.Ns mainGlobals mg)(a:W.nsIn K mainGlobals x=some (some (.ref f)))
  (l:K.lookup f=some ⟨oc,od,.func (W.fnOf x x (lV st) (kM st) (iu st) .none kV doc pm an cd ct),sl⟩)(c:W.codeIn K cd x=true)(k:W.keepIn K (.ref f)=true):∃ f fd,Df K mg x st f fd:=
 ⟨f,_,wg l c k,W.mg_of X G a⟩
end
open PySem PySem.W PySem.Calls PyProof.Rows
theorem xw:∀(ns:List Int) (m:Nat),WData.weightAll (ns.map WData.int)<=m->∀ n∈ns,Builtin.Int.intBits n<=m
 | [],_,_,_,h=>nomatch h
 | i::ns,m,hw,n,h=>by
  have J:Builtin.Int.intBits i + 1 + WData.weightAll (ns.map WData.int)<=m:=hw
  rcases List.mem_cons.mp h with rfl | h
  ·omega
  ·exact xw ns m (by omega) n h
theorem DF{ns:List Int}(h:WData.layableAll [WData.list (ns.map WData.int)]=true):∀ n∈ns,Builtin.Int.intBits n<=2 ^ 20:=by
 have h1:(WData.layable (WData.list (ns.map WData.int)) && true)=true:=h
 rw [Bool.and_true] at h1
 have h2:=(Bool.and_eq_true_iff.mp h1).2
 exact xw ns _ (of_decide_eq_true h2)
theorem FJ{l:OpenLaw}{n:Nat}{q:Program}{loose:List Str}{XP:(Str->Option Value)->Heap->Prop}{YP:World->Heap->Prop}{d:DefRec}
  (hn:l.most=some n)(hdf:d.params.defaults=[])
  (call:∀(w:World) (s₀ s₁:Shared) (mg mb:Str->Option Value) (fa:Addr) (a:Addr) (vs:List Value) (ns:List Int),
   Ground q loose [] XP w s₀ mg mb s₁.heap->YP w s₁.heap->mg d.name=some (.ref fa)->
   s₁.heap.get? a=some {cls:= .type "list",data:= .seq vs.toArray}->IntsAre vs ns->ns.length<=n->(∀ i∈ns,Builtin.Int.intBits i<=2 ^ 20)->s₁.gens=#[]->
   codeAny (model l.prog w) callerA (.call (.ref fa) ⟨[.ref a],[]⟩) (fun r s'=>r= .ok (.ret (.bool true))/\OldK s₁.heap s'.heap/\s'.os=s₁.os/\AllBare s'.gens) s₁):
  WalkO q loose XP YP l.row.toRowW d [] (fun f vs=>PySem.call f vs):=by
 intro w s₀ s₁ mg mb G Y fa o pm cd doc dV kV ho hd ag hD ae hg args vals as J U ah af ak
 obtain rfl:dV= .none:=Dflts.none hD hdf
 obtain rfl:kV= .none:=Dflts.noKw hD
 obtain⟨a,vs,ns,rfl,rfl,aa,hints,hlen⟩:=Att.CZ hn J af
 refine enter_call (codeAny_mono (call w s₀ s₁ mg mb fa a vs ns G Y ae aa hints hlen (DF U) hg) fun r s' hq=>?_)
 obtain⟨rfl,h2,h3,h4⟩:=hq
 exact⟨.inl ⟨.bool true,.bool true,[],rfl,fun _=>rfl,.bool true,Att.Dy l _,fun _=>⟨List.Pairwise.nil,fun _ hm=>(nomatch hm)⟩⟩,h2,h3,h4⟩
theorem Ha{l:W.OpenLaw}{n k:Nat}{q:Program}{loose:List Str}{XP:(Str->Option Value)->Heap->Prop}{YP:World->Heap->Prop}{d:DefRec}{K:Params->W.Frag}{sp:W.Frag->Sp}{x:Str}
  (hn:l.most=some n)(hn2:n<=sizeLine)(hdf:d.params.defaults=[])(hr:jE k callerA)
  (hY:∀(w:World) (h:Heap),YP w h->(K w.params).In h)
  (F:∀(w:World) (mg:Str->Option Value) (fa:Addr) (h:Heap),(K w.params).In h->h.Ns mainGlobals mg->mg d.name=some (.ref fa)->
   ∃ fd:FuncData,(∀(s:Shared) (u:Value),BindsTo s fd ⟨[u],[]⟩ [(x,u)])/\
    ∀ base:Heap,(K w.params).In base->base.Ns mainGlobals mg->hZ l.prog w (K w.params) mg base iw k fa fd [x] (sp (K w.params)))
  (hsp:∀(K:W.Frag) (H:Hp) (a:Addr) (ns:List Int),ns.length<=n->(∀ i∈ns,Builtin.Int.intBits i<=2 ^ 20)->gR K H a (ns.map V.int)->sp K [.ref a] H (fun v _=>v= .bl true) fun _ _ _=>False):
  W.WalkO q loose XP YP l.row.toRowW d [] (fun f vs=>PySem.call f vs):=by
 refine FJ hn hdf fun w s₀ ae mg mb fa a vs ns G Y aa U hints hlen J hg=>?_
 have KX:=hY w _ Y
 obtain⟨fd,hb,hF⟩:=F w mg fa _ KX G.T.g aa
 exact Bg KX G.T.g G.T.b G.T.builtins G.T.nolimit hg U hints (Nat.le_trans hlen hn2) hr hF hb (fun H hO hS=>hsp _ H a ns hlen J hS) fun H e s' z=>z
end Gn
namespace K01
noncomputable def lo(c:Nat):Nat:=if 65<=c/\c<=90 then c + 32 else c
noncomputable def iJ(c:Nat):Bool:=(decide (97<=c) && decide (c<=122)) || (decide (48<=c) && decide (c<=57))
noncomputable def iG(c:Nat):Bool:=decide (c=10) || (decide (32<=c) && decide (c<=126) && !decide (c=37))
noncomputable abbrev Wd:=List Nat×Nat×Nat
noncomputable def flush(i:Nat)(w:List Nat):List Wd:=if w=[] then [] else [(w,i - w.length,i)]
noncomputable def iY:List Nat->Nat->List Nat->List Wd
 | [],i,w=>flush i w
 | c::r,i,w=>if iJ c then iY r (i + 1) (w++[c]) else flush i w++iY r (i + 1) []
noncomputable def words(cs:List Nat):List Wd:=iY (cs.map lo) 0 []
theorem kG{c:Nat}{r:List Nat}{i:Nat}{w:List Nat}(h:iJ c=true):iY (c::r) i w=iY r (i + 1) (w++[c]):=by
 rw [iY,if_pos h]
theorem kd{c:Nat}{r:List Nat}{i:Nat}{w:List Nat}(h:iJ c=false):iY (c::r) i w=flush i w++iY r (i + 1) []:=by
 rw [iY,if_neg (by rw [h];exact Bool.false_ne_true)]
theorem uQ:∀(r:List Nat) (i:Nat) (w:List Nat),iY (r++[32]) i w=iY r i w
 | [],i,w=>by
  show iY [32] i w=iY [] i w
  rw [kd (by decide)]
  simp [iY,flush]
 | c::r,i,w=>by
  show iY (c::(r++[32])) i w=_
  cases h:iJ c with
  | true=>rw [kG h,kG h,uQ]
  | false=>rw [kd h,kd h,uQ]
theorem tZ{c:Nat}(h:iG c=true):c < 128:=by
 unfold iG at h
 simp only [Bool.or_eq_true,Bool.and_eq_true,decide_eq_true_eq,Bool.not_eq_true',decide_eq_false_iff_not] at h
 omega
theorem vC{c:Nat}(h:iJ c=true):iG c=true:=by
 unfold iJ at h
 unfold iG
 simp only [Bool.or_eq_true,Bool.and_eq_true,decide_eq_true_eq,Bool.not_eq_true',decide_eq_false_iff_not] at *
 omega
theorem mX{c:Nat}(h:iJ c=true):c < 128:=tZ (vC h)
open PySem L2
noncomputable def kl:V->Bool
 | .str z=>decide (z.length<=2000) && z.cps.toList.all iG
 | _=>false
noncomputable def nU(x:V):Prop:=∀ z,x= .str z->z.length<=5000
end K01
namespace SH
open K01 (Wd words iY flush iJ lo iG kG kd)
noncomputable def sh(k:Nat)(x:Wd):Wd:=(x.1,x.2.1 + k,x.2.2 + k)
theorem vY{i:Nat}(k:Nat){w:List Nat}(h:w.length<=i):flush (i + k) w=(flush i w).map (sh k):=by
 unfold flush
 split
 ·rfl
 ·show [_]=[_]
  unfold sh
  congr 3
  show i + k - w.length=i - w.length + k
  omega
theorem uv:∀(r:List Nat) (i k:Nat) (w:List Nat),w.length<=i->iY r (i + k) w=(iY r i w).map (sh k)
 | [],i,k,w,h=>vY k h
 | c::r,i,k,w,h=>by
  cases hc:iJ c with
  | true=>
   rw [kG hc,kG hc,show i + k + 1=i + 1 + k by omega]
   exact uv r (i + 1) k _ (by rw [List.length_append];show w.length + 1<=_;omega)
  | false=>
   rw [kd hc,kd hc,List.map_append,vY k h,show i + k + 1=i + 1 + k by omega,uv r (i + 1) k [] (Nat.zero_le _)]
noncomputable def Fr(l:List Nat):Prop:=∀ c r,l=c::r->iJ c=false
noncomputable def La(l:List Nat):Prop:=∀ c r,l=r++[c]->iJ c=false
theorem HB:Fr []:=fun _ _ h=>nomatch h
theorem BD:La []:=fun c r h=>by cases r<;>cases h
theorem sV:∀(X Y:List Nat) (i:Nat) (w:List Nat),(Fr Y\/(La X/\(X=[]->w=[])))->iY (X++Y) i w=iY X i w++iY Y (i + X.length) []
 | [],Y,i,w,h=>by
  show iY Y i w=flush i w++iY Y i []
  have f0:flush i []=[]:=rfl
  rcases h with h | h
  ·cases Y with
   | nil=>show flush i w=flush i w++flush i [];rw [f0,List.append_nil]
   | cons c r=>
    have hc:=h c r rfl
    rw [kd hc,kd hc,f0,List.nil_append]
  ·rw [h.2 rfl,f0,List.nil_append]
 | c::X,Y,i,w,h=>by
  show iY (c::(X++Y)) i w=_
  cases hc:iJ c with
  | true=>
   rw [kG hc,kG hc]
   rw [sV X Y (i + 1) (w++[c]) ?_,List.length_cons,show i + 1 + X.length=i + (X.length + 1) by omega]
   rcases h with h | h
   ·exact .inl h
   ·refine .inr ⟨fun d r e=>h.1 d (c::r) (by rw [e];rfl),fun e=>?_⟩
    subst e
    have:=h.1 c [] rfl
    rw [hc] at this
    cases this
  | false=>
   rw [kd hc,kd hc,List.append_assoc]
   rw [sV X Y (i + 1) [] ?_,List.length_cons,show i + 1 + X.length=i + (X.length + 1) by omega]
   rcases h with h | h
   ·exact .inl h
   ·exact .inr ⟨fun d r e=>h.1 d (c::r) (by rw [e];rfl),fun _=>rfl⟩
theorem yM{X Y:List Nat}(h:Fr (Y.map lo)\/La (X.map lo)):words (X++Y)=words X++(words Y).map (sh X.length):=by
 unfold words
 rw [List.map_append,sV _ _ 0 [] (by rcases h with h | h;exact .inl h;exact .inr ⟨h,fun _=>rfl⟩)]
 congr 1
 rw [List.length_map]
 exact uv _ 0 _ [] (Nat.le_refl _)
structure Gd (L : List Nat) (x : Wd) : Prop where
 ne : x.1 ≠ []
 al : x.1.all iJ = true
 len : x.2.1 + x.1.length = x.2.2
 le : x.2.2 <= L.length
 la : La (L.take x.2.1)
 fr : Fr (L.drop x.2.2)
 at' : (L.drop x.2.1).take x.1.length = x.1
theorem z0{d w r:List Nat}{i:Nat}(hi:d.length + w.length=i)(hw:w.all iJ=true)(hd:La d)(hr:Fr r):∀ x∈flush i w,Gd (d++w++r) x:=by
 intro x J
 unfold flush at J
 split at J
 ·cases J
 ·rename_i h
  have e:x=(w,i - w.length,i):=by simpa using J
  subst e
  have U:i - w.length=d.length:=by omega
  refine⟨h,hw,by show i - w.length + w.length=i;omega,by show i<=_;rw [List.length_append,List.length_append];omega,?_,?_,?_⟩
  ·show La ((d++w++r).take (i - w.length))
   rw [U,List.append_assoc,List.take_left]
   exact hd
  ·show Fr ((d++w++r).drop i)
   have:i=(d++w).length:=by rw [List.length_append];omega
   rw [this,List.drop_left]
   exact hr
  ·show((d++w++r).drop (i - w.length)).take w.length=w
   rw [U,List.append_assoc,List.drop_left,List.take_left]
theorem uO:∀(r d w:List Nat) (i:Nat),d.length + w.length=i->w.all iJ=true->La d->∀ x∈iY r i w,Gd (d++w++r) x
 | [],d,w,i,hi,hw,hd,x,J=>z0 hi hw hd HB x J
 | c::r,d,w,i,hi,hw,hd,x,J=>by
  cases hc:iJ c with
  | true=>
   rw [kG hc] at J
   have:=uO r d (w++[c]) (i + 1) (by rw [List.length_append];show _ + (w.length + 1)=_;omega) (by simp [List.all_append,hw,hc]) hd x J
   rw [<-List.append_assoc,List.append_assoc _ [c] r] at this
   exact this
  | false=>
   rw [kd hc] at J
   rcases List.mem_append.mp J with q | q
   ·exact z0 hi hw hd (fun U r' e=>by cases e;exact hc) x q
   ·have:=uO r (d++w++[c]) [] (i + 1) (by rw [List.length_append,List.length_append];show _ + 1 + 0=_;omega) rfl (fun U r' e=>by
     have:=List.append_inj_right' e rfl
     cases this
     exact hc) x q
    rw [List.append_nil,List.append_assoc _ [c] r] at this
    exact this
theorem lU(cs:List Nat):∀ x∈words cs,Gd (cs.map lo) x:=fun x J=>uO _ [] [] 0 rfl rfl BD x J
noncomputable def Sr(ws:List Wd):Prop:=ws.Pairwise (fun x y=>x.2.2 < y.2.1)/\∀ x∈ws,x.2.1 < x.2.2
theorem tE:∀(r:List Nat) (i:Nat) (w:List Nat),w.length<=i->Sr (iY r i w)/\∀ x∈iY r i w,i - w.length<=x.2.1
 | [],i,w,h=>by
  show Sr (flush i w)/\_
  unfold flush iY flush
  split
  ·exact⟨⟨.nil,fun _ h=>nomatch h⟩,fun _ h=>nomatch h⟩
  ·rename_i hw
   have:w.length≠0:=fun e=>hw (List.eq_nil_of_length_eq_zero e)
   refine⟨⟨List.pairwise_singleton _ _,fun x J=>?_⟩,fun x J=>?_⟩
   ·rw [List.mem_singleton.mp J];show i - w.length < i;omega
   ·rw [List.mem_singleton.mp J];exact Nat.le_refl _
 | c::r,i,w,h=>by
  cases hc:iJ c with
  | true=>
   rw [kG hc]
   have l:(w++[c]).length=w.length + 1:=by simp
   have:=tE r (i + 1) (w++[c]) (by omega)
   refine⟨this.1,fun x J=>?_⟩
   have:=this.2 x J
   omega
  | false=>
   rw [kd hc]
   have q:=tE r (i + 1) [] (Nat.zero_le _)
   have f:∀ x∈flush i w,x.2.1 < x.2.2/\x.2.2=i/\x.2.1=i - w.length:=by
    intro x J
    unfold flush at J
    split at J
    ·cases J
    ·rename_i hw
     have:w.length≠0:=fun e=>hw (List.eq_nil_of_length_eq_zero e)
     rw [List.mem_singleton.mp J]
     exact⟨by show i - w.length < i;omega,rfl,rfl⟩
   have fp:(flush i w).Pairwise (fun x y=>x.2.2 < y.2.1):=by
    unfold flush
    split
    ·exact .nil
    ·exact List.pairwise_singleton _ _
   refine⟨⟨List.pairwise_append.mpr ⟨fp,q.1.1,fun x J y U=>?_⟩,fun x J=>?_⟩,fun x J=>?_⟩
   ·have:=q.2 y U
    rw [(f x J).2.1]
    have e0:([]:List Nat).length=0:=rfl
    omega
   ·rcases List.mem_append.mp J with z | z
    ·exact(f x z).1
    ·exact q.1.2 x z
   ·rcases List.mem_append.mp J with z | z
    ·rw [(f x z).2.2];exact Nat.le_refl _
    ·have:=q.2 x z
     have e0:([]:List Nat).length=0:=rfl
     omega
theorem lX(cs:List Nat):Sr (words cs):=(tE _ 0 [] (Nat.le_refl _)).1
open K01 (Wd words iY flush iJ lo iG)
noncomputable def ix:List Nat->Int->Option Nat
 | [],_=>none
 | y::r,x=>if (y:Int)=x then some 0 else (ix r x).map (· + 1)
theorem lE:∀{l:List Nat} {x:Int} {i:Nat},ix l x=some i->∃ y,l[i]? =some y/\(y:Int)=x
 | y::r,x,i,h=>by
  unfold ix at h
  split at h
  ·rename_i e
   cases h
   exact⟨y,rfl,e⟩
  ·obtain⟨j,J,e⟩:=Option.map_eq_some_iff.mp h
   subst e
   exact lE (l:=r) J
theorem vV:∀{l:List Nat} {x:Int},ix l x=none->∀ y∈l,(y:Int)≠x
 | [],_,_=>fun _ h=>nomatch h
 | y::r,x,h=>by
  unfold ix at h
  split at h
  ·cases h
  ·rename_i e
   intro z hz
   rcases List.mem_cons.mp hz with q | q
   ·rw [q];exact e
   ·exact vV (Option.map_eq_none_iff.mp h) z q
theorem uW{l:List Nat}{x:Int}:(ix l x).isSome=true↔∃ y∈l,(y:Int)=x:=by
 constructor
 ·intro h
  obtain⟨i,hi⟩:=Option.isSome_iff_exists.mp h
  obtain⟨y,h1,h2⟩:=lE hi
  exact⟨y,List.mem_of_getElem? h1,h2⟩
 ·rintro⟨y,h1,h2⟩
  cases h:ix l x with
  | none=>exact absurd h2 (vV h y h1)
  | some i=>rfl
theorem ux:∀{a b:List Nat} {x:Int},(∀ y∈a,(y:Int)≠x)->ix (a++b) x=(ix b x).map (· + a.length)
 | [],b,x,_=>by show ix b x=_;cases ix b x<;>rfl
 | y::a,b,x,h=>by
  show(if (y:Int)=x then some 0 else (ix (a++b) x).map (· + 1))=_
  rw [if_neg (h y List.mem_cons_self),ux fun z hz=>h z (List.mem_cons_of_mem _ hz)]
  cases ix b x with
  | none=>rfl
  | some k=>show some (k + a.length + 1)=some (k + (a.length + 1));rfl
theorem uG:∀{a b:List Nat} {x:Int},(∀ y∈b,(y:Int)≠x)->ix (a++b) x=ix a x
 | [],b,x,h=>by
  show ix b x=none
  cases e:ix b x with
  | none=>rfl
  | some i=>obtain⟨y,h1,h2⟩:=lE e;exact absurd h2 (h y (List.mem_of_getElem? h1))
 | y::a,b,x,h=>by
  show(if (y:Int)=x then some 0 else (ix (a++b) x).map (· + 1))=(if (y:Int)=x then some 0 else (ix a x).map (· + 1))
  rw [uG h]
theorem ua(k:Nat):∀{l:List Nat} {x:Int},ix (l.map (· + k)) ((k:Int) + x)=ix l x
 | [],_=>rfl
 | y::r,x=>by
  show(if ((y + k:Nat):Int)=(k:Int) + x then some 0 else (ix (r.map (· + k)) ((k:Int) + x)).map (· + 1))=(if (y:Int)=x then some 0 else (ix r x).map (· + 1))
  rw [ua k]
  by_cases e:(y:Int)=x
  ·rw [if_pos e,if_pos (by omega)]
  ·rw [if_neg e,if_neg (by omega)]
noncomputable def wB(ws:List Wd):List Nat:=ws.map (·.2.1)
noncomputable def wE(ws:List Wd):List Nat:=ws.map (·.2.2)
noncomputable def spn(ws:List Wd)(b e:Int):Option (Nat×Nat):=match ix (wB ws) b,ix (wE ws) e with
 | some i,some j=>if i<=j then some (i,j) else none
 | _,_=>none
noncomputable def jk(ws:List Wd)(t:Nat):Nat->List (Int×Int)->Bool
 | _,[]=>true
 | l,m::r=>match spn ws m.1 m.2 with
  | none=>false
  | some q=>decide (l<=q.1) && decide (q.2<=t) && jk ws t (q.2 + 2) r
noncomputable def iQ(ws:List Wd)(b e:Int)(ms:List (Int×Int)):Bool:=match spn ws b e with
 | none=>false
 | some q=> !ms.isEmpty && jk ws q.2 q.1 ms
theorem uN{ws:List Wd}{i:Nat}{y:Nat}(h:(wB ws)[i]? =some y):∃ x,ws[i]? =some x/\x.2.1=y:=by
 unfold wB at h
 rw [List.getElem?_map] at h
 cases e:ws[i]? with
 | none=>rw [e] at h;cases h
 | some x=>rw [e] at h;exact⟨x,rfl,Option.some.inj h⟩
theorem tq{ws:List Wd}{i:Nat}{y:Nat}(h:(wE ws)[i]? =some y):∃ x,ws[i]? =some x/\x.2.2=y:=by
 unfold wE at h
 rw [List.getElem?_map] at h
 cases e:ws[i]? with
 | none=>rw [e] at h;cases h
 | some x=>rw [e] at h;exact⟨x,rfl,Option.some.inj h⟩
theorem Sr.lt {ws:List Wd}(h:Sr ws){i j:Nat}{x y:Wd}(hi:ws[i]? =some x)(hj:ws[j]? =some y)(l:i < j):x.2.2 < y.2.1:=by
 obtain⟨a,J⟩:=List.getElem?_eq_some_iff.mp hi
 obtain⟨b,U⟩:=List.getElem?_eq_some_iff.mp hj
 have:=List.pairwise_iff_getElem.mp h.1 i j a b l
 rw [J,U] at this
 exact this
theorem Sr.own {ws:List Wd}(h:Sr ws){i:Nat}{x:Wd}(hi:ws[i]? =some x):x.2.1 < x.2.2:=h.2 x (List.mem_of_getElem? hi)
theorem Sr.le_iff {ws:List Wd}(h:Sr ws){i j:Nat}{x y:Wd}(hi:ws[i]? =some x)(hj:ws[j]? =some y):i<=j↔x.2.1 < y.2.2:=by
 constructor
 ·intro l
  rcases Nat.lt_or_ge i j with q | q
  ·have:=h.lt hi hj q
   have:=h.own hi
   have:=h.own hj
   omega
  ·have e:i=j:=by omega
   subst e
   rw [hi] at hj
   cases hj
   exact h.own hi
 ·intro l
  rcases Nat.lt_or_ge j i with q | q
  ·have:=h.lt hj hi q
   omega
  ·exact q
theorem nM{ws:List Wd}{b e:Int}{q:Nat×Nat}(h:spn ws b e=some q):∃ x y,ws[q.1]? =some x/\ws[q.2]? =some y/\(x.2.1:Int)=b/\(y.2.2:Int)=e/\q.1<=q.2/\ix (wB ws) b=some q.1/\ix (wE ws) e=some q.2:=by
 unfold spn at h
 split at h
 ·rename_i i j hi J
  split at h
  ·rename_i l
   cases h
   obtain⟨u,h1,h2⟩:=lE hi
   obtain⟨v,U,h4⟩:=lE J
   obtain⟨x,h5,h6⟩:=uN h1
   obtain⟨y,h7,h8⟩:=tq U
   exact⟨x,y,h5,h7,by rw [h6];exact h2,by rw [h8];exact h4,l,hi,J⟩
  ·cases h
 ·cases h
theorem yu{ws:List Wd}(hs:Sr ws){b e:Int}{i j:Nat}(hi:ix (wB ws) b=some i)(hj:ix (wE ws) e=some j):spn ws b e=if b < e then some (i,j) else none:=by
 unfold spn
 rw [hi,hj]
 obtain⟨u,h1,h2⟩:=lE hi
 obtain⟨v,J,h4⟩:=lE hj
 obtain⟨x,U,h6⟩:=uN h1
 obtain⟨y,h7,h8⟩:=tq J
 have:=hs.le_iff U h7
 show(if i<=j then some (i,j) else none)=_
 by_cases l:i<=j
 ·rw [if_pos l,if_pos (by have:=this.mp l;omega)]
 ·rw [if_neg l,if_neg (fun z=>l (this.mpr (by omega)))]
theorem uL{ws:List Wd}{b e:Int}(h:ix (wB ws) b=none):spn ws b e=none:=by
 unfold spn
 rw [h]
theorem uZ{ws:List Wd}{b e:Int}(h:ix (wE ws) e=none):spn ws b e=none:=by
 unfold spn
 rw [h]
 cases ix (wB ws) b<;>rfl
noncomputable def Ch:Nat->Nat->List (Nat×Nat)->Prop
 | p,q,[]=>p<=q
 | p,q,m::r=>p<=m.1/\m.1 < m.2/\Ch m.2 q r
theorem Ch.le:∀{p q:Nat} {ms:List (Nat×Nat)},Ch p q ms->p<=q
 | _,_,[],h=>h
 | p,q,m::r,h=>by have:=h.2.2.le;have:=h.1;have:=h.2.1;omega
theorem Ch.mem:∀{p q:Nat} {ms:List (Nat×Nat)},Ch p q ms->∀ m∈ms,p<=m.1/\m.1 < m.2/\m.2<=q
 | _,_,m::r,h,x,J=>by
  rcases List.mem_cons.mp J with e | e
  ·rw [e];exact⟨h.1,h.2.1,h.2.2.le⟩
  ·have:=h.2.2.mem x e
   have:=h.1
   have:=h.2.1
   omega
noncomputable abbrev zP(m:Nat×Nat):Int×Int:=((m.1:Int),(m.2:Int))
theorem xY{ws:List Wd}(hs:Sr ws){t:Nat}{y:Wd}(hy:ws[t]? =some y):∀{ms:List (Int×Int)} {l:Nat} {p:Nat},jk ws t l ms=true->(∀ i x,l<=i->ws[i]? =some x->p<=x.2.1)->p<=y.2.2->∃ ns:List (Nat×Nat),ms=ns.map zP/\Ch p y.2.2 ns
 | [],l,p,_,_,U=>⟨[],rfl,U⟩
 | m::r,l,p,h,hl,U=>by
  unfold jk at h
  split at h
  ·cases h
  ·rename_i q hq
   rw [Bool.and_eq_true,Bool.and_eq_true,decide_eq_true_eq,decide_eq_true_eq] at h
   obtain⟨⟨l1,l2⟩,h3⟩:=h
   obtain⟨x,z,e1,J,e3,e4,le,_,_⟩:=nM hq
   have hz:z.2.2<=y.2.2:=by
    rcases Nat.lt_or_ge q.2 t with w | w
    ·have:=hs.lt J hy w
     have:=hs.own hy
     omega
    ·have:q.2=t:=by omega
     rw [this,hy] at J
     cases J
     exact Nat.le_refl _
   have hx:=hl q.1 x l1 e1
   have lt:=(hs.le_iff e1 J).mp le
   obtain⟨ns,e5,c⟩:=xY hs hy (p:=z.2.2) h3 (fun i v w ev=>by
    have:=hs.lt J ev (show q.2 < i by omega)
    omega) hz
   exact⟨(x.2.1,z.2.2)::ns,by rw [e5];show m::_=((x.2.1:Int),(z.2.2:Int))::_;rw [e3,e4],hx,lt,c⟩
theorem xh{ws:List Wd}(hs:Sr ws){b e:Int}{ms:List (Int×Int)}(h:iQ ws b e ms=true):∃(i j b' e':Nat) (ns:List (Nat×Nat)) (x y:Wd),spn ws b e=some (i,j)/\ws[i]? =some x/\ws[j]? =some y/\x.2.1=b'/\y.2.2=e'/\b=(b':Int)/\e=(e':Int)/\ms=ns.map zP/\ns≠[]/\Ch b' e' ns/\i<=j:=by
 unfold iQ at h
 split at h
 ·cases h
 ·rename_i q hq
  obtain⟨x,y,J,U,e3,e4,le,_,_⟩:=nM hq
  rw [Bool.and_eq_true] at h
  obtain⟨h1,h2⟩:=h
  have lt:=(hs.le_iff J U).mp le
  obtain⟨ns,e5,c⟩:=xY hs U (p:=x.2.1) h2 (fun i v w ev=>by
   rcases Nat.lt_or_ge q.1 i with z | z
   ·have:=hs.lt J ev z
    have:=hs.own J
    omega
   ·have:i=q.1:=by omega
    rw [this,J] at ev
    cases ev
    exact Nat.le_refl _) (by omega)
  refine⟨q.1,q.2,_,_,ns,x,y,hq,J,U,rfl,rfl,e3.symm,e4.symm,e5,?_,c,le⟩
  intro e
  subst e
  rw [e5] at h1
  cases h1
structure Su (ws wa vs wc : List Wd) (k n : Nat) : Prop where
 eq : ws = wa ++ vs.map (sh k) ++ wc
 ha : ∀ x ∈ wa, x.2.1 < k /\ x.2.2 < k
 hc : ∀ x ∈ wc, k + n < x.2.1 /\ k + n < x.2.2
theorem Su.b {ws wa vs wc:List Wd}{k n:Nat}(h:Su ws wa vs wc k n){x:Int}(h0:0<=x)(hn:x<=n):ix (wB ws) ((k:Int) + x)=(ix (wB vs) x).map (· + wa.length):=by
 have e:wB ws=wB wa++((wB vs).map (· + k)++wB wc):=by
  rw [h.eq]
  unfold wB
  rw [List.map_append,List.map_append,List.append_assoc,List.map_map,List.map_map]
  rfl
 have l:(wB wa).length=wa.length:=List.length_map _
 rw [e,ux (fun y J=>by
   obtain⟨v,U,rfl⟩:=List.mem_map.mp J
   have:=(h.ha v U).1
   omega),uG (fun y J=>by
   obtain⟨v,U,rfl⟩:=List.mem_map.mp J
   have:=(h.hc v U).1
   omega),ua,l]
theorem Su.e {ws wa vs wc:List Wd}{k n:Nat}(h:Su ws wa vs wc k n){x:Int}(h0:0<=x)(hn:x<=n):ix (wE ws) ((k:Int) + x)=(ix (wE vs) x).map (· + wa.length):=by
 have e:wE ws=wE wa++((wE vs).map (· + k)++wE wc):=by
  rw [h.eq]
  unfold wE
  rw [List.map_append,List.map_append,List.append_assoc,List.map_map,List.map_map]
  rfl
 have l:(wE wa).length=wa.length:=List.length_map _
 rw [e,ux (fun y J=>by
   obtain⟨v,U,rfl⟩:=List.mem_map.mp J
   have:=(h.ha v U).2
   omega),uG (fun y J=>by
   obtain⟨v,U,rfl⟩:=List.mem_map.mp J
   have:=(h.hc v U).2
   omega),ua,l]
noncomputable def inR(n:Nat)(m:Int×Int):Prop:=0<=m.1/\m.1<=n/\0<=m.2/\m.2<=n
noncomputable def mv(k:Nat)(m:Int×Int):Int×Int:=((k:Int) + m.1,(k:Int) + m.2)
theorem Su.spn {ws wa vs wc:List Wd}{k n:Nat}(h:Su ws wa vs wc k n){m:Int×Int}(hm:inR n m):spn ws ((k:Int) + m.1) ((k:Int) + m.2)=(spn vs m.1 m.2).map fun q=>(q.1 + wa.length,q.2 + wa.length):=by
 unfold SH.spn
 rw [h.b hm.1 hm.2.1,h.e hm.2.2.1 hm.2.2.2]
 cases ix (wB vs) m.1 with
 | none=>rfl
 | some i=>
  cases ix (wE vs) m.2 with
  | none=>rfl
  | some j=>
   show(if i + wa.length<=j + wa.length then some (i + wa.length,j + wa.length) else none)=(if i<=j then some (i,j) else none).map _
   by_cases l:i<=j
   ·rw [if_pos l,if_pos (by omega)];rfl
   ·rw [if_neg l,if_neg (by omega)];rfl
theorem Su.mks {ws wa vs wc:List Wd}{k n:Nat}(h:Su ws wa vs wc k n):∀{ms:List (Int×Int)} {t l:Nat},(∀ m∈ms,inR n m)->jk ws (t + wa.length) (l + wa.length) (ms.map (mv k))=jk vs t l ms
 | [],t,l,_=>rfl
 | m::r,t,l,hm=>by
  show(match SH.spn ws ((k:Int) + m.1) ((k:Int) + m.2) with
   | none=>false
   | some q=>decide (l + wa.length<=q.1) && decide (q.2<=t + wa.length) && jk ws (t + wa.length) (q.2 + 2) (r.map (mv k)))=_
  rw [h.spn (hm m List.mem_cons_self)]
  show _=(match SH.spn vs m.1 m.2 with
   | none=>false
   | some q=>decide (l<=q.1) && decide (q.2<=t) && jk vs t (q.2 + 2) r)
  cases SH.spn vs m.1 m.2 with
  | none=>rfl
  | some q=>
   show(decide (l + wa.length<=q.1 + wa.length) && decide (q.2 + wa.length<=t + wa.length) && jk ws (t + wa.length) (q.2 + wa.length + 2) (r.map (mv k)))=(decide (l<=q.1) && decide (q.2<=t) && jk vs t (q.2 + 2) r)
   rw [show q.2 + wa.length + 2=q.2 + 2 + wa.length by omega,h.mks fun m J=>hm m (List.mem_cons_of_mem _ J)]
   congr 2
   ·exact decide_eq_decide.mpr (by omega)
   ·exact decide_eq_decide.mpr (by omega)
theorem Su.pc {ws wa vs wc:List Wd}{k n:Nat}(h:Su ws wa vs wc k n){b e:Int}{ms:List (Int×Int)}(hb:inR n (b,e))(hm:∀ m∈ms,inR n m):iQ ws ((k:Int) + b) ((k:Int) + e) (ms.map (mv k))=iQ vs b e ms:=by
 unfold iQ
 rw [h.spn (m:=(b,e)) hb]
 cases SH.spn vs b e with
 | none=>rfl
 | some q=>
  show(!(ms.map (mv k)).isEmpty && jk ws (q.2 + wa.length) (q.1 + wa.length) (ms.map (mv k)))=(!ms.isEmpty && jk vs q.2 q.1 ms)
  rw [h.mks hm]
  cases ms<;>rfl
theorem uH{A S C:List Nat}(ha:La (A.map lo))(hc:Fr (C.map lo)):Su (words (A++S++C)) (words A) (words S) ((words C).map (sh (A++S).length)) A.length S.length:=by
 refine⟨?_,fun x J=>?_,fun x J=>?_⟩
 ·rw [yM (.inl hc),yM (X:=A) (.inr ha)]
 ·have g:=lU A x J
  have l:=g.len
  have n0:x.1.length≠0:=fun e=>g.ne (List.eq_nil_of_length_eq_zero e)
  have le:=g.le
  rw [List.length_map] at le
  refine⟨by omega,?_⟩
  rcases Nat.lt_or_ge x.2.2 A.length with z | z
  ·exact z
  ·have e:x.2.2=A.length:=by omega
   exfalso
   have t:=g.at'
   rw [List.take_of_length_le (by rw [List.length_drop,List.length_map];omega)] at t
   have U:(A.map lo)=(A.map lo).take x.2.1++x.1:=by
    conv=>lhs;rw [<-List.take_append_drop x.2.1 (A.map lo)]
    rw [t]
   obtain⟨r,c,e2⟩:∃ r c,x.1=r++[c]:=⟨x.1.dropLast,x.1.getLast g.ne,(List.dropLast_concat_getLast g.ne).symm⟩
   rw [e2,<-List.append_assoc] at U
   have f:=ha c _ U
   have:=List.all_eq_true.mp g.al c (by rw [e2];simp)
   rw [f] at this
   cases this
 ·obtain⟨y,hy,rfl⟩:=List.mem_map.mp J
  have g:=lU C y hy
  have l:=g.len
  have n0:y.1.length≠0:=fun e=>g.ne (List.eq_nil_of_length_eq_zero e)
  have y1:y.2.1≠0:=by
   intro e
   have t:=g.at'
   rw [e,List.drop_zero] at t
   cases hC:C.map lo with
   | nil=>
    rw [hC] at t
    have:y.1=[]:=by rw [<-t];simp
    exact g.ne this
   | cons c r=>
    have f:=hc c r hC
    cases hy1:y.1 with
    | nil=>exact g.ne hy1
    | cons d s=>
     rw [hC,hy1] at t
     have:c=d:=by injection t
     have al:=g.al
     rw [hy1,<-this,List.all_cons,f] at al
     cases al
  show A.length + S.length < y.2.1 + (A++S).length/\A.length + S.length < y.2.2 + (A++S).length
  rw [List.length_append]
  omega
noncomputable def jf(c:Nat):List Nat:=if c=91 then [92,91] else if c=93 then [92,93] else if c=92 then [92,92] else if c=10 then [92,110] else [c]
noncomputable def iA(s:List Nat):List Nat:=s.flatMap jf
noncomputable def sl(s:List Nat)(p q:Nat):List Nat:=(s.drop p).take (q - p)
theorem rp:iA []=[]:=rfl
theorem l9(c:Nat)(s:List Nat):iA (c::s)=jf c++iA s:=by unfold iA;rw [List.flatMap_cons]
theorem r9(s t:List Nat):iA (s++t)=iA s++iA t:=by unfold iA;rw [List.flatMap_append]
theorem Ak(s:List Nat){p a q:Nat}(h2:a<=q):(sl s p q).take (a - p)=sl s p a:=by
 unfold sl
 rw [List.take_take,Nat.min_eq_left (by omega)]
theorem yG(s:List Nat){p a q:Nat}(h1:p<=a):(sl s p q).drop (a - p)=sl s a q:=by
 unfold sl
 rw [List.drop_take,List.drop_drop,show p + (a - p)=a by omega,show q - p - (a - p)=q - a by omega]
theorem HZ(s:List Nat){p q:Nat}(h:q<=s.length):(sl s p q).length=q - p:=by
 unfold sl
 rw [List.length_take,List.length_drop]
 omega
theorem sG(A S C:List Nat){p q:Nat}(hp:p<=q)(hq:q<=S.length):sl (A++S++C) (A.length + p) (A.length + q)=sl S p q:=by
 unfold sl
 rw [show A.length + q - (A.length + p)=q - p by omega,List.append_assoc,<-List.drop_drop,List.drop_left,List.drop_append_of_le_length (by omega),List.take_append_of_le_length (by rw [List.length_drop];omega)]
theorem sR(s:List Nat):sl s 0 s.length=s:=by unfold sl;simp
theorem so(s:List Nat)(p:Nat):sl s p p=[]:=by unfold sl;simp
theorem oM(s:List Nat){b n:Nat}(h:b + n < s.length):sl s b (b + (n + 1))=sl s b (b + n)++[s.getD (b + n) 0]:=by
 unfold sl
 rw [show b + (n + 1) - b=n + 1 by omega,show b + n - b=n by omega,List.take_add_one,List.getElem?_drop,List.getElem?_eq_getElem h]
 rw [List.getD_eq_getElem?_getD,List.getElem?_eq_getElem h]
 rfl
noncomputable def i6(T:List Nat)(q:Nat):Nat->List (Nat×Nat)->List Nat
 | p,[]=>iA (sl T p q)
 | p,m::r=>iA (sl T p m.1)++91::(iA (sl T m.1 m.2)++93::i6 T q m.2 r)
noncomputable def br(o:Bool):Nat:=if o then 93 else 91
noncomputable def j5:List Nat->Bool->Nat->List Nat->List Nat
 | [],_,_,S=>iA S
 | e::r,o,n,S=>iA (S.take (e - n))++br o::j5 r (!o) e (S.drop (e - n))
noncomputable def flat(ms:List (Nat×Nat)):List Nat:=ms.flatMap fun m=>[m.1,m.2]
theorem sC(m:Nat×Nat)(r:List (Nat×Nat)):flat (m::r)=m.1::m.2::flat r:=rfl
theorem tT(T:List Nat){q:Nat}:∀{ms:List (Nat×Nat)} {p:Nat},Ch p q ms->i6 T q p ms=j5 (flat ms) false p (sl T p q)
 | [],p,_=>rfl
 | m::r,p,h=>by
  have J:=h.2.2.le
  rw [sC]
  show iA (sl T p m.1)++91::(iA (sl T m.1 m.2)++93::i6 T q m.2 r)=iA ((sl T p q).take (m.1 - p))++91::(iA (((sl T p q).drop (m.1 - p)).take (m.2 - m.1))++93::j5 (flat r) false m.2 (((sl T p q).drop (m.1 - p)).drop (m.2 - m.1)))
  have:=h.2.1
  rw [Ak T (by omega),yG T h.1,Ak T (by omega),yG T (by omega),tT T h.2.2]
noncomputable def jC(k:Nat)(m:Nat×Nat):Nat×Nat:=(k + m.1,k + m.2)
theorem zo(A S C:List Nat){q:Nat}(hq:q<=S.length):∀{ms:List (Nat×Nat)} {p:Nat},Ch p q ms->i6 (A++S++C) (A.length + q) (A.length + p) (ms.map (jC A.length))=i6 S q p ms
 | [],p,h=>by
  show iA (sl (A++S++C) (A.length + p) (A.length + q))=iA (sl S p q)
  rw [sG A S C h hq]
 | m::r,p,h=>by
  have:=h.2.2.le
  have:=h.2.1
  show iA (sl (A++S++C) (A.length + p) (A.length + m.1))++91::(iA (sl (A++S++C) (A.length + m.1) (A.length + m.2))++93::i6 (A++S++C) (A.length + q) (A.length + m.2) (r.map (jC A.length)))=_
  rw [sG A S C h.1 (by omega),sG A S C (by omega) (by omega),zo A S C hq h.2.2]
  rfl
noncomputable def lf(T ones others:List Nat)(a:Nat):List Nat:=(if a∈ones then [91] else [])++jf (T.getD a 0)++(if a + 1∈others then [93] else [])
noncomputable def i9(T ones others:List Nat)(b:Nat):Nat->List Nat
 | 0=>[]
 | n + 1=>i9 T ones others b n++lf T ones others (b + n)
theorem uE(T o1 o2:List Nat)(b n:Nat):∀ m,i9 T o1 o2 b (n + m)=i9 T o1 o2 b n++i9 T o1 o2 (b + n) m
 | 0=>(List.append_nil _).symm
 | m + 1=>by
  show i9 T o1 o2 b (n + m)++lf T o1 o2 (b + (n + m))=i9 T o1 o2 b n++(i9 T o1 o2 (b + n) m++lf T o1 o2 (b + n + m))
  rw [uE T o1 o2 b n m,List.append_assoc,Nat.add_assoc]
theorem wG{T o1 o2 p1 p2:List Nat}{b:Nat}:∀{n:Nat},(∀ a,b<=a->a < b + n->(a∈o1↔a∈p1)/\(a + 1∈o2↔a + 1∈p2))->i9 T o1 o2 b n=i9 T p1 p2 b n
 | 0,_=>rfl
 | n + 1,h=>by
  show i9 T o1 o2 b n++lf T o1 o2 (b + n)=i9 T p1 p2 b n++lf T p1 p2 (b + n)
  rw [wG (n:=n) fun a h1 h2=>h a h1 (by omega)]
  have:=h (b + n) (by omega) (by omega)
  unfold lf
  congr 2
  ·congr 1
   by_cases z:b + n∈o1
   ·rw [if_pos z,if_pos (this.1.mp z)]
   ·rw [if_neg z,if_neg fun w=>z (this.1.mpr w)]
  ·by_cases z:b + n + 1∈o2
   ·rw [if_pos z,if_pos (this.2.mp z)]
   ·rw [if_neg z,if_neg fun w=>z (this.2.mpr w)]
theorem tR{T o1 o2:List Nat}{b:Nat}:∀{n:Nat},b + n<=T.length->(∀ a,b<=a->a < b + n->a∉o1/\a + 1∉o2)->i9 T o1 o2 b n=iA (sl T b (b + n))
 | 0,_,_=>by show []=iA (sl T b b);rw [so];rfl
 | n + 1,hn,h=>by
  show i9 T o1 o2 b n++lf T o1 o2 (b + n)=_
  rw [tR (n:=n) (by omega) fun a h1 h2=>h a h1 (by omega),oM T (by omega),r9]
  have:=h (b + n) (by omega) (by omega)
  unfold lf
  rw [if_neg this.1,if_neg this.2,List.nil_append,List.append_nil,l9,rp,List.append_nil]
theorem xM{T o1 o2:List Nat}{b:Nat}:∀{n:Nat},b + (n + 1)<=T.length->(∀ a,b<=a->a < b + (n + 1)->(a∈o1↔a=b)/\a + 1∉o2)->i9 T o1 o2 b (n + 1)=91::iA (sl T b (b + (n + 1)))
 | 0,hn,h=>by
  show []++lf T o1 o2 (b + 0)=_
  have:=h (b + 0) (by omega) (by omega)
  unfold lf
  rw [if_pos (this.1.mpr rfl),if_neg this.2,oM T (by omega),Nat.add_zero,so]
  simp [iA]
 | n + 1,hn,h=>by
  show i9 T o1 o2 b (n + 1)++lf T o1 o2 (b + (n + 1))=_
  rw [xM (n:=n) (by omega) fun a h1 h2=>h a h1 (by omega),oM T (n:=n + 1) (by omega),r9]
  have:=h (b + (n + 1)) (by omega) (by omega)
  unfold lf
  rw [if_neg (fun z=>by have:=this.1.mp z;omega),if_neg this.2,List.nil_append,List.append_nil,l9,rp,List.append_nil]
  rfl
theorem EW{T o1 o2:List Nat}{b n:Nat}(hn:b + (n + 1)<=T.length)(h:∀ a,b<=a->a < b + (n + 1)->(a∈o1↔a=b)/\(a + 1∈o2↔a=b + n)):i9 T o1 o2 b (n + 1)=91::(iA (sl T b (b + (n + 1)))++[93]):=by
 cases n with
 | zero=>
  show []++lf T o1 o2 (b + 0)=_
  have:=h (b + 0) (by omega) (by omega)
  unfold lf
  rw [if_pos (this.1.mpr rfl),if_pos (this.2.mpr rfl),oM T (by omega),Nat.add_zero,so]
  simp [iA]
 | succ n=>
  show i9 T o1 o2 b (n + 1)++lf T o1 o2 (b + (n + 1))=_
  rw [xM (n:=n) (by omega) fun a h1 h2=>⟨(h a h1 (by omega)).1,fun z=>by have:=(h a h1 (by omega)).2.mp z;omega⟩,oM T (n:=n + 1) (by omega),r9]
  have:=h (b + (n + 1)) (by omega) (by omega)
  unfold lf
  rw [if_neg (fun z=>by have:=this.1.mp z;omega),if_pos (this.2.mpr rfl),l9,rp]
  simp
theorem wZ{T:List Nat}{q:Nat}(hq:q<=T.length):∀{ms:List (Nat×Nat)} {p:Nat},Ch p q ms->i9 T (ms.map (·.1)) (ms.map (·.2)) p (q - p)=i6 T q p ms
 | [],p,h=>by
  have h':p<=q:=h
  show i9 T [] [] p (q - p)=_
  rw [tR (by omega) (fun a _ _=>⟨List.not_mem_nil,List.not_mem_nil⟩),show p + (q - p)=q by omega]
  rfl
 | m::r,p,h=>by
  have h1:=h.1
  have h2:=h.2.1
  have h3:=h.2.2.le
  have M:=h.2.2.mem
  have U:∀ a,a < m.2->(a∈(m::r).map (·.1)↔a=m.1):=fun a l=>by
   rw [List.map_cons,List.mem_cons]
   constructor
   ·rintro(e | e)
    ·exact e
    ·obtain⟨x,J,rfl⟩:=List.mem_map.mp e
     have:=M x J
     omega
   ·exact fun e=> .inl e
  have o2:∀ a,a < m.2->(a + 1∈(m::r).map (·.2)↔a + 1=m.2):=fun a l=>by
   rw [List.map_cons,List.mem_cons]
   constructor
   ·rintro(e | e)
    ·exact e
    ·obtain⟨x,J,e⟩:=List.mem_map.mp e
     have:=M x J
     omega
   ·exact fun e=> .inl e
  rw [show q - p=(m.1 - p) + ((m.2 - m.1) + (q - m.2)) by omega,uE,uE]
  rw [show p + (m.1 - p)=m.1 by omega,show m.1 + (m.2 - m.1)=m.2 by omega]
  rw [tR (by omega) (fun a a1 a2=>⟨fun z=>by have:=(U a (by omega)).mp z;omega,fun z=>by have:=(o2 a (by omega)).mp z;omega⟩),show p + (m.1 - p)=m.1 by omega]
  obtain⟨n,hn⟩:∃ n,m.2 - m.1=n + 1:=⟨m.2 - m.1 - 1,by omega⟩
  rw [hn,EW (by omega) (fun a a1 a2=>⟨U a (by omega),by rw [o2 a (by omega)];omega⟩),show m.1 + (n + 1)=m.2 by omega]
  rw [wG (p1:=r.map (·.1)) (p2:=r.map (·.2)) (fun a a1 a2=>⟨by
    rw [List.map_cons,List.mem_cons]
    exact⟨fun e=>by rcases e with e | e;omega;exact e,fun e=> .inr e⟩,by
    rw [List.map_cons,List.mem_cons]
    exact⟨fun e=>by rcases e with e | e;omega;exact e,fun e=> .inr e⟩⟩),wZ hq h.2.2]
  show _=iA (sl T p m.1)++91::(iA (sl T m.1 m.2)++93::i6 T q m.2 r)
  simp
noncomputable def iH:List Nat->List (List Nat)
 | []=>[]
 | [c]=>[[c]]
 | c::d::r=>if c=92 then [c,d]::iH r else [c]::iH (d::r)
theorem lg{c:Nat}(h:c≠92)(r:List Nat):iH (c::r)=[c]::iH r:=by
 cases r with
 | nil=>rfl
 | cons d r=>show(if c=92 then _ else _)=_;rw [if_neg h]
theorem mL(d:Nat)(r:List Nat):iH (92::d::r)=[92,d]::iH r:=by
 show(if 92=92 then _ else _)=_
 rw [if_pos rfl]
noncomputable def ki(q:List Nat):Prop:=(∃ c,q=[c])\/∃ d,q=[92,d]
theorem nP:∀(l:List Nat),∀ q∈iH l,ki q
 | [],_,h=>nomatch h
 | [c],q,h=> .inl ⟨c,List.mem_singleton.mp h⟩
 | c::d::r,q,h=>by
  by_cases e:c=92
  ·rw [e,mL] at h
   rcases List.mem_cons.mp h with z | z
   ·exact .inr ⟨d,z⟩
   ·exact nP r q z
  ·rw [lg e] at h
   rcases List.mem_cons.mp h with z | z
   ·exact .inl ⟨c,z⟩
   ·exact nP (d::r) q z
theorem nY:∀(l:List Nat),(iH l).flatten=l
 | []=>rfl
 | [c]=>rfl
 | c::d::r=>by
  by_cases e:c=92
  ·rw [e,mL,List.flatten_cons,nY r];rfl
  ·rw [lg e,List.flatten_cons,nY (d::r)];rfl
noncomputable def kb(q:List Nat):List Nat:=if q=[92,91] then [91] else if q=[92,93] then [93] else if q=[92,92] then [92] else if q=[92,110] then [10] else q
noncomputable def sgn:List Nat->Option Nat
 | [c]=>if c=92\/c < 32\/126 < c then none else some c
 | [_,d]=>if d=91\/d=93\/d=92 then some d else if d=110 then some 10 else none
 | _=>none
noncomputable def go:List (List Nat)->Nat->Bool->Option (List Nat×List Nat)
 | [],_,_=>some ([],[])
 | q::r,n,o=>
  if q=[91] then (if o then none else (go r n true).map fun x=>(x.1,n::x.2))
  else if q=[93] then (if o then (go r n false).map fun x=>(x.1,n::x.2) else none)
  else match sgn q with
   | none=>none
   | some c=>(go r (n + 1) o).map fun x=>(c::x.1,x.2)
noncomputable def rd:List (List Nat)->List Nat->Nat->List Nat->List Nat->List Nat×List Nat×List Nat
 | [],s,_,bs,es=>(s,bs,es)
 | q::r,s,n,bs,es=>if q=[91] then rd r s n (bs++[n]) es else if q=[93] then rd r s n bs (es++[n]) else rd r (s++kb q) (n + 1) bs es
noncomputable def ev:Bool->List Nat->List Nat
 | _,[]=>[]
 | false,e::r=>e::ev true r
 | true,_::r=>ev false r
noncomputable def od:Bool->List Nat->List Nat
 | _,[]=>[]
 | false,_::r=>od true r
 | true,e::r=>e::od false r
noncomputable def pairs:List Nat->List (Nat×Nat)
 | a::b::r=>(a,b)::pairs r
 | _=>[]
theorem vy:∀(es:List Nat),(ev false es).zip (od false es)=pairs es
 | []=>rfl
 | [a]=>rfl
 | a::b::r=>by
  show(a::ev false r).zip (b::od false r)=(a,b)::pairs r
  rw [List.zip_cons_cons,vy r]
theorem zk:∀(ms:List (Nat×Nat)),pairs (flat ms)=ms
 | []=>rfl
 | m::r=>by rw [sC];show(m.1,m.2)::pairs (flat r)=_;rw [zk r]
theorem xy:∀(es:List Nat),es.length % 2=0->flat (pairs es)=es
 | [],_=>rfl
 | [a],h=>by cases h
 | a::b::r,h=>by
  show a::b::flat (pairs r)=_
  rw [xy r (by simp at h;omega)]
theorem CB(ms:List (Nat×Nat)):(flat ms).length % 2=0:=by
 induction ms with
 | nil=>rfl
 | cons m r J=>rw [sC,List.length_cons,List.length_cons];omega
theorem rC(c:Nat):sgn [c]=if c=92\/c < 32\/126 < c then none else some c:=rfl
theorem rE(a d:Nat):sgn [a,d]=if d=91\/d=93\/d=92 then some d else if d=110 then some 10 else none:=rfl
theorem Hw(c:Nat):kb [c]=[c]:=by unfold kb;simp
theorem vq{q:List Nat}{c:Nat}(hp:ki q)(h1:q≠[91])(h2:q≠[93])(h:sgn q=some c):q=jf c/\kb q=[c]:=by
 rcases hp with ⟨d,rfl⟩ | ⟨d,rfl⟩
 ·rw [rC] at h
  split at h
  ·cases h
  ·rename_i z
   have e:d=c:=Option.some.inj h
   subst e
   have J:d≠91:=fun e=>h1 (by rw [e])
   have U:d≠93:=fun e=>h2 (by rw [e])
   have n3:d≠92:=fun e=>z (.inl e)
   have n4:d≠10:=fun e=>z (.inr (.inl (by omega)))
   unfold jf
   rw [if_neg J,if_neg U,if_neg n3,if_neg n4]
   exact⟨rfl,Hw d⟩
 ·rw [rE] at h
  split at h
  ·rename_i z
   have e:d=c:=Option.some.inj h
   subst e
   rcases z with rfl | rfl | rfl<;>exact⟨rfl,rfl⟩
  ·split at h
   ·rename_i z
    subst z
    have e:10=c:=Option.some.inj h
    subst e
    exact⟨rfl,rfl⟩
   ·cases h
theorem yK{c:Nat}(h:iG c=true):sgn (jf c)=some c:=by
 unfold jf
 by_cases J:c=91
 ·subst J;rfl
 by_cases U:c=93
 ·subst U;rfl
 by_cases n3:c=92
 ·subst n3;rfl
 by_cases n4:c=10
 ·subst n4;rfl
 rw [if_neg J,if_neg U,if_neg n3,if_neg n4]
 unfold iG at h
 simp only [Bool.or_eq_true,Bool.and_eq_true,decide_eq_true_eq,Bool.not_eq_true',decide_eq_false_iff_not] at h
 rw [rC,if_neg (by omega)]
theorem r6{c:Nat}:jf c≠[91]/\jf c≠[93]:=by
 unfold jf
 constructor<;>(repeat' split)<;>simp_all
theorem vB(c:Nat)(r:List Nat):iH (jf c++r)=jf c::iH r:=by
 unfold jf
 by_cases U:c=91
 ·subst U;exact mL 91 r
 by_cases n2:c=93
 ·subst n2;exact mL 93 r
 by_cases J:c=92
 ·subst J;exact mL 92 r
 by_cases n4:c=10
 ·subst n4;exact mL 110 r
 rw [if_neg U,if_neg n2,if_neg J,if_neg n4]
 exact lg J r
theorem sE(r:List Nat)(o:Bool)(n:Nat)(S:List Nat):j5 (n::r) o n S=br o::j5 r (!o) n S:=by
 show iA (S.take (n - n))++br o::j5 r (!o) n (S.drop (n - n))=_
 rw [Nat.sub_self,List.take_zero,List.drop_zero]
 rfl
theorem zw{e:Nat}(r:List Nat)(o:Bool){n:Nat}(h:n < e)(c:Nat)(S:List Nat):j5 (e::r) o n (c::S)=jf c++j5 (e::r) o (n + 1) S:=by
 show iA ((c::S).take (e - n))++br o::j5 r (!o) e ((c::S).drop (e - n))=jf c++(iA (S.take (e - (n + 1)))++br o::j5 r (!o) e (S.drop (e - (n + 1))))
 rw [show e - n=e - (n + 1) + 1 by omega,List.take_succ_cons,List.drop_succ_cons,l9,List.append_assoc]
theorem yU(o:Bool)(n m:Nat)(c:Nat)(S:List Nat):j5 [] o n (c::S)=jf c++j5 [] o m S:=l9 c S
noncomputable def Ri:Nat->List Nat->Prop
 | _,[]=>True
 | n,e::r=>n<=e/\Ri e r
theorem Ri.mono {n n':Nat}:∀{es:List Nat},Ri n es->n'<=n->Ri n' es
 | [],_,_=>trivial
 | _::_,h,l=>⟨Nat.le_trans l h.1,h.2⟩
theorem rg:∀(ps:List (List Nat)) (n:Nat) (o:Bool) {S es:List Nat},go ps n o=some (S,es)->Ri n es
 | [],n,o,S,es,h=>by cases h;trivial
 | q::r,n,o,S,es,h=>by
  unfold go at h
  by_cases h1:q=[91]
  ·rw [if_pos h1] at h
   cases o with
   | true=>cases h
   | false=>
    obtain⟨x,J,e⟩:=Option.map_eq_some_iff.mp h
    cases e
    exact⟨Nat.le_refl _,rg r n true J⟩
  ·rw [if_neg h1] at h
   by_cases h2:q=[93]
   ·rw [if_pos h2] at h
    cases o with
    | false=>cases h
    | true=>
     obtain⟨x,J,e⟩:=Option.map_eq_some_iff.mp h
     cases e
     exact⟨Nat.le_refl _,rg r n false J⟩
   ·rw [if_neg h2] at h
    cases hs:sgn q with
    | none=>rw [hs] at h;cases h
    | some c=>
     rw [hs] at h
     obtain⟨x,J,e⟩:=Option.map_eq_some_iff.mp h
     cases e
     exact(rg r (n + 1) o J).mono (by omega)
theorem rJ:∀(ps:List (List Nat)) (n:Nat) (o:Bool) {S es:List Nat},(∀ q∈ps,ki q)->go ps n o=some (S,es)->ps.flatten=j5 es o n S
 | [],n,o,S,es,_,h=>by cases h;rfl
 | q::r,n,o,S,es,hp,h=>by
  have J:∀ q∈r,ki q:=fun q h=>hp q (List.mem_cons_of_mem _ h)
  rw [List.flatten_cons]
  unfold go at h
  by_cases h1:q=[91]
  ·rw [if_pos h1] at h
   cases o with
   | true=>cases h
   | false=>
    obtain⟨x,U,e⟩:=Option.map_eq_some_iff.mp h
    cases e
    rw [sE,rJ r n true J U,h1]
    rfl
  ·rw [if_neg h1] at h
   by_cases h2:q=[93]
   ·rw [if_pos h2] at h
    cases o with
    | false=>cases h
    | true=>
     obtain⟨x,U,e⟩:=Option.map_eq_some_iff.mp h
     cases e
     rw [sE,rJ r n false J U,h2]
     rfl
   ·rw [if_neg h2] at h
    cases hs:sgn q with
    | none=>rw [hs] at h;cases h
    | some c=>
     rw [hs] at h
     obtain⟨x,U,e⟩:=Option.map_eq_some_iff.mp h
     cases e
     have ri:=rg r (n + 1) o U
     rw [rJ r (n + 1) o J U,(vq (hp q List.mem_cons_self) h1 h2 hs).1]
     cases hes:x.2 with
     | nil=>exact(yU o n (n + 1) c x.1).symm
     | cons e r'=>
      rw [hes] at ri
      exact(zw r' o ri.1 c x.1).symm
theorem qE:∀(S:List Nat) (es:List Nat) (o:Bool) (n:Nat),S.all iG=true->Ri n es->(∀ e∈es,e<=n + S.length)->go (iH (j5 es o n S)) n o=some (S,es)
 | [],[],o,n,_,_,_=>rfl
 | [],e::r,o,n,J,hR,hl=>by
  have e1:e=n:=by have:=hR.1;have:=hl e List.mem_cons_self;simp at this;omega
  subst e1
  have U:=qE [] r (!o) e J hR.2 fun x hx=>hl x (List.mem_cons_of_mem _ hx)
  rw [sE]
  cases o with
  | false=>
   show go (iH (91::_)) _ _=_
   rw [lg (by decide)]
   unfold go
   rw [if_pos rfl,if_neg (by decide)]
   rw [show j5 r (!false) e []=j5 r true e [] from rfl]
   rw [show(!false)=true from rfl] at U
   rw [U]
   rfl
  | true=>
   show go (iH (93::_)) _ _=_
   rw [lg (by decide)]
   unfold go
   rw [if_neg (by decide),if_pos rfl,if_pos rfl]
   rw [show j5 r (!true) e []=j5 r false e [] from rfl]
   rw [show(!true)=false from rfl] at U
   rw [U]
   rfl
 | c::S,[],o,n,J,hR,hl=>by
  rw [List.all_cons,Bool.and_eq_true] at J
  rw [yU o n (n + 1) c S,vB]
  unfold go
  rw [if_neg r6.1,if_neg r6.2,yK J.1,qE S [] o (n + 1) J.2 trivial fun _ h=>nomatch h]
  rfl
 | c::S,e::r,o,n,J,hR,hl=>by
  rcases Nat.lt_or_ge n e with z | z
  ·rw [List.all_cons,Bool.and_eq_true] at J
   rw [zw r o z c S,vB]
   unfold go
   rw [if_neg r6.1,if_neg r6.2,yK J.1,qE S (e::r) o (n + 1) J.2 ⟨z,hR.2⟩ fun x hx=>by have:=hl x hx;rw [List.length_cons] at this;omega]
   rfl
  ·have e1:e=n:=by have:=hR.1;omega
   subst e1
   have U:=qE (c::S) r (!o) e J hR.2 fun x hx=>hl x (List.mem_cons_of_mem _ hx)
   rw [sE]
   cases o with
   | false=>
    show go (iH (91::_)) _ _=_
    rw [lg (by decide)]
    unfold go
    rw [if_pos rfl,if_neg (by decide)]
    rw [show(!false)=true from rfl] at U ⊢
    rw [U]
    rfl
   | true=>
    show go (iH (93::_)) _ _=_
    rw [lg (by decide)]
    unfold go
    rw [if_neg (by decide),if_pos rfl,if_pos rfl]
    rw [show(!true)=false from rfl] at U ⊢
    rw [U]
    rfl
termination_by S es=>S.length + es.length
theorem sI:∀(ps:List (List Nat)) (n:Nat) (o:Bool) {S es:List Nat} (s bs fs:List Nat),(∀ q∈ps,ki q)->go ps n o=some (S,es)->s.length=n->rd ps s n bs fs=(s++S,bs++ev o es,fs++od o es)
 | [],n,o,S,es,s,bs,fs,_,h,_=>by
  cases h
  show(s,bs,fs)=_
  cases o<;>simp [ev,od]
 | q::r,n,o,S,es,s,bs,fs,hp,h,hl=>by
  have J:∀ q∈r,ki q:=fun q h=>hp q (List.mem_cons_of_mem _ h)
  unfold go at h
  unfold rd
  by_cases h1:q=[91]
  ·rw [if_pos h1] at h ⊢
   cases o with
   | true=>cases h
   | false=>
    obtain⟨x,U,e⟩:=Option.map_eq_some_iff.mp h
    cases e
    rw [sI r n true s _ fs J U hl]
    show _=(s++x.1,bs++n::ev true x.2,fs++od true x.2)
    simp
  ·rw [if_neg h1] at h ⊢
   by_cases h2:q=[93]
   ·rw [if_pos h2] at h ⊢
    cases o with
    | false=>cases h
    | true=>
     obtain⟨x,U,e⟩:=Option.map_eq_some_iff.mp h
     cases e
     rw [sI r n false s bs _ J U hl]
     show _=(s++x.1,bs++ev false x.2,fs++n::od false x.2)
     simp
   ·rw [if_neg h2] at h ⊢
    cases hs:sgn q with
    | none=>rw [hs] at h;cases h
    | some c=>
     rw [hs] at h
     obtain⟨x,U,e⟩:=Option.map_eq_some_iff.mp h
     cases e
     rw [(vq (hp q List.mem_cons_self) h1 h2 hs).2,sI r (n + 1) o (s++[c]) bs fs J U (by simp [hl])]
     simp
theorem F6{q:List Nat}(h:ki q):1<=(kb q).length:=by
 rcases h with ⟨c,rfl⟩ | ⟨d,rfl⟩<;>(unfold kb;repeat' split)<;>simp
theorem rV:∀(ps:List (List Nat)) (s:List Nat) (n:Nat) (bs fs:List Nat),(∀ q∈ps,ki q)->n<=s.length->(∀ e∈bs,e<=s.length)->(∀ e∈fs,e<=s.length)->(∀ e∈(rd ps s n bs fs).2.1,e<=(rd ps s n bs fs).1.length)/\(∀ e∈(rd ps s n bs fs).2.2,e<=(rd ps s n bs fs).1.length)
 | [],s,n,bs,fs,_,_,h1,h2=>⟨h1,h2⟩
 | q::r,s,n,bs,fs,U,hn,h1,h2=>by
  have J:∀ q∈r,ki q:=fun q h=>U q (List.mem_cons_of_mem _ h)
  unfold rd
  split
  ·exact rV r s n _ fs J hn (fun e he=>by rcases List.mem_append.mp he with z | z;exact h1 e z;rw [List.mem_singleton.mp z];exact hn) h2
  ·split
   ·exact rV r s n bs _ J hn h1 (fun e he=>by rcases List.mem_append.mp he with z | z;exact h2 e z;rw [List.mem_singleton.mp z];exact hn)
   ·have:=F6 (U q List.mem_cons_self)
    exact rV r _ _ bs fs J (by rw [List.length_append];omega) (fun e he=>by have:=h1 e he;rw [List.length_append];omega) (fun e he=>by have:=h2 e he;rw [List.length_append];omega)
theorem qB:∀(ps:List (List Nat)) (n:Nat) (o:Bool) {S es:List Nat},(∀ q∈ps,ki q)->(∀ q∈ps,37∉q)->go ps n o=some (S,es)->S.all iG=true
 | [],n,o,S,es,_,_,h=>by cases h;rfl
 | q::r,n,o,S,es,hp,hn,h=>by
  have J:∀ q∈r,ki q:=fun q h=>hp q (List.mem_cons_of_mem _ h)
  have U:∀ q∈r,37∉q:=fun q h=>hn q (List.mem_cons_of_mem _ h)
  unfold go at h
  by_cases h1:q=[91]
  ·rw [if_pos h1] at h
   cases o with
   | true=>cases h
   | false=>
    obtain⟨x,hx,e⟩:=Option.map_eq_some_iff.mp h
    cases e
    exact qB r n true J U hx
  ·rw [if_neg h1] at h
   by_cases h2:q=[93]
   ·rw [if_pos h2] at h
    cases o with
    | false=>cases h
    | true=>
     obtain⟨x,hx,e⟩:=Option.map_eq_some_iff.mp h
     cases e
     exact qB r n false J U hx
   ·rw [if_neg h2] at h
    cases hs:sgn q with
    | none=>rw [hs] at h;cases h
    | some c=>
     rw [hs] at h
     obtain⟨x,hx,e⟩:=Option.map_eq_some_iff.mp h
     cases e
     rw [List.all_cons,qB r (n + 1) o J U hx,Bool.and_true]
     have aa:=hn q List.mem_cons_self
     rcases hp q List.mem_cons_self with ⟨d,rfl⟩ | ⟨d,rfl⟩
     ·rw [rC] at hs
      split at hs
      ·cases hs
      ·rename_i z
       have e:d=c:=Option.some.inj hs
       subst e
       have:d≠37:=fun e=>aa (by rw [e];exact List.mem_singleton.mpr rfl)
       unfold iG
       simp only [Bool.or_eq_true,Bool.and_eq_true,decide_eq_true_eq,Bool.not_eq_true',decide_eq_false_iff_not]
       omega
     ·rw [rE] at hs
      split at hs
      ·rename_i z
       have e:d=c:=Option.some.inj hs
       subst e
       rcases z with rfl | rfl | rfl<;>rfl
      ·split at hs
       ·have e:10=c:=Option.some.inj hs
        subst e
        rfl
       ·cases hs
noncomputable def dA:List Nat:=[46,46,46,32]
noncomputable def dB:List Nat:=[32,46,46,46]
noncomputable def sA(L:List Nat):Bool:=decide (L.take 4=dA)
noncomputable def eB(L:List Nat):Bool:=decide (L.drop (L.length - 4)=dB)
noncomputable def q4(b:Bool)(k:Nat):Nat:=if b then k else 0
noncomputable def dot(b:Bool)(d:List Nat):List Nat:=if b then d else []
noncomputable def mid(L:List Nat):List Nat:=sl L (q4 (sA L) 4) (L.length - q4 (eB L) 4)
noncomputable abbrev Rd:=Bool×List Nat×List (Nat×Nat)×Bool
noncomputable def jS(L:List Nat):Option Rd:=match go (iH (mid L)) 0 false with
 | none=>none
 | some x=>if x.2.length % 2=1\/2000 < x.1.length + q4 (sA L) 2 + q4 (eB L) 2\/iQ (words x.1) 0 x.1.length ((pairs x.2).map zP)=false then none else some (sA L,x.1,pairs x.2,eB L)
noncomputable def iV(T:List Nat)(b e:Nat)(ns:List (Nat×Nat)):List Nat:=match spn (words T) b e with
 | none=>[]
 | some q=>dot (decide (0 < q.1)) dA++i6 T e b ns++dot (decide (q.2 + 1 < (words T).length)) dB
theorem Ei(k:Nat)(m:Nat×Nat):mv k (zP m)=zP (jC k m):=by
 unfold mv jC
 show((k:Int) + (m.1:Int),(k:Int) + (m.2:Int))=(((k + m.1:Nat):Int),((k + m.2:Nat):Int))
 rw [Int.natCast_add,Int.natCast_add]
theorem tM(k:Nat)(ns:List (Nat×Nat)):(ns.map zP).map (mv k)=(ns.map (jC k)).map zP:=by
 rw [List.map_map,List.map_map]
 exact List.map_congr_left fun m _=>Ei k m
theorem sd:∀{a b:List (Nat×Nat)},a.map zP=b.map zP->a=b
 | [],[],_=>rfl
 | [],_::_,h=>by cases h
 | _::_,[],h=>by cases h
 | x::a,y::b,h=>by
  rw [List.map_cons,List.map_cons] at h
  injection h with h1 h2
  have J:(x.1:Int)=y.1:=congrArg (·.1) h1
  have U:(x.2:Int)=y.2:=congrArg (·.2) h1
  rw [sd h2,show x=y from Prod.ext (by omega) (by omega)]
theorem rj{c:Nat}(h:iJ (lo c)=true):jf c=[c]/\c≠46:=by
 unfold iJ lo at h
 simp only [Bool.or_eq_true,Bool.and_eq_true,decide_eq_true_eq] at h
 have:c≠91/\c≠93/\c≠92/\c≠10/\c≠46:=by
  split at h<;>omega
 obtain⟨J,U,n3,n4,n5⟩:=this
 unfold jf
 rw [if_neg J,if_neg U,if_neg n3,if_neg n4]
 exact⟨rfl,n5⟩
theorem ym{S:List Nat}{q:Nat×Nat}(h:spn (words S) 0 (S.length:Nat)=some q):q.1=0/\q.2 + 1=(words S).length/\(∃ c r,S=c::r/\iJ (lo c)=true)/\∃ r c,S=r++[c]/\iJ (lo c)=true:=by
 obtain⟨x,y,e1,e2,e3,e4,le,_,_⟩:=nM h
 have sr:=lX S
 have x0:x.2.1=0:=by omega
 have yn:y.2.2=S.length:=by omega
 have gx:=lU S x (List.mem_of_getElem? e1)
 have J:=lU S y (List.mem_of_getElem? e2)
 refine⟨?_,?_,?_,?_⟩
 ·rcases Nat.eq_zero_or_pos q.1 with z | z
  ·exact z
  ·obtain⟨l,_⟩:=List.getElem?_eq_some_iff.mp e1
   have:=sr.lt (List.getElem?_eq_getElem (show 0 < (words S).length by omega)) e1 z
   omega
 ·obtain⟨l,_⟩:=List.getElem?_eq_some_iff.mp e2
  rcases Nat.lt_or_ge (q.2 + 1) (words S).length with z | z
  ·have ez:=List.getElem?_eq_getElem z
   have:=sr.lt e2 ez (by omega)
   have g:=lU S _ (List.getElem_mem z)
   have:=g.le
   have:=g.len
   rw [List.length_map] at *
   omega
  ·omega
 ·have t:=gx.at'
  rw [x0,List.drop_zero] at t
  cases S with
  | nil=>
   have:x.1=[]:=by rw [<-t];simp
   exact absurd this gx.ne
  | cons c r=>
   refine⟨c,r,rfl,?_⟩
   cases hx:x.1 with
   | nil=>exact absurd hx gx.ne
   | cons d s=>
    rw [hx] at t
    have:lo c=d:=by injection t
    have al:=gx.al
    rw [hx,List.all_cons,Bool.and_eq_true,<-this] at al
    exact al.1
 ·have t:=J.at'
  have l:=J.len
  rw [List.take_of_length_le (by rw [List.length_drop,List.length_map];omega)] at t
  have U:S≠[]:=by
   intro e
   subst e
   have:y.1=[]:=by rw [<-t];simp
   exact J.ne this
  refine⟨S.dropLast,S.getLast U,(List.dropLast_concat_getLast U).symm,?_⟩
  have al:=List.all_eq_true.mp J.al (lo (S.getLast U))
  refine al ?_
  rw [<-t]
  have hl:y.1.length≠0:=fun e=>J.ne (List.eq_nil_of_length_eq_zero e)
  have e:(S.map lo).drop y.2.1=((S.dropLast).map lo).drop y.2.1++[lo (S.getLast U)]:=by
   conv=>lhs;rw [<-List.dropLast_concat_getLast U]
   rw [List.map_append,List.drop_append_of_le_length (by rw [List.length_map,List.length_dropLast];omega)]
   rfl
  rw [e]
  simp
theorem wk(b:Bool):(dot b dA).length=q4 b 4/\(dot b dB).length=q4 b 4:=by cases b<;>exact⟨rfl,rfl⟩
theorem vA{L X:List Nat}(h:L=dot (sA L) dA++X++dot (eB L) dB):mid L=X:=by
 unfold mid
 have l1:=(wk (sA L)).1
 have l2:=(wk (eB L)).2
 generalize sA L=a at *
 generalize eB L=b at *
 have J:L.length=q4 a 4 + X.length + q4 b 4:=by rw [h,List.length_append,List.length_append,l1,l2]
 rw [J,show q4 a 4 + X.length + q4 b 4 - q4 b 4=q4 a 4 + X.length by omega,h]
 have:=sG (dot a dA) X (dot b dB) (p:=0) (q:=X.length) (Nat.zero_le _) (Nat.le_refl _)
 rw [l1,Nat.add_zero,sR] at this
 exact this
theorem wX:∀{ns:List (Nat×Nat)} {p q:Nat},Ch p q ns->Ri p (flat ns)/\∀ e∈flat ns,e<=q
 | [],_,_,_=>⟨trivial,fun _ h=>nomatch h⟩
 | m::r,p,q,h=>by
  have J:=wX h.2.2
  have:=h.2.2.le
  have h2:=h.2.1
  rw [sC]
  refine⟨⟨h.1,Nat.le_of_lt h2,J.1⟩,fun e he=>?_⟩
  rcases List.mem_cons.mp he with z | he
  ·omega
  ·rcases List.mem_cons.mp he with z | z
   ·omega
   ·exact J.2 e z
theorem qA{S:List Nat}{ns:List (Nat×Nat)}(hp:iQ (words S) 0 (S.length:Nat) (ns.map zP)=true):Ch 0 S.length ns/\ns≠[]/\∃ q,spn (words S) 0 (S.length:Nat)=some q:=by
 obtain⟨i,j,J,U,aa,x,y,h1,_,_,_,_,h2,h3,h4,h5,h6,_⟩:=xh (lX S) hp
 have:=sd h4
 subst this
 have e1:J=0:=by omega
 have e2:U=S.length:=by omega
 subst e1 e2
 exact⟨h6,h5,_,h1⟩
theorem yc{L S:List Nat}{ns:List (Nat×Nat)}(hm:mid L=i6 S S.length 0 ns)(hS:S.all iG=true)(hp:iQ (words S) 0 (S.length:Nat) (ns.map zP)=true)(hl:S.length + q4 (sA L) 2 + q4 (eB L) 2<=2000):jS L=some (sA L,S,ns,eB L):=by
 have c:=(qA hp).1
 have f:=wX c
 unfold jS
 rw [hm,tT S c,sR,qE S (flat ns) false 0 hS f.1 (by rw [Nat.zero_add];exact f.2)]
 show(if _ then _ else _)=_
 dsimp only
 rw [zk,if_neg]
 rintro(z | z | z)
 ·have:=CB ns
  omega
 ·omega
 ·rw [hp] at z
  cases z
theorem ub{A S C:List Nat}(ha:La (A.map lo))(hc:Fr (C.map lo)){ns:List (Nat×Nat)}(hp:iQ (words S) 0 (S.length:Nat) (ns.map zP)=true):
  iQ (words (A++S++C)) (A.length:Nat) ((A.length + S.length:Nat):Int) ((ns.map (jC A.length)).map zP)=true/\
  (∃ j,spn (words (A++S++C)) (A.length:Nat) ((A.length + S.length:Nat):Int)=some ((words A).length,j)/\j + 1 + (words C).length=(words (A++S++C)).length)/\
  iV (A++S++C) A.length (A.length + S.length) (ns.map (jC A.length))=dot (decide (0 < (words A).length)) dA++i6 S S.length 0 ns++dot (decide (0 < (words C).length)) dB:=by
 have J:=uH (S:=S) ha hc
 obtain⟨c,_,q,U⟩:=qA hp
 have r0:inR S.length ((0:Int),(S.length:Int)):=⟨Int.le_refl 0,by omega,by omega,Int.le_refl _⟩
 have s1:=J.spn (m:=((0:Int),(S.length:Int))) r0
 dsimp only at s1
 rw [U,Int.add_zero] at s1
 have w:=ym U
 have e1:((A.length + S.length:Nat):Int)=(A.length:Int) + (S.length:Int):=Int.natCast_add _ _
 have hn:(words (A++S++C)).length=(words A).length + (words S).length + (words C).length:=by
  rw [J.eq,List.length_append,List.length_append,List.length_map,List.length_map]
 have s2:spn (words (A++S++C)) (A.length:Nat) ((A.length + S.length:Nat):Int)=some ((words A).length,q.2 + (words A).length):=by
  rw [e1,s1]
  show some (q.1 + (words A).length,q.2 + (words A).length)=_
  rw [w.1,Nat.zero_add]
 refine⟨?_,⟨_,s2,by have:=w.2.1;omega⟩,?_⟩
 ·have:=J.pc (b:=0) (e:=(S.length:Int)) (ms:=ns.map zP) r0 (fun m hm=>by
   obtain⟨x,hx,rfl⟩:=List.mem_map.mp hm
   have:=c.mem x hx
   exact⟨by show(0:Int)<=(x.1:Int);omega,by show(x.1:Int)<=_;omega,by show(0:Int)<=(x.2:Int);omega,by show(x.2:Int)<=_;omega⟩)
  rw [tM,Int.add_zero] at this
  rw [e1,this]
  exact hp
 ·unfold iV
  rw [s2]
  show dot (decide (0 < (words A).length)) dA++i6 (A++S++C) (A.length + S.length) A.length (ns.map (jC A.length))++dot (decide (q.2 + (words A).length + 1 < (words (A++S++C)).length)) dB=_
  have:=zo A S C (Nat.le_refl _) c
  rw [Nat.add_zero] at this
  rw [this]
  have e3:decide (q.2 + (words A).length + 1 < (words (A++S++C)).length)=decide (0 < (words C).length):=decide_eq_decide.mpr (by have:=w.2.1;omega)
  rw [e3]
noncomputable def pre(a:Bool):List Nat:=dot a [97,32]
noncomputable def jt(b:Bool):List Nat:=dot b [32,97]
theorem sU(a:Bool):La ((pre a).map lo):=by
 intro c r h
 cases a with
 | false=>cases r<;>cases h
 | true=>
  have h':[97]++[32]=r++[c]:=h
  have:=List.append_inj_right' h' rfl
  cases this
  rfl
theorem uS(b:Bool):Fr ((jt b).map lo):=by
 intro c r h
 cases b with
 | false=>cases h
 | true=>
  have h':32::[97]=c::r:=h
  injection h' with h1 _
  subst h1
  rfl
theorem xX(a:Bool):decide (0 < (words (pre a)).length)=a:=by cases a<;>decide
theorem yP(b:Bool):decide (0 < (words (jt b)).length)=b:=by cases b<;>decide
theorem vm(a:Bool):(pre a).length=q4 a 2:=by cases a<;>rfl
theorem zL(a:Bool):(jt a).length=q4 a 2:=by cases a<;>rfl
theorem Bj{L S bs es:List Nat}(hr:rd (iH (mid L)) [] 0 [] []=(S,bs,es))(hT:(pre (sA L)++S++jt (eB L)).all iG=true)(hl:(pre (sA L)++S++jt (eB L)).length<=2000)
  (hp:iQ (words (pre (sA L)++S++jt (eB L))) ((pre (sA L)).length:Nat) (((pre (sA L)).length + S.length:Nat):Int) (((bs.zip es).map (jC (pre (sA L)).length)).map zP)=true)
  (hL:iV (pre (sA L)++S++jt (eB L)) (pre (sA L)).length ((pre (sA L)).length + S.length) ((bs.zip es).map (jC (pre (sA L)).length))=L):jS L=some (sA L,S,bs.zip es,eB L):=by
 have su:=uH (S:=S) (sU (sA L)) (uS (eB L))
 have U:=rV (iH (mid L)) [] 0 [] [] (nP _) (Nat.le_refl _) (fun _ h=>nomatch h) (fun _ h=>nomatch h)
 rw [hr] at U
 have J:iQ (words S) 0 (S.length:Nat) ((bs.zip es).map zP)=true:=by
  rw [<-su.pc (b:=0) (e:=(S.length:Int)) ⟨Int.le_refl 0,by omega,by omega,Int.le_refl _⟩ (fun m hm=>by
   obtain⟨x,hx,rfl⟩:=List.mem_map.mp hm
   have x1:=U.1 x.1 (List.of_mem_zip hx).1
   have x2:=U.2 x.2 (List.of_mem_zip hx).2
   dsimp only at x1 x2
   exact⟨by show(0:Int)<=(x.1:Int);omega,by show(x.1:Int)<=_;omega,by show(0:Int)<=(x.2:Int);omega,by show(x.2:Int)<=_;omega⟩),tM,Int.add_zero,<-Int.natCast_add]
  exact hp
 have s3:=(ub (sU (sA L)) (uS (eB L)) J).2.2
 rw [hL,xX,yP] at s3
 refine yc (vA s3) ?_ J ?_
 ·rw [List.all_append,List.all_append,Bool.and_eq_true,Bool.and_eq_true] at hT
  exact hT.1.2
 ·rw [List.length_append,List.length_append,vm,zL] at hl
  omega
theorem AK{L:List Nat}(h:mid L≠[]):L=dot (sA L) dA++mid L++dot (eB L) dB:=by
 have hl:q4 (sA L) 4 < L.length - q4 (eB L) 4:=by
  rcases Nat.lt_or_ge (q4 (sA L) 4) (L.length - q4 (eB L) 4) with z | z
  ·exact z
  ·exfalso
   apply h
   unfold mid sl
   rw [show L.length - q4 (eB L) 4 - q4 (sA L) 4=0 by omega,List.take_zero]
 have J:dot (sA L) dA=L.take (q4 (sA L) 4):=by
  cases ha:sA L with
  | false=>rfl
  | true=>
   unfold sA at ha
   exact(of_decide_eq_true ha).symm
 have U:dot (eB L) dB=L.drop (L.length - q4 (eB L) 4):=by
  cases ha:eB L with
  | false=>show []=L.drop (L.length - 0);simp
  | true=>
   unfold eB at ha
   exact(of_decide_eq_true ha).symm
 rw [J,U]
 unfold mid sl
 generalize q4 (sA L) 4=p at *
 generalize L.length - q4 (eB L) 4=q at *
 have:L.drop q=(L.drop p).drop (q - p):=by rw [List.drop_drop,show p + (q - p)=q by omega]
 rw [this,List.append_assoc,List.take_append_drop,List.take_append_drop]
theorem Fb{L S:List Nat}{M:List (Nat×Nat)}{a b:Bool}(h37:37∉L)(h:jS L=some (a,S,M,b)):a=sA L/\b=eB L/\(∃ bs es,rd (iH (mid L)) [] 0 [] []=(S,bs,es)/\bs.zip es=M)/\(pre a++S++jt b).all iG=true/\(pre a++S++jt b).length<=2000/\
  iQ (words (pre a++S++jt b)) ((pre a).length:Nat) (((pre a).length + S.length:Nat):Int) ((M.map (jC (pre a).length)).map zP)=true/\iV (pre a++S++jt b) (pre a).length ((pre a).length + S.length) (M.map (jC (pre a).length))=L:=by
 unfold jS at h
 split at h
 ·cases h
 ·rename_i x U
  split at h
  ·cases h
  ·rename_i hn
   cases h
   have n1:x.2.length % 2=0:=by
    rcases Nat.mod_two_eq_zero_or_one x.2.length with z | z
    ·exact z
    ·exact absurd (.inl z) hn
   have n2:x.1.length + q4 (sA L) 2 + q4 (eB L) 2<=2000:=Nat.le_of_not_lt fun z=>hn (.inr (.inl z))
   have hp:iQ (words x.1) 0 (x.1.length:Nat) ((pairs x.2).map zP)=true:=by
    cases z:iQ (words x.1) 0 (x.1.length:Nat) ((pairs x.2).map zP) with
    | true=>rfl
    | false=>exact absurd (.inr (.inr z)) hn
   have pk:=nP (mid L)
   have hS:=qB _ 0 false pk (fun q hq z=>h37 (by
    have:37∈(iH (mid L)).flatten:=List.mem_flatten.mpr ⟨q,hq,z⟩
    rw [nY] at this
    unfold mid sl at this
    exact List.mem_of_mem_drop (List.mem_of_mem_take this))) U
   have rr:=sI _ 0 false [] [] [] pk U rfl
   have fl:=rJ _ 0 false pk U
   rw [nY] at fl
   have c:=(qA hp).1
   have J:i6 x.1 x.1.length 0 (pairs x.2)=mid L:=by
    rw [tT x.1 c,xy _ n1,sR,fl]
   obtain⟨t1,_,t3⟩:=ub (sU (sA L)) (uS (eB L)) hp
   refine⟨rfl,rfl,⟨_,_,rr,by rw [List.nil_append,List.nil_append];exact vy _⟩,?_,?_,t1,?_⟩
   ·rw [List.all_append,List.all_append,hS]
    cases sA L<;>cases eB L<;>rfl
   ·rw [List.length_append,List.length_append,vm,zL]
    omega
   ·rw [t3,xX,yP,J]
    refine(AK ?_).symm
    intro e
    rw [e] at J
    obtain⟨_,q0,_⟩:=qA hp
    cases hm:pairs x.2 with
    | nil=>exact q0 hm
    | cons m r=>
     rw [hm] at J
     have:(iA (sl x.1 0 m.1)++91::(iA (sl x.1 m.1 m.2)++93::i6 x.1 x.1.length m.2 r)).length=0:=congrArg List.length J
     rw [List.length_append,List.length_cons] at this
     omega
theorem HP{S:List Nat}{c:Nat}{r:List Nat}(e:S=c::r)(hc:iJ (lo c)=true){q:Nat}:∀{ns:List (Nat×Nat)},ns≠[]->∃ d s,i6 S q 0 ns=d::s/\d≠46
 | m::J,_=>by
  show ∃ d s,iA (sl S 0 m.1)++91::(iA (sl S m.1 m.2)++93::i6 S q m.2 J)=d::s/\d≠46
  cases hm:m.1 with
  | zero=>rw [so];exact⟨91,_,rfl,by decide⟩
  | succ n=>
   have:sl S 0 (n + 1)=c::sl S 1 (n + 1):=by rw [e];rfl
   rw [this,l9,(rj hc).1]
   exact⟨c,_,rfl,(rj hc).2⟩
theorem zU{S:List Nat}{c:Nat}{r:List Nat}(e:S=r++[c])(hc:iJ (lo c)=true):∀{ns:List (Nat×Nat)} {p:Nat},Ch p S.length ns->ns≠[]\/p < S.length->∃ s d,i6 S S.length p ns=s++[d]/\d≠46
 | [],p,h,U=>by
  have aa:p < S.length:=by
   rcases U with z | z
   ·exact absurd rfl z
   ·exact z
  have hl:S.length=r.length + 1:=by rw [e];simp
  have:sl S p S.length=sl S p r.length++[c]:=by
   obtain⟨n,hn⟩:∃ n,r.length=p + n:=⟨r.length - p,by omega⟩
   rw [hl,hn,Nat.add_assoc,oM S (by omega)]
   congr 2
   rw [<-hn,e]
   simp
  show ∃ s d,iA (sl S p S.length)=s++[d]/\d≠46
  rw [this,r9,l9,rp,List.append_nil,(rj hc).1]
  exact⟨_,c,rfl,(rj hc).2⟩
 | m::J,p,h,_=>by
  show ∃ s d,iA (sl S p m.1)++91::(iA (sl S m.1 m.2)++93::i6 S S.length m.2 J)=s++[d]/\d≠46
  by_cases z:J≠[]\/m.2 < S.length
  ·obtain⟨s,d,h1,h2⟩:=zU e hc h.2.2 z
   refine⟨iA (sl S p m.1)++91::(iA (sl S m.1 m.2)++93::s),d,?_,h2⟩
   rw [h1]
   simp
  ·have z1:J=[]:=Classical.byContradiction fun w=>z (.inl w)
   have z2:S.length<=m.2:=Nat.le_of_not_lt fun w=>z (.inr w)
   subst z1
   have e0:i6 S S.length m.2 []=[]:=by
    show iA (sl S m.2 S.length)=[]
    unfold sl
    rw [show S.length - m.2=0 by omega,List.take_zero]
    rfl
   refine⟨iA (sl S p m.1)++91::iA (sl S m.1 m.2),93,?_,by decide⟩
   rw [e0]
   simp
theorem C9{X Y:List Nat}{a:Bool}(h:∃ d s,X=d::s/\d≠46):sA (dot a dA++X++Y)=a:=by
 obtain⟨d,s,rfl,hd⟩:=h
 cases a with
 | true=>rfl
 | false=>
  unfold sA
  refine decide_eq_false fun e=>hd ?_
  have J:d::(s++Y).take 3=46::[46,46,32]:=e
  injection J
theorem Gj{X Y:List Nat}{b:Bool}(h:∃ s d,X=s++[d]/\d≠46):eB (Y++X++dot b dB)=b:=by
 obtain⟨s,d,rfl,hd⟩:=h
 cases b with
 | true=>
  unfold eB
  refine decide_eq_true ?_
  have:(Y++(s++[d])++dot true dB).length - 4=(Y++(s++[d])).length:=by rw [List.length_append];show _ + 4 - 4=_;omega
  rw [this,List.drop_left]
  rfl
 | false=>
  unfold eB
  refine decide_eq_false fun e=>hd ?_
  have J:Y++(s++[d])++dot false dB=(Y++s)++[d]:=by show Y++(s++[d])++[]=_;simp
  rw [J] at e
  have U:((Y++s)++[d]).length - 4<=(Y++s).length:=by rw [List.length_append (bs:=[d])];show _ + 1 - 4<=_;omega
  rw [List.drop_append_of_le_length U] at e
  have e2:(Y++s).drop (((Y++s)++[d]).length - 4)++[d]=[32,46,46]++[46]:=e
  have:=List.append_inj_right' e2 rfl
  injection this
theorem rX{T:List Nat}{b e:Int}{ms:List (Int×Int)}(hT:T.all iG=true)(hl:T.length<=2000)(h:iQ (words T) b e ms=true):∃(i j b' e':Nat) (ns:List (Nat×Nat)),b=(b':Int)/\e=(e':Int)/\ms=ns.map zP/\ns≠[]/\Ch b' e' ns/\e'<=T.length/\spn (words T) b e=some (i,j)/\i<=j/\
  jS (iV T b' e' ns)=some (decide (0 < i),sl T b' e',ns.map (fun m=>(m.1 - b',m.2 - b')),decide (j + 1 < (words T).length)):=by
 obtain⟨i,j,b',e',ns,x,y,h1,hx,hy,hb,he,rfl,rfl,rfl,h5,h6,ae⟩:=xh (lX T) h
 have gx:=lU T x (List.mem_of_getElem? hx)
 have gy:=lU T y (List.mem_of_getElem? hy)
 have le:=gy.le
 rw [List.length_map] at le
 have be:=h6.le
 refine⟨i,j,b',e',ns,rfl,rfl,rfl,h5,h6,by omega,h1,ae,?_⟩
 have hA:La ((T.take b').map lo):=by rw [List.map_take,<-hb];exact gx.la
 have hC:Fr ((T.drop e').map lo):=by rw [List.map_drop,<-he];exact gy.fr
 have lA:(T.take b').length=b':=by rw [List.length_take];omega
 have lS:(sl T b' e').length=e' - b':=HZ T (by omega)
 have cut:T.take b'++sl T b' e'++T.drop e'=T:=by
  unfold sl
  have:T.drop e'=(T.drop b').drop (e' - b'):=by rw [List.drop_drop,show b' + (e' - b')=e' by omega]
  rw [this,List.append_assoc,List.take_append_drop,List.take_append_drop]
 have aa:(ns.map (fun m=>(m.1 - b',m.2 - b'))).map (jC b')=ns:=by
  rw [List.map_map]
  conv=>rhs;rw [<-List.map_id ns]
  refine List.map_congr_left fun m hm=>?_
  have:=h6.mem m hm
  show(b' + (m.1 - b'),b' + (m.2 - b'))=m
  exact Prod.ext (by show b' + (m.1 - b')=m.1;omega) (by show b' + (m.2 - b')=m.2;omega)
 have su:=uH (S:=sl T b' e') hA hC
 rw [cut,lA,lS] at su
 have U:iQ (words (sl T b' e')) 0 ((sl T b' e').length:Nat) ((ns.map (fun m=>(m.1 - b',m.2 - b'))).map zP)=true:=by
  have q:=su.pc (b:=0) (e:=((e' - b':Nat):Int)) (ms:=(ns.map (fun m=>(m.1 - b',m.2 - b'))).map zP) ⟨Int.le_refl 0,by omega,by omega,Int.le_refl _⟩ (fun m hm=>by
   obtain⟨z,hz,rfl⟩:=List.mem_map.mp hm
   obtain⟨v,hv,rfl⟩:=List.mem_map.mp hz
   have:=h6.mem v hv
   exact⟨by show(0:Int)<=((v.1 - b':Nat):Int);omega,by show((v.1 - b':Nat):Int)<=_;omega,by show(0:Int)<=((v.2 - b':Nat):Int);omega,by show((v.2 - b':Nat):Int)<=_;omega⟩)
  rw [tM,aa,Int.add_zero,show(b':Int) + ((e' - b':Nat):Int)=(e':Int) by omega] at q
  rw [lS,<-q]
  exact h
 obtain⟨_,⟨j2,J,t4⟩,t3⟩:=ub hA hC U
 rw [cut,lA,lS,show b' + (e' - b')=e' by omega] at J t3
 rw [cut] at t4
 rw [aa] at t3
 rw [h1] at J
 have ei:i=(words (T.take b')).length:=by injection J with J;injection J
 have ej:j=j2:=by injection J with J;injection J
 rw [<-lS] at t3
 obtain⟨c0,c1,q,hq⟩:=qA U
 obtain⟨_,_,⟨c,r,w1,w2⟩,⟨r',c',w3,w4⟩⟩:=ym hq
 have hd:=HP (q:=(sl T b' e').length) w1 w2 c1
 have lt:=zU w3 w4 c0 (.inl c1)
 have ea:sA (iV T b' e' ns)=decide (0 < i):=by rw [t3,ei];exact C9 hd
 have eb:eB (iV T b' e' ns)=decide (j + 1 < (words T).length):=by
  rw [t3,Gj lt]
  exact decide_eq_decide.mpr (by omega)
 have key:=yc (L:=iV T b' e' ns) (S:=sl T b' e') (vA (by
   rw [ea,eb]
   have e3:decide (j + 1 < (words T).length)=decide (0 < (words (T.drop e')).length):=decide_eq_decide.mpr (by omega)
   rw [e3,ei]
   exact t3)) (List.all_eq_true.mpr fun c hc=>List.all_eq_true.mp hT c (by
    unfold sl at hc
    exact List.mem_of_mem_drop (List.mem_of_mem_take hc))) U (by
   rw [ea,eb,lS]
   have a1:q4 (decide (0 < i)) 2<=b':=by
    by_cases z:0 < i
    ·rw [decide_eq_true z]
     obtain⟨v,hv⟩:∃ v,v∈words (T.take b'):=by
      cases hw:words (T.take b') with
      | nil=>rw [ei,hw] at z;cases z
      | cons v _=>exact⟨v,List.mem_cons_self⟩
     have g:=lU _ v hv
     have:=g.len
     have n0:v.1.length≠0:=fun e=>g.ne (List.eq_nil_of_length_eq_zero e)
     have:=(su.ha v hv).2
     show 2<=b'
     omega
    ·rw [decide_eq_false z]
     exact Nat.zero_le _
   have a2:q4 (decide (j + 1 < (words T).length)) 2<=T.length - e':=by
    by_cases z:j + 1 < (words T).length
    ·rw [decide_eq_true z]
     obtain⟨v,hv⟩:∃ v,v∈words (T.drop e'):=by
      cases hw:words (T.drop e') with
      | nil=>rw [hw] at t4;have:([]:List Wd).length=0:=rfl;omega
      | cons v _=>exact⟨v,List.mem_cons_self⟩
     have g:=lU _ v hv
     have gl:=g.len
     have af:=g.le
     rw [List.length_map,List.length_drop] at af
     have n0:v.1.length≠0:=fun e=>g.ne (List.eq_nil_of_length_eq_zero e)
     have hh:=(su.hc _ (List.mem_map.mpr ⟨v,hv,rfl⟩)).1
     have:b' + (e' - b') < v.2.1 + (T.take b'++sl T b' e').length:=hh
     rw [List.length_append,lA,lS] at this
     show 2<=T.length - e'
     omega
    ·rw [decide_eq_false z]
     exact Nat.zero_le _
   omega)
 rw [ea,eb] at key
 exact key
end SH
namespace DT
open PySem
noncomputable def IR(M:Model)(Γ:Ctx)(p:Pos)(t:Sem Fin)(fs:List Frame)(s:Shared)(e:End)(s':Shared):Prop:=
 match fs with
 | []=>match t with
  | .pure (.done f)=>e= .ret (.ok f)/\s'=s
  | .pure (.again c)=>Runs M (Γ.goto c) p (M.den c) [] s e s'
  | .raise x=>e= .ret (.error x)/\s'=s
  | .rule _ k=>Runs M Γ p (k ()) [] s e s'
  | .at p' k=>Runs M Γ p' (k ()) [] s e s'
  | .load a _ k=>∃ o,s.heap.get? a=some o/\Runs M Γ p (k o) [] s e s'
  | .update a _ f k=>Runs M Γ p (k ()) [] {s with heap:=s.heap.update a f} e s'
  | .loadIfAlive a k=>Runs M Γ p (k (s.heap.get? a)) [] s e s'
  | .point _ k=>Runs M Γ p (k ()) [] s e s'
  | .alloc o k=>Runs M Γ p (k s.heap.objs.size) [] {s with heap:=s.heap.push o} e s'
  | .fresh k=>Runs M Γ p (k s.toks) [] {s with toks:=s.toks + 1} e s'
  | .ask k=>Runs M Γ p (k {program:=M.prog,params:=M.w.params}) [] s e s'
  | .choose src n k=>Runs M Γ p (k (M.w.draws src (s.drawn.get src) % n)) [] {s with drawn:=s.drawn.bump src} e s'
  | .os q _ k=>Runs M Γ p (k (Os.step s.os q).2) [] {s with os:=(Os.step s.os q).1} e s'
  | .handled own k=>Runs M Γ p (k (if own=true then Γ.own else Γ.handled)) [] s e s'
  | .genState g k=>∃ st,s.gens[g]? =some st/\Runs M Γ p (k st.seen) [] s e s'
  | .stack k=>Runs M Γ p (k ((Γ.code,p)::Γ.below)) [] s e s'
  | .thread k=>Runs M Γ p (k 0) [] s e s'
  | .newGen c k=>Runs M Γ p (k s.gens.size) [] {s with gens:=s.gens.push (.fresh c)} e s'
  | .call c h g l k=>∃ e1 J,Runs M (Γ.enter c h p) p (M.den c) [] s e1 J/\match e1 with
   | .ret r=>Runs M Γ p (k r) [] J e s'
   | .susp v aa ae af c₀ ag fs=>e= .susp v aa ae af c₀ ag (fs++[Frame.ret k h g l Γ.code p []])/\s'=J
  | .yield v g l k=>e= .susp v g l k Γ.code p []/\s'=s
  | .resume g r _ k=>∃ res J,Wakes M Γ p g r s res J/\Runs M Γ p (k res) [] J e s'
  | _=>False
 | F::fs=>∃ e1 J,Runs M (Γ.over (F::fs)) p t [] s e1 J/\match e1 with
  | .ret r=>(match F with
   | .ret k _ _ _ c₁ U _=>Runs M (Γ.goto c₁) U (k r) fs J e s'
   | .gen g k _ c₁ U=>Runs M (Γ.goto c₁) U (k (End.result (.ret r))) fs (J.setGen g .finished) e s')
  | .susp v aa ae af c₀ ag ah=>(match splitAtGen (F::fs) with
   | none=>e= .susp v aa ae af c₀ ag (ah++F::fs)/\s'=J
   | some (pre,(g,k,c₁,U),rest)=>Runs M (Γ.goto c₁) U (k (.yielded v)) rest (J.setGen g (End.genState (.susp v aa ae af c₀ ag (ah++pre)))) e s')
theorem jh{M:Model}{Γ:Ctx}{p:Pos}{t:Sem Fin}{fs:List Frame}{s:Shared}{e:End}{s':Shared}(h:Runs M Γ p t fs s e s'):IR M Γ p t fs s e s':=by
 cases h with
 | done=>exact⟨rfl,rfl⟩
 | raise=>exact⟨rfl,rfl⟩
 | again _ h=>exact h
 | rule h=>exact h
 | «at» h=>exact h
 | load J h=>exact⟨_,J,h⟩
 | update _ h=>exact h
 | loadIfAlive h=>exact h
 | point h=>exact h
 | alloc h=>exact h
 | fresh h=>exact h
 | ask h=>exact h
 | choose _ h=>exact h
 | os h=>exact h
 | handled h=>exact h
 | genState J h=>exact⟨_,J,h⟩
 | stack h=>exact h
 | thread h=>exact h
 | newGen h=>exact h
 | call a b=>exact⟨_,_,a,b⟩
 | callSusp a=>exact⟨_,_,a,rfl,rfl⟩
 | yield=>exact⟨rfl,rfl⟩
 | resumeFresh g a q b=>exact⟨_,_,by unfold Wakes;rw [g];exact⟨_,_,a,q,rfl,rfl⟩,b⟩
 | resumeSuspended g a q b=>exact⟨_,_,by unfold Wakes;rw [g];exact⟨_,_,a,q,rfl,rfl⟩,b⟩
 | @resumeJustStarted _ v _ _ _ _ _ _ _ _ g hn b=>exact⟨.justStarted,s,by unfold Wakes;rw [g];cases v<;>first | exact absurd rfl hn | exact⟨rfl,rfl⟩,b⟩
 | resumeThrowFresh g b=>exact⟨_,_,by unfold Wakes;rw [g];exact⟨rfl,rfl⟩,b⟩
 | resumeRunning g b=>exact⟨_,_,by unfold Wakes;rw [g];exact⟨rfl,rfl⟩,b⟩
 | resumeFinished g b=>exact⟨_,_,by unfold Wakes;rw [g];exact⟨rfl,rfl⟩,b⟩
 | segRet a b=>exact⟨_,_,a,b⟩
 | segGen a b=>exact⟨_,_,a,b⟩
 | segSuspOut hn a=>exact⟨_,_,a,by dsimp only;rw [hn];exact⟨rfl,rfl⟩⟩
 | segSuspGen hn a _ b=>exact⟨_,_,a,by dsimp only;rw [hn];exact b⟩
theorem uo{M:Model}{Γ:Ctx}{p:Pos}{t:Sem Fin}{fs:List Frame}{s:Shared}{e:End}{s':Shared}(h:Runs M Γ p t fs s e s'):∀{e2:End} {s2:Shared},Runs M Γ p t fs s e2 s2->e=e2/\s'=s2:=by
 induction h with
 | done=>intro e2 s2 h2;obtain⟨rfl,rfl⟩:=jh h2;exact⟨rfl,rfl⟩
 | raise=>intro e2 s2 h2;obtain⟨rfl,rfl⟩:=jh h2;exact⟨rfl,rfl⟩
 | again _ _ J=>intro e2 s2 h2;exact J (jh h2)
 | rule _ J=>intro e2 s2 h2;exact J (jh h2)
 | «at» _ J=>intro e2 s2 h2;exact J (jh h2)
 | load ho _ J=>
  intro e2 s2 h2
  obtain⟨o,ae,h⟩:=jh h2
  rw [ho] at ae;cases ae;exact J h
 | update _ _ J=>intro e2 s2 h2;exact J (jh h2)
 | loadIfAlive _ J=>intro e2 s2 h2;exact J (jh h2)
 | point _ J=>intro e2 s2 h2;exact J (jh h2)
 | alloc _ J=>intro e2 s2 h2;exact J (jh h2)
 | fresh _ J=>intro e2 s2 h2;exact J (jh h2)
 | ask _ J=>intro e2 s2 h2;exact J (jh h2)
 | choose _ _ J=>intro e2 s2 h2;exact J (jh h2)
 | os _ J=>intro e2 s2 h2;exact J (jh h2)
 | handled _ J=>intro e2 s2 h2;exact J (jh h2)
 | genState ho _ J=>
  intro e2 s2 h2
  obtain⟨o,ae,h⟩:=jh h2
  rw [ho] at ae;cases ae;exact J h
 | stack _ J=>intro e2 s2 h2;exact J (jh h2)
 | thread _ J=>intro e2 s2 h2;exact J (jh h2)
 | newGen _ J=>intro e2 s2 h2;exact J (jh h2)
 | call _ _ U aa=>
  intro e2 s2 h2
  obtain⟨e1,s1,a,b⟩:=jh h2
  obtain⟨q1,q2⟩:=U a
  subst q1 q2
  exact aa b
 | callSusp _ J=>
  intro e2 s2 h2
  obtain⟨e1,s1,a,b⟩:=jh h2
  obtain⟨q1,q2⟩:=J a
  subst q1 q2
  exact⟨b.1.symm,b.2.symm⟩
 | yield=>intro e2 s2 h2;obtain⟨rfl,rfl⟩:=jh h2;exact⟨rfl,rfl⟩
 | resumeFresh g1 _ _ _ U aa=>
  intro e2 s2 h2
  obtain⟨res,s1,a,b⟩:=jh h2
  unfold Wakes at a
  rw [g1] at a
  obtain⟨e1,s3,a1,_,rfl,rfl⟩:=a
  obtain⟨q1,q2⟩:=U a1
  subst q1 q2
  exact aa b
 | resumeSuspended g1 _ _ _ U aa=>
  intro e2 s2 h2
  obtain⟨res,s1,a,b⟩:=jh h2
  unfold Wakes at a
  rw [g1] at a
  obtain⟨e1,s3,a1,_,rfl,rfl⟩:=a
  obtain⟨q1,q2⟩:=U a1
  subst q1 q2
  exact aa b
 | @resumeJustStarted _ v _ _ _ s0 _ _ _ _ g1 hn _ J=>
  intro e2 s2 h2
  obtain⟨res,s1,a,b⟩:=jh h2
  unfold Wakes at a
  rw [g1] at a
  have a':res= .justStarted/\s1=s0:=by cases v<;>first | exact absurd rfl hn | exact a
  obtain⟨rfl,rfl⟩:=a'
  exact J b
 | resumeThrowFresh g1 _ J=>
  intro e2 s2 h2
  obtain⟨res,s1,a,b⟩:=jh h2
  unfold Wakes at a
  rw [g1] at a
  obtain⟨rfl,rfl⟩:=a
  exact J b
 | resumeRunning g1 _ J=>
  intro e2 s2 h2
  obtain⟨res,s1,a,b⟩:=jh h2
  unfold Wakes at a
  rw [g1] at a
  obtain⟨rfl,rfl⟩:=a
  exact J b
 | resumeFinished g1 _ J=>
  intro e2 s2 h2
  obtain⟨res,s1,a,b⟩:=jh h2
  unfold Wakes at a
  rw [g1] at a
  obtain⟨rfl,rfl⟩:=a
  exact J b
 | segRet _ _ U aa=>
  intro e2 s2 h2
  obtain⟨e1,s1,a,b⟩:=jh h2
  obtain⟨q1,q2⟩:=U a
  subst q1 q2
  exact aa b
 | segGen _ _ U aa=>
  intro e2 s2 h2
  obtain⟨e1,s1,a,b⟩:=jh h2
  obtain⟨q1,q2⟩:=U a
  subst q1 q2
  exact aa b
 | segSuspOut hn _ J=>
  intro e2 s2 h2
  obtain⟨e1,s1,a,b⟩:=jh h2
  obtain⟨q1,q2⟩:=J a
  subst q1 q2
  dsimp only at b
  rw [hn] at b
  exact⟨b.1.symm,b.2.symm⟩
 | segSuspGen hn _ _ _ U aa=>
  intro e2 s2 h2
  obtain⟨e1,s1,a,b⟩:=jh h2
  obtain⟨q1,q2⟩:=U a
  subst q1 q2
  dsimp only at b
  rw [hn] at b
  exact aa b
theorem FL {M : Model} {Γ : Ctx} {p : Pos} {g : Nat} {r : Resume} {s s' s2 : Shared} {x y : GenResult} (h : Wakes M Γ p g r s x s') (h2 : Wakes M Γ p g r s y s2) : x = y /\ s' = s2 := by
 unfold Wakes at h h2
 cases hg : s.gens[g]? with
 | none => rw [hg] at h; exact h.elim
 | some st =>
  rw [hg] at h h2
  cases st with
  | fresh c =>
   cases r with
   | send v =>
    cases v
    all_goals first
     | (obtain ⟨e1, t1, a1, a2, J, U⟩ := h
        obtain ⟨e2, t2, b1, b2, b3, b4⟩ := h2
        obtain ⟨q1, q2⟩ := uo a1 b1
        subst q1 q2
        exact ⟨J.trans b3.symm, U.trans b4.symm⟩)
     | exact ⟨h.1.trans h2.1.symm, h.2.trans h2.2.symm⟩
   | throw z => exact ⟨h.1.trans h2.1.symm, h.2.trans h2.2.symm⟩
  | suspended k0 l0 c0 p0 fs cl =>
   obtain ⟨e1, t1, a1, a2, J, U⟩ := h
   obtain ⟨e2, t2, b1, b2, b3, b4⟩ := h2
   obtain ⟨q1, q2⟩ := uo a1 b1
   subst q1 q2
   exact ⟨J.trans b3.symm, U.trans b4.symm⟩
  | running => exact ⟨h.1.trans h2.1.symm, h.2.trans h2.2.symm⟩
  | finished => exact ⟨h.1.trans h2.1.symm, h.2.trans h2.2.symm⟩
theorem Gz{α:Type}{M:Model}{Γ:Ctx}(t:Sem α):∀{Q Q':α->Pos->Shared->Prop} {E E':Value->Pos->Shared->Prop} {p:Pos} {s:Shared},Sem.wp M Γ t Q E p s->Sem.wp M Γ t Q' E' p s->Sem.wp M Γ t (fun a p s=>Q a p s/\Q' a p s) (fun a p s=>E a p s/\E' a p s) p s:=by
 induction t with
 | pure a=>intro Q Q' E E' p s h h';exact⟨h,h'⟩
 | raise e=>intro Q Q' E E' p s h h';exact⟨h,h'⟩
 | unsupported _=>intro Q Q' E E' p s h h';exact h
 | finish _=>intro Q Q' E E' p s h h';exact h
 | rule _ k J=>intro Q Q' E E' p s h h';exact J () h h'
 | «at» _ k J=>intro Q Q' E E' p s h h';exact J () h h'
 | load a _ k J=>
  intro Q Q' E E' p s h h'
  obtain⟨o,e,h⟩:=h
  obtain⟨o',U,h'⟩:=h'
  rw [e] at U;cases U
  exact⟨o,e,J o h h'⟩
 | update a _ f k J=>intro Q Q' E E' p s h h';exact⟨h.1,J () h.2 h'.2⟩
 | loadIfAlive a k J=>intro Q Q' E E' p s h h';exact J _ h h'
 | point _ k J=>intro Q Q' E E' p s h h';exact J () h h'
 | register _ _ _=>intro Q Q' E E' p s h h';exact h
 | alloc o k J=>intro Q Q' E E' p s h h';exact J _ h h'
 | fresh k J=>intro Q Q' E E' p s h h';exact J _ h h'
 | ask k J=>intro Q Q' E E' p s h h';exact J _ h h'
 | choose src n k J=>intro Q Q' E E' p s h h';exact⟨h.1,J _ h.2 h'.2⟩
 | os q _ k J=>intro Q Q' E E' p s h h';exact J _ h h'
 | call c hh _ _ k J=>
  intro Q Q' E E' p s h h'
  obtain⟨r,s1,a,b⟩:=h
  obtain⟨r2,s2,a2,b2⟩:=h'
  obtain⟨q1,q2⟩:=uo a a2
  cases q1;cases q2
  exact⟨r,s1,a,J r b b2⟩
 | handled own k J=>intro Q Q' E E' p s h h';exact J _ h h'
 | genState g k J=>
  intro Q Q' E E' p s h h'
  obtain⟨o,e,h⟩:=h
  obtain⟨o',U,h'⟩:=h'
  rw [e] at U;cases U
  exact⟨o,e,J _ h h'⟩
 | newGen c k J=>intro Q Q' E E' p s h h';exact J _ h h'
 | resume g r _ k J=>
  intro Q Q' E E' p s h h'
  obtain⟨r1,s1,a,b⟩:=h
  obtain⟨r2,s2,a2,b2⟩:=h'
  obtain⟨q1,q2⟩:=FL a a2
  cases q1;cases q2
  exact⟨r1,s1,a,J _ b b2⟩
 | yield _ _ _ _ _=>intro Q Q' E E' p s h h';exact h
 | stack k J=>intro Q Q' E E' p s h h';exact J _ h h'
 | fork _ _ _=>intro Q Q' E E' p s h h';exact h
 | thread k J=>intro Q Q' E E' p s h h';exact J _ h h'
 | await _ _ _=>intro Q Q' E E' p s h h';exact h
theorem oi{α:Type}{M:Model}{A:Around}{t:Sem α}{Q Q':α->Shared->Prop}{E E':Value->Shared->Prop}{s:Shared}(h:wpAny M A t Q E s)(h':wpAny M A t Q' E' s):wpAny M A t (fun a s=>Q a s/\Q' a s) (fun a s=>E a s/\E' a s) s:=
 fun U p J=>Gz t (h U p J) (h' U p J)
end DT
namespace L2
open PySem PySem.Spec PyProof.Rows DT
noncomputable def Fc(e:Addr)(h:Heap):Prop:=∃ J vs,h.get? e=some J/\J.data= .fields vs/\vs[2]? =some Value.none
noncomputable def Fe(e:Addr)(h:Heap):Prop:=∃ J vs T U ts,h.get? e=some J/\J.data= .fields vs/\vs[2]? =some Value.none/\vs[1]? =some (.ref T)/\T≠e/\h.get? T=some U/\U.data= .fields ts/\3 < ts.size
theorem Fe.fc {e:Addr}{h:Heap}(x:Fe e h):Fc e h:=by
 obtain⟨J,vs,T,U,ts,a,b,c,_⟩:=x
 exact⟨J,vs,a,b,c⟩
section
variable {M : Model} {A : Around} {E : Value -> Shared -> Prop} {s : Shared}
theorem zm{base:Heap}{env:Env}{outer:List Env}{L e:Addr}{oe:Obj}{vs:Array Value}{head:Value}{nx:Bool}(hA:A.frames=some (env::outer))(ff:s.heap.FunFrames base (env::outer))(hf:env.frame=some L)
  (he:s.heap.get? e=some oe)(hd:oe.data= .fields vs)(hs:1 < vs.size)(h2:vs[2]? =some Value.none):
  wpAny M A (do let a<-frameOf env;let pl<-entryPlaceOf L nx;let b<-EntryCells.newEntry head a .none (rawInt L) .none pl;setField (.ref e) 1 b) (fun _ s'=>Fe e s'.heap) E s:=by
 have ne:e∉(env::outer).filterMap (·.frame):=fun z=>by
  obtain⟨_,o,ho,nf⟩:=ff.mem z
  rw [he] at ho
  cases ho
  exact nf vs hd
 refine wpAny_bind (wpAny_frameOf_fun hA ff hf fun g sg=>?_)
 refine wpAny_bind (wpAny_entryPlaceOf fun pl U=>?_)
 unfold EntryCells.newEntry newFields
 refine wpAny_bind (wpAny_newObj_type ?_ (U.sizeOk5 _ _ _ _ _))
 have ge:g.get? e=some oe:=(sg.2.1 e ne).trans he
 generalize hT:({cls:= .type "traceback",dict:=none,data:= .fields ([head,.ref L,.none,rawInt L,.none]++(if pl.isEmpty then List.replicate 6 Value.none else pl)).toArray}:Obj)=oT
 have pe:=Heap.get?_push_of_some (h:=g) oT ge
 refine wpAny_setField pe hd hs ?_
 have nT:g.objs.size≠e:=Nat.ne_of_gt (Heap.lt_size ge)
 have d3:=Obj.data_mapFields hd (·.setIfInBounds 1 (Value.ref g.objs.size))
 have J:oT.data= .fields ([head,.ref L,.none,rawInt L,.none]++(if pl.isEmpty then List.replicate 6 Value.none else pl)).toArray:=by rw [<-hT]
 refine⟨_,_,g.objs.size,oT,_,Heap.get?_update_self _ pe (Obj.isFreed_of_fields d3),d3,?_,?_,nT,?_,J,?_⟩
 ·rw [Array.getElem?_setIfInBounds_ne (by decide)]
  exact h2
 ·simp [hs]
 ·rw [Heap.get?_update_other _ _ (Ne.symm nT)]
  exact Heap.get?_push_size g (Obj.isFreed_of_fields J)
 ·simp
theorem ve{e:Addr}(h:Fe e s.heap):wpAny M A (setFlight (.ref e) none) (fun _ s'=>Fe e s'.heap) E s:=by
 obtain⟨oe,vs,T,oT,ts,he,hd,h2,h1,J,U,dT,h3⟩:=h
 unfold setFlight
 refine wpAny_bind (wpAny_field he hd h1 ?_)
 rw [if_pos (by simp)]
 refine wpAny_setField U dT h3 ?_
 have d3:=Obj.data_mapFields dT (·.setIfInBounds 3 ((none:Option Addr).elim Value.none fun f=>rawInt f))
 refine⟨oe,vs,T,_,_,?_,hd,h2,h1,J,Heap.get?_update_self _ U (Obj.isFreed_of_fields d3),d3,by simpa using h3⟩
 rw [Heap.get?_update_other _ _ J]
 exact he
theorem GH{base:Heap}{env:Env}{outer:List Env}{L e:Addr}{oe:Obj}{vs:Array Value}(hA:A.frames=some (env::outer))(ff:s.heap.FunFrames base (env::outer))(hf:env.frame=some L)
  (he:s.heap.get? e=some oe)(hd:oe.data= .fields vs)(h1:vs[1]? =some Value.none)(h2:vs[2]? =some Value.none):wpAny M A (noteFrame (.ref e) env) (fun _ s'=>Fe e s'.heap) E s:=by
 unfold noteFrame
 simp only [hf]
 refine wpAny_bind (wpAny_field he hd h1 ?_)
 rw [if_neg (by decide)]
 exact zm hA ff hf he hd (Array.getElem?_eq_some_iff.mp h1).1 h2
theorem BH{base:Heap}{env:Env}{outer:List Env}{L e T:Addr}{oe oT:Obj}{vs ts:Array Value}(hA:A.frames=some (env::outer))(ff:s.heap.FunFrames base (env::outer))(hf:env.frame=some L)
  (he:s.heap.get? e=some oe)(hd:oe.data= .fields vs)(h1:vs[1]? =some (.ref T))(h2:vs[2]? =some Value.none)(nT:T≠e)(hT:s.heap.get? T=some oT)(dT:oT.data= .fields ts)(h3:ts[3]? =some Value.none):
  wpAny M A (noteFrame (.ref e) env) (fun _ s'=>Fe e s'.heap) E s:=by
 unfold noteFrame
 simp only [hf]
 refine wpAny_bind (wpAny_field he hd h1 ?_)
 rw [if_pos (by simp)]
 refine wpAny_bind (wpAny_field hT dT h3 ?_)
 rw [if_neg (by simp [rawInt])]
 refine wpAny_bind (wpAny_setField hT dT (Array.getElem?_eq_some_iff.mp h3).1 ?_)
 have J:∀ b,b≠T->(s.heap.update T (Obj.mapFields (·.setIfInBounds 3 Value.none))).get? b=s.heap.get? b:=fun b hb=>Heap.get?_update_other _ _ (Ne.symm hb)
 refine zm (s:={s with heap:=s.heap.update T (Obj.mapFields (·.setIfInBounds 3 Value.none))}) hA (ff.of_keeps fun b o hb U=>⟨o,(J b fun z=>?_).trans hb,rfl⟩) hf ((J e (Ne.symm nT)).trans he) hd (Array.getElem?_eq_some_iff.mp h1).1 h2
 rw [z,hT] at hb
 cases hb
 exact U ts dT
noncomputable def lH(base:Heap)(l:List Env)(e:Addr)(cls a0:Value)(h:Heap):Prop:=Heap.FlyingW base l e cls a0 h/\Fc e h
theorem zF{base:Heap}{env:Env}{outer:List Env}{L e:Addr}{cls a0:Value}{Q:Unit->Shared->Prop}(hA:A.frames=some (env::outer))(hf:env.frame=some L)(fl:lH base (env::outer) e cls a0 s.heap)
  (hQ:∀ h',Heap.HeldW base (env::outer) e cls a0 L h'->Fe e h'->s.heap.UpToSlots h'->Q () {s with heap:=h'}):wpAny M A (noteFrame (.ref e) env) Q E s:=by
 obtain⟨fl,fc⟩:=fl
 have a:=wpAny_looks_onW (M:=M) (E:=E) (Q:=fun _ s'=>∃ h',Heap.HeldW base (env::outer) e cls a0 L h'/\s.heap.UpToSlots h'/\s'={s with heap:=h'}) hA hf fl fun h' p q=>⟨h',p,q,rfl⟩
 obtain⟨_,_,ff,oe,vs,T,oT,ts,he,_,hd,h1,_,nT,hT,dT,h3⟩:=fl
 obtain⟨aa,ae,J,U,h2⟩:=fc
 rw [he] at J
 cases J
 rw [hd] at U
 cases U
 have b:=BH (M:=M) (E:=E) hA ff hf he hd h1 h2 nT hT dT h3
 refine wpAny_mono (oi a b) (fun _ s' ⟨⟨h',p,q,e⟩,z⟩=>?_) fun _ _ z=>z.1
 subst e
 exact hQ h' p z q
theorem FG{base:Heap}{l:List Env}{e L:Addr}{cls a0:Value}{Q:Unit->Shared->Prop}(hh:Heap.HeldW base l e cls a0 L s.heap)(fe:Fe e s.heap)
  (hQ:∀ h',lH base l e cls a0 h'->s.heap.UpToSlots h'->Q () {s with heap:=h'}):wpAny M A (setFlight (.ref e) none) Q E s:=by
 have a:=wpAny_landsW (M:=M) (A:=A) (E:=E) (Q:=fun _ s'=>∃ h',Heap.FlyingW base l e cls a0 h'/\s.heap.UpToSlots h'/\s'={s with heap:=h'}) hh fun h' p q=>⟨h',p,q,rfl⟩
 refine wpAny_mono (oi a (ve (M:=M) (A:=A) (E:=E) fe)) (fun _ s' ⟨⟨h',p,q,e⟩,z⟩=>?_) fun _ _ z=>z.1
 subst e
 exact hQ h' ⟨p,z.fc⟩ q
theorem Fm{base:Heap}{env:Env}{outer:List Env}{L e:Addr}{cls a0:Value}{Q:Unit->Shared->Prop}(hA:A.frames=some (env::outer))(hf:env.frame=some L)(fl:lH base (env::outer) e cls a0 s.heap)
  (hQ:∀ h',lH base outer e cls a0 h'->s.heap.UpToSlots h'->Q () {s with heap:=h'}):wpAny M A (leaving env (.ref e)) Q E s:=by
 have a:=wpAny_leaves_onW (M:=M) (E:=E) (Q:=fun _ s'=>∃ h',Heap.FlyingW base outer e cls a0 h'/\s.heap.UpToSlots h'/\s'={s with heap:=h'}) hA hf fl.1 fun h' p q=>⟨h',p,q,rfl⟩
 have b:wpAny M A (leaving env (.ref e)) (fun _ s'=>Fe e s'.heap) E s:=by
  unfold leaving
  refine wpAny_bind (zF hA hf fl fun h' p q _=>?_)
  exact ve q
 refine wpAny_mono (oi a b) (fun _ s' ⟨⟨h',p,q,e⟩,z⟩=>?_) fun _ _ z=>z.1
 subst e
 exact hQ h' ⟨p,z.fc⟩ q
end
section
variable {prog : Program} {w : World} {A : Around} {E : Value -> Shared -> Prop} {env : Env}
variable {nm q : Str} {C N : Addr} {bs bm : List Value} {hdct : Bool} {sn : List Str} {sub : List Value} {ab : Bool} {col : Option Bool} {dd : Option Addr} {k0 k1 k2 k3 k5 : Option Value} {newId : String}
theorem A7:entryFor table "proto.unchain"=some Builtin.«proto.unchain»:=entryFor_of_fast (by kernel_rfl)
theorem C4{s:Shared}{x c:Sem Value}{ea:Addr}{Q:Flow->Shared->Prop}(hbase:bm.contains (.type "BaseException")=true)(hh:A.handled=some (.ref ea))
  (hc:∀ s₁ R,R Value.none s₁->wpAny (model prog w) A c R E s₁)
  (h:wpAny (model prog w) A x (fun v s₁=>∃ e t,v= .ref e/\s₁.heap.get? C=some (excClassObj nm q C N bs bm hdct sn sub ab col dd k0 k1 k2 k3 k5 newId)/\
   s₁.heap.get? e=some {cls:= .ref C,data:= .fields #[.ref t,.none,.none,.none,.bool false,.none]}/\Fc ea s₁.heap/\e≠ea/\
   ∀ h',(∀ b,b≠e->h'.get? b=s₁.heap.get? b)->h'.get? e=some {cls:= .ref C,data:= .fields #[.ref t,.none,.ref ea,.none,.bool true,.none]}->E (.ref e) {s₁ with heap:=h'}) E s):
  wpAny (model prog w) A (raiseStmt env (some x) (some c)) Q E s:=by
 have ah:(Value.ref C::bm).contains (.type "BaseException")=true:=by rw [List.contains_cons,hbase,Bool.or_true]
 unfold raiseStmt
 refine wpAny_bind (wpAny_mono h (fun v s₁ ae=>?_) fun _ _ x=>x)
 obtain⟨e,t,rfl,hC,he,fc,ne,hE⟩:=ae
 refine wpAny_bind (wpAny_holding (hc s₁ _ (wpAny_bind (wpAny_pure ?_))))
 obtain⟨hp,g,d,tk,os⟩:=s₁
 repeat (first | with_reducible refine wpAny_loadPart_at he ?_ | with_reducible refine wpAny_loadPart_at hC ?_ | (with_reducible refine wpAny_isSubtype_exc hC ?_;rw [ah]) | wp_step)
 have af:hp.get? e=some {cls:= .ref C,data:= .fields #[.ref t,.none,.none,.none,.bool false,.none]}:=he
 have aa:hp.get? C=some (excClassObj nm q C N bs bm hdct sn sub ab col dd k0 k1 k2 k3 k5 newId):=hC
 have nC:C≠e:=fun z=>by
  rw [z,af] at aa
  exact absurd (congrArg Obj.data (Option.some.inj aa)) (by intro q;cases q)
 have J:∀ b,b≠e->((hp.update e (Obj.mapFields fun x=>x.setIfInBounds 3 Value.none)).update e (Obj.mapFields fun x=>x.setIfInBounds 4 (Value.bool true))).get? b=hp.get? b:=fun b hb=>by
  rw [Heap.get?_update_other _ _ (Ne.symm hb),Heap.get?_update_other _ _ (Ne.symm hb)]
 have U:((hp.update e (Obj.mapFields fun x=>x.setIfInBounds 3 Value.none)).update e (Obj.mapFields fun x=>x.setIfInBounds 4 (Value.bool true))).get? e=some {cls:= .ref C,data:= .fields #[.ref t,.none,.none,.none,.bool true,.none]}:=by
  rw [Heap.get?_update_self _ (Heap.get?_update_self _ af rfl) rfl]
  rfl
 have ag:=(J C nC).trans aa
 generalize (hp.update e (Obj.mapFields fun x=>x.setIfInBounds 3 Value.none)).update e (Obj.mapFields fun x=>x.setIfInBounds 4 (Value.bool true))=h2 at J U ag ⊢
 refine wpAny_loadPart_at ag ?_
 refine wpAny_pure ?_
 show wpAny (model prog w) A (pure (Value.ref e)) _ E _
 refine wpAny_pure ?_
 show wpAny (model prog w) A (do setFlight (.ref e) none;raiseNew (.ref e)) Q E _
 have fl:∀ R,R () (⟨h2,g,d,tk,os⟩:Shared)->wpAny (model prog w) A (setFlight (.ref e) none) R E ⟨h2,g,d,tk,os⟩:=fun R r=>by
  unfold setFlight
  refine wpAny_bind (wpAny_field (vs:=#[.ref t,.none,.none,.none,.bool true,.none]) U rfl (x:=Value.none) rfl ?_)
  rw [if_neg (by decide)]
  exact wpAny_pure r
 refine wpAny_bind (fl _ ?_)
 unfold raiseNew
 refine wpAny_bind (wpAny_handled ?_)
 rw [hh]
 show wpAny (model prog w) A (if (Value.ref ea != Value.ref e)=true then (do
    let _<-holding [Value.ref e] (runValue (Code.builtin "proto.unchain" {pos:=[Value.ref e,Value.ref ea,Value.ref ea,Value.bool false]}))
    updateField e 2 (Value.ref ea)
    throw (Value.ref e)) else throw (Value.ref e)) Q E _
 rw [if_pos (by simpa using Ne.symm ne)]
 refine wpAny_bind (wpAny_holding (wpAny_runValue (codeAny_builtin A7 ?_)))
 obtain⟨oa,vs,ha,hd,ak⟩:=fc
 have ao:h2.get? ea=some oa:=(J ea (Ne.symm ne)).trans ha
 show wpAny _ _ (Builtin.«proto.unchain» _) _ _ _
 unfold Builtin.«proto.unchain»
 dsimp only
 refine wpAny_bind (wpAny_field ao hd ak ?_)
 rw [if_pos (by rfl)]
 refine wpAny_bind (wpAny_pure ?_)
 refine wpAny_pure ?_
 show wpAny (model prog w) A (do updateField e 2 (Value.ref ea);throw (Value.ref e)) Q E _
 have up:∀ R,R () (⟨h2.update e (Obj.mapFields (·.setIfInBounds 2 (Value.ref ea))),g,d,tk,os⟩:Shared)->wpAny (model prog w) A (updateField e 2 (Value.ref ea)) R E ⟨h2,g,d,tk,os⟩:=fun R r=>by
  have:=wpAny_setField (M:=model prog w) (A:=A) (E:=E) (s:=⟨h2,g,d,tk,os⟩) (i:=2) (x:=Value.ref ea) (vs:=#[.ref t,.none,.none,.none,.bool true,.none]) U rfl (show 2 < 6 by decide) r
  simpa only [setField] using this
 refine wpAny_bind (up _ (wpAny_throw ?_))
 refine hE _ (fun b hb=>?_) ?_
 ·rw [Heap.get?_update_other _ _ (Ne.symm hb)]
  exact J b hb
 ·rw [Heap.get?_update_self _ U rfl]
  rfl
end
open PySem PySem.Spec PyProof.Rows
section
variable {X : Cx}
end
structure KD (P : Program) (w : World) (K : W.Frag) (d : Addr) (kvs : List (Key × V)) : Prop where
 ns : (d == sysModules) = false
 at_ : ∀ h : Heap, K.In h -> ∃ vs, KV kvs vs /\ h.DictOf (j4 P w) d vs
section
variable {X : Cx} {x : Str} {d : Addr} {kvs : List (Key × V)} {e : Expr} {p apos cpos : Pos} {ty : TE}
end
section
variable {X : Cx} {CX : j9} {k : Nat} {ι : Type} {C f : ι -> Addr} {fd : ι -> FuncData} {ps : ι -> List Str} {sp : ι -> Sp} {E : XK} {m : Str} {pos apos : Pos} {e o : Expr} {es : List Expr} {ta : TE} {t : TA}
end
section
variable {X : Cx}
end
end L2
namespace PySem
section
variable {M : Model} {A : Around} {E : Value -> Shared -> Prop} {s : Shared}
end
end PySem
namespace L2
open PySem PySem.Spec PyProof.Rows
section
variable {P : Program} {w : World} {K : PySem.W.Frag} {mg : Str -> Option Value} {base : Heap} {N : List Str} {qual : Str} {scope : Scope} {f : Addr} {cdv : Value} {A : Around} {outer : List Env} {s₀ : Shared} {H₀ : Hp} {E : XK}
end
section
variable {X : Cx} {E : XK}
end
open PySem PySem.Spec PyProof.Rows DT
noncomputable def jy(P:Program)(w:World):j9:=fun outer H s E e s'=>(∃ ea,e= .ref ea/\Fc ea s'.heap)/\iT P w outer H s E e s'
theorem hZ.c1 {P:Program}{w:World}{K:W.Frag}{mg:Str->Option Value}{base:Heap}{k:Nat}{f:Addr}{fd:FuncData}{ps:List Str}{sp:Sp}(F:hZ P w K mg base (jy P w) k f fd ps sp):hZ P w K mg base (iT P w) k f fd ps sp:=
 ⟨F.len,fun A outer s H args us vs Q E J he hb U hs=>codeAny_mono (F.run A outer s H args us vs Q E J he hb U hs) fun r s' h=>by
  cases r with
  | ok f=>cases f<;>exact h
  | error e=>exact h.2⟩
section
variable {P : Program} {w : World} {K : PySem.W.Frag} {mg : Str -> Option Value} {base : Heap} {N : List Str} {qual : Str} {scope : Scope} {f : Addr} {cdv : Value} {A : Around} {outer : List Env} {s₀ : Shared} {H₀ : Hp} {E E' : XK}
theorem mV:Raises (iP (jy P w) P w K mg base N qual scope f cdv A outer s₀ H₀ E) E:=by
 intro pins σ H s h' ea cls args I J U
 have I1:Inv (iP (iT P w) P w K mg base N qual scope f cdv A outer s₀ H₀ E) pins σ H s:=I.wish _
 have a:=rD pins σ H s h' ea cls args I1 J U
 have stk:=I.stack
 have ff:s.heap.FunFrames (iP (jy P w) P w K mg base N qual scope f cdv A outer s₀ H₀ E).base (envOfC qual scope s₀.heap.objs.size f cdv::outer):=stk
 have b:wpAny (model P w) (A.deeper (envOfC qual scope s₀.heap.objs.size f cdv)) (leaving (envOfC qual scope s₀.heap.objs.size f cdv) (.ref ea)) (fun _ s'=>Fc ea s'.heap) (fun e s'=>∃ ea,e= .ref ea/\Fc ea s'.heap) {s with heap:=h'}:=by
  obtain⟨t,he,_,_⟩:=J.there
  unfold leaving
  refine wpAny_bind (wpAny_mono (GH (s:={s with heap:=h'}) I.ok.frames (ff.of_keeps fun b o hb _=>⟨o,J.keeps b o hb,rfl⟩) rfl he rfl rfl rfl) (fun _ s' q=>?_) fun _ _ z=>z)
  exact wpAny_mono (ve q) (fun _ _ z=>z.fc) fun _ _ z=>z
 exact wpAny_mono (oi a b) (fun _ s' z=>⟨⟨ea,rfl,z.2⟩,z.1⟩) fun _ _ z=>⟨z.2,z.1⟩
theorem nv(hE:∀ cls od H',E' cls od H'->E cls od H'):Passes (jy P w) (iP (jy P w) P w K mg base N qual scope f cdv A outer s₀ H₀ E) E':=by
 intro pins σ H s e s' I h
 obtain⟨⟨ea,rfl,fc⟩,h⟩:=h
 have J:Inv (iP (iT P w) P w K mg base N qual scope f cdv A outer s₀ H₀ E) pins σ H s:=I.wish _
 have a:=Cz hE pins σ H s _ s' J h
 obtain⟨U,cls,a0,B,H',e1,os,bare,un,hok,fl,_⟩:=h
 cases e1
 have b:wpAny (model P w) (A.deeper (envOfC qual scope s₀.heap.objs.size f cdv)) (leaving (envOfC qual scope s₀.heap.objs.size f cdv) (.ref ea)) (fun _ s'=>Fc ea s'.heap) (fun e s'=>∃ ea,e= .ref ea/\Fc ea s'.heap) s':=
  Fm I.ok.frames rfl ⟨fl,fc⟩ fun h' z _=>z.2
 exact wpAny_mono (oi a b) (fun _ s' z=>⟨⟨ea,rfl,z.2⟩,z.1⟩) fun _ _ z=>⟨z.2,z.1⟩
end
section
variable {P : Program} {w : World} {K : PySem.W.Frag} {mg : Str -> Option Value} {base : Heap}
theorem kP.ok2 {x qual:Str}{st:Stmt}{f:Addr}{fd:FuncData}{N ps:List Str}{k:Nat}{sp:Sp}(F:kP K x qual st f fd)(S:iU N ps (iu st))(len:∀ vs H Q E,sp vs H Q E->vs.length=ps.length)
  (hbody:∀(cdv:Value) (A:Around) (outer:List Env) (s:Shared) (H:Hp) (vs:List V) (Q:VK) (E:XK),jE k (A.deeper (envOfC qual (iu st) s.heap.objs.size f cdv))->sp vs H Q E->
   ∃ t,iD (iP (jy P w) P w K mg base N qual (iu st) f cdv A outer s H E) (kM st) t/\t {nx:=fun _ H'=>Q .non H',rt:=Q} (start N vs) H):hZ P w K mg base (jy P w) (k + 1) f fd ps sp:=by
 obtain⟨oc,od,kV,doc,pm,an,cdv,ct,aa,rfl,lk,J⟩:=F.ex
 exact tH lk J S len fun A outer s H vs Q E hr U=>hbody cdv A outer s H vs Q E hr U
end
noncomputable def jq(X:Cx)(ea:Addr)(p:List (Addr×Obj)):Cx:={X with A:=X.A.mark (some (.ref ea)),calm:=false,pn:=p}
noncomputable def qR(ea:Addr):HO:= .ext (Fc ea)
noncomputable def yb(X:Cx)(E:XK):Prop:=∀(pins:List (Addr×Obj)) (σ:St) (H:Hp) (s:Shared) (h':Heap) (ea t:Addr) (J:Obj) (vs:Array Value),Inv X pins σ H s->(∀ b o,s.heap.get? b=some o->h'.get? b=some o)->s.heap.get? ea=none->
 h'.get? ea=some J->J.data= .fields vs->vs[0]? =some (.ref t)->vs[1]? =some Value.none->E J.cls none H->X.xe (.ref ea) {s with heap:=h'}
section
variable {P : Program} {w : World} {K : PySem.W.Frag} {mg : Str -> Option Value} {base : Heap} {N : List Str} {qual : Str} {scope : Scope} {f : Addr} {cdv : Value} {A : Around} {outer : List Env} {s₀ : Shared} {H₀ : Hp} {E : XK} {e0 : Addr} {p0 : List (Addr × Obj)}
theorem Fz:yb (jq (iP (iT P w) P w K mg base N qual scope f cdv A outer s₀ H₀ E) e0 p0) E:=by
 intro pins σ H s h' ea t oe vs I hk hn he hd h0 h1 hE
 have stk:=I.stack
 have U:∀ env∈(jq (iP (iT P w) P w K mg base N qual scope f cdv A outer s₀ H₀ E) e0 p0).stack,∀ b,env.frame=some b->b∈iF (jq (iP (iT P w) P w K mg base N qual scope f cdv A outer s₀ H₀ E) e0 p0).stack:=fun env he b hb=>List.mem_filterMap.mpr ⟨env,he,hb⟩
 have J:∀{b:Addr} {o:Obj},s.heap.get? b=some o->b∉iF (jq (iP (iT P w) P w K mg base N qual scope f cdv A outer s₀ H₀ E) e0 p0).stack->(W.hideAll s.heap (iF (jq (iP (iT P w) P w K mg base N qual scope f cdv A outer s₀ H₀ E) e0 p0).stack)).get? b=some o:=fun e hb=>W.hideAll_get _ e hb
 have hL:∀{b:Addr} {o:Obj},s₀.heap.get? b=some o->b∉iF outer->b∉iF (jq (iP (iT P w) P w K mg base N qual scope f cdv A outer s₀ H₀ E) e0 p0).stack:=fun{b o} e hb z=>by
  rcases List.mem_cons.mp (I.stkSub b z) with q | q
  ·have h1:=Heap.lt_size e
   have h2:s₀.heap.objs.size<=(jq (iP (iT P w) P w K mg base N qual scope f cdv A outer s₀ H₀ E) e0 p0).env.locals:=I.ok.above
   rw [q] at h1
   exact Nat.lt_irrefl _ (Nat.lt_of_lt_of_le h1 h2)
  ·exact hb q
 have u0:Un (iF outer) [] H₀ H s₀.heap s.heap:=I.base
 have tr:∀ b u,H b=some u->b∉iF (jq (iP (iT P w) P w K mg base N qual scope f cdv A outer s₀ H₀ E) e0 p0).stack:=fun b u e z=>by rw [I.stkFree b z] at e;cases e
 have k1:∀ b o,s₀.heap.get? b=some o->H₀ b=none->b∉iF outer->(W.hideAll s.heap (iF (jq (iP (iT P w) P w K mg base N qual scope f cdv A outer s₀ H₀ E) e0 p0).stack)).get? b=some o:=fun b o e n hb=>J (u0.keep b o e n hb (by simp)) (hL e hb)
 have k3:∀ b o,s₀.heap.get? b=some o->b∉iF outer->∃ o',(W.hideAll s.heap (iF (jq (iP (iT P w) P w K mg base N qual scope f cdv A outer s₀ H₀ E) e0 p0).stack)).get? b=some o':=fun b o e hb=>by
  obtain⟨o',e'⟩:=u0.there b o e (by simp)
  exact⟨o',J e' (hL e hb)⟩
 have k2:∀ b u,H b=some u->∃ o,(W.hideAll s.heap (iF (jq (iP (iT P w) P w K mg base N qual scope f cdv A outer s₀ H₀ E) e0 p0).stack)).get? b=some o:=fun b u e=>by
  obtain⟨o,eo⟩:=(I.hok b u e).at
  exact⟨o,J eo (tr b u e)⟩
 have st:(W.hideAll s.heap (iF (jq (iP (iT P w) P w K mg base N qual scope f cdv A outer s₀ H₀ E) e0 p0).stack)).StaysIn s.heap:=fun b o q=>W.of_hideAll _ q
 have bn:(W.hideAll s.heap (iF (jq (iP (iT P w) P w K mg base N qual scope f cdv A outer s₀ H₀ E) e0 p0).stack)).get? ea=none:=by
  cases q:(W.hideAll s.heap (iF (jq (iP (iT P w) P w K mg base N qual scope f cdv A outer s₀ H₀ E) e0 p0).stack)).get? ea with
  | none=>rfl
  | some o=>rw [st _ _ q] at hn;cases hn
 have ff:=W.funFrames_hide stk U
 generalize hB:W.hideAll s.heap (iF (jq (iP (iT P w) P w K mg base N qual scope f cdv A outer s₀ H₀ E) e0 p0).stack)=B at k1 k2 k3 st bn ff
 show wpAny (model P w) (A.deeper (envOfC qual scope s₀.heap.objs.size f cdv)) (leaving (envOfC qual scope s₀.heap.objs.size f cdv) (.ref ea)) _ _ _
 refine wpAny_leaving_firstW (s:={s with heap:=h'}) (base:=B) I.ok.frames (ff.of_keeps fun b o hb _=>⟨o,hk b o hb,rfl⟩) rfl he (fun b o q=>hk b o (st b o q)) bn hd h1 h0 fun h2 hl=>?_
 obtain⟨l1,⟨_,_,l2⟩,l3,l4⟩:=hl
 have fl:Heap.FlyingW B outer ea oe.cls (.ref t) h2:=⟨l1,bn,l2,l3⟩
 exact⟨ea,oe.cls,.ref t,B,H,rfl,I.os,I.bare,pB rfl u0 k1 k3 I.funs fl.1 ((Heap.UpToSlots.of_keeps hk).trans l4),pN I.hok k2 st fl.1,fl,k1,k3,k2,hE⟩
end
section
variable {X : Cx} {E : XK} {ea : Addr} {p0 : List (Addr × Obj)}
noncomputable def HL(ea C:Addr)(E:XK)(t:TA):TS:=fun _ σ H=>t σ H fun vs H1=>vs.length<=sizeLine/\H1 ea=some (qR ea)/\E (.ref C) none H1
theorem GD{x:Str}{C:Addr}{e:Expr}{es:List Expr}{t:TA}{np cpos npos pos:Pos}{nk:Nat}{B Bn newId nid initId inN:String}{bmB bmN:List Value}(hq:W.excIn X.K C bmB newId=true)
  (Fn:ExcBaseFacts Bn newId inN bmN)(hBn:bmB.contains (.type Bn)=true)(FB:ExcBaseFacts B nid initId bmB)(hg:Gl (jq X ea p0) x)(hm:X.mg x=some (.ref C))(ha:PA (jq X ea p0) (e::es) t)(hR:yb (jq X ea p0) E)
  (hdb:(x == ("__debug__":Str))=false:=by decide)(he:starEach (e::es) X.env=(false,eval e X.env)::starEach es X.env:=by rfl)(hpl:(backTo cpos (starEach es X.env)).any (·.1)=false:=by rfl):
  PS (jq X ea p0) (.Raise (some (.Call (.Name x np) (e::es) [] cpos)) (some (.Constant .none nk npos)) pos) (HL ea C E t):=by
 intro pins s σ H D I h
 obtain⟨tl,N,nm,qn,bs,hdct,sn,sub,ab,col,dd,k0,k1,k2,k3,k5,mN,hC,hN,ae,T⟩:=xu I.ok.mod.kin hq
 rw [arm_exec_Raise]
 refine wpAny_bind (wpAny_standAt ?_)
 refine C4 (C:=C) (nm:=nm) (q:=qn) (N:=N) (bs:=bs) (bm:=tl) (hdct:=hdct) (sn:=sn) (sub:=sub) (ab:=ab) (col:=col) (dd:=dd) (k0:=k0) (k1:=k1) (k2:=k2) (k3:=k3) (k5:=k5) (newId:=newId) (ea:=ea)
  (T.hasType FB.hasBase) rfl (fun ak R r=>wpAny_bind (wpAny_Constant_none (wpAny_bind (wpAny_standAt (wpAny_pure r))))) ?_
 refine wpAny_bind (wpAny_Call_ofName (lT I hg hm ?_ hdb))
 have hA:=ha cpos pins s σ H _ I h
 have af:starEach (e::es) (jq X ea p0).env=(false,eval e (jq X ea p0).env)::starEach es (jq X ea p0).env:=he
 rw [af] at hA ⊢
 unfold callWith
 refine wpAny_bind (wpAny_holding (Calls.evalArgs_plain (ic hA fun us s2 ⟨vs,H2,U,r,hz,hF,hE⟩=>?_)))
 obtain⟨hp,g,d,tk,os⟩:=s2
 have J:=U.bk _ _ hC
 have aa:(backTo cpos ((false,eval e (jq X ea p0).env)::starEach es (jq X ea p0).env)).any (·.1)=false:=by
  show(false || (backTo cpos (starEach es X.env)).any (·.1))=false
  rw [hpl];rfl
 refine wpAny_bind (wpAny_standAt ?_)
 rw [aa]
 refine wpAny_bind (wpAny_keeperOf_exc J ?_)
 show wpAny (model X.prog X.w) _ (do let r<-call (.ref C) us [];holding [r] point;pure r) _ _ _
 refine wpAny_bind (wpAny_call_exc_subU Fn hBn FB (T.keeps U.bk) J (hN.keeps U.bk) ae (fun h' e' mk=>?_) (by rw [<-r.length];exact hz))
 refine wpAny_bind (wpAny_holding (wpAny_point (wpAny_pure ?_)))
 refine wpAny_bind (wpAny_standAt (wpAny_pure ?_))
 obtain⟨t',e1,_,_⟩:=mk.there
 have fc:Fc ea hp:=(U.hok ea _ hF).1
 obtain⟨oe,ws,f1,f2,f3⟩:=fc
 have ne:e'≠ea:=fun z=>by
  have n:=mk.new
  rw [z,f1] at n
  cases n
 refine⟨e',t',rfl,mk.keeps _ _ J,e1,⟨oe,ws,mk.keeps _ _ f1,f2,f3⟩,ne,fun ag ah e2=>?_⟩
 exact hR pins σ H2 ⟨hp,g,d,tk,os⟩ ag e' t' _ _ U (fun b o hb=>(ah b fun z=>by have n:=mk.new;rw [<-z,hb] at n;cases n).trans (mk.keeps b o hb)) mk.new e2 rfl rfl rfl hE
end
section
variable {X : Cx}
theorem Bt{B:Heap}{l:List Env}{e:Addr}{cls a0:Value}{h:Heap}(o:Obj)(f:lH B l e cls a0 h):lH B l e cls a0 (h.push o):=by
 obtain⟨⟨st,bn,ff,oe,vs,T,oT,ts,he,hc,hd,h1,bT,nT,hT,dT,h3⟩,J,U,aa,ae,h2⟩:=f
 have k:∀ b o',h.get? b=some o'->(h.push o).get? b=some o':=fun b o' q=>Heap.get?_push_of_some _ q
 exact⟨⟨fun b o' q=>k b o' (st b o' q),bn,ff.of_keeps fun b o' q _=>⟨o',k b o' q,rfl⟩,oe,vs,T,oT,ts,k _ _ he,hc,hd,h1,bT,nT,k _ _ hT,dT,h3⟩,J,U,k _ _ aa,ae,h2⟩
theorem Gq{M:Model}{A:Around}{E:Value->Shared->Prop}{s:Shared}{base:Heap}{l:List Env}{e:Addr}{cls a0:Value}{Q:Unit->Shared->Prop}(f:lH base l e cls a0 s.heap)
  (hQ:∀ h',lH base l e cls a0 h'->s.heap.UpToSlots h'->Q () {s with heap:=h'}):wpAny M A (setFlight (.ref e) none) Q E s:=by
 have a:=lands_againW (M:=M) (A:=A) (E:=E) (Q:=fun _ s'=>∃ h',Heap.FlyingW base l e cls a0 h'/\s.heap.UpToSlots h'/\s'={s with heap:=h'}) f.1 fun h' p q=>⟨h',p,q,rfl⟩
 obtain⟨⟨st,bn,ff,oe,vs,T,oT,ts,he,hc,hd,h1,bT,nT,hT,dT,h3⟩,aa,ae,J,U,h2⟩:=f
 rw [he] at J
 cases J
 rw [hd] at U
 cases U
 have b:wpAny M A (setFlight (.ref e) none) (fun _ s'=>Fc e s'.heap) E s:=by
  unfold setFlight
  refine wpAny_bind (wpAny_field he hd h1 ?_)
  rw [if_pos (by simp)]
  refine wpAny_setField hT dT (Array.getElem?_eq_some_iff.mp h3).1 ?_
  refine⟨oe,vs,?_,hd,h2⟩
  rw [Heap.get?_update_other _ _ nT]
  exact he
 refine wpAny_mono (oi a b) (fun _ s' ⟨⟨h',p,q,e⟩,z⟩=>?_) fun _ _ z=>z.1
 subst e
 exact hQ h' ⟨p,z⟩ q
noncomputable def F8(K:W.Frag)(C1 C2:Addr)(E:St->XK)(tb:TS)(ts:Addr->TS):TS:=fun D σ H=>tb D σ H/\∀ J cls H' ea,E J cls none H'->H' ea=none->
 ∃ C,cls= .ref C/\W.exmAny K (.ref C) [.ref C1,.ref C2]=some true/\ts ea D J (upd H' ea (qR ea))
noncomputable abbrev pC(X:Cx)(pins:List (Addr×Obj))(D:Ends)(hs:List ExceptHandler):Value->Shared->Prop:=fun e J=>wpAny (model X.prog X.w) X.A (noteFrame e X.env) (fun _ U=>wpAny (model X.prog X.w) X.A (setFlight e none) (fun _ aa=>
 wpAny (model X.prog X.w) X.A (handleBy e X.env hs) (SP X pins D) X.xe aa) X.xe U) X.xe J
theorem Di{pins:List (Addr×Obj)}{D:Ends}{C1 C2:Addr}{E:St->XK}{x1 x2:Str}{np1 np2 tpos pos:Pos}{kt:Nat}{b₀:Stmt}{suite:List Stmt}{ts:Addr->TS}
  (hstk:X.stack=X.env::X.outer)(hfr:X.env.frame=some X.env.locals)(hg1:Gl X x1)(hm1:X.mg x1=some (.ref C1))(hg2:Gl X x2)(hm2:X.mg x2=some (.ref C2))
  (hown:∀ hd,PassesOwnAt (model X.prog X.w) (X.A.mark hd) X.A X.env X.xe)
  (hs:∀ ea p,iD (jq X ea p) (b₀::suite) (ts ea))
  (hc:∀ σ' cls H' ea,E σ' cls none H'->H' ea=none->∃ C,cls= .ref C/\W.exmAny X.K (.ref C) [.ref C1,.ref C2]=some true/\ts ea D σ' (upd H' ea (qR ea)))
  (hdb1:(x1 == ("__debug__":Str))=false:=by decide)(hdb2:(x2 == ("__debug__":Str))=false:=by decide):
  nV (jy X.prog X.w) (X.tr (X.pn++pins) (pC X pins D [.ExceptHandler (some (.Tuple [.Name x1 np1,.Name x2 np2] kt tpos)) none (b₀::suite) pos])) E:=by
 intro aa σ' H1 s1 e s' J hx
 obtain⟨⟨aI,ee,fc⟩,ea,cls,a0,B,H',rfl,os,bare,un,hok,fl,k1,k3,k2,hE⟩:=hx
 have fc:Fc ea s'.heap:=by injection ee with z;rw [z];exact fc
 have aB:lH B (X.env::X.outer) ea cls a0 s'.heap:=⟨hstk ▸ fl,fc⟩
 have ah:X.A.frames=some (X.env::X.outer):=hstk ▸ J.ok.frames
 have ak:ea∉iF X.stack:=fun z=>by
  obtain⟨_,o,ho,nf⟩:=fl.2.2.1.mem z
  obtain⟨oe,vs,_,_,_,he,_,hd,_⟩:=fl.2.2.2
  rw [he] at ho;cases ho
  exact nf vs hd
 have nE:∀{b:Addr} {o:Obj},s1.heap.get? b=some o->b≠ea:=fun{b o} q z=>by
  subst z
  obtain⟨o',e'⟩:=k3 b o q ak
  rw [fl.2.1] at e';cases e'
 have nH:H' ea=none:=by
  cases q:H' ea with
  | none=>rfl
  | some u=>
   obtain⟨o,e'⟩:=k2 ea u q
   rw [fl.2.1] at e';cases e'
 have go:∀{h2:Heap} {tk:Nat},lH B (X.env::X.outer) ea cls a0 h2->s'.heap.UpToSlots h2->Inv (X.tr (X.pn++pins) (pC X pins D [.ExceptHandler (some (.Tuple [.Name x1 np1,.Name x2 np2] kt tpos)) none (b₀::suite) pos])) aa σ' H' {s' with heap:=h2}:=fun{h2 tk} ao up=>
  J.call' (s':={s' with heap:=h2}) (ch:=[]) os (pB rfl un k1 k3 fl.2.2.1 ao.1.1 up) (pN hok k2 fl.1 ao.1.1) bare fun b z=>absurd z (by simp)
 have af:∀{s2:Shared} {H2:Hp},Inv (X.tr (X.pn++pins) (pC X pins D [.ExceptHandler (some (.Tuple [.Name x1 np1,.Name x2 np2] kt tpos)) none (b₀::suite) pos])) aa σ' H2 s2->Inv (jq X ea (X.pn++pins)) [] σ' H2 s2:=fun I=>
  ⟨⟨I.ok.mod,I.ok.kind,I.ok.glob,I.ok.blt,I.ok.above,I.ok.inj,I.ok.has,I.ok.cab,(fun z=>by cases z),I.ok.frames,I.ok.stk,I.ok.exf,I.ok.bs,I.ok.bsz,I.ok.noex,I.ok.exfs,I.ok.funs,I.ok.frf⟩,
   I.os,I.bare,I.base,I.loc,I.cell,I.free,I.freeC,fun p hp=>I.pin p (List.mem_append_left _ (by have ae:p∈(X.pn++pins)++[]:=hp;rw [List.append_nil] at ae;exact ae)),I.hok,I.len⟩
 refine zF ah hfr aB fun h4 held aC aq=>?_
 refine FG held aC fun h5 ar au=>?_
 obtain⟨C,rfl,av,aD⟩:=hc σ' cls H' ea hE nH
 have I5:=af (go (tk:=0) ar (aq.trans au))
 refine wpAny_handleBy_cons (codeAny_handlers_test ?_) (by intro q;cases q)
 refine wpAny_Tuple_spliced ?_
 show wpAny (model X.prog X.w) _ (spliced ((false,eval (.Name x1 np1) X.env)::backTo tpos (starEach [.Name x2 np2] X.env))) _ _ _
 refine Calls.spliced_cons (lT I5 hg1 hm1 ?_ hdb1)
 show wpAny (model X.prog X.w) _ (spliced ((false,eval (.Name x2 np2) X.env)::backTo tpos (starEach [] X.env))) _ _ _
 refine Calls.spliced_cons (lT I5 hg2 hm2 ?_ hdb2)
 refine Calls.spliced_nil ⟨by exact Nat.le_of_ble_eq_true rfl,?_⟩
 have ag:=Bt {cls:= .type "tuple",data:= .seq #[.ref C1,.ref C2]} ar
 have aw:s'.heap.UpToSlots (h5.push {cls:= .type "tuple",data:= .seq #[.ref C1,.ref C2]}):=(aq.trans au).trans (.of_keeps fun b o q=>Heap.get?_push_of_some _ q)
 have aE:(h5.push {cls:= .type "tuple",data:= .seq #[.ref C1,.ref C2]}).get? h5.objs.size=some {cls:= .type "tuple",data:= .seq #[.ref C1,.ref C2]}:=Heap.get?_push_size _ rfl
 have I6:=af (go (tk:=0) ag aw)
 obtain⟨ob,aF,ax⟩:=ag.1.there
 have LT:W.Looks (model X.prog X.w) (h5.push {cls:= .type "tuple",data:= .seq #[.ref C1,.ref C2]}) (typeOf (.ref ea)) (.ref C):=by
  rw [<-ax]
  exact(W.Looks.ld aF).andThen .now
 refine W.exm_tup2 I6.kIn LT aE av _ _ _ _ (fun _ _ q=>q) ?_
 refine codeAny_handlers_suite (Gq ag fun h7 ay aG=>?_)
 have I7:=af (go (tk:=0) ay (aw.trans aG))
 have I8:Inv (jq X ea (X.pn++pins)) [] σ' (upd H' ea (qR ea)) {s' with heap:=h7}:=by
  refine I7.track ?_ nH (fun z=>?_) (fun y c q z=>?_) (fun p hp z=>?_) ?_
  ·by_cases hx:ea∈X.ex
   ·exact .inr hx
   ·refine .inl ?_
    cases q:X.s₀.heap.get? ea with
    | none=>exact q
    | some o=>
     obtain⟨o',e'⟩:=J.base.there ea o q hx
     exact absurd rfl (nE e')
  ·exact ak (by rw [hstk];exact List.mem_filterMap.mpr ⟨X.env,List.mem_cons_self,by rw [hfr];exact congrArg some z.symm⟩)
  ·obtain⟨v,oc,aH,_⟩:=J.cell y c q
   exact nE aH z
  ·exact nE (J.pin p (List.mem_append_left _ (by have ae:p∈(X.pn++pins)++[]:=hp;rw [List.append_nil] at ae;exact ae))).1 z
  ·obtain⟨oe,vs,he,hd,h2⟩:=ay.2
   exact⟨⟨oe,vs,he,hd,h2⟩,⟨oe,he⟩,fun h1 h2 ⟨o,ws,q1,q2,q3⟩ k=>⟨o,ws,k o q1,q2,q3⟩⟩
 refine wpAny_mono (hs ea (X.pn++pins) [] _ _ _ _ I8 aD) (fun aA s9 h9=>?_) fun e9 s9 z=>hown _ _ _ z
 have back:∀{U:St} {H2:Hp},Inv (jq X ea (X.pn++pins)) [] U H2 s9->Inv X pins U H2 s9:=fun I=>
  ⟨⟨J.ok.mod,J.ok.kind,J.ok.glob,J.ok.blt,J.ok.above,J.ok.inj,J.ok.has,J.ok.cab,J.ok.hd,J.ok.frames,J.ok.stk,J.ok.exf,J.ok.bs,J.ok.bsz,J.ok.noex,J.ok.exfs,J.ok.funs,J.ok.frf⟩,
   I.os,I.bare,I.base,I.loc,I.cell,I.free,I.freeC,fun p hp=>I.pin p (List.mem_append_left _ hp),I.hok,I.len⟩
 show SP X pins D aA s9
 cases aA with
 | next=>
  obtain⟨U,H2,I9,q9⟩:=h9
  exact⟨_,H2,back I9,q9⟩
 | brk=>
  obtain⟨U,H2,I9,q9⟩:=h9
  exact⟨_,H2,back I9,q9⟩
 | cont=>
  obtain⟨U,H2,I9,q9⟩:=h9
  exact⟨_,H2,back I9,q9⟩
 | ret u=>
  obtain⟨v,U,H2,I9,rv,q9⟩:=h9
  exact⟨v,_,H2,back I9,rv,q9⟩
theorem Fs{C1 C2:Addr}(E:St->XK){x1 x2:Str}{np1 np2 tpos hpos pos:Pos}{kt:Nat}{b₀:Stmt}{suite body:List Stmt}{tb:TS}{ts:Addr->TS}
  (hstk:X.stack=X.env::X.outer)(hfr:X.env.frame=some X.env.locals)(hg1:Gl X x1)(hm1:X.mg x1=some (.ref C1))(hg2:Gl X x2)(hm2:X.mg x2=some (.ref C2))
  (hown:∀ hd,PassesOwnAt (model X.prog X.w) (X.A.mark hd) X.A X.env X.xe)
  (hb:∀ p xe,nV (jy X.prog X.w) (X.tr p xe) E->iD (X.tr p xe) body tb)(hs:∀ ea p,iD (jq X ea p) (b₀::suite) (ts ea))
  (hdb1:(x1 == ("__debug__":Str))=false:=by decide)(hdb2:(x2 == ("__debug__":Str))=false:=by decide):
  PS X (.Try body [.ExceptHandler (some (.Tuple [.Name x1 np1,.Name x2 np2] kt tpos)) none (b₀::suite) hpos] [] [] pos) (F8 X.K C1 C2 E tb ts):=by
 intro pins s σ H D I h
 obtain⟨h1,h2⟩:=h
 refine wpAny_Try_except ?_
 have I':Inv (X.tr (X.pn++pins) (pC X pins D [.ExceptHandler (some (.Tuple [.Name x1 np1,.Name x2 np2] kt tpos)) none (b₀::suite) hpos])) [] σ H s:=
  ⟨⟨I.ok.mod,I.ok.kind,I.ok.glob,I.ok.blt,I.ok.above,I.ok.inj,I.ok.has,I.ok.cab,I.ok.hd,I.ok.frames,I.ok.stk,I.ok.exf,I.ok.bs,I.ok.bsz,I.ok.noex,I.ok.exfs,I.ok.funs,I.ok.frf⟩,
   I.os,I.bare,I.base,I.loc,I.cell,I.free,I.freeC,fun p hp=>I.pin p (by simpa using hp),I.hok,I.len⟩
 have back:∀{U:St} {H2:Hp} {s2:Shared},Inv (X.tr (X.pn++pins) (pC X pins D [.ExceptHandler (some (.Tuple [.Name x1 np1,.Name x2 np2] kt tpos)) none (b₀::suite) hpos])) [] U H2 s2->Inv X pins U H2 s2:=fun J=>
  ⟨I.ok,J.os,J.bare,J.base,J.loc,J.cell,J.free,J.freeC,fun p hp=>J.pin p (List.mem_append_left _ hp),J.hok,J.len⟩
 refine wpAny_mono (hb _ _ (Di hstk hfr hg1 hm1 hg2 hm2 hown hs h2 hdb1 hdb2) [] s σ H D I' h1) (fun f s1 q=>?_) fun e s1 q=>q
 cases f with
 | next=>
  obtain⟨U,H2,J,q⟩:=q
  exact wpAny_execs_nil ⟨U,H2,back J,q⟩
 | brk=>obtain⟨U,H2,J,q⟩:=q;exact⟨U,H2,back J,q⟩
 | cont=>obtain⟨U,H2,J,q⟩:=q;exact⟨U,H2,back J,q⟩
 | ret u=>obtain⟨v,U,H2,J,r,q⟩:=q;exact⟨v,U,H2,back J,r,q⟩
end
end L2
namespace K04
end K04
namespace BK
open K04
section
variable {α : Type} [DecidableEq α]
end
end BK
namespace Gn
open PySem L2 PyProof.Rows PySem.Spec
section
variable {X : Cx}
end
theorem Paired.tk {α β:Type}{F:α->β->Prop}:∀(n:Nat) {l:List α} {m:List β},Paired F l m->Paired F (l.take n) (m.take n)
 | 0,_,_,_=> .nil
 | _ + 1,_,_,.nil=> .nil
 | n + 1,_,_,.cons r t=> .cons r (Paired.tk n t)
theorem Paired.at {α β:Type}{F:α->β->Prop}:∀{l:List α} {m:List β},Paired F l m->∀{i:Nat} {b:β},m[i]? =some b->∃ a,l[i]? =some a/\F a b
 | _,_,.nil,i,b,h=>by cases i<;>cases h
 | _,_,.cons r t,0,b,h=>by
  have e:=Option.some.inj h
  subst e
  exact⟨_,rfl,r⟩
 | _,_,.cons r t,i + 1,b,h=>Paired.at t h
end Gn
namespace L2
open PySem PySem.Spec PyProof.Rows
theorem zV{a:Addr}{xs:List V}{g:TG}{tc:TT}{te:TE}{σ0:St}{H:Hp}{Q:VK}(Pv:Nat->List V->Hp->Prop)(hz:xs.length < sizeLine)(hl:∀ i ys H,Pv i ys H->H a=some (.lst xs))(h0:Pv 0 [] H)
  (hs:∀ i x ys H T (N:List V->Hp->Prop),xs[i]? =some x->Pv i ys H->H T=none->(∀ ys' H2,Pv (i + 1) ys' H2->N ys' H2)->
   g (.ref T) σ0 (upd H T (.tup [.int i,x])) fun σ2 H2=>tc σ2 H2 fun b H3=>if b=true then te σ2 H3 fun y H4=>N (ys++[y]) H4 else N ys H3)
  (hd:∀ ys H,Pv xs.length ys H->ys.length<=xs.length->∀ p,H p=none->Q (.ref p) (upd H p (.lst ys))):ni (uY a) g tc te σ0 Q H:=qK xs.length Pv hz
 (fun i ys H hi p=>⟨xs,xs[i],hl i ys H p,by simp [hi]⟩) (fun ys H p=>⟨xs,hl _ ys H p,rfl⟩) h0
 (fun i ys H v H' N hi p y J=>by
  obtain⟨T,z,U,hz,rfl,rfl⟩:=y
  exact hs i z ys H T N (hz xs (hl i ys H p)) p U J) hd
noncomputable def uk(rs:List (Nat×Nat)):List PyData:=rs.map fun r=> .tuple [.int (r.1:Int),.int (r.2:Int)]
theorem oR:∀ rs:List (Nat×Nat),(PyData.list (uk rs)).canLay0=true
 | []=>rfl
 | r::rs=>oR rs
theorem qY:∀ rs:List (Nat×Nat),PyData.depthAll (uk rs)<=1
 | []=>Nat.zero_le _
 | r::rs=>by
  have J:=qY rs
  show max (max 0 (max 0 0) + 1) (PyData.depthAll (uk rs))<=1
  omega
end L2
namespace K24
open PySem L2 PyProof.Rows PySem.Spec Gn K01
noncomputable def top(i:Nat):Stmt:=PySem.Challenge.pw_findhall_k24_shown_and_read.main.body.getD i (.Pass ⟨0,0,0,0⟩)
noncomputable abbrev qg:Stmt:=top 19
noncomputable abbrev qv:Stmt:=top 20
noncomputable abbrev oo:Stmt:=top 21
noncomputable abbrev qk:Stmt:=top 22
noncomputable abbrev qo:Stmt:=top 24
noncomputable abbrev mj:Stmt:=top 32
noncomputable abbrev qM:Stmt:=top 33
noncomputable abbrev qm:Stmt:=top 34
noncomputable abbrev o6:Stmt:=top 35
noncomputable abbrev ql:Stmt:=top 36
noncomputable abbrev ou:Stmt:=top 37
noncomputable abbrev pH:Stmt:=top 38
noncomputable abbrev pS:Stmt:=top 39
noncomputable abbrev oj:Stmt:=top 40
noncomputable abbrev qF:Stmt:=top 41
noncomputable abbrev mQ:Stmt:=top 43
noncomputable abbrev pE:Stmt:=top 44
noncomputable abbrev nz:Stmt:=top 45
noncomputable abbrev qz:Stmt:=top 46
noncomputable abbrev qd:Stmt:=top 47
noncomputable abbrev mO:Stmt:=top 48
noncomputable abbrev oI:Stmt:=top 49
noncomputable abbrev pY:Stmt:=top 50
noncomputable abbrev oh:Stmt:=top 51
noncomputable abbrev pD:Stmt:=top 52
noncomputable abbrev oF:Stmt:=top 53
noncomputable abbrev mw:Stmt:=top 54
noncomputable abbrev lZ:Stmt:=top 55
noncomputable abbrev oV:Stmt:=top 56
noncomputable abbrev qb:Stmt:=top 57
noncomputable abbrev qD:Stmt:=top 58
noncomputable abbrev oq:Stmt:=top 59
noncomputable abbrev pT:Stmt:=top 60
noncomputable abbrev lC:Stmt:=top 61
structure Txt (mg : Str -> Option Value) : Prop where
 isi : mg "isinstance" = none
 int : mg "int" = none
 bool : mg "bool" = none
 str : mg "str" = none
 list : mg "list" = none
 tuple : mg "tuple" = none
 len : mg "len" = none
 all : mg "all" = none
 ord : mg "ord" = none
 range : mg "range" = none
 enum : mg "enumerate" = none
 val : mg "ValueError" = none
 zip : mg "zip" = none
 rev : mg "reversed" = none
 cText : ∃ t, mg "MOST_TEXT_SIGNS" = some (.int 2000 t)
 cSmall : ∃ t, mg "SMALL_SIGNS" = some (.str "abcdefghijklmnopqrstuvwxyz0123456789" t)
 cPer : ∃ t, mg "PERCENT_NUMBER" = some (.int 37 t)
 cDA : ∃ t, mg "DOTS_AHEAD" = some (.str "... " t)
 cDB : ∃ t, mg "DOTS_BEHIND" = some (.str " ..." t)
 cLA : ∃ t, mg "LEAST_AHEAD" = some (.str "a " t)
 cLB : ∃ t, mg "LEAST_BEHIND" = some (.str " a" t)
section
variable {P : Program} {w : World} {K : PySem.W.Frag} {mg : Str -> Option Value} {base : Heap} {CT CS CL : Addr}
theorem tj(xs:List V)(v:V):j3 (xs++[v]) (-1)=some v:=by
 have e:kO (xs++[v]).length (-1)=some xs.length:=by
  unfold kO
  rw [List.length_append,List.length_singleton]
  rw [if_neg (by decide),if_pos (by omega)]
  congr 1
  omega
 unfold j3
 rw [e]
 simp
theorem Dp(xs:List V)(v:V):kO (xs++[v]).length (-1)=some xs.length:=by
 unfold kO
 rw [List.length_append,List.length_singleton,if_neg (by decide),if_pos (by omega)]
 congr 1
 omega
theorem wK{H H':Hp}{p:Addr}{o:HO}(s:gO H H')(hp:H p=none):gO H (upd H' p o):=fun b u e=>by
 rw [ig (jo e hp)];exact s b u e
theorem Fl{α:Type}(l:List α)(a b:α):(l++[a]).set l.length b=l++[b]:=by simp
theorem uh{α:Type}{l:List α}(h:l≠[]):∃ ini x,l=ini++[x]:=⟨l.dropLast,l.getLast h,(List.dropLast_concat_getLast h).symm⟩
noncomputable def wz(K:W.Frag):Sp:=fun vs H Q _=>∃ x,vs=[x]/\Known K H x/\Q (.bl (ma x && !mG x)) H
theorem E4:iU ["thing"] ["thing"] (iu qg):=⟨rfl,rfl,rfl,dkq,rfl,dkq,dkq⟩
seal iD PS PE PT PA PG PI iX iW in
theorem ED{f:Addr}{fd:FuncData}(D:Df K mg "is_whole" qg f fd)(T:Txt mg):hZ P w K mg base iw 1 f fd ["thing"] (wz K):=by
 refine D.F.ok E4 (fun vs H Q E h=>?_) (fun cdv A outer s H vs Q E U h=>?_)
 ·obtain⟨x,rfl,_⟩:=h
  rfl
 ·obtain⟨x,rfl,⟨n,J⟩,k⟩:=h
  refine⟨_,g0 (iC (sy (ir kB rfl T.isi je (gN (pv 0) (gN (jX (v:= .ty "int") rfl T.int mz rfl) gP)))
   (qc (Es (ir kB rfl T.isi je (gN (pv 0) (gN (jX (v:= .ty "bool") rfl T.bool qP rfl) gP))))))),?_⟩
  refine⟨_,rfl,x,.ty "int",_,_,rfl,J,.inl ⟨_,rfl,yg J⟩,_,rfl,?_⟩
  cases hi:ma x with
  | false=>
   rw [hi] at k
   exact g8 k
  | true=>
   rw [hi] at k
   refine gU ?_
   exact⟨_,rfl,x,.ty "bool",_,_,rfl,J,.inl ⟨_,rfl,qU J⟩,_,rfl,k⟩
noncomputable def qI:Sp:=fun vs H Q _=>∃ n k:Int,vs=[.int n,.int k]/\0<=k/\k<=1000000/\∀ r:Int,0<=r->r < 2147483629->Q (.int r) H
theorem xv:iU ["_law_number_here","_law_k"] ["_law_number_here","_law_k"] (iu mQ):=⟨rfl,rfl,rfl,dkq,rfl,dkq,dkq⟩
seal iD PS PE PT PA PG PI iX iW in
theorem rW{f:Addr}{fd:FuncData}(D:Df K mg "_law_mixed" mQ f fd):hZ P w K mg base iw 1 f fd ["_law_number_here","_law_k"] qI:=by
 refine D.F.ok xv (fun vs H Q E h=>?_) (fun cdv A outer s H vs Q E U h=>?_)
 ·obtain⟨n,k,rfl,_⟩:=h
  rfl
 ·obtain⟨n,k,rfl,h0,h1,J⟩:=h
  refine⟨_,gS (hU (i:=0) xv.nd rfl (Or.inl rfl) (gX iZ (gX lB (gX jb (gX jb (gX iZ (pv 0) gQ) (gX lB (gX lB gQ (pv 1)) (pv 1))) (gX lB gQ (pv 1))) gQ) gQ))
   (g0 (iC (gX iZ (gX lB (pv 0) (gX jb gQ (gX lB gQ (pv 1)))) gQ))),?_⟩
  refine⟨_,rfl,_,_,rfl,rfl,(by show(0:Int) < 2147483647;decide),_,rfl,_,_,rfl,rfl,.inl ⟨by decide,by decide⟩,_,rfl,_,_,rfl,rfl,.inr ⟨by omega,by omega⟩,_,_,rfl,rfl,_,rfl,_,_,rfl,rfl,.inl ⟨by decide,by decide⟩,_,_,rfl,rfl,
   _,_,rfl,rfl,.inr ⟨by decide,by decide⟩,_,_,rfl,rfl,(by show(0:Int) < 2147483647;decide),?_⟩
  have b1:=Int.emod_nonneg ((n % 2147483647 + 7919 * k * k + 31 * k) * 48271) (show(2147483647:Int)≠0 by decide)
  have b2:=Int.emod_lt_of_pos ((n % 2147483647 + 7919 * k * k + 31 * k) * 48271) (show(0:Int) < 2147483647 by decide)
  refine⟨_,rfl,_,rfl,_,_,rfl,rfl,.inl ⟨by decide,by decide⟩,_,_,rfl,rfl,_,_,rfl,rfl,.inl ⟨by omega,by omega⟩,_,_,rfl,rfl,(by show(0:Int) < 2147483629;decide),?_⟩
  exact J _ (Int.emod_nonneg _ (by decide)) (Int.emod_lt_of_pos _ (by decide))
noncomputable def yw(K:W.Frag):Sp:=fun vs H Q _=>∃(a:Addr) (ns:List Int) (k:Nat),vs=[.ref a,.int k]/\gR K H a (ns.map V.int)/\ns.length<=63/\k<=1000/\∀(r:Int) H',0<=r->r < 2147483629->gO H H'->Q (.int r) H'
theorem Ih:iU ["_law_script","_law_k"] ["_law_script","_law_k"] (iu pE):=⟨rfl,rfl,rfl,dkq,rfl,dkq,dkq⟩
seal iD PS PE PT PA PG PI iX iW in
theorem Cm{f fm:Addr}{fd fdm:FuncData}(D:Df K mg "_law_number" pE f fd)(DM:Df K mg "_law_mixed" mQ fm fdm)(T:Txt mg):hZ P w K mg base iw 2 f fd ["_law_script","_law_k"] (yw K):=by
 have GM:hZ P w K mg base iw 1 fm fdm ["_law_number_here","_law_k"] qI:=rW DM
 have bM:=DM.F.binds (ps:=["_law_number_here","_law_k"]) fun _ _ _ _ _ _ us hl=>match us,hl with | [_,_],_=>rfl
 refine D.F.ok Ih (fun vs H Q E h=>?_) (fun cdv A outer s H vs Q E U h=>?_)
 ·obtain⟨a,ns,k,rfl,_⟩:=h
  rfl
 ·obtain⟨a,ns,k,rfl,hS,hl,hk,kk⟩:=h
  refine⟨_,gS (iN (iq (oS U.units100) (pv 0) (iK gP) (iy _)) (g0 (iC (iE GM U rfl DM.m DM.F.kp bM .nil iM (gN gQ (gN (pv 1) gP))))) iL)
   (g0 (iC (iE GM U rfl DM.m DM.F.kp bM .nil iM (gN (g9 jn (pv 0) (gX iZ (pv 1) (ir jN rfl T.len i0 (gN (pv 0) gP))) (fun _ _=>rfl)) (gN (pv 1) gP))))),?_⟩
  refine⟨_,rfl,Nat.zero_le _,fun p hp=>?_⟩
  have J:gO H (upd H p (.lst [])):=hJ hp
  refine⟨.list (ns.map .int),.list [],.lst (J.seq hS) (wo ns),.lst (gR.of gY) .nil,lay_ints ns,rfl,Nat.le_trans (Nat.min_le_right _ _) (by decide),_,rfl,?_⟩
  cases ns with
  | nil=>
   refine gU ?_
   exact⟨_,rfl,17,k,rfl,by omega,by omega,fun r r0 r1=>kk r _ r0 r1 J⟩
  | cons n ns=>
   refine g8 ?_
   have hn:(0:Int) < (((n::ns).map V.int).length:Nat):=by simp
   refine⟨_,rfl,_,rfl,_,rfl,_,_,rfl,.inl (J.seq hS),_,_,rfl,rfl,hn,?_⟩
   have aa:k % (n::ns).length < (n::ns).length:=Nat.mod_lt _ (by simp)
   have ei:((k:Nat):Int) % ((((n::ns).map V.int).length:Nat):Int)=((k % (n::ns).length:Nat):Int):=by rw [List.length_map];omega
   refine⟨a,_,_,.int ((n::ns)[k % (n::ns).length]),rfl,rfl,J.seq hS,?_,_,rfl,_,k,rfl,by omega,by omega,fun r r0 r1=>kk r _ r0 r1 J⟩
   rw [ei]
   exact ik (by rw [List.getElem?_map,List.getElem?_eq_getElem aa];rfl)
theorem nN{t u R:TS}{D:Ends}{σ:L2.St}{H:Hp}(hR:R=j8 t u)(h:∀ R':TS,R'=u->j8 t R' D σ H):R D σ H:=by subst hR;exact h u rfl
theorem nR{t R:TS}{D:Ends}{σ:L2.St}{H:Hp}(hR:R=t)(h:t D σ H):R D σ H:=by subst hR;exact h
theorem vb{g:TG}{x:V}{tb:TS}{D:Ends}{σ:L2.St}{H:Hp}(h:∀(B:TS) (D':Ends),B=tb->(∀ σ H,D.nx σ H->D'.nx σ H)->g x σ H fun σ2 H2=>B D' σ2 H2):g x σ H fun σ2 H2=>tb D σ2 H2:=h tb D rfl fun _ _ z=>z
theorem Hl:bootBuiltins "ord"=some (.builtin "ord"):=dkq
noncomputable def xH:Sp:=fun vs H Q _=>∃ c:Nat,vs=[.str ⟨#[c]⟩]/\Q (.bl (iG c)) H
theorem HR:iU ["sign"] ["sign"] (iu qv):=⟨rfl,rfl,rfl,dkq,rfl,dkq,dkq⟩
theorem oW(c d:Nat):decide (V.str ⟨#[c]⟩=V.str ⟨#[d]⟩)=decide (c=d):=by
 by_cases h:c=d
 ·subst h;simp
 ·rw [decide_eq_false h]
  exact decide_eq_false fun z=>h (by injection z with z;injection z with z;simpa using z)
theorem Ab(c d:Nat):decide (([c]:List Nat) < [d])=decide (c < d):=by
 by_cases h:c < d
 ·rw [decide_eq_true h];exact decide_eq_true (List.Lex.rel h)
 ·rw [decide_eq_false h]
  exact decide_eq_false fun z=>by
   cases z with
   | rel q=>exact h q
   | cons q=>cases q
seal iD PS PE PT PA PG PI iX iW in
theorem Hq{f:Addr}{fd:FuncData}(D:Df K mg "is_text_sign" qv f fd)(T:Txt mg):hZ P w K mg base iw 1 f fd ["sign"] xH:=by
 obtain⟨tp,cp⟩:=T.cPer
 refine D.F.ok HR (fun vs H Q E h=>?_) (fun cdv A outer s H vs Q E hr h=>?_)
 ·obtain⟨c,rfl,_⟩:=h
  rfl
 ·obtain⟨c,rfl,k⟩:=h
  refine⟨_,g0 (iC (HN (k9 jD (pv 0) gZ (iy _)) (qc (sy (Al xD xD gZ (pv 0) gZ)
   (qc (k9 lh (ir FZ rfl T.ord Hl (gN (pv 0) gP)) (jA (v:= .int 37) rfl cp ⟨_,rfl⟩) (iy _))))))),?_⟩
  refine⟨_,rfl,rfl,_,rfl,?_⟩
  have U:decide (V.str ⟨#[c]⟩=V.str (Str.ofString "\n"))=decide (c=10):=oW c 10
  rw [U]
  unfold iG at k
  by_cases J:c=10
  ·rw [decide_eq_true J] at k ⊢
   exact gU k
  ·rw [decide_eq_false J] at k ⊢
   refine g8 ?_
   refine⟨_,rfl,_,_,rfl,rfl,_,rfl,?_⟩
   have af:(!decide ((⟨#[c]⟩:Str).cps.toList < (Str.ofString " ").cps.toList))=decide (32<=c):=by
    show(!decide (([c]:List Nat) < [32]))=_
    rw [Ab]
    by_cases h:c < 32
    ·rw [decide_eq_true h,decide_eq_false (by(clear J U cp;omega))];rfl
    ·rw [decide_eq_false h,decide_eq_true (by(clear J U cp;omega))];rfl
   rw [af]
   by_cases aa:32<=c
   ·rw [decide_eq_true aa] at k ⊢
    refine gU ⟨_,_,rfl,rfl,_,rfl,?_⟩
    have ag:(!decide ((Str.ofString "~").cps.toList < (⟨#[c]⟩:Str).cps.toList))=decide (c<=126):=by
     show(!decide (([126]:List Nat) < [c]))=_
     rw [Ab]
     by_cases h:126 < c
     ·rw [decide_eq_true h,decide_eq_false (by(clear aa af J U cp;omega))];rfl
     ·rw [decide_eq_false h,decide_eq_true (by(clear aa af J U cp;omega))];rfl
    rw [ag]
    by_cases ae:c<=126
    ·rw [decide_eq_true ae] at k ⊢
     refine gU ⟨_,rfl,_,rfl,rfl,rfl,?_⟩
     have ah:decide (V.int (((⟨#[c]⟩:Str).cps.getD 0 0:Nat):Int)=V.int 37)=decide (c=37):=by
      rw [uP]
      by_cases h:c=37
      ·subst h;rfl
      ·rw [decide_eq_false h]
       exact beq_eq_false_iff_ne.mpr fun z=>h (by have z':((c:Nat):Int)=37:=z;(clear z h ae ag aa af J U cp;omega))
     rw [ah]
     exact k
    ·rw [decide_eq_false ae] at k ⊢
     exact g8 k
   ·rw [decide_eq_false aa] at k ⊢
    exact g8 ⟨_,rfl,g8 k⟩
theorem str_len(z:Str):z.cps.toList.length=z.length:=by simp [Str.length]
theorem Dz{z:Str}{i c:Nat}(h:z.cps[i]? =some c):z.cps.toList[i]? =some c:=by simpa using h
theorem yi:(["sign"]:List Str).Nodup:=dkq
noncomputable def ze(K:W.Frag):Sp:=fun vs H Q _=>∃ x,vs=[x]/\Known K H x/\nU x/\∀ H',gO H H'->Q (.bl (kl x)) H'
theorem GU:iU ["thing"] ["thing"] (iu oo):=⟨rfl,rfl,rfl,dkq,rfl,dkq,dkq⟩
theorem Hn{x:V}(h:mR x=false):kl x=false:=by cases x<;>first | rfl | cases h
theorem isStr{x:V}(h:mR x=true):∃ z,x= .str z:=by cases x<;>first | exact⟨_,rfl⟩ | cases h
seal iD PS PE PT PA PG PI iX iW in
theorem Gv{f fs:Addr}{fd fds:FuncData}(D:Df K mg "is_text" oo f fd)(DS:Df K mg "is_text_sign" qv fs fds)(T:Txt mg):hZ P w K mg base iw 2 f fd ["thing"] (ze K):=by
 obtain⟨tc,J⟩:=T.cText
 have GS:hZ P w K mg base iw 1 fs fds ["sign"] xH:=Hq DS T
 have bS:=jM (p:="sign") DS.F fun _ _ _ _ _ _ _=>rfl
 refine D.F.ok GU (fun vs H Q E h=>?_) (fun cdv A outer s H vs Q E hr h=>?_)
 ·obtain⟨x,rfl,_⟩:=h
  rfl
 ·obtain⟨x,rfl,⟨n,U⟩,aa,k⟩:=h
  refine⟨_,gS (iN (PW.pt (jj (jG (jm (ir kB rfl T.isi je (gN (pv 0) (gN (jX (v:= .ty "str") rfl T.str rQ rfl) gP)))))
    (jH (iq ng (ir kg rfl T.len i0 (gN (pv 0) gP)) (jA (v:= .int 2000) rfl J ⟨_,rfl⟩) (iy _))))) (g0 (iC jW)) iL)
   (g0 (iC (ir (Dr rfl) rfl T.all HD (gN (nr (own:=1) (caps:=[]) (N:=["sign"]) (N0:=["thing"]) (sc0:=iu oo) rfl (yW (pv 0))
    (fun _ _ _=>iS (i:=0) yi rfl (Or.inl rfl)) (fun _ _ _=>k8)
    (fun _ _ _=>iE GS hr rfl DS.m DS.F.kp bS .nil iM (gN (pv 0) gP)) (jK (by decide)) rfl rfl
    dkq rfl dkq dkq rfl dkq) gP)))),?_⟩
  refine⟨_,rfl,x,.ty "str",_,_,rfl,U,.inl ⟨_,rfl,sq U⟩,_,rfl,?_⟩
  cases hx:mR x with
  | false=>
   refine gU (gU ?_)
   have:=k H (gO.refl H)
   rw [Hn hx] at this
   exact this
  | true=>
   obtain⟨z,rfl⟩:=isStr hx
   have hz:=aa z rfl
   have hl:(sizeLine:Nat)=16777216:=sizeLine_eq
   refine g8 ?_
   refine⟨_,rfl,z,rfl,by(clear hx J;omega),_,_,rfl,rfl,_,rfl,?_⟩
   by_cases hlen:(2000:Int) < (z.length:Int)
   ·rw [decide_eq_true hlen]
    refine gU ?_
    have:=k H (gO.refl H)
    have e:kl (.str z)=false:=by
     show(decide (z.length<=2000) && _)=false
     rw [decide_eq_false (by(clear hl hz hx J;omega)),Bool.false_and]
    rw [e] at this
    exact this
   ·rw [decide_eq_false hlen]
    refine g8 ?_
    have sz:z.cps.size=z.length:=rfl
    refine⟨_,rfl,z,rfl,wR (x:=z) (fun i ys H'=>gO H H'/\ys=((z.cps.toList.take i).map fun c=>V.bl (iG c))) (by(clear hlen hx J;omega)) ⟨gO.refl H,rfl⟩ ?_ ?_⟩
    ·rintro i c ys H' N hc ⟨sm,rfl⟩ hN
     refine g1 ?_
     refine⟨_,rfl,c,rfl,hN _ _ ⟨sm,?_⟩⟩
     rw [List.take_add_one,Dz hc,List.map_append]
     rfl
    ·rintro ys H' ⟨sm,rfl⟩ _ p hp
     refine⟨p,z.cps.toList.map iG,rfl,gR.of (by rw [gY,List.take_of_length_le (by simp)];simp),?_⟩
     have:=k (upd H' p (.lst ((z.cps.toList.take z.cps.size).map fun c=>V.bl (iG c)))) (gO.upd sm hp)
     have e:kl (.str z)=(z.cps.toList.map iG).all id:=by
      show(decide (z.length<=2000) && _)=_
      rw [decide_eq_true (by(clear hp sz hl hz hx J;omega)),Bool.true_and,List.all_map]
      rfl
     rw [e] at this
     exact this
theorem FY{f g:Nat->Bool}(h:∀ c,c < 128->f c=g c)(hf:∀ c,f c=true->c < 128)(hg:∀ c,g c=true->c < 128)(c:Nat):f c=g c:=by
 by_cases hc:c < 128
 ·exact h c hc
 ·cases ef:f c with
  | true=>exact absurd (hf c ef) hc
  | false=>
   cases eg:g c with
   | true=>exact absurd (hg c eg) hc
   | false=>rfl
theorem ES{l:List Nat}(h:l.all (fun x=>decide (x < 128))=true)(c:Nat)(e:decide (c∈l)=true):c < 128:=of_decide_eq_true (List.all_eq_true.mp h c (of_decide_eq_true e))
noncomputable abbrev FN:Str:=Str.ofString "abcdefghijklmnopqrstuvwxyz0123456789"
theorem Fv:∀ c:Nat,decide (c∈FN.cps.toList)=iJ c:=FY dkq (ES dkq) fun c h=>mX h
theorem FW(c:Nat):(!(Builtin.Str.occurrences (Str.ofString "abcdefghijklmnopqrstuvwxyz0123456789") ⟨#[c]⟩ 0 (Str.ofString "abcdefghijklmnopqrstuvwxyz0123456789").length 1).isEmpty)=iJ c:=by
 rw [PySem.StrLaws.found_one]
 exact Fv c
noncomputable def wU(K:W.Frag)(p:V->Bool)(C:Addr):Sp:=fun vs H Q E=>∃ x,vs=[x]/\Known K H x/\nU x/\(p x=true->∀ H',gO H H'->Q x H')/\(p x=false->∀ H',gO H H'->E (.ref C) none H')
theorem DV:iU ["thing"] ["thing"] (iu qk):=⟨rfl,rfl,rfl,dkq,rfl,dkq,dkq⟩
seal iD PS PE PT PA PG PI iX iW in
theorem Bf{f ft C:Addr}{fd fdt:FuncData}(D:Df K mg "need_text" qk f fd)(DT:Df K mg "is_text" oo ft fdt)(X:Ex K mg "BadText" C)(GT:hZ P w K mg base iw 2 ft fdt ["thing"] (ze K)):hZ P w K mg base (jy P w) 3 f fd ["thing"] (wU K kl C):=by
 have bT:=jM (p:="thing") DT.F fun _ _ _ _ _ _ _=>rfl
 refine D.F.ok2 DV (fun vs H Q E h=>?_) (fun cdv A outer s H vs Q E hr h=>?_)
 ·obtain⟨x,rfl,_⟩:=h
  rfl
 ·obtain⟨x,rfl,hk,J,k1,k2⟩:=h
  refine⟨_,gS (iN (jG (jm (iE GT hr rfl DT.m DT.F.kp bT .nil iM (gN (pv 0) gP)))) (g0 (lP rfl X.q F.excBase_ValueError dkq F.excBase_ValueError rfl X.m (gN gZ gP) mV)) iL)
   (g0 (iC (pv 0))),?_⟩
  refine⟨_,rfl,x,rfl,hk,J,fun H' U=>⟨_,rfl,?_⟩⟩
  cases hx:kl x with
  | false=>exact gU ⟨by show 1<=sizeLine;decide,k2 hx H' U⟩
  | true=>exact g8 ⟨_,rfl,k1 hx H' U⟩
theorem uX{H0 H:Hp}{a t:Addr}{o o':HO}(s:gO H0 H)(ha:H0 a=none)(ht:H t=none):gO H0 (upd (upd H t o) a o'):=fun b u e=>by
 rw [ig (jo e ha),ig (jo (s b u e) ht)]
 exact s b u e
noncomputable def lu(x:Wd):HO:= .tup [.str ⟨x.1.toArray⟩,.int x.2.1,.int x.2.2]
structure WL (H : Hp) (a : Addr) (ws : List Wd) : Prop where
 ex : ∃ ps : List Addr, H a = some (.lst (ps.map V.ref)) /\ Paired (fun p x => H p = some (lu x)) ps ws
theorem WL.same {H H':Hp}{a:Addr}{ws:List Wd}(h:WL H a ws)(s:gO H H'):WL H' a ws:=by
 obtain⟨ps,e,p⟩:=h.ex
 exact⟨ps,s _ _ e,Paired.imp2 p fun _ _ q=>s _ _ q⟩
theorem WL.more {H:Hp}{a t:Addr}{ws:List Wd}{x:Wd}{ps:List Addr}(e:H a=some (.lst (ps.map V.ref)))(p:Paired (fun p x=>H p=some (lu x)) ps ws)(ht:H t=none):
  WL (upd (upd H t (lu x)) a (.lst (ps.map V.ref++[.ref t]))) a (ws++[x]):=by
 have J:t≠a:=fun z=>by rw [z,e] at ht;cases ht
 refine⟨ps++[t],by rw [gY,List.map_append];rfl,?_⟩
 refine Paired.app (Paired.imp2 p fun q y h=>?_) (by rw [ig J,gY])
 have h1:q≠a:=fun z=>by rw [z,e] at h;cases h
 have h2:q≠t:=jo h ht
 rw [ig h1,ig h2]
 exact h
noncomputable def codes(x:Str):List Nat:=x.cps.toList
noncomputable def Drawn(x:Str):Prop:=x.length<=2000/\(codes x).all iG=true
theorem toStr(x:Str):(⟨(codes x).toArray⟩:Str)=x:=by unfold codes;simp
theorem jw(a b:List Nat):(⟨a.toArray⟩:Str)++⟨b.toArray⟩=⟨(a++b).toArray⟩:=by
 show(⟨a.toArray++b.toArray⟩:Str)=_
 simp
theorem iB(a:List Nat):(⟨a.toArray⟩:Str).length=a.length:=by simp [Str.length]
theorem tL:Str.ofString ""=⟨([]:List Nat).toArray⟩:=rfl
theorem qJ{a b:List Nat}(h:a.length + b.length<=5000):(⟨a.toArray⟩:Str).length + (⟨b.toArray⟩:Str).length<=sizeLine:=by
 rw [iB,iB,sizeLine_eq]
 omega
theorem mK(a b:List Nat):decide (V.str ⟨a.toArray⟩=V.str ⟨b.toArray⟩)=decide (a=b):=by
 by_cases h:a=b
 ·subst h;simp
 ·rw [decide_eq_false h]
  exact decide_eq_false fun z=>h (by injection z with z;injection z with z;simpa using z)
theorem sD(l:List Nat){a b:Nat}(hab:a<=b)(hb:b<=l.length):Txt.slice ⟨l.toArray⟩ (some (a:Int)) (some (b:Int))=⟨((l.drop a).take (b - a)).toArray⟩:=by
 have h:=PySem.StrLaws.sliceText_nat (⟨l.toArray⟩:Str) hab (by rw [iB];exact hb)
 have e:(⟨l.toArray⟩:Str).cps.toList=l:=by simp
 rw [e] at h
 exact h
theorem CY{z:Str}(h:(codes z).all iG=true):Txt.lower z=⟨((codes z).map K01.lo).toArray⟩:=by
 rw [lower_ascii fun c hc=>tZ (List.all_eq_true.mp h c hc)]
 show(⟨z.cps.map K01.lo⟩:Str)=_
 congr 1
 unfold codes
 apply Array.toList_inj.mp
 simp
theorem C5{z:Str}(h:kl (.str z)=true):Drawn z:=by
 have h':(decide (z.length<=2000) && z.cps.toList.all iG)=true:=h
 rw [Bool.and_eq_true] at h'
 exact⟨of_decide_eq_true h'.1,h'.2⟩
theorem sM{z:Str}(h:Drawn z):kl (.str z)=true:=by
 show(decide (z.length<=2000) && z.cps.toList.all iG)=true
 rw [decide_eq_true h.1,Bool.true_and]
 exact h.2
noncomputable def Aq(K:W.Frag)(C:Addr):Sp:=fun vs H Q E=>∃ x,vs=[x]/\Known K H x/\nU x/\(∀ z,x= .str z->Drawn z->∀ a H',gO H H'->H a=none->WL H' a (words (codes z))->Q (.ref a) H')/\(kl x=false->∀ H',gO H H'->E (.ref C) none H')
theorem nG:iU ["text","small","found","begin","place","sign"] ["text"] (iu qo):=⟨rfl,rfl,rfl,dkq,rfl,dkq,dkq⟩
seal iD PS PE PT PA PG PI iX iW in
theorem AJ{f ft C:Addr}{fd fdt:FuncData}(D:Df K mg "words_in" qo f fd)(DT:Df K mg "need_text" qk ft fdt)(GT:hZ P w K mg base (jy P w) 3 ft fdt ["thing"] (wU K kl C))(T:Txt mg):hZ P w K mg base (jy P w) 4 f fd ["text"] (Aq K C):=by
 obtain⟨tc,cc⟩:=T.cSmall
 have bT:=jM (p:="thing") DT.F fun _ _ _ _ _ _ _=>rfl
 refine D.F.ok2 nG (fun vs H Q E h=>?_) (fun cdv A outer s H vs Q E hr h=>?_)
 ·obtain⟨x,rfl,_⟩:=h
  rfl
 ·obtain⟨x,rfl,hk,aG,k1,k2⟩:=h
  have hl:(sizeLine:Nat)=16777216:=sizeLine_eq
  refine⟨_,gS (hU (i:=1) nG.nd rfl (Or.inl rfl) (rG F.plainAttrs_str F.slot_str_lower F.type_str_lower HS (iE GT hr rfl DT.m DT.F.kp bT .nil (nv (E':=E) (fun _ _ _ h=>h)) (gN (pv 0) gP))))
   (gS (hU (i:=2) nG.nd rfl (Or.inl rfl) (iK gP)) (gS (hU (i:=3) nG.nd rfl (Or.inl rfl) gQ)
   (gS (PS.nox (kR PassesOwn.never rfl (Ay rfl T.enum (gN (gX jF (pv 1) gZ) gP)) (kS rfl (jx (iS (i:=4) nG.nd rfl (Or.inl rfl)) (jx (iS (i:=5) nG.nd rfl (Or.inl rfl)) k7)))
    (g0 (iN (iq zt (pv 5) (jA (v:= .str (Str.ofString "abcdefghijklmnopqrstuvwxyz0123456789")) rfl cc ⟨_,rfl⟩) rfl)
     (gS (iN (iq lW (pv 3) (pv 4) (iy _))
      (g0 (ke (jr F.plainAttrs_list F.slot_list_append F.type_list_append kj (pv 2) (gN (ja (gN (js jU (pv 1) (i5 (pv 3)) (i5 (pv 4))) (gN (pv 3) (gN (pv 4) gP)))) gP)))) iL)
     (g0 (hU (i:=3) nG.nd rfl (Or.inl rfl) (gX jb (pv 4) gQ)))) iL))))
   (g0 (iC (pv 2)))))),?_⟩
  refine⟨_,rfl,x,rfl,hk,aG,fun ht H1 s1=>?_,k2⟩
  obtain⟨z,rfl⟩:∃ z,x= .str z:=by cases x<;>first | exact⟨_,rfl⟩ | cases ht
  have hd:=C5 ht
  obtain⟨hlen,hok⟩:=id hd
  have U:(codes z).length=z.length:=by unfold codes;simp [Str.length]
  refine⟨rfl,z,rfl,rfl,by(clear U hok ht hl cc;omega),?_⟩
  rw [CY hok]
  refine⟨Nat.zero_le _,fun a ha=>?_⟩
  have ao:H a=none:=s1.free ha
  refine⟨_,rfl,_,_,rfl,rfl,qJ (b:=[32]) (by simp;(clear ao ha hok ht hl cc;omega)),_,rfl,?_⟩
  have au:(⟨((codes z).map K01.lo).toArray⟩:Str)++Str.ofString " "=⟨((codes z).map K01.lo++[32]).toArray⟩:=jw _ [32]
  rw [au]
  have aa:iY ((codes z).map K01.lo++[32]) 0 []=words (codes z):=uQ _ 0 []
  have av:(⟨((codes z).map K01.lo++[32]).toArray⟩:Str).cps.size=z.length + 1:=by simp [U]
  refine ET (fun i σ H'=>∃(ds:List Wd) (wd:List Nat) (b:Nat) (v4 v5:Option V),σ=[some (.str z),some (.str ⟨((codes z).map K01.lo).toArray⟩),some (.ref a),some (.int b),v4,v5]/\gO H H'/\WL H' a ds/\b + wd.length=i/\
    wd=(((codes z).map K01.lo++[32]).drop b).take wd.length/\ds.length<=i/\i<=z.length + 1/\(i=z.length + 1->wd=[])/\ds++iY (((codes z).map K01.lo++[32]).drop i) i wd=words (codes z)) ?_ ?_ ?_
  ·exact⟨[],[],0,none,none,rfl,gO.upd s1 ha,⟨[],gY,.nil⟩,rfl,rfl,Nat.le_refl _,Nat.zero_le _,fun _=>rfl,aa⟩
  ·intro i c σ H' t hc hP af
   refine vb fun B D' hB aD=>?_
   obtain⟨ds,wd,b,v4,v5,rfl,sm,hW,hb,ah,aw,_,aC,heq⟩:=hP
   have aq:i < ((codes z).map K01.lo++[32]).length:=by
    have:i < (⟨((codes z).map K01.lo++[32]).toArray⟩:Str).cps.size:=(Array.getElem?_eq_some_iff.mp hc).1
    simpa using this
   have ar:i < z.length + 1:=by simpa [U] using aq
   have ag:((codes z).map K01.lo++[32])[i]? =some c:=by simpa using hc
   have J:((codes z).map K01.lo++[32]).drop i=c::((codes z).map K01.lo++[32]).drop (i + 1):=by
    rw [List.drop_eq_getElem_cons aq]
    congr 1
    rw [List.getElem?_eq_getElem aq] at ag
    exact Option.some.inj ag
   obtain⟨ps,eA,pA⟩:=hW.ex
   have ae:=Paired.len pA
   have aE:gO H (upd H' t (.tup [.int i,.str ⟨#[c]⟩])):=gO.upd sm af
   have ak:a≠t:=jo eA af
   refine⟨t,_,rfl,ia.of gY,rfl,_,_,rfl,_,_,rfl,rfl,?_⟩
   refine nR (R:=B) hB ?_
   refine⟨_,rfl,_,_,rfl,rfl,_,rfl,?_⟩
   rw [FW]
   cases hS:iJ c with
   | true=>
    refine g8 ?_
    refine aD _ _ ⟨ds,wd++[c],b,_,_,rfl,aE,hW.same (hJ af),by simp;(clear hS ak ae eA J ag ar aq af heq aw ah hc av aa au ao ha U hok hlen ht hl cc;omega),?_,by(clear hS ak ae eA J ag ar aq af heq ah hb hc av aa au ao ha U hok hlen ht hl cc;omega),by(clear hS ak ae eA J ag aq af heq aw ah hb hc av aa au ao ha U hok hlen ht hl cc;omega),fun e=>?_,?_⟩
    ·have hg:(((codes z).map K01.lo++[32]).drop b)[wd.length]? =some c:=by rw [List.getElem?_drop,hb];exact ag
     rw [List.length_append,List.length_singleton,List.take_add_one,<-ah,hg]
     rfl
    ·have e':i=((codes z).map K01.lo).length:=by rw [List.length_map,U];(clear hS ak ae eA J ag ar aq af heq aw ah hb hc av aa au ao ha U hok hlen ht hl cc;omega)
     rw [e',List.getElem?_append_right (Nat.le_refl _),Nat.sub_self] at ag
     have:c=32:=by simpa using ag.symm
     rw [this] at hS
     exact absurd hS (by decide)
    ·rw [J,kG hS] at heq
     exact heq
   | false=>
    refine gU ?_
    rw [J,kd hS,<-List.append_assoc] at heq
    refine⟨_,rfl,_,rfl,_,_,rfl,rfl,_,rfl,?_⟩
    by_cases aA:b < i
    ·rw [decide_eq_true (by(clear hS ak ae eA J ag ar aq af heq aw ah hb hc av aa au ao ha U hok hlen ht hl cc;omega))]
     refine gU ?_
     have ax:wd≠[]:=fun e=>by rw [e] at hb;simp at hb;(clear e hS ak ae eA J ag ar aq af heq aw ah hc av aa au ao ha U hok hlen ht hl cc;omega)
     refine⟨_,rfl,.inl ⟨rfl,_,gR.of (by rw [ig ak];exact eA)⟩,_,rfl,_,rfl,_,rfl,_,rfl,_,rfl,_,rfl,by rw [iB,List.length_map];(clear ax aA hS ak ae eA J ag ar aq af heq aw ah hb hc av aa au ao ha hok ht cc;omega),?_⟩
     rw [sD _ (by(clear ax aA hS ak ae eA J ag ar aq af heq aw ah hc av aa au ao ha U hok hlen ht hl cc;omega)) (by rw [List.length_map];(clear ax aA hS ak ae eA J ag aq af heq aw ah hb hc av aa au ao ha hok hlen ht hl cc;omega))]
     refine⟨_,rfl,_,rfl,(by show 3<=sizeLine;decide),fun t2 aB=>?_⟩
     have ay:a≠t2:=jo (show upd H' t (.tup [.int i,.str ⟨#[c]⟩]) a=some (.lst (ps.map V.ref)) by rw [ig ak];exact eA) aB
     refine⟨a,_,_,rfl,rfl,by rw [ig ay,ig ak];exact eA,by simp;(clear ay aB ax aA hS ak eA J ag ar aq af heq ah hb hc av aa au ao ha U hok ht cc;omega),?_⟩
     have ew:((((codes z).map K01.lo).drop b).take (i - b))=wd:=by
      have e1:wd.length=i - b:=by(clear ay aB ax aA hS ak ae eA J ag ar aq af heq aw ah hc av aa au ao ha U hok hlen ht hl cc;omega)
      rw [e1,List.drop_append_of_le_length (by rw [List.length_map];(clear e1 ay aB ax aA hS ak ae eA J ag aq af heq aw ah hc av aa au ao ha hok hlen ht hl cc;omega)),List.take_append_of_le_length (by rw [List.length_drop,List.length_map];(clear e1 ay aB ax aA hS ak ae eA J ag aq af heq aw ah hb hc av aa au ao ha hok hlen ht hl cc;omega))] at ah
      exact ah.symm
     rw [ew]
     refine⟨_,rfl,_,_,rfl,rfl,?_⟩
     have et:HO.tup [V.str ⟨wd.toArray⟩,V.int (b:Int),V.int (i:Int)]=lu (wd,i - wd.length,i):=by
      unfold lu
      show HO.tup [_,V.int ((b:Nat):Int),_]=HO.tup [_,V.int ((i - wd.length:Nat):Int),_]
      rw [show b=i - wd.length by(clear ew ay aB ax aA hS ak ae eA J ag ar aq af heq aw ah hc av aa au ao ha U hok hlen ht hl cc;omega)]
     rw [et]
     have aF:flush i wd=[(wd,i - wd.length,i)]:=by unfold flush;rw [if_neg ax]
     rw [aF] at heq
     refine aD _ _ ⟨ds++[(wd,i - wd.length,i)],[],i + 1,_,_,rfl,uX aE ao aB,WL.more (by rw [ig ak];exact eA) (Paired.imp2 pA fun p y q=>by rw [ig (jo q af)];exact q) aB,by simp,by simp,by simp;(clear aF et ew ay aB ax aA hS ak ae eA J ag ar aq af heq ah hb hc av aa au ao ha U hok hlen ht hl cc;omega),by(clear aF et ew ay aB ax aA hS ak ae eA J ag aq af heq aw ah hb hc av aa au ao ha U hok hlen ht hl cc;omega),fun _=>rfl,heq⟩
    ·rw [decide_eq_false (by(clear hS ak ae eA J ag ar aq af heq aw ah hb hc av aa au ao ha U hok hlen ht hl cc;omega))]
     refine g8 ?_
     have ax:wd=[]:=List.eq_nil_of_length_eq_zero (by(clear hS ak ae eA J ag ar aq af heq aw ah hc av aa au ao ha U hok hlen ht hl cc;omega))
     subst ax
     refine⟨_,rfl,_,_,rfl,rfl,?_⟩
     refine aD _ _ ⟨ds,[],i + 1,_,_,rfl,aE,hW.same (hJ af),by simp,by simp,by(clear heq ah hb aA hS ak ae eA J ag ar aq af hc av aa au ao ha U hok hlen ht hl cc;omega),by(clear heq ah hb aA hS ak ae eA J ag aq af aw hc av aa au ao ha U hok hlen ht hl cc;omega),fun _=>rfl,?_⟩
     simpa [flush] using heq
  ·rintro σ H' ⟨ds,wd,b,v4,v5,rfl,sm,hW,hb,ah,aw,aH,aC,heq⟩
   rw [av] at aC heq
   have ax:=aC rfl
   subst ax
   rw [List.drop_of_length_le (by simp [U])] at heq
   have e:ds=words (codes z):=by simpa [iY,flush] using heq
   subst e
   exact⟨_,rfl,k1 z rfl hd a H' sm ao hW⟩
noncomputable def kh(c:Nat):List Nat:=if iJ (K01.lo c) then [K01.lo c] else []
noncomputable def zh:Sp:=fun vs H Q _=>∃ c:Nat,vs=[.str ⟨#[c]⟩]/\iG c=true/\Q (.str ⟨(kh c).toArray⟩) H
theorem uI:iU ["_law_sign","_law_great","_law_small_here"] ["_law_sign"] (iu qd):=⟨rfl,rfl,rfl,dkq,rfl,dkq,dkq⟩
theorem oB(x:String)(c:Nat):(!(Builtin.Str.occurrences (Str.ofString x) ⟨#[c]⟩ 0 (Str.ofString x).length 1).isEmpty)=decide (c∈(Str.ofString x).cps.toList):=PySem.StrLaws.found_one _ _
theorem wY:(Str.ofString "ABCDEFGHIJKLMNOPQRSTUVWXYZ").cps.toList=List.range' 65 26:=dkq
theorem Ag:(Str.ofString "abcdefghijklmnopqrstuvwxyz").cps.toList=List.range' 97 26:=dkq
theorem AB:(Str.ofString "0123456789").cps.toList=List.range' 48 10:=dkq
theorem CK:∀ c,c < 128->65<=c->c<=90->Txt.find (Str.ofString "ABCDEFGHIJKLMNOPQRSTUVWXYZ") ⟨#[c]⟩=((c - 65:Nat):Int):=dkq
seal iD PS PE PT PA PG PI iX iW in
theorem DY{f:Addr}{fd:FuncData}(D:Df K mg "_law_small" qd f fd):hZ P w K mg base iw 1 f fd ["_law_sign"] zh:=by
 refine D.F.ok uI (fun vs H Q E h=>?_) (fun cdv A outer s H vs Q E hr h=>?_)
 ·obtain⟨c,rfl,_⟩:=h
  rfl
 ·obtain⟨c,rfl,hok,k⟩:=h
  have J:=tZ hok
  refine⟨_,gS (hU (i:=1) uI.nd rfl (Or.inl rfl) gZ) (gS (hU (i:=2) uI.nd rfl (Or.inl rfl) gZ)
   (gS (iN (iq qZ (pv 0) (pv 1) rfl) (g0 (iC (g9 me (pv 2) (jr F.plainAttrs_str F.slot_str_index F.type_str_index (DD rfl) (pv 1) (gN (pv 0) gP)) (fun _ _=>rfl)))) iL)
   (gS (iN (PW.pt (jj (iq qZ (pv 0) (pv 2) rfl) (jH (iq qZ (pv 0) gZ rfl)))) (g0 (iC (pv 0))) iL)
   (g0 (iC gZ))))),?_⟩
  refine⟨_,rfl,_,rfl,_,_,rfl,rfl,_,rfl,?_⟩
  rw [oB,wY]
  by_cases U:65<=c/\c<=90
  ·rw [decide_eq_true (by rw [List.mem_range'_1];(clear J hok;omega))]
   refine gU ?_
   have hf:=CK c J U.1 U.2
   refine⟨_,rfl,_,rfl,rfl,_,rfl,_,_,rfl,rfl,?_,_,_,c + 32,rfl,rfl,by decide,?_,?_⟩
   ·have e:=oB "ABCDEFGHIJKLMNOPQRSTUVWXYZ" c
    rw [wY,decide_eq_true (by rw [List.mem_range'_1];(clear e hf J hok;omega))] at e
    simpa using e
   ·rw [hf,Ag]
    refine ik ?_
    rw [List.getElem?_range' (by(clear hf J hok;omega))]
    congr 1
    (clear hf J hok;omega)
   ·have e:kh c=[c + 32]:=by
     unfold kh K01.lo
     rw [if_pos U,if_pos]
     unfold iJ
     simp only [Bool.or_eq_true,Bool.and_eq_true,decide_eq_true_eq]
     (clear hf J hok;omega)
    rw [e] at k
    exact k
  ·rw [decide_eq_false (by rw [List.mem_range'_1];(clear J hok;omega))]
   refine g8 ?_
   have el:K01.lo c=c:=by unfold K01.lo;rw [if_neg U]
   refine⟨_,rfl,_,rfl,_,_,rfl,rfl,_,rfl,?_⟩
   rw [oB,Ag]
   by_cases hs:97<=c/\c<=122
   ·rw [decide_eq_true (by rw [List.mem_range'_1];(clear el U J hok;omega))]
    refine gU (gU ⟨_,rfl,?_⟩)
    have e:kh c=[c]:=by
     unfold kh
     rw [el,if_pos]
     unfold iJ
     simp only [Bool.or_eq_true,Bool.and_eq_true,decide_eq_true_eq]
     (clear el U J hok;omega)
    rw [e] at k
    exact k
   ·rw [decide_eq_false (by rw [List.mem_range'_1];(clear el U J hok;omega))]
    refine g8 ⟨_,rfl,_,_,rfl,rfl,_,rfl,?_⟩
    rw [oB,AB]
    by_cases hd:48<=c/\c<=57
    ·rw [decide_eq_true (by rw [List.mem_range'_1];(clear hs el U J hok;omega))]
     refine gU ⟨_,rfl,?_⟩
     have e:kh c=[c]:=by
      unfold kh
      rw [el,if_pos]
      unfold iJ
      simp only [Bool.or_eq_true,Bool.and_eq_true,decide_eq_true_eq]
      (clear hs el U J hok;omega)
     rw [e] at k
     exact k
    ·rw [decide_eq_false (by rw [List.mem_range'_1];(clear hs el U J hok;omega))]
     refine g8 ?_
     have e:kh c=[]:=by
      unfold kh
      rw [el,if_neg]
      unfold iJ
      simp only [Bool.or_eq_true,Bool.and_eq_true,decide_eq_true_eq]
      (clear el U J hok;omega)
     rw [e] at k
     exact k
noncomputable def qj:Sp:=fun vs H Q _=>∃ x,vs=[.str x]/\Drawn x/\∀ a H',gO H H'->H a=none->WL H' a (words (codes x))->Q (.ref a) H'
theorem mU:iU ["_law_text_here","_law_found","_law_word","_law_at","_law_sign"] ["_law_text_here"] (iu mO):=⟨rfl,rfl,rfl,dkq,rfl,dkq,dkq⟩
seal iD PS PE PT PA PG PI iX iW in
theorem E5{f fs:Addr}{fd fds:FuncData}(D:Df K mg "_law_words" mO f fd)(DS:Df K mg "_law_small" qd fs fds)(T:Txt mg):hZ P w K mg base iw 2 f fd ["_law_text_here"] qj:=by
 have GS:hZ P w K mg base iw 1 fs fds ["_law_sign"] zh:=DY DS
 have bS:=jM (p:="_law_sign") DS.F fun _ _ _ _ _ _ _=>rfl
 refine D.F.ok mU (fun vs H Q E h=>?_) (fun cdv A outer s H vs Q E hr h=>?_)
 ·obtain⟨x,rfl,_⟩:=h
  rfl
 ·obtain⟨x,rfl,⟨hlen,hok⟩,kk⟩:=h
  have hl:(sizeLine:Nat)=16777216:=sizeLine_eq
  have U:(codes x).length=x.length:=by unfold codes;simp [Str.length]
  refine⟨_,gS (hU (i:=1) mU.nd rfl (Or.inl rfl) (iK gP)) (gS (hU (i:=2) mU.nd rfl (Or.inl rfl) gZ)
   (gS (kR PassesOwn.never rfl (nt rfl T.range (gN (gX jb (ir kg rfl T.len i0 (gN (pv 0) gP)) gQ) gP)) (iS (i:=3) mU.nd rfl (Or.inl rfl))
    (gS (hU (i:=4) mU.nd rfl (Or.inl rfl) gZ)
    (gS (iN (iq lW (pv 3) (ir kg rfl T.len i0 (gN (pv 0) gP)) (iy _))
     (g0 (hU (i:=4) mU.nd rfl (Or.inl rfl) (iE GS hr rfl DS.m DS.F.kp bS .nil iM (gN (g9 me (pv 0) (pv 3) (fun _ _=>rfl)) gP)))) iL)
    (gS (iN (PW.pt (tY (iq jD (pv 4) gZ (iy _)) (tu (iq lh (pv 2) gZ (iy _)))))
     (gS (ke (jr F.plainAttrs_list F.slot_list_append F.type_list_append kj (pv 1)
       (gN (ja (gN (pv 2) (gN (gX lR (pv 3) (ir kg rfl T.len i0 (gN (pv 2) gP))) (gN (pv 3) gP)))) gP)))
      (g0 (hU (i:=2) mU.nd rfl (Or.inl rfl) gZ))) iL)
    (g0 (hU (i:=2) mU.nd rfl (Or.inl rfl) (gX jF (pv 2) (pv 4))))))))
   (g0 (iC (pv 1))))),?_⟩
  refine⟨Nat.zero_le _,fun a ha=>?_⟩
  refine⟨_,rfl,x,rfl,by(clear ha U hok;omega),_,_,rfl,rfl,_,rfl,by(clear ha U hl hok hlen;omega),by(clear ha U hl hok;omega),?_⟩
  have en:(((x.length:Nat):Int) + 1).toNat=x.length + 1:=by(clear ha U hl hok hlen;omega)
  rw [en]
  refine oQ (fun i σ H'=>∃(ds:List Wd) (wd:List Nat) (v3 v4:Option V),σ=[some (.str x),some (.ref a),some (.str ⟨wd.toArray⟩),v3,v4]/\gO H H'/\WL H' a ds/\wd.all iJ=true/\wd.length<=i/\ds.length<=i/\
    ((i<=x.length/\ds++iY (((codes x).map K01.lo).drop i) i wd=words (codes x))\/(i=x.length + 1/\ds=words (codes x)))) ?_ ?_ ?_
  ·exact⟨[],[],none,none,rfl,hJ ha,⟨[],gY,.nil⟩,rfl,Nat.le_refl _,Nat.le_refl _,.inl ⟨Nat.zero_le _,rfl⟩⟩
  ·intro i σ H' hi hP
   refine vb fun B D' hB ax=>?_
   obtain⟨ds,wd,v3,v4,rfl,sm,hW,ae,ag,ah,hm⟩:=hP
   have aA:i<=x.length/\ds++iY (((codes x).map K01.lo).drop i) i wd=words (codes x):=by
    rcases hm with q | ⟨q,_⟩
    ·exact q
    ·(clear ah ag ae en ha U hl hok hlen;omega)
   obtain⟨af,heq⟩:=aA
   have e0:(0:Int) + (i:Nat)=(i:Int):=by(clear heq af hm ah ag ae hi en ha U hl hok hlen;omega)
   rw [e0]
   have rest:∀(sg:List Nat),((sg=[]/\((i < x.length->False)\/∃ c,(codes x)[i]? =some c/\iJ (K01.lo c)=false))\/∃ c,(codes x)[i]? =some c/\iJ (K01.lo c)=true/\sg=[K01.lo c])->sg.length<=1->True:=fun _ _ _=>trivial
   refine nN (R:=B) hB fun R hR=>?_
   refine nN (R:=R) hR fun R hR=>?_
   refine⟨_,rfl,_,rfl,x,rfl,by(clear e0 heq af hm ah ag ae hi en ha U hok;omega),_,_,rfl,rfl,_,rfl,?_⟩
   obtain⟨ps,eA,pA⟩:=hW.ex
   have aa:=Paired.len pA
   by_cases au:i < x.length
   ·rw [decide_eq_true (by(clear aa eA e0 heq af hm ah ag ae hi en ha U hl hok hlen;omega))]
    refine gU ?_
    have ar:i < (codes x).length:=by(clear aa eA e0 heq af hm ah ag ae hi en ha hl hok hlen;omega)
    have hc:(codes x)[i]? =some (codes x)[i]:=List.getElem?_eq_getElem ar
    have J:((codes x).map K01.lo).drop i=K01.lo (codes x)[i]::((codes x).map K01.lo).drop (i + 1):=by
     rw [List.drop_eq_getElem_cons (by rw [List.length_map];exact ar),List.getElem_map]
    have ak:iG (codes x)[i]=true:=List.all_eq_true.mp hok _ (List.getElem_mem ar)
    refine⟨_,rfl,_,rfl,x,_,(codes x)[i],rfl,rfl,by(clear ak J hc ar au aa eA e0 heq af hm ah ag ae hi en ha U hok;omega),ik hc,_,rfl,ak,?_⟩
    refine nN (R:=R) hR fun R hR=>?_
    refine⟨_,rfl,rfl,_,rfl,?_⟩
    have es:decide (V.str ⟨(kh (codes x)[i]).toArray⟩=V.str (Str.ofString ""))=decide (kh (codes x)[i]=[]):=mK _ []
    rw [es]
    cases hS:iJ (K01.lo (codes x)[i]) with
    | true=>
     have e1:kh (codes x)[i]=[K01.lo (codes x)[i]]:=by unfold kh;rw [if_pos hS]
     rw [e1,decide_eq_false (by simp)]
     refine g8 (g8 (nR (R:=R) hR ?_))
     refine⟨_,rfl,_,rfl,_,_,rfl,rfl,?_,?_⟩
     ·rw [iB,iB];simp;(clear e1 hS es ak J hc ar au aa eA e0 heq af hm ah ae en ha U hok;omega)
     ·rw [jw]
      refine ax _ _ ⟨ds,wd++[K01.lo (codes x)[i]],_,_,rfl,sm,hW,by simp [List.all_append,ae,hS],by simp;(clear e1 hS es ak J hc ar au aa eA e0 heq af hm ah ae hi en ha U hl hok hlen;omega),by(clear e1 hS es ak J hc ar au aa eA e0 heq af hm ag ae hi en ha U hl hok hlen;omega),.inl ⟨by(clear e1 hS es ak J hc ar aa eA e0 heq af hm ah ag ae hi en ha U hl hok hlen;omega),?_⟩⟩
      rw [J,kG hS] at heq
      exact heq
    | false=>
     have e1:kh (codes x)[i]=[]:=by unfold kh;rw [if_neg (by rw [hS];exact Bool.false_ne_true)]
     rw [e1,decide_eq_true rfl]
     refine gU ⟨_,rfl,rfl,_,rfl,?_⟩
     have ew:(!decide (V.str ⟨wd.toArray⟩=V.str (Str.ofString "")))= !decide (wd=[]):=by rw [show decide (V.str ⟨wd.toArray⟩=V.str (Str.ofString ""))=decide (wd=[]) from mK _ []]
     rw [ew]
     rw [J,kd hS,<-List.append_assoc] at heq
     by_cases ao:wd=[]
     ·subst ao
      rw [decide_eq_true rfl]
      refine g8 (nR (R:=R) hR ?_)
      refine⟨_,rfl,_,rfl,_,_,rfl,rfl,qJ (a:=[]) (b:=[]) (by simp),?_⟩
      rw [jw]
      refine ax _ _ ⟨ds,[],_,_,rfl,sm,hW,rfl,Nat.zero_le _,by(clear ew heq hm ag ae e1 hS es ak J hc ar au aa eA e0 af hi en ha U hl hok hlen;omega),.inl ⟨by(clear ew heq hm ag ae e1 hS es ak J hc ar aa eA e0 af ah hi en ha U hl hok hlen;omega),?_⟩⟩
      simpa [flush] using heq
     ·rw [decide_eq_false ao]
      refine gU ?_
      refine⟨_,rfl,.inl ⟨rfl,_,gR.of eA⟩,_,rfl,_,rfl,_,rfl,_,rfl,by rw [iB];(clear ao ew e1 hS es ak J hc heq ar au aa eA e0 af hm ah ae en ha U hok;omega),_,_,rfl,rfl,_,rfl,(by show 3<=sizeLine;decide),fun t ht=>?_⟩
      have av:a≠t:=jo eA ht
      refine⟨a,_,_,rfl,rfl,by rw [ig av];exact eA,by simp;(clear av ht ao ew e1 hS es ak J hc heq ar au eA e0 af hm ag ae en ha U hok;omega),?_⟩
      refine nR (R:=R) hR ?_
      refine⟨_,rfl,_,rfl,_,_,rfl,rfl,qJ (a:=[]) (b:=[]) (by simp),?_⟩
      have et:HO.tup [V.str ⟨wd.toArray⟩,V.int (((i:Nat):Int) - ((Str.length ⟨wd.toArray⟩:Nat):Int)),V.int (i:Int)]=lu (wd,i - wd.length,i):=by
       unfold lu
       rw [iB]
       show HO.tup [_,V.int _,_]=HO.tup [_,V.int ((i - wd.length:Nat):Int),_]
       rw [show((i:Nat):Int) - ((wd.length:Nat):Int)=((i - wd.length:Nat):Int) by(clear av ht ao ew e1 hS es ak J hc heq ar au aa eA e0 af hm ah ae hi en ha U hl hok hlen;omega)]
      rw [et]
      have ee:(Str.ofString "":Str)++⟨([]:List Nat).toArray⟩=⟨([]:List Nat).toArray⟩:=jw [] []
      refine ax _ _ ⟨ds++[(wd,i - wd.length,i)],[],_,_,(by rw [ee];rfl),uX sm ha ht,WL.more eA pA ht,rfl,Nat.zero_le _,by simp;(clear ee et av ht ao ew e1 hS es ak J hc heq ar au aa eA e0 af hm ag ae hi en ha U hl hok hlen;omega),.inl ⟨by(clear ee et av ht ao ew e1 hS es ak J hc heq ar aa eA e0 af hm ah ag ae hi en ha U hl hok hlen;omega),?_⟩⟩
      have ay:flush i wd=[(wd,i - wd.length,i)]:=by unfold flush;rw [if_neg ao]
      rw [ay] at heq
      exact heq
   ·rw [decide_eq_false (by(clear aa eA e0 heq af hm ah ag ae hi en ha U hl hok hlen;omega))]
    refine g8 ?_
    have aw:i=x.length:=by(clear aa eA e0 heq af hm ah ag ae en ha U hl hok hlen;omega)
    have J:((codes x).map K01.lo).drop i=[]:=List.drop_of_length_le (by rw [List.length_map];(clear aw aa eA e0 heq af hm ah ag ae hi en ha hl hok hlen;omega))
    rw [J] at heq
    have aq:ds++flush i wd=words (codes x):=heq
    refine nN (R:=R) hR fun R hR=>?_
    refine⟨_,rfl,rfl,_,rfl,?_⟩
    have es:decide (V.str (Str.ofString "")=V.str (Str.ofString ""))=true:=decide_eq_true rfl
    rw [es]
    refine gU ⟨_,rfl,rfl,_,rfl,?_⟩
    have ew:(!decide (V.str ⟨wd.toArray⟩=V.str (Str.ofString "")))= !decide (wd=[]):=by rw [show decide (V.str ⟨wd.toArray⟩=V.str (Str.ofString ""))=decide (wd=[]) from mK _ []]
    rw [ew]
    have ee:(⟨wd.toArray⟩:Str)++Str.ofString ""=⟨wd.toArray⟩:=by
     rw [tL,jw,List.append_nil]
    by_cases ao:wd=[]
    ·subst ao
     rw [decide_eq_true rfl]
     refine g8 (nR (R:=R) hR ?_)
     refine⟨_,rfl,_,rfl,_,_,rfl,rfl,qJ (a:=[]) (b:=[]) (by simp),?_⟩
     rw [ee]
     exact ax _ _ ⟨ds,[],_,_,rfl,sm,hW,rfl,Nat.zero_le _,by(clear ee ew aq heq hm ag ae es J aw au aa eA e0 af hi en ha U hl hok hlen;omega),.inr ⟨by(clear ee ew aq heq hm ag ae es J aw aa eA e0 af ah en ha U hl hok hlen;omega),by simpa [flush] using aq⟩⟩
    ·rw [decide_eq_false ao]
     refine gU ?_
     refine⟨_,rfl,.inl ⟨rfl,_,gR.of eA⟩,_,rfl,_,rfl,_,rfl,_,rfl,by rw [iB];(clear ao ee ew es aq J aw au aa eA e0 heq af hm ah ae en ha U hok;omega),_,_,rfl,rfl,_,rfl,(by show 3<=sizeLine;decide),fun t ht=>?_⟩
     have av:a≠t:=jo eA ht
     refine⟨a,_,_,rfl,rfl,by rw [ig av];exact eA,by simp;(clear av ht ao ee ew es aq J aw au eA e0 heq af hm ag ae en ha U hok;omega),?_⟩
     refine nR (R:=R) hR ?_
     refine⟨_,rfl,_,rfl,_,_,rfl,rfl,qJ (a:=[]) (b:=[]) (by simp),?_⟩
     have et:HO.tup [V.str ⟨wd.toArray⟩,V.int (((i:Nat):Int) - ((Str.length ⟨wd.toArray⟩:Nat):Int)),V.int (i:Int)]=lu (wd,i - wd.length,i):=by
      unfold lu
      rw [iB]
      show HO.tup [_,V.int _,_]=HO.tup [_,V.int ((i - wd.length:Nat):Int),_]
      rw [show((i:Nat):Int) - ((wd.length:Nat):Int)=((i - wd.length:Nat):Int) by(clear av ht ao ee ew es aq J aw au aa eA e0 heq af hm ah ae hi en ha U hl hok hlen;omega)]
     rw [et]
     have e2:(Str.ofString "":Str)++Str.ofString ""=⟨([]:List Nat).toArray⟩:=jw [] []
     have ay:flush i wd=[(wd,i - wd.length,i)]:=by unfold flush;rw [if_neg ao]
     rw [ay] at aq
     exact ax _ _ ⟨ds++[(wd,i - wd.length,i)],[],_,_,(by rw [e2];rfl),uX sm ha ht,WL.more eA pA ht,rfl,Nat.zero_le _,by simp;(clear ay e2 et av ht ao ee ew es aq J aw au aa eA e0 heq af hm ag ae hi en ha U hl hok hlen;omega),.inr ⟨by(clear ay e2 et av ht ao ee ew es aq J aw aa eA e0 heq af hm ah ag ae en ha U hl hok hlen;omega),aq⟩⟩
  ·rintro σ H' ⟨ds,wd,v3,v4,rfl,sm,hW,_,_,_,hm⟩
   rcases hm with ⟨q,_⟩ | ⟨_,q⟩
   ·(clear en ha U hl hok hlen;omega)
   ·subst q
    exact⟨_,rfl,kk a H' sm ha hW⟩
end
open PySem L2 PyProof.Rows PySem.Spec Gn K01 SH
noncomputable def jP:List Nat->Int->Nat->List Nat
 | [],_,_=>[]
 | y::l,x,k=>if (y:Int)=x then k::jP l x (k + 1) else jP l x (k + 1)
theorem wx:∀(l:List Nat) (y:Nat) (x:Int) (k:Nat),jP (l++[y]) x k=jP l x k++if (y:Int)=x then [k + l.length] else []
 | [],y,x,k=>by simp [jP]
 | z::l,y,x,k=>by
  show(if (z:Int)=x then k::jP (l++[y]) x (k + 1) else jP (l++[y]) x (k + 1))=(if (z:Int)=x then k::jP l x (k + 1) else jP l x (k + 1))++_
  rw [wx l y x (k + 1)]
  have e:k + 1 + l.length=k + (z::l).length:=by simp;omega
  rw [e]
  split<;>simp
theorem tQ:∀(l:List Nat) (x:Int) (k:Nat),(jP l x k).head? =(ix l x).map (· + k)
 | [],x,k=>rfl
 | y::l,x,k=>by
  show(if (y:Int)=x then k::jP l x (k + 1) else jP l x (k + 1)).head? =_
  unfold ix
  by_cases h:(y:Int)=x
  ·rw [if_pos h,if_pos h];simp
  ·rw [if_neg h,if_neg h,tQ l x (k + 1)]
   cases ix l x with
   | none=>rfl
   | some i=>show some _=some _;simp;omega
theorem yY{l:List Nat}{i y:Nat}(h:l[i]? =some y)(x:Int):jP (l.take (i + 1)) x 0=jP (l.take i) x 0++if (y:Int)=x then [i] else []:=by
 have J:i < l.length:=(List.getElem?_eq_some_iff.mp h).1
 rw [List.take_add_one,h]
 show jP (l.take i++[y]) x 0=_
 rw [wx,Nat.zero_add,List.length_take,Nat.min_eq_left (Nat.le_of_lt J)]
theorem ph{ws:List Wd}{i:Nat}{x:Wd}(h:ws[i]? =some x):(wB ws)[i]? =some x.2.1/\(wE ws)[i]? =some x.2.2:=by
 unfold wB wE
 rw [List.getElem?_map,List.getElem?_map,h]
 exact⟨rfl,rfl⟩
theorem yk{x:V}(h:(ma x && !mG x)=true):∃ n,x= .int n:=by cases x<;>first | exact⟨_,rfl⟩ | cases h
noncomputable def zI:V->Option Int
 | .int n=>some n
 | _=>none
theorem yV{x:V}(h:(ma x && !mG x)=false):zI x=none:=by cases x<;>first | rfl | cases h
noncomputable def lb(ws:List Wd)(x y:V):Option (Nat×Nat):=match zI x,zI y with
 | some b,some e=>spn ws b e
 | _,_=>none
theorem Dk{ws:List Wd}{x y:V}(h:zI x=none):lb ws x y=none:=by unfold lb;rw [h]
theorem AF{ws:List Wd}{x y:V}(h:zI y=none):lb ws x y=none:=by unfold lb;rw [h];cases zI x<;>rfl
theorem lQ:2<=sizeLine:=by rw [sizeLine_eq];decide
theorem gO.upf {H H':Hp}{a:PySem.Addr}{o:HO}(s:gO H H')(h:H' a=none):gO H (upd H' a o):=Gn.gO.upd s h
theorem pO{H:Hp}:∀{ps:List Addr} {ws:List Wd},Paired (fun p x=>H p=some (lu x)) ps ws->∀{i:Nat} {x:V},(ps.map V.ref)[i]? =some x->∃ q wd,x= .ref q/\ws[i]? =some wd/\H q=some (lu wd)
 | _,_,.nil,_,_,h=>by simp at h
 | _,_,.cons h r,0,y,e=>by cases e;exact⟨_,_,rfl,rfl,h⟩
 | _,_,.cons h r,i + 1,y,e=>pO r (i:=i) e
theorem qr(a b:Int):decide (V.int a=V.int b)=decide (a=b):=by
 by_cases h:a=b
 ·subst h;simp
 ·rw [decide_eq_false h];exact decide_eq_false fun z=>h (V.int.inj z)
section
variable {P : Program} {w : World} {K : PySem.W.Frag} {mg : Str -> Option Value} {base : Heap} {CT CS CL : Addr}
noncomputable def sW(K:W.Frag)(CS:Addr):Sp:=fun vs H Q E=>∃(a:Addr) (ws:List Wd) (x y:V),vs=[.ref a,x,y]/\WL H a ws/\ws.length<=3000/\Known K H x/\Known K H y/\
 (∀ q,lb ws x y=some q->∀ p H',gO H H'->H p=none->H' p=some (.tup [.int q.1,.int q.2])->Q (.ref p) H')/\(lb ws x y=none->∀ H',gO H H'->E (.ref CS) none H')
theorem vc:iU ["words","begin","end","firsts","lasts"] ["words","begin","end"] (iu mj):=⟨rfl,rfl,rfl,dkq,rfl,dkq,dkq⟩
theorem v9:(["place","word","begin"]:List Str).Nodup:=dkq
theorem zy:(["place","word","end"]:List Str).Nodup:=dkq
seal iD PS PE PT PA PG PI iX iW in
theorem Dh{f fw:Addr}{fd fdw:FuncData}(D:Df K mg "need_words" mj f fd)(DW:Df K mg "is_whole" qg fw fdw)(X:Ex K mg "BadSpan" CS)(T:Txt mg):hZ P w K mg base (jy P w) 2 f fd ["words","begin","end"] (sW K CS):=by
 have GW:hZ P w K mg base iw 1 fw fdw ["thing"] (wz K):=ED DW T
 have bW:=jM (p:="thing") DW.F fun _ _ _ _ _ _ _=>rfl
 refine D.F.ok2 vc (fun vs H Q E h=>?_) (fun cdv A outer s H vs Q E hr h=>?_)
 ·obtain⟨a,ws,x,y,rfl,_⟩:=h
  rfl
 ·obtain⟨a,ws,x,y,rfl,hW,hl,au,av,k1,k2⟩:=h
  have hz:(sizeLine:Nat)=16777216:=sizeLine_eq
  obtain⟨ps,eA,pA⟩:=hW.ex
  have aa:(ps.map V.ref).length=ws.length:=by rw [List.length_map];exact Gn.Paired.len pA
  refine⟨_,gS (iN (PW.pt (jj (jG (jm (iE GW hr rfl DW.m DW.F.kp bW .nil iM (gN (pv 1) gP)))) (jH (jG (jm (iE GW hr rfl DW.m DW.F.kp bW .nil iM (gN (pv 2) gP)))))))
    (g0 (lP rfl X.q F.excBase_ValueError dkq F.excBase_ValueError rfl X.m (gN gZ gP) mV)) iL)
   (gS (mE (i:=3) vc.nd rfl (Or.inl rfl) (own:=2) (caps:=[1]) (N:=["place","word","begin"]) (N0:=["words","begin","end","firsts","lasts"]) (sc0:=iu mj) rfl (vU rfl T.enum (gN (pv 0) gP))
    (fun _ _ _=>kS (n:=2) rfl (jx (iS (i:=0) v9 rfl (Or.inl rfl)) (jx (iS (i:=1) v9 rfl (Or.inl rfl)) k7)))
    (fun _ _ _=>uj (iq jD (g9 (lO (K:=K) rfl) (pv 1) gQ (fun _ _=>rfl)) (pv 2) (iy _)))
    (fun _ _ _=>pv 0) (nc (ky (jK (by decide)) (ky (jK (by decide)) mY))) rfl rfl
    dkq rfl dkq dkq rfl dkq (fun _ _ _ h=>h))
   (gS (mE (i:=4) vc.nd rfl (Or.inl rfl) (own:=2) (caps:=[2]) (N:=["place","word","end"]) (N0:=["words","begin","end","firsts","lasts"]) (sc0:=iu mj) rfl (vU rfl T.enum (gN (pv 0) gP))
    (fun _ _ _=>kS (n:=2) rfl (jx (iS (i:=0) zy rfl (Or.inl rfl)) (jx (iS (i:=1) zy rfl (Or.inl rfl)) k7)))
    (fun _ _ _=>uj (iq jD (g9 (lO (K:=K) rfl) (pv 1) gQ (fun _ _=>rfl)) (pv 2) (iy _)))
    (fun _ _ _=>pv 0) (nc (ky (jK (by decide)) (ky (jK (by decide)) mY))) rfl rfl
    dkq rfl dkq dkq rfl dkq (fun _ _ _ h=>h))
   (gS (iN (PW.pt (jj (iq jD (ir jN rfl T.len i0 (gN (pv 3) gP)) gQ (iy _)) (jj (iq jD (ir jN rfl T.len i0 (gN (pv 4) gP)) gQ (iy _))
     (jH (iq lW (g9 jn (pv 4) gQ (fun _ _=>rfl)) (g9 jn (pv 3) gQ (fun _ _=>rfl)) (iy _))))))
    (g0 (lP rfl X.q F.excBase_ValueError dkq F.excBase_ValueError rfl X.m (gN gZ gP) mV)) iL)
   (g0 (iC (ja (gN (g9 jn (pv 3) gQ (fun _ _=>rfl)) (gN (g9 jn (pv 4) gQ (fun _ _=>rfl)) gP)))))))),?_⟩
  refine⟨_,rfl,x,rfl,au,_,rfl,?_⟩
  cases hx:(ma x && !mG x) with
  | false=>
   refine gU (gU ⟨by show 1<=sizeLine;decide,k2 (Dk (yV hx)) H (gO.refl H)⟩)
  | true=>
   refine g8 ⟨_,rfl,y,rfl,av,_,rfl,?_⟩
   cases hy:(ma y && !mG y) with
   | false=>
    refine gU ⟨by show 1<=sizeLine;decide,k2 (AF (yV hy)) H (gO.refl H)⟩
   | true=>
    refine g8 ?_
    obtain⟨b,rfl⟩:=yk hx
    obtain⟨e,rfl⟩:=yk hy
    have es:lb ws (.int b) (.int e)=spn ws b e:=rfl
    rw [es] at k1 k2
    refine⟨_,rfl,a,ps.map V.ref,rfl,eA,zV (xs:=ps.map V.ref) (fun i ys H'=>gO H H'/\ys=(jP ((wB ws).take i) b 0).map fun j:Nat=>V.int j) (by rw [aa];omega) (fun i ys H' ⟨sm,_⟩=>sm _ _ eA) ⟨gO.refl _,rfl⟩ ?_ ?_⟩
    ·rintro i x ys H1 tt N ah ⟨s1,rfl⟩ ak hN
     obtain⟨q,wd,rfl,ao,hq⟩:=pO pA ah
     have s2:gO H1 (upd H1 tt (.tup [.int i,.ref q])):=hJ ak
     refine⟨tt,_,rfl,ia.of gY,rfl,_,_,rfl,_,_,rfl,rfl,?_⟩
     generalize upd H1 tt (.tup [.int i,.ref q])=H2 at s2 ⊢
     have aq:=s1.trans s2
     refine⟨_,rfl,q,_,_,_,rfl,rfl,ia.of (aq _ _ hq),ik (j:=1) rfl,_,rfl,rfl,_,rfl,?_⟩
     have e:=yY (ph ao).1 b
     rw [qr]
     by_cases h:(wd.2.1:Int)=b
     ·rw [decide_eq_true h]
      rw [if_pos h] at e
      exact gU ⟨_,rfl,hN _ _ ⟨aq,by rw [e,List.map_append];rfl⟩⟩
     ·rw [decide_eq_false h]
      rw [if_neg h,List.append_nil] at e
      exact g8 (hN _ _ ⟨aq,by rw [e]⟩)
    ·rintro ys H1 ⟨s1,rfl⟩ _ l1 aw
     rw [aa,List.take_of_length_le (by simp [wB])]
     have J:(jP (wB ws) b 0).head? =(ix (wB ws) b).map (· + 0):=tQ _ _ _
     generalize jP (wB ws) b 0=A1 at J
     have s2:gO H1 (upd H1 l1 (.lst (A1.map fun j:Nat=>V.int j))):=hJ aw
     have e1:upd H1 l1 (.lst (A1.map fun j:Nat=>V.int j)) l1=some (.lst (A1.map fun j:Nat=>V.int j)):=gY
     generalize upd H1 l1 (.lst (A1.map fun j:Nat=>V.int j))=H2 at s2 e1 ⊢
     have af:=s1.trans s2
     refine⟨_,rfl,a,ps.map V.ref,rfl,af _ _ eA,zV (xs:=ps.map V.ref) (fun i ys H'=>gO H2 H'/\ys=(jP ((wE ws).take i) e 0).map fun j:Nat=>V.int j) (by rw [aa];omega) (fun i ys H' ⟨sm,_⟩=>sm _ _ (af _ _ eA)) ⟨gO.refl _,rfl⟩ ?_ ?_⟩
     ·rintro i x ys H3 tt N ah ⟨s3,rfl⟩ ak hN
      obtain⟨q,wd,rfl,ao,hq⟩:=pO pA ah
      have s4:gO H3 (upd H3 tt (.tup [.int i,.ref q])):=hJ ak
      refine⟨tt,_,rfl,ia.of gY,rfl,_,_,rfl,_,_,rfl,rfl,?_⟩
      generalize upd H3 tt (.tup [.int i,.ref q])=H4 at s4 ⊢
      have ar:=s3.trans s4
      refine⟨_,rfl,q,_,_,_,rfl,rfl,ia.of (ar _ _ (af _ _ hq)),ik (j:=2) rfl,_,rfl,rfl,_,rfl,?_⟩
      have e':=yY (ph ao).2 e
      rw [qr]
      by_cases h:(wd.2.2:Int)=e
      ·rw [decide_eq_true h]
       rw [if_pos h] at e'
       exact gU ⟨_,rfl,hN _ _ ⟨ar,by rw [e',List.map_append];rfl⟩⟩
      ·rw [decide_eq_false h]
       rw [if_neg h,List.append_nil] at e'
       exact g8 (hN _ _ ⟨ar,by rw [e']⟩)
     ·rintro ys H3 ⟨s3,rfl⟩ _ l2 ax
      rw [aa,List.take_of_length_le (by simp [wE])]
      have U:(jP (wE ws) e 0).head? =(ix (wE ws) e).map (· + 0):=tQ _ _ _
      generalize jP (wE ws) e 0=A2 at U
      have s4:gO H3 (upd H3 l2 (.lst (A2.map fun j:Nat=>V.int j))):=hJ ax
      have e2:upd H3 l2 (.lst (A2.map fun j:Nat=>V.int j)) l2=some (.lst (A2.map fun j:Nat=>V.int j)):=gY
      generalize upd H3 l2 (.lst (A2.map fun j:Nat=>V.int j))=H4 at s4 e2 ⊢
      have ag:=s3.trans s4
      have ae:=af.trans ag
      refine⟨_,rfl,l1,_,rfl,.inl (gR.of (ag _ _ e1)),rfl,_,rfl,?_⟩
      cases A1 with
      | nil=>
       have n1:ix (wB ws) b=none:=by cases q:ix (wB ws) b with | none=>rfl | some i=>rw [q] at J;cases J
       exact gU (gU ⟨by show 1<=sizeLine;decide,k2 (uL n1) _ ae⟩)
      | cons i1 r1=>
       have n1:ix (wB ws) b=some i1:=by cases q:ix (wB ws) b with | none=>rw [q] at J;cases J | some i=>rw [q] at J;cases J;rfl
       refine g8 ⟨_,rfl,l2,_,rfl,.inl (gR.of e2),rfl,_,rfl,?_⟩
       cases A2 with
       | nil=>
        have n2:ix (wE ws) e=none:=by cases q:ix (wE ws) e with | none=>rfl | some i=>rw [q] at U;cases U
        exact gU (gU ⟨by show 1<=sizeLine;decide,k2 (uZ n2) _ ae⟩)
       | cons i2 r2=>
        have n2:ix (wE ws) e=some i2:=by cases q:ix (wE ws) e with | none=>rw [q] at U;cases U | some i=>rw [q] at U;cases U;rfl
        refine g8 ⟨_,rfl,l2,_,_,_,rfl,rfl,gR.of e2,ik (j:=0) rfl,_,rfl,l1,_,_,_,rfl,rfl,gR.of (ag _ _ e1),ik (j:=0) rfl,_,_,rfl,rfl,_,rfl,?_⟩
        by_cases ay:i2 < i1
        ·rw [decide_eq_true (show(i2:Int) < (i1:Int) by omega)]
         refine gU ⟨by show 1<=sizeLine;decide,k2 ?_ _ ae⟩
         unfold spn
         rw [n1,n2]
         exact if_neg (by omega)
        ·rw [decide_eq_false (show ¬ (i2:Int) < (i1:Int) by omega)]
         refine g8 ⟨_,rfl,l1,_,_,_,rfl,rfl,gR.of (ag _ _ e1),ik (j:=0) rfl,_,rfl,l2,_,_,_,rfl,rfl,gR.of e2,ik (j:=0) rfl,lQ,fun p hp=>?_⟩
         refine k1 (i1,i2) ?_ p _ (gO.upf ae hp) (ae.free hp) gY
         unfold spn
         rw [n1,n2]
         exact if_pos (by omega)
end
mutual
inductive iR (H : Hp) : V -> PyData -> Prop
 | non : iR H .non .none
 | bl (b : Bool) : iR H (.bl b) (.bool b)
 | int (i : Int) : iR H (.int i) (.int i)
 | str (x : Str) : iR H (.str x) (.str x)
 | lst {a : Addr} {xs : List V} {ds : List PyData} : H a = some (.lst xs) -> ji H xs ds -> iR H (.ref a) (.list ds)
 | tup {a : Addr} {xs : List V} {ds : List PyData} : H a = some (.tup xs) -> ji H xs ds -> iR H (.ref a) (.tuple ds)
inductive ji (H : Hp) : List V -> List PyData -> Prop
 | nil : ji H [] []
 | cons {x : V} {xs : List V} {d : PyData} {ds : List PyData} : iR H x d -> ji H xs ds -> ji H (x :: xs) (d :: ds)
end
mutual
theorem iR.same {H H' : Hp} (s : gO H H') : ∀ {x : V} {d : PyData}, iR H x d -> iR H' x d
 | _, _, .non => .non
 | _, _, .bl b => .bl b
 | _, _, .int i => .int i
 | _, _, .str x => .str x
 | _, _, .lst h r => .lst (s _ _ h) (ji.same s r)
 | _, _, .tup h r => .tup (s _ _ h) (ji.same s r)
theorem ji.same {H H' : Hp} (s : gO H H') : ∀ {xs : List V} {ds : List PyData}, ji H xs ds -> ji H' xs ds
 | _, _, .nil => .nil
 | _, _, .cons h r => .cons (iR.same s h) (ji.same s r)
end
mutual
theorem iR.dt {K : PySem.W.Frag} {H : Hp} : ∀ {x : V} {d : PyData}, iR H x d -> km K H x d
 | _, _, .non => .non
 | _, _, .bl b => .bl b
 | _, _, .int i => .int i
 | _, _, .str x => .str x
 | _, _, .lst h r => .lst (gR.of h) (ji.dt r)
 | _, _, .tup h r => .tup (ia.of h) (ji.dt r)
theorem ji.dt {K : PySem.W.Frag} {H : Hp} : ∀ {xs : List V} {ds : List PyData}, ji H xs ds -> kr K H xs ds
 | _, _, .nil => .nil
 | _, _, .cons h r => .cons (iR.dt h) (ji.dt r)
end
theorem ji.len {H:Hp}:∀{xs:List V} {ds:List PyData},ji H xs ds->xs.length=ds.length
 | _,_,.nil=>rfl
 | _,_,.cons _ r=>by simp [ji.len r]
noncomputable def sk:PyData->String
 | .none=>"NoneType" | .bool _=>"bool" | .int _=>"int" | .str _=>"str" | .list _=>"list" | .tuple _=>"tuple" | .dict _=>"dict"
theorem iR.ty {K:W.Frag}{H:Hp}{x:V}{d:PyData}(h:iR H x d):jQ K H x (.type (sk d)):=by
 cases h with
 | non=>exact .non
 | bl b=>exact .bl b
 | int i=>exact .int i
 | str z=>exact .str z
 | lst h r=>exact .lst h
 | tup h r=>exact .tup h
theorem iR.known {K:W.Frag}{H:Hp}{x:V}{d:PyData}(h:iR H x d):Known K H x:=⟨_,h.ty⟩
noncomputable def Em:PyData->Bool
 | .list _=>true
 | _=>false
section
variable {K : PySem.W.Frag}
theorem ue(d:PyData):W.kitOne K (.type (sk d)) (.type "list")=some (Em d):=by
 cases d<;>kernel_rfl
noncomputable def E3:PyData->Bool
 | .tuple _=>true
 | _=>false
theorem qi(d:PyData):W.kitOne K (.type (sk d)) (.type "tuple")=some (E3 d):=by
 cases d<;>kernel_rfl
end
theorem ji.get {H:Hp}:∀{xs:List V} {ds:List PyData},ji H xs ds->∀{i:Nat} {x:V},xs[i]? =some x->∃ d,ds[i]? =some d/\iR H x d
 | _,_,.nil,_,_,h=>by simp at h
 | _,_,.cons h r,0,_,e=>by cases e;exact⟨_,rfl,h⟩
 | _,_,.cons h r,i + 1,_,e=>ji.get r (i:=i) e
noncomputable def zD:PyData->Option Int
 | .int n=>some n
 | _=>none
theorem iR.z {H:Hp}{x:V}{d:PyData}(h:iR H x d):zI x=zD d:=by cases h<;>rfl
noncomputable def mF:PyData->Option (Int×Int)
 | .tuple [x,y]=>match zD x,zD y with
  | some b,some e=>some (b,e)
  | _,_=>none
 | _=>none
noncomputable def ka(ws:List Wd)(t:Nat):Nat->List PyData->Bool
 | _,[]=>true
 | l,d::r=>match (mF d).bind fun m=>spn ws m.1 m.2 with
  | none=>false
  | some q=>decide (l<=q.1) && decide (q.2<=t) && ka ws t (q.2 + 2) r
theorem Ar(ws:List Wd)(t l:Nat)(d:PyData)(r:List PyData):ka ws t l (d::r)=match (mF d).bind fun m=>spn ws m.1 m.2 with
  | none=>false
  | some q=>decide (l<=q.1) && decide (q.2<=t) && ka ws t (q.2 + 2) r:=rfl
noncomputable def kW(ws:List Wd)(q:Nat×Nat):PyData->Bool
 | .list ds=> !ds.isEmpty && ka ws q.2 q.1 ds
 | _=>false
noncomputable def k4(ws:List Wd):PyData->Option (Nat×Nat)
 | .tuple [x,y,z]=>match zD x,zD y with
  | some b,some e=>(spn ws b e).bind fun q=>if kW ws q z then some q else none
  | _,_=>none
 | _=>none
theorem vt{H:Hp}{ws:List Wd}{x y:V}{d e:PyData}(hx:iR H x d)(hy:iR H y e):lb ws x y=match zD d,zD e with | some b,some e=>spn ws b e | _,_=>none:=by
 unfold lb
 rw [hx.z,hy.z]
 try (cases zD d<;>cases zD e<;>rfl)
theorem AR{es:List PyData}(h:es.length≠2):mF (.tuple es)=none:=by
 match es,h with
 | [],_=>rfl
 | [_],_=>rfl
 | [_,_],h=>exact absurd rfl h
 | _::_::_::_,_=>rfl
section
variable {P : Program} {w : World} {K : PySem.W.Frag} {mg : Str -> Option Value} {base : Heap} {CT CS CL : Addr}
noncomputable def yh(CS:Addr):Sp:=fun vs H Q E=>∃(a J:Addr) (ws:List Wd) (m:V) (d:PyData) (q:Nat×Nat),vs=[.ref a,m,.ref J]/\WL H a ws/\ws.length<=3000/\iR H m d/\H J=some (.tup [.int q.1,.int q.2])/\
 (kW ws q d=true->∀ H',gO H H'->Q .non H')/\(kW ws q d=false->∀ H',gO H H'->E (.ref CS) none H')
theorem pF:iU ["words","marks","window","least","mark","places"] ["words","marks","window"] (iu qM):=⟨rfl,rfl,rfl,dkq,rfl,dkq,dkq⟩
seal iD PS PE PT PA PG PI iX iW in
theorem FE{f fn:Addr}{fd fdn:FuncData}(D:Df K mg "need_marks" qM f fd)(DN:Df K mg "need_words" mj fn fdn)(GN:hZ P w K mg base (jy P w) 2 fn fdn ["words","begin","end"] (sW K CS))(X:Ex K mg "BadSpan" CS)(T:Txt mg):hZ P w K mg base (jy P w) 3 f fd ["words","marks","window"] (yh CS):=by
 have bN:=DN.F.binds (ps:=["words","begin","end"]) fun _ _ _ _ _ _ us hl=>match us,hl with | [_,_,_],_=>rfl
 refine D.F.ok2 pF (fun vs H Q E h=>?_) (fun cdv A outer s H vs Q E hr h=>?_)
 ·obtain⟨a,wt,ws,m,d,q,rfl,_⟩:=h
  rfl
 ·obtain⟨a,wt,ws,m,d,q,rfl,hW,hl,hm,ak,k1,k2⟩:=h
  have one:1<=sizeLine:=by rw [sizeLine_eq];decide
  refine⟨_,gS (iN (PW.pt (jj (jG (jm (ir kB rfl T.isi je (gN (pv 1) (gN (jX (v:= .ty "list") rfl T.list mW rfl) gP)))))
    (jH (iq jD (ir jN rfl T.len i0 (gN (pv 1) gP)) gQ (iy _)))))
    (g0 (lP rfl X.q F.excBase_ValueError dkq F.excBase_ValueError rfl X.m (gN gZ gP) mV)) iL)
   (gS (hU (i:=3) pF.nd rfl (Or.inl rfl) (g9 iO (pv 2) gQ (fun _ _=>rfl)))
   (g0 (kR PassesOwn.leaving rfl (kJ (pv 1)) (iS (i:=4) pF.nd rfl (Or.inl rfl))
    (gS (iN (PW.pt (jj (jG (jm (ir kB rfl T.isi je (gN (pv 4) (gN (jX (v:= .ty "tuple") rfl T.tuple oG rfl) gP)))))
     (jH (iq lh (ir jN rfl T.len i0 (gN (pv 4) gP)) gQ (iy _)))))
     (g0 (lP rfl X.q F.excBase_ValueError dkq F.excBase_ValueError rfl X.m (gN gZ gP) mV)) iL)
    (gS (hU (i:=5) pF.nd rfl (Or.inl rfl) (iE GN hr rfl DN.m DN.F.kp bN .nil (nv (E':=E) (fun _ _ _ h=>h)) (gN (pv 0) (gN (g9 iO (pv 4) gQ (fun _ _=>rfl)) (gN (g9 iO (pv 4) gQ (fun _ _=>rfl)) gP)))))
    (gS (iN (PW.pt (jj (iq lW (g9 iO (pv 5) gQ (fun _ _=>rfl)) (pv 3) (iy _)) (jH (iq ng (g9 iO (pv 5) gQ (fun _ _=>rfl)) (g9 iO (pv 2) gQ (fun _ _=>rfl)) (iy _)))))
     (g0 (lP rfl X.q F.excBase_ValueError dkq F.excBase_ValueError rfl X.m (gN gZ gP) mV)) iL)
    (g0 (hU (i:=3) pF.nd rfl (Or.inl rfl) (gX jb (g9 iO (pv 5) gQ (fun _ _=>rfl)) gQ))))))))),?_⟩
  refine⟨_,rfl,m,.ty "list",_,_,rfl,hm.ty,.inl ⟨_,rfl,ue d⟩,_,rfl,?_⟩
  cases hm with
  | lst ae ao=>
   rename_i ml xs ds
   refine g8 ⟨_,rfl,ml,_,rfl,.inl (gR.of ae),rfl,_,rfl,?_⟩
   have xl:=ao.len
   cases ds with
   | nil=>
    have x0:xs=[]:=List.eq_nil_of_length_eq_zero (by rw [xl];rfl)
    subst x0
    exact gU ⟨one,k2 rfl H (gO.refl H)⟩
   | cons d0 dr=>
    have ne:((xs.length:Nat):Int)≠0:=by rw [xl];simp;omega
    rw [qr,decide_eq_false ne]
    have nl:kW ws q (.list (d0::dr))=ka ws q.2 q.1 (d0::dr):=by unfold kW;simp
    rw [nl] at k1 k2
    generalize d0::dr=ds at *
    refine g8 ⟨_,rfl,wt,_,_,_,rfl,rfl,ia.of ak,ik (j:=0) rfl,_,rfl,ml,rfl,⟨_,gR.of ae⟩,?_⟩
    refine qe (xs:=xs) (fun i σ H'=>∃(l:Nat) (o4 o5:Option V),σ=[some (.ref a),some (.ref ml),some (.ref wt),some (.int l),o4,o5]/\gO H H'/\ka ws q.2 q.1 ds=ka ws q.2 l (ds.drop i)) ?_ ?_ ?_ ?_
    ·exact⟨q.1,none,none,rfl,gO.refl H,rfl⟩
    ·rintro i σ H' _ ⟨_,_,_,_,J,_⟩
     exact gR.of (J _ _ ae)
    ·rintro i v σ H' hv ⟨l,o4,o5,rfl,J,hn⟩
     obtain⟨d,hd,ar⟩:=ao.get hv
     have au:ds.drop i=d::ds.drop (i + 1):=by
      obtain⟨av,e⟩:=List.getElem?_eq_some_iff.mp hd
      rw [List.drop_eq_getElem_cons av,e]
     rw [au] at hn
     have aq:=ar.same J
     refine⟨_,rfl,v,.ty "tuple",_,_,rfl,aq.ty,.inl ⟨_,rfl,qi d⟩,_,rfl,?_⟩
     have bad:mF d=none->∀ H2,gO H H2->E (.ref CS) none H2:=fun z=>k2 (by rw [hn];unfold ka;rw [z];rfl)
     cases aq with
     | tup ht af=>
      rename_i p ys es
      refine g8 ⟨_,rfl,p,_,rfl,.inr (ia.of ht),rfl,_,rfl,?_⟩
      have yl:=af.len
      by_cases h2:ys.length=2
      ·match ys,es,af,h2 with
       | [y1,y2],[d1,d2],.cons g1 (.cons g2 .nil),_=>
        refine g8 ⟨_,rfl,_,rfl,p,_,_,_,rfl,rfl,ia.of ht,ik (j:=0) rfl,_,rfl,p,_,_,_,rfl,rfl,ia.of ht,ik (j:=1) rfl,?_⟩
        have es:(mF (.tuple [d1,d2])).bind (fun m=>spn ws m.1 m.2)=lb ws y1 y2:=by
         rw [vt g1 g2]
         show(match zD d1,zD d2 with | some b,some e=>some (b,e) | _,_=>none).bind _=_
         cases zD d1<;>cases zD d2<;>rfl
        rw [Ar,es] at hn
        refine⟨a,ws,y1,y2,rfl,hW.same J,hl,g1.known,g2.known,fun U hq pl H2 s2 aw ag=>?_,fun z H2 s2=>k2 (by rw [hn,z]) _ (J.trans s2)⟩
        rw [hq] at hn
        have aa:=J.trans s2
        refine⟨_,rfl,pl,_,_,_,rfl,rfl,ia.of ag,ik (j:=0) rfl,_,rfl,_,_,rfl,rfl,_,rfl,?_⟩
        have ah:ka ws q.2 q.1 ds=(decide (l<=U.1) && decide (U.2<=q.2) && ka ws q.2 (U.2 + 2) (ds.drop (i + 1))):=hn
        by_cases c1:U.1 < l
        ·rw [decide_eq_true (show(U.1:Int) < (l:Int) by omega)]
         exact gU (gU ⟨one,k2 (by rw [ah,decide_eq_false (show ¬ l<=U.1 by omega)];rfl) _ aa⟩)
        ·rw [decide_eq_false (show ¬ (U.1:Int) < (l:Int) by omega)]
         refine g8 ⟨_,rfl,pl,_,_,_,rfl,rfl,ia.of ag,ik (j:=1) rfl,_,rfl,wt,_,_,_,rfl,rfl,ia.of (aa _ _ ak),ik (j:=1) rfl,_,_,rfl,rfl,_,rfl,?_⟩
         by_cases c2:q.2 < U.2
         ·rw [decide_eq_true (show(q.2:Int) < (U.2:Int) by omega)]
          exact gU ⟨one,k2 (by rw [ah,decide_eq_false (show ¬ U.2<=q.2 by omega),Bool.and_false];rfl) _ aa⟩
         ·rw [decide_eq_false (show ¬ (q.2:Int) < (U.2:Int) by omega)]
          refine g8 ⟨_,rfl,pl,_,_,_,rfl,rfl,ia.of ag,ik (j:=1) rfl,_,_,rfl,rfl,U.2 + 2,_,_,rfl,aa,?_⟩
          rw [ah,decide_eq_true (show l<=U.1 by omega),decide_eq_true (show U.2<=q.2 by omega)]
          rfl
      ·rw [qr,decide_eq_false (show((ys.length:Nat):Int)≠2 by omega)]
       exact gU ⟨one,bad (AR (by omega)) _ J⟩
     | lst ht af=>exact gU (gU ⟨one,bad rfl _ J⟩)
     | non=>exact gU (gU ⟨one,bad rfl _ J⟩)
     | bl b=>exact gU (gU ⟨one,bad rfl _ J⟩)
     | int b=>exact gU (gU ⟨one,bad rfl _ J⟩)
     | str b=>exact gU (gU ⟨one,bad rfl _ J⟩)
    ·rintro σ H' ⟨l,o4,o5,rfl,J,hn⟩
     refine k1 ?_ _ J
     rw [hn,List.drop_of_length_le (by omega)]
     rfl
  | tup h r=>exact gU (gU ⟨one,k2 rfl H (gO.refl H)⟩)
  | non=>exact gU (gU ⟨one,k2 rfl H (gO.refl H)⟩)
  | bl b=>exact gU (gU ⟨one,k2 rfl H (gO.refl H)⟩)
  | int b=>exact gU (gU ⟨one,k2 rfl H (gO.refl H)⟩)
  | str b=>exact gU (gU ⟨one,k2 rfl H (gO.refl H)⟩)
noncomputable def yR(CS:Addr):Sp:=fun vs H Q E=>∃(a:Addr) (ws:List Wd) (v:V) (d:PyData),vs=[.ref a,v]/\WL H a ws/\ws.length<=3000/\iR H v d/\
 (∀ q,k4 ws d=some q->∀ p H',gO H H'->H p=none->H' p=some (.tup [.int q.1,.int q.2])->Q (.ref p) H')/\(k4 ws d=none->∀ H',gO H H'->E (.ref CS) none H')
theorem Ed{ws:List Wd}{es:List PyData}(h:es.length≠3):k4 ws (.tuple es)=none:=by
 match es,h with
 | [],_=>rfl
 | [_],_=>rfl
 | [_,_],_=>rfl
 | [_,_,_],h=>exact absurd rfl h
 | _::_::_::_::_,_=>rfl
theorem yQ:iU ["words","piece","window"] ["words","piece"] (iu qm):=⟨rfl,rfl,rfl,dkq,rfl,dkq,dkq⟩
seal iD PS PE PT PA PG PI iX iW in
theorem CJ{f fn fm:Addr}{fd fdn fdm:FuncData}(D:Df K mg "need_window" qm f fd)(DN:Df K mg "need_words" mj fn fdn)(DM:Df K mg "need_marks" qM fm fdm)(GN:hZ P w K mg base (jy P w) 2 fn fdn ["words","begin","end"] (sW K CS))
  (GM:hZ P w K mg base (jy P w) 3 fm fdm ["words","marks","window"] (yh CS))(X:Ex K mg "BadSpan" CS)(T:Txt mg):hZ P w K mg base (jy P w) 4 f fd ["words","piece"] (yR CS):=by
 have bN:=DN.F.binds (ps:=["words","begin","end"]) fun _ _ _ _ _ _ us J=>match us,J with | [_,_,_],_=>rfl
 have bM:=DM.F.binds (ps:=["words","marks","window"]) fun _ _ _ _ _ _ us J=>match us,J with | [_,_,_],_=>rfl
 refine D.F.ok2 yQ (fun vs H Q E h=>?_) (fun cdv A outer s H vs Q E hr h=>?_)
 ·obtain⟨a,ws,v,d,rfl,_⟩:=h
  rfl
 ·obtain⟨a,ws,v,d,rfl,hW,J,hv,k1,k2⟩:=h
  have one:1<=sizeLine:=by rw [sizeLine_eq];decide
  refine⟨_,gS (iN (PW.pt (jj (jG (jm (ir kB rfl T.isi je (gN (pv 1) (gN (jX (v:= .ty "tuple") rfl T.tuple oG rfl) gP)))))
    (jH (iq lh (ir jN rfl T.len i0 (gN (pv 1) gP)) gQ (iy _)))))
    (g0 (lP rfl X.q F.excBase_ValueError dkq F.excBase_ValueError rfl X.m (gN gZ gP) mV)) iL)
   (gS (hU (i:=2) yQ.nd rfl (Or.inl rfl) (iE (GN.mono (by decide)) hr rfl DN.m DN.F.kp bN .nil (nv (E':=E) (fun _ _ _ h=>h)) (gN (pv 0) (gN (g9 iO (pv 1) gQ (fun _ _=>rfl)) (gN (g9 iO (pv 1) gQ (fun _ _=>rfl)) gP)))))
   (gS (ke (iE GM hr rfl DM.m DM.F.kp bM .nil (nv (E':=E) (fun _ _ _ h=>h)) (gN (pv 0) (gN (g9 iO (pv 1) gQ (fun _ _=>rfl)) (gN (pv 2) gP)))))
   (g0 (iC (pv 2))))),?_⟩
  refine⟨_,rfl,v,.ty "tuple",_,_,rfl,hv.ty,.inl ⟨_,rfl,qi d⟩,_,rfl,?_⟩
  cases hv with
  | tup ht U=>
   rename_i p ys es
   refine g8 ⟨_,rfl,p,_,rfl,.inr (ia.of ht),rfl,_,rfl,?_⟩
   have yl:=U.len
   by_cases h3:ys.length=3
   ·match ys,es,U,h3 with
    | [y1,y2,y3],[d1,d2,d3],.cons g1 (.cons g2 (.cons g3 .nil)),_=>
     refine g8 ⟨_,rfl,_,rfl,p,_,_,_,rfl,rfl,ia.of ht,ik (j:=0) rfl,_,rfl,p,_,_,_,rfl,rfl,ia.of ht,ik (j:=1) rfl,?_⟩
     have es:k4 ws (.tuple [d1,d2,d3])=(lb ws y1 y2).bind fun q=>if kW ws q d3 then some q else none:=by
      rw [vt g1 g2]
      show(match zD d1,zD d2 with | some b,some e=>(spn ws b e).bind _ | _,_=>none)=_
      cases zD d1<;>cases zD d2<;>rfl
     rw [es] at k1 k2
     refine⟨a,ws,y1,y2,rfl,hW,J,g1.known,g2.known,fun q hq pl H2 s2 ae aa=>?_,fun z H2 s2=>k2 (by rw [z];rfl) _ s2⟩
     rw [hq] at k1 k2
     have af:kW ws q d3=true->∀ p H',gO H H'->H p=none->H' p=some (.tup [.int q.1,.int q.2])->Q (.ref p) H':=fun z=>k1 q (by show(if _ then _ else _)=_;rw [if_pos z])
     have ag:kW ws q d3=false->∀ H',gO H H'->E (.ref CS) none H':=fun z=>k2 (by show(if _ then _ else _)=_;rw [z];rfl)
     refine⟨_,rfl,_,rfl,p,_,_,_,rfl,rfl,ia.of (s2 _ _ ht),ik (j:=2) rfl,_,rfl,?_⟩
     exact⟨a,pl,ws,y3,d3,q,rfl,hW.same s2,J,g3.same s2,aa,fun z H3 s3=>⟨_,rfl,af z pl _ (s2.trans s3) ae (s3 _ _ aa)⟩,fun z H3 s3=>ag z _ (s2.trans s3)⟩
   ·rw [qr,decide_eq_false (show((ys.length:Nat):Int)≠3 by omega)]
    exact gU ⟨one,k2 (Ed (by omega)) _ (gO.refl H)⟩
  | lst h r=>exact gU (gU ⟨one,k2 rfl H (gO.refl H)⟩)
  | non=>exact gU (gU ⟨one,k2 rfl H (gO.refl H)⟩)
  | bl b=>exact gU (gU ⟨one,k2 rfl H (gO.refl H)⟩)
  | int b=>exact gU (gU ⟨one,k2 rfl H (gO.refl H)⟩)
  | str b=>exact gU (gU ⟨one,k2 rfl H (gO.refl H)⟩)
end
end K24
namespace L2
open PySem PySem.Spec PyProof.Rows
noncomputable def Dq(kvs:List (Key×V))(ty tx:TE):TE:=fun σ H Q=>ty σ H fun y H2=>tx σ H2 fun z J=>∃ k,y=kV k/\Q ((kC kvs k).getD z) J
section
variable {X : Cx} {x : Str} {d : Addr} {kvs : List (Key × V)} {e f : Expr} {p apos cpos : Pos} {ty tx : TE}
theorem Ae(hg:Gl X x)(hm:X.mg x=some (.ref d))(D:KD X.prog X.w X.K d kvs)(he:PE X e ty)(hf:PE X f tx)(m:M2 X (.Name x p) "get" apos e f cpos)(hdb:(x == ("__debug__":Str))=false:=by decide):
  PE X (.Call (.Attribute (.Name x p) "get" apos) [e,f] [] cpos) (Dq kvs ty tx):=by
 intro pins s σ H Q I h
 refine wpAny_Call_method m.base m.few m.line F.plainAttrs_dict F.slot_dict_get F.type_dict_get (lT I hg hm ?_ hdb)
 obtain⟨vs,rel,dd⟩:=D.at_ s.heap I.kIn
 refine⟨dd.typeIs,fun b q=>?_,?_⟩
 ·cases q
  obtain⟨ob,_,_,h1,h2,_⟩:=dd
  exact⟨ob,h1,h2.2.1⟩
 rw [m.trees]
 refine Calls.callWith_builtin rfl (Calls.evalArgs_plain (Calls.spliced_cons (ic (he pins s σ H _ I h) fun iv s2 ⟨y,H2,I2,ry,h2⟩=>Calls.spliced_cons (ic (hf pins s2 σ H2 _ I2 h2) fun jv s3 ⟨z,H3,I3,rz,k,ey,q3⟩=>Calls.spliced_nil ?_))))
 subst ey
 obtain⟨aa,J,U⟩:=D.at_ s3.heap I3.kIn
 refine call_meetsIn F.slot_dict_get U.typeIs F.entry_dict_get (F.args_dict_get_3 _ _ _) (meets_dict_get_default (j4 X.prog X.w) d (rH ry) D.ns _) ⟨_,U.mapOf,⟨_,H3,I3.tok _,?_,q3⟩⟩
 exact(J.val k).getD rz
end
end L2
namespace K24
open PySem L2 PyProof.Rows PySem.Spec Gn K01 SH
noncomputable def kK:List (Key×V):=[(.inr "[",.str "\\["),(.inr "]",.str "\\]"),(.inr "\\",.str "\\\\"),(.inr "\n",.str "\\n")]
theorem z6(c:Nat):(kC kK (.inr ⟨#[c]⟩)).getD (.str ⟨#[c]⟩)= .str ⟨(jf c).toArray⟩:=by
 have ne:∀{c d:Nat},c≠d->(Sum.inr (⟨#[c]⟩:Str):Key)≠Sum.inr ⟨#[d]⟩:=fun h z=>h (by injection z with z;injection z with z;simpa using z)
 have e1:(Str.ofString "[")=⟨#[91]⟩:=rfl
 have e2:(Str.ofString "]")=⟨#[93]⟩:=rfl
 have e3:(Str.ofString "\\")=⟨#[92]⟩:=rfl
 have e4:(Str.ofString "\n")=⟨#[10]⟩:=rfl
 unfold kC kK jf
 rw [e1,e2,e3,e4]
 by_cases h1:c=91
 ·subst h1;rfl
 by_cases h2:c=93
 ·subst h2;rfl
 by_cases J:c=92
 ·subst J;rfl
 by_cases U:c=10
 ·subst U;rfl
 rw [if_neg h1,if_neg h2,if_neg J,if_neg U]
 simp only [List.find?_cons,List.find?_nil]
 rw [decide_eq_false (ne (Ne.symm h1)),decide_eq_false (ne (Ne.symm h2)),decide_eq_false (ne (Ne.symm J)),decide_eq_false (ne (Ne.symm U))]
 rfl
theorem xc:∀ ls:List (List Nat),PySem.Str.join (Str.ofString "") (ls.map fun l=>(⟨l.toArray⟩:Str))=⟨ls.flatten.toArray⟩
 | []=>rfl
 | [l]=>by show(⟨l.toArray⟩:Str)=_;simp
 | l::m::r=>by
  have J:=xc (m::r)
  show(⟨l.toArray⟩:Str)++Str.ofString ""++PySem.Str.join (Str.ofString "") ((m::r).map fun l=>(⟨l.toArray⟩:Str))=_
  rw [J,tL,jw,jw,List.append_nil]
  rfl
theorem zb(ls:List (List Nat)):Txt.join (Str.ofString "") (ls.map fun l=>(⟨l.toArray⟩:Str))=⟨ls.flatten.toArray⟩:=by
 show Builtin.Str.glued _ _=_
 rw [StrLaws.glued_eq_join]
 exact xc ls
theorem uK(c:Nat):(jf c).length<=2:=by
 unfold jf
 repeat' split
 all_goals simp
theorem rR(s:List Nat):(iA s).length<=2 * s.length:=by
 induction s with
 | nil=>exact Nat.le_refl _
 | cons c s J=>rw [l9,List.length_append];have:=uK c;simp only [List.length_cons];omega
theorem wQ(s:List Nat):(s.map jf).flatten=iA s:=by unfold iA;rw [List.flatMap_def]
theorem yA(ls:List (List Nat)):((ls.map fun l=>(⟨l.toArray⟩:Str)).map (·.length)).sum=ls.flatten.length:=by
 rw [List.map_map,List.length_flatten]
 congr 1
section
variable {P : Program} {w : World} {K : PySem.W.Frag} {mg : Str -> Option Value} {base : Heap} {CT CS CL dS : Addr}
noncomputable def xO:Sp:=fun vs H Q _=>∃ s:List Nat,vs=[.str ⟨s.toArray⟩]/\s.length<=2000/\∀ H',gO H H'->Q (.str ⟨(iA s).toArray⟩) H'
theorem BS:iU ["signs"] ["signs"] (iu o6):=⟨rfl,rfl,rfl,dkq,rfl,dkq,dkq⟩
seal iD PS PE PT PA PG PI iX iW in
theorem Bs{f:Addr}{fd:FuncData}(D:Df K mg "shown_signs" o6 f fd)(hS:mg "SHOWN_SIGNS"=some (.ref dS))(KS:KD P w K dS kK):hZ P w K mg base iw 1 f fd ["signs"] xO:=by
 refine D.F.ok BS (fun vs H Q E h=>?_) (fun cdv A outer s H vs Q E hr h=>?_)
 ·obtain⟨s,rfl,_⟩:=h
  rfl
 ·obtain⟨s,rfl,hl,k⟩:=h
  refine⟨_,g0 (iC (jr F.plainAttrs_str F.slot_str_join F.type_str_join uT gZ (gN (nr (own:=1) (caps:=[]) (N:=["sign"]) (N0:=["signs"]) (sc0:=iu o6) rfl (yW (pv 0))
    (fun _ _ _=>iS (i:=0) yi rfl (Or.inl rfl)) (fun _ _ _=>k8)
    (fun _ _ _=>Ae rfl hS KS (pv 0) (pv 0) ⟨rfl,rfl,rfl,rfl⟩) (jK (by decide)) rfl rfl
    dkq rfl dkq dkq rfl dkq) gP))),?_⟩
  have hz:(sizeLine:Nat)=16777216:=sizeLine_eq
  have sz:(⟨s.toArray⟩:Str).cps.size=s.length:=by simp
  refine⟨rfl,_,rfl,_,rfl,wR (fun i ys H'=>H'=H/\ys=(s.take i).map fun c=>V.str ⟨(jf c).toArray⟩) (by rw [sz];omega) ⟨rfl,rfl⟩ ?_ ?_⟩
  ·rintro i c ys H' N hc ⟨rfl,rfl⟩ U
   refine g1 ?_
   refine⟨_,rfl,_,rfl,.inr ⟨#[c]⟩,rfl,?_⟩
   rw [z6]
   refine U _ _ ⟨rfl,?_⟩
   have J:s[i]? =some c:=by simpa using hc
   rw [List.take_add_one,J,List.map_append]
   rfl
  ·rintro ys H' ⟨rfl,rfl⟩ _ p hp
   rw [sz,List.take_length]
   refine⟨_,p,(s.map jf).map fun l=>(⟨l.toArray⟩:Str),rfl,rfl,gR.of (by rw [gY,List.map_map,List.map_map];rfl),?_,?_⟩
   ·rw [yA,wQ]
    have:=rR s
    show(iA s).length + _ * 0<=_
    omega
   ·rw [zb,wQ]
    exact k _ (hJ hp)
noncomputable def zN(K:W.Frag):Sp:=fun vs H Q _=>∃(T:List Nat) (p m:Addr) (b q:Nat) (ps:List Addr) (ns:List (Nat×Nat)),vs=[.str ⟨T.toArray⟩,.ref p]/\T.length<=2000/\H p=some (.tup [.int b,.int q,.ref m])/\H m=some (.lst (ps.map V.ref))/\
 Paired (fun u (n:Nat×Nat)=>H u=some (.tup [.int n.1,.int n.2])) ps ns/\Ch b q ns/\q<=T.length/\∀ H',gO H H'->Q (.str ⟨(i6 T q b ns).toArray⟩) H'
theorem nq:iU ["text","piece","shown","place","begin","end"] ["text","piece"] (iu ql):=⟨rfl,rfl,rfl,dkq,rfl,dkq,dkq⟩
theorem kI{a b:List Nat}(h:a.length + b.length<=100000):(⟨a.toArray⟩:Str).length + (⟨b.toArray⟩:Str).length<=sizeLine:=by
 rw [iB,iB,sizeLine_eq];omega
theorem uA(T:List Nat){a b:Nat}(h:a<=b)(hb:b<=T.length):Txt.slice ⟨T.toArray⟩ (some (a:Int)) (some (b:Int))=⟨(sl T a b).toArray⟩:=sD T h hb
theorem nQ(T:List Nat)(p q:Nat):(sl T p q).length<=q - p:=by unfold sl;rw [List.length_take];exact Nat.min_le_left _ _
theorem pZ(T:List Nat){q:Nat}:∀{ms:List (Nat×Nat)} {p:Nat},Ch p q ms->(i6 T q p ms).length<=4 * (q - p)
 | [],p,_=>by
  have h1:=rR (sl T p q)
  have h2:=nQ T p q
  show(iA (sl T p q)).length<=_
  omega
 | m::r,p,h=>by
  obtain⟨h1,h2,J⟩:=h
  have U:=pZ T J
  have l3:=J.le
  have a1:=rR (sl T p m.1)
  have a2:=nQ T p m.1
  have b1:=rR (sl T m.1 m.2)
  have b2:=nQ T m.1 m.2
  show(iA (sl T p m.1)++91::(iA (sl T m.1 m.2)++93::i6 T q m.2 r)).length<=_
  simp only [List.length_append,List.length_cons]
  omega
theorem mH{H:Hp}{F:Addr->Nat×Nat->Prop}:∀{ps:List Addr} {ns:List (Nat×Nat)},Paired F ps ns->∀{i:Nat} {x:V},(ps.map V.ref)[i]? =some x->∃ q n,x= .ref q/\ns[i]? =some n/\F q n
 | _,_,.nil,_,_,h=>by simp at h
 | _,_,.cons h r,0,y,e=>by cases e;exact⟨_,_,rfl,rfl,h⟩
 | _,_,.cons h r,i + 1,y,e=>mH (H:=H) r (i:=i) e
theorem ui{α:Type}{l:List α}{i:Nat}{x:α}(h:l[i]? =some x):l.drop i=x::l.drop (i + 1):=by
 obtain⟨J,e⟩:=List.getElem?_eq_some_iff.mp h
 rw [List.drop_eq_getElem_cons J,e]
seal iD PS PE PT PA PG PI iX iW in
theorem GG{f fs:Addr}{fd fds:FuncData}(D:Df K mg "shown_marks" ql f fd)(DS:Df K mg "shown_signs" o6 fs fds)(GS:hZ P w K mg base iw 1 fs fds ["signs"] xO):hZ P w K mg base iw 2 f fd ["text","piece"] (zN K):=by
 have bS:=jM (p:="signs") DS.F fun _ _ _ _ _ _ _=>rfl
 refine D.F.ok nq (fun vs H Q E h=>?_) (fun cdv A outer s H vs Q E hr h=>?_)
 ·obtain⟨T,p,m,b,q,ps,ns,rfl,_⟩:=h
  rfl
 ·obtain⟨T,p,m,b,q,ps,ns,rfl,hl,hp,hm,hP,hC,hq,k⟩:=h
  have hz:(sizeLine:Nat)=16777216:=sizeLine_eq
  refine⟨_,gS (hU (i:=2) nq.nd rfl (Or.inl rfl) gZ) (gS (hU (i:=3) nq.nd rfl (Or.inl rfl) (g9 iO (pv 1) gQ (fun _ _=>rfl)))
   (gS (kR PassesOwn.never rfl (kJ (g9 iO (pv 1) gQ (fun _ _=>rfl))) (kS (n:=2) rfl (jx (iS (i:=4) nq.nd rfl (Or.inl rfl)) (jx (iS (i:=5) nq.nd rfl (Or.inl rfl)) k7)))
    (gS (vL (i:=2) nq.nd rfl (Or.inl rfl) (gX jF (gX jF (gX jF (iE GS hr rfl DS.m DS.F.kp bS .nil iM (gN (js jU (pv 0) (i5 (pv 3)) (i5 (pv 4))) gP)) gZ)
      (iE GS hr rfl DS.m DS.F.kp bS .nil iM (gN (js jU (pv 0) (i5 (pv 4)) (i5 (pv 5))) gP))) gZ) A8)
    (g0 (hU (i:=3) nq.nd rfl (Or.inl rfl) (pv 5)))))
   (g0 (iC (gX jF (pv 2) (iE GS hr rfl DS.m DS.F.kp bS .nil iM (gN (js jU (pv 0) (i5 (pv 3)) (i5 (g9 iO (pv 1) gQ (fun _ _=>rfl)))) gP))))))),?_⟩
  have full:=pZ T hC
  have hlen:(ps.map V.ref).length=ns.length:=by rw [List.length_map];exact Gn.Paired.len hP
  refine⟨_,rfl,p,_,_,_,rfl,rfl,ia.of hp,ik (j:=0) rfl,?_⟩
  refine⟨_,rfl,p,_,_,_,rfl,rfl,ia.of hp,ik (j:=2) rfl,m,rfl,⟨_,gR.of hm⟩,?_⟩
  refine qe (xs:=ps.map V.ref) (fun i σ H'=>∃(out:List Nat) (pl:Nat) (o4 o5:Option V),σ=[some (.str ⟨T.toArray⟩),some (.ref p),some (.str ⟨out.toArray⟩),some (.int pl),o4,o5]/\gO H H'/\Ch pl q (ns.drop i)/\i6 T q b ns=out++i6 T q pl (ns.drop i)) ?_ ?_ ?_ ?_
  ·exact⟨[],b,none,none,rfl,gO.refl H,hC,rfl⟩
  ·rintro i σ H' _ ⟨_,_,_,_,_,U,_⟩
   exact gR.of (U _ _ hm)
  ·rintro i v σ H' hv ⟨out,pl,o4,o5,rfl,U,hc,he⟩
   obtain⟨u,n,rfl,hn,hu⟩:=mH (H:=H) hP hv
   rw [ui hn] at hc he
   obtain⟨c1,c2,c3⟩:=hc
   have c4:=c3.le
   have ol:(i6 T q b ns).length<=8000:=by omega
   have J:i6 T q b ns=(out++(iA (sl T pl n.1)++[91]++iA (sl T n.1 n.2)++[93]))++i6 T q n.2 (ns.drop (i + 1)):=by
    rw [he]
    show out++(iA (sl T pl n.1)++91::(iA (sl T n.1 n.2)++93::i6 T q n.2 (ns.drop (i + 1))))=_
    simp
   rw [J] at ol
   simp only [List.length_append,List.length_singleton] at ol
   refine⟨u,_,rfl,ia.of (U _ _ hu),rfl,_,_,rfl,_,_,rfl,rfl,?_⟩
   refine⟨_,rfl,_,rfl,_,rfl,(pl:Int),rfl,_,rfl,(n.1:Int),rfl,_,rfl,by rw [iB];omega,?_⟩
   rw [uA T c1 (by omega)]
   refine⟨_,rfl,by have:=nQ T pl n.1;omega,fun H1 s1=>?_⟩
   refine⟨_,_,rfl,rfl,kI (b:=[91]) (by simp;omega),?_⟩
   rw [show(⟨(iA (sl T pl n.1)).toArray⟩:Str)++Str.ofString "["=⟨(iA (sl T pl n.1)++[91]).toArray⟩ from jw _ [91]]
   refine⟨_,rfl,_,rfl,(n.1:Int),rfl,_,rfl,(n.2:Int),rfl,_,rfl,by rw [iB];omega,?_⟩
   rw [uA T (Nat.le_of_lt c2) (by omega)]
   refine⟨_,rfl,by have:=nQ T n.1 n.2;omega,fun H2 s2=>?_⟩
   refine⟨_,_,rfl,rfl,kI (by simp;omega),?_⟩
   rw [jw]
   refine⟨_,_,rfl,rfl,kI (b:=[93]) (by simp;omega),?_⟩
   have e3:(⟨(iA (sl T pl n.1)++[91]++iA (sl T n.1 n.2)).toArray⟩:Str)++Str.ofString "]"=⟨(iA (sl T pl n.1)++[91]++iA (sl T n.1 n.2)++[93]).toArray⟩:=jw _ [93]
   rw [e3]
   refine⟨_,_,rfl,rfl,kI (by simp;omega),?_⟩
   rw [jw]
   exact⟨_,rfl,_,n.2,_,_,rfl,(U.trans s1).trans s2,c3,J⟩
  ·rintro σ H' ⟨out,pl,o4,o5,rfl,U,hc,he⟩
   rw [hlen,List.drop_of_length_le (Nat.le_refl _)] at hc he
   have c1:pl<=q:=hc.le
   have J:i6 T q b ns=out++iA (sl T pl q):=he
   have ol:(i6 T q b ns).length<=8000:=by omega
   rw [J,List.length_append] at ol
   refine⟨_,rfl,_,rfl,_,rfl,(pl:Int),rfl,_,rfl,p,_,_,_,rfl,rfl,ia.of (U _ _ hp),ik (j:=1) rfl,(q:Int),rfl,_,rfl,by rw [iB];omega,?_⟩
   rw [uA T c1 hq]
   refine⟨_,rfl,by have:=nQ T pl q;omega,fun H1 s1=>?_⟩
   refine⟨_,_,rfl,rfl,kI (by omega),?_⟩
   rw [jw,<-J]
   exact k _ (U.trans s1)
end
noncomputable def mI(m:Int×Int):PyData:= .tuple [.int m.1,.int m.2]
noncomputable def ju(n:Nat×Nat):PyData:= .tuple [.int (n.1:Int),.int (n.2:Int)]
noncomputable def oZ(b e:Int)(ms:List (Int×Int)):PyData:= .tuple [.int b,.int e,.list (ms.map mI)]
noncomputable def jR(b e:Nat)(ns:List (Nat×Nat)):PyData:= .tuple [.int (b:Int),.int (e:Int),.list (ns.map ju)]
theorem DX(ns:List (Nat×Nat)):(ns.map zP).map mI=ns.map ju:=by rw [List.map_map];rfl
theorem rq(b e:Nat)(ns:List (Nat×Nat)):oZ b e (ns.map zP)=jR b e ns:=by unfold oZ jR;rw [DX]
theorem rL{d:PyData}{n:Int}(h:zD d=some n):d= .int n:=by cases d<;>first | (cases h;rfl) | cases h
theorem Hb{d:PyData}{m:Int×Int}(h:mF d=some m):d=mI m:=by
 unfold mF at h
 split at h
 ·rename_i x y
  split at h
  ·rename_i b e hb he
   cases h
   rw [rL hb,rL he]
   rfl
  ·cases h
 ·cases h
theorem yJ{ws:List Wd}{t:Nat}:∀{ds:List PyData} {l:Nat},ka ws t l ds=true->∃ ms,ds=ms.map mI/\jk ws t l ms=true
 | [],_,_=>⟨[],rfl,rfl⟩
 | d::r,l,h=>by
  rw [Ar] at h
  cases hm:mF d with
  | none=>rw [hm] at h;cases h
  | some m=>
   rw [hm] at h
   have h':(match spn ws m.1 m.2 with | none=>false | some q=>decide (l<=q.1) && decide (q.2<=t) && ka ws t (q.2 + 2) r)=true:=h
   cases hs:spn ws m.1 m.2 with
   | none=>rw [hs] at h';cases h'
   | some q=>
    rw [hs] at h'
    have h2:(decide (l<=q.1) && decide (q.2<=t) && ka ws t (q.2 + 2) r)=true:=h'
    rw [Bool.and_eq_true] at h2
    obtain⟨ms,rfl,hk⟩:=yJ h2.2
    refine⟨m::ms,by rw [Hb hm];rfl,?_⟩
    show(match spn ws m.1 m.2 with | none=>false | some q=>decide (l<=q.1) && decide (q.2<=t) && jk ws t (q.2 + 2) ms)=true
    rw [hs]
    show(decide (l<=q.1) && decide (q.2<=t) && jk ws t (q.2 + 2) ms)=true
    rw [hk,h2.1]
    rfl
theorem wj{ws:List Wd}{t:Nat}:∀(ms:List (Int×Int)) (l:Nat),ka ws t l (ms.map mI)=jk ws t l ms
 | [],_=>rfl
 | m::r,l=>by
  show(match spn ws m.1 m.2 with | none=>false | some q=>decide (l<=q.1) && decide (q.2<=t) && ka ws t (q.2 + 2) (r.map mI))=(match spn ws m.1 m.2 with | none=>false | some q=>decide (l<=q.1) && decide (q.2<=t) && jk ws t (q.2 + 2) r)
  cases spn ws m.1 m.2 with
  | none=>rfl
  | some q=>show(_ && ka ws t (q.2 + 2) (r.map mI))=_;rw [wj r]
theorem w6(ws:List Wd)(b e:Int)(ms:List (Int×Int)):k4 ws (oZ b e ms)=if iQ ws b e ms then spn ws b e else none:=by
 show((spn ws b e).bind fun q=>if kW ws q (.list (ms.map mI)) then some q else none)=_
 unfold iQ
 cases spn ws b e with
 | none=>rfl
 | some q=>
  show(if (!(ms.map mI).isEmpty && ka ws q.2 q.1 (ms.map mI))=true then some q else none)=if (!ms.isEmpty && jk ws q.2 q.1 ms)=true then some q else none
  rw [wj]
  cases ms<;>rfl
theorem yI{ws:List Wd}{d:PyData}{q:Nat×Nat}(h:k4 ws d=some q):∃ b e ms,d=oZ b e ms/\iQ ws b e ms=true/\spn ws b e=some q:=by
 unfold k4 at h
 split at h
 ·rename_i x y z
  split at h
  ·rename_i b e hb he
   cases hs:spn ws b e with
   | none=>rw [hs] at h;cases h
   | some J=>
    rw [hs] at h
    have h':(if kW ws J z=true then some J else none)=some q:=h
    by_cases hn:kW ws J z=true
    ·rw [if_pos hn] at h'
     cases h'
     unfold kW at hn
     split at hn
     ·rename_i ds
      rw [Bool.and_eq_true] at hn
      obtain⟨ms,rfl,hk⟩:=yJ hn.2
      refine⟨b,e,ms,by rw [rL hb,rL he];rfl,?_,hs⟩
      unfold iQ
      rw [hs]
      show(!ms.isEmpty && jk ws q.2 q.1 ms)=true
      rw [hk,Bool.and_true]
      cases ms with
      | nil=>exact hn.1
      | cons _ _=>rfl
     ·cases hn
    ·rw [if_neg hn] at h'
     cases h'
  ·cases h
 ·cases h
noncomputable def jL(H:Hp)(m:Addr)(ns:List (Nat×Nat)):Prop:=∃ ps:List Addr,H m=some (.lst (ps.map V.ref))/\Paired (fun u (n:Nat×Nat)=>H u=some (.tup [.int n.1,.int n.2])) ps ns
theorem jL.same {H H':Hp}(s:gO H H'){m:Addr}{ns:List (Nat×Nat)}(h:jL H m ns):jL H' m ns:=by
 obtain⟨ps,h1,h2⟩:=h
 exact⟨ps,s _ _ h1,Gn.Paired.imp2 h2 fun _ _ q=>s _ _ q⟩
theorem vZ{H:Hp}:∀{xs:List V} {ns:List (Nat×Nat)},ji H xs (ns.map ju)->∃ ps:List Addr,xs=ps.map V.ref/\Paired (fun u (n:Nat×Nat)=>H u=some (.tup [.int n.1,.int n.2])) ps ns
 | [],[],_=>⟨[],rfl,.nil⟩
 | _::_,n::ns,.cons h r=>by
  obtain⟨ps,rfl,J⟩:=vZ r
  cases h with
  | tup ht U=>
   rename_i u ys
   match ys,U with
   | [_,_],.cons (.int _) (.cons (.int _) .nil)=>exact⟨u::ps,rfl,.cons ht J⟩
theorem qN{H:Hp}:∀{ps:List Addr} {ns:List (Nat×Nat)},Paired (fun u (n:Nat×Nat)=>H u=some (.tup [.int n.1,.int n.2])) ps ns->ji H (ps.map V.ref) (ns.map ju)
 | _,_,.nil=> .nil
 | _,_,.cons h r=> .cons (.tup h (.cons (.int _) (.cons (.int _) .nil))) (qN r)
theorem jL.pd {H:Hp}{m:Addr}{ns:List (Nat×Nat)}(h:jL H m ns):iR H (.ref m) (.list (ns.map ju)):=by
 obtain⟨ps,h1,h2⟩:=h
 exact .lst h1 (qN h2)
theorem xR{H:Hp}{v:V}{b e:Nat}{ns:List (Nat×Nat)}(h:iR H v (jR b e ns)):∃ p m,v= .ref p/\H p=some (.tup [.int b,.int e,.ref m])/\jL H m ns:=by
 cases h with
 | tup ht J=>
  rename_i p ys
  match ys,J with
  | [_,_,_],.cons (.int _) (.cons (.int _) (.cons (.lst hm U) .nil))=>
   obtain⟨ps,rfl,hp⟩:=vZ U
   exact⟨p,_,rfl,ht,ps,hm,hp⟩
section
variable {P : Program} {w : World} {K : PySem.W.Frag} {mg : Str -> Option Value} {base : Heap} {CT CS CL dS : Addr}
noncomputable def sf(K:W.Frag)(CT CS:Addr):Sp:=fun vs H Q E=>∃(x v:V) (d:PyData),vs=[x,v]/\Known K H x/\nU x/\iR H v d/\(kl x=false->∀ H',gO H H'->E (.ref CT) none H')/\
 (∀ z,x= .str z->Drawn z->k4 (words (codes z)) d=none->∀ H',gO H H'->E (.ref CS) none H')/\
 (∀ z (b e:Nat) ns,x= .str z->Drawn z->d=jR b e ns->iQ (words (codes z)) b e (ns.map zP)=true->∀ H',gO H H'->Q (.str ⟨(iV (codes z) b e ns).toArray⟩) H')
theorem qx:iU ["text","piece","words","window","ahead","behind"] ["text","piece"] (iu ou):=⟨rfl,rfl,rfl,dkq,rfl,dkq,dkq⟩
noncomputable def Gu:TE:=fun σ H Q=>∃(J:Addr) (i j:Nat),σ[3]? =some (some (.ref J))/\H J=some (.tup [.int i,.int j])/\Q (.str ⟨(dot (decide (0 < i)) dA).toArray⟩) H
noncomputable def HJ:TE:=fun σ H Q=>∃(J a:Addr) (i j:Nat) (xs:List V),σ[3]? =some (some (.ref J))/\σ[2]? =some (some (.ref a))/\H J=some (.tup [.int i,.int j])/\H a=some (.lst xs)/\Q (.str ⟨(dot (decide (j + 1 < xs.length)) dB).toArray⟩) H
theorem vW(i:Nat)(w:List Nat):(flush i w).length<=1:=by unfold flush;split<;>simp
theorem tf:∀(r:List Nat) (i:Nat) (w:List Nat),(iY r i w).length<=r.length + 1
 | [],i,w=>by have:=vW i w;simpa [iY] using this
 | c::r,i,w=>by
  cases hc:iJ c with
  | true=>rw [kG hc];have:=tf r (i + 1) (w++[c]);simp only [List.length_cons];omega
  | false=>rw [kd hc,List.length_append];have:=tf r (i + 1) [];have:=vW i w;simp only [List.length_cons];omega
theorem sZ(cs:List Nat):(words cs).length<=cs.length + 1:=by have:=tf (cs.map K01.lo) 0 [];rw [List.length_map] at this;exact this
seal iD PS PE PT PA PG PI iX iW in
theorem Fx{f fw fn fm:Addr}{fd fdw fdn fdm:FuncData}(D:Df K mg "shown_line" ou f fd)(DW:Df K mg "words_in" qo fw fdw)(DN:Df K mg "need_window" qm fn fdn)(DM:Df K mg "shown_marks" ql fm fdm)
  (GW:hZ P w K mg base (jy P w) 4 fw fdw ["text"] (Aq K CT))(GN:hZ P w K mg base (jy P w) 4 fn fdn ["words","piece"] (yR CS))(GM:hZ P w K mg base iw 2 fm fdm ["text","piece"] (zN K))(T:Txt mg):
  hZ P w K mg base (jy P w) 5 f fd ["text","piece"] (sf K CT CS):=by
 obtain⟨ta,ca⟩:=T.cDA
 obtain⟨tb,cb⟩:=T.cDB
 have bW:=jM (p:="text") DW.F fun _ _ _ _ _ _ _=>rfl
 have bN:=DN.F.binds (ps:=["words","piece"]) fun _ _ _ _ _ _ us hl=>match us,hl with | [_,_],_=>rfl
 have bM:=DM.F.binds (ps:=["text","piece"]) fun _ _ _ _ _ _ us hl=>match us,hl with | [_,_],_=>rfl
 refine D.F.ok2 qx (fun vs H Q E h=>?_) (fun cdv A outer s H vs Q E hr h=>?_)
 ·obtain⟨x,v,d,rfl,_⟩:=h
  rfl
 ·obtain⟨x,v,d,rfl,hk,ae,hv,k1,k2,k3⟩:=h
  refine⟨_,gS (hU (i:=2) qx.nd rfl (Or.inl rfl) (iE GW hr rfl DW.m DW.F.kp bW .nil (nv (E':=E) (fun _ _ _ h=>h)) (gN (pv 0) gP)))
   (gS (hU (i:=3) qx.nd rfl (Or.inl rfl) (iE GN hr rfl DN.m DN.F.kp bN .nil (nv (E':=E) (fun _ _ _ h=>h)) (gN (pv 2) (gN (pv 1) gP))))
   (gS (hU (i:=4) qx.nd rfl (Or.inl rfl) (PE.imp (t':=Gu) (my (iq ng (g9 iO (pv 3) gQ (fun _ _=>rfl)) gQ (iy _)) (jA (v:= .str "... ") rfl ca ⟨_,rfl⟩) gZ) ?mA))
   (gS (hU (i:=5) qx.nd rfl (Or.inl rfl) (PE.imp (t':=HJ) (my (iq lW (g9 iO (pv 3) gQ (fun _ _=>rfl)) (gX lR (ir jN rfl T.len i0 (gN (pv 2) gP)) gQ) (iy _)) (jA (v:= .str " ...") rfl cb ⟨_,rfl⟩) gZ) ?mB))
   (g0 (iC (gX jF (gX jF (pv 4) (iE (GM.mono (by decide)) hr rfl DM.m DM.F.kp bM .nil iM (gN (pv 0) (gN (pv 1) gP)))) (pv 5))))))),?_⟩
  rotate_left
  case mA=>
   rintro σ H Q ⟨wt,i,j,e3,J,q⟩
   refine⟨_,e3,wt,_,_,_,rfl,rfl,ia.of J,ik (j:=0) rfl,_,_,rfl,rfl,_,rfl,?_⟩
   by_cases h:0 < i
   ·rw [decide_eq_true h] at q
    rw [decide_eq_true (show(0:Int) < (i:Int) by omega)]
    exact gU q
   ·rw [decide_eq_false h] at q
    rw [decide_eq_false (show ¬ (0:Int) < (i:Int) by omega)]
    exact g8 q
  case mB=>
   rintro σ H Q ⟨wt,a,i,j,xs,e3,e2,J,ha,q⟩
   refine⟨_,e3,wt,_,_,_,rfl,rfl,ia.of J,ik (j:=1) rfl,_,e2,a,_,rfl,.inl (gR.of ha),_,_,rfl,rfl,_,_,rfl,rfl,_,rfl,?_⟩
   by_cases h:j + 1 < xs.length
   ·rw [decide_eq_true h] at q
    rw [decide_eq_true (show(j:Int) < (xs.length:Int) - 1 by omega)]
    exact gU q
   ·rw [decide_eq_false h] at q
    rw [decide_eq_false (show ¬ (j:Int) < (xs.length:Int) - 1 by omega)]
    exact g8 q
  refine⟨_,rfl,x,rfl,hk,ae,fun z ez hd a H1 s1 ha hW=>?_,fun ht H1 s1=>k1 ht H1 s1⟩
  subst ez
  have wl:(words (codes z)).length<=2001:=by
   have:=sZ (codes z)
   have e:(codes z).length=z.length:=str_len z
   have:=hd.1
   omega
  refine⟨_,rfl,_,rfl,a,words (codes z),v,d,rfl,hW,by omega,hv.same s1,fun q hq wt H2 s2 J af=>?_,fun hn H2 s2=>k2 z rfl hd hn _ (s1.trans s2)⟩
  obtain⟨bI,eI,ms,rfl,ag,ah⟩:=yI hq
  obtain⟨i,j,b,e,ns,rfl,rfl,rfl,ax,ak,hle,aa,ay,_⟩:=rX hd.2 (by have e:(codes z).length=z.length:=str_len z;have:=hd.1;omega) ag
  rw [ah] at aa
  cases aa
  rw [rq] at hv hq
  have ao:=ag
  obtain⟨p,m,rfl,hp,ps,hm,aq⟩:=xR hv
  have U:=s1.trans s2
  obtain⟨ar,au,av⟩:=(hW.same s2).ex
  have aw:(ar.map V.ref).length=(words (codes z)).length:=by rw [List.length_map];exact Gn.Paired.len av
  have cz:(⟨(codes z).toArray⟩:Str)=z:=toStr z
  have tl:(codes z).length<=2000:=by have e:(codes z).length=z.length:=str_len z;have:=hd.1;omega
  have sh:iV (codes z) b e ns=dot (decide (0 < i)) dA++i6 (codes z) e b ns++dot (decide (j + 1 < (words (codes z)).length)) dB:=by unfold iV;rw [ah]
  have el:=pZ (codes z) ak
  have kk:=k3 z b e ns rfl hd (rq b e ns) ao
  rw [sh] at kk
  have d1:∀ u:Bool,(dot u dA).length<=4:=by intro u;cases u<;>decide
  have d2:∀ u:Bool,(dot u dB).length<=4:=by intro u;cases u<;>decide
  refine⟨wt,i,j,rfl,af,wt,a,i,j,_,rfl,rfl,af,au,?_⟩
  rw [aw]
  refine⟨_,rfl,_,rfl,_,rfl,codes z,p,m,b,e,ps,ns,by rw [cz];rfl,tl,U _ _ hp,U _ _ hm,Gn.Paired.imp2 aq fun _ _ q=>U _ _ q,ak,hle,fun H3 s3=>?_⟩
  have q1:=d1 (decide (0 < i))
  have q2:=d2 (decide (j + 1 < (words (codes z)).length))
  refine⟨_,_,rfl,rfl,kI (by omega),?_⟩
  rw [jw]
  refine⟨_,rfl,_,_,rfl,rfl,kI (by rw [List.length_append];omega),?_⟩
  rw [jw]
  exact kk _ (U.trans s3)
end
theorem D4(x:Str)(l:Option Int){b:Int}(h:(x.length:Int)<=b):Txt.slice x l (some b)=Txt.slice x l (some (x.length:Int)):=by
 have e:Builtin.Str.strSliceIndices l (some b) 1 x.length=Builtin.Str.strSliceIndices l (some (x.length:Int)) 1 x.length:=by
  unfold Builtin.Str.strSliceIndices
  have h0:¬ b < 0:=by omega
  have h1:¬ (x.length:Int) < 0:=by omega
  have h2:min b (x.length:Int)=min (x.length:Int) (x.length:Int):=by omega
  have p:(1:Int) > 0:=by decide
  simp only [if_neg h0,if_neg h1,h2,if_pos p]
 unfold Txt.slice
 rw [e]
theorem uz(l:List Nat){a b:Nat}(hab:a<=b)(ha:a<=l.length):Txt.slice ⟨l.toArray⟩ (some (a:Int)) (some (b:Int))=⟨(sl l a b).toArray⟩:=by
 by_cases hb:b<=l.length
 ·exact sD l hab hb
 ·rw [D4 _ _ (by rw [iB];omega),iB,sD l ha (Nat.le_refl _)]
  unfold sl
  rw [List.take_of_length_le (by rw [List.length_drop];omega),List.take_of_length_le (by rw [List.length_drop];omega)]
noncomputable def step(l:List Nat):Nat:=if l.head? =some 92 then 2 else 1
theorem zS{l:List Nat}(h:l≠[]):iH l=l.take (step l)::iH (l.drop (step l)):=by
 match l,h with
 | [c],_=>
  unfold step
  by_cases hc:c=92
  ·subst hc;rfl
  ·rw [if_neg (by simp [hc])];rfl
 | c::d::r,_=>
  unfold step
  by_cases hc:c=92
  ·subst hc
   rw [mL];rfl
  ·rw [lg hc,if_neg (by simp [hc])];rfl
section
variable {P : Program} {w : World} {K : PySem.W.Frag} {mg : Str -> Option Value} {base : Heap} {CT CS CL dS : Addr}
noncomputable def wL:Sp:=fun vs H Q _=>∃ L:List Nat,vs=[.str ⟨L.toArray⟩]/\L.length<=20000/\∀ a H',gO H H'->H a=none->H' a=some (.lst ((iH L).map fun q=>V.str ⟨q.toArray⟩))->Q (.ref a) H'
theorem kA{H H':Hp}{a:Addr}{o:HO}(s:gO H H')(h:H a=none):gO H (upd H' a o):=fun b u e=>by rw [ig (jo e h)];exact s b u e
noncomputable def GF(L:List Nat):TE:=fun σ H Q=>∃ pl:Nat,σ[0]? =some (some (.str ⟨L.toArray⟩))/\σ[2]? =some (some (.int pl))/\pl < L.length/\Q (.int (step (L.drop pl))) H
theorem qG:iU ["line","parts","place","size"] ["line"] (iu pH):=⟨rfl,rfl,rfl,dkq,rfl,dkq,dkq⟩
seal iD PS PE PT PA PG PI iX iW in
theorem EG{f:Addr}{fd:FuncData}(D:Df K mg "by_strokes" pH f fd)(T:Txt mg):hZ P w K mg base iw 1 f fd ["line"] wL:=by
 refine D.F.ok qG (fun vs H Q E h=>?_) (fun cdv A outer s H vs Q E hr h=>?_)
 ·obtain⟨L,rfl,_⟩:=h
  rfl
 ·obtain⟨L,rfl,hl,k⟩:=h
  have hz:(sizeLine:Nat)=16777216:=sizeLine_eq
  refine⟨_,gS (hU (i:=1) qG.nd rfl (Or.inl rfl) (iK gP)) (gS (hU (i:=2) qG.nd rfl (Or.inl rfl) gQ)
   (gS (vp PassesOwn.never (iq lW (pv 2) (ir kg rfl T.len i0 (gN (pv 0) gP)) (iy _))
    (gS (hU (i:=3) qG.nd rfl (Or.inl rfl) (PE.imp (t':=GF L) (my (iq jD (g9 me (pv 0) (pv 2) (fun _ _=>rfl)) gZ (iy _)) gQ gQ) ?mA))
    (gS (ke (jr F.plainAttrs_list F.slot_list_append F.type_list_append kj (pv 1) (gN (js jU (pv 0) (i5 (pv 2)) (i5 (gX jb (pv 2) (pv 3)))) gP)))
    (g0 (vL (i:=2) qG.nd rfl (Or.inl rfl) (pv 3) A4)))))
   (g0 (iC (pv 1))))),?_⟩
  rotate_left
  case mA=>
   rintro σ H Q ⟨pl,e0,U,J,q⟩
   have hg:L[pl]? =some (L[pl]):=List.getElem?_eq_getElem J
   refine⟨_,e0,_,U,_,_,L[pl],rfl,rfl,by rw [iB];omega,ik (j:=pl) (by simpa using hg),rfl,_,rfl,?_⟩
   have e:decide (V.str ⟨#[L[pl]]⟩=V.str (Str.ofString "\\"))=decide (L[pl]=92):=oW _ 92
   rw [e]
   have hs:step (L.drop pl)=if L[pl]=92 then 2 else 1:=by
    unfold step
    rw [List.head?_drop,hg]
    by_cases c:L[pl]=92
    ·rw [if_pos (by rw [c]),if_pos c]
    ·rw [if_neg (fun z=>c (Option.some.inj z)),if_neg c]
   rw [hs] at q
   by_cases c:L[pl]=92
   ·rw [decide_eq_true c]
    rw [if_pos c] at q
    exact gU q
   ·rw [decide_eq_false c]
    rw [if_neg c] at q
    exact g8 q
  refine⟨Nat.zero_le _,fun a ha=>?_⟩
  have al:(⟨L.toArray⟩:Str).length=L.length:=iB L
  refine xm (fun σ H'=>∃(pl:Nat) (ds:List (List Nat)) (o:Option V),σ=[some (.str ⟨L.toArray⟩),some (.ref a),some (.int pl),o]/\gO H H'/\H' a=some (.lst (ds.map fun q=>V.str ⟨q.toArray⟩))/\ds.length<=pl/\pl<=L.length + 1/\iH L=ds++iH (L.drop pl)) (fun σ _=>match σ with | [_,_,some (.int r),_]=>L.length + 1 - r.toNat | _=>0) ⟨0,[],none,rfl,hJ ha,gY,Nat.le_refl _,by omega,rfl⟩ ?_ ?_
  ·rintro σ H' ⟨pl,ds,o,rfl,sm,hA,hd,hp,he⟩
   refine⟨_,rfl,_,rfl,_,rfl,by rw [al];omega,_,_,rfl,rfl,_,rfl,?_⟩
   rw [al]
   by_cases J:pl < L.length
   ·rw [decide_eq_true (show(pl:Int) < (L.length:Int) by omega)]
    refine gU ?_
    have ae:L.drop pl≠[]:=fun z=>by
     have h0:(L.drop pl).length=0:=by rw [z];rfl
     rw [List.length_drop] at h0
     omega
    have aa:=zS ae
    have s2:step (L.drop pl)<=2/\1<=step (L.drop pl):=by unfold step;split<;>decide
    generalize hS:step (L.drop pl)=S at aa s2
    refine⟨pl,rfl,rfl,J,?_⟩
    rw [hS]
    refine⟨_,rfl,.inl ⟨rfl,_,gR.of hA⟩,_,rfl,_,rfl,(pl:Int),rfl,_,rfl,_,rfl,_,_,rfl,rfl,((pl + S:Nat):Int),rfl,_,rfl,by rw [al];omega,?_⟩
    rw [uz L (by omega) (by omega)]
    refine⟨a,_,_,rfl,rfl,hA,by rw [List.length_map];omega,?_⟩
    have e1:sl L pl (pl + S)=(L.drop pl).take S:=by unfold sl;rw [Nat.add_sub_cancel_left]
    have U:(L.drop pl).drop S=L.drop (pl + S):=by rw [List.drop_drop]
    refine⟨_,rfl,_,rfl,_,_,rfl,rfl,⟨pl + S,ds++[sl L pl (pl + S)],_,rfl,kA sm ha,by rw [gY,List.map_append];rfl,by rw [List.length_append];simp;omega,by omega,?_⟩,?_⟩
    ·rw [e1,List.append_assoc,he,aa,U]
     rfl
    ·show L.length + 1 - ((pl:Int) + (S:Int)).toNat < L.length + 1 - ((pl:Int)).toNat
     omega
   ·rw [decide_eq_false (show ¬ (pl:Int) < (L.length:Int) by omega)]
    refine g8 ⟨_,rfl,?_⟩
    rw [List.drop_of_length_le (by omega)] at he
    have e:ds=iH L:=by rw [he];exact(List.append_nil _).symm
    subst e
    exact k a _ sm ha hA
  ·intro σ H' Q1 Q2 hq h
   obtain⟨x,h1,y,h2,z,h3,h4,i,j,e1,U,b,e3,q⟩:=h
   exact⟨x,h1,y,h2,z,h3,h4,i,j,e1,U,b,e3,hq _ _ q⟩
end
end K24
namespace PySem
section
variable {prog : Program} {w : World} {A : Around} {E : Value -> Shared -> Prop} {s : Shared}
end
structure Ap (z a b i j : Addr) (f g : List Addr) : Prop where
 az : a ≠ z
 bz : b ≠ z
 iz : i ≠ z
 jz : j ≠ z
 ab : a ≠ b
 ai : a ≠ i
 aj : a ≠ j
 bi : b ≠ i
 bj : b ≠ j
 ij : i ≠ j
 fz : z ∉ f
 fb : b ∉ f
 fj : j ∉ f
 gz : z ∉ g
 gb : b ∉ g
 gi : i ∉ g
section
variable {prog : Program} {w : World} {A : Around} {E : Value -> Shared -> Prop} {s : Shared} {z a b i j : Addr} {f g : List Addr} {n m k : Nat} {P P' : Nat -> Value -> Prop} {St St' : Nat -> Heap -> Prop} {u v : Value}
end
section
variable {prog : Program} {w : World} {A : Around} {E : Value -> Shared -> Prop} {s : Shared}
end
end PySem
namespace PySem.SetTable
end PySem.SetTable
namespace PySem
open SetTable
section
variable {prog : Program} {w : World} {K : Type} [DecidableEq K] {knd : KeyKind prog w K} {Z : List Addr} {A : Around} {E : Value -> Shared -> Prop} {s : Shared}
end
section
variable {K : Type} [DecidableEq K]
end
section
variable {prog : Program} {w : World} {K : Type} [DecidableEq K] {knd : KeyKind prog w K} {Z : List Addr} {A : Around} {R : Result -> Shared -> Prop} {I : Addr} {fp wr : List Addr} {G : Array GenState -> Array GenState -> Prop} {n : Nat} {P : Nat -> Value -> Prop} {St : Nat -> Shared -> Prop}
end
section
variable {prog : Program} {w : World} {K : Type} [DecidableEq K] {knd : KeyKind prog w K} {Z : List Addr} {A : Around} {E : Value -> Shared -> Prop} {s : Shared}
end
end PySem
namespace PySem.F
end PySem.F
namespace PySem
open SetTable
section
variable {prog : Program} {w : World} {K : Type} [DecidableEq K] {knd : KeyKind prog w K} {A : Around} {E : Value -> Shared -> Prop} {s : Shared}
end
section
variable {prog : Program} {w : World} {A : Around} {E : Value -> Shared -> Prop} {s : Shared}
end
noncomputable abbrev kU(h:Heap)(z a b:Addr)(f0:Value)(fb:Bool):Prop:=h.get? z=some {cls:= .type "zip",data:= .fields #[f0,.bool fb,.bool false,.ref a,.ref b]}
section
variable {prog : Program} {w : World} {A : Around} {E : Value -> Shared -> Prop} {s : Shared} {z a b i j : Addr} {f g : List Addr} {n m k : Nat} {P P' : Nat -> Value -> Prop} {St St' : Nat -> Heap -> Prop} {u v : Value}
theorem BB{c:Addr}{o:Obj}{Q:Option Obj->Shared->Prop}(h:s.heap.get? c=some o)(q:Q (some o) s):wpAny (model prog w) A (loadIfAlive c) Q E s:=by
 intro U p J
 show Q (s.heap.get? c) s
 rw [h]
 exact q
theorem uV{fb:Bool}{T:Addr}{o:Obj}{Q:Bool->Shared->Prop}(hz:kU s.heap z a b (rawInt T) fb)(hT:s.heap.get? T=some o)
  (hQ:∀ h',kU h' z a b (rawInt T) true->Heap.SameBut z s.heap h'->Q false {s with heap:=h'}):wpAny (model prog w) A (Builtin.SmallTypes.ownedTupleIsFree (.ref z)) Q E s:=by
 unfold Builtin.SmallTypes.ownedTupleIsFree
 refine wpAny_bind (wpAny_field hz rfl (x:=rawInt T) rfl ?_)
 show wpAny _ _ (loadIfAlive _ >>= _) _ _ _
 refine wpAny_bind (BB (c:=T) hT ?_)
 simp only [Option.isNone_some,Bool.false_eq_true,if_false]
 refine wpAny_bind (wpAny_field hz rfl (x:= .bool fb) rfl ?_)
 cases fb with
 | true=>
  exact wpAny_pure (hQ s.heap hz ⟨rfl,fun _ _=>rfl⟩)
 | false=>
  simp only [show((Value.bool false != Value.bool true)=true) from rfl,if_true]
  refine wpAny_bind (wpAny_setField_rec hz (by simp) fun H1 J U=>wpAny_pure (hQ H1 J U))
theorem AD{fb:Bool}{T:Addr}{o:Obj}{Q:Value->Shared->Prop}(D:Draws prog w A i f n P St)(D':Draws prog w A j g m P' St')(R:Ap z a b i j f g)(hz:kU s.heap z a b (rawInt T) fb)(hT:s.heap.get? T=some o)(ha:IsPair s.heap a (.ref i) (.ref j))(h1:St k s.heap)(h2:St' k s.heap)(hk:k < n)(hk':k < m)
  (hQ:∀ x y h' tk,P k x->P' k y->kU h' z a b (rawInt T) true->St (k + 1) h'->St' (k + 1) h'->IsPair h' s.heap.objs.size x y->
   (∀ c o,c≠z->c≠i->c≠j->s.heap.get? c=some o->h'.get? c=some o)->Q (.ref s.heap.objs.size) {s with heap:=h',toks:=tk}):
  wpAny (model prog w) A (Builtin.«zip.__next__» ⟨[.ref z],[]⟩) (fun fin s'=>∃ r,fin= .done (.ret r)/\Q r s') E s:=by
 show wpAny _ _ (field (.ref z) 2 >>= _) _ _ _
 refine wpAny_bind (wpAny_field hz rfl (x:= .bool false) rfl ?_)
 show wpAny _ _ (field (.ref z) 3 >>= _) _ _ _
 refine wpAny_bind (wpAny_field hz rfl (x:= .ref a) rfl (wpAny_bind (wpAny_seqItems ha rfl ?_)))
 show wpAny _ _ (Builtin.SmallTypes.ownedTupleIsFree (.ref z) >>= _) _ _ _
 refine wpAny_bind (uV hz hT fun H1 z1 q1=>?_)
 simp only [Bool.false_eq_true,if_false]
 refine wpAny_bind ?_
 simp only [<-Array.forIn_toList,List.forIn_cons,List.forIn_nil]
 refine wpAny_bind (wpAny_bind (wpAny_holding ?_))
 show wpAny _ _ (Builtin.SmallTypes.nextOf (.ref i) >>= _) _ _ _
 have ah:St k H1:=D.frame _ _ _ h1 fun c hc o e=>q1.extBut c o (fun y=>R.fz (y ▸ hc)) e
 have ae:St' k H1:=D'.frame _ _ _ h2 fun c hc o e=>q1.extBut c o (fun y=>R.gz (y ▸ hc)) e
 refine wpAny_bind (D.item k _ _ _ hk ah fun x H2 au px ak q2=>wpAny_pure ?_)
 have J:Heap.SameBut i H1 H2:=q2
 refine wpAny_pure ?_
 refine wpAny_bind (wpAny_bind (wpAny_holding ?_))
 show wpAny _ _ (Builtin.SmallTypes.nextOf (.ref j) >>= _) _ _ _
 have af:St' k H2:=D'.frame _ _ _ ae fun c hc o e=>J.extBut c o (fun y=>R.gi (y ▸ hc)) e
 refine wpAny_bind (D'.item k _ _ _ hk' af fun y U ao py ag q4=>wpAny_pure ?_)
 have aa:Heap.SameBut j H2 U:=q4
 refine wpAny_pure (wpAny_pure ?_)
 show wpAny _ _ (newTuple [x,y] >>= _) _ _ _
 refine wpAny_bind (wpAny_newTuple ?_)
 have aq:U.objs.size=s.heap.objs.size:=by rw [aa.1,J.1,q1.1]
 refine wpAny_pure ⟨_,rfl,?_⟩
 show Q (.ref U.objs.size) _
 have up:∀ c o,U.get? c=some o->(U.push {cls:= .type "tuple",data:= .seq [x,y].toArray}).get? c=some o:=fun c o e=>Heap.get?_push_of_some _ e
 have z4:kU U z a b (rawInt T) true:=aa.extBut _ _ R.jz.symm (J.extBut _ _ R.iz.symm z1)
 have ar:St (k + 1) U:=D.frame _ _ _ ak fun c hc o e=>aa.extBut _ _ (fun y=>R.fj (y ▸ hc)) e
 have tp:IsPair (U.push {cls:= .type "tuple",data:= .seq [x,y].toArray}) U.objs.size x y:=Heap.get?_push_size _ rfl
 rw [aq] at tp ⊢
 exact hQ x y _ ao px py (up _ _ z4) (D.frame _ _ _ ar fun c hc o e=>up c o e) (D'.frame _ _ _ ag fun c hc o e=>up c o e) tp fun c o c1 c3 c4 e=>up c o (aa.extBut _ _ c4 (J.extBut _ _ c3 (q1.extBut _ _ c1 e)))
theorem Ff{fb:Bool}{T:Addr}{o:Obj}{Q:Fin->Shared->Prop}(D:Draws prog w A i f n P St)(R:Ap z a b i j f g)(hz:kU s.heap z a b (rawInt T) fb)(hT:s.heap.get? T=some o)(ha:IsPair s.heap a (.ref i) (.ref j))(h1:St n s.heap)
  (hE:∀ h' e,(∀ c o,c≠z->c≠i->s.heap.get? c=some o->h'.get? c=some o)->(∃ o,h'.get? e=some o/\o.cls= .type "StopIteration")->E (.ref e) {s with heap:=h'}):
  wpAny (model prog w) A (Builtin.«zip.__next__» ⟨[.ref z],[]⟩) Q E s:=by
 show wpAny _ _ (field (.ref z) 2 >>= _) _ _ _
 refine wpAny_bind (wpAny_field hz rfl (x:= .bool false) rfl ?_)
 show wpAny _ _ (field (.ref z) 3 >>= _) _ _ _
 refine wpAny_bind (wpAny_field hz rfl (x:= .ref a) rfl (wpAny_bind (wpAny_seqItems ha rfl ?_)))
 show wpAny _ _ (Builtin.SmallTypes.ownedTupleIsFree (.ref z) >>= _) _ _ _
 refine wpAny_bind (uV hz hT fun H1 z1 J=>?_)
 simp only [Bool.false_eq_true,if_false]
 refine wpAny_bind ?_
 simp only [<-Array.forIn_toList,List.forIn_cons,List.forIn_nil]
 refine wpAny_bind (wpAny_bind (wpAny_holding ?_))
 show wpAny _ _ (Builtin.SmallTypes.nextOf (.ref i) >>= _) _ _ _
 refine wpAny_bind (D.done _ _ _ (D.frame _ _ _ h1 fun c hc o e=>J.extBut c o (fun y=>R.fz (y ▸ hc)) e) fun H2 e U he=>?_)
 exact hE H2 e (fun c o c1 c3 y=>U _ _ c3 (J.extBut _ _ c1 y)) he
theorem EH{fb:Bool}{T:Addr}{o:Obj}{Q:Fin->Shared->Prop}(D:Draws prog w A i f n P St)(D':Draws prog w A j g m P' St')(R:Ap z a b i j f g)(hz:kU s.heap z a b (rawInt T) fb)(hT:s.heap.get? T=some o)(ha:IsPair s.heap a (.ref i) (.ref j))(h1:St k s.heap)(h2:St' m s.heap)(hk:k < n)
  (hE:∀ h' e,(∀ c o,c≠z->c≠i->c≠j->s.heap.get? c=some o->h'.get? c=some o)->(∃ o,h'.get? e=some o/\o.cls= .type "StopIteration")->∀ tk,E (.ref e) {s with heap:=h',toks:=tk}):
  wpAny (model prog w) A (Builtin.«zip.__next__» ⟨[.ref z],[]⟩) Q E s:=by
 show wpAny _ _ (field (.ref z) 2 >>= _) _ _ _
 refine wpAny_bind (wpAny_field hz rfl (x:= .bool false) rfl ?_)
 show wpAny _ _ (field (.ref z) 3 >>= _) _ _ _
 refine wpAny_bind (wpAny_field hz rfl (x:= .ref a) rfl (wpAny_bind (wpAny_seqItems ha rfl ?_)))
 show wpAny _ _ (Builtin.SmallTypes.ownedTupleIsFree (.ref z) >>= _) _ _ _
 refine wpAny_bind (uV hz hT fun H1 z1 q1=>?_)
 simp only [Bool.false_eq_true,if_false]
 refine wpAny_bind ?_
 simp only [<-Array.forIn_toList,List.forIn_cons,List.forIn_nil]
 refine wpAny_bind (wpAny_bind (wpAny_holding ?_))
 show wpAny _ _ (Builtin.SmallTypes.nextOf (.ref i) >>= _) _ _ _
 have ae:St k H1:=D.frame _ _ _ h1 fun c hc o e=>q1.extBut c o (fun y=>R.fz (y ▸ hc)) e
 have J:St' m H1:=D'.frame _ _ _ h2 fun c hc o e=>q1.extBut c o (fun y=>R.gz (y ▸ hc)) e
 refine wpAny_bind (D.item k _ _ _ hk ae fun x H2 af px ag q2=>wpAny_pure ?_)
 have U:Heap.SameBut i H1 H2:=q2
 refine wpAny_pure ?_
 refine wpAny_bind (wpAny_bind (wpAny_holding ?_))
 show wpAny _ _ (Builtin.SmallTypes.nextOf (.ref j) >>= _) _ _ _
 have aa:St' m H2:=D'.frame _ _ _ J fun c hc o e=>U.extBut c o (fun y=>R.gi (y ▸ hc)) e
 refine wpAny_bind (D'.done _ _ _ aa fun H4 e q4 he=>?_)
 exact hE H4 e (fun c o c1 c3 c4 y=>q4 _ _ c4 (U.extBut _ _ c3 (q1.extBut _ _ c1 y))) he _
theorem GX{fb:Bool}{T:Addr}{o:Obj}{Q:Option Value->Shared->Prop}(D:Draws prog w A.in1 i f n P St)(D':Draws prog w A.in1 j g m P' St')(R:Ap z a b i j f g)(hz:kU s.heap z a b (rawInt T) fb)(hT:s.heap.get? T=some o)(ha:IsPair s.heap a (.ref i) (.ref j))(h1:St k s.heap)(h2:St' k s.heap)(hk:k < n)(hk':k < m)
  (hQ:∀ x y h' tk,P k x->P' k y->kU h' z a b (rawInt T) true->St (k + 1) h'->St' (k + 1) h'->IsPair h' s.heap.objs.size x y->
   (∀ c o,c≠z->c≠i->c≠j->s.heap.get? c=some o->h'.get? c=some o)->Q (some (.ref s.heap.objs.size)) {s with heap:=h',toks:=tk}):wpAny (model prog w) A (pyNext (.ref z)) Q E s:=by
 have J:s.TypeIs (.ref z) "zip":=⟨_,hz,rfl⟩
 unfold pyNext
 exact wpAny_bind (wpAny_attempt (wpAny_callSpecial?_slot (name:=Str.ofString "__next__") J F.slot_zip_next (wpAny_call_entry F.slot_zip_next J F.entry_zip_next
  (AD D D' R hz hT ha h1 h2 hk hk' fun x y h' tk p1 p2 U e3 e4 e5 e6=>wpAny_pure (hQ x y h' tk p1 p2 U e3 e4 e5 e6)) (F.args_zip_next_1 _))))
theorem Dv{fb:Bool}{T:Addr}{o:Obj}{Q:Option Value->Shared->Prop}(D:Draws prog w A.in1 i f n P St)(R:Ap z a b i j f g)(hz:kU s.heap z a b (rawInt T) fb)(hT:s.heap.get? T=some o)(ha:IsPair s.heap a (.ref i) (.ref j))(h1:St n s.heap)
  (hQ:∀ h',(∀ c o,c≠z->c≠i->s.heap.get? c=some o->h'.get? c=some o)->Q none {s with heap:=h'}):wpAny (model prog w) A (pyNext (.ref z)) Q E s:=by
 have J:s.TypeIs (.ref z) "zip":=⟨_,hz,rfl⟩
 unfold pyNext
 refine wpAny_bind (wpAny_attempt (wpAny_callSpecial?_slot (name:=Str.ofString "__next__") J F.slot_zip_next (wpAny_call_entry F.slot_zip_next J F.entry_zip_next (Ff D R hz hT ha h1 fun h' e hk he=>?_) (F.args_zip_next_1 _))))
 obtain⟨o,U,hc⟩:=he
 exact wpAny_bind (wpAny_isInstance (T:="StopIteration") (b:=true) ⟨o,U,hc⟩ isSubtype_stop (wpAny_pure (hQ _ hk)))
theorem FX{fb:Bool}{T:Addr}{o:Obj}{Q:Option Value->Shared->Prop}(D:Draws prog w A.in1 i f n P St)(D':Draws prog w A.in1 j g m P' St')(R:Ap z a b i j f g)(hz:kU s.heap z a b (rawInt T) fb)(hT:s.heap.get? T=some o)(ha:IsPair s.heap a (.ref i) (.ref j))(h1:St k s.heap)(h2:St' m s.heap)(hk:k < n)
  (hQ:∀ h' tk,(∀ c o,c≠z->c≠i->c≠j->s.heap.get? c=some o->h'.get? c=some o)->Q none {s with heap:=h',toks:=tk}):wpAny (model prog w) A (pyNext (.ref z)) Q E s:=by
 have J:s.TypeIs (.ref z) "zip":=⟨_,hz,rfl⟩
 unfold pyNext
 refine wpAny_bind (wpAny_attempt (wpAny_callSpecial?_slot (name:=Str.ofString "__next__") J F.slot_zip_next (wpAny_call_entry F.slot_zip_next J F.entry_zip_next (EH D D' R hz hT ha h1 h2 hk fun h' e hk he tk=>?_) (F.args_zip_next_1 _))))
 obtain⟨o,U,hc⟩:=he
 exact wpAny_bind (wpAny_isInstance (T:="StopIteration") (b:=true) ⟨o,U,hc⟩ isSubtype_stop (wpAny_pure (hQ _ tk hk)))
end
section
variable {prog : Program} {w : World} {A : Around} {z TI TO i1 i2 l1 l2 S : Addr} {xs ys : Array Value}
theorem ug(R:ZipApart z TI TO i1 i2 l1 l2):Ap z TI TO i1 i2 [i1,l1] [i2,l2]:=
 ⟨R.TIz,R.TOz,R.i1z,R.i2z,R.TITO,R.TIi1,R.TIi2,R.TOi1,R.TOi2,R.i12,by simp [R.i1z.symm,R.l1z.symm],by simp [R.TOi1,R.l1TO.symm],by simp [R.i12.symm,R.l1i2.symm],by simp [R.i2z.symm,R.l2z.symm],by simp [R.TOi2,R.l2TO.symm],by simp [R.i12,R.l2i1.symm]⟩
noncomputable def ZJ(z TI TO i1 i2 l1 l2 S:Addr)(xs ys:Array Value)(k:Nat)(h:Heap):Prop:=
 IsPair h TI (.ref i1) (.ref i2)/\h.IsListIter i1 l1 k/\h.IsListIter i2 l2 k/\h.IsList l1 xs/\h.IsList l2 ys/\
 ((k=0/\IsZip h z TI TO .none/\∃ a b,IsPair h TO a b)\/∃ T fb o,h.get? T=some o/\T≠z/\T≠TO/\T≠i1/\T≠i2/\T≠S/\kU h z TI TO (rawInt T) fb)
theorem ZJ.keep {k:Nat}{h h':Heap}(hS:S∉[z,TI,TO,i1,i2,l1,l2])(j:ZJ z TI TO i1 i2 l1 l2 S xs ys k h)(kk:∀ b o,b≠S->h.get? b=some o->h'.get? b=some o):ZJ z TI TO i1 i2 l1 l2 S xs ys k h':=by
 simp only [List.mem_cons,List.not_mem_nil,or_false,not_or] at hS
 obtain⟨s1,s2,s3,s4,s5,U,s7⟩:=hS
 obtain⟨p,⟨o1,a1,b1⟩,⟨o2,a2,b2⟩,⟨o3,a3,b3⟩,⟨o4,a4,b4⟩,r⟩:=j
 refine⟨kk _ _ (Ne.symm s2) p,⟨o1,kk _ _ (Ne.symm s4) a1,b1⟩,⟨o2,kk _ _ (Ne.symm s5) a2,b2⟩,⟨o3,kk _ _ (Ne.symm U) a3,b3⟩,⟨o4,kk _ _ (Ne.symm s7) a4,b4⟩,?_⟩
 rcases r with ⟨k0,hz,u,v,ho⟩ | ⟨T,fb,o,hT,n1,n2,n3,n4,J,hz⟩
 ·exact .inl ⟨k0,kk _ _ (Ne.symm s1) hz,u,v,kk _ _ (Ne.symm s3) ho⟩
 ·exact .inr ⟨T,fb,o,kk _ _ J hT,n1,n2,n3,n4,J,kk _ _ (Ne.symm s1) hz⟩
theorem AA{E:Value->Shared->Prop}{s:Shared}{k:Nat}{Q:Option Value->Shared->Prop}(hh:A.handled=none)(R:ZipApart z TI TO i1 i2 l1 l2)(j:ZJ z TI TO i1 i2 l1 l2 S xs ys k s.heap)(hS:S < s.heap.objs.size)(hk:k < min xs.size ys.size)
  (hQ:∀ T x y h' tk,xs[k]? =some x->ys[k]? =some y->h'.IsTuple T #[x,y]->s.heap.objs.size<=T->ZJ z TI TO i1 i2 l1 l2 S xs ys (k + 1) h'->(∀ c o,c∉[z,TO,i1,i2]->s.heap.get? c=some o->h'.get? c=some o)->Q (some (.ref T)) {s with heap:=h',toks:=tk}):
  wpAny (model prog w) A (pyNext (.ref z)) Q E s:=by
 obtain⟨p,a1,a2,a3,a4,r⟩:=j
 rcases r with ⟨k0,hz,u,v,ho⟩ | ⟨T,fb,o,hT,n1,n2,n3,n4,n5,hz⟩
 ·subst k0
  refine(WalksT.zip2 (prog:=prog) (w:=w) hh z TI TO i1 i2 l1 l2 R xs ys).item 0 s Q E hk ⟨hz,p,⟨u,v,ho⟩,a1,a2,a3,a4⟩ fun T vals h' tk hv hle ht mid J=>?_
  obtain⟨x,y,U,hy,rfl⟩:=hv
  obtain⟨m1,m2,m3,m4,m5,m6,m7,m8,m9,m10,m11⟩:=mid
  obtain⟨ot,e1,e2⟩:=id ht
  exact hQ T x y h' tk U hy ht hle ⟨m2,m4,m5,m6,m7,.inr ⟨T,false,ot,e1,m8,m9,m10,m11,fun q=>absurd hS (by rw [<-q];exact Nat.not_lt.mpr hle),m1⟩⟩ J
 ·have D:=Draws.list (prog:=prog) (w:=w) (A:=A.in1) (by simpa using hh) i1 l1 R.l1i1 xs
  have D':=Draws.list (prog:=prog) (w:=w) (A:=A.in1) (by simpa using hh) i2 l2 R.l2i2 ys
  refine GX D D' (ug R) hz hT p ⟨a1,a3⟩ ⟨a2,a4⟩ (by omega) (by omega) fun x y h' tk U hy z1 q1 q2 tp J=>?_
  refine hQ s.heap.objs.size x y h' tk U hy ⟨_,tp,rfl,0,rfl⟩ (Nat.le_refl _) ⟨J _ _ R.TIz R.TIi1 R.TIi2 p,q1.1,q2.1,q1.2,q2.2,.inr ⟨T,true,o,J _ _ n1 n3 n4 hT,n1,n2,n3,n4,n5,z1⟩⟩ fun c o hc e=>?_
  simp only [List.mem_cons,List.not_mem_nil,or_false,not_or] at hc
  exact J c o hc.1 hc.2.2.1 hc.2.2.2 e
theorem FR{E:Value->Shared->Prop}{s:Shared}{k:Nat}{Q:Option Value->Shared->Prop}(hh:A.handled=none)(R:ZipApart z TI TO i1 i2 l1 l2)(j:ZJ z TI TO i1 i2 l1 l2 S xs ys k s.heap)(hk:k=min xs.size ys.size)
  (hQ:∀ h' tk,(∀ c o,c∉[z,TO,i1,i2]->s.heap.get? c=some o->h'.get? c=some o)->Q none {s with heap:=h',toks:=tk}):wpAny (model prog w) A (pyNext (.ref z)) Q E s:=by
 obtain⟨p,a1,a2,U,a4,r⟩:=j
 rcases r with ⟨k0,hz,u,v,ho⟩ | ⟨T,fb,o,hT,n1,n2,n3,n4,n5,hz⟩
 ·subst k0
  refine(WalksT.zip2 (prog:=prog) (w:=w) hh z TI TO i1 i2 l1 l2 R xs ys).done s Q E (by rw [<-hk];exact⟨hz,p,⟨u,v,ho⟩,a1,a2,U,a4⟩) fun h' tk J=>hQ h' tk J
 ·have D:=Draws.list (prog:=prog) (w:=w) (A:=A.in1) (by simpa using hh) i1 l1 R.l1i1 xs
  have D':=Draws.list (prog:=prog) (w:=w) (A:=A.in1) (by simpa using hh) i2 l2 R.l2i2 ys
  by_cases q:k=xs.size
  ·refine Dv D (ug R) hz hT p ⟨q ▸ a1,U⟩ fun h' J=>hQ h' s.toks fun c o hc e=>?_
   simp only [List.mem_cons,List.not_mem_nil,or_false,not_or] at hc
   exact J c o hc.1 hc.2.2.1 e
  ·have q':k=ys.size:=by omega
   refine FX D D' (ug R) hz hT p ⟨a1,U⟩ ⟨q' ▸ a2,a4⟩ (by omega) fun h' tk J=>hQ h' tk fun c o hc e=>?_
   simp only [List.mem_cons,List.not_mem_nil,or_false,not_or] at hc
   exact J c o hc.1 hc.2.2.1 hc.2.2.2 e
noncomputable def mx(z TO i1 i2 S lo:Addr)(xs ys acc:Array Value)(h:Heap):Prop:=∃ J:List Addr,acc=(J.map Value.ref).toArray/\J.Nodup/\(∀ T∈J,T∉[S,z,TO,i1,i2]/\lo<=T)/\∀(t:Nat) (T:Addr),J[t]? =some T->∃ x y,h.IsTuple T #[x,y]/\xs[t]? =some x/\ys[t]? =some y
theorem mx.keep {lo:Addr}{acc:Array Value}{h h':Heap}(a:mx z TO i1 i2 S lo xs ys acc h)(kk:∀ c o,c∉[S,z,TO,i1,i2]->h.get? c=some o->h'.get? c=some o):mx z TO i1 i2 S lo xs ys acc h':=by
 obtain⟨J,e,nd,hm,hf⟩:=a
 refine⟨J,e,nd,hm,fun t T ht=>?_⟩
 obtain⟨x,y,⟨o,U,r⟩,hx,hy⟩:=hf t T ht
 exact⟨x,y,⟨o,kk T o (hm T (List.mem_of_getElem? ht)).1 U,r⟩,hx,hy⟩
theorem vQ{R':Result->Shared->Prop}{lo:Addr}(hh:A.handled=none)(R:ZipApart z TI TO i1 i2 l1 l2)(hS:S∉[z,TI,TO,i1,i2,l1,l2])(res:Value)(hn:min xs.size ys.size < sizeLine)(hlz:lo<=z/\z≠TO):∀(r k:Nat) (s:Shared) (acc:Array Value) (c:Nat),min xs.size ys.size - k=r->k<=min xs.size ys.size->
  ZJ z TI TO i1 i2 l1 l2 S xs ys k s.heap->s.heap.get? S=some {cls:= .type "list",data:= .seq acc c}->acc.size=k->(lo<=s.heap.objs.size/\(∀ q∈[S,z,TO,i1,i2],q < s.heap.objs.size))->mx z TO i1 i2 S lo xs ys acc s.heap->
  (∀(h':Heap) (tk:Nat) (acc':Array Value) (c':Nat),(∀ b o,b∉[S,z,TO,i1,i2]->s.heap.get? b=some o->h'.get? b=some o)->h'.get? S=some {cls:= .type "list",data:= .seq acc' c'}->acc'.size=min xs.size ys.size->mx z TO i1 i2 S lo xs ys acc' h'->R' (.ok (.ret res)) {s with heap:=h',toks:=tk})->
  codeAny (model prog w) A (.builtin "list.extend.loop" ⟨[.ref S,.ref z,res],[]⟩) R' s
 | 0,k,s,acc,c,hr,hk,hj,hl,ha,hb,hA,hR=>by
  refine codeAny_builtin F.entry_extend_loop ?_
  rw [Around.under_plainId F.plain_extend_loop _]
  show wpAny _ A.in1 (pyNext (.ref z) >>= _) _ _ s
  refine wpAny_bind (FR (by simpa using hh) R hj (by omega) fun h' tk kk=>?_)
  have aa:S∉[z,TO,i1,i2]:=fun q=>hS (by simp only [List.mem_cons,List.not_mem_nil,or_false] at q ⊢;rcases q with q | q | q | q<;>simp [q])
  refine wpAny_pure (hR h' tk acc c (fun b o hb e=>kk b o (fun q=>hb (List.mem_cons_of_mem _ q)) e) (kk S _ aa hl) (by omega) (hA.keep fun b o hb e=>kk b o (fun q=>hb (List.mem_cons_of_mem _ q)) e))
 | r + 1,k,s,acc,c,hr,hk,hj,hl,ha,hb,hA,hR=>by
  refine codeAny_builtin F.entry_extend_loop ?_
  rw [Around.under_plainId F.plain_extend_loop _]
  show wpAny _ A.in1 (pyNext (.ref z) >>= _) _ _ s
  have aa:S∉[z,TO,i1,i2]:=fun q=>hS (by simp only [List.mem_cons,List.not_mem_nil,or_false] at q ⊢;rcases q with q | q | q | q<;>simp [q])
  refine wpAny_bind (AA (by simpa using hh) R hj (Heap.lt_size hl) (by omega) fun T x y h' tk hx hy ht hle ao kk=>?_)
  have af:h'.get? S=some {cls:= .type "list",data:= .seq acc c}:=kk S _ aa hl
  show wpAny _ A.in1 (updateSeq S (·.push (.ref T)) >>= _) _ _ _
  refine wpAny_bind (wpAny_updateSeq af rfl ?_ (by omega) (by simp;omega))
  have aq:=Heap.get?_update_self (Obj.mapSeq (·.push (Value.ref T))) af rfl
  have ae:∀ b o,b≠S->h'.get? b=some o->(h'.update S (Obj.mapSeq (·.push (Value.ref T)))).get? b=some o:=fun b o q e=>(Heap.get?_update_other _ _ (Ne.symm q)).trans e
  have ag:(h'.update S (Obj.mapSeq (·.push (Value.ref T)))).objs.size=h'.objs.size:=Heap.size_update ..
  have ah:s.heap.objs.size<=h'.objs.size:=Nat.le_trans hle (Nat.le_of_lt (by obtain⟨o,e,_⟩:=ht;exact Heap.lt_size e))
  refine wpAny_pure ⟨plainId_quiet F.plain_extend_loop _,?_⟩
  have kp:∀ b o,b∉[S,z,TO,i1,i2]->s.heap.get? b=some o->(h'.update S (Obj.mapSeq (·.push (Value.ref T)))).get? b=some o:=fun b o hb e=>ae b o (fun q=>hb (q ▸ List.mem_cons_self)) (kk b o (fun q=>hb (List.mem_cons_of_mem _ q)) e)
  have Tn:∀ q∈[S,z,TO,i1,i2],T≠q:=fun q hq e=>absurd (hb.2 q hq) (by rw [<-e];exact Nat.not_lt.mpr hle)
  refine vQ hh R hS res hn hlz r (k + 1) {s with heap:=h'.update S (Obj.mapSeq (·.push (Value.ref T))),toks:=tk} (acc.push (.ref T)) _ (by omega) (by omega) (ao.keep hS ae) aq (by simp [ha]) ⟨?_,?_⟩ ?_ fun h3 ar ak c3 k3 l3 s3 a3=>?_
  ·show lo<=(h'.update S (Obj.mapSeq (·.push (Value.ref T)))).objs.size
   rw [ag];exact Nat.le_trans hb.1 ah
  ·intro q hq
   show q < (h'.update S (Obj.mapSeq (·.push (Value.ref T)))).objs.size
   rw [ag];exact Nat.lt_of_lt_of_le (hb.2 q hq) ah
  ·obtain⟨ts,e,nd,hm,hf⟩:=hA
   have av:ts.length=k:=by rw [<-ha,e];simp
   have old:∀ U∈ts,∃ o,s.heap.get? U=some o:=fun U J=>by
    obtain⟨t,au⟩:=List.getElem?_of_mem J
    obtain⟨_,_,⟨o,ho,_⟩,_⟩:=hf t U au
    exact⟨o,ho⟩
   refine⟨ts++[T],by rw [e];simp,?_,fun U J=>?_,fun t U J=>?_⟩
   ·refine List.nodup_append.mpr ⟨nd,by simp,fun U J V hV=>?_⟩
    rw [List.mem_singleton] at hV
    subst hV
    intro q
    obtain⟨o,ho⟩:=old U J
    exact absurd (Heap.lt_size ho) (by rw [q];exact Nat.not_lt.mpr hle)
   ·rcases List.mem_append.mp J with h | h
    ·exact hm U h
    ·rw [List.mem_singleton] at h
     subst h
     exact⟨fun q=>Tn _ q rfl,Nat.le_trans hb.1 hle⟩
   ·by_cases q:t < ts.length
    ·rw [List.getElem?_append_left q] at J
     obtain⟨x,y,⟨o,ho,r'⟩,hx,hy⟩:=hf t U J
     exact⟨x,y,⟨o,kp U o (hm U (List.mem_of_getElem? J)).1 ho,r'⟩,hx,hy⟩
    ·rw [List.getElem?_append_right (by omega)] at J
     have:t - ts.length=0:=by
      rcases Nat.eq_zero_or_pos (t - ts.length) with h | h
      ·exact h
      ·rw [List.getElem?_eq_none (by simp;omega)] at J;cases J
     rw [this] at J
     cases J
     have et:t=k:=by omega
     subst et
     obtain⟨o,ho,r'⟩:=ht
     exact⟨x,y,⟨o,ae _ o (Tn S List.mem_cons_self) ho,r'⟩,hx,hy⟩
  ·exact hR h3 ar ak c3 (fun b o hb e=>k3 b o hb (kp b o hb e)) l3 s3 a3
end
section
variable {prog : Program} {w : World} {A : Around} {E : Value -> Shared -> Prop} {s : Shared} {z TI TO i1 i2 l1 l2 : Addr} {xs ys : Array Value}
theorem Bu:typeLookup (.type "zip") "__len__"=pure none:=by kernel_rfl
theorem D9:typeLookup (.type "zip") "__length_hint__"=pure none:=by kernel_rfl
theorem HE{R':Result->Shared->Prop}{S lo:Addr}(hh:A.handled=none)(R:ZipApart z TI TO i1 i2 l1 l2)(hS:S∉[z,TI,TO,i1,i2,l1,l2])(hn:min xs.size ys.size < sizeLine)(hlz:lo<=z/\z≠TO)(hj:ZJ z TI TO i1 i2 l1 l2 S xs ys 0 s.heap)
  (hz:IsZip s.heap z TI TO .none)(hl:s.heap.get? S=some {cls:= .type "list",data:= .seq #[]})(hb:lo<=s.heap.objs.size/\(∀ q∈[S,z,TO,i1,i2],q < s.heap.objs.size))
  (hR:∀(h':Heap) (tk:Nat) (acc':Array Value) (c':Nat),(∀ b o,b∉[S,z,TO,i1,i2]->s.heap.get? b=some o->h'.get? b=some o)->h'.get? S=some {cls:= .type "list",data:= .seq acc' c'}->acc'.size=min xs.size ys.size->mx z TO i1 i2 S lo xs ys acc' h'->R' (.ok (.ret .none)) {s with heap:=h',toks:=tk}):
  wpAny (model prog w) A.in1 (Builtin.«list.__init__» ⟨[.ref S,.ref z],[]⟩) (fun fin s'=>match fin with | .done f=>R' (.ok f) s' | .again c'=>c'.quiet=true/\codeAny (model prog w) A c' R' s') (fun e s'=>R' (.error e) s') s:=by
 have J:S≠z:=fun q=>hS (by simp [q])
 unfold Builtin.«list.__init__»
 show wpAny _ _ (Builtin.List.listItems (.ref S) >>= fun old=>Builtin.List.listUpdate (.ref S) (fun _=>#[]) >>= fun _=>letGo old.toList.reverse >>= fun _=>Builtin.List.listExtendWith (.ref S) (.ref z) .none) _ _ _
 refine wpAny_bind (wpAny_listItems hl rfl ?_)
 refine wpAny_bind (wpAny_updateSeq hl rfl ?_)
 have e1:=Heap.get?_update_self (Obj.mapSeq (fun _=>(#[]:Array Value))) hl rfl
 have o1:∀ b o,b≠S->s.heap.get? b=some o->(s.heap.update S (Obj.mapSeq (fun _=>(#[]:Array Value)))).get? b=some o:=fun b o q e=>(Heap.get?_update_other _ _ (Ne.symm q)).trans e
 have z1:(s.heap.update S (Obj.mapSeq (fun _=>(#[]:Array Value)))).objs.size=s.heap.objs.size:=Heap.size_update ..
 generalize s.heap.update S (Obj.mapSeq (fun _=>(#[]:Array Value)))=H1 at e1 o1 z1
 refine wpAny_bind (wpAny_letGo ?_)
 unfold Builtin.List.listExtendWith
 have U:IsZip H1 z TI TO .none:=o1 _ _ (Ne.symm J) hz
 have hT:Shared.TypeIs {s with heap:=H1} (.ref z) "zip":=⟨_,U,rfl⟩
 refine wpAny_bind (wpAny_typeOf hT ?_)
 have h1:Builtin.List.listSameRef (.ref S) (.ref z)=false:=by
  simp only [Builtin.List.listSameRef,beq_eq_false_iff_ne];exact J
 have h2:(Value.type "zip" == Value.type "list")=false:=by decide
 have h3:(Value.type "zip" == Value.type "tuple")=false:=by decide
 simp only [h1,h2,h3,Bool.or_false,Bool.false_eq_true,if_false]
 refine wpAny_bind (wpAny_pyIter_zip U ?_)
 refine wpAny_bind (wpAny_holding ?_)
 unfold Builtin.List.listLengthHint
 refine wpAny_bind (wpAny_specialOf hT Bu ?_)
 show wpAny _ _ (specialOf (.ref z) "__length_hint__" >>= _) _ _ _
 refine wpAny_bind (wpAny_specialOf hT D9 ?_)
 refine wpAny_pure ?_
 rw [if_pos (by rfl)]
 refine wpAny_bind (wpAny_rule ?_)
 refine wpAny_bind ?_
 show wpAny _ A.in1 (updateSeq S (·.push .none) >>= fun _=>updateSeq S (·.pop)) _ _ _
 refine wpAny_bind (wpAny_updateSeq e1 rfl ?_)
 have e2:=Heap.get?_update_self (Obj.mapSeq (·.push Value.none)) e1 rfl
 refine wpAny_updateSeq (hz:=by seq_fits) e2 rfl ?_
 have e3:=Heap.get?_update_self (Obj.mapSeq (·.pop)) e2 rfl
 have o3:∀ b o,b≠S->s.heap.get? b=some o->((H1.update S (Obj.mapSeq (·.push Value.none))).update S (Obj.mapSeq (·.pop))).get? b=some o:=
  fun b o q e=>(Heap.get?_update_other _ _ (Ne.symm q)).trans ((Heap.get?_update_other _ _ (Ne.symm q)).trans (o1 b o q e))
 have z3:((H1.update S (Obj.mapSeq (·.push Value.none))).update S (Obj.mapSeq (·.pop))).objs.size=s.heap.objs.size:=by rw [Heap.size_update,Heap.size_update,z1]
 generalize (H1.update S (Obj.mapSeq (·.push Value.none))).update S (Obj.mapSeq (·.pop))=H3 at e3 o3 z3
 refine wpAny_pure ⟨plainId_quiet F.plain_extend_loop _,vQ (lo:=lo) hh R hS .none hn hlz _ 0 {s with heap:=H3} #[] _ rfl (Nat.zero_le _) (hj.keep hS o3) e3 rfl ⟨by show lo<=H3.objs.size;rw [z3];exact hb.1,fun q hq=>by show q < H3.objs.size;rw [z3];exact hb.2 q hq⟩ ⟨[],rfl,List.nodup_nil,fun T h=>absurd h List.not_mem_nil,fun t T h=>by cases t<;>cases h⟩ fun h' tk acc' c' kk aa ae af=>?_⟩
 exact hR h' tk acc' c' (fun b o hb e=>kk b o hb (o3 b o (fun q=>hb (q ▸ List.mem_cons_self)) e)) aa ae af
theorem xU{M:Model}{self a:Value}{Q:Unit->Shared->Prop}(hT:s.TypeIs self "list")(q:Q () s):wpAny M A (checkBuiltinCall "list.__init__" ⟨[self,a],[]⟩) Q E s:=by
 have e:=F.args_list_init_2 self a
 unfold argsOk at e
 unfold checkBuiltinCall
 rw [show builtinKind "list.__init__"=some .slot from by kernel_rfl,show splitId "list.__init__"=some ("list","__init__") from by kernel_rfl]
 dsimp only
 refine wpAny_bind (wpAny_isInstance (b:=true) hT F.called_list.sub ?_)
 simp only [Bool.not_true,Bool.false_eq_true,if_false]
 cases hs:Manifest.signature? "list.__init__" with
 | none=>exact wpAny_pure q
 | some sig=>
  rw [hs] at e
  have J:Bind.checkArgs "list.__init__" sig ⟨[self,a],[]⟩=pure ():=e
  show wpAny _ _ (Bind.checkArgs "list.__init__" sig ⟨[self,a],[]⟩) _ _ _
  rw [J]
  exact wpAny_pure q
theorem BN{Q:Value->Shared->Prop}{lo:Addr}(hh:A.handled=none)(R:ZipApart z TI TO i1 i2 l1 l2)(hn:min xs.size ys.size < sizeLine)(hlz:lo<=z/\z≠TO)(hz:IsZip s.heap z TI TO .none)(p1:IsPair s.heap TI (.ref i1) (.ref i2))(p2:∃ a b,IsPair s.heap TO a b)
  (it1:s.heap.IsListIter i1 l1 0)(it2:s.heap.IsListIter i2 l2 0)(L1:s.heap.IsList l1 xs)(L2:s.heap.IsList l2 ys)(hb:lo<=s.heap.objs.size/\(∀ q∈[z,TI,TO,i1,i2,l1,l2],q < s.heap.objs.size))
  (hQ:∀(h':Heap) (tk:Nat) (acc':Array Value) (c':Nat),(∀ b o,b∉[s.heap.objs.size,z,TO,i1,i2]->s.heap.get? b=some o->h'.get? b=some o)->h'.get? s.heap.objs.size=some {cls:= .type "list",data:= .seq acc' c'}->acc'.size=min xs.size ys.size->mx z TO i1 i2 s.heap.objs.size lo xs ys acc' h'->Q (.ref s.heap.objs.size) {s with heap:=h',toks:=tk}):
  wpAny (model prog w) A (call (.type "list") [.ref z]) Q E s:=by
 obtain⟨c,tl,ak⟩:=F.called_list.mro
 have ah:=F.called_list.made
 have ao:=F.called_list.sub
 refine wpAny_call (codeAny_of_tree ?_)
 show wpAny _ _ (callAny (.type "list") _) _ _ _
 refine wpAny_pure ⟨Code.quiet_builtin _ dkq,codeAny_builtin F.entry_type_call ?_⟩
 rw [Around.under_plain (weight_type_call_type "list" [.ref z] []) rfl]
 have h1:=F.called_list.notType
 have h2:=F.called_list.canCreate
 have aq:=F.typeCall_list_1 (.ref z)
 repeat (any_goals (first | assumption | wp_step))
 refine codeAny_mono (code_list_new (.ref z) (E:=E) (Q₁:=fun obj U=>obj= .ref s.heap.objs.size/\U={s with heap:=s.heap.push {cls:= .type "list",data:= .seq #[]}}) ⟨rfl,rfl⟩) fun r U hr=>?_
 cases r with
 | error e=>exact hr
 | ok fl=>
  cases fl with
  | ret obj=>
   obtain⟨rfl,rfl⟩:=hr
   generalize hH:s.heap.push {cls:= .type "list",data:= .seq #[]}=H
   have hS:H.get? s.heap.objs.size=some {cls:= .type "list",data:= .seq #[]}:=by rw [<-hH];exact Heap.get?_push_size _ rfl
   have up:∀ b o,s.heap.get? b=some o->H.get? b=some o:=fun b o e=>by rw [<-hH];exact Heap.get?_push_of_some _ e
   have af:H.objs.size=s.heap.objs.size + 1:=by rw [<-hH,Heap.size_push]
   have hT:Shared.TypeIs {s with heap:=H} (.ref s.heap.objs.size) "list":=⟨_,hS,rfl⟩
   have ar:=F.called_list.init.lookup
   have au:=F.called_list.init.bind (.ref s.heap.objs.size)
   repeat (any_goals (first | assumption | wp_step))
   have nS:s.heap.objs.size∉[z,TI,TO,i1,i2,l1,l2]:=fun q=>Nat.lt_irrefl _ (hb.2 _ q)
   refine codeAny_mono (codeAny_call_builtin (R:=wants (fun r aa=>r= .none/\∃ h' tk acc' c',aa={s with heap:=h',toks:=tk}/\(∀ b o,b∉[s.heap.objs.size,z,TO,i1,i2]->s.heap.get? b=some o->h'.get? b=some o)/\
     h'.get? s.heap.objs.size=some {cls:= .type "list",data:= .seq acc' c'}/\acc'.size=min xs.size ys.size/\mx z TO i1 i2 s.heap.objs.size lo xs ys acc' h') E) F.called_list.init.plain F.entry_list_init (xU hT ?_)) fun ag aa J=>?_
   ·refine HE (s:={s with heap:=H}) (lo:=lo) (by simpa using hh) R nS hn hlz ⟨up _ _ p1,?_,?_,?_,?_,.inl ⟨rfl,up _ _ hz,?_⟩⟩ (up _ _ hz) hS ⟨by show lo<=H.objs.size;rw [af];exact Nat.le_succ_of_le hb.1,fun q hq=>?_⟩ fun h' tk acc' c' kk l' s' a'=>?_
    ·obtain⟨o,e,r⟩:=it1;exact⟨o,up _ _ e,r⟩
    ·obtain⟨o,e,r⟩:=it2;exact⟨o,up _ _ e,r⟩
    ·obtain⟨o,e,r⟩:=L1;exact⟨o,up _ _ e,r⟩
    ·obtain⟨o,e,r⟩:=L2;exact⟨o,up _ _ e,r⟩
    ·obtain⟨a,b,e⟩:=p2;exact⟨a,b,up _ _ e⟩
    ·show q < H.objs.size
     rw [af]
     rcases List.mem_cons.mp hq with h | h
     ·rw [h];exact Nat.lt_succ_self _
     ·exact Nat.lt_succ_of_lt (hb.2 q (by simp only [List.mem_cons,List.not_mem_nil,or_false] at h ⊢;rcases h with h | h | h | h<;>simp [h]))
    ·exact⟨rfl,h',tk,acc',c',rfl,fun b o hb e=>kk b o hb (up b o e),l',s',a'⟩
   ·cases ag with
    | error e=>exact J
    | ok ae=>
     cases ae with
     | ret r=>
      obtain⟨rfl,h',tk,acc',c',rfl,kk,l',s',a'⟩:=J
      repeat (any_goals (first | assumption | wp_step))
      exact hQ _ _ _ _ kk l' s' a'
     | _=>exact J.elim
  | next=>exact hr.elim
  | brk=>exact hr.elim
  | cont=>exact hr.elim
end
end PySem
namespace L2
open PySem PySem.Spec PyProof.Rows
theorem gO.updN {H H':Hp}{a:Addr}{o:HO}(s:gO H H')(h:H' a=none):gO H (upd H' a o):=fun b u e=>by
 rw [ig (fun z=>by rw [z] at e;rw [s _ _ e] at h;cases h)];exact s b u e
section
variable {X : Cx}
theorem Hv:kH X "str.endswith" (fun x xs H Q=>∃ z y,x= .str z/\xs=[.str y]/\Q (.bl (Txt.endswith z y)) H):=by
 intro pins s σ H x xs v us Q I J rs h
 obtain⟨z,y,rfl,rfl,q⟩:=h
 obtain⟨t,rfl⟩:=J
 obtain⟨u,rfl,t',rfl⟩:=vals1 rs
 exact SC.endswith ⟨.bl _,H,I,rfl,q⟩
theorem yC{xs:List V}{us:List Value}{i:Nat}{u:Value}(r:Vals xs us)(h:us[i]? =some u):∃ v,xs[i]? =some v/\RelV v u:=by
 have J:=r.length
 have hi:i < xs.length:=by rw [J];exact(List.getElem?_eq_some_iff.mp h).1
 obtain⟨U,e,q⟩:=r.get (List.getElem?_eq_getElem hi)
 rw [h] at e
 cases e
 exact⟨_,List.getElem?_eq_getElem hi,q⟩
theorem se{α β:Type}{F:α->β->Prop}:∀{l:List α} {m:List β},l.length=m.length->(∀(t:Nat) (a:α) (b:β),l[t]? =some a->m[t]? =some b->F a b)->Paired F l m
 | [],[],_,_=> .nil
 | [],_::_,h,_=>by simp at h
 | _::_,[],h,_=>by simp at h
 | a::l,b::m,h,f=> .cons (f 0 a b rfl rfl) (se (by simpa using h) fun t x y J U=>f (t + 1) x y J U)
theorem xp{pins:List (Addr×Obj)}{σ:St}{H:Hp}{s1 s2:Shared}(I1:Inv X pins σ H s1)(J:Inv X pins σ H s2):∀(ts:List (Addr×List V)),(∀ p∈ts,s1.heap.objs.size<=p.1)->(ts.map (·.1)).Nodup->
  (∀ p∈ts,p.2.length<=sizeLine/\∃ us:List Value,Vals p.2 us/\s2.heap.IsTuple p.1 us.toArray)->∃ H',Inv X pins σ H' s2/\gO H H'/\(∀ p∈ts,H' p.1=some (.tup p.2))/\∀ b,b∉ts.map (·.1)->H' b=H b
 | [],_,_,_=>⟨H,J,gO.refl H,fun p h=>absurd h List.not_mem_nil,fun _ _=>rfl⟩
 | (T,xs)::ts,hle,nd,ho=>by
  rw [List.map_cons,List.nodup_cons] at nd
  obtain⟨H',J',sm,hf,hn⟩:=xp I1 J ts (fun p U=>hle p (List.mem_cons_of_mem _ U)) nd.2 fun p U=>ho p (List.mem_cons_of_mem _ U)
  have hT:s1.heap.objs.size<=T:=hle (T,xs) List.mem_cons_self
  obtain⟨hz,us,rv,ot,ae,af,n,ag⟩:=ho (T,xs) List.mem_cons_self
  have aa:H' T=none:=by rw [hn T nd.1];exact I1.hok.fresh hT
  refine⟨upd H' T (.tup xs),?_,gO.updN sm aa,fun p U=>?_,fun b hb=>?_⟩
  ·refine J'.track (.inl (Heap.get?_none_of_le (Nat.le_trans I1.sz hT))) aa (Nat.ne_of_gt (Nat.lt_of_lt_of_le I1.lt hT)) (fun y c' q z=>?_) (fun p U z=>?_) ?_
   ·obtain⟨v,q'⟩:=I1.cell y c' q
    exact absurd (Nat.lt_of_lt_of_le q'.lt (by rw [z];exact hT)) (Nat.lt_irrefl _)
   ·exact absurd (Nat.lt_of_lt_of_le (Heap.lt_size (I1.pin p U).1) (by rw [z];exact hT)) (Nat.lt_irrefl _)
   ·exact⟨hz,us,rv,ot,ae,af,n,ag⟩
  ·rcases List.mem_cons.mp U with h | h
   ·subst h;exact gY
   ·have e:p.1≠T:=fun z=>nd.1 (by show T∈_;rw [<-z];exact List.mem_map_of_mem (f:=(·.1)) h)
    rw [ig e];exact hf p h
  ·have:b≠T:=fun z=>hb (by rw [z];exact List.mem_cons_self)
   rw [ig this]
   exact hn b fun h=>hb (List.mem_cons_of_mem _ h)
noncomputable def Cv(ta:TA):TE:=fun σ H Q=>ta σ H fun vs H1=>∃(l1 l2:Addr) (xs ys:List V),vs=[.ref l1,.ref l2]/\H1 l1=some (.lst xs)/\H1 l2=some (.lst ys)/\xs.length < sizeLine/\
 ∀(L:Addr) (ps:List Addr) (H2:Hp),gO H1 H2->H1 L=none->H2 L=some (.lst (ps.map V.ref))->Paired (fun p (q:V×V)=>H2 p=some (.tup [q.1,q.2])) ps (xs.zip ys)->Q (.ref L) H2
theorem Br{a b:Expr}{ta:TA}{p1 p2 q1 q2:Pos}(hc:X.A.handled=none)(hg1:Gl X "list")(hm1:X.mg "list"=none)(hg2:Gl X "zip")(hm2:X.mg "zip"=none)(ha:PA X [a,b] ta)
  (hs:starEach [a,b] X.env=(false,eval a X.env)::starEach [b] X.env:=by rfl)(hs2:(backTo q2 (starEach [b] X.env)).any (·.1)=false:=by rfl):
  PE X (.Call (.Name "list" p1) [.Call (.Name "zip" p2) [a,b] [] q2] [] q1) (Cv ta):=by
 intro pins s σ H Q I h
 refine wpAny_Call_Name_kw (kX (u:= .type "list") I hg1 hm1 rfl ?_ (by decide) (by decide))
 refine PyProof.Rows.callWith_type1 ?_ rfl rfl
 show wpAny _ _ (spliced ((false,eval (.Call (.Name "zip" p2) [a,b] [] q2) X.env)::[])) _ _ s
 refine Calls.spliced_cons ?_
 refine wpAny_Call_Name_kw (kX (u:= .type "zip") I hg2 hm2 rfl ?_ (by decide) (by decide))
 refine PyProof.Rows.callWith_type1 (ic (ha q2 pins s σ H _ I h) fun us s1 ⟨vs,H1,I1,r1,q1⟩=>?_) hs hs2
 obtain⟨l1,l2,xs,ys,e,hA,hB,hlen,q⟩:=q1
 subst e
 obtain⟨u1,u2,rfl,ay,aA⟩:=r1.two
 cases ay
 cases aA
 obtain⟨ao,rv,pl,hz⟩:=I1.list (gR.of hA)
 obtain⟨ag,aq,ah,aJ⟩:=I1.list (gR.of hB)
 have il:=rv.length
 have aB:=aq.length
 refine call_zip_2 pl.isList ah.isList fun h' aC aD aE h1 h2 ae hk=>?_
 refine Calls.spliced_nil ?_
 have ar:l1 < s1.heap.objs.size:=by obtain⟨o,e,_⟩:=pl.isList;exact Heap.lt_size e
 have au:l2 < s1.heap.objs.size:=by obtain⟨o,e,_⟩:=ah.isList;exact Heap.lt_size e
 have R:ZipApart (s1.heap.objs.size + 4) (s1.heap.objs.size + 2) (s1.heap.objs.size + 3) s1.heap.objs.size (s1.heap.objs.size + 1) l1 l2:=by
  exact zipApart_new ar au
 refine BN (xs:=ao.toArray) (ys:=ag.toArray) (lo:=s1.heap.objs.size) (s:={s1 with heap:=h'}) hc R (by simp only [List.size_toArray];omega) ⟨Nat.le_add_right _ _,fun z=>absurd (Nat.add_left_cancel z) (by decide)⟩ aC aD ⟨_,_,aE⟩ h1 h2 (by obtain⟨o,e,r⟩:=pl.isList;exact⟨o,hk _ _ e,r⟩) (by obtain⟨o,e,r⟩:=ah.isList;exact⟨o,hk _ _ e,r⟩) ⟨by show _<=h'.objs.size;rw [ae];exact Nat.le_add_right _ _,fun q hq=>?_⟩ fun af tk acc c kk hl av aF=>?_
 ·show q < h'.objs.size
  rw [ae]
  simp only [List.mem_cons,List.not_mem_nil,or_false] at hq
  have a1:(l1:Nat) < s1.heap.objs.size:=ar
  have a2:(l2:Nat) < s1.heap.objs.size:=au
  rcases hq with r | r | r | r | r | r | r<;>subst r<;>first | exact Nat.add_lt_add_left (by decide) _ | exact Nat.lt_add_of_pos_right (by decide) | exact Nat.lt_of_lt_of_le a1 (Nat.le_add_right _ _) | exact Nat.lt_of_lt_of_le a2 (Nat.le_add_right _ _)
 ·obtain⟨ts,rfl,nd,hm,hf⟩:=aF
  have kp:∀ b o,s1.heap.get? b=some o->af.get? b=some o:=fun b o e=>kk b o (fun z=>by
   have:=Heap.lt_size e
   simp only [List.mem_cons,List.not_mem_nil,or_false] at z
   have aK:h'.objs.size=s1.heap.objs.size + 5:=ae
   have b0:(b:Nat) < s1.heap.objs.size:=this
   rcases z with r | r | r | r | r<;>rw [r] at b0<;>first | (have b1:(h'.objs.size:Nat) < s1.heap.objs.size:=b0;omega) | exact absurd b0 (Nat.not_lt.mpr (Nat.le_add_right _ _)) | exact Nat.lt_irrefl _ b0) (hk b o e)
  have J:Inv X pins σ H1 {s1 with heap:=af,toks:=tk}:=I1.kept kp
  have tl:ts.length=(xs.zip ys).length:=by
   rw [List.length_zip,il,aB]
   simpa using av
  have zg:∀(t:Nat) (v U:V),xs[t]? =some v->ys[t]? =some U->(xs.zip ys)[t]? =some (v,U):=fun t v U e1 e2=>by
   rw [List.getElem?_zip_eq_some];exact⟨e1,e2⟩
  have items:∀(t:Nat) (T:Addr),ts[t]? =some T->∃ v U u1 u2,(xs.zip ys)[t]? =some (v,U)/\RelV v u1/\RelV U u2/\af.IsTuple T #[u1,u2]:=fun t T ht=>by
   obtain⟨x,y,hT,hx,hy⟩:=hf t T ht
   have aG:ao[t]? =some x:=by simpa using hx
   have aH:ag[t]? =some y:=by simpa using hy
   obtain⟨v,hv,r1⟩:=yC rv aG
   obtain⟨U,hw,r2⟩:=yC aq aH
   exact⟨v,U,x,y,zg t v U hv hw,r1,r2,hT⟩
  have ln:ts.length=((xs.zip ys).map fun q=>[q.1,q.2]).length:=by rw [List.length_map];exact tl
  have fs:(ts.zip ((xs.zip ys).map fun q=>[q.1,q.2])).map (·.1)=ts:=by rw [List.map_fst_zip (Nat.le_of_eq ln)]
  have mem:∀ p∈ts.zip ((xs.zip ys).map fun q=>[q.1,q.2]),∃(t:Nat) (v U:V),ts[t]? =some p.1/\(xs.zip ys)[t]? =some (v,U)/\p.2=[v,U]:=fun p hp=>by
   obtain⟨t,ht⟩:=List.getElem?_of_mem hp
   rw [List.getElem?_zip_eq_some] at ht
   obtain⟨a1,a2⟩:=ht
   rw [List.getElem?_map] at a2
   obtain⟨⟨v,U⟩,b1,b2⟩:=Option.map_eq_some_iff.mp a2
   exact⟨t,v,U,a1,b1,b2.symm⟩
  obtain⟨H',J',sm,aw,ak⟩:=xp I1 J (ts.zip ((xs.zip ys).map fun q=>[q.1,q.2])) (fun p hp=>by
    obtain⟨t,v,U,e1,_⟩:=mem p hp
    exact(hm p.1 (List.mem_of_getElem? e1)).2) (by rw [fs];exact nd) (fun p hp=>by
    obtain⟨t,v,U,e1,e2,e3⟩:=mem p hp
    obtain⟨v1,w1,u1,u2,e4,r1,r2,hT⟩:=items t p.1 e1
    rw [e2] at e4
    cases e4
    rw [e3]
    exact⟨by rw [sizeLine_eq];show 2<=_;decide,[u1,u2],.cons r1 (.cons r2 .nil),hT⟩)
  rw [fs] at ak
  have aI:h'.objs.size=s1.heap.objs.size + 5:=ae
  have aa:s1.heap.objs.size<=h'.objs.size:=by rw [aI];exact Nat.le_add_right _ _
  have ax:h'.objs.size∉ts:=fun z=>(hm _ z).1 List.mem_cons_self
  have nS:H' h'.objs.size=none:=by rw [ak _ ax];exact I1.hok.fresh aa
  have F:Paired (fun p (q:V×V)=>H' p=some (.tup [q.1,q.2])) ts (xs.zip ys):=se tl fun t T q e1 e2=>by
   refine aw (T,[q.1,q.2]) (List.mem_of_getElem? (i:=t) ?_)
   rw [List.getElem?_zip_eq_some,List.getElem?_map,e2]
   exact⟨e1,rfl⟩
  have J2:Inv X pins σ (upd H' h'.objs.size (.lst (ts.map V.ref))) {s1 with heap:=af,toks:=tk}:=by
   refine J'.track (.inl (Heap.get?_none_of_le (Nat.le_trans I1.sz aa))) nS (Nat.ne_of_gt (Nat.lt_of_lt_of_le I1.lt aa)) (fun y c' q z=>?_) (fun p hp z=>?_) ?_
   ·obtain⟨v,q'⟩:=I1.cell y c' q
    exact absurd (Nat.lt_of_lt_of_le q'.lt (by rw [z];exact aa)) (Nat.lt_irrefl _)
   ·exact absurd (Nat.lt_of_lt_of_le (Heap.lt_size (I1.pin p hp).1) (by rw [z];exact aa)) (Nat.lt_irrefl _)
   ·refine⟨?_,ts.map Value.ref,c,?_,hl⟩
    ·rw [List.length_map,tl,List.length_zip]
     exact Nat.le_of_lt (Nat.lt_of_le_of_lt (Nat.min_le_left _ _) hlen)
    ·clear F aw ak ax nS J' sm items mem fs ln tl hf hm nd av hl
     induction ts with
     | nil=>exact .nil
     | cons T ts ih=>exact .cons rfl ih
  refine⟨.ref h'.objs.size,_,J2,rfl,q h'.objs.size ts _ (gO.updN sm nS) (I1.hok.fresh aa) gY ?_⟩
  exact Gn.Paired.imp2 F fun p q e=>by rw [ig (fun z=>by rw [z,nS] at e;cases e)];exact e
end
end L2
namespace K24
open PySem L2 PyProof.Rows PySem.Spec Gn K01 SH
noncomputable def pf:List (Key×V):=[(.inr "\\[",.str "["),(.inr "\\]",.str "]"),(.inr "\\\\",.str "\\"),(.inr "\\n",.str "\n")]
theorem Du(q:List Nat):(kC pf (.inr ⟨q.toArray⟩)).getD (.str ⟨q.toArray⟩)= .str ⟨(kb q).toArray⟩:=by
 have ne:∀{c d:List Nat},c≠d->(Sum.inr (⟨c.toArray⟩:Str):Key)≠Sum.inr ⟨d.toArray⟩:=fun h z=>h (by injection z with z;injection z with z;simpa using z)
 have e1:(Str.ofString "\\[")=⟨[92,91].toArray⟩:=rfl
 have e2:(Str.ofString "\\]")=⟨[92,93].toArray⟩:=rfl
 have e3:(Str.ofString "\\\\")=⟨[92,92].toArray⟩:=rfl
 have e4:(Str.ofString "\\n")=⟨[92,110].toArray⟩:=rfl
 unfold kC pf kb
 rw [e1,e2,e3,e4]
 by_cases h1:q=[92,91]
 ·subst h1;rfl
 by_cases h2:q=[92,93]
 ·subst h2;rfl
 by_cases J:q=[92,92]
 ·subst J;rfl
 by_cases U:q=[92,110]
 ·subst U;rfl
 rw [if_neg h1,if_neg h2,if_neg J,if_neg U]
 simp only [List.find?_cons,List.find?_nil]
 rw [decide_eq_false (ne (Ne.symm h1)),decide_eq_false (ne (Ne.symm h2)),decide_eq_false (ne (Ne.symm J)),decide_eq_false (ne (Ne.symm U))]
 rfl
section
variable {P : Program} {w : World} {K : PySem.W.Frag} {mg : Str -> Option Value} {base : Heap} {CT CS CL dS dM : Addr}
noncomputable def Aa:Sp:=fun vs H Q _=>∃ L:List Nat,vs=[.str ⟨L.toArray⟩]/\L.length<=20000/\∀ S bs es,rd (iH L) [] 0 [] []=(S,bs,es)->∀ p m H',gO H H'->H p=none->H m=none->H' p=some (.tup [.str ⟨S.toArray⟩,.ref m])->jL H' m (bs.zip es)->Q (.ref p) H'
theorem pR:iU ["line","signs","begins","ends","part"] ["line"] (iu pS):=⟨rfl,rfl,rfl,dkq,rfl,dkq,dkq⟩
theorem uB:∀(n:Nat) (L:List Nat),L.length<=n->(iH L).length<=L.length
 | 0,L,h=>by
  have:L=[]:=List.eq_nil_of_length_eq_zero (by omega)
  subst this;exact Nat.le_refl _
 | n + 1,L,h=>by
  by_cases J:L=[]
  ·subst J;exact Nat.le_refl _
  ·have e:=zS J
   have s2:1<=step L:=by unfold step;split<;>decide
   have pos:1<=L.length:=by cases L with | nil=>exact absurd rfl J | cons _ _=>simp
   have U:=uB n (L.drop (step L)) (by rw [List.length_drop];omega)
   rw [List.length_drop] at U
   rw [e,List.length_cons]
   omega
theorem xV{H H':Hp}(s:gO H H'):∀{ps:List Addr} {ns:List (Nat×Nat)},Paired (fun p (q:V×V)=>H p=some (.tup [q.1,q.2])) ps (ns.map (Prod.map (fun n:Nat=>V.int n) fun n:Nat=>V.int n))->Paired (fun u (n:Nat×Nat)=>H' u=some (.tup [.int n.1,.int n.2])) ps ns
 | [],[],_=> .nil
 | _::_,_::_,.cons h r=> .cons (s _ _ h) (xV s r)
theorem FH{q:List Nat}(h:ki q):(kb q).length<=2:=by
 rcases h with ⟨c,rfl⟩ | ⟨d,rfl⟩<;>(unfold kb;repeat' split)<;>simp
seal iD PS PE PT PA PG PI iX iW in
theorem AQ{f fb:Addr}{fd fdb:FuncData}(D:Df K mg "read_marks" pS f fd)(DB:Df K mg "by_strokes" pH fb fdb)(GB:hZ P w K mg base iw 1 fb fdb ["line"] wL)(hM:mg "MEANT_SIGNS"=some (.ref dM))(KM:KD P w K dM pf)(T:Txt mg):hZ P w K mg base iw 2 f fd ["line"] Aa:=by
 have bB:=jM (p:="line") DB.F fun _ _ _ _ _ _ _=>rfl
 refine D.F.ok pR (fun vs H Q E h=>?_) (fun cdv A outer s H vs Q E hr h=>?_)
 ·obtain⟨L,rfl,_⟩:=h
  rfl
 ·obtain⟨L,rfl,hl,k⟩:=h
  have hz:(sizeLine:Nat)=16777216:=sizeLine_eq
  refine⟨_,gS (hU (i:=1) pR.nd rfl (Or.inl rfl) (iK gP)) (gS (hU (i:=2) pR.nd rfl (Or.inl rfl) (iK gP)) (gS (hU (i:=3) pR.nd rfl (Or.inl rfl) (iK gP))
   (gS (kR PassesOwn.never rfl (kJ (iE GB hr rfl DB.m DB.F.kp bB .nil iM (gN (pv 0) gP))) (iS (i:=4) pR.nd rfl (Or.inl rfl))
    (g0 (iN (iq jD (pv 4) gZ (iy _))
     (g0 (ke (jr F.plainAttrs_list F.slot_list_append F.type_list_append kj (pv 2) (gN (ir jN rfl T.len i0 (gN (pv 1) gP)) gP))))
     (g0 (iN (iq jD (pv 4) gZ (iy _))
      (g0 (ke (jr F.plainAttrs_list F.slot_list_append F.type_list_append kj (pv 3) (gN (ir jN rfl T.len i0 (gN (pv 1) gP)) gP))))
      (g0 (ke (jr F.plainAttrs_list F.slot_list_append F.type_list_append kj (pv 1) (gN (Ae rfl hM KM (pv 4) (pv 4) ⟨rfl,rfl,rfl,rfl⟩) gP)))))))))
   (g0 (iC (ja (gN (jr F.plainAttrs_str F.slot_str_join F.type_str_join uT gZ (gN (pv 1) gP)) (gN (Br hr.hd rfl T.list rfl T.zip (gN (pv 2) (gN (pv 3) gP))) gP)))))))),?_⟩
  refine⟨Nat.zero_le _,fun a ha=>⟨Nat.zero_le _,fun b hb=>⟨Nat.zero_le _,fun c hc=>?_⟩⟩⟩
  have ae:a≠b:=fun z=>by rw [z,gY] at hb;cases hb
  have af:a≠c:=fun z=>by rw [<-z,ig ae,gY] at hc;cases hc
  have ag:b≠c:=fun z=>by rw [<-z,gY] at hc;cases hc
  have ar:H b=none:=by rw [ig (Ne.symm ae)] at hb;exact hb
  have au:H c=none:=by rw [ig (Ne.symm ag),ig (Ne.symm af)] at hc;exact hc
  have ak:gO H (upd (upd (upd H a (.lst [])) b (.lst [])) c (.lst [])):=gO.upf (gO.upf (hJ ha) hb) hc
  have ea:upd (upd (upd H a (.lst [])) b (.lst [])) c (.lst []) a=some (.lst []):=by rw [ig af,ig ae,gY]
  have eb:upd (upd (upd H a (.lst [])) b (.lst [])) c (.lst []) b=some (.lst []):=by rw [ig ag,gY]
  have ec:upd (upd (upd H a (.lst [])) b (.lst [])) c (.lst []) c=some (.lst []):=gY
  generalize upd (upd (upd H a (.lst [])) b (.lst [])) c (.lst [])=H0 at ak ea eb ec
  refine⟨_,rfl,L,rfl,hl,fun pl H1 s1 aa ah=>⟨pl,rfl,⟨_,gR.of ah⟩,?_⟩⟩
  have av:pl≠a:=fun z=>by rw [z,ea] at aa;cases aa
  have aw:pl≠b:=fun z=>by rw [z,eb] at aa;cases aa
  have ax:pl≠c:=fun z=>by rw [z,ec] at aa;cases aa
  have ay:=ak.trans s1
  have sl:=uB L.length L (Nat.le_refl _)
  have ao:=nP L
  generalize hP:iH L=Ps at ah sl ao k
  refine qe (xs:=Ps.map fun q=>V.str ⟨q.toArray⟩) (fun i σ H'=>∃(ms:List (List Nat)) (bs es:List Nat) (o4:Option V),σ=[some (.str ⟨L.toArray⟩),some (.ref a),some (.ref b),some (.ref c),o4]/\gO H H'/\H' pl=some (.lst (Ps.map fun q=>V.str ⟨q.toArray⟩))/\
    H' a=some (.lst (ms.map fun q=>V.str ⟨q.toArray⟩))/\H' b=some (.lst (bs.map fun n:Nat=>V.int n))/\H' c=some (.lst (es.map fun n:Nat=>V.int n))/\ms.length<=i/\ms.flatten.length<=2 * i/\bs.length<=i/\es.length<=i/\rd Ps [] 0 [] []=rd (Ps.drop i) ms.flatten ms.length bs es) ?_ ?_ ?_ ?_
  ·exact⟨[],[],[],none,rfl,ay,ah,s1 _ _ ea,s1 _ _ eb,s1 _ _ ec,Nat.le_refl _,Nat.le_refl _,Nat.le_refl _,Nat.le_refl _,rfl⟩
  ·rintro i σ H' _ ⟨_,_,_,_,_,_,q,_⟩
   exact gR.of q
  ·rintro i v σ H' hv ⟨ms,bs,es,o4,rfl,sm,U,hA,hB,hC,l1,l2,l3,l4,he⟩
   obtain⟨q,hq,rfl⟩:∃ q,Ps[i]? =some q/\v=V.str ⟨q.toArray⟩:=by
    rw [List.getElem?_map] at hv
    obtain⟨q,e1,e2⟩:=Option.map_eq_some_iff.mp hv
    exact⟨q,e1,e2.symm⟩
   have aD:i < Ps.length:=(List.getElem?_eq_some_iff.mp hq).1
   have aA:=ao q (List.mem_of_getElem? hq)
   rw [ui hq] at he
   have J:rd Ps [] 0 [] []=if q=[91] then rd (Ps.drop (i + 1)) ms.flatten ms.length (bs++[ms.length]) es else if q=[93] then rd (Ps.drop (i + 1)) ms.flatten ms.length bs (es++[ms.length]) else rd (Ps.drop (i + 1)) (ms.flatten++kb q) (ms.length + 1) bs es:=he
   refine⟨_,rfl,rfl,_,rfl,?_⟩
   rw [show decide (V.str ⟨q.toArray⟩=V.str (Str.ofString "["))=decide (q=[91]) from mK q [91]]
   by_cases h1:q=[91]
   ·rw [decide_eq_true h1]
    rw [if_pos h1] at J
    refine gU ⟨_,rfl,.inl ⟨rfl,_,gR.of hB⟩,_,rfl,a,_,rfl,.inl (gR.of hA),?_⟩
    refine⟨b,_,_,rfl,rfl,hB,by rw [List.length_map];omega,?_⟩
    refine⟨ms,bs++[ms.length],es,_,rfl,kA sm ar,by rw [ig aw];exact U,by rw [ig ae];exact hA,by rw [gY,List.map_append,List.length_map];rfl,by rw [ig (Ne.symm ag)];exact hC,by omega,by omega,by rw [List.length_append];simp;omega,by omega,J⟩
   ·rw [decide_eq_false h1]
    rw [if_neg h1] at J
    refine g8 ⟨_,rfl,rfl,_,rfl,?_⟩
    rw [show decide (V.str ⟨q.toArray⟩=V.str (Str.ofString "]"))=decide (q=[93]) from mK q [93]]
    by_cases h2:q=[93]
    ·rw [decide_eq_true h2]
     rw [if_pos h2] at J
     refine gU ⟨_,rfl,.inl ⟨rfl,_,gR.of hC⟩,_,rfl,a,_,rfl,.inl (gR.of hA),?_⟩
     refine⟨c,_,_,rfl,rfl,hC,by rw [List.length_map];omega,?_⟩
     refine⟨ms,bs,es++[ms.length],_,rfl,kA sm au,by rw [ig ax];exact U,by rw [ig af];exact hA,by rw [ig ag];exact hB,by rw [gY,List.map_append,List.length_map];rfl,by omega,by omega,by omega,by rw [List.length_append];simp;omega,J⟩
    ·rw [decide_eq_false h2]
     rw [if_neg h2] at J
     refine g8 ⟨_,rfl,.inl ⟨rfl,_,gR.of hA⟩,_,rfl,_,rfl,.inr ⟨q.toArray⟩,rfl,?_⟩
     rw [Du]
     have ml:=FH aA
     refine⟨a,_,_,rfl,rfl,hA,by rw [List.length_map];omega,?_⟩
     refine⟨ms++[kb q],bs,es,_,rfl,kA sm ha,by rw [ig av];exact U,by rw [gY,List.map_append];rfl,by rw [ig (Ne.symm ae)];exact hB,by rw [ig (Ne.symm af)];exact hC,by rw [List.length_append];simp;omega,by rw [List.flatten_append,List.length_append,show [kb q].flatten=kb q from by simp];omega,by omega,by omega,?_⟩
     rw [J,List.flatten_append,List.length_append]
     simp
  ·rintro σ H' ⟨ms,bs,es,o4,rfl,sm,U,hA,hB,hC,l1,l2,l3,l4,he⟩
   rw [List.length_map] at l1 l2 l3 l4 he
   rw [List.drop_of_length_le (Nat.le_refl _)] at he
   have aB:rd Ps [] 0 [] []=(ms.flatten,bs,es):=he
   refine⟨rfl,_,rfl,_,a,ms.map fun l=>(⟨l.toArray⟩:Str),rfl,rfl,gR.of (by rw [hA,List.map_map];rfl),?_,?_⟩
   ·rw [yA]
    show ms.flatten.length + _ * 0<=_
    omega
   ·rw [zb]
    refine⟨_,rfl,_,rfl,b,c,_,_,rfl,hB,hC,by rw [List.length_map];omega,fun z ps H2 s2 aC ez aq=>⟨lQ,fun p hp=>?_⟩⟩
    have s3:gO H2 (upd H2 p (.tup [.str ⟨ms.flatten.toArray⟩,.ref z])):=hJ hp
    refine k _ _ _ aB p z _ ((sm.trans s2).trans s3) ((sm.trans s2).free hp) (sm.free aC) gY ⟨ps,s3 _ _ ez,?_⟩
    rw [List.zip_map] at aq
    exact xV s3 aq
end
theorem rZ{ws:List Wd}{b e:Nat}{ns:List (Nat×Nat)}(h:k4 ws (jR b e ns)=none):iQ ws b e (ns.map zP)=false:=by
 rw [<-rq,w6] at h
 cases q:iQ ws b e (ns.map zP) with
 | false=>rfl
 | true=>
  rw [q,if_pos rfl] at h
  unfold iQ at q
  rw [h] at q
  cases q
theorem jY(l:List Nat):codes ⟨l.toArray⟩=l:=by unfold codes;simp
section
variable {P : Program} {w : World} {K : PySem.W.Frag} {mg : Str -> Option Value} {base : Heap} {CT CS CL dS dM : Addr}
noncomputable def vR(K:W.Frag)(CT CS:Addr):Sp:=fun vs H Q E=>∃(a b:Bool) (S:List Nat) (m:Addr) (ns:List (Nat×Nat)),vs=[.bl a,.str ⟨S.toArray⟩,.ref m,.bl b]/\S.length<=4900/\jL H m ns/\ns.length<=50000/\
 (kl (.str ⟨(pre a++S++jt b).toArray⟩)=false->∀ H',gO H H'->E (.ref CT) none H')/\
 (Drawn ⟨(pre a++S++jt b).toArray⟩->iQ (words (pre a++S++jt b)) ((pre a).length:Nat) (((pre a).length + S.length:Nat):Int) ((ns.map (jC (pre a).length)).map zP)=false->∀ H',gO H H'->E (.ref CS) none H')/\
 (Drawn ⟨(pre a++S++jt b).toArray⟩->iQ (words (pre a++S++jt b)) ((pre a).length:Nat) (((pre a).length + S.length:Nat):Int) ((ns.map (jC (pre a).length)).map zP)=true->∀ H',gO H H'->
  Q (.str ⟨(iV (pre a++S++jt b) (pre a).length ((pre a).length + S.length) (ns.map (jC (pre a).length))).toArray⟩) H')
noncomputable def Ef:TE:=fun σ H Q=>∃ a:Bool,σ[0]? =some (some (.bl a))/\Q (.int (((pre a).length:Nat):Int)) H
noncomputable def Ej:TE:=fun σ H Q=>∃ a:Bool,σ[0]? =some (some (.bl a))/\Q (.str ⟨(pre a).toArray⟩) H
noncomputable def AI:TE:=fun σ H Q=>∃ a:Bool,σ[3]? =some (some (.bl a))/\Q (.str ⟨(jt a).toArray⟩) H
theorem qS:iU ["ahead","signs","marks","behind","begin","text","moved"] ["ahead","signs","marks","behind"] (iu oj):=⟨rfl,rfl,rfl,dkq,rfl,dkq,dkq⟩
theorem xQ:(["first","last","begin"]:List Str).Nodup:=dkq
seal iD PS PE PT PA PG PI iX iW in
theorem Dm{f fl:Addr}{fd fdl:FuncData}(D:Df K mg "shown_again" oj f fd)(DL:Df K mg "shown_line" ou fl fdl)(GL:hZ P w K mg base (jy P w) 5 fl fdl ["text","piece"] (sf K CT CS))(T:Txt mg):hZ P w K mg base (jy P w) 6 f fd ["ahead","signs","marks","behind"] (vR K CT CS):=by
 obtain⟨ta,ca⟩:=T.cLA
 obtain⟨tb,cb⟩:=T.cLB
 have bL:=DL.F.binds (ps:=["text","piece"]) fun _ _ _ _ _ _ us hl=>match us,hl with | [_,_],_=>rfl
 refine D.F.ok2 qS (fun vs H Q E h=>?_) (fun cdv A outer s H vs Q E hr h=>?_)
 ·obtain⟨a,b,S,m,ns,rfl,_⟩:=h
  rfl
 ·obtain⟨a,b,S,m,ns,rfl,hS,hm,ag,k1,k2,k3⟩:=h
  have hz:(sizeLine:Nat)=16777216:=sizeLine_eq
  refine⟨_,gS (hU (i:=4) qS.nd rfl (Or.inr rfl) (PE.imp (t':=Ef) (my (jm (pv 0)) (ir kg rfl T.len i0 (gN (jA (v:= .str "a ") rfl ca ⟨_,rfl⟩) gP)) gQ) ?mA))
   (gS (hU (i:=5) qS.nd rfl (Or.inl rfl) (gX jF (gX jF (PE.imp (t':=Ej) (my (jm (pv 0)) (jA (v:= .str "a ") rfl ca ⟨_,rfl⟩) gZ) ?mB) (pv 1)) (PE.imp (t':=AI) (my (jm (pv 3)) (jA (v:= .str " a") rfl cb ⟨_,rfl⟩) gZ) ?mC)))
   (gS (mE (i:=6) qS.nd rfl (Or.inl rfl) (own:=2) (caps:=[4]) (N:=["first","last","begin"]) (N0:=["ahead","signs","marks","behind","begin","text","moved"]) (sc0:=iu oj) rfl (kJ (pv 2))
    (fun _ _ _=>kS (n:=2) rfl (jx (iS (i:=0) xQ rfl (Or.inl rfl)) (jx (iS (i:=1) xQ rfl (Or.inl rfl)) k7))) (fun _ _ _=>k8)
    (fun _ _ _=>ja (gN (gX jb (pv 2) (pv 0)) (gN (gX jb (pv 2) (pv 1)) gP))) (nc (ky (jK (by decide)) (ky (jK (by decide)) mY))) rfl rfl
    dkq rfl dkq dkq rfl dkq (fun _ _ _ h=>h))
   (g0 (iC (iE GL hr rfl DL.m DL.F.kp bL .nil (nv (E':=E) (fun _ _ _ h=>h)) (gN (pv 5) (gN (ja (gN (pv 4) (gN (gX jb (pv 4) (ir kg rfl T.len i0 (gN (pv 1) gP))) (gN (pv 6) gP)))) gP))))))),?_⟩
  rotate_left
  case mA=>
   rintro σ H Q ⟨a,e0,q⟩
   refine⟨_,e0,_,rfl,?_⟩
   cases a with
   | true=>exact gU ⟨_,rfl,by rw [sizeLine_eq];decide,q⟩
   | false=>exact g8 q
  case mB=>
   rintro σ H Q ⟨a,e0,q⟩
   refine⟨_,e0,_,rfl,?_⟩
   cases a with
   | true=>exact gU q
   | false=>exact g8 q
  case mC=>
   rintro σ H Q ⟨a,e0,q⟩
   refine⟨_,e0,_,rfl,?_⟩
   cases a with
   | true=>exact gU q
   | false=>exact g8 q
  refine⟨a,rfl,a,rfl,_,rfl,?_⟩
  have pl:(pre a).length<=2:=by cases a<;>decide
  have ul:(jt b).length<=2:=by cases b<;>decide
  refine⟨_,_,rfl,rfl,kI (by omega),?_⟩
  rw [jw]
  refine⟨b,rfl,_,_,rfl,rfl,kI (by rw [List.length_append];omega),?_⟩
  rw [jw]
  obtain⟨ps,eM,hP⟩:=hm
  have hlen:(ps.map V.ref).length=ns.length:=by rw [List.length_map];exact Gn.Paired.len hP
  refine⟨_,rfl,m,rfl,⟨_,gR.of eM⟩,mT (xs:=ps.map V.ref) (fun i ys H'=>gO H H'/\∃ us:List Addr,ys=us.map V.ref/\Paired (fun u (n:Nat×Nat)=>H' u=some (.tup [.int n.1,.int n.2])) us ((ns.take i).map (jC (pre a).length))) (by rw [hlen];omega) (fun i ys H' q=>gR.of (q.1 _ _ eM)) ⟨gO.refl H,[],rfl,.nil⟩ ?_ ?_⟩
  ·rintro i v ys H' N hv ⟨sm,us,rfl,hu⟩ hN
   obtain⟨p,n,rfl,hn,hp⟩:=mH (H:=H) hP hv
   refine⟨p,_,rfl,ia.of (sm _ _ hp),rfl,_,_,rfl,_,_,rfl,rfl,?_⟩
   refine⟨_,rfl,_,rfl,_,_,rfl,rfl,_,rfl,_,rfl,_,_,rfl,rfl,lQ,fun q hq=>?_⟩
   have s2:gO H' (upd H' q (.tup [.int (((pre a).length:Nat) + (n.1:Int)),.int (((pre a).length:Nat) + (n.2:Int))])):=hJ hq
   refine hN _ _ ⟨sm.trans s2,us++[q],by rw [List.map_append];rfl,?_⟩
   rw [List.take_add_one,hn,List.map_append]
   exact Gn.Paired.app (Gn.Paired.imp2 hu fun _ _ e=>s2 _ _ e) gY
  ·rintro ys H' ⟨sm,us,rfl,hu⟩ _ l hl
   rw [hlen,List.take_length] at hu
   have s2:gO H' (upd H' l (.lst (us.map V.ref))):=hJ hl
   have eL:upd H' l (.lst (us.map V.ref)) l=some (.lst (us.map V.ref)):=gY
   generalize upd H' l (.lst (us.map V.ref))=H2 at s2 eL ⊢
   have af:jL H2 l (ns.map (jC (pre a).length)):=⟨us,eL,Gn.Paired.imp2 hu fun _ _ e=>s2 _ _ e⟩
   refine⟨_,rfl,_,rfl,_,rfl,_,rfl,_,rfl,by rw [iB,sizeLine_eq];omega,_,_,rfl,rfl,_,rfl,?_⟩
   have ee:(((pre a).length:Nat):Int) + ((⟨S.toArray⟩:Str).length:Int)=(((pre a).length + S.length:Nat):Int):=by rw [iB];omega
   refine⟨by rw [sizeLine_eq];show 3<=_;decide,fun p hp=>?_⟩
   show sf K CT CS [V.str ⟨(pre a++S++jt b).toArray⟩,V.ref p] (upd H2 p (HO.tup [V.int (((pre a).length:Nat):Int),V.int ((((pre a).length:Nat):Int) + ((⟨S.toArray⟩:Str).length:Int)),V.ref l])) _ _
   rw [ee]
   have s3:gO H2 (upd H2 p (.tup [.int (((pre a).length:Nat):Int),.int (((pre a).length + S.length:Nat):Int),.ref l])):=hJ hp
   have U:=(sm.trans s2).trans s3
   refine⟨_,_,jR (pre a).length ((pre a).length + S.length) (ns.map (jC (pre a).length)),rfl,⟨_,.str _⟩,fun z ez=>?_,.tup gY (.cons (.int _) (.cons (.int _) (.cons (af.same s3).pd .nil))),fun ht H3 s4=>k1 ht _ (U.trans s4),fun z ez hd hn H3 s4=>?_,fun z b' e' aa ez hd J ae H3 s4=>?_⟩
   ·cases ez
    rw [iB]
    simp only [List.length_append]
    omega
   ·cases ez
    rw [jY] at hn
    exact k2 hd (rZ hn) _ (U.trans s4)
   ·cases ez
    rw [jY] at ae ⊢
    have i1:((pre a).length:Nat)=b'/\(pre a).length + S.length=e'/\(ns.map (jC (pre a).length)).map ju=aa.map ju:=by
     unfold jR at J
     injection J with J
     injection J with q1 q2
     injection q2 with q2 q3
     injection q3 with q3
     injection q1 with q1
     injection q2 with q2
     injection q3 with q3
     exact⟨Int.ofNat.inj q1,Int.ofNat.inj q2,q3⟩
    obtain⟨rfl,rfl,i3⟩:=i1
    have i4:ns.map (jC (pre a).length)=aa:=List.map_inj_right (f:=ju) (fun x y q=>by
     unfold ju at q
     injection q with q
     injection q with q1 q2
     injection q2 with q2
     injection q1 with q1
     injection q2 with q2
     exact Prod.ext (Int.ofNat.inj q1) (Int.ofNat.inj q2)) |>.mp i3
    subst i4
    exact k3 hd ae _ (U.trans s4)
end
theorem subAt_eq(l y:List Nat)(i:Nat):Builtin.Str.subAt ⟨l.toArray⟩ ⟨y.toArray⟩ i=decide ((l.drop i).take y.length=y):=by
 show(l.toArray.extract i (i + (⟨y.toArray⟩:Str).length) == y.toArray)=_
 rw [iB,Bool.eq_iff_iff,beq_iff_eq,decide_eq_true_eq,<-Array.toList_inj,Array.toList_extract]
 simp [List.extract_eq_take_drop]
theorem CI(L:List Nat):Txt.startswith ⟨L.toArray⟩ (Str.ofString "... ")=sA L:=by
 show(decide (0 + 4<=(⟨L.toArray⟩:Str).length) && Builtin.Str.subAt ⟨L.toArray⟩ ⟨dA.toArray⟩ 0)=decide (L.take 4=dA)
 rw [subAt_eq,iB]
 show(decide (0 + 4<=L.length) && decide (L.take 4=dA))=decide (L.take 4=dA)
 by_cases h:L.take 4=dA
 ·have:(L.take 4).length=4:=by rw [h];rfl
  rw [List.length_take] at this
  rw [decide_eq_true h,decide_eq_true (show 0 + 4<=L.length by omega)];rfl
 ·rw [decide_eq_false h,Bool.and_false]
theorem HQ(L:List Nat):Txt.endswith ⟨L.toArray⟩ (Str.ofString " ...")=eB L:=by
 show(decide (0 + 4<=(⟨L.toArray⟩:Str).length) && Builtin.Str.subAt ⟨L.toArray⟩ ⟨dB.toArray⟩ ((⟨L.toArray⟩:Str).length - 4))=decide (L.drop (L.length - 4)=dB)
 rw [subAt_eq,iB]
 show(decide (0 + 4<=L.length) && decide ((L.drop (L.length - 4)).take 4=dB))=decide (L.drop (L.length - 4)=dB)
 rw [List.take_of_length_le (by rw [List.length_drop];omega)]
 by_cases h:L.drop (L.length - 4)=dB
 ·have:(L.drop (L.length - 4)).length=4:=by rw [h];rfl
  rw [List.length_drop] at this
  rw [decide_eq_true h,decide_eq_true (show 0 + 4<=L.length by omega)];rfl
 ·rw [decide_eq_false h,Bool.and_false]
theorem C3(l:List Nat){a b:Nat}(h:b < a):Txt.slice ⟨l.toArray⟩ (some (a:Int)) (some (b:Int))=⟨([]:List Nat).toArray⟩:=by
 have e:Builtin.Str.strSliceIndices (some (a:Int)) (some (b:Int)) 1 (⟨l.toArray⟩:Str).length=[]:=by
  unfold Builtin.Str.strSliceIndices sliceRange
  have p:(1:Int) > 0:=by decide
  have J:¬ (a:Int) < 0:=by omega
  have U:¬ (b:Int) < 0:=by omega
  simp only [if_pos p,if_neg J,if_neg U]
  rw [if_neg (by omega)]
  rfl
 unfold Txt.slice
 rw [e]
 by_cases q:l=[]
 ·subst q;rfl
 ·have:(⟨l.toArray⟩:Str).length≠0:=by rw [iB];exact fun z=>q (List.eq_nil_of_length_eq_zero z)
  rw [if_neg (by simp;exact fun z=>this z.symm)]
  rfl
theorem qW(L:List Nat)(a b:Nat)(ha:a<=L.length):Txt.slice ⟨L.toArray⟩ (some (a:Int)) (some (b:Int))=⟨(sl L a b).toArray⟩:=by
 by_cases h:a<=b
 ·exact uz L h ha
 ·rw [C3 L (by omega)]
  unfold sl
  rw [show b - a=0 by omega]
  rfl
theorem xA{L:List Nat}(h:sA L=true):4<=L.length:=by
 have h':=of_decide_eq_true h
 have:(L.take 4).length=4:=by rw [h'];rfl
 rw [List.length_take] at this
 omega
theorem vX{L:List Nat}(h:eB L=true):4<=L.length:=by
 have h':=of_decide_eq_true h
 have:(L.drop (L.length - 4)).length=4:=by rw [h'];rfl
 rw [List.length_drop] at this
 omega
theorem Ib{q:List Nat}(h:ki q):(kb q).length<=q.length:=by
 rcases h with ⟨c,rfl⟩ | ⟨d,rfl⟩<;>(unfold kb;repeat' split)<;>simp
theorem rm:∀(ps:List (List Nat)) (s:List Nat) (n:Nat) (bs es:List Nat),(∀ q∈ps,ki q)->(rd ps s n bs es).1.length<=s.length + ps.flatten.length/\(rd ps s n bs es).2.1.length<=bs.length + ps.length
 | [],s,n,bs,es,_=>⟨Nat.le_add_right _ _,Nat.le_add_right _ _⟩
 | q::r,s,n,bs,es,U=>by
  have J:∀ q∈r,ki q:=fun q h=>U q (List.mem_cons_of_mem _ h)
  have ml:=Ib (U q List.mem_cons_self)
  have fl:(q::r).flatten.length=q.length + r.flatten.length:=by rw [List.flatten_cons,List.length_append]
  rw [fl]
  unfold rd
  split
  ·obtain⟨h1,h2⟩:=rm r s n (bs++[n]) es J
   rw [List.length_append,List.length_singleton] at h2
   rw [List.length_cons]
   exact⟨by omega,by omega⟩
  ·split
   ·obtain⟨h1,h2⟩:=rm r s n bs (es++[n]) J
    rw [List.length_cons]
    exact⟨by omega,by omega⟩
   ·obtain⟨h1,h2⟩:=rm r (s++kb q) (n + 1) bs es J
    rw [List.length_append] at h1
    rw [List.length_cons]
    exact⟨by omega,by omega⟩
section
variable {P : Program} {w : World} {K : PySem.W.Frag} {mg : Str -> Option Value} {base : Heap} {CT CS CL dS dM : Addr}
noncomputable def Ad(K:W.Frag)(CL:Addr):Sp:=fun vs H Q E=>∃ x:V,vs=[x]/\Known K H x/\(mR x=false->∀ H',gO H H'->E (.ref CL) none H')/\
 (∀ L:List Nat,x= .str ⟨L.toArray⟩->L.length<=4800/\37∉L/\(jS L=none->∀ H',gO H H'->E (.ref CL) none H')/\
  ∀ a S M b,jS L=some (a,S,M,b)->∀ p m H',gO H H'->H p=none->H' p=some (.tup [.bl a,.str ⟨S.toArray⟩,.ref m,.bl b])->H m=none->jL H' m M->Q (.ref p) H')
theorem nj:iU ["line","ahead","behind","begin","end","read","again"] ["line"] (iu qF):=⟨rfl,rfl,rfl,dkq,rfl,dkq,dkq⟩
noncomputable def E7(L:List Nat):TE:=fun σ H Q=>∃ a:Bool,σ[1]? =some (some (.bl a))/\Q (.int ((q4 a 4:Nat):Int)) H
noncomputable def Gs(L:List Nat):TE:=fun σ H Q=>∃ a:Bool,σ[2]? =some (some (.bl a))/\σ[0]? =some (some (.str ⟨L.toArray⟩))/\(a=true->4<=L.length)/\Q (.int ((L.length - q4 a 4:Nat):Int)) H
seal iD PS PE PT PA PG PI iX iW in
theorem AN{f fm fa:Addr}{fd fdm fda:FuncData}(D:Df K mg "read_shown" qF f fd)(DM:Df K mg "read_marks" pS fm fdm)(DA:Df K mg "shown_again" oj fa fda)(GM:hZ P w K mg base iw 2 fm fdm ["line"] Aa)(GA:hZ P w K mg base (jy P w) 6 fa fda ["ahead","signs","marks","behind"] (vR K CT CS))
  (XL:Ex K mg "NoLine" CL)(XT:Ex K mg "BadText" CT)(XS:Ex K mg "BadSpan" CS)(exT:W.exmAny K (.ref CT) [.ref CT,.ref CS]=some true)(exS:W.exmAny K (.ref CS) [.ref CT,.ref CS]=some true)(T:Txt mg):hZ P w K mg base (iT P w) 7 f fd ["line"] (Ad K CL):=by
 obtain⟨ta,ca⟩:=T.cDA
 obtain⟨tb,cb⟩:=T.cDB
 have bM:=jM (p:="line") DM.F fun _ _ _ _ _ _ _=>rfl
 have bA:=DA.F.binds (ps:=["ahead","signs","marks","behind"]) fun _ _ _ _ _ _ us hl=>match us,hl with | [_,_,_,_],_=>rfl
 refine D.F.ok1 nj (fun vs H Q E h=>?_) (fun cdv A outer s H vs Q E hr h=>?_)
 ·obtain⟨x,rfl,_⟩:=h
  rfl
 ·obtain⟨x,rfl,⟨n,aa⟩,k1,k2⟩:=h
  have hz:(sizeLine:Nat)=16777216:=sizeLine_eq
  have one:1<=sizeLine:=by rw [hz];decide
  cases hx:mR x with
  | false=>
   refine⟨_,gS (iN (jG (jm (ir kB rfl T.isi je (gN (pv 0) (gN (jX (v:= .ty "str") rfl T.str rQ rfl) gP))))) (g0 (lP rfl XL.q F.excBase_ValueError dkq F.excBase_ValueError rfl XL.m (gN gZ gP) rD)) iL) Et,?_⟩
   refine⟨_,rfl,x,.ty "str",_,_,rfl,aa,.inl ⟨_,rfl,sq aa⟩,_,rfl,?_⟩
   rw [hx]
   exact gU ⟨one,k1 hx H (gO.refl H)⟩
  | true=>
   obtain⟨z,rfl⟩:=isStr hx
   obtain⟨hl,ag,kn,ks⟩:=k2 (codes z) (by rw [toStr])
   generalize hL:codes z=L at hl ag kn ks
   have ez:z=⟨L.toArray⟩:=by rw [<-hL,toStr]
   subst ez
   refine⟨_,gS (iN (jG (jm (ir kB rfl T.isi je (gN (pv 0) (gN (jX (v:= .ty "str") rfl T.str rQ rfl) gP))))) (g0 (lP rfl XL.q F.excBase_ValueError dkq F.excBase_ValueError rfl XL.m (gN gZ gP) rD)) iL)
    (gS (hU (i:=1) nj.nd rfl (Or.inl rfl) (jr F.plainAttrs_str F.slot_str_startswith F.type_str_startswith F4 (pv 0) (gN (jA (v:= .str "... ") rfl ca ⟨_,rfl⟩) gP)))
    (gS (hU (i:=2) nj.nd rfl (Or.inl rfl) (jr F.plainAttrs_str F.slot_str_endswith F.type_str_endswith Hv (pv 0) (gN (jA (v:= .str " ...") rfl cb ⟨_,rfl⟩) gP)))
    (gS (hU (i:=3) nj.nd rfl (Or.inl rfl) (PE.imp (t':=E7 L) (my (jm (pv 1)) (ir kg rfl T.len i0 (gN (jA (v:= .str "... ") rfl ca ⟨_,rfl⟩) gP)) gQ) ?mA))
    (gS (hU (i:=4) nj.nd rfl (Or.inl rfl) (PE.imp (t':=Gs L) (my (jm (pv 2)) (gX lR (ir kg rfl T.len i0 (gN (pv 0) gP)) (ir kg rfl T.len i0 (gN (jA (v:= .str " ...") rfl cb ⟨_,rfl⟩) gP))) (ir kg rfl T.len i0 (gN (pv 0) gP))) ?mB))
    (gS (hU (i:=5) nj.nd rfl (Or.inl rfl) (iE (GM.mono (by decide)) hr rfl DM.m DM.F.kp bM .nil iM (gN (js jU (pv 0) (i5 (pv 3)) (i5 (pv 4))) gP)))
    (gS (Fs (C1:=CT) (C2:=CS) (fun _ cls _ H'=>(cls= .ref CT\/cls= .ref CS)/\gO H H'/\jS L=none) rfl rfl rfl XT.m rfl XS.m (fun _=>PassesOwnAt.leaving)
     (fun p xe hp=>g0 (hU (i:=6) nj.nd rfl (Or.inl rfl) (um GA hr rfl DA.m DA.F.kp bA .nil hp (gN (pv 1) (gN (g9 (lO (K:=K) rfl) (pv 5) gQ (fun _ _=>rfl)) (gN (g9 (lO (K:=K) rfl) (pv 5) gQ (fun _ _=>rfl)) (gN (pv 2) gP)))))))
     (fun ea p=>g0 (GD (E:=E) XL.q F.excBase_ValueError dkq F.excBase_ValueError rfl XL.m (gN gZ gP) Fz)))
    (gS (iN (iq lh (pv 6) (pv 0) (iy _)) (g0 (lP rfl XL.q F.excBase_ValueError dkq F.excBase_ValueError rfl XL.m (gN gZ gP) rD)) iL)
    (g0 (iC (ja (gN (pv 1) (gN (g9 iO (pv 5) gQ (fun _ _=>rfl)) (gN (g9 iO (pv 5) gQ (fun _ _=>rfl)) (gN (pv 2) gP)))))))))))))),?_⟩
   rotate_left
   case mA=>
    rintro σ H Q ⟨a,e1,q⟩
    refine⟨_,e1,_,rfl,?_⟩
    cases a with
    | true=>exact gU ⟨_,rfl,by rw [sizeLine_eq];decide,q⟩
    | false=>exact g8 q
   case mB=>
    rintro σ H Q ⟨a,e2,e0,h4,q⟩
    refine⟨_,e2,_,rfl,?_⟩
    cases a with
    | true=>
     refine gU ⟨_,e0,_,rfl,by rw [iB];omega,_,rfl,by rw [sizeLine_eq];decide,_,_,rfl,rfl,?_⟩
     have h5:=h4 rfl
     have e:((⟨L.toArray⟩:Str).length:Int) - ((Str.ofString " ...").length:Int)=((L.length - q4 true 4:Nat):Int):=by
      rw [iB]
      show(L.length:Int) - 4=((L.length - 4:Nat):Int)
      omega
     show Q (V.int (((⟨L.toArray⟩:Str).length:Int) - ((Str.ofString " ...").length:Int))) H
     rw [e]
     exact q
    | false=>
     refine g8 ⟨_,e0,_,rfl,by rw [iB];omega,?_⟩
     rw [iB]
     exact q
   refine⟨_,rfl,.str ⟨L.toArray⟩,.ty "str",_,_,rfl,aa,.inl ⟨_,rfl,sq aa⟩,_,rfl,g8 ?_⟩
   refine⟨_,rfl,rfl,_,_,rfl,rfl,?_⟩
   rw [CI]
   refine⟨_,rfl,rfl,_,_,rfl,rfl,?_⟩
   rw [HQ]
   refine⟨sA L,rfl,eB L,rfl,rfl,vX,?_⟩
   have q1:q4 (sA L) 4<=L.length:=by
    cases h:sA L with
    | false=>exact Nat.zero_le _
    | true=>exact xA h
   refine⟨_,rfl,_,rfl,_,rfl,_,rfl,_,rfl,_,rfl,by rw [iB];omega,?_⟩
   rw [qW L _ _ q1]
   have ml:(sl L (q4 (sA L) 4) (L.length - q4 (eB L) 4)).length<=L.length:=Nat.le_trans (nQ _ _ _) (by omega)
   refine⟨_,rfl,by omega,fun S bs es ar p m H1 s1 hp au ep hM=>?_⟩
   have J:rd (iH (mid L)) [] 0 [] []=(S,bs,es):=ar
   have rl:=rm (iH (mid L)) [] 0 [] [] (nP _)
   rw [J,nY] at rl
   have av:=uB _ (mid L) (Nat.le_refl _)
   have aw:(mid L).length<=L.length:=ml
   have ax:S.length<=(mid L).length:=by simpa using rl.1
   have ay:bs.length<=(iH (mid L)).length:=by simpa using rl.2
   have lp:∀ a U M b,jS L=some (a,U,M,b)->a=sA L/\b=eB L/\U=S/\M=bs.zip es/\(pre (sA L)++S++jt (eB L)).all iG=true/\(pre (sA L)++S++jt (eB L)).length<=2000/\
     iQ (words (pre (sA L)++S++jt (eB L))) ((pre (sA L)).length:Nat) (((pre (sA L)).length + S.length:Nat):Int) (((bs.zip es).map (jC (pre (sA L)).length)).map zP)=true/\iV (pre (sA L)++S++jt (eB L)) (pre (sA L)).length ((pre (sA L)).length + S.length) ((bs.zip es).map (jC (pre (sA L)).length))=L:=fun a U M b h=>by
    obtain⟨rfl,rfl,⟨aA,aB,h1,h2⟩,h3,h4,h5,h6⟩:=Fb ag h
    rw [J] at h1
    cases h1
    subst h2
    exact⟨rfl,rfl,rfl,rfl,h3,h4,h5,h6⟩
   have no:(∀ a U M b,jS L=some (a,U,M,b)->False)->jS L=none:=fun h=>by
    cases q:jS L with
    | none=>rfl
    | some x=>exact(h x.1 x.2.1 x.2.2.1 x.2.2.2 q).elim
   refine⟨⟨_,rfl,_,rfl,p,_,_,_,rfl,rfl,ia.of ep,ik (j:=0) rfl,_,rfl,p,_,_,_,rfl,rfl,ia.of ep,ik (j:=1) rfl,_,rfl,?_⟩,?_⟩
   ·refine⟨sA L,eB L,S,m,bs.zip es,rfl,by omega,hM,by rw [List.length_zip];omega,fun ht H2 s2=>⟨.inl rfl,s1.trans s2,no fun a U M b z=>?_⟩,fun hd ae H2 s2=>⟨.inr rfl,s1.trans s2,no fun a U M b z=>?_⟩,fun hd ae H2 s2=>?_⟩
    ·obtain⟨_,_,_,_,h1,h2,_⟩:=lp a U M b z
     have:=sM (z:=⟨(pre (sA L)++S++jt (eB L)).toArray⟩) ⟨by rw [iB];exact h2,by rw [jY];exact h1⟩
     rw [this] at ht
     cases ht
    ·obtain⟨_,_,_,_,_,_,h3,_⟩:=lp a U M b z
     rw [h3] at ae
     cases ae
    ·have af:=s1.trans s2
     refine⟨_,rfl,_,rfl,rfl,_,rfl,?_⟩
     rw [mK]
     by_cases he:iV (pre (sA L)++S++jt (eB L)) (pre (sA L)).length ((pre (sA L)).length + S.length) ((bs.zip es).map (jC (pre (sA L)).length))=L
     ·rw [decide_eq_true he]
      have hT:=hd.2
      rw [jY] at hT
      have ah:=hd.1
      rw [iB] at ah
      have pm:=Bj J hT ah ae he
      refine g8 ⟨_,rfl,_,rfl,p,_,_,_,rfl,rfl,ia.of (s2 _ _ ep),ik (j:=0) rfl,_,rfl,p,_,_,_,rfl,rfl,ia.of (s2 _ _ ep),ik (j:=1) rfl,_,rfl,by rw [sizeLine_eq];show 4<=_;decide,fun r ak=>?_⟩
      have s3:gO H2 (upd H2 r (.tup [.bl (sA L),.str ⟨S.toArray⟩,.ref m,.bl (eB L)])):=hJ ak
      exact ks _ _ _ _ pm r m _ (af.trans s3) (af.free ak) gY au ((hM.same s2).same s3)
     ·rw [decide_eq_false he]
      refine gU ⟨one,kn (no fun a U M b z=>?_) _ af⟩
      exact he (lp a U M b z).2.2.2.2.2.2.2
   ·rintro aC cls H2 ea ⟨hc,sm,ao⟩ aq
    rcases hc with rfl | rfl
    ·exact⟨CT,rfl,exT,one,gY,kn ao _ (gO.upf sm aq)⟩
    ·exact⟨CS,rfl,exS,one,gY,kn ao _ (gO.upf sm aq)⟩
end
open PySem L2 PyProof.Rows PySem.Spec Gn K01
section
variable {P : Program} {w : World} {K : PySem.W.Frag} {mg : Str -> Option Value} {base : Heap} {CT CS CL : Addr}
theorem wM:∀ cs:List Nat,PySem.Str.join (Str.ofString "") (cs.map fun c=>(⟨#[c]⟩:Str))=⟨cs.toArray⟩
 | []=>rfl
 | [c]=>rfl
 | c::d::r=>by
  show(⟨[c].toArray⟩:Str)++Str.ofString ""++PySem.Str.join (Str.ofString "") ((d::r).map fun c=>(⟨#[c]⟩:Str))=_
  rw [wM (d::r),tL,jw,jw]
  rfl
theorem join_eq(cs:List Nat):Txt.join (Str.ofString "") (cs.map fun c=>(⟨#[c]⟩:Str))=⟨cs.toArray⟩:=by
 show Builtin.Str.glued _ _=_
 rw [StrLaws.glued_eq_join]
 exact wM cs
theorem EJ(cs:List Nat):((cs.map fun c=>(⟨#[c]⟩:Str)).map (·.length)).sum=cs.length:=by
 induction cs with
 | nil=>rfl
 | cons c r J=>rw [List.map_cons,List.map_cons,List.sum_cons,J,List.length_cons];show 1 + _=_;(clear J;omega)
theorem vE{z:Str}{l u:Option Int}{c:Nat}(h:c∈(Txt.slice z l u).cps.toList):c∈z.cps.toList:=by
 unfold Txt.slice at h
 split at h
 ·exact h
 ·have h':c∈(Builtin.Str.strSliceIndices l u 1 z.length).filterMap (z.cps[·]?):=by simpa using h
  obtain⟨i,_,e⟩:=List.mem_filterMap.mp h'
  have:=Array.mem_of_getElem? e
  simpa using this
theorem mZ{p:Nat->Bool}{z:Str}(l u:Option Int)(h:z.cps.toList.all p=true):(Txt.slice z l u).cps.toList.all p=true:=
 List.all_eq_true.mpr fun c hc=>List.all_eq_true.mp h c (vE hc)
theorem Bb{z:Str}{i j c:Nat}(h:c∈(Builtin.Str.strSub z i j).cps.toList):c∈z.cps.toList:=by
 have h':c∈(z.cps.extract i j).toList:=h
 rw [Array.toList_extract] at h'
 exact List.mem_of_mem_drop (List.mem_of_mem_take h')
theorem FC{p:Nat->Bool}{z:Str}(h:z.cps.toList.all p=true):(Txt.strip z).cps.toList.all p=true:=by
 refine List.all_eq_true.mpr fun c hc=>List.all_eq_true.mp h c ?_
 unfold Txt.strip at hc
 rw [stripBy_eq] at hc
 exact Bb hc
theorem ow{p:Nat->Bool}{a b:Str}(ha:a.cps.toList.all p=true)(hb:b.cps.toList.all p=true):(a++b).cps.toList.all p=true:=by
 rw [PySem.Str.cps_append,Array.toList_append,List.all_append,ha,hb]
 rfl
theorem DG:∀ c,c < 128->iJ c=true->iG (up1 c)=true:=dkq
theorem Ai{z:Str}(h:z.cps.toList.all iJ=true):(Txt.upper z).cps.toList.all iG=true/\(Txt.upper z).length=z.length:=by
 rw [upper_ascii fun c hc=>mX (List.all_eq_true.mp h c hc)]
 refine⟨?_,by simp [Str.length]⟩
 rw [Array.toList_map,List.all_map]
 exact List.all_eq_true.mpr fun c hc=>DG c (mX (List.all_eq_true.mp h c hc)) (List.all_eq_true.mp h c hc)
theorem y7{z:Str}(h:z.cps.toList.all iJ=true):z.cps.toList.all iG=true:=List.all_eq_true.mpr fun c hc=>vC (List.all_eq_true.mp h c hc)
theorem yr{p:Nat->Bool}{l:List Nat}(h:l.all p=true){i:Nat}(hi:i < l.length):p l[i]=true:=List.all_eq_true.mp h _ (List.getElem_mem hi)
noncomputable def pL(c:Nat):Bool:=iJ (K01.lo c)
noncomputable def sc(p:Bool):List Nat->Nat
 | []=>0
 | c::r=>(if pL c=true/\p=false then 1 else 0) + sc (pL c) r
noncomputable def nJ(p:Bool):List Nat->Bool
 | []=>p
 | c::r=>nJ (pL c) r
theorem sJ:∀(a b:List Nat) (p:Bool),sc p (a++b)=sc p a + sc (nJ p a) b
 | [],b,p=>by
  show sc p b=0 + sc p b
  omega
 | c::a,b,p=>by
  show _ + sc (pL c) (a++b)=_ + sc (pL c) a + sc (nJ (pL c) a) b
  rw [sJ a b (pL c),Nat.add_assoc]
theorem vK:∀(b:List Nat),sc true b<=sc false b/\sc false b<=sc true b + 1
 | []=>⟨Nat.le_refl _,Nat.le_succ _⟩
 | c::r=>by
  show(if pL c=true/\true=false then 1 else 0) + sc (pL c) r<=(if pL c=true/\false=false then 1 else 0) + sc (pL c) r/\(if pL c=true/\false=false then 1 else 0) + sc (pL c) r<=(if pL c=true/\true=false then 1 else 0) + sc (pL c) r + 1
  rw [if_neg (show ¬ (pL c=true/\true=false) from fun z=>nomatch z.2)]
  constructor
  ·omega
  ·split<;>omega
theorem EU(p:Bool)(b:List Nat):sc p b<=sc false b:=by
 cases p
 ·exact Nat.le_refl _
 ·exact(vK b).1
theorem yT:∀(a:List Nat) (p:Bool),nJ p a=true->p=true\/1<=sc p a
 | [],p,h=> .inl h
 | c::a,p,h=>by
  have h':nJ (pL c) a=true:=h
  show p=true\/1<=(if pL c=true/\p=false then 1 else 0) + sc (pL c) a
  rcases yT a (pL c) h' with q | q
  ·cases p
   ·rw [if_pos ⟨q,rfl⟩]
    exact .inr (by omega)
   ·exact .inl rfl
  ·exact .inr (by omega)
theorem zu(a b:List Nat):sc false (a++b)<=sc false a + sc false b:=by
 rw [sJ]
 have:=EU (nJ false a) b
 omega
theorem tw(a b:List Nat):sc false a<=sc false (a++b):=by rw [sJ];omega
theorem vI(a b:List Nat):sc false b<=sc false (a++b):=by
 rw [sJ]
 cases h:nJ false a with
 | false=>omega
 | true=>
  have h1:=(vK b).2
  rcases yT a false h with q | q
  ·cases q
  ·omega
theorem xP:∀(y:List Nat) (p:Bool),y.all pL=true->sc p y<=(if p=true then 0 else 1)
 | [],p,_=>Nat.zero_le _
 | c::y,p,h=>by
  rw [List.all_cons,Bool.and_eq_true] at h
  have J:=xP y (pL c) h.2
  rw [if_pos h.1] at J
  show(if pL c=true/\p=false then 1 else 0) + sc (pL c) y<=_
  cases p
  ·rw [if_pos ⟨h.1,rfl⟩,if_neg (by decide)]
   omega
  ·rw [if_neg (fun z=>nomatch z.2),if_pos rfl]
   omega
theorem rS:∀(t:List Nat) (p:Bool),t.all (fun c=> !pL c)=true->sc p t=0
 | [],p,_=>rfl
 | c::t,p,h=>by
  rw [List.all_cons,Bool.and_eq_true] at h
  have hc:pL c=false:=by simpa using h.1
  have J:=rS t (pL c) h.2
  show(if pL c=true/\p=false then 1 else 0) + sc (pL c) t=0
  rw [J,if_neg (fun z=>by rw [hc] at z;cases z.1)]
theorem uc:∀(r:List Nat) (i:Nat) (w:List Nat),(iY (r.map K01.lo) i w).length=(if w=[] then 0 else 1) + sc (decide (w≠[])) r
 | [],i,w=>by
  show(flush i w).length=_
  unfold flush
  by_cases h:w=[]
  ·rw [if_pos h,if_pos h]
   rfl
  ·rw [if_neg h,if_neg h]
   rfl
 | c::r,i,w=>by
  show(iY (K01.lo c::r.map K01.lo) i w).length=_ + ((if pL c=true/\decide (w≠[])=false then 1 else 0) + sc (pL c) r)
  cases h:iJ (K01.lo c) with
  | true=>
   have J:pL c=true:=h
   rw [kG h,uc r (i + 1) (w++[K01.lo c]),if_neg (by simp),J]
   have e:decide (w++[K01.lo c]≠[])=true:=by simp
   rw [e]
   by_cases hw:w=[]
   ·rw [if_pos hw,if_pos ⟨rfl,by simp [hw]⟩]
    omega
   ·rw [if_neg hw,if_neg (fun z=>by have:=z.2;simp [hw] at this)]
    omega
  | false=>
   have J:pL c=false:=h
   rw [kd h,List.length_append,uc r (i + 1) [],if_pos (rfl:([]:List Nat)=[]),J,if_neg (show ¬ (false=true/\decide (w≠[])=false) from fun z=>nomatch z.1)]
   have e:decide (([]:List Nat)≠[])=false:=by simp
   rw [e]
   unfold flush
   by_cases hw:w=[]
   ·rw [if_pos hw,if_pos hw]
    show 0 + (0 + sc false r)=0 + (0 + sc false r)
    rfl
   ·rw [if_neg hw,if_neg hw]
    show 1 + (0 + sc false r)=1 + (0 + sc false r)
    rfl
theorem qQ(cs:List Nat):(words cs).length=sc false cs:=by
 have:=uc cs 0 []
 rw [if_pos rfl] at this
 have e:decide (([]:List Nat)≠[])=false:=by simp
 rw [e,Nat.zero_add] at this
 exact this
theorem qH(a b:Str):codes (a++b)=codes a++codes b:=by
 unfold codes
 rw [PySem.Str.cps_append,Array.toList_append]
theorem Dt(l:List Nat)(i j:Nat):sc false ((l.drop i).take (j - i))<=sc false l:=by
 have h1:=tw ((l.drop i).take (j - i)) ((l.drop i).drop (j - i))
 rw [List.take_append_drop] at h1
 have h2:=vI (l.take i) (l.drop i)
 rw [List.take_append_drop] at h2
 exact Nat.le_trans h1 h2
theorem BQ(z:Str):sc false (codes (Txt.strip z))<=sc false (codes z):=by
 unfold Txt.strip
 rw [stripBy_eq]
 have key:∀ i j:Nat,sc false (z.cps.extract i j).toList<=sc false z.cps.toList:=fun i j=>by
  rw [Array.toList_extract]
  exact Dt z.cps.toList i j
 exact key _ _
theorem Ho:∀ c,c < 128->iJ c=true->pL c=true:=dkq
theorem BV:∀ c,c < 128->iJ c=true->pL (up1 c)=true:=dkq
theorem tI{z:Str}(h:z.cps.toList.all iJ=true):z.cps.toList.all pL=true:=List.all_eq_true.mpr fun c hc=>Ho c (mX (List.all_eq_true.mp h c hc)) (List.all_eq_true.mp h c hc)
theorem zQ{z:Str}(h:z.cps.toList.all iJ=true):(Txt.upper z).cps.toList.all pL=true:=by
 rw [upper_ascii fun c hc=>mX (List.all_eq_true.mp h c hc),Array.toList_map,List.all_map]
 exact List.all_eq_true.mpr fun c hc=>BV c (mX (List.all_eq_true.mp h c hc)) (List.all_eq_true.mp h c hc)
theorem Cq{R:Str}{i j:Int}(hi:0<=i)(hij:i<=j)(hj:j<=R.length):(Txt.slice R none (some i)).length + (Txt.slice R (some i) (some j)).length<=j.toNat:=by
 have l:(R.cps.toList.length:Int)=R.length:=by simp [Str.length]
 have J:Txt.slice R none (some i)=_:=PySem.StrLaws.sliceText_to ⟨hi,by omega⟩
 have U:Txt.slice R (some i) (some j)=_:=PySem.StrLaws.sliceText_plain ⟨hi,hij,by omega⟩
 rw [J,U,iB,iB,List.length_take,List.length_take,List.length_drop,List.length_drop]
 omega
theorem C6(z:Str):(Txt.slice z none (some 1)).length + (Txt.slice z (some 1) none).length<=z.length:=by
 have l:z.cps.toList.length=z.length:=by simp [Str.length]
 by_cases h:z.length=0
 ·have a:=Txt.slice_le z none (some 1)
  have b:=Txt.slice_le z (some 1) none
  omega
 ·have J:Txt.slice z none (some 1)=_:=PySem.StrLaws.sliceText_to ⟨by decide,by omega⟩
  have U:Txt.slice z (some 1) none=_:=PySem.StrLaws.sliceText_from ⟨by decide,by omega⟩
  rw [J,U,iB,iB,List.length_take,List.length_take,List.length_drop,List.length_drop]
  omega
theorem tO:∀{l:List Nat},(∃ c∈l,pL c=true)->1<=sc false l
 | c::r,⟨d,hd,h⟩=>by
  by_cases hc:pL c=true
  ·have:=tw [c] r
   have e:sc false [c]=1:=by unfold sc;rw [if_pos ⟨hc,rfl⟩];rfl
   rw [e] at this
   exact this
  ·have e:sc false (c::r)=sc false r:=by
    have J:pL c=false:=by cases q:pL c with | false=>rfl | true=>exact absurd q hc
    show(if pL c=true/\false=false then 1 else 0) + sc (pL c) r=sc false r
    rw [if_neg (fun z=>hc z.1),J,Nat.zero_add]
   rw [e]
   rcases List.mem_cons.mp hd with z | z
   ·rw [z] at h;exact absurd h hc
   ·exact tO ⟨d,z,h⟩
theorem AX{l:List Nat}(h:1<=sc false l):∃ c∈l,pL c=true:=by
 by_cases q:∃ c∈l,pL c=true
 ·exact q
 ·have:=rS l false (List.all_eq_true.mpr fun c hc=>by
   cases e:pL c with
   | false=>rfl
   | true=>exact absurd ⟨c,hc,e⟩ q)
  omega
theorem Gb{y:List Nat}(h:y.all pL=true)(hl:1<=y.length):1<=sc false y:=by
 cases y with
 | nil=>simp at hl
 | cons c r=>exact tO ⟨c,List.mem_cons_self,List.all_eq_true.mp h c List.mem_cons_self⟩
theorem HX{z:Str}(h:1<=z.length):(Txt.slice z none (some 1)).length=1:=by
 have J:Txt.slice z none (some ((1:Nat):Int))=_:=PySem.StrLaws.sliceText_to ⟨by omega,by rw [str_len];omega⟩
 have U:Txt.slice z none (some 1)=Txt.slice z none (some ((1:Nat):Int)):=rfl
 rw [U,J,iB,List.length_take,List.length_drop,str_len]
 simp
 omega
theorem Hy:∀ c,c < 128->pL c=true->Unicode.isSpace c=false:=dkq
theorem FD{c:Nat}(h:pL c=true):c < 128:=by
 have:=mX h
 unfold K01.lo at this
 split at this<;>omega
theorem uq{g:Nat->Bool}:∀{l:List Nat} {c:Nat},c∈l->g c=false->c∈l.drop (l.takeWhile g).length
 | d::r,c,hc,J=>by
  by_cases hd:g d=true
  ·rw [List.takeWhile_cons_of_pos hd]
   rcases List.mem_cons.mp hc with z | z
   ·rw [z,hd] at J;cases J
   ·exact uq z J
  ·rw [List.takeWhile_cons_of_neg hd]
   exact hc
theorem BW{z:Str}{c:Nat}(h:c∈codes z)(hg:Unicode.isSpace c=false):c∈codes (Txt.strip z):=by
 unfold Txt.strip
 rw [PyProof.Rows.stripBy_eq]
 show c∈(z.cps.extract _ _).toList
 rw [Array.toList_extract,List.extract_eq_take_drop]
 have h':c∈z.cps.toList:=h
 have h1:=uq h' hg
 have J:stripLo Unicode.isSpace true z=(z.cps.toList.takeWhile Unicode.isSpace).length:=rfl
 rw [J]
 have h2:=uq (List.mem_reverse.mpr h1) hg
 have U:z.length=z.cps.toList.length:=(str_len z).symm
 have tl:(z.cps.toList.takeWhile Unicode.isSpace).length<=z.cps.toList.length:=(List.takeWhile_sublist _).length_le
 have e2:stripHi Unicode.isSpace true z (z.cps.toList.takeWhile Unicode.isSpace).length - (z.cps.toList.takeWhile Unicode.isSpace).length=(z.cps.toList.drop (z.cps.toList.takeWhile Unicode.isSpace).length).length - ((z.cps.toList.drop (z.cps.toList.takeWhile Unicode.isSpace).length).reverse.takeWhile Unicode.isSpace).length:=by
  show z.length - _ - _=_
  rw [List.length_drop,U]
  omega
 rw [e2]
 generalize z.cps.toList.drop (z.cps.toList.takeWhile Unicode.isSpace).length=d at h2 ⊢
 rw [List.drop_reverse,List.mem_reverse] at h2
 exact h2
theorem Cr{z:Str}(h:1<=sc false (codes z)):1<=sc false (codes (Txt.strip z)):=by
 obtain⟨c,hc,J⟩:=AX h
 exact tO ⟨c,BW hc (Hy c (FD J) J),J⟩
noncomputable def Wm(z:Str):Prop:=z.length<=7/\z.cps.toList.all iJ=true/\1<=z.length
noncomputable def zC:Sp:=fun vs H Q _=>∃ n:Int,vs=[.int n]/\∀ a H' (ws:List Str),gO H H'->H' a=some (.lst (ws.map V.str))->ws.length=5->(∀ z∈ws,Wm z)->Q (.ref a) H'
theorem mi:iU ["_law_number_here","_law_signs","_law_rest","_law_k","_law_size","_law_at","_law_found","_law_sign"] ["_law_number_here"] (iu nz):=⟨rfl,rfl,rfl,dkq,rfl,dkq,dkq⟩
theorem EZ:(["_law_j","_law_signs","_law_number_here"]:List Str).Nodup:=dkq
theorem EO:(["_law_k","_law_rest"]:List Str).Nodup:=dkq
seal iD PS PE PT PA PG PI iX iW in
theorem C8{f fm:Addr}{fd fdm:FuncData}(D:Df K mg "_law_menu" nz f fd)(DM:Df K mg "_law_mixed" mQ fm fdm)(T:Txt mg):hZ P w K mg base iw 2 f fd ["_law_number_here"] zC:=by
 have GM:hZ P w K mg base iw 1 fm fdm ["_law_number_here","_law_k"] qI:=rW DM
 have bM:=DM.F.binds (ps:=["_law_number_here","_law_k"]) fun _ _ _ _ _ _ us hl=>tV (fun _ _=>rfl) us hl
 refine D.F.ok mi (fun vs H Q E h=>?_) (fun cdv A outer s H vs Q E hr h=>?_)
 ·obtain⟨n,rfl,_⟩:=h
  rfl
 ·obtain⟨n,rfl,kk⟩:=h
  have hl:(sizeLine:Nat)=16777216:=sizeLine_eq
  refine⟨_,gS (hU (i:=1) mi.nd rfl (Or.inr rfl) gZ)
   (gS (oH (iq jD (gX iZ (pv 0) gQ) gQ (iy _)) (g0 (hU (i:=1) mi.nd rfl (Or.inr rfl) gZ)) iL)
   (gS (hU (i:=2) mi.nd rfl (Or.inr rfl) (jr F.plainAttrs_str F.slot_str_join F.type_str_join uT gZ (gN (nr (own:=1) (caps:=[1,0]) (N:=["_law_j","_law_signs","_law_number_here"])
     (N0:=["_law_number_here","_law_signs","_law_rest","_law_k","_law_size","_law_at","_law_found","_law_sign"]) (sc0:=iu nz) rfl
    (nt rfl T.range (gN gQ gP)) (fun _ _ _=>iS (i:=0) EZ rfl (Or.inl rfl)) (fun _ _ _=>k8)
    (fun _ _ _=>g9 me (pv 1) (gX iZ (iE GM hr rfl DM.m DM.F.kp bM .nil iM (gN (pv 2) (gN (gX jb gQ (pv 0)) gP))) gQ) (fun _ _=>rfl)) (jK (by decide)) rfl rfl
    dkq rfl dkq dkq rfl dkq) gP)))
   (gS (iN (iq jD (gX iZ (gX jO (pv 0) gQ) gQ) gQ (iy _))
    (g0 (iC (nr (own:=1) (caps:=[2]) (N:=["_law_k","_law_rest"])
     (N0:=["_law_number_here","_law_signs","_law_rest","_law_k","_law_size","_law_at","_law_found","_law_sign"]) (sc0:=iu nz) rfl
     (nt rfl T.range (gN gQ gP)) (fun _ _ _=>iS (i:=0) EO rfl (Or.inl rfl)) (fun _ _ _=>k8)
     (fun _ _ _=>js jU (pv 1) j6 (i5 (gX jb (pv 0) gQ))) (jK (by decide)) rfl rfl
     dkq rfl dkq dkq rfl dkq))) iL)
   (gS (hU (i:=4) mi.nd rfl (Or.inl rfl) (gX iZ (gX jO (pv 0) gQ) gQ))
   (gS (hU (i:=5) mi.nd rfl (Or.inl rfl) (gX iZ (gX jO (pv 0) gQ) (gX jb (pv 4) gQ)))
   (gS (hU (i:=6) mi.nd rfl (Or.inl rfl) (iK gP))
   (gS (kR PassesOwn.never rfl (nt rfl T.range (gN gQ gP)) (iS (i:=3) mi.nd rfl (Or.inl rfl))
    (gS (hU (i:=7) mi.nd rfl (Or.inl rfl) (g9 me (pv 1) (gX iZ (gX jb (gX jO (pv 0) gQ) (gX lB gQ (pv 3))) gQ) (fun _ _=>rfl)))
    (g0 (ke (jr F.plainAttrs_list F.slot_list_append F.type_list_append kj (pv 6)
     (gN (gX jF (gX jF (js jU (pv 2) j6 (i5 (pv 5))) (pv 7)) (js jU (pv 2) (i5 (pv 5)) (i5 (pv 4)))) gP))))))
   (g0 (iC (pv 6)))))))))),?_⟩
  refine⟨fun au H'=>H'=H/\∃ S:Str,S.cps.toList.all iJ=true/\S.length=26/\au=[some (.int n),some (.str S),none,none,none,none,none,none],?_,?_⟩
  ·refine⟨_,rfl,_,_,rfl,rfl,(by show(0:Int) < 3;decide),rfl,_,rfl,?_⟩
   refine kY (fun _=>?_) (fun _=>?_)
   ·exact⟨rfl,Str.ofString "0a1b2c3d4e5f6g7h8i9jklmnop",dkq,dkq,rfl⟩
   ·exact⟨rfl,Str.ofString "abcdefghijklmnopqrstuvwxyz",dkq,dkq,rfl⟩
  ·rintro au H' ⟨rfl,S,hS,J,rfl⟩
   have U:(codes S).length=26:=by unfold codes;rw [str_len];exact J
   refine⟨rfl,6,rfl,by decide,by decide,zM (fun i ys H1=>H1=H'/\∃ cs:List Nat,cs.length=i/\cs.all iJ=true/\ys=cs.map fun c=>V.str ⟨#[c]⟩) (by rw [hl];decide) ⟨rfl,[],rfl,rfl,rfl⟩ ?_ ?_⟩
   ·rintro i ys H1 N hi ⟨rfl,cs,hc,hok,rfl⟩ hN
    have aq:i < 6:=hi
    refine g1 ?_
    refine⟨_,rfl,_,rfl,_,rfl,_,_,rfl,rfl,_,_,rfl,by(clear aq hok hc hi U J hS hl;omega),by(clear aq hok hc U J hS hl;omega),fun r r0 r1=>?_⟩
    refine⟨_,_,rfl,rfl,(by show(0:Int) < 26;decide),?_⟩
    obtain⟨j,hj,ae⟩:=vd (r:=r) (n:=26) (by decide)
    have ag:j < (codes S).length:=by(clear ae r1 r0 aq hok hc hi J hS hl;omega)
    refine⟨S,_,(codes S)[j],rfl,rfl,by(clear ag ae hj r1 r0 aq hok hc hi U hS;omega),?_,hN _ _ ⟨rfl,cs++[(codes S)[j]],by simp [hc],by rw [List.all_append,hok];simp [yr (p:=iJ) (l:=codes S) hS ag],by rw [List.map_append];rfl⟩⟩
    rw [<-hj]
    exact ik (List.getElem?_eq_getElem ag)
   ·rintro ys H1 ⟨rfl,cs,hc,hok,rfl⟩ _ p hp
    have aa:cs.length=6:=hc
    refine⟨_,p,cs.map fun c=>(⟨#[c]⟩:Str),rfl,rfl,gR.of (by rw [gY,List.map_map];rfl),?_,?_⟩
    ·rw [EJ,List.length_map]
     show cs.length + cs.length * 0<=_
     (clear aa hp hok U J hS hl;omega)
    rw [join_eq]
    have sm:gO H1 (upd H1 p (.lst (cs.map fun c=>V.str ⟨#[c]⟩))):=hJ hp
    generalize hG:upd H1 p (.lst (cs.map fun c=>V.str ⟨#[c]⟩))=H2 at sm
    have hR:(⟨cs.toArray⟩:Str).cps.toList.all iJ=true:=by simpa using hok
    have ak:(⟨cs.toArray⟩:Str).length=6:=by rw [iB];exact aa
    generalize (⟨cs.toArray⟩:Str)=R at hR ak
    refine⟨_,rfl,_,_,rfl,rfl,⟨by decide,by decide⟩,_,_,rfl,rfl,(by show(0:Int) < 3;decide),rfl,_,rfl,?_⟩
    refine kY (fun _=>?_) (fun _=>?_)
    ·refine⟨5,rfl,by decide,by decide,zM (fun i ys H3=>H3=H2/\∃ ws:List Str,ws.length=i/\(∀ z∈ws,Wm z)/\ys=ws.map V.str) (by rw [hl];decide) ⟨rfl,[],rfl,fun z hz=>by simp at hz,rfl⟩ ?_ ?_⟩
     ·rintro i ys H3 N hi ⟨rfl,ws,hw,af,rfl⟩ hN
      refine g1 ?_
      refine⟨_,rfl,_,rfl,_,_,rfl,rfl,_,rfl,R,rfl,by(clear hw hG hi hR aa hp hok hc U J hS;omega),hN _ _ ⟨rfl,ws++[Txt.slice R none (some ((0:Int) + i + 1))],by simp [hw],fun z hz=>?_,by rw [List.map_append];rfl⟩⟩
      rcases List.mem_append.mp hz with q | q
      ·exact af z q
      ·have e:z=Txt.slice R none (some ((0:Int) + i + 1)):=by simpa using q
       rw [e]
       have:=Txt.slice_le R none (some ((0:Int) + i + 1))
       exact⟨by(clear e hw hG hi hR aa hp hok hc U J hS hl;omega),mZ _ _ hR,by
        have ah:i < 5:=hi
        have l6:(R.cps.toList.length:Int)=R.length:=by simp [Str.length]
        have e1:Txt.slice R none (some ((0:Int) + i + 1))=_:=PySem.StrLaws.sliceText_to ⟨by omega,by omega⟩
        have l7:R.cps.toList.length=6:=by omega
        rw [e1,iB,List.length_take,List.length_drop,l7]
        omega⟩
     ·rintro ys H3 ⟨rfl,ws,hw,af,rfl⟩ _ q hq
      exact kk q _ ws (sm.trans (hJ hq)) gY hw af
    ·refine⟨_,rfl,_,_,rfl,rfl,⟨by decide,by decide⟩,_,_,rfl,rfl,(by show(0:Int) < 5;decide),?_⟩
     have s0:=Int.emod_nonneg (n / 9) (show(5:Int)≠0 by decide)
     refine⟨_,rfl,_,_,rfl,rfl,⟨by decide,by decide⟩,_,rfl,_,_,rfl,rfl,_,_,rfl,rfl,(by show(0:Int) < n / 9 % 5 + 1;(clear s0 ak hR hG aa hp hok hc U J hS hl;omega)),?_⟩
     refine⟨Nat.zero_le _,fun a ha=>?_⟩
     refine⟨5,rfl,by decide,by decide,oQ (fun i σ H3=>∃(ws:List Str) (v3 v7:Option V),σ=[some (.int n),some (.str S),some (.str R),v3,some (.int (n / 9 % 5)),some (.int (n / 45 % (n / 9 % 5 + 1))),some (.ref a),v7]/\gO H1 H3/\H3 a=some (.lst (ws.map V.str))/\ws.length=i/\∀ z∈ws,Wm z) ?_ ?_ ?_⟩
     ·exact⟨[],none,none,rfl,sm.trans (hJ ha),gY,rfl,fun z hz=>by simp at hz⟩
     ·rintro i σ H3 hi ⟨ws,v3,v7,rfl,ar,hA,hw,af⟩
      have ah:i < 5:=hi
      refine⟨_,rfl,_,rfl,_,_,rfl,rfl,⟨by decide,by decide⟩,_,rfl,_,_,rfl,rfl,.inl ⟨by decide,by decide⟩,_,_,rfl,rfl,_,_,rfl,rfl,(by show(0:Int) < 26;decide),?_⟩
      obtain⟨j,hj,ae⟩:=vd (r:=n / 225 + 5 * (0 + (i:Int))) (n:=26) (by decide)
      have ag:j < (codes S).length:=by(clear ae ah hw hA hi ha s0 ak hR hG aa hp hok hc J hS hl;omega)
      refine⟨S,_,(codes S)[j],rfl,rfl,by(clear ag ae hj ah hw hA hi ha s0 ak hR hG aa hp hok hc U hS;omega),by rw [<-hj];exact ik (List.getElem?_eq_getElem ag),?_⟩
      have l1:=Txt.slice_le R none (some (n / 45 % (n / 9 % 5 + 1)))
      have l2:=Txt.slice_le R (some (n / 45 % (n / 9 % 5 + 1))) (some (n / 9 % 5))
      have ao:(⟨#[(codes S)[j]]⟩:Str).length=1:=rfl
      have av:(Txt.slice R none (some (n / 45 % (n / 9 % 5 + 1)))).length + (Txt.slice R (some (n / 45 % (n / 9 % 5 + 1))) (some (n / 9 % 5))).length<=4:=by
       have z1:=Int.emod_lt_of_pos (n / 9) (show(0:Int) < 5 by decide)
       have z2:=Int.emod_lt_of_pos (n / 45) (show(0:Int) < n / 9 % 5 + 1 by omega)
       have z3:=Int.emod_nonneg (n / 45) (show n / 9 % 5 + 1≠0 by omega)
       have:=Cq (R:=R) z3 (show n / 45 % (n / 9 % 5 + 1)<=n / 9 % 5 by omega) (by rw [ak];omega)
       omega
      refine⟨_,rfl,.inl ⟨rfl,_,gR.of hA⟩,_,rfl,_,rfl,_,rfl,R,rfl,by(clear ao l2 l1 ag ae hj ah hw hA hi ha s0 hR hG aa hp hok hc U J hS;omega),_,rfl,_,_,rfl,rfl,by(clear l2 ae hj ah hw hA hi ha s0 hR hG aa hp hok hc U J hS;omega),_,rfl,_,rfl,_,rfl,_,rfl,_,rfl,R,rfl,by(clear ao l2 l1 ag ae hj ah hw hA hi ha s0 hR hG aa hp hok hc U J hS;omega),_,_,rfl,rfl,by rw [PySem.Str.length_append];(clear ae hj ah hw hA hi ha s0 hR hG aa hp hok hc U J hS;omega),?_⟩
      have aw:a≠a->False:=fun z=>z rfl
      refine⟨a,_,_,rfl,rfl,hA,by simp;(clear ao l2 l1 ag ae hj ah hA ha s0 ak hR hG aa hp hok hc U J hS;omega),?_⟩
      refine⟨ws++[Txt.slice R none (some (n / 45 % (n / 9 % 5 + 1)))++⟨#[(codes S)[j]]⟩++Txt.slice R (some (n / 45 % (n / 9 % 5 + 1))) (some (n / 9 % 5))],_,_,rfl,fun b u e=>?_,by rw [gY,List.map_append];rfl,by simp [hw],fun z hz=>?_⟩
      ·have hb:b≠a:=fun z=>by subst z;rw [sm.free ha] at e;cases e
       rw [ig hb];exact ar b u e
      ·rcases List.mem_append.mp hz with q | q
       ·exact af z q
       ·have e:z=Txt.slice R none (some (n / 45 % (n / 9 % 5 + 1)))++⟨#[(codes S)[j]]⟩++Txt.slice R (some (n / 45 % (n / 9 % 5 + 1))) (some (n / 9 % 5)):=by simpa using q
        rw [e]
        refine⟨by rw [PySem.Str.length_append,PySem.Str.length_append];(clear e ae hj ah hw hA hi ha s0 hR hG aa hp hok hc U J hS hl;omega),ow (ow (mZ _ _ hR) ?_) (mZ _ _ hR),by rw [PySem.Str.length_append,PySem.Str.length_append];omega⟩
        simp [yr (p:=iJ) (l:=codes S) hS ag]
     ·rintro σ H3 ⟨ws,v3,v7,rfl,ar,hA,hw,af⟩
      exact⟨_,rfl,kk a H3 ws ar hA hw af⟩
theorem qp{ss:List Str}{n L:Int}(h0:0 < ss.length)(hL:L=(ss.length:Nat)):∃ z∈ss,j3 (ss.map V.str) (n % L)=some (.str z):=by
 obtain⟨v,J,e⟩:=pV (xs:=ss.map V.str) (n:=n) (L:=L) (by rw [List.length_map];exact h0) (by rw [List.length_map];exact hL)
 obtain⟨z,hz,rfl⟩:=List.mem_map.mp J
 exact⟨z,hz,e⟩
noncomputable def lN:List Str:=[" ","  ",", ","\n","-",". "," [","] ","_"," \\ ","/","; "]
noncomputable def oO:List Str:=["",""," ","\n\n","- "]
theorem AG:∀ z∈lN,z.length<=3/\z.cps.toList.all iG=true:=dkq
theorem Hr:∀ z∈oO,z.length<=2/\z.cps.toList.all iG=true:=dkq
theorem Bi(z:Str):(Txt.strip z).length<=z.length:=by
 unfold Txt.strip
 rw [stripBy_eq]
 show(z.cps.extract _ _).size<=z.cps.size
 rw [Array.size_extract]
 omega
theorem AW:∀ z∈lN,z.cps.toList.all (fun c=> !pL c)=true:=dkq
theorem BP:∀ z∈oO,z.cps.toList.all (fun c=> !pL c)=true:=dkq
noncomputable def yq:Sp:=fun vs H Q _=>∃(n:Int) (a:Addr) (ws:List Str) (m:Nat),vs=[.int n,.ref a,.int m]/\m<=150/\H a=some (.lst (ws.map V.str))/\ws.length=5/\(∀ z∈ws,Wm z)/\∀ x H',gO H H'->x.length<=2 + 10 * m->(codes x).all iG=true->(words (codes x)).length<=m->(1<=m->1<=(words (codes x)).length)->Q (.str x) H'
theorem mS:iU ["_law_number_here","_law_menu_here","_law_many","_law_between","_law_text_here","_law_k","_law_more","_law_word"] ["_law_number_here","_law_menu_here","_law_many"] (iu qz):=⟨rfl,rfl,rfl,dkq,rfl,dkq,dkq⟩
seal iD PS PE PT PA PG PI iX iW in
theorem Hj{f fm:Addr}{fd fdm:FuncData}(D:Df K mg "_law_text" qz f fd)(DM:Df K mg "_law_mixed" mQ fm fdm)(T:Txt mg):hZ P w K mg base iw 2 f fd ["_law_number_here","_law_menu_here","_law_many"] yq:=by
 have GM:hZ P w K mg base iw 1 fm fdm ["_law_number_here","_law_k"] qI:=rW DM
 have bM:=DM.F.binds (ps:=["_law_number_here","_law_k"]) fun _ _ _ _ _ _ us hl=>tV (fun _ _=>rfl) us hl
 refine D.F.ok mS (fun vs H Q E h=>?_) (fun cdv A outer s H vs Q E hr h=>?_)
 ·obtain⟨n,a,ws,m,rfl,_⟩:=h
  rfl
 ·obtain⟨n,a,ws,m,rfl,hm,hA,h5,aA,kk⟩:=h
  have hl:(sizeLine:Nat)=16777216:=sizeLine_eq
  refine⟨_,gS (hU (i:=3) mS.nd rfl (Or.inl rfl) (iK (gN gZ (gN gZ (gN gZ (gN gZ (gN gZ (gN gZ (gN gZ (gN gZ (gN gZ (gN gZ (gN gZ (gN gZ gP))))))))))))))
   (gS (hU (i:=4) mS.nd rfl (Or.inl rfl) (g9 jn (iK (gN gZ (gN gZ (gN gZ (gN gZ (gN gZ gP)))))) (gX iZ (pv 0) gQ) (fun _ _=>rfl)))
   (gS (kR PassesOwn.never rfl (nt rfl T.range (gN (pv 2) gP)) (iS (i:=5) mS.nd rfl (Or.inl rfl))
    (gS (hU (i:=6) mS.nd rfl (Or.inl rfl) (iE GM hr rfl DM.m DM.F.kp bM .nil iM (gN (pv 0) (gN (pv 5) gP))))
    (gS (hU (i:=7) mS.nd rfl (Or.inl rfl) (g9 jn (pv 1) (gX iZ (pv 6) (ir jN rfl T.len i0 (gN (pv 1) gP))) (fun _ _=>rfl)))
    (gS (hU (i:=7) mS.nd rfl (Or.inl rfl) (g9 jn (iK (gN (pv 7) (gN (pv 7) (gN (rG F.plainAttrs_str F.slot_str_upper F.type_str_upper vw (pv 7))
      (gN (gX jF (rG F.plainAttrs_str F.slot_str_upper F.type_str_upper vw (js jU (pv 7) j6 (i5 gQ))) (js jU (pv 7) (i5 gQ) j6)) gP)))))
      (gX iZ (gX jO (pv 6) gQ) gQ) (fun _ _=>rfl)))
    (g0 (hU (i:=4) mS.nd rfl (Or.inl rfl) (gX jF (gX jF (pv 4) (pv 7)) (g9 jn (pv 3) (gX iZ (gX jO (pv 6) gQ) gQ) (fun _ _=>rfl)))))))))
   (gS (iN (iq jD (gX iZ (gX jO (pv 0) gQ) gQ) gQ (iy _)) (g0 (iC (rG F.plainAttrs_str F.slot_str_strip F.type_str_strip Bx (pv 4)))) iL)
   (g0 (iC (pv 4)))))),?_⟩
  refine⟨(by show 12<=sizeLine;(clear h5 hA hm;omega)),fun b hb=>⟨(by show 5<=sizeLine;(clear hb h5 hA hm;omega)),fun p hp=>?_⟩⟩
  have aB:gO H (upd H b (.lst (lN.map V.str))):=hJ hb
  change (upd H b (.lst (lN.map V.str))) p=none at hp
  obtain⟨x0,aw,e0⟩:=qp (ss:=oO) (n:=n) (L:=5) (by decide) rfl
  obtain⟨ae,J⟩:=Hr x0 aw
  refine⟨_,rfl,_,_,rfl,rfl,(by show(0:Int) < 5;decide),p,oO.map V.str,_,_,rfl,rfl,gR.of gY,e0,?_⟩
  have aC:gO H (upd (upd H b (.lst (lN.map V.str))) p (.lst (oO.map V.str))):=gO.upd aB hp
  have U:(upd (upd H b (.lst (lN.map V.str))) p (.lst (oO.map V.str))) b=some (.lst (lN.map V.str)):=by rw [ig (jo gY hp),gY]
  refine⟨_,rfl,m,rfl,by(clear U J ae e0 hp hb hl h5 hA hm;omega),by(clear U J ae e0 hp hb hl h5 hA;omega),?_⟩
  refine oQ (fun i σ H'=>∃(x:Str) (v5 v6 v7:Option V),σ=[some (.int n),some (.ref a),some (.int m),some (.ref b),some (.str x),v5,v6,v7]/\gO H H'/\H' b=some (.lst (lN.map V.str))/\x.length<=2 + 10 * i/\x.cps.toList.all iG=true/\sc false (codes x)<=i/\(1<=i->1<=sc false (codes x))) ?_ ?_ ?_
  ·exact⟨x0,none,none,none,rfl,aC,U,by(clear U J e0 hp hb hl h5 hA hm;omega),J,Nat.le_of_eq (rS _ _ (BP x0 aw)),fun z=>absurd z (by decide)⟩
  ·intro i σ H' hi hP
   refine vb fun B D' aD aE=>?_
   obtain⟨x,v5,v6,v7,rfl,sm,hB,hx,aa,ax,_⟩:=hP
   have af:i < m:=by simpa using hi
   refine nN (R:=B) aD fun R hR=>?_
   refine⟨_,rfl,_,rfl,_,_,rfl,by(clear af aa hx hB hi U J ae e0 hp hb hl h5 hA hm;omega),by(clear af aa hx hB U J ae e0 hp hb hl h5 hA;omega),fun r r0 r1=>?_⟩
   have ag:=sm _ _ hA
   obtain⟨z,hz,ez⟩:=qp (ss:=ws) (n:=r) (L:=((ws.map V.str).length:Nat)) (by(clear ag r1 r0 af aa hx hB hi U J ae e0 hp hb hl hA hm;omega)) (by rw [List.length_map])
   obtain⟨lz,oz,pz⟩:=aA z hz
   have ah:=y7 oz
   refine nN (R:=R) hR fun R hR=>?_
   refine⟨_,rfl,_,rfl,_,rfl,_,_,rfl,.inl (gR.of ag),_,_,rfl,rfl,(by show(0:Int) < _;rw [List.length_map,h5];decide),a,_,_,_,rfl,rfl,gR.of ag,ez,?_⟩
   have s1:=Txt.slice_le z none (some 1)
   have s2:=Txt.slice_le z (some 1) none
   have aN:=C6 z
   obtain⟨u1,u2⟩:=Ai oz
   obtain⟨u3,u4⟩:=Ai (mZ none (some 1) oz)
   have u5:=y7 (mZ (some 1) none oz)
   refine nN (R:=R) hR fun R hR=>?_
   refine⟨_,rfl,_,rfl,_,rfl,rfl,z,rfl,rfl,by(clear u5 u4 u3 u2 u1 s2 s1 ah oz ez ag r1 r0 af aa hx hB hi U J ae e0 hp hb hl h5 hA hm;omega),_,rfl,_,rfl,z,rfl,by(clear u5 u4 u3 u2 u1 s2 s1 ah oz ez ag r1 r0 af aa hx hB hi U J ae e0 hp hb h5 hA hm;omega),rfl,_,rfl,rfl,by(clear u5 u4 u3 u2 u1 s2 ah oz ez ag r1 r0 af aa hx hB hi U J ae e0 hp hb hl h5 hA hm;omega),_,rfl,_,rfl,z,rfl,by(clear u5 u4 u3 u2 u1 s2 s1 ah oz ez ag r1 r0 af aa hx hB hi U J ae e0 hp hb h5 hA hm;omega),_,_,rfl,rfl,by(clear u5 u3 u2 u1 ah oz ez ag r1 r0 af aa hx hB hi U J ae e0 hp hb h5 hA hm;omega),(by show 4<=sizeLine;(clear u5 u4 u3 u2 u1 s2 s1 ah oz lz ez ag r1 r0 af aa hx hB hi U J ae e0 hp hb h5 hA hm;omega)),fun q hq=>?_⟩
   refine⟨_,rfl,_,_,rfl,rfl,⟨by decide,by decide⟩,_,_,rfl,rfl,(by show(0:Int) < 4;decide),?_⟩
   obtain⟨y,hy,ey⟩:=qp (ss:=[z,z,Txt.upper z,Txt.upper (Txt.slice z none (some 1))++Txt.slice z (some 1) none]) (n:=r / 7) (L:=4) (by simp) rfl
   have aF:=HX pz
   have aG:y.length<=7/\y.cps.toList.all iG=true/\y.cps.toList.all pL=true/\1<=y.length:=by
    have aH:y=z\/y=z\/y=Txt.upper z\/y=Txt.upper (Txt.slice z none (some 1))++Txt.slice z (some 1) none:=by simpa using hy
    rcases aH with e | e | e | e
    ·rw [e];exact⟨by(clear e ey hq u5 u4 u3 u2 u1 s2 s1 ah oz ez ag r1 r0 af aa hx hB hi U J ae e0 hp hb hl h5 hA hm;omega),ah,tI oz,pz⟩
    ·rw [e];exact⟨by(clear e ey hq u5 u4 u3 u2 u1 s2 s1 ah oz ez ag r1 r0 af aa hx hB hi U J ae e0 hp hb hl h5 hA hm;omega),ah,tI oz,pz⟩
    ·rw [e];exact⟨by(clear e ey hq u5 u4 u3 u1 s2 s1 ah oz ez ag r1 r0 af aa hx hB hi U J ae e0 hp hb hl h5 hA hm;omega),u1,zQ oz,by rw [u2];exact pz⟩
    ·rw [e];exact⟨by rw [PySem.Str.length_append];(clear e ey hq u5 u3 u2 u1 ah oz ez ag r1 r0 af aa hx hB hi U J ae e0 hp hb hl h5 hA hm;omega),ow u3 u5,ow (zQ (mZ none (some 1) oz)) (tI (mZ (some 1) none oz)),by rw [PySem.Str.length_append,u4,aF];exact Nat.le_add_right _ _⟩
   obtain⟨aO,ao,ay,aI⟩:=aG
   refine⟨q,_,_,_,rfl,rfl,gR.of gY,ey,?_⟩
   obtain⟨t,ht,et⟩:=qp (ss:=lN) (n:=r / 31) (L:=12) (by decide) rfl
   obtain⟨aJ,aq⟩:=AG t ht
   have ak:(upd H' q (.lst [V.str z,V.str z,V.str (Txt.upper z),V.str (Txt.upper (Txt.slice z none (some 1))++Txt.slice z (some 1) none)])) b=some (.lst (lN.map V.str)):=by rw [ig (jo hB hq)];exact hB
   refine nR (R:=R) hR ?_
   refine⟨_,rfl,_,rfl,_,_,rfl,rfl,by(clear ak aq aJ et ao ey hq u5 u4 u3 u2 u1 s2 s1 ah oz lz ez ag r1 r0 af aa hB U J ae e0 hp hb h5 hA;omega),_,rfl,_,rfl,_,_,rfl,rfl,⟨by decide,by decide⟩,_,_,rfl,rfl,(by show(0:Int) < 12;decide),b,_,_,_,rfl,rfl,gR.of ak,et,_,_,rfl,rfl,by rw [PySem.Str.length_append];(clear ak aq et ao ey hq u5 u4 u3 u2 u1 s2 s1 ah oz lz ez ag r1 r0 af aa hB U J ae e0 hp hb h5 hA;omega),?_⟩
   have aK:sc false (codes (x++y++t))<=i + 1:=by
    rw [qH,qH]
    have a1:=zu (codes x++codes y) (codes t)
    have a2:=zu (codes x) (codes y)
    have a3:=xP (codes y) false ay
    have a4:=rS (codes t) false (AW t ht)
    rw [if_neg (by decide)] at a3
    omega
   have aL:1<=sc false (codes (x++y++t)):=by
    rw [qH,qH]
    have a1:=tw (codes x++codes y) (codes t)
    have a2:=vI (codes x) (codes y)
    have a3:=Gb ay (by show 1<=(codes y).length;rw [show(codes y).length=y.length from str_len y];exact aI)
    exact Nat.le_trans (Nat.le_trans a3 a2) a1
   exact aE _ _ ⟨x++y++t,_,_,_,rfl,gO.upd sm hq,ak,by rw [PySem.Str.length_append,PySem.Str.length_append];(clear ak aq et ao ey hq u5 u4 u3 u2 u1 s2 s1 ah oz lz ez ag r1 r0 af aa hB hi U J ae e0 hp hb hl h5 hA hm;omega),ow (ow aa ao) aq,aK,fun _=>aL⟩
  ·rintro σ H' ⟨x,v5,v6,v7,rfl,sm,hB,hx,aa,ax,aM⟩
   have ar:sc false (codes x)<=m:=by simpa using ax
   have au:1<=m->1<=sc false (codes x):=by simpa using aM
   have av:x.length<=2 + 10 * m:=by simpa using hx
   refine⟨_,rfl,_,_,rfl,rfl,⟨by decide,by decide⟩,_,_,rfl,rfl,(by show(0:Int) < 3;decide),rfl,_,rfl,?_⟩
   refine kY (fun _=>?_) (fun _=>?_)
   ·refine⟨_,rfl,rfl,x,rfl,rfl,by(clear av aa hB U J ae e0 hp hb h5 hA;omega),kk _ _ sm ?_ (FC aa) (by rw [qQ];exact Nat.le_trans (BQ x) ar) (fun z=>by rw [qQ];exact Cr (au z))⟩
    have:=Bi x
    (clear av aa hB U J ae e0 hp hb hl h5 hA;omega)
   ·exact⟨_,rfl,kk _ _ sm (by(clear av aa hB U J ae e0 hp hb hl h5 hA;omega)) aa (by rw [qQ];exact ar) (fun z=>by rw [qQ];exact au z)⟩
end
end K24
namespace L2
open PySem PySem.Spec PyProof.Rows
section
variable {X : Cx}
theorem qu:kH X "list.index" (fun x xs H Q=>∃(p:Addr) (ns:List Int) (k:Int) (j:Nat),x= .ref p/\xs=[.int k]/\gR X.K H p (ns.map V.int)/\j < 1000000/\ns[j]? =some k/\(∀ m,m < j->ns[m]? ≠some k)/\Q (.int j) H):=by
 intro pins s σ H x xs v us Q I rx rs h
 obtain⟨p,ns,k,j,rfl,rfl,hq,hj,hit,ae,q⟩:=h
 cases rx
 obtain⟨u,rfl,r1⟩:=vals1 rs
 obtain⟨J,r,pl,_⟩:=I.list hq
 obtain⟨⟨cls,dd,data,sl⟩,ho,hc,n,hd⟩:=pl.isList
 simp only at hc hd
 subst hc hd
 have fs:(ns.map V.int).all kD=true:=by simp [kD]
 have hlen:=r.length
 rw [List.length_map] at hlen
 have aa:j < J.length:=by
  rw [<-hlen]
  exact(List.getElem?_eq_some_iff.mp hit).1
 have val:∀(m:Nat) (hm:m < J.length),∃ a,ns[m]? =some a/\jV (.int k) J[m]=(a == k):=fun m hm=>by
  obtain⟨a,ha⟩:∃ a,ns[m]? =some a:=⟨ns[m]'(by omega),List.getElem?_eq_getElem (by omega)⟩
  obtain⟨u',U,e2⟩:=r.get (i:=m) (x:= .int a) (by rw [List.getElem?_map,ha];rfl)
  rw [List.getElem?_eq_getElem hm] at U
  cases U
  exact⟨a,ha,sT (y:= .int a) e2 rfl⟩
 refine call_meets F.slot_list_index ⟨_,ho,rfl⟩ F.entry_list_index (F.args_list_index_2 _ _)
  (SeqAt.list_indexAt p J.toArray n dd sl u (jV (.int k)) j (by simpa using aa) (by omega) ?_ ?_) ⟨ho,fun y hy=>oJ r1 rfl r fs y (by simpa using hy),⟨.int _,H,I.tok _,⟨_,rfl⟩,q⟩⟩
 ·show jV (.int k) J[j]=true
  obtain⟨a,U,e2⟩:=val j aa
  rw [hit] at U
  cases U
  rw [e2]
  exact beq_self_eq_true k
 ·intro m hm af
  have ag:m < J.length:=by simpa using hm
  show jV (.int k) J[m]=false
  obtain⟨a,U,e2⟩:=val m ag
  rw [e2]
  refine beq_eq_false_iff_ne.mpr fun z=>ae m af ?_
  rw [U,z]
end
end L2
namespace K24
open PySem L2 PyProof.Rows PySem.Spec Gn K01 SH
noncomputable def Aj(H:Hp)(m:Addr)(ms:List (Int×Int)):Prop:=∃ ps:List Addr,H m=some (.lst (ps.map V.ref))/\Paired (fun u (n:Int×Int)=>H u=some (.tup [.int n.1,.int n.2])) ps ms
theorem xJ{H:Hp}:∀{ps:List Addr} {ns:List (Nat×Nat)},Paired (fun u (n:Nat×Nat)=>H u=some (.tup [.int n.1,.int n.2])) ps ns->Paired (fun u (n:Int×Int)=>H u=some (.tup [.int n.1,.int n.2])) ps (ns.map zP)
 | _,_,.nil=> .nil
 | _,_,.cons h r=> .cons h (xJ r)
theorem jL.i {H:Hp}{m:Addr}{ns:List (Nat×Nat)}(h:jL H m ns):Aj H m (ns.map zP):=by
 obtain⟨ps,h1,h2⟩:=h
 exact⟨ps,h1,xJ h2⟩
theorem uw{F:Addr->Int×Int->Prop}:∀{ps:List Addr} {ns:List (Int×Int)},Paired F ps ns->∀{i:Nat} {x:V},(ps.map V.ref)[i]? =some x->∃ q n,x= .ref q/\ns[i]? =some n/\F q n
 | _,_,.nil,_,_,h=>by simp at h
 | _,_,.cons h r,0,y,e=>by cases e;exact⟨_,_,rfl,rfl,h⟩
 | _,_,.cons h r,i + 1,y,e=>uw r (i:=i) e
theorem vz{H:Hp}:∀{ps:List Addr} {ms:List (Int×Int)},Paired (fun u (n:Int×Int)=>H u=some (.tup [.int n.1,.int n.2])) ps ms->ji H (ps.map V.ref) (ms.map mI)
 | _,_,.nil=> .nil
 | _,_,.cons h r=> .cons (.tup h (.cons (.int _) (.cons (.int _) .nil))) (vz r)
theorem DJ:∀ ms:List (Int×Int),(PyData.list (ms.map mI)).canLay0=true:=by
 intro ms
 induction ms with
 | nil=>rfl
 | cons n ns J=>exact J
theorem Ck(ms:List (Int×Int)):PyData.eqv (.list (ms.map mI)) (.list [])=ms.isEmpty:=by cases ms<;>rfl
theorem sj(l:List Nat)(y:Nat):((l++[y]).map (fun n:Nat=>(n:Int))).map V.int=((l.map fun n:Nat=>(n:Int)).map V.int)++[V.int y]:=by simp
noncomputable abbrev nI(l:List Nat):List V:=(l.map fun n:Nat=>(n:Int)).map V.int
theorem oX(x:Int):∀ l:List Nat,kZ (.int x) (nI l)=(ix l x).isSome
 | []=>rfl
 | y::l=>by
  show(((y:Int) == x) || kZ (.int x) (nI l))=_
  unfold ix
  by_cases h:(y:Int)=x
  ·rw [if_pos h,h,beq_self_eq_true];rfl
  ·rw [if_neg h,beq_eq_false_iff_ne.mpr h,Bool.false_or,oX x l]
   cases ix l x<;>rfl
theorem oE(l:List Nat):(nI l).all kD=true:=by unfold nI;simp [kD]
theorem kT:∀{l:List Nat} {x:Int} {i:Nat},ix l x=some i->(l.map fun n:Nat=>(n:Int))[i]? =some x/\∀ m,m < i->(l.map fun n:Nat=>(n:Int))[m]? ≠some x
 | y::l,x,i,h=>by
  unfold ix at h
  by_cases q:(y:Int)=x
  ·rw [if_pos q] at h
   cases h
   exact⟨by rw [<-q];rfl,fun m hm=>absurd hm (Nat.not_lt_zero m)⟩
  ·rw [if_neg q] at h
   cases e:ix l x with
   | none=>rw [e] at h;cases h
   | some j=>
    rw [e] at h
    cases h
    obtain⟨a,b⟩:=kT e
    refine⟨a,fun m hm=>?_⟩
    cases m with
    | zero=>intro z;exact q (Option.some.inj z)
    | succ m=>exact b m (by have J:m + 1 < j + 1:=hm;omega)
theorem qO{l:List Nat}{x:Int}{i:Nat}(h:ix l x=some i):i < l.length:=by
 have:=(kT h).1
 rw [List.getElem?_map] at this
 cases q:l[i]? with
 | none=>rw [q] at this;cases this
 | some y=>exact(List.getElem?_eq_some_iff.mp q).1
section
variable {P : Program} {w : World} {K : PySem.W.Frag} {mg : Str -> Option Value} {base : Heap} {CT CS CL dS dM : Addr}
noncomputable def tN:Sp:=fun vs H Q _=>∃(a m:Addr) (b e:Int) (ws:List Wd) (ms:List (Int×Int)),vs=[.ref a,.int b,.int e,.ref m]/\WL H a ws/\Sr ws/\ws.length<=3000/\Aj H m ms/\∀ H',gO H H'->Q (.bl (iQ ws b e ms)) H'
theorem nh:iU ["_law_words_here","_law_begin","_law_end","_law_marks","_law_begins","_law_ends","_law_free","_law_one","_law_other"] ["_law_words_here","_law_begin","_law_end","_law_marks"] (iu mw):=⟨rfl,rfl,rfl,dkq,rfl,dkq,dkq⟩
theorem As:(["_law_word"]:List Str).Nodup:=dkq
noncomputable abbrev yL:List Str:=["_law_words_here","_law_begin","_law_end","_law_marks","_law_begins","_law_ends","_law_free","_law_one","_law_other"]
seal iD PS PE PT PA PG PI iX iW in
theorem zq{f:Addr}{fd:FuncData}(D:Df K mg "_law_is_piece" mw f fd):hZ P w K mg base iw 1 f fd ["_law_words_here","_law_begin","_law_end","_law_marks"] tN:=by
 refine D.F.ok nh (fun vs H Q E h=>?_) (fun cdv A outer s H vs Q E hr h=>?_)
 ·obtain⟨a,m,b,e,ws,ms,rfl,_⟩:=h
  rfl
 ·obtain⟨a,m,b,e,ws,ms,rfl,hW,au,hl,hM,k⟩:=h
  have hz:(sizeLine:Nat)=16777216:=sizeLine_eq
  refine⟨_,gS (mE (i:=4) nh.nd rfl (Or.inl rfl) (own:=1) (caps:=[]) (N:=["_law_word"]) (N0:=yL) (sc0:=iu mw) rfl (kJ (pv 0)) (fun _ _ _=>iS (i:=0) As rfl (Or.inl rfl)) (fun _ _ _=>k8)
    (fun _ _ _=>g9 (lO (K:=K) rfl) (pv 0) gQ (fun _ _=>rfl)) (jK (by decide)) rfl rfl dkq rfl dkq dkq rfl dkq (fun _ _ _ h=>h))
   (gS (mE (i:=5) nh.nd rfl (Or.inl rfl) (own:=1) (caps:=[]) (N:=["_law_word"]) (N0:=yL) (sc0:=iu mw) rfl (kJ (pv 0)) (fun _ _ _=>iS (i:=0) As rfl (Or.inl rfl)) (fun _ _ _=>k8)
    (fun _ _ _=>g9 (lO (K:=K) rfl) (pv 0) gQ (fun _ _=>rfl)) (jK (by decide)) rfl rfl dkq rfl dkq dkq rfl dkq (fun _ _ _ h=>h))
   (gS (iN (PW.pt (jj (iq pQ (pv 1) (pv 4) rfl) (jj (iq pQ (pv 2) (pv 5) rfl) (jj (iq yX (pv 1) (pv 2) (iy _)) (jH (iq (oS hr.units100) (pv 3) (iK gP) (iy _))))))) (g0 (iC jW)) iL)
   (gS (hU (i:=6) nh.nd rfl (Or.inl rfl) (jr F.plainAttrs_list F.slot_list_index F.type_list_index qu (pv 4) (gN (pv 1) gP)))
   (gS (kR PassesOwn.never rfl (kJ (pv 3)) (kS (n:=2) rfl (jx (iS (i:=7) nh.nd rfl (Or.inl rfl)) (jx (iS (i:=8) nh.nd rfl (Or.inl rfl)) k7)))
    (gS (iN (PW.pt (jj (iq pQ (pv 7) (pv 4) rfl) (jj (iq pQ (pv 8) (pv 5) rfl) (jH (iq yX (pv 7) (pv 8) (iy _)))))) (g0 (iC jW)) iL)
    (gS (iN (PW.pt (jj (iq lW (jr F.plainAttrs_list F.slot_list_index F.type_list_index qu (pv 4) (gN (pv 7) gP)) (pv 6) (iy _))
     (jH (iq ng (jr F.plainAttrs_list F.slot_list_index F.type_list_index qu (pv 5) (gN (pv 8) gP)) (jr F.plainAttrs_list F.slot_list_index F.type_list_index qu (pv 5) (gN (pv 2) gP)) (iy _))))) (g0 (iC jW)) iL)
    (g0 (hU (i:=6) nh.nd rfl (Or.inl rfl) (gX jb (jr F.plainAttrs_list F.slot_list_index F.type_list_index qu (pv 5) (gN (pv 8) gP)) gQ))))))
   (g0 (iC jW)))))),?_⟩
  obtain⟨ps,eA,pA⟩:=hW.ex
  have aa:(ps.map V.ref).length=ws.length:=by rw [List.length_map];exact Gn.Paired.len pA
  obtain⟨qs,eM,pM⟩:=hM
  have av:(qs.map V.ref).length=ms.length:=by rw [List.length_map];exact Gn.Paired.len pM
  refine⟨_,rfl,a,rfl,⟨_,gR.of eA⟩,mT (xs:=ps.map V.ref) (fun i ys H'=>H'=H/\ys=nI ((wB ws).take i)) (by rw [aa];omega) (fun i ys H' q=>by rw [q.1];exact gR.of eA) ⟨rfl,rfl⟩ ?_ ?_⟩
  ·rintro i v ys H' N hv ⟨rfl,rfl⟩ hN
   obtain⟨q,wd,rfl,ao,hq⟩:=pO pA hv
   refine g1 ?_
   refine⟨_,rfl,q,_,_,_,rfl,rfl,ia.of hq,ik (j:=1) rfl,hN _ _ ⟨rfl,?_⟩⟩
   rw [List.take_add_one,(ph ao).1]
   exact(sj _ _).symm
  rintro ys H' ⟨rfl,rfl⟩ _ l1 aA
  rw [aa,List.take_of_length_le (by simp [wB])]
  have s1:gO H' (upd H' l1 (.lst (nI (wB ws)))):=hJ aA
  have e1:upd H' l1 (.lst (nI (wB ws))) l1=some (.lst (nI (wB ws))):=gY
  generalize upd H' l1 (.lst (nI (wB ws)))=H1 at s1 e1 ⊢
  refine⟨_,rfl,a,rfl,⟨_,gR.of (s1 _ _ eA)⟩,mT (xs:=ps.map V.ref) (fun i ys H2=>H2=H1/\ys=nI ((wE ws).take i)) (by rw [aa];omega) (fun i ys H2 q=>by rw [q.1];exact gR.of (s1 _ _ eA)) ⟨rfl,rfl⟩ ?_ ?_⟩
  ·rintro i v ys H2 N hv ⟨rfl,rfl⟩ hN
   obtain⟨q,wd,rfl,ao,hq⟩:=pO pA hv
   refine g1 ?_
   refine⟨_,rfl,q,_,_,_,rfl,rfl,ia.of (s1 _ _ hq),ik (j:=2) rfl,hN _ _ ⟨rfl,?_⟩⟩
   rw [List.take_add_one,(ph ao).2]
   exact(sj _ _).symm
  rintro ys H2 ⟨rfl,rfl⟩ _ l2 aB
  rw [aa,List.take_of_length_le (by simp [wE])]
  have s2:gO H2 (upd H2 l2 (.lst (nI (wE ws)))):=hJ aB
  have e2:upd H2 l2 (.lst (nI (wE ws))) l2=some (.lst (nI (wE ws))):=gY
  generalize upd H2 l2 (.lst (nI (wE ws)))=H3 at s2 e2 ⊢
  have aw:=s2 _ _ e1
  have ah:=s1.trans s2
  have aE:(wB ws).length=ws.length:=by simp [wB]
  have aF:(wE ws).length=ws.length:=by simp [wE]
  refine⟨_,rfl,_,rfl,l1,_,rfl,.inl (gR.of aw),rfl,oE _,_,rfl,?_⟩
  rw [oX]
  have kF:∀ z,iQ ws b e ms=z->∀ H4,gO H3 H4->Q (.bl z) H4:=fun z hz H4 s4=>by rw [<-hz];exact k H4 (ah.trans s4)
  cases hi:ix (wB ws) b with
  | none=>exact gU (gU (kF false (by unfold iQ;rw [uL hi]) _ (gO.refl _)))
  | some i=>
   refine g8 ⟨_,rfl,_,rfl,l2,_,rfl,.inl (gR.of e2),rfl,oE _,_,rfl,?_⟩
   rw [oX]
   cases hj:ix (wE ws) e with
   | none=>exact gU (gU (kF false (by unfold iQ;rw [uZ hj]) _ (gO.refl _)))
   | some j=>
    refine g8 ⟨_,rfl,_,rfl,_,_,rfl,rfl,_,rfl,?_⟩
    have ak:=yu au hi hj
    by_cases ax:b < e
    ·rw [if_pos ax] at ak
     rw [decide_eq_false (show ¬ e<=b by omega)]
     refine g8 ⟨_,rfl,Nat.zero_le _,fun p hp=>?_⟩
     have s4:gO H3 (upd H3 p (.lst [])):=hJ hp
     have aC:=(ji.same (ah.trans s4) (vz pM)).dt (K:=K)
     refine⟨.list (ms.map mI),.list [],.lst (gR.of ((ah.trans s4) _ _ eM)) aC,.lst (gR.of gY) .nil,DJ ms,rfl,Nat.le_trans (Nat.min_le_right _ _) (by decide),_,rfl,?_⟩
     rw [Ck]
     generalize upd H3 p (.lst [])=H4 at s4 ⊢
     have aq:=ah.trans s4
     have pc:iQ ws b e ms=(!ms.isEmpty && jk ws j i ms):=by unfold iQ;rw [ak]
     cases hme:ms.isEmpty with
     | true=>exact gU (kF false (by rw [pc,hme];rfl) _ s4)
     | false=>
      rw [hme] at pc
      have af:iQ ws b e ms=jk ws j i ms:=pc
      refine g8 ?_
      have U:=s4 _ _ aw
      have J:=s4 _ _ e2
      have il:=qO hi
      have jl:=qO hj
      refine⟨_,rfl,.inl ⟨rfl,_,gR.of U⟩,_,rfl,l1,_,b,i,rfl,rfl,gR.of U,by omega,(kT hi).1,(kT hi).2,?_⟩
      refine⟨_,rfl,m,rfl,⟨_,gR.of (aq _ _ eM)⟩,?_⟩
      refine qe (xs:=qs.map V.ref) (fun n σ H5=>∃(l:Nat) (o7 o8:Option V),σ=[some (.ref a),some (.int b),some (.int e),some (.ref m),some (.ref l1),some (.ref l2),some (.int l),o7,o8]/\H5=H4/\jk ws j i ms=jk ws j l (ms.drop n)) ?_ ?_ ?_ ?_
      ·exact⟨i,none,none,rfl,rfl,rfl⟩
      ·rintro n σ H5 _ ⟨_,_,_,_,rfl,_⟩
       exact gR.of (aq _ _ eM)
      ·rintro n v σ H5 hv ⟨l,o7,o8,rfl,rfl,hk⟩
       obtain⟨u,mm,rfl,aD,hu⟩:=uw pM hv
       rw [ui aD] at hk
       have ag:jk ws j i ms=match spn ws mm.1 mm.2 with | none=>false | some q=>decide (l<=q.1) && decide (q.2<=j) && jk ws j (q.2 + 2) (ms.drop (n + 1)):=hk
       refine⟨u,_,rfl,ia.of (aq _ _ hu),rfl,_,_,rfl,_,_,rfl,rfl,?_⟩
       refine⟨_,rfl,_,rfl,l1,_,rfl,.inl (gR.of U),rfl,oE _,_,rfl,?_⟩
       rw [oX]
       cases hi':ix (wB ws) mm.1 with
       | none=>exact gU (gU (kF false (by rw [af,ag,uL hi']) _ s4))
       | some i'=>
        refine g8 ⟨_,rfl,_,rfl,l2,_,rfl,.inl (gR.of J),rfl,oE _,_,rfl,?_⟩
        rw [oX]
        cases hj':ix (wE ws) mm.2 with
        | none=>exact gU (gU (kF false (by rw [af,ag,uZ hj']) _ s4))
        | some j'=>
         have ae:=yu au hi' hj'
         have aG:=qO hi'
         have aH:=qO hj'
         refine g8 ⟨_,rfl,_,rfl,_,_,rfl,rfl,_,rfl,?_⟩
         by_cases ay:mm.1 < mm.2
         ·rw [if_pos ay] at ae
          rw [ae] at ag
          have ar:jk ws j i ms=(decide (l<=i') && decide (j'<=j) && jk ws j (j' + 2) (ms.drop (n + 1))):=ag
          rw [decide_eq_false (show ¬ mm.2<=mm.1 by omega)]
          refine g8 ⟨_,rfl,.inl ⟨rfl,_,gR.of U⟩,_,rfl,l1,_,mm.1,i',rfl,rfl,gR.of U,by omega,(kT hi').1,(kT hi').2,_,rfl,_,_,rfl,rfl,_,rfl,?_⟩
          by_cases c1:i' < l
          ·rw [decide_eq_true (show(i':Int) < (l:Int) by omega)]
           exact gU (gU (kF false (by rw [af,ar,decide_eq_false (show ¬ l<=i' by omega)];rfl) _ s4))
          ·rw [decide_eq_false (show ¬ (i':Int) < (l:Int) by omega)]
           refine g8 ⟨_,rfl,.inl ⟨rfl,_,gR.of J⟩,_,rfl,l2,_,mm.2,j',rfl,rfl,gR.of J,by omega,(kT hj').1,(kT hj').2,_,rfl,.inl ⟨rfl,_,gR.of J⟩,_,rfl,l2,_,e,j,rfl,rfl,gR.of J,by omega,(kT hj).1,(kT hj).2,_,_,rfl,rfl,_,rfl,?_⟩
           by_cases c2:j < j'
           ·rw [decide_eq_true (show(j:Int) < (j':Int) by omega)]
            exact gU (kF false (by rw [af,ar,decide_eq_false (show ¬ j'<=j by omega),Bool.and_false];rfl) _ s4)
           ·rw [decide_eq_false (show ¬ (j:Int) < (j':Int) by omega)]
            refine g8 ⟨_,rfl,.inl ⟨rfl,_,gR.of J⟩,_,rfl,l2,_,mm.2,j',rfl,rfl,gR.of J,by omega,(kT hj').1,(kT hj').2,_,_,rfl,rfl,j' + 2,_,_,rfl,rfl,?_⟩
            rw [ar,decide_eq_true (show l<=i' by omega),decide_eq_true (show j'<=j by omega)]
            rfl
         ·rw [if_neg ay] at ae
          rw [decide_eq_true (show mm.2<=mm.1 by omega)]
          exact gU (kF false (by rw [af,ag,ae]) _ s4)
      ·rintro σ H5 ⟨l,o7,o8,rfl,rfl,hk⟩
       rw [av,List.drop_of_length_le (Nat.le_refl _)] at hk
       exact kF true (by rw [af,hk];rfl) _ s4
    ·rw [if_neg ax] at ak
     rw [decide_eq_true (show e<=b by omega)]
     exact gU (gU (kF false (by unfold iQ;rw [ak]) _ (gO.refl _)))
end
theorem zO(a:Nat)(l:List Nat):kZ (.int (a:Int)) (nI l)=decide (a∈l):=by
 rw [oX]
 by_cases h:a∈l
 ·rw [decide_eq_true h]
  exact uW.mpr ⟨a,h,rfl⟩
 ·rw [decide_eq_false h]
  cases q:ix l (a:Int) with
  | none=>rfl
  | some i=>
   obtain⟨y,J,e⟩:=lE q
   have:y=a:=by omega
   rw [this] at J
   exact absurd (List.mem_of_getElem? J) h
theorem xT{ws:List Wd}(hs:Sr ws){b e:Int}{i j:Nat}(h:spn ws b e=some (i,j)){x0:Wd}(h0:ws[0]? =some x0):decide ((x0.2.1:Int) < b)=decide (0 < i):=by
 obtain⟨x,y,J,U,eb,ee,_⟩:=nM h
 by_cases q:0 < i
 ·have:=hs.lt h0 J q
  have:=hs.own h0
  rw [decide_eq_true q,decide_eq_true (by omega)]
 ·have:i=0:=by omega
  subst this
  rw [h0] at J
  cases J
  rw [decide_eq_false q,decide_eq_false (by omega)]
theorem yz{ws ini:List Wd}(hs:Sr ws){b e:Int}{i j:Nat}(h:spn ws b e=some (i,j)){y0:Wd}(h0:ws=ini++[y0]):decide (e < (y0.2.2:Int))=decide (j + 1 < ws.length):=by
 obtain⟨x,y,hx,U,eb,ee,_⟩:=nM h
 have l0:ws[ini.length]? =some y0:=by rw [h0];simp
 have wl:ws.length=ini.length + 1:=by rw [h0];simp
 have jl:j < ws.length:=(List.getElem?_eq_some_iff.mp U).1
 by_cases q:j + 1 < ws.length
 ·have:=hs.lt U l0 (by show j < ini.length;omega)
  have:=hs.own l0
  rw [decide_eq_true q,decide_eq_true (by omega)]
 ·have:j=ini.length:=by omega
  subst this
  have J:ws[ini.length]? =some y:=U
  rw [l0] at J
  cases J
  rw [decide_eq_false q,decide_eq_false (by omega)]
theorem w9(T o1 o2:List Nat)(b:Nat):∀ n,(i9 T o1 o2 b n).length<=4 * n
 | 0=>Nat.le_refl _
 | n + 1=>by
  have J:=w9 T o1 o2 b n
  have U:=uK (T.getD (b + n) 0)
  show(i9 T o1 o2 b n++lf T o1 o2 (b + n)).length<=_
  unfold lf
  rw [List.length_append,List.length_append,List.length_append]
  have f1:(if b + n∈o1 then [91] else ([]:List Nat)).length<=1:=by split<;>simp
  have f2:(if b + n + 1∈o2 then [93] else ([]:List Nat)).length<=1:=by split<;>simp
  omega
section
variable {P : Program} {w : World} {K : PySem.W.Frag} {mg : Str -> Option Value} {base : Heap} {CT CS CL dS dM : Addr}
noncomputable def tm:Sp:=fun vs H Q _=>∃(T:List Nat) (p m:Addr) (b e:Nat) (ns:List (Nat×Nat)),vs=[.str ⟨T.toArray⟩,.ref p]/\T.all iG=true/\T.length<=2000/\H p=some (.tup [.int b,.int e,.ref m])/\jL H m ns/\iQ (words T) b e (ns.map zP)=true/\
 ∀ H',gO H H'->Q (.str ⟨(iV T b e ns).toArray⟩) H'
theorem mr:iU ["_law_text_here","_law_piece_here","_law_words_here","_law_told","_law_line_here","_law_at"] ["_law_text_here","_law_piece_here"] (iu lZ):=⟨rfl,rfl,rfl,dkq,rfl,dkq,dkq⟩
noncomputable abbrev vG:List Str:=["_law_text_here","_law_piece_here","_law_words_here","_law_told","_law_line_here","_law_at"]
theorem qV:(["_law_one","_law_other"]:List Str).Nodup:=dkq
seal iD PS PE PT PA PG PI iX iW in
theorem xS{f fw:Addr}{fd fdw:FuncData}(D:Df K mg "_law_line" lZ f fd)(DW:Df K mg "_law_words" mO fw fdw)(GW:hZ P w K mg base iw 2 fw fdw ["_law_text_here"] qj)(T:Txt mg):hZ P w K mg base iw 3 f fd ["_law_text_here","_law_piece_here"] tm:=by
 have bW:=jM (p:="_law_text_here") DW.F fun _ _ _ _ _ _ _=>rfl
 refine D.F.ok mr (fun vs H Q E h=>?_) (fun cdv A outer s H vs Q E hr h=>?_)
 ·obtain⟨T,p,m,b,e,ns,rfl,_⟩:=h
  rfl
 ·obtain⟨L,p,m,b,e,ns,rfl,hok,hl,hp,hM,aD,k⟩:=h
  have hz:(sizeLine:Nat)=16777216:=sizeLine_eq
  have hu:(A.deeper (envOfC "_law_line" (iu lZ) s.heap.objs.size f cdv)).units + 1 < cLine:=by have:=hr.un;omega
  refine⟨_,gS (hU (i:=2) mr.nd rfl (Or.inl rfl) (iE GW hr rfl DW.m DW.F.kp bW .nil iM (gN (pv 0) gP)))
   (gS (hU (i:=3) mr.nd rfl (Or.inl rfl) (Cb (rf gZ gZ (rf gZ gZ (rf gZ gZ (rf gZ gZ HF)))) rfl rfl (by intro z;cases z) (by decide)))
   (gS (hU (i:=4) mr.nd rfl (Or.inl rfl) (g9 jn (iK (gN gZ (gN gZ gP))) (lq oP rfl T.int mz (gN (k9 lW (g9 iO (g9 jn (pv 2) gQ (fun _ _=>rfl)) gQ (fun _ _=>rfl)) (g9 iO (pv 1) gQ (fun _ _=>rfl)) (iy _)) gP)) (fun _ _=>rfl)))
   (gS (kR PassesOwn.never rfl (CN rfl T.range (gN (g9 iO (pv 1) gQ (fun _ _=>rfl)) (gN (g9 iO (pv 1) gQ (fun _ _=>rfl)) gP))) (iS (i:=5) mr.nd rfl (Or.inl rfl))
    (gS (oH (iq vi (pv 5) (nr (own:=2) (caps:=[]) (N:=["_law_one","_law_other"]) (N0:=vG) (sc0:=iu lZ) rfl (kJ (g9 iO (pv 1) gQ (fun _ _=>rfl))) (fun _ _ _=>kS (n:=2) rfl (jx (iS (i:=0) qV rfl (Or.inl rfl)) (jx (iS (i:=1) qV rfl (Or.inl rfl)) k7))) (fun _ _ _=>k8)
      (fun _ _ _=>pv 0) (nc (ky (jK (by decide)) (ky (jK (by decide)) mY))) rfl rfl dkq rfl dkq dkq rfl dkq) rfl)
     (g0 (hU (i:=4) mr.nd rfl (Or.inl rfl) (gX jF (pv 4) gZ))) iL)
    (gS (hU (i:=4) mr.nd rfl (Or.inl rfl) (gX jF (pv 4) (BA hu (pv 3) (g9 me (pv 0) (pv 5) (fun _ _=>rfl)) (g9 me (pv 0) (pv 5) (fun _ _=>rfl)) ⟨rfl,rfl,rfl,rfl⟩)))
    (g0 (oH (iq vi (gX jb (pv 5) gQ) (nr (own:=2) (caps:=[]) (N:=["_law_one","_law_other"]) (N0:=vG) (sc0:=iu lZ) rfl (kJ (g9 iO (pv 1) gQ (fun _ _=>rfl))) (fun _ _ _=>kS (n:=2) rfl (jx (iS (i:=0) qV rfl (Or.inl rfl)) (jx (iS (i:=1) qV rfl (Or.inl rfl)) k7))) (fun _ _ _=>k8)
      (fun _ _ _=>pv 1) (nc (ky (jK (by decide)) (ky (jK (by decide)) mY))) rfl rfl dkq rfl dkq dkq rfl dkq) rfl)
     (g0 (hU (i:=4) mr.nd rfl (Or.inl rfl) (gX jF (pv 4) gZ))) iL)))))
   (g0 (iC (gX jF (pv 4) (g9 jn (iK (gN gZ (gN gZ gP))) (lq oP rfl T.int mz (gN (k9 ng (g9 iO (g9 jn (pv 2) (pw pJ gQ) (fun _ _=>rfl)) gQ (fun _ _=>rfl)) (g9 iO (pv 1) gQ (fun _ _=>rfl)) (iy _)) gP)) (fun _ _=>rfl)))))))),?_⟩
  obtain⟨i,j,b',e',aE,q1,q2,q3,aO,ag,hle,ah,aP,_⟩:=rX hok hl aD
  have ib:b=b':=by omega
  have ie:e=e':=by omega
  have ins:ns=aE:=sd q3
  subst ib ie ins
  have ax:=lX L
  obtain⟨x,y,hx,hy,_⟩:=nM ah
  have ay:words L≠[]:=fun z=>by rw [z] at hx;simp at hx
  obtain⟨ae,y0,aq⟩:=uh ay
  obtain⟨x0,aA⟩:∃ x0,(words L)[0]? =some x0:=⟨(words L)[0]'(List.length_pos_iff.mpr ay),List.getElem?_eq_getElem _⟩
  have df:=xT ax ah aA
  have dl:=yz ax ah aq
  have aQ:=ag.le
  refine⟨_,rfl,⟨L.toArray⟩,rfl,⟨by rw [iB];exact hl,by rw [jY];exact hok⟩,fun a H1 s1 ha hW=>?_⟩
  rw [jY] at hW
  obtain⟨ps,eA,pA⟩:=hW.ex
  refine fun d hd=>⟨gY,[(.inr "[",.str "\\["),(.inr "]",.str "\\]"),(.inr "\\",.str "\\\\"),(.inr "\n",.str "\\n")],rfl,by decide,?_⟩
  have em:nX [] [((.inr "[":Key),V.str "\\["),(.inr "]",.str "\\]"),(.inr "\\",.str "\\\\"),(.inr "\n",.str "\\n")]=kK:=by rfl
  rw [em]
  have s2:gO H1 (upd (upd H1 d (.dK [])) d (.dK kK)):=fun z u ez=>by rw [ig (jo ez hd),ig (jo ez hd)];exact ez
  have ed:upd (upd H1 d (.dK [])) d (.dK kK) d=some (.dK kK):=gY
  generalize upd (upd H1 d (.dK [])) d (.dK kK)=H2 at s2 ed ⊢
  have aF:=s1.trans s2
  obtain⟨p0,aG,aH⟩:=Gn.Paired.at pA aA
  obtain⟨py,aI,aJ⟩:=Gn.Paired.at pA (show(words L)[ae.length]? =some y0 by rw [aq];simp)
  refine⟨lQ,fun q hq=>?_⟩
  have s3:gO H2 (upd H2 q (.lst [.str (Str.ofString ""),.str (Str.ofString "... ")])):=hJ hq
  have aa:=aF.trans s3
  refine⟨_,rfl,a,_,_,_,rfl,rfl,gR.of (s3 _ _ (s2 _ _ eA)),ik (j:=0) (v:= .ref p0) (by rw [List.getElem?_map,aG];rfl),p0,_,_,_,rfl,rfl,ia.of (s3 _ _ (s2 _ _ aH)),ik (j:=1) rfl,_,rfl,p,_,_,_,rfl,rfl,ia.of (aa _ _ hp),ik (j:=0) rfl,_,_,rfl,rfl,
   .inr ⟨_,rfl,q,_,_,.str ⟨(dot (decide (0 < i)) dA).toArray⟩,rfl,rfl,gR.of gY,?_,?_⟩⟩
  ·rw [df]
   cases decide (0 < i)<;>rfl
  have ar:=s3 _ _ ed
  have aB:=s3 _ _ (s2 _ _ eA)
  have ao:=s3 _ _ (s2 _ _ aJ)
  generalize upd H2 q (.lst [.str (Str.ofString ""),.str (Str.ofString "... ")])=H3 at s3 aa ar aB ao ⊢
  refine⟨_,rfl,p,_,_,_,rfl,rfl,ia.of (aa _ _ hp),ik (j:=0) rfl,_,rfl,p,_,_,_,rfl,rfl,ia.of (aa _ _ hp),ik (j:=1) rfl,_,_,rfl,⟨by omega,by omega,by omega,by omega⟩,?_⟩
  obtain⟨qs,eM,pM⟩:=hM
  have U:(qs.map V.ref).length=ns.length:=by rw [List.length_map];exact Gn.Paired.len pM
  have aN:ns.length<=2000:=by
   have:∀{ms:List (Nat×Nat)} {u v:Nat},Ch u v ms->ms.length<=v - u:=by
    intro ms
    induction ms with
    | nil=>intro u v _;exact Nat.zero_le _
    | cons m r ih=>intro u v h;obtain⟨h1,h2,h3⟩:=h;have:=ih h3;have:=h3.le;rw [List.length_cons];omega
   have:=this ag
   omega
  have d1:(dot (decide (0 < i)) dA).length<=4:=by cases decide (0 < i)<;>decide
  refine oQ (fun n σ H4=>∃ o5:Option V,σ=[some (.str ⟨L.toArray⟩),some (.ref p),some (.ref a),some (.ref d),some (.str ⟨(dot (decide (0 < i)) dA++i9 L (ns.map Prod.fst) (ns.map Prod.snd) b n).toArray⟩),o5]/\gO H3 H4) ?_ ?_ ?_
  ·exact⟨none,by rw [show i9 L (ns.map Prod.fst) (ns.map Prod.snd) b 0=[] from rfl,List.append_nil];rfl,gO.refl _⟩
  ·rintro n σ H4 hn ⟨o5,rfl,s4⟩
   have aK:b + n < L.length:=by
    have:n < e - b:=by omega
    omega
   have ll:=w9 L (ns.map Prod.fst) (ns.map Prod.snd) b n
   have J:=aa.trans s4
   have ec:((b:Nat):Int) + (n:Int)=((b + n:Nat):Int):=by omega
   refine⟨fun af H5=>af=[some (.str ⟨L.toArray⟩),some (.ref p),some (.ref a),some (.ref d),some (.str ⟨(dot (decide (0 < i)) dA++i9 L (ns.map Prod.fst) (ns.map Prod.snd) b n++(if b + n∈ns.map Prod.fst then [91] else [])).toArray⟩),some (.int (((b:Nat):Int) + (n:Int)))]/\gO H4 H5,?_,?_⟩
   ·refine⟨_,rfl,_,rfl,p,_,_,_,rfl,rfl,ia.of (J _ _ hp),ik (j:=2) rfl,m,rfl,⟨_,gR.of (J _ _ eM)⟩,mT (xs:=qs.map V.ref) (fun t ys H5=>H5=H4/\ys=nI ((ns.map Prod.fst).take t)) (by rw [U];omega) (fun t ys H5 q=>by rw [q.1];exact gR.of (J _ _ eM)) ⟨rfl,rfl⟩ ?_ ?_⟩
    ·rintro t v ys H5 N hv ⟨rfl,rfl⟩ hN
     obtain⟨u,nn,rfl,au,av⟩:=mH (H:=H) pM hv
     refine⟨u,_,rfl,ia.of (J _ _ av),rfl,_,_,rfl,_,_,rfl,rfl,?_⟩
     refine⟨_,rfl,hN _ _ ⟨rfl,?_⟩⟩
     rw [List.take_add_one,List.getElem?_map,au]
     exact(sj _ _).symm
    ·rintro ys H5 ⟨rfl,rfl⟩ _ l aw
     rw [U,List.take_of_length_le (by simp)]
     have s5:gO H5 (upd H5 l (.lst (nI (ns.map Prod.fst)))):=hJ aw
     refine⟨l,_,rfl,.inl (gR.of gY),rfl,oE _,_,rfl,?_⟩
     have iv:kZ (.int (((b:Nat):Int) + (n:Int))) (nI (ns.map Prod.fst))=decide (b + n∈ns.map Prod.fst):=by rw [ec];exact zO _ _
     show(if kZ (.int (((b:Nat):Int) + (n:Int))) (nI (ns.map Prod.fst))=true then _ else _)
     rw [iv]
     by_cases hc:b + n∈ns.map Prod.fst
     ·rw [decide_eq_true hc]
      refine gU ⟨_,rfl,_,_,rfl,rfl,kI (b:=[91]) (by rw [List.length_append];simp;omega),?_,s5⟩
      rw [if_pos hc]
      show [_,_,_,_,some (V.str ((⟨(dot (decide (0 < i)) dA++i9 L (ns.map Prod.fst) (ns.map Prod.snd) b n).toArray⟩:Str)++Str.ofString "[")),_]=_
      rw [show(⟨(dot (decide (0 < i)) dA++i9 L (ns.map Prod.fst) (ns.map Prod.snd) b n).toArray⟩:Str)++Str.ofString "["=⟨(dot (decide (0 < i)) dA++i9 L (ns.map Prod.fst) (ns.map Prod.snd) b n++[91]).toArray⟩ from jw _ [91]]
     ·rw [decide_eq_false hc]
      refine g8 ⟨?_,s5⟩
      rw [if_neg hc,List.append_nil]
      rfl
   ·rintro af H5 ⟨rfl,s5⟩
    have ak:=J.trans s5
    have hg:L[b + n]? =some (L[b + n]):=List.getElem?_eq_getElem aK
    have gd:L.getD (b + n) 0=L[b + n]:=by rw [List.getD_eq_getElem?_getD,hg];rfl
    have aC:j3 (⟨L.toArray⟩:Str).cps.toList (((b:Nat):Int) + (n:Int))=some L[b + n]:=by rw [ec];exact ik (by simpa using hg)
    have f1:(if b + n∈ns.map Prod.fst then [91] else ([]:List Nat)).length<=1:=by split<;>simp
    have e2:=uK L[b + n]
    refine⟨_,rfl,_,rfl,d,rfl,.inl ⟨kK,.of (s5 _ _ (s4 _ _ ar))⟩,_,rfl,_,rfl,_,_,L[b + n],rfl,rfl,by rw [iB];omega,aC,_,rfl,_,rfl,_,_,L[b + n],rfl,rfl,by rw [iB];omega,aC,_,.inl ⟨kK,.inr ⟨#[L[b + n]]⟩,.of (s5 _ _ (s4 _ _ ar)),rfl,rfl⟩,?_⟩
    rw [z6]
    refine⟨_,_,rfl,rfl,kI (by rw [List.length_append,List.length_append];omega),?_⟩
    rw [jw]
    refine⟨fun af H6=>af=[some (.str ⟨L.toArray⟩),some (.ref p),some (.ref a),some (.ref d),some (.str ⟨(dot (decide (0 < i)) dA++i9 L (ns.map Prod.fst) (ns.map Prod.snd) b n++(if b + n∈ns.map Prod.fst then [91] else [])++jf L[b + n]++(if b + n + 1∈ns.map Prod.snd then [93] else [])).toArray⟩),some (.int (((b:Nat):Int) + (n:Int)))]/\gO H5 H6,?_,?_⟩
    ·refine⟨_,rfl,_,_,rfl,rfl,_,rfl,p,_,_,_,rfl,rfl,ia.of (ak _ _ hp),ik (j:=2) rfl,m,rfl,⟨_,gR.of (ak _ _ eM)⟩,mT (xs:=qs.map V.ref) (fun t ys H6=>H6=H5/\ys=nI ((ns.map Prod.snd).take t)) (by rw [U];omega) (fun t ys H6 q=>by rw [q.1];exact gR.of (ak _ _ eM)) ⟨rfl,rfl⟩ ?_ ?_⟩
     ·rintro t v ys H6 N hv ⟨rfl,rfl⟩ hN
      obtain⟨u,nn,rfl,au,av⟩:=mH (H:=H) pM hv
      refine⟨u,_,rfl,ia.of (ak _ _ av),rfl,_,_,rfl,_,_,rfl,rfl,?_⟩
      refine⟨_,rfl,hN _ _ ⟨rfl,?_⟩⟩
      rw [List.take_add_one,List.getElem?_map,au]
      exact(sj _ _).symm
     ·rintro ys H6 ⟨rfl,rfl⟩ _ l aw
      rw [U,List.take_of_length_le (by simp)]
      have s6:gO H6 (upd H6 l (.lst (nI (ns.map Prod.snd)))):=hJ aw
      refine⟨l,_,rfl,.inl (gR.of gY),rfl,oE _,_,rfl,?_⟩
      have iv:kZ (.int (((b:Nat):Int) + (n:Int) + 1)) (nI (ns.map Prod.snd))=decide (b + n + 1∈ns.map Prod.snd):=by rw [show((b:Nat):Int) + (n:Int) + 1=((b + n + 1:Nat):Int) by omega];exact zO _ _
      show(if kZ (.int (((b:Nat):Int) + (n:Int) + 1)) (nI (ns.map Prod.snd))=true then _ else _)
      rw [iv]
      by_cases hc:b + n + 1∈ns.map Prod.snd
      ·rw [decide_eq_true hc]
       refine gU ⟨_,rfl,_,_,rfl,rfl,kI (b:=[93]) (by rw [List.length_append,List.length_append,List.length_append];simp;omega),?_,s6⟩
       rw [if_pos hc]
       have e3:(⟨(dot (decide (0 < i)) dA++i9 L (ns.map Prod.fst) (ns.map Prod.snd) b n++(if b + n∈ns.map Prod.fst then [91] else [])++jf L[b + n]).toArray⟩:Str)++Str.ofString "]"=⟨(dot (decide (0 < i)) dA++i9 L (ns.map Prod.fst) (ns.map Prod.snd) b n++(if b + n∈ns.map Prod.fst then [91] else [])++jf L[b + n]++[93]).toArray⟩:=jw _ [93]
       show [_,_,_,_,some (V.str ((⟨(dot (decide (0 < i)) dA++i9 L (ns.map Prod.fst) (ns.map Prod.snd) b n++(if b + n∈ns.map Prod.fst then [91] else [])++jf L[b + n]).toArray⟩:Str)++Str.ofString "]")),_]=_
       rw [e3]
      ·rw [decide_eq_false hc]
       refine g8 ⟨?_,s6⟩
       rw [if_neg hc,List.append_nil]
       rfl
    ·rintro af H6 ⟨rfl,s6⟩
     refine⟨some (.int (((b:Nat):Int) + (n:Int))),?_,(s4.trans s5).trans s6⟩
     have ef:i9 L (ns.map Prod.fst) (ns.map Prod.snd) b (n + 1)=i9 L (ns.map Prod.fst) (ns.map Prod.snd) b n++((if b + n∈ns.map Prod.fst then [91] else [])++jf L[b + n]++(if b + n + 1∈ns.map Prod.snd then [93] else [])):=by
      rw [<-gd];rfl
     rw [ef]
     simp only [List.append_assoc]
  ·rintro σ H4 ⟨o5,rfl,s4⟩
   have en:(((e:Nat):Int) - ((b:Nat):Int)).toNat=e - b:=by omega
   rw [en]
   have le:=wZ hle ag
   have aL:i9 L (ns.map Prod.fst) (ns.map Prod.snd) b (e - b)=i6 L e b ns:=le
   rw [aL]
   have el:=pZ L ag
   have J:=aa.trans s4
   have d2:(dot (decide (j + 1 < (words L).length)) dB).length<=4:=by cases decide (j + 1 < (words L).length)<;>decide
   refine⟨_,rfl,lQ,fun q' aM=>?_⟩
   have s5:gO H4 (upd H4 q' (.lst [.str (Str.ofString ""),.str (Str.ofString " ...")])):=hJ aM
   have al:(ps.map V.ref)=(ps.map V.ref).take ae.length++[V.ref py]:=by
    have h1:(ps.map V.ref).length=ae.length + 1:=by rw [List.length_map,Gn.Paired.len pA,aq];simp
    have h2:(ps.map V.ref)[ae.length]? =some (.ref py):=by rw [List.getElem?_map,aI];rfl
    have h3:=List.take_add_one (l:=ps.map V.ref) (i:=ae.length)
    rw [List.take_of_length_le (by omega),h2] at h3
    exact h3
   refine⟨_,rfl,_,rfl,a,_,_,_,rfl,rfl,gR.of (s5 _ _ (s4 _ _ aB)),(by rw [al];exact tj _ _),py,_,_,_,rfl,rfl,ia.of (s5 _ _ (s4 _ _ ao)),ik (j:=2) rfl,_,rfl,p,_,_,_,rfl,rfl,ia.of (s5 _ _ (J _ _ hp)),ik (j:=1) rfl,_,_,rfl,rfl,
    .inr ⟨_,rfl,q',_,_,.str ⟨(dot (decide (j + 1 < (words L).length)) dB).toArray⟩,rfl,rfl,gR.of gY,?_,_,_,rfl,rfl,kI (by rw [List.length_append];omega),?_⟩⟩
   ·rw [dl]
    cases decide (j + 1 < (words L).length)<;>rfl
   ·rw [jw]
    have sh:iV L b e ns=dot (decide (0 < i)) dA++i6 L e b ns++dot (decide (j + 1 < (words L).length)) dB:=by unfold iV;rw [ah]
    rw [<-sh]
    exact k _ (J.trans s5)
end
end K24
namespace L2
open PySem PySem.Spec PyProof.Rows
theorem uf{K:W.Frag}{H:Hp}:∀(ns:List Bool),kr K H (ns.map V.bl) (ns.map PyData.bool)
 | []=> .nil
 | n::ns=> .cons (.bl n) (uf ns)
theorem uu:∀(ns:List Bool),(ns.map PyData.bool).all Shape.bool.has=true
 | []=>rfl
 | n::ns=>by rw [List.map_cons,List.all_cons,uu ns];rfl
section
variable {X : Cx}
theorem Dx:kH X "list.count" (fun x xs H Q=>∃(p:Addr) (bs:List Bool) (k:Bool),x= .ref p/\xs=[.bl k]/\gR X.K H p (bs.map V.bl)/\Q (.int (Spec.countIn (.bool k) (bs.map PyData.bool))) H):=by
 intro pins s σ H x xs v us Q I J rs h
 obtain⟨p,bs,k,rfl,rfl,U,q⟩:=h
 cases J
 obtain⟨u,rfl,r1⟩:=vals1 rs
 cases r1
 obtain⟨aa,r,pl,_⟩:=I.list U
 obtain⟨as,ra⟩:=kr.reads I (uf (K:=X.K) (H:=H) bs) r
 exact count_list_bools pl.isList ra (uu bs) ⟨.int _,H,I.tok _,⟨_,rfl⟩,q⟩
theorem GQ:kH X "list.index" (fun x xs H Q=>∃(p:Addr) (bs:List Bool) (k:Bool) (j:Nat),x= .ref p/\xs=[.bl k]/\gR X.K H p (bs.map V.bl)/\j < 1000/\bs[j]? =some k/\(∀ m,m < j->bs[m]? ≠some k)/\Q (.int j) H):=by
 intro pins s σ H x xs v us Q I rx rs h
 obtain⟨p,bs,k,j,rfl,rfl,hq,hj,hit,aa,q⟩:=h
 cases rx
 obtain⟨u,rfl,r1⟩:=vals1 rs
 cases r1
 obtain⟨J,r,pl,_⟩:=I.list hq
 obtain⟨as,ra⟩:=kr.reads I (uf (K:=X.K) (H:=H) bs) r
 obtain⟨⟨cls,dd,data,sl⟩,ho,hc,n,hd⟩:=pl.isList
 simp only at hc hd
 subst hc hd
 have hlen:=r.length
 rw [List.length_map] at hlen
 have U:j < J.length:=by
  rw [<-hlen]
  exact(List.getElem?_eq_some_iff.mp hit).1
 refine call_meets F.slot_list_index ⟨_,ho,rfl⟩ F.entry_list_index (F.args_list_index_2 _ _)
  (SeqAt.list_indexAt p J.toArray n dd sl (.bool k) (isBoolOf k) j (by simpa using U) (by omega) ?_ ?_) ⟨ho,fun y hy=>eq_isBoolOf k ra (uu bs) y (by simpa using hy) _ _,⟨.int _,H,I.tok _,⟨_,rfl⟩,q⟩⟩
 ·show isBoolOf k J[j]=true
  obtain⟨b,e1,e2⟩:=sO r j J[j] (List.getElem?_eq_getElem U)
  rw [hit] at e1
  rw [e2,<-Option.some.inj e1]
  exact beq_self_eq_true k
 ·intro m hm ae
  have af:m < J.length:=by simpa using hm
  show isBoolOf k J[m]=false
  obtain⟨b,e1,e2⟩:=sO r m J[m] (List.getElem?_eq_getElem af)
  rw [e2]
  refine beq_eq_false_iff_ne.mpr fun z=>aa m ae ?_
  rw [e1,z]
end
end L2
namespace K24
open PySem L2 PyProof.Rows PySem.Spec Gn K01 SH
section
variable {P : Program} {w : World} {K : PySem.W.Frag} {mg : Str -> Option Value} {base : Heap} {CS CL : Addr}
variable {CH CT : Addr} {cs : Nat -> Addr}
structure Cl (mg : Str -> Option Value) (CH : Addr) (cs : Nat -> Addr) : Prop where
 h : mg "HallError" = some (.ref CH)
 m0 : mg "BadText" = some (.ref (cs 0))
 m1 : mg "BadSpan" = some (.ref (cs 1))
 m2 : mg "NoLine" = some (.ref (cs 2))
 m3 : mg "BadAsk" = some (.ref (cs 3))
 m4 : mg "BadKept" = some (.ref (cs 4))
 m5 : mg "BadKey" = some (.ref (cs 5))
 m6 : mg "BadNumber" = some (.ref (cs 6))
 m7 : mg "BadParts" = some (.ref (cs 7))
 m8 : mg "BadRow" = some (.ref (cs 8))
 m9 : mg "BadWord" = some (.ref (cs 9))
 m10 : mg "NoAsk" = some (.ref (cs 10))
 m11 : mg "NoText" = some (.ref (cs 11))
 m12 : mg "Twice" = some (.ref (cs 12))
structure CF (K : W.Frag) (CH : Addr) (cs : Nat -> Addr) (i : Nat) : Prop where
 x : W.ExcCls K (cs i)
 k : ∀ j, j < 13 -> W.kitOne K (.ref (cs i)) (.ref (cs j)) = some (decide (i = j))
 v : W.kitOne K (.ref (cs i)) (.type "ValueError") = some true
 e : W.exmOne K (.ref (cs i)) (.ref CH) = some true
 lt : i < 3
noncomputable def lI(i:Nat):List Bool:=[decide (i=0),decide (i=1),decide (i=2)]
theorem F9:∀ i,i < 3->Spec.countIn (.bool true) ((lI i).map PyData.bool)=1:=by decide
theorem Bh:∀ i,i < 3->(lI i)[i]? =some true:=by decide
theorem EL:∀ i,i < 3->∀ m,m < i->(lI i)[m]? ≠some true:=by decide
noncomputable def qf:List Str:=["text","span","line"]
noncomputable def pq(i:Nat):Str:=qf.getD i ""
theorem Gg:∀ i,i < 3->(qf.map V.str)[i]? =some (.str (pq i)):=fun i hi=>by
 rw [List.getElem?_map]
 have:i < qf.length:=hi
 unfold pq
 rw [List.getD_eq_getElem?_getD,List.getElem?_eq_getElem this]
 rfl
theorem Ec:∀ i,i < 3->kZ (.bl true) [V.bl (decide (i=3)),V.bl (decide (i=4)),V.bl (decide (i=5)),V.bl (decide (i=6)),V.bl (decide (i=7)),V.bl (decide (i=8)),V.bl (decide (i=9)),V.bl (decide (i=10)),V.bl (decide (i=11)),V.bl (decide (i=12))]=false:=by
 intro i hi
 have h:i=0\/i=1\/i=2:=by omega
 rcases h with rfl | rfl | rfl
 ·rfl
 ·rfl
 ·rfl
noncomputable def uD(K:W.Frag)(CH:Addr)(cs:Nat->Addr):List V->Hp->VK->Prop:=fun vs H Q=>∃(ea:Addr) (i:Nat),vs=[.ref ea]/\H ea=some (nK ea (cs i))/\CF K CH cs i/\∀ H',gO H H'->Q (.str (pq i)) H'
theorem pP:iU ["_law_e","_law_found","_law_others"] ["_law_e"] (iu oI):=⟨rfl,rfl,rfl,dkq,rfl,dkq,dkq⟩
seal iD PS PE PT PA PG PI iX iW in
theorem Bm{f:Addr}{fd:FuncData}(D:Df K mg "_law_class" oI f fd)(X:Cl mg CH cs)(T:Txt mg):nW P w K mg base 1 f fd ["_law_e"] (uD K CH cs):=by
 refine D.F.okN pP (fun vs H Q h=>?_) (fun cdv A outer s H vs Q hr h=>?_)
 ·obtain⟨ea,i,rfl,_⟩:=h
  rfl
 ·obtain⟨ea,i,rfl,J,F,kk⟩:=h
  have hl:(sizeLine:Nat)=16777216:=sizeLine_eq
  refine⟨_,(gS (hU (i:=1) pP.nd rfl (Or.inl rfl) (iK (gN (ir kx rfl T.isi je (gN (pv 0) (gN (jA (v:= .ref (cs 0)) rfl X.m0 rfl) gP))) (gN (ir kx rfl T.isi je (gN (pv 0) (gN (jA (v:= .ref (cs 1)) rfl X.m1 rfl) gP))) (gN (ir kx rfl T.isi je (gN (pv 0) (gN (jA (v:= .ref (cs 2)) rfl X.m2 rfl) gP))) gP)))))
   (gS (hU (i:=2) pP.nd rfl (Or.inl rfl) (iK (gN (ir kx rfl T.isi je (gN (pv 0) (gN (jA (v:= .ref (cs 3)) rfl X.m3 rfl) gP))) (gN (ir kx rfl T.isi je (gN (pv 0) (gN (jA (v:= .ref (cs 4)) rfl X.m4 rfl) gP))) (gN (ir kx rfl T.isi je (gN (pv 0) (gN (jA (v:= .ref (cs 5)) rfl X.m5 rfl) gP))) (gN (ir kx rfl T.isi je (gN (pv 0) (gN (jA (v:= .ref (cs 6)) rfl X.m6 rfl) gP))) gP))))))
   (gS (hU (i:=2) pP.nd rfl (Or.inl rfl) (gX kL (pv 2) (iK (gN (ir kx rfl T.isi je (gN (pv 0) (gN (jA (v:= .ref (cs 7)) rfl X.m7 rfl) gP))) (gN (ir kx rfl T.isi je (gN (pv 0) (gN (jA (v:= .ref (cs 8)) rfl X.m8 rfl) gP))) (gN (ir kx rfl T.isi je (gN (pv 0) (gN (jA (v:= .ref (cs 9)) rfl X.m9 rfl) gP))) (gN (ir kx rfl T.isi je (gN (pv 0) (gN (jA (v:= .ref (cs 10)) rfl X.m10 rfl) gP))) gP)))))))
   (gS (hU (i:=2) pP.nd rfl (Or.inl rfl) (gX kL (pv 2) (iK (gN (ir kx rfl T.isi je (gN (pv 0) (gN (jA (v:= .ref (cs 11)) rfl X.m11 rfl) gP))) (gN (ir kx rfl T.isi je (gN (pv 0) (gN (jA (v:= .ref (cs 12)) rfl X.m12 rfl) gP))) gP)))))
   (gS (iN (PW.pt (jj (iq lh (jr PySem.F.plainAttrs_list PySem.F.slot_list_count PySem.F.type_list_count Dx (pv 1) (gN jW gP)) gQ (iy _)) (jj (jG (jm (ir kx rfl T.isi je (gN (pv 0) (gN (jX (v:= .ty "ValueError") rfl T.val Hm rfl) gP))))) (jH (iq vi jW (pv 2) (by with_unfolding_all rfl)))))) (g0 (iC gZ)) iL)
   (g0 (iC (g9 jn (iK (gN gZ (gN gZ (gN gZ gP)))) (jr PySem.F.plainAttrs_list PySem.F.slot_list_index PySem.F.type_list_index GQ (pv 1) (gN jW gP)) (fun _ _=>rfl))))))))),?_⟩
  refine⟨_,rfl,ea,cs i,_,_,rfl,J,F.x,.inr (.inl ⟨_,rfl,F.k 0 (by decide)⟩),_,rfl,ea,cs i,_,_,rfl,J,F.x,.inr (.inl ⟨_,rfl,F.k 1 (by decide)⟩),_,rfl,ea,cs i,_,_,rfl,J,F.x,.inr (.inl ⟨_,rfl,F.k 2 (by decide)⟩),(by show 3<=sizeLine;omega),fun p hp=>?_⟩
  have s1:gO H (upd H p (.lst ((lI i).map V.bl))):=hJ hp
  have h1:upd H p (.lst ((lI i).map V.bl)) p=_:=gY
  change j8 _ _ _ _ (upd H p (.lst ((lI i).map V.bl)))
  generalize upd H p (.lst ((lI i).map V.bl))=H1 at s1 h1
  have e1:=s1 _ _ J
  refine⟨_,rfl,ea,cs i,_,_,rfl,e1,F.x,.inr (.inl ⟨_,rfl,F.k 3 (by decide)⟩),_,rfl,ea,cs i,_,_,rfl,e1,F.x,.inr (.inl ⟨_,rfl,F.k 4 (by decide)⟩),_,rfl,ea,cs i,_,_,rfl,e1,F.x,.inr (.inl ⟨_,rfl,F.k 5 (by decide)⟩),_,rfl,ea,cs i,_,_,rfl,e1,F.x,.inr (.inl ⟨_,rfl,F.k 6 (by decide)⟩),(by show 4<=sizeLine;omega),fun q hq=>?_⟩
  have s2:gO H (upd H1 q (.lst [V.bl (decide (i=3)),V.bl (decide (i=4)),V.bl (decide (i=5)),V.bl (decide (i=6))])):=s1.trans (hJ hq)
  have h2:upd H1 q (.lst [V.bl (decide (i=3)),V.bl (decide (i=4)),V.bl (decide (i=5)),V.bl (decide (i=6))]) p=_:=hJ hq _ _ h1
  have g2:upd H1 q (.lst [V.bl (decide (i=3)),V.bl (decide (i=4)),V.bl (decide (i=5)),V.bl (decide (i=6))]) q=_:=gY
  change j8 _ _ _ _ (upd H1 q (.lst [V.bl (decide (i=3)),V.bl (decide (i=4)),V.bl (decide (i=5)),V.bl (decide (i=6))]))
  generalize upd H1 q (.lst [V.bl (decide (i=3)),V.bl (decide (i=4)),V.bl (decide (i=5)),V.bl (decide (i=6))])=H2 at s2 h2 g2
  have e2:=s2 _ _ J
  refine⟨_,rfl,_,rfl,ea,cs i,_,_,rfl,e2,F.x,.inr (.inl ⟨_,rfl,F.k 7 (by decide)⟩),_,rfl,ea,cs i,_,_,rfl,e2,F.x,.inr (.inl ⟨_,rfl,F.k 8 (by decide)⟩),_,rfl,ea,cs i,_,_,rfl,e2,F.x,.inr (.inl ⟨_,rfl,F.k 9 (by decide)⟩),_,rfl,ea,cs i,_,_,rfl,e2,F.x,.inr (.inl ⟨_,rfl,F.k 10 (by decide)⟩),(by show 4<=sizeLine;omega),fun q3 U=>?_⟩
  refine⟨q,q3,_,_,rfl,rfl,hJ U _ _ g2,gY,(by show 4 + 4<=sizeLine;omega),fun r3 ae=>?_⟩
  have s3:gO H (upd (upd H2 q3 (.lst [V.bl (decide (i=7)),V.bl (decide (i=8)),V.bl (decide (i=9)),V.bl (decide (i=10))])) r3 (.lst [V.bl (decide (i=3)),V.bl (decide (i=4)),V.bl (decide (i=5)),V.bl (decide (i=6)),V.bl (decide (i=7)),V.bl (decide (i=8)),V.bl (decide (i=9)),V.bl (decide (i=10))])):=(s2.trans (hJ U)).trans (hJ ae)
  have h3:upd (upd H2 q3 (.lst [V.bl (decide (i=7)),V.bl (decide (i=8)),V.bl (decide (i=9)),V.bl (decide (i=10))])) r3 (.lst [V.bl (decide (i=3)),V.bl (decide (i=4)),V.bl (decide (i=5)),V.bl (decide (i=6)),V.bl (decide (i=7)),V.bl (decide (i=8)),V.bl (decide (i=9)),V.bl (decide (i=10))]) p=_:=hJ ae _ _ (hJ U _ _ h2)
  have g3:upd (upd H2 q3 (.lst [V.bl (decide (i=7)),V.bl (decide (i=8)),V.bl (decide (i=9)),V.bl (decide (i=10))])) r3 (.lst [V.bl (decide (i=3)),V.bl (decide (i=4)),V.bl (decide (i=5)),V.bl (decide (i=6)),V.bl (decide (i=7)),V.bl (decide (i=8)),V.bl (decide (i=9)),V.bl (decide (i=10))]) r3=_:=gY
  change j8 _ _ _ _ (upd (upd H2 q3 (.lst [V.bl (decide (i=7)),V.bl (decide (i=8)),V.bl (decide (i=9)),V.bl (decide (i=10))])) r3 (.lst [V.bl (decide (i=3)),V.bl (decide (i=4)),V.bl (decide (i=5)),V.bl (decide (i=6)),V.bl (decide (i=7)),V.bl (decide (i=8)),V.bl (decide (i=9)),V.bl (decide (i=10))]))
  generalize upd (upd H2 q3 (.lst [V.bl (decide (i=7)),V.bl (decide (i=8)),V.bl (decide (i=9)),V.bl (decide (i=10))])) r3 (.lst [V.bl (decide (i=3)),V.bl (decide (i=4)),V.bl (decide (i=5)),V.bl (decide (i=6)),V.bl (decide (i=7)),V.bl (decide (i=8)),V.bl (decide (i=9)),V.bl (decide (i=10))])=H3 at s3 h3 g3
  have e3:=s3 _ _ J
  refine⟨_,rfl,_,rfl,ea,cs i,_,_,rfl,e3,F.x,.inr (.inl ⟨_,rfl,F.k 11 (by decide)⟩),_,rfl,ea,cs i,_,_,rfl,e3,F.x,.inr (.inl ⟨_,rfl,F.k 12 (by decide)⟩),(by show 2<=sizeLine;omega),fun q4 aa=>?_⟩
  refine⟨r3,q4,_,_,rfl,rfl,hJ aa _ _ g3,gY,(by show 8 + 2<=sizeLine;omega),fun r4 af=>?_⟩
  have s4:gO H (upd (upd H3 q4 (.lst [V.bl (decide (i=11)),V.bl (decide (i=12))])) r4 (.lst [V.bl (decide (i=3)),V.bl (decide (i=4)),V.bl (decide (i=5)),V.bl (decide (i=6)),V.bl (decide (i=7)),V.bl (decide (i=8)),V.bl (decide (i=9)),V.bl (decide (i=10)),V.bl (decide (i=11)),V.bl (decide (i=12))])):=(s3.trans (hJ aa)).trans (hJ af)
  have h4:upd (upd H3 q4 (.lst [V.bl (decide (i=11)),V.bl (decide (i=12))])) r4 (.lst [V.bl (decide (i=3)),V.bl (decide (i=4)),V.bl (decide (i=5)),V.bl (decide (i=6)),V.bl (decide (i=7)),V.bl (decide (i=8)),V.bl (decide (i=9)),V.bl (decide (i=10)),V.bl (decide (i=11)),V.bl (decide (i=12))]) p=_:=hJ af _ _ (hJ aa _ _ h3)
  have g4:upd (upd H3 q4 (.lst [V.bl (decide (i=11)),V.bl (decide (i=12))])) r4 (.lst [V.bl (decide (i=3)),V.bl (decide (i=4)),V.bl (decide (i=5)),V.bl (decide (i=6)),V.bl (decide (i=7)),V.bl (decide (i=8)),V.bl (decide (i=9)),V.bl (decide (i=10)),V.bl (decide (i=11)),V.bl (decide (i=12))]) r4=_:=gY
  change j8 _ _ _ _ (upd (upd H3 q4 (.lst [V.bl (decide (i=11)),V.bl (decide (i=12))])) r4 (.lst [V.bl (decide (i=3)),V.bl (decide (i=4)),V.bl (decide (i=5)),V.bl (decide (i=6)),V.bl (decide (i=7)),V.bl (decide (i=8)),V.bl (decide (i=9)),V.bl (decide (i=10)),V.bl (decide (i=11)),V.bl (decide (i=12))]))
  generalize upd (upd H3 q4 (.lst [V.bl (decide (i=11)),V.bl (decide (i=12))])) r4 (.lst [V.bl (decide (i=3)),V.bl (decide (i=4)),V.bl (decide (i=5)),V.bl (decide (i=6)),V.bl (decide (i=7)),V.bl (decide (i=8)),V.bl (decide (i=9)),V.bl (decide (i=10)),V.bl (decide (i=11)),V.bl (decide (i=12))])=H4 at s4 h4 g4
  refine⟨_,rfl,.inl ⟨rfl,_,gR.of h4⟩,p,lI i,true,rfl,rfl,gR.of h4,?_⟩
  rw [F9 i F.lt]
  refine⟨rfl,_,rfl,g8 ?_⟩
  refine⟨_,rfl,ea,cs i,_,_,rfl,s4 _ _ J,F.x,.inl ⟨_,rfl,F.v⟩,_,rfl,g8 ?_⟩
  refine⟨_,rfl,r4,_,rfl,.inl (gR.of g4),rfl,rfl,?_⟩
  refine⟨false,congrArg V.bl (Ec i F.lt),g8 ⟨(by show 3<=sizeLine;omega),fun z hz=>?_⟩⟩
  have s5:gO H (upd H4 z (.lst (qf.map V.str))):=s4.trans (hJ hz)
  have h5:upd H4 z (.lst (qf.map V.str)) p=some (.lst ((lI i).map V.bl)):=hJ hz _ _ h4
  exact⟨_,rfl,.inl ⟨rfl,_,gR.of h5⟩,p,lI i,true,i,rfl,rfl,gR.of h5,Nat.lt_trans F.lt (by decide),Bh i F.lt,EL i F.lt,z,_,_,_,rfl,rfl,gR.of gY,ik (Gg i F.lt),kk _ s5⟩
end
section
variable {P : Program} {w : World} {K : PySem.W.Frag} {mg : Str -> Option Value} {base : Heap} {CH : Addr} {cs : Nat -> Addr}
noncomputable def nO(H:Hp)(i:Nat)(Q:VK):Prop:=∀ l H',gO H H'->H l=none->H' l=some (.lst [.str (pq i)])->Q (.ref l) H'
noncomputable def we(K:W.Frag):Sp:=fun vs H Q _=>∃(x v:V) (d:PyData),vs=[x,v]/\Known K H x/\nU x/\iR H v d/\(kl x=false->nO H 0 Q)/\(∀ z,x= .str z->Drawn z->k4 (words (codes z)) d=none->nO H 1 Q)/\
 (∀ z (b e:Nat) ns,x= .str z->Drawn z->d=jR b e ns->iQ (words (codes z)) b e (ns.map zP)=true->∀ H',gO H H'->Q (.str ⟨(iV (codes z) b e ns).toArray⟩) H')
theorem vx:iU ["_law_text_here","_law_piece_here","_law_e"] ["_law_text_here","_law_piece_here"] (iu pY):=⟨rfl,rfl,rfl,dkq,rfl,dkq,dkq⟩
seal iD PS PE PT PA PG PI iX iW in
theorem Hg{f fl fc:Addr}{fd fdl fdc:FuncData}(D:Df K mg "_law_shown" pY f fd)(X:Cl mg CH cs)(F0:CF K CH cs 0)(F1:CF K CH cs 1)(DL:Df K mg "shown_line" ou fl fdl)(GL:hZ P w K mg base (jy P w) 5 fl fdl ["text","piece"] (sf K (cs 0) (cs 1)))
  (DC:Df K mg "_law_class" oI fc fdc)(GC:nW P w K mg base 1 fc fdc ["_law_e"] (uD K CH cs)):hZ P w K mg base iw 6 f fd ["_law_text_here","_law_piece_here"] (we K):=by
 have bC:=jM (p:="_law_e") DC.F fun _ _ _ _ _ _ _=>rfl
 have bL:=DL.F.binds (ps:=["text","piece"]) fun _ _ _ _ _ _ us J=>match us,J with | [_,_],_=>rfl
 refine D.F.ok vx (fun vs H Q E h=>?_) (fun cdv A outer s H vs Q E hr h=>?_)
 ·obtain⟨x,v,d,rfl,_⟩:=h
  rfl
 ·obtain⟨x,v,d,rfl,hk,hf,hv,k1,k2,k3⟩:=h
  have one:1<=sizeLine:=by rw [sizeLine_eq];decide
  refine⟨_,g0 (xF (CH:=CH) (i:=2) (fun σ cls _ H'=>σ=[some x,some v,none]/\gO H H'/\∃ i,i < 2/\cls= .ref (cs i)/\nO H i Q) rfl rfl vx.nd rfl rfl rfl X.h
    (fun p xe hx=>g0 (iC (um GL.c1 hr rfl DL.m DL.F.kp bL .nil hx (gN (pv 0) (gN (pv 1) gP)))))
    (fun ea p=>g0 (iC (iK (gN (wq GC ((hr.toN.mono (by decide)).mark _) rfl DC.m DC.F.kp bC .nil (gN (pv 2) gP)) gP))))),?_⟩
  refine⟨?_,?_⟩
  ·refine⟨_,rfl,_,rfl,x,v,d,rfl,hk,hf,hv,fun h H1 s1=>⟨rfl,s1,0,by decide,rfl,k1 h⟩,fun z U hd hn H1 s1=>⟨rfl,s1,1,by decide,rfl,k2 z U hd hn⟩,fun z b e ns U hd aa hp H1 s1=>k3 z b e ns U hd aa hp H1 s1⟩
  ·rintro ae cls H' ea ⟨rfl,sm,i,hi,rfl,ko⟩ hn
   have Fi:CF K CH cs i:=by
    have h:i=0\/i=1:=by omega
    rcases h with rfl | rfl
    ·exact F0
    ·exact F1
   have s0:gO H (upd H' ea (nK ea (cs i))):=gO.upf sm hn
   exact⟨_,rfl,Fi.e,_,rfl,ea,i,rfl,gY,Fi,fun H1 s1=>⟨one,fun l J=>ko l _ (gO.upf (s0.trans s1) J) ((s0.trans s1).free J) gY⟩⟩
noncomputable def uJ(K:W.Frag):Sp:=fun vs H Q _=>∃ x:V,vs=[x]/\Known K H x/\(mR x=false->nO H 2 Q)/\
 (∀ L:List Nat,x= .str ⟨L.toArray⟩->L.length<=4800/\37∉L/\(jS L=none->nO H 2 Q)/\
  ∀ a S M b,jS L=some (a,S,M,b)->∀ p m H',gO H H'->H p=none->H' p=some (.tup [.bl a,.str ⟨S.toArray⟩,.ref m,.bl b])->H m=none->jL H' m M->Q (.ref p) H')
theorem vM:iU ["_law_line_here","_law_e"] ["_law_line_here"] (iu oh):=⟨rfl,rfl,rfl,dkq,rfl,dkq,dkq⟩
seal iD PS PE PT PA PG PI iX iW in
theorem C0{f fl fc:Addr}{fd fdl fdc:FuncData}(D:Df K mg "_law_read" oh f fd)(X:Cl mg CH cs)(F2:CF K CH cs 2)(DL:Df K mg "read_shown" qF fl fdl)(GL:hZ P w K mg base (iT P w) 7 fl fdl ["line"] (Ad K (cs 2)))
  (DC:Df K mg "_law_class" oI fc fdc)(GC:nW P w K mg base 1 fc fdc ["_law_e"] (uD K CH cs)):hZ P w K mg base iw 8 f fd ["_law_line_here"] (uJ K):=by
 have bC:=jM (p:="_law_e") DC.F fun _ _ _ _ _ _ _=>rfl
 have bL:=jM (p:="line") DL.F fun _ _ _ _ _ _ _=>rfl
 refine D.F.ok vM (fun vs H Q E h=>?_) (fun cdv A outer s H vs Q E J h=>?_)
 ·obtain⟨x,rfl,_⟩:=h
  rfl
 ·obtain⟨x,rfl,hk,k1,k2⟩:=h
  have one:1<=sizeLine:=by rw [sizeLine_eq];decide
  refine⟨_,g0 (xF (CH:=CH) (i:=1) (fun σ cls _ H'=>σ=[some x,none]/\gO H H'/\cls= .ref (cs 2)/\nO H 2 Q) rfl rfl vM.nd rfl rfl rfl X.h
    (fun p xe hx=>g0 (iC (um GL J rfl DL.m DL.F.kp bL .nil hx (gN (pv 0) gP))))
    (fun ea p=>g0 (iC (iK (gN (wq GC ((J.toN.mono (by decide)).mark _) rfl DC.m DC.F.kp bC .nil (gN (pv 1) gP)) gP))))),?_⟩
  refine⟨?_,?_⟩
  ·refine⟨_,rfl,x,rfl,hk,fun h H1 s1=>⟨rfl,s1,rfl,k1 h⟩,fun L e=>?_⟩
   obtain⟨h1,h2,h3,h4⟩:=k2 L e
   exact⟨h1,h2,fun h H1 s1=>⟨rfl,s1,rfl,h3 h⟩,h4⟩
  ·rintro aa cls H' ea ⟨rfl,sm,rfl,ko⟩ hn
   have s0:gO H (upd H' ea (nK ea (cs 2))):=gO.upf sm hn
   exact⟨_,rfl,F2.e,_,rfl,ea,2,rfl,gY,F2,fun H1 s1=>⟨one,fun l U=>ko l _ (gO.upf (s0.trans s1) U) ((s0.trans s1).free U) gY⟩⟩
end
noncomputable def ku(a:Bool)(S:List Nat)(M:List (Nat×Nat))(b:Bool):PyData:= .tuple [.bool a,.str ⟨S.toArray⟩,.list (M.map ju),.bool b]
theorem F7{c:Nat}(h:iG c=true):c < 128:=by
 unfold iG at h
 simp only [Bool.or_eq_true,Bool.and_eq_true,decide_eq_true_eq] at h
 rcases h with h | h<;>omega
theorem Bc{S:List Nat}(h:S.all iG=true):PyData.strOk ⟨S.toArray⟩=true:=by
 unfold PyData.strOk
 rw [<-Array.all_toList]
 refine List.all_eq_true.mpr fun c hc=>?_
 have:=F7 (List.all_eq_true.mp h c (by simpa using hc))
 exact decide_eq_true (by omega)
theorem oN{a b:Bool}{S:List Nat}{M:List (Nat×Nat)}(h:S.all iG=true):(ku a S M b).canLay0=true:=by
 have l:=oR M
 show(true && (PyData.strOk ⟨S.toArray⟩ && ((PyData.list (M.map ju)).canLay0 && (true && true))))=true
 rw [Bc h,show(PyData.list (M.map ju)).canLay0=true from l]
 rfl
theorem zW(a b:Bool)(S:List Nat)(M:List (Nat×Nat)):(ku a S M b).depth<=100:=by
 have l:=qY M
 have J:PyData.depthAll (M.map ju)<=1:=l
 show max 0 (max 0 (max (PyData.depthAll (M.map ju) + 1) (max 0 0))) + 1<=100
 omega
theorem nB:(PyData.list [.str "line"]).canLay0=true:=dkq
theorem De(M:List (Nat×Nat)):(PyData.list (M.map ju)).depth<=100:=by
 have J:PyData.depthAll (M.map ju)<=1:=qY M
 show PyData.depthAll (M.map ju) + 1<=100
 omega
section
variable {P : Program} {w : World} {K : PySem.W.Frag} {mg : Str -> Option Value} {base : Heap} {CH : Addr} {cs : Nat -> Addr}
noncomputable def Due(H:Hp)(L:List Nat)(v:V):Prop:=(jS L=none/\v= .non)\/∃ a S M b p m,jS L=some (a,S,M,b)/\S.all iG=true/\M.length<=5000/\v= .ref p/\H p=some (.tup [.bl a,.str ⟨S.toArray⟩,.ref m,.bl b])/\jL H m M
noncomputable def zj:Sp:=fun vs H Q _=>∃(L:List Nat) (v:V),vs=[.str ⟨L.toArray⟩,v]/\L.length<=4800/\37∉L/\Due H L v/\∀ H',gO H H'->Q (.bl true) H'
theorem wy:iU ["_law_line_here","_law_due","_law_found"] ["_law_line_here","_law_due"] (iu pT):=⟨rfl,rfl,rfl,dkq,rfl,dkq,dkq⟩
seal iD PS PE PT PA PG PI iX iW in
theorem Fo{f fr:Addr}{fd fdr:FuncData}(D:Df K mg "_law_read_right" pT f fd)(DR:Df K mg "_law_read" oh fr fdr)(GR:hZ P w K mg base iw 8 fr fdr ["_law_line_here"] (uJ K))(T:Txt mg):hZ P w K mg base iw 9 f fd ["_law_line_here","_law_due"] zj:=by
 have bR:=jM (p:="_law_line_here") DR.F fun _ _ _ _ _ _ _=>rfl
 refine D.F.ok wy (fun vs H Q E h=>?_) (fun cdv A outer s H vs Q E hr h=>?_)
 ·obtain⟨L,v,rfl,_⟩:=h
  rfl
 ·obtain⟨L,v,rfl,hl,au,ag,k⟩:=h
  have hz:(sizeLine:Nat)=16777216:=sizeLine_eq
  have one:1<=sizeLine:=by rw [hz];decide
  refine⟨_,gS (hU (i:=2) wy.nd rfl (Or.inl rfl) (iE GR hr rfl DR.m DR.F.kp bR .nil iM (gN (pv 0) gP)))
   (gS (iN (iq HG (pv 1) lK (iy _)) (g0 (iC (k9 (oS hr.units100) (pv 2) (iK (gN gZ gP)) (iy _)))) iL)
   (gS (iN (PW.pt (jj (jG (jm (ir kB rfl T.isi je (gN (pv 2) (gN (jX (v:= .ty "tuple") rfl T.tuple oG rfl) gP)))))
     (jj (iq lh (ir jN rfl T.len i0 (gN (pv 2) gP)) gQ (iy _))
     (jj (jG (jm (ir kB rfl T.isi je (gN (g9 iO (pv 2) gQ (fun _ _=>rfl)) (gN (jX (v:= .ty "bool") rfl T.bool qP rfl) gP)))))
     (jH (iq (nF hr.units100) (pv 2) (pv 1) (iy _))))))) (g0 (iC jW)) iL)
   (gS (iN (PW.pt (jj (jG (jm (ir kB rfl T.isi je (gN (g9 iO (pv 2) gQ (fun _ _=>rfl)) (gN (jX (v:= .ty "bool") rfl T.bool qP rfl) gP)))))
     (jH (jG (jm (ir kB rfl T.isi je (gN (g9 iO (pv 2) gQ (fun _ _=>rfl)) (gN (jX (v:= .ty "list") rfl T.list mW rfl) gP)))))))) (g0 (iC jW)) iL)
   (gS (ke (jr PySem.F.plainAttrs_list PySem.F.slot_list_append PySem.F.type_list_append kj (g9 iO (pv 2) gQ (fun _ _=>rfl)) (gN (ja (gN gQ (gN gQ gP))) gP)))
   (g0 (iC (sy (k9 (oS hr.units100) (iE GR hr rfl DR.m DR.F.kp bR .nil iM (gN (pv 0) gP)) (pv 1) (iy _))
    (qc (k9 (oS hr.units100) (g9 iO (pv 2) gQ (fun _ _=>rfl)) (gX kL (g9 iO (pv 1) gQ (fun _ _=>rfl)) (iK (gN (ja (gN gQ (gN gQ gP))) gP))) (iy _)))))))))),?_⟩
  refine⟨_,rfl,.str ⟨L.toArray⟩,rfl,⟨_,.str _⟩,(fun z=>by cases z),fun L' eL=>?_⟩
  cases (show L=L' by injection eL with e;injection e with e;simpa using e)
  refine⟨hl,au,fun hn l H1 s1 aS el=>?_,fun a S M b hm p m H1 s1 hp U aG hM=>?_⟩
  ·rcases ag with ⟨_,rfl⟩ | ⟨_,_,_,_,_,_,h,_⟩
   ·refine⟨_,rfl,rfl,_,rfl,gU ?_⟩
    refine⟨_,rfl,one,fun q hq=>?_⟩
    have s2:gO H1 (upd H1 q (.lst [.str (Str.ofString "line")])):=hJ hq
    refine⟨.list [.str "line"],.list [.str "line"],.lst (gR.of (s2 _ _ el)) (.cons (.str _) .nil),.lst (gR.of gY) (.cons (.str _) .nil),nB,nB,Nat.le_trans (Nat.min_le_right _ _) (by decide),?_⟩
    rw [md nB]
    exact k _ (s1.trans s2)
   ·rw [hn] at h;cases h
  ·rcases ag with ⟨h,_⟩ | ⟨a',S',M',b',p2,m2,h,hS,aT,rfl,aq,av⟩
   ·rw [hm] at h;cases h
   rw [hm] at h
   cases h
   refine⟨_,rfl,rfl,_,rfl,g8 ?_⟩
   have aw:=s1 _ _ aq
   have ax:=av.same s1
   have aH:iR H1 (.ref p) (ku a S M b):= .tup U (.cons (.bl a) (.cons (.str _) (.cons hM.pd (.cons (.bl b) .nil))))
   have aI:iR H1 (.ref p2) (ku a S M b):= .tup aw (.cons (.bl a) (.cons (.str _) (.cons ax.pd (.cons (.bl b) .nil))))
   refine⟨_,rfl,.ref p,.ty "tuple",_,_,rfl,.tup U,.inl ⟨_,rfl,qi (ku a S M b)⟩,_,rfl,g8 ?_⟩
   refine⟨_,rfl,p,_,rfl,.inr (ia.of U),rfl,_,rfl,g8 ?_⟩
   refine⟨_,rfl,p,_,_,_,rfl,rfl,ia.of U,ik (j:=0) rfl,.bl a,.ty "bool",_,_,rfl,.bl a,.inl ⟨_,rfl,qU (K:=K) (H:=H1) (.bl a)⟩,_,rfl,g8 ?_⟩
   refine⟨_,rfl,_,rfl,ku a S M b,ku a S M b,aH.dt,aI.dt,oN hS,oN hS,Nat.le_trans (Nat.min_le_right _ _) (zW _ _ _ _),?_⟩
   rw [md (oN hS)]
   refine⟨_,rfl,g8 ?_⟩
   refine⟨_,rfl,p,_,_,_,rfl,rfl,ia.of U,ik (j:=3) rfl,.bl b,.ty "bool",_,_,rfl,.bl b,.inl ⟨_,rfl,qU (K:=K) (H:=H1) (.bl b)⟩,_,rfl,g8 ?_⟩
   obtain⟨ps,eM,ay⟩:=hM
   refine⟨_,rfl,p,_,_,_,rfl,rfl,ia.of U,ik (j:=2) rfl,.ref m,.ty "list",_,_,rfl,.lst eM,.inl ⟨_,rfl,ue (.list [])⟩,_,rfl,g8 ?_⟩
   refine⟨_,rfl,p,_,_,_,rfl,rfl,ia.of U,ik (j:=2) rfl,.inl ⟨rfl,_,gR.of eM⟩,lQ,fun q hq=>?_⟩
   have aA:m≠q:=jo eM hq
   have aU:ps.length=M.length:=Gn.Paired.len ay
   refine⟨m,_,_,rfl,rfl,by rw [ig aA];exact eM,by rw [List.length_map];omega,?_⟩
   have s2:gO H (upd (upd H1 q (.tup [.int 0,.int 0])) m (.lst (ps.map V.ref++[.ref q]))):=kA (gO.upf s1 hq) aG
   have aJ:p≠m:=fun z=>by rw [z,eM] at U;cases U
   have aB:upd (upd H1 q (.tup [.int 0,.int 0])) m (.lst (ps.map V.ref++[.ref q])) p=some (.tup [.bl a,.str ⟨S.toArray⟩,.ref m,.bl b]):=by rw [ig aJ,ig (jo U hq)];exact U
   have aC:upd (upd H1 q (.tup [.int 0,.int 0])) m (.lst (ps.map V.ref++[.ref q])) m=some (.lst (ps.map V.ref++[.ref q])):=gY
   have ah:Paired (fun u (n:Nat×Nat)=>upd (upd H1 q (.tup [.int 0,.int 0])) m (.lst (ps.map V.ref++[.ref q])) u=some (.tup [.int n.1,.int n.2])) (ps++[q]) (M++[(0,0)]):=by
    refine Gn.Paired.app (Gn.Paired.imp2 ay fun u n e=>?_) (by rw [ig (Ne.symm aA)];exact gY)
    rw [ig (fun z=>by rw [z,eM] at e;cases e),ig (jo e hq)]
    exact e
   generalize upd (upd H1 q (.tup [.int 0,.int 0])) m (.lst (ps.map V.ref++[.ref q]))=H2 at s2 aB aC ah ⊢
   refine⟨_,rfl,.str ⟨L.toArray⟩,rfl,⟨_,.str _⟩,(fun z=>by cases z),fun L' eL=>?_⟩
   cases (show L=L' by injection eL with e;injection e with e;simpa using e)
   refine⟨hl,au,fun hn=>(by rw [hm] at hn;cases hn),fun a' S' M' b' aD p3 m3 H3 s3 aV aK aQ aL=>?_⟩
   rw [hm] at aD
   cases aD
   have ae:=s2.trans s3
   have ak:=av.same ae
   have aM:iR H3 (.ref p3) (ku a S M b):= .tup aK (.cons (.bl a) (.cons (.str _) (.cons aL.pd (.cons (.bl b) .nil))))
   have aN:iR H3 (.ref p2) (ku a S M b):= .tup (ae _ _ aq) (.cons (.bl a) (.cons (.str _) (.cons ak.pd (.cons (.bl b) .nil))))
   refine⟨_,rfl,ku a S M b,ku a S M b,aM.dt,aN.dt,oN hS,oN hS,Nat.le_trans (Nat.min_le_right _ _) (zW _ _ _ _),?_⟩
   rw [md (oN hS)]
   refine⟨_,rfl,gU ?_⟩
   obtain⟨aa,aO,ao⟩:=ak
   have aR:aa.length=M.length:=Gn.Paired.len ao
   refine⟨_,rfl,p,_,_,_,rfl,rfl,ia.of (s3 _ _ aB),ik (j:=2) rfl,_,rfl,p2,_,_,_,rfl,rfl,ia.of (ae _ _ aq),ik (j:=2) rfl,lQ,fun J aP=>⟨one,fun l4 ar=>?_⟩⟩
   have s4:gO H3 (upd (upd H3 J (.tup [.int 0,.int 0])) l4 (.lst [.ref J])):=gO.upf (hJ aP) ar
   refine⟨m2,l4,_,_,rfl,rfl,s4 _ _ aO,gY,by rw [List.length_map];simp;omega,fun r aE=>?_⟩
   have eq2:upd (upd H3 J (.tup [.int 0,.int 0])) l4 (.lst [.ref J]) J=some (.tup [.int 0,.int 0]):=by rw [ig (fun z=>by rw [<-z,gY] at ar;cases ar),gY]
   generalize upd (upd H3 J (.tup [.int 0,.int 0])) l4 (.lst [.ref J])=H4 at s4 eq2 aE ⊢
   have s5:gO H4 (upd H4 r (.lst (aa.map V.ref++[.ref J]))):=hJ aE
   have af:=s4.trans s5
   have pl:iR (upd H4 r (.lst (aa.map V.ref++[.ref J]))) (.ref m) (.list ((M++[(0,0)]).map ju)):=by
    have:=qN (Gn.Paired.imp2 ah fun u n e=>af _ _ (s3 _ _ e))
    rw [List.map_append] at this
    exact .lst (af _ _ (s3 _ _ aC)) this
   have pr:iR (upd H4 r (.lst (aa.map V.ref++[.ref J]))) (.ref r) (.list ((M++[(0,0)]).map ju)):=by
    have:=qN (Gn.Paired.app (F:=fun u (n:Nat×Nat)=>upd H4 r (.lst (aa.map V.ref++[.ref J])) u=some (.tup [.int n.1,.int n.2])) (a:=J) (b:=(0,0)) (Gn.Paired.imp2 ao fun u n e=>af _ _ e) (s5 _ _ eq2))
    rw [List.map_append] at this
    exact .lst gY this
   refine⟨_,_,pl.dt,pr.dt,oR (M++[(0,0)]),oR (M++[(0,0)]),Nat.le_trans (Nat.min_le_right _ _) (De _),?_⟩
   have aF:(PyData.list (List.map ju (M++[(0,0)]))).eqv (PyData.list (List.map ju (M++[(0,0)])))=true:=md (oR (M++[(0,0)]))
   rw [aF]
   exact k _ (ae.trans af)
end
end K24
namespace ST
open PySem PySem.W PyProof.Rows
section
variable {α β : Type} (N : Nat) (key : Nat -> Nat)
variable {N key}
end
end ST
namespace L2
open PySem PySem.Spec PyProof.Rows PySem.W
section
variable {prog : Program} {w : World} {A : Around} {E : Value -> Shared -> Prop} {s : Shared}
end
section
variable {X : Cx}
end
end L2
namespace WN
noncomputable abbrev Pr:=Nat×Nat
noncomputable def kE(l:List Pr)(p:Nat):Prop:=∃ x∈l,x.1<=p/\p<=x.2
structure Rs (l : List Pr) : Prop where
 o : l.Pairwise fun x y => x.2 + 1 < y.1
 w : ∀ x ∈ l, x.1 <= x.2
theorem Rs.nil:Rs []:=⟨.nil,fun x h=>nomatch h⟩
theorem yD{p:Nat}:¬ kE [] p:=fun⟨x,h,_⟩=>nomatch h
theorem Fw{x:Pr}{l:List Pr}{p:Nat}:kE (x::l) p↔(x.1<=p/\p<=x.2)\/kE l p:=by
 constructor
 ·rintro⟨y,J,h⟩
  rcases List.mem_cons.mp J with q | q
  ·rw [q] at h;exact .inl h
  ·exact .inr ⟨y,q,h⟩
 ·rintro(h | ⟨y,J,h⟩)
  ·exact⟨x,List.mem_cons_self,h⟩
  ·exact⟨y,List.mem_cons_of_mem _ J,h⟩
theorem wW{l m:List Pr}{p:Nat}:kE (l++m) p↔kE l p\/kE m p:=by
 constructor
 ·rintro⟨y,J,h⟩
  rcases List.mem_append.mp J with q | q
  ·exact .inl ⟨y,q,h⟩
  ·exact .inr ⟨y,q,h⟩
 ·rintro(⟨y,J,h⟩ | ⟨y,J,h⟩)
  ·exact⟨y,List.mem_append_left _ J,h⟩
  ·exact⟨y,List.mem_append_right _ J,h⟩
theorem xW{x:Pr}{p:Nat}:kE [x] p↔x.1<=p/\p<=x.2:=by
 rw [Fw]
 exact⟨fun h=>h.resolve_right yD,.inl⟩
structure Pl (cov : List Bool) (acc : List Pr) (i : Nat) : Prop where
 r : Rs acc
 c : ∀ p, kE acc p ↔ p < i /\ cov[p]? = some true
theorem Pl.zero (cov:List Bool):Pl cov [] 0:=⟨Rs.nil,fun p=>⟨fun h=>absurd h yD,fun h=>absurd h.1 (by omega)⟩⟩
theorem Pl.skip {cov:List Bool}{acc:List Pr}{i:Nat}(h:Pl cov acc i)(hc:cov[i]? ≠some true):Pl cov acc (i + 1):=by
 refine⟨h.r,fun p=>(h.c p).trans ⟨fun q=>⟨by omega,q.2⟩,fun q=>⟨?_,q.2⟩⟩⟩
 rcases Nat.lt_or_ge p i with z | z
 ·exact z
 ·have e:p=i:=by omega
  rw [e] at q
  exact absurd q.2 hc
theorem Pl.new {cov:List Bool}{acc:List Pr}{i:Nat}(h:Pl cov acc i)(hc:cov[i]? =some true)(hp:i=0\/cov[i - 1]? ≠some true):Pl cov (acc++[(i,i)]) (i + 1):=by
 have far:∀ y∈acc,y.2 + 1 < i:=fun y J=>by
  have w:=h.r.w y J
  have c:=(h.c y.2).mp ⟨y,J,w,Nat.le_refl _⟩
  rcases hp with z | z
  ·omega
  ·have:y.2≠i - 1:=fun e=>by rw [e] at c;exact z c.2
   omega
 refine⟨⟨List.pairwise_append.mpr ⟨h.r.o,List.pairwise_singleton _ _,fun a ha b hb=>by rw [List.mem_singleton.mp hb];exact far a ha⟩,fun y J=>?_⟩,fun p=>?_⟩
 ·rcases List.mem_append.mp J with q | q
  ·exact h.r.w y q
  ·rw [List.mem_singleton.mp q];exact Nat.le_refl _
 ·rw [wW,xW,h.c]
  show(p < i/\cov[p]? =some true)\/(i<=p/\p<=i)↔_
  constructor
  ·rintro(q | q)
   ·exact⟨by omega,q.2⟩
   ·have e:p=i:=by omega
    rw [e];exact⟨by omega,hc⟩
  ·rintro⟨q1,U⟩
   rcases Nat.lt_or_ge p i with z | z
   ·exact .inl ⟨z,U⟩
   ·exact .inr ⟨z,by omega⟩
theorem Pl.last {cov:List Bool}{acc:List Pr}{i:Nat}(h:Pl cov acc i)(h0:i≠0)(hc:cov[i - 1]? =some true):∃ ini b,acc=ini++[(b,i - 1)]:=by
 obtain⟨y,U,y1,y2⟩:=(h.c (i - 1)).mpr ⟨by omega,hc⟩
 have ne:acc≠[]:=fun z=>by rw [z] at U;cases U
 refine⟨acc.dropLast,(acc.getLast ne).1,?_⟩
 have e:=(List.dropLast_concat_getLast ne).symm
 have last:(acc.getLast ne).2=i - 1:=by
  have w:=h.r.w _ (List.getLast_mem ne)
  have c:=(h.c (acc.getLast ne).2).mp ⟨_,List.getLast_mem ne,w,Nat.le_refl _⟩
  by_cases q:(acc.getLast ne).2=i - 1
  ·exact q
  ·have J:=U
   rw [e] at J
   rcases List.mem_append.mp J with z | z
   ·have o:=h.r.o
    rw [e] at o
    have:=(List.pairwise_append.mp o).2.2 y z _ List.mem_cons_self
    omega
   ·rw [List.mem_singleton.mp z] at y2
    omega
 rw [<-last]
 exact e
theorem Pl.long {cov:List Bool}{ini:List Pr}{b i:Nat}(h:Pl cov (ini++[(b,i - 1)]) i)(h0:i≠0)(hc:cov[i]? =some true):Pl cov (ini++[(b,i)]) (i + 1):=by
 have wb:=h.r.w (b,i - 1) (List.mem_append_right _ List.mem_cons_self)
 have aa:b<=i - 1:=wb
 refine⟨⟨?_,fun y hy=>?_⟩,fun p=>?_⟩
 ·have q:=h.r.o
  rw [List.pairwise_append] at q ⊢
  exact⟨q.1,List.pairwise_singleton _ _,fun a ha c U=>by rw [List.mem_singleton.mp U];exact q.2.2 a ha (b,i - 1) List.mem_cons_self⟩
 ·rcases List.mem_append.mp hy with q | q
  ·exact h.r.w y (List.mem_append_left _ q)
  ·rw [List.mem_singleton.mp q];show b<=i;omega
 ·have hp:=h.c p
  rw [wW,xW] at hp ⊢
  show(kE ini p\/b<=p/\p<=i)↔_
  have J:(kE ini p\/b<=p/\p<=i - 1)↔p < i/\cov[p]? =some true:=hp
  constructor
  ·rintro(q | q)
   ·have:=J.mp (.inl q)
    exact⟨by omega,this.2⟩
   ·rcases Nat.lt_or_ge p i with z | z
    ·exact⟨by omega,(J.mp (.inr ⟨q.1,by omega⟩)).2⟩
    ·have e:p=i:=by omega
     rw [e];exact⟨by omega,hc⟩
  ·rintro⟨q1,q2⟩
   rcases Nat.lt_or_ge p i with z | z
   ·rcases J.mpr ⟨z,q2⟩ with y | y
    ·exact .inl y
    ·exact .inr ⟨y.1,by omega⟩
   ·exact .inr ⟨by omega,by omega⟩
end WN
namespace K24
open PySem L2 PyProof.Rows PySem.Spec Gn K01 SH
open WN (kE Rs Pl)
noncomputable abbrev lr(H:Hp)(q:Addr)(r:Nat×Nat):Prop:=H q=some (.tup [.int r.1,.int r.2])
structure lJ (H : Hp) (a : Addr) (rs : List (Nat × Nat)) : Prop where
 ex : ∃ qs : List Addr, H a = some (.lst (qs.map V.ref)) /\ Paired (lr H) qs rs
theorem lr.upd {H:Hp}{a q:Addr}{r:Nat×Nat}{xs:List V}{o:HO}(h:lr H q r)(ha:H a=some (.lst xs)):lr (upd H a o) q r:=by
 show L2.upd H a o q=_
 rw [ig (fun z=>by have h':H q=_:=h;rw [z,ha] at h';cases h')]
 exact h
theorem lJ.put {H:Hp}{a:Addr}{qs:List Addr}{xs:List V}{rs:List (Nat×Nat)}(ha:H a=some (.lst xs))(p:Paired (lr H) qs rs):lJ (L2.upd H a (.lst (qs.map V.ref))) a rs:=⟨qs,gY,Gn.Paired.imp2 p fun _ _ h=>lr.upd h ha⟩
theorem lJ.add {H:Hp}{p q:Addr}{us:List Addr}{rs:List (Nat×Nat)}{x:Nat×Nat}(eU:H p=some (.lst (us.map V.ref)))(pU:Paired (lr H) us rs)(hq:lr H q x):lJ (L2.upd H p (.lst (us.map V.ref++[.ref q]))) p (rs++[x]):=by
 have h:=lJ.put eU (Gn.Paired.app pU hq)
 rw [List.map_append] at h
 exact h
section
variable {P : Program} {w : World} {K : PySem.W.Frag} {mg : Str -> Option Value} {base : Heap} {CT CS CL : Addr}
noncomputable def zi:Sp:=fun vs H Q _=>∃(c:Addr) (bs:List Bool),vs=[.ref c]/\H c=some (.lst (bs.map V.bl))/\bs.length<=1000/\∀ p H' acc,gO H H'->H p=none->lJ H' p acc->Pl bs acc bs.length->acc.length<=bs.length->Q (.ref p) H'
theorem va:iU ["_law_flags","_law_found","_law_place"] ["_law_flags"] (iu pD):=⟨rfl,rfl,rfl,dkq,rfl,dkq,dkq⟩
seal iD PS PE PT PA PG PI iX iW in
theorem CO{f:Addr}{fd:FuncData}(D:Df K mg "_law_rows" pD f fd)(T:Txt mg):hZ P w K mg base iw 1 f fd ["_law_flags"] zi:=by
 refine D.F.ok va (fun vs H Q E h=>?_) (fun cdv A outer s H vs Q E hr h=>?_)
 ·obtain⟨c,bs,rfl,_⟩:=h
  rfl
 ·obtain⟨c,bs,rfl,eC,aC,kk⟩:=h
  have hz:(sizeLine:Nat)=16777216:=sizeLine_eq
  refine⟨_,(gS (hU (i:=1) va.nd rfl (Or.inl rfl) (iK gP))
   (gS (kR PassesOwn.never rfl (nt rfl T.range (gN (ir jN rfl T.len i0 (gN (pv 0) gP)) gP)) (iS (i:=2) va.nd rfl (Or.inl rfl)) (g0 (iN (PW.pt (tY (jm (g9 jn (pv 0) (pv 2) (fun _ _=>rfl))) (tu (PW.pt (jj (iq jD (pv 2) gQ (iy _)) (jH (jG (jm (g9 jn (pv 0) (gX lR (pv 2) gQ) (fun _ _=>rfl)))))))))) (g0 (ke (jr F.plainAttrs_list F.slot_list_append F.type_list_append kj (pv 1) (gN (ja (gN (pv 2) (gN (pv 2) gP))) gP)))) (g0 (iN (jm (g9 jn (pv 0) (pv 2) (fun _ _=>rfl))) (g0 (rY (ja (gN (g9 iO (g9 jn (pv 1) (pw pJ gQ) (fun _ _=>rfl)) gQ (fun _ _=>rfl)) (gN (pv 2) gP))) (zf (pv 1) (pw pJ gQ) set_list))) iL)))))
   (g0 (iC (pv 1))))),?_⟩
  refine⟨Nat.zero_le _,fun f' af=>⟨_,rfl,c,_,rfl,.inl (gR.of (hJ af _ _ eC)),_,rfl,by omega,by rw [List.length_map];omega,?_⟩⟩
  rw [Int.toNat_natCast]
  have au:c≠f':=jo eC af
  have nn:(bs.map V.bl).length=bs.length:=List.length_map _
  rw [nn]
  refine oQ (fun i σ H'=>∃(acc:List (Nat×Nat)) (o2:Option V),σ=[some (.ref c),some (.ref f'),o2]/\gO H H'/\H' c=some (.lst (bs.map V.bl))/\lJ H' f' acc/\Pl bs acc i/\acc.length<=i) ?_ ?_ ?_
  ·exact⟨[],_,rfl,hJ af,hJ af _ _ eC,⟨[],gY,.nil⟩,WN.Pl.zero _,Nat.le_refl _⟩
  ·rintro i σ H2 hi ⟨acc,aw,rfl,s2,U,hR,hP,ak⟩
   rw [Int.zero_add]
   obtain⟨us,eU,pU⟩:=hR.ex
   have aa:=Paired.len pU
   have ae:bs[i]? =some bs[i]:=List.getElem?_eq_getElem hi
   have ao:∀(j:Nat) b,bs[j]? =some b->j3 (bs.map V.bl) ((j:Nat):Int)=some (.bl b):=fun j b h=>ik (by rw [List.getElem?_map,h];rfl)
   have ar:bs[i]? =some true->(i=0\/bs[i - 1]? ≠some true)->wF (tK K "list" zT (qa 1) (qh (zc (qh (qa 2) (qh (qa 2) rh))) rh)) {nx:=fun σ H'=>∃(acc:List (Nat×Nat)) (o2:Option V),σ=[some (.ref c),some (.ref f'),o2]/\gO H H'/\H' c=some (.lst (bs.map V.bl))/\lJ H' f' acc/\Pl bs acc (i + 1)/\acc.length<=i + 1,rt:=fun _ _=>False} [some (.ref c),some (.ref f'),some (.int (i:Int))] H2:=fun ht hq=>by
    refine⟨_,rfl,.inl ⟨rfl,_,gR.of eU⟩,_,rfl,_,rfl,(by show 2<=sizeLine;omega),fun t ax=>?_⟩
    have s5:=hJ (o:= .tup [.int (i:Int),.int (i:Int)]) ax
    have ah:=s5 _ _ eU
    refine⟨f',_,_,rfl,rfl,ah,by rw [List.length_map];omega,?_⟩
    exact⟨acc++[(i,i)],_,rfl,wK (s2.trans s5) af,by rw [ig au];exact s5 _ _ U,lJ.add (x:=(i,i)) ah (Paired.imp2 pU fun _ _ q=>s5 _ _ q) gY,hP.new ht hq,by rw [List.length_append];show _ + 1<=_;omega⟩
   refine⟨_,rfl,_,rfl,c,_,_,_,rfl,rfl,gR.of U,ao i _ ae,_,rfl,?_⟩
   cases hbv:bs[i] with
   | false=>
    refine g8 (g8 ⟨_,rfl,_,rfl,c,_,_,_,rfl,rfl,gR.of U,ao i _ ae,_,rfl,?_⟩)
    rw [hbv]
    exact g8 ⟨acc,_,rfl,s2,U,hR,hP.skip (by rw [ae,hbv];decide),by omega⟩
   | true=>
    rw [hbv] at ae
    refine gU ⟨_,rfl,rfl,_,rfl,?_⟩
    by_cases h0:i=0
    ·rw [Gm (show(i:Int)=0 by omega)]
     exact gU (gU (ar ae (.inl h0)))
    ·rw [DK (show(i:Int)≠0 by omega)]
     have e1:(i:Int) - 1=((i - 1:Nat):Int):=by omega
     have aq:bs[i - 1]? =some bs[i - 1]:=List.getElem?_eq_getElem (by omega)
     refine g8 ⟨_,rfl,_,rfl,_,_,rfl,rfl,c,_,_,_,rfl,rfl,gR.of U,(by rw [e1];exact ao (i - 1) _ aq),_,rfl,?_⟩
     cases hbw:bs[i - 1] with
     | false=>exact gU (ar ae (.inr (by rw [aq,hbw];decide)))
     | true=>
      rw [hbw] at aq
      refine g8 ⟨_,rfl,_,rfl,c,_,_,_,rfl,rfl,gR.of U,ao i _ ae,_,rfl,gU ?_⟩
      obtain⟨ag,b0,rfl⟩:=hP.last h0 aq
      obtain⟨J,u,rfl⟩:∃ J u,us=J++[u]:=uh (fun z=>by rw [z] at aa;rw [List.length_append] at aa;simp at aa)
      have l1:J.length=ag.length:=by rw [List.length_append,List.length_append] at aa;simpa using aa
      have ay:lr H2 u (b0,i - 1):=by
       obtain⟨a',e',av⟩:=Paired.at pU (i:=ag.length) (b:=(b0,i - 1)) (by simp)
       rw [<-l1] at e'
       have:a'=u:=by simpa using e'.symm
       rw [this] at av
       exact av
      have aA:j3 ((J++[u]).map V.ref) (-1)=some (.ref u):=by rw [List.map_append];exact tj _ _
      refine⟨_,rfl,_,rfl,f',_,_,.ref u,rfl,rfl,gR.of eU,aA,u,_,_,_,rfl,rfl,ia.of ay,ik (j:=0) rfl,_,rfl,(by show 2<=sizeLine;omega),fun t ht=>?_⟩
      have s5:=hJ (o:= .tup [.int (b0:Int),.int (i:Int)]) ht
      have ah:=s5 _ _ eU
      refine⟨_,rfl,_,rfl,f',_,_,J.length,rfl,rfl,ah,?_,?_⟩
      ·rw [List.map_append]
       have q:=Dp (J.map V.ref) (.ref u)
       rw [List.length_map] at q
       exact q
      ·have es:((J++[u]).map V.ref).set J.length (.ref t)=(J++[t]).map V.ref:=by
        rw [List.map_append,List.map_append]
        have q:=Fl (J.map V.ref) (.ref u) (.ref t)
        rw [List.length_map] at q
        exact q
       rw [es]
       have pI:Paired (lr H2) J ag:=by
        have q:=Paired.tk J.length pU
        rw [List.take_left] at q
        rw [l1,List.take_left] at q
        exact q
       have aB:Paired (lr (upd H2 t (.tup [.int (b0:Int),.int (i:Int)]))) (J++[t]) (ag++[(b0,i)]):=Paired.app (Paired.imp2 pI fun _ _ q=>s5 _ _ q) gY
       exact⟨ag++[(b0,i)],_,rfl,wK (s2.trans s5) af,by rw [ig au];exact s5 _ _ U,lJ.put ah aB,hP.long h0 ae,by rw [List.length_append] at ak ⊢;have h1:ag.length + 1<=i:=ak;show ag.length + 1<=i + 1;omega⟩
  ·rintro σ H2 ⟨acc,aw,rfl,s2,U,hR,hP,ak⟩
   exact⟨_,rfl,kk f' H2 acc s2 af hR hP ak⟩
end
noncomputable abbrev oc(c:Nat):Prop:=c≠37/\c < 128
noncomputable def Ln(z:Str)(n:Nat):Prop:=z.length<=n/\∀ c∈codes z,oc c
noncomputable def vo:Sp:=fun vs H Q _=>∃(n:Int) (z:Str),vs=[.int n,.str z]/\0<=n/\Ln z 4700/\∀ y H',gO H H'->Ln y 4800->Q (.str y) H'
theorem sS{a b:Str}(ha:∀ c∈codes a,oc c)(hb:∀ c∈codes b,oc c):∀ c∈codes (a++b),oc c:=by
 rw [qH]
 intro c h
 rcases List.mem_append.mp h with z | z
 ·exact ha c z
 ·exact hb c z
theorem Cg{z:Str}(h:∀ c∈codes z,oc c)(l u:Option Int):∀ c∈codes (Txt.slice z l u),oc c:=fun c q=>h c (vE q)
noncomputable def kf:List Str:=["","a","[a]","[a","a]","[]a","[a] [b]","[a]b","[a] b","... [a]","[a] ...","... ... [a]","\\[a]"]
noncomputable def kN:List Str:=["[a]\\","[a]\\x a","[a]\nb","[a]\tb","[a] \\\\ b","... [a] ..."]
theorem CC:∀ z∈kf++kN,z.length<=4800/\∀ c∈codes z,oc c:=dkq
theorem Gr:∀ c∈codes (Str.ofString "[]\\n. a\nZ-"),oc c:=dkq
theorem Ac{z:Str}{i:Nat}(h:i<=z.length):(Txt.slice z none (some (i:Int))).length<=i:=by
 have J:Txt.slice z none (some (i:Int))=_:=PySem.StrLaws.sliceText_to ⟨by omega,by rw [str_len];omega⟩
 rw [J,iB,List.length_take]
 exact Nat.le_trans (Nat.min_le_left _ _) (by omega)
theorem Er(x:Str)(u:Option Int){b:Int}(h:(x.length:Int)<=b):Txt.slice x (some b) u=Txt.slice x (some (x.length:Int)) u:=by
 have e:Builtin.Str.strSliceIndices (some b) u 1 x.length=Builtin.Str.strSliceIndices (some (x.length:Int)) u 1 x.length:=by
  unfold Builtin.Str.strSliceIndices
  have h0:¬ b < 0:=by omega
  have h1:¬ (x.length:Int) < 0:=by omega
  have h2:min b (x.length:Int)=min (x.length:Int) (x.length:Int):=by omega
  have p:(1:Int) > 0:=by decide
  simp only [if_neg h0,if_neg h1,h2,if_pos p]
 unfold Txt.slice
 rw [e]
theorem xa(z:Str)(j:Nat):(Txt.slice z (some (j:Int)) none).length<=z.length - j:=by
 by_cases h:j<=z.length
 ·have J:Txt.slice z (some (j:Int)) none=_:=PySem.StrLaws.sliceText_from ⟨by omega,by rw [str_len];omega⟩
  rw [J,iB,List.length_take,List.length_drop,str_len]
  omega
 ·rw [Er z none (by omega)]
  have J:Txt.slice z (some ((z.length:Nat):Int)) none=_:=PySem.StrLaws.sliceText_from ⟨by omega,by rw [str_len];omega⟩
  rw [J,iB,List.length_take,List.length_drop,str_len]
  omega
section
variable {P : Program} {w : World} {K : PySem.W.Frag} {mg : Str -> Option Value} {base : Heap} {CT CS CL : Addr}
theorem p9:iU ["_law_number_here","_law_line_here","_law_some","_law_at","_law_sign"] ["_law_number_here","_law_line_here"] (iu qb):=⟨rfl,rfl,rfl,dkq,rfl,dkq,dkq⟩
seal iD PS PE PT PA PG PI iX iW in
theorem AU{f:Addr}{fd:FuncData}(D:Df K mg "_law_spoilt_line" qb f fd)(T:Txt mg):hZ P w K mg base iw 1 f fd ["_law_number_here","_law_line_here"] vo:=by
 refine D.F.ok p9 (fun vs H Q E h=>?_) (fun cdv A outer s H vs Q E hr h=>?_)
 ·obtain⟨n,z,rfl,_⟩:=h
  rfl
 ·obtain⟨n,z,rfl,h0,⟨hl,af⟩,k⟩:=h
  have hz:(sizeLine:Nat)=16777216:=sizeLine_eq
  refine⟨_,gS (hU (i:=2) p9.nd rfl (Or.inl rfl) (iK (gN gZ (gN gZ (gN gZ (gN gZ (gN gZ (gN gZ (gN gZ (gN gZ (gN gZ (gN gZ (gN gZ (gN gZ (gN gZ gP)))))))))))))))
   (gS (hU (i:=2) p9.nd rfl (Or.inl rfl) (gX kL (pv 2) (iK (gN gZ (gN gZ (gN gZ (gN gZ (gN gZ (gN gZ gP)))))))))
   (gS (iN (iq jD (gX iZ (pv 0) gQ) gQ (iy _)) (g0 (iC (g9 jn (pv 2) (gX iZ (gX jO (pv 0) gQ) gQ) (fun _ _=>rfl)))) iL)
   (gS (hU (i:=3) p9.nd rfl (Or.inl rfl) (gX iZ (gX jO (pv 0) gQ) (gX jb (ir kg rfl T.len i0 (gN (pv 1) gP)) gQ)))
   (gS (hU (i:=4) p9.nd rfl (Or.inl rfl) (g9 me gZ (gX iZ (gX jO (pv 0) gQ) gQ) (fun _ _=>rfl)))
   (gS (iN (iq jD (gX iZ (gX jO (pv 0) gQ) gQ) gQ (iy _)) (g0 (iC (gX jF (js jU (pv 1) j6 (i5 (pv 3))) (js jU (pv 1) (i5 (gX jb (pv 3) gQ)) j6)))) iL)
   (g0 (iC (gX jF (gX jF (js jU (pv 1) j6 (i5 (pv 3))) (pv 4)) (js jU (pv 1) (i5 (gX jb (pv 3) (gX jO (gX iZ (gX jO (pv 0) gQ) gQ) gQ))) j6))))))))),?_⟩
  refine⟨by show 13<=sizeLine;omega,fun p hp=>?_⟩
  have s1:gO H (upd H p (.lst (kf.map V.str))):=hJ hp
  refine⟨_,rfl,by show 6<=sizeLine;omega,fun q hq=>?_⟩
  change upd H p (.lst (kf.map V.str)) q=none at hq
  have s2:gO (upd H p (.lst (kf.map V.str))) (upd (upd H p (.lst (kf.map V.str))) q (.lst (kN.map V.str))):=hJ hq
  refine⟨p,q,kf.map V.str,kN.map V.str,rfl,rfl,s2 _ _ gY,gY,by show 13 + 6<=sizeLine;omega,fun r ag=>?_⟩
  have s3:gO H (upd (upd (upd H p (.lst (kf.map V.str))) q (.lst (kN.map V.str))) r (.lst (kf.map V.str++kN.map V.str))):=(s1.trans s2).trans (hJ ag)
  have e3:upd (upd (upd H p (.lst (kf.map V.str))) q (.lst (kN.map V.str))) r (.lst (kf.map V.str++kN.map V.str)) r=some (.lst (kf.map V.str++kN.map V.str)):=gY
  change j8 _ _ _ _ (upd (upd (upd H p (.lst (kf.map V.str))) q (.lst (kN.map V.str))) r (.lst (kf.map V.str++kN.map V.str)))
  generalize upd (upd (upd H p (.lst (kf.map V.str))) q (.lst (kN.map V.str))) r (.lst (kf.map V.str++kN.map V.str))=H3 at s3 e3 ⊢
  refine⟨_,rfl,_,_,rfl,rfl,(by show(0:Int) < 3;decide),rfl,_,rfl,?_⟩
  refine kY (fun _=>?_) (fun _=>?_)
  ·obtain⟨y,hy,ey⟩:=qp (ss:=kf++kN) (n:=n / 3) (L:=19) (by decide) rfl
   obtain⟨o1,o2⟩:=CC y hy
   rw [List.map_append] at ey
   exact⟨_,rfl,_,rfl,_,_,rfl,rfl,⟨by decide,by decide⟩,_,_,rfl,rfl,(by show(0:Int) < 19;decide),r,_,_,_,rfl,rfl,gR.of e3,ey,k y _ s3 ⟨o1,o2⟩⟩
  ·have zl:(z.length:Nat)<=16777216:=by omega
   refine⟨_,rfl,_,_,rfl,rfl,⟨by decide,by decide⟩,_,rfl,z,rfl,by omega,_,_,rfl,rfl,_,_,rfl,rfl,(by show(0:Int) < (z.length:Int) + 1;omega),?_⟩
   have aa:∃ c,j3 (Str.ofString "[]\\n. a\nZ-").cps.toList (n / 3000 % 10)=some c/\c∈codes (Str.ofString "[]\\n. a\nZ-"):=by
    have h1:=Int.emod_nonneg (n / 3000) (show(10:Int)≠0 by decide)
    have h2:=Int.emod_lt_of_pos (n / 3000) (show(0:Int) < 10 by decide)
    obtain⟨t,ht⟩:∃ t:Nat,n / 3000 % 10=(t:Int):=⟨(n / 3000 % 10).toNat,by omega⟩
    have aq:(codes (Str.ofString "[]\\n. a\nZ-")).length=10:=dkq
    have ae:t < (codes (Str.ofString "[]\\n. a\nZ-")).length:=by omega
    refine⟨(codes (Str.ofString "[]\\n. a\nZ-"))[t],?_,List.getElem_mem ae⟩
    rw [ht]
    exact ik (List.getElem?_eq_getElem ae)
   obtain⟨c,hc,ah⟩:=aa
   have ak:∀ d∈codes (⟨#[c]⟩:Str),oc d:=fun d q=>by
    have q':d=c:=by simpa [codes] using q
    rw [q']
    exact Gr c ah
   refine⟨_,rfl,_,_,rfl,rfl,⟨by decide,by decide⟩,_,_,rfl,rfl,(by show(0:Int) < 10;decide),_,_,c,rfl,rfl,by rw [hz];decide,hc,?_⟩
   have d1:=fun l u=>Txt.slice_le z l u
   have n1:=fun l u=>Cg af l u
   refine⟨_,rfl,_,_,rfl,rfl,⟨by decide,by decide⟩,_,_,rfl,rfl,(by show(0:Int) < 3;decide),rfl,_,rfl,?_⟩
   refine kY (fun _=>?_) (fun _=>?_)
   ·refine⟨_,rfl,_,rfl,_,rfl,z,rfl,by omega,_,rfl,_,rfl,_,_,rfl,rfl,_,rfl,z,rfl,by omega,_,_,rfl,rfl,?_,?_⟩
    ·have:=d1 none (some (n / 3 % ((z.length:Int) + 1)))
     have:=d1 (some (n / 3 % ((z.length:Int) + 1) + 1)) none
     omega
    ·obtain⟨at',J⟩:∃ at':Nat,n / 3 % ((z.length:Int) + 1)=(at':Int):=⟨(n / 3 % ((z.length:Int) + 1)).toNat,by rw [Int.toNat_of_nonneg (Int.emod_nonneg _ (by omega))]⟩
     have U:at'<=z.length:=by
      have:=Int.emod_lt_of_pos (n / 3) (show(0:Int) < (z.length:Int) + 1 by omega)
      omega
     refine k _ _ s3 ⟨?_,sS (n1 _ _) (n1 _ _)⟩
     rw [PySem.Str.length_append]
     have b1:=Ac U
     have b2:=xa z (at' + 1)
     show(Txt.slice z none (some (n / 3 % ((z.length:Int) + 1)))).length + (Txt.slice z (some (n / 3 % ((z.length:Int) + 1) + 1)) none).length<=4800
     rw [J,show(at':Int) + 1=((at' + 1:Nat):Int) by omega]
     omega
   ·refine⟨_,rfl,_,rfl,_,rfl,z,rfl,by omega,_,rfl,_,_,rfl,rfl,?_,_,rfl,_,rfl,_,rfl,_,_,rfl,rfl,⟨by decide,by decide⟩,_,_,rfl,rfl,(by show(0:Int) < 3;decide),_,_,rfl,rfl,⟨by decide,by decide⟩,_,_,rfl,rfl,_,rfl,z,rfl,by omega,_,_,rfl,rfl,?_,?_⟩
    ·have:=d1 none (some (n / 3 % ((z.length:Int) + 1)))
     show(Txt.slice z none (some (n / 3 % ((z.length:Int) + 1)))).length + 1<=sizeLine
     omega
    ·rw [PySem.Str.length_append]
     have:=d1 none (some (n / 3 % ((z.length:Int) + 1)))
     have:=d1 (some (n / 3 % ((z.length:Int) + 1) + n / 90000 % 3 / 2)) none
     show(Txt.slice z none (some (n / 3 % ((z.length:Int) + 1)))).length + 1 + (Txt.slice z (some (n / 3 % ((z.length:Int) + 1) + n / 90000 % 3 / 2)) none).length<=sizeLine
     omega
    ·obtain⟨at',J⟩:∃ at':Nat,n / 3 % ((z.length:Int) + 1)=(at':Int):=⟨(n / 3 % ((z.length:Int) + 1)).toNat,by rw [Int.toNat_of_nonneg (Int.emod_nonneg _ (by omega))]⟩
     have U:at'<=z.length:=by
      have:=Int.emod_lt_of_pos (n / 3) (show(0:Int) < (z.length:Int) + 1 by omega)
      omega
     obtain⟨kk,ao⟩:∃ kk:Nat,n / 90000 % 3 / 2=(kk:Int):=⟨(n / 90000 % 3 / 2).toNat,by
      have:=Int.emod_nonneg (n / 90000) (show(3:Int)≠0 by decide)
      omega⟩
     refine k _ _ s3 ⟨?_,sS (sS (n1 _ _) ak) (n1 _ _)⟩
     rw [PySem.Str.length_append,PySem.Str.length_append]
     have b1:=Ac U
     have b2:=xa z (at' + kk)
     show(Txt.slice z none (some (n / 3 % ((z.length:Int) + 1)))).length + 1 + (Txt.slice z (some (n / 3 % ((z.length:Int) + 1) + n / 90000 % 3 / 2)) none).length<=4800
     rw [J,ao,show(at':Int) + (kk:Int)=((at' + kk:Nat):Int) by omega]
     omega
end
end K24
namespace L2
open PySem PySem.Spec PyProof.Rows
section
variable {X : Cx}
theorem Cp(hc:X.A.handled=none):kQ X (.type "list") (fun xs H Q=>∃ z,xs=[.str z]/\z.cps.size<=sizeLine/\∀ l,H l=none->Q (.ref l) (upd H l (.lst (z.cps.toList.map fun c=> .str ⟨#[c]⟩)))):=by
 intro pins s σ H xs us Q I r h
 obtain⟨z,rfl,hz,q⟩:=h
 obtain⟨u,rfl,t,rfl⟩:=vals1 r
 refine call_list_str hc z t (fun h' tk acc c' kp e hi=>?_) hz
 obtain⟨a1,a2⟩:=hi
 have rel:Vals (z.cps.toList.map fun c=>V.str ⟨#[c]⟩) acc.toList:=by
  refine se (by rw [List.length_map];simp [a1]) fun i v w hv hw=>?_
  rw [List.getElem?_map] at hv
  obtain⟨c,J,rfl⟩:=Option.map_eq_some_iff.mp hv
  have hs:=a2 i w (by simpa using hw)
  obtain⟨c2,t2,e2,e3⟩:=hs
  have U:z.cps[i]? =some c:=by simpa using J
  rw [U] at e2
  cases e2
  rw [e3]
  exact⟨_,rfl⟩
 exact⟨.ref s.heap.objs.size,_,I.laid (t':=tk) kp (Nat.le_refl _) (show jc X.prog X.w _ h' _ (.lst (z.cps.toList.map fun c=>V.str ⟨#[c]⟩)) from⟨by rw [List.length_map];simpa using hz,acc.toList,c',rel,by simpa using e⟩),rfl,q _ (I.hok.fresh (Nat.le_refl _))⟩
end
noncomputable def sX(n:Nat):It:=⟨fun i _=>i < n,fun i H x H'=>H'=H/\x= .int (2 * i),fun i _=>n<=i⟩
theorem Hz{P:Program}{w:World}{K:PySem.W.Frag}{tg:Expr}(it:Addr)(n:Nat):Turn P w K tg (sX n) [it] it (fun i h=>IsRangeIter h it (0 + (i:Nat) * 2) ((n:Int) - (i:Nat)) 2) where
 mem:=by simp
 obj:=fun i h st b hb=>by
  have e:b=it:=by simpa using hb
  subst e
  exact⟨_,st,fun v z=>by
   have z':Data.fields _=Data.cell v:=z
   cases z'⟩
 keep:=fun i h h' st k=>k it (by simp) _ st
 item:=by
  intro X U hw hK hc i pins s σ H E I hf st hg
  subst U hw hK
  obtain⟨f0,f1,f2,f3,f4,f5⟩:=hf it (by simp)
  have W:=Walks.range (prog:=X.prog) (w:=X.w) (I.ok.hd hc) it 0 2 n
  refine W.item i s _ _ hg st fun v h' tk hv J kk=>?_
  obtain⟨t,rfl⟩:=hv
  have I1:Inv X pins σ H {s with heap:=h',toks:=tk}:=I.turned (fun b o hb e=>kk b o (by simpa using hb) e) f0 f1 f3 f4 f5
  refine⟨_,rfl,rK (s:={s with heap:=h',toks:=tk}) (n:="range_iterator") J rfl rfl (by decide) ⟨.int (2 * i),H,I1,⟨t,?_⟩,⟨rfl,rfl⟩,J,fun b hb=>(hf b hb).1⟩⟩
  rw [Int.zero_add,Int.mul_comm]
 done:=by
  intro X U hw hK hc i pins s σ H E I hf st hg
  subst U hw hK
  obtain⟨f0,f1,f2,f3,f4,f5⟩:=hf it (by simp)
  exact wpAny_pyNext_range_end (I.ok.hd hc) st (by have:n<=i:=hg;omega) fun h' eb=>⟨rfl,I.turned (t':=s.toks) (fun b o hb e=>eb b o hb e) f0 f1 f3 f4 f5⟩
 self:=fun _ _ _ _ _ st h=>wpAny_pyIter_rangeiter st h
theorem D7{n:Nat}{g:TG}{tc:TT}{te:TE}{σ0:St}{H:Hp}{Q:VK}(Pv:Nat->List V->Hp->Prop)(hz:n < sizeLine)(h0:Pv 0 [] H)
  (hs:∀ i ys H (N:List V->Hp->Prop),i < n->Pv i ys H->(∀ ys' H2,Pv (i + 1) ys' H2->N ys' H2)->
   g (.int (2 * (i:Nat))) σ0 H fun σ2 H2=>tc σ2 H2 fun b H3=>if b=true then te σ2 H3 fun y H4=>N (ys++[y]) H4 else N ys H3)
  (hd:∀ ys H,Pv n ys H->ys.length<=n->∀ p,H p=none->Q (.ref p) (upd H p (.lst ys))):ni (sX n) g tc te σ0 Q H:=qK n Pv hz (fun i ys H hi _=>hi) (fun ys H _=>Nat.le_refl _) h0
 (fun i ys H v H' N hi p y J=>by
  obtain⟨e,U⟩:=y
  subst e U
  exact hs i ys _ N hi p J) hd
noncomputable def half(j:Int):Nat:=if 0 < j then ((j - 1) / 2 + 1).toNat else 0
theorem xo(j:Int):((half j:Nat):Int) - ((0:Nat):Int)=Builtin.Range.rangeSize 0 j 2:=by
 unfold half Builtin.Range.rangeSize
 rw [if_pos (by decide:(2:Int) > 0)]
 by_cases h:0 < j
 ·rw [if_pos h,if_pos h]
  omega
 ·rw [if_neg h,if_neg h]
  rfl
theorem D3{j:Int}(h1: -10<=j)(h2:j < 1000000):Builtin.Range.small 0 j 2=true:=by
 have J:Builtin.Range.rangeSize 0 j 2=(half j:Int):=by rw [<-xo];omega
 have U:(half j:Int) < 1000000/\0<=(half j:Int):=by
  unfold half
  split<;>omega
 unfold Builtin.Range.small
 rw [J,if_pos (by decide:(2:Int) > 0)]
 unfold Builtin.Range.rangeFitsLong
 simp
 omega
theorem BF(j:Int):Builtin.divisionGoesByPylong j 2=false:=by
 unfold Builtin.divisionGoesByPylong
 rfl
section
variable {X : Cx} {tg : Expr}
noncomputable def CG(ta:TA):TI:=fun σ H R=>ta σ H fun vs H1=>∃ j:Int,vs=[.int 0,.int j,.int 2]/\ -10<=j/\j < 1000000/\R (sX (half j)) H1
theorem Gp{a b c:Expr}{ta:TA}{p pos:Pos}(hg:Gl X "range")(hm:X.mg "range"=none)(ha:PA X [a,b,c] ta)(hs:starEach [a,b,c] X.env=[(false,eval a X.env),(false,eval b X.env),(false,eval c X.env)]:=by rfl)(hs2:starEach [b,c] X.env=[(false,eval b X.env),(false,eval c X.env)]:=by rfl):
  PI X tg (.Call (.Name "range" p) [a,b,c] [] pos) (CG ta):=by
 intro pins s σ H R I h
 refine Call_ (kX I hg hm boot_range (PyProof.Rows.callWith_type1 (ic (ha pos pins s σ H _ I h) fun us s1 ⟨vs,H1,I1,r1,q1⟩=>?_) (by rw [hs,hs2]) (by rw [hs2];rfl)))
 obtain⟨j,e,q1,q2,q⟩:=q1
 subst e
 cases r1 with
 | cons r U=>
  cases U with
  | cons r' U=>
   cases U with
   | cons aa U=>
    cases U
    obtain⟨t,rfl⟩:=r
    obtain⟨t',rfl⟩:=r'
    obtain⟨J,rfl⟩:=aa
    refine call_range_3 (by decide) ?_ (.inl (BF _))
    refine wpAny_pyIter_range (IsRange.new ..) (D3 q1 q2) ?_
    have I2:Inv X pins σ H1 {s1 with heap:=s1.heap.push {cls:= .type "range",data:= .fields #[.int 0 t,.int j t',.int 2 J]}}:=I1.kept (t':=s1.toks) fun b o e=>Heap.get?_push_of_some _ e
    refine⟨(s1.heap.push {cls:= .type "range",data:= .fields #[.int 0 t,.int j t',.int 2 J]}).objs.size,[(s1.heap.push {cls:= .type "range",data:= .fields #[.int 0 t,.int j t',.int 2 J]}).objs.size],_,_,H1,rfl,
     I2.kept (t':=s1.toks) fun b o e=>Heap.get?_push_of_some _ e,Hz _ (half j),?_,fun b hb=>?_,q⟩
    ·have e1:0 + ((0:Nat):Int) * 2=0:=by simp
     show IsRangeIter _ _ (0 + ((0:Nat):Int) * 2) (((half j:Nat):Int) - ((0:Nat):Int)) 2
     rw [e1,xo]
     exact Heap.get?_push_size _ rfl
    ·have e:b=(s1.heap.push {cls:= .type "range",data:= .fields #[.int 0 t,.int j t',.int 2 J]}).objs.size:=by simpa using hb
     subst e
     exact I2.fpOk (Nat.le_refl _) (I2.hok.fresh (Nat.le_refl _))
end
section
variable {X : Cx} {o : Expr} {to : TE} {name : Str} {apos cpos p1 p2 : Pos} {T id : String} {r : V -> List V -> Hp -> VK -> Prop} {i : Int} {j1 j2 : Nat} {y z : Str}
noncomputable def Ah(X:Cx)(e:Expr)(t:TE):Prop:=
 ∀(pins:List (Addr×Obj)) (s:Shared) (σ:St) (H:Hp) (Q:VK),Inv X pins σ H s->t σ H Q->wpAny (model X.prog X.w) X.A (eval e X.env) (fun v s'=>1<=s'.toks/\EP X pins σ Q v s') X.xe s
theorem EE(pa:PlainAttrs T)(slot:Slot T name id)(hty:typeOf (.builtin id)=pure (.type "method_descriptor"))(hm:kH X id r)(ho:PE X o to)
  (hbase:attributeBase o name X.env (eval o X.env)=eval o X.env:=by rfl)(hline:(apos.endLine == cpos.line)=true:=by rfl):
  Ah X (.Call (.Attribute o name apos) [.Constant (.int i) j1 p1] [] cpos) (tK X.K T r to (qh (tC (.int i)) rh)):=by
 intro pins s σ H Q I h
 refine wpAny_Call_method_late hbase rfl hline rfl (ic (ho pins s σ H _ I h) fun v s1 ⟨x,H1,J,U,ty,q1⟩=>?_)
 obtain⟨h1,h2⟩:=uU J U ty
 refine⟨T,id,pa,slot,hty,h1,h2,?_⟩
 refine Calls.callWith_builtin rfl (Calls.evalArgs_plain ?_)
 refine Calls.spliced_cons (wpAny_Constant_int (k:=j1) (pos:=p1) (Calls.spliced_nil ?_))
 refine wpAny_mono (wpAny_toks_of (n:=1) (Nat.le_add_left 1 _) (hm pins _ σ H1 x [.int i] v [.int i s1.toks] Q (J.tok _) U (.cons ⟨_,rfl⟩ .nil) q1)) (fun _ _ h=>h) (fun _ _ h=>h.2)
noncomputable def GY(to:TE)(y z:Str):TE:=fun σ H Q=>to σ H fun x H1=>∃ S,x= .str S/\(y == z)=false/\S.length + (S.length + 1) * z.length<=16777216/\Q (.str (Txt.replace S y z)) H1
theorem Ic(ho:Ah X o to)(hbase:attributeBase o "replace" X.env (eval o X.env)=eval o X.env:=by rfl)(hline:(apos.endLine == cpos.line)=true:=by rfl):
  PE X (.Call (.Attribute o "replace" apos) [.Constant (.str y) j1 p1,.Constant (.str z) j2 p2] [] cpos) (GY to y z):=by
 intro pins s σ H Q I h
 refine wpAny_Call_method_late hbase rfl hline rfl (ic (ho pins s σ H _ I h) fun v s1 ⟨ht,x,H1,U,r1,S,e,J,hl,q1⟩=>?_)
 subst e
 obtain⟨t,rfl⟩:=r1
 refine⟨"str","str.replace",F.plainAttrs_str,F.slot_str_replace,F.type_str_replace,typeIs_str _ S t,(fun _ e=>nomatch e),?_⟩
 refine Calls.callWith_builtin rfl (Calls.evalArgs_plain ?_)
 refine Calls.spliced_cons (Calls.Constant_str (k:=j1) (pos:=p1) (Calls.spliced_cons (Calls.Constant_str (k:=j2) (pos:=p2) (Calls.spliced_nil ?_))))
 refine SC.replace (u:=s1.toks) (v:=s1.toks + 1) (Nat.ne_of_gt ht) (Nat.succ_ne_zero _) (Nat.ne_of_lt (Nat.lt_succ_self _)) J hl fun t' k=>?_
 exact⟨.str (Txt.replace S y z),H1,(U.tok _),⟨_,rfl⟩,q1⟩
end
end L2
namespace SH
open K01 (Wd words iG)
theorem Ao(R:List Nat)(n:Nat)(o:Bool):go (iH (91::R)) n o=if o then none else (go (iH R) n true).map fun x=>(x.1,n::x.2):=by
 rw [lg (by decide)]
 show(if _ then _ else _)=_
 rw [if_pos rfl]
theorem yt(R:List Nat)(n:Nat)(o:Bool):go (iH (93::R)) n o=if o then (go (iH R) n false).map fun x=>(x.1,n::x.2) else none:=by
 rw [lg (by decide)]
 show(if _ then _ else if _ then _ else _)=_
 rw [if_neg (by decide),if_pos rfl]
theorem yp(d:Nat)(R:List Nat)(n:Nat)(o:Bool):go (iH (92::d::R)) n o=match sgn [92,d] with | none=>none | some c=>(go (iH R) (n + 1) o).map fun x=>(c::x.1,x.2):=by
 rw [mL]
 show(if _ then _ else if _ then _ else _)=_
 rw [if_neg (fun z=>by cases z),if_neg (fun z=>by cases z)]
 try (cases sgn [92,d]<;>rfl)
theorem zx{c:Nat}(h1:c≠91)(h2:c≠93)(h3:c≠92)(R:List Nat)(n:Nat)(o:Bool):go (iH (c::R)) n o=if c < 32\/126 < c then none else (go (iH R) (n + 1) o).map fun x=>(c::x.1,x.2):=by
 rw [lg h3]
 show(if _ then _ else if _ then _ else _)=_
 rw [if_neg (fun z=>h1 (by injection z)),if_neg (fun z=>h2 (by injection z)),rC]
 by_cases q:c < 32\/126 < c
 ·rw [if_pos q,if_pos (.inr q)]
 ·rw [if_neg q,if_neg (fun z=>z.elim h3 q)]
noncomputable def jI(M R S es:List Nat):Prop:=go (iH M) 0 false=(go (iH R) S.length (decide (es.length % 2=1))).map fun x=>(S++x.1,es++x.2)
theorem AM{M R S es:List Nat}{c:Nat}(h:jI M (c::R) S es)(hc:c=91/\es.length % 2=0\/c=93/\es.length % 2=1):jI M R S (es++[S.length]):=by
 unfold jI at h ⊢
 rw [h,List.length_append,List.length_singleton]
 rcases hc with ⟨rfl,e⟩ | ⟨rfl,e⟩
 ·rw [Ao,decide_eq_false (by omega),decide_eq_true (show(es.length + 1) % 2=1 by omega),if_neg (by decide)]
  cases go (iH R) S.length true<;>simp
 ·rw [yt,decide_eq_true e,decide_eq_false (show ¬ (es.length + 1) % 2=1 by omega),if_pos rfl]
  cases go (iH R) S.length false<;>simp
theorem Ci{M R S es:List Nat}{c:Nat}(h:jI M (c::R) S es)(hc:c=91/\es.length % 2=1\/c=93/\es.length % 2=0):go (iH M) 0 false=none:=by
 unfold jI at h
 rw [h]
 rcases hc with ⟨rfl,e⟩ | ⟨rfl,e⟩
 ·rw [Ao,decide_eq_true e];rfl
 ·rw [yt,decide_eq_false (by omega)];rfl
theorem Ia{M R S es:List Nat}{c:Nat}(h:jI M (c::R) S es)(h1:c≠91)(h2:c≠93)(h3:c≠92)(hc:¬ (c < 32\/126 < c)):jI M R (S++[c]) es:=by
 unfold jI at h ⊢
 rw [h,zx h1 h2 h3,if_neg hc,List.length_append,List.length_singleton]
 cases go (iH R) (S.length + 1) (decide (es.length % 2=1))<;>simp
theorem xE{M R S es:List Nat}{c:Nat}(h:jI M (c::R) S es)(h1:c≠91)(h2:c≠93)(h3:c≠92)(hc:c < 32\/126 < c):go (iH M) 0 false=none:=by
 unfold jI at h
 rw [h,zx h1 h2 h3,if_pos hc]
 rfl
theorem Gf{M R S es:List Nat}{d c:Nat}(h:jI M (92::d::R) S es)(hc:sgn [92,d]=some c):jI M R (S++[c]) es:=by
 unfold jI at h ⊢
 rw [h,yp,hc,List.length_append,List.length_singleton]
 show Option.map _ (Option.map _ _)=_
 cases go (iH R) (S.length + 1) (decide (es.length % 2=1))<;>simp
theorem BJ{M R S es:List Nat}{d:Nat}(h:jI M (92::d::R) S es)(hc:sgn [92,d]=none):go (iH M) 0 false=none:=by
 unfold jI at h
 rw [h,yp,hc]
 rfl
theorem Hx{M S es:List Nat}(h:jI M [92] S es):go (iH M) 0 false=none:=by
 unfold jI at h
 rw [h]
 rfl
theorem CD{M S es:List Nat}(h:jI M [] S es):go (iH M) 0 false=some (S,es):=by
 unfold jI at h
 rw [h]
 show some (S++[],es++[])=_
 rw [List.append_nil,List.append_nil]
theorem pairs_len:∀ es:List Nat,(pairs es).length=es.length / 2
 | []=>rfl
 | [a]=>by simp [pairs]
 | a::b::r=>by
  show(pairs r).length + 1=(r.length + 1 + 1) / 2
  rw [pairs_len r]
  omega
theorem yx:∀(es:List Nat) (i:Nat),i < es.length / 2->∃ a b,es[2 * i]? =some a/\es[2 * i + 1]? =some b/\(pairs es)[i]? =some (a,b)
 | [],_,h=>absurd h (Nat.not_lt_zero _)
 | [a],_,h=>by simp at h
 | a::b::r,0,_=>⟨a,b,rfl,rfl,rfl⟩
 | a::b::r,i + 1,h=>by
  have h':i + 1 < (r.length + 1 + 1) / 2:=h
  exact yx r i (by omega)
theorem FP{L:List Nat}{c:Nat}(h:c∈mid L):c∈L:=List.mem_of_mem_drop (List.mem_of_mem_take h)
theorem BZ(L:List Nat):(mid L).length<=L.length:=by
 unfold mid sl
 rw [List.length_take,List.length_drop]
 omega
theorem Gw{l:List Nat}{q:List Nat}(h:q∈iH l){c:Nat}(hc:c∈q):c∈l:=by
 rw [<-nY l]
 exact List.mem_flatten.mpr ⟨q,h,hc⟩
end SH
namespace K24
open PySem L2 PyProof.Rows PySem.Spec Gn K01 SH
theorem BI(L:List Nat):Txt.slice ⟨L.toArray⟩ none (some 4)=⟨(L.take 4).toArray⟩:=by
 have:=qW L 0 4 (Nat.zero_le _)
 have e:Txt.slice ⟨L.toArray⟩ none (some 4)=Txt.slice ⟨L.toArray⟩ (some ((0:Nat):Int)) (some ((4:Nat):Int)):=by
  have e:Builtin.Str.strSliceIndices none (some 4) 1 (⟨L.toArray⟩:Str).length=Builtin.Str.strSliceIndices (some ((0:Nat):Int)) (some ((4:Nat):Int)) 1 (⟨L.toArray⟩:Str).length:=by
   rw [iB]
   unfold Builtin.Str.strSliceIndices
   have p:(1:Int) > 0:=by decide
   have a2:¬ ((0:Nat):Int) < 0:=by omega
   have J:¬ ((4:Nat):Int) < 0:=by omega
   have U:max 0 (min ((0:Nat):Int) L.length)=0:=by omega
   simp only [if_pos p,if_neg a2,if_neg J,U]
   rfl
  unfold Txt.slice
  rw [e]
 rw [e,this]
 rfl
theorem DZ(L:List Nat):Txt.slice ⟨L.toArray⟩ (some (-4)) none=⟨(L.drop (L.length - 4)).toArray⟩:=by
 have:=qW L (L.length - 4) L.length (by omega)
 have e:Txt.slice ⟨L.toArray⟩ (some (-4)) none=Txt.slice ⟨L.toArray⟩ (some ((L.length - 4:Nat):Int)) (some (L.length:Int)):=by
  have e:Builtin.Str.strSliceIndices (some (-4)) none 1 (⟨L.toArray⟩:Str).length=Builtin.Str.strSliceIndices (some ((L.length - 4:Nat):Int)) (some (L.length:Int)) 1 (⟨L.toArray⟩:Str).length:=by
   rw [iB]
   unfold Builtin.Str.strSliceIndices
   have p:(1:Int) > 0:=by decide
   have a1:(-4:Int) < 0:=by decide
   have a2:¬ ((L.length - 4:Nat):Int) < 0:=by omega
   have J:¬ (L.length:Int) < 0:=by omega
   have U:max 0 (min (-4 + (L.length:Int)) L.length)=max 0 (min ((L.length - 4:Nat):Int) L.length):=by omega
   have a5:(L.length:Int)=max 0 (min (L.length:Int) L.length):=by omega
   simp only [if_pos p,if_pos a1,if_neg a2,if_neg J,U,<-a5]
  unfold Txt.slice
  rw [e]
 rw [e,this]
 unfold sl
 rw [List.take_of_length_le (by rw [List.length_drop];omega)]
theorem CV{d c:Nat}(h:sgn [92,d]=some c):Txt.replace ⟨#[d]⟩ (Str.ofString "n") (Str.ofString "\n")=⟨#[c]⟩:=by
 rw [rE] at h
 split at h
 ·rename_i z
  cases h
  rcases z with rfl | rfl | rfl<;>decide +kernel
 ·split at h
  ·rename_i z
   cases h
   subst z
   decide +kernel
  ·cases h
end K24
namespace L2
open PySem PySem.Spec PyProof.Rows
theorem Bp{X:Cx}:jg X (compareOp .Gt) (fun x y H Q=>∃ i j,x= .str i/\y= .str j/\Q (.bl (decide (j.cps.toList < i.cps.toList))) H):=by
 intro pins s σ H x y v u Q I J U h
 obtain⟨i,j,rfl,rfl,q⟩:=h
 obtain⟨t,rfl⟩:=J
 obtain⟨t',rfl⟩:=U
 exact PySem.P.gt_str (i7 I q rfl)
end L2
namespace K24
open PySem L2 PyProof.Rows PySem.Spec Gn K01 SH
noncomputable abbrev kc(R:List Nat):List V:=R.map fun c=>V.str ⟨#[c]⟩
noncomputable abbrev mq(R:List Nat):List PyData:=R.map fun c=>PyData.str ⟨#[c]⟩
theorem vf{H:Hp}:∀ R:List Nat,ji H (kc R) (mq R)
 | []=> .nil
 | c::R=> .cons (.str _) (vf R)
theorem ud:∀{R:List Nat},(∀ c∈R,oc c)->(PyData.list (mq R)).canLay0=true
 | [],_=>rfl
 | c::R,h=>by
  have J:=ud (R:=R) fun d hd=>h d (List.mem_cons_of_mem _ hd)
  have hc:=h c (List.mem_cons_self ..)
  have e:PyData.strOk (⟨#[c]⟩:Str)=true:=by
   unfold PyData.strOk
   simp
   omega
  show((PyData.strOk ⟨#[c]⟩) && (PyData.list (mq R)).canLay0)=true
  rw [e,J]
  rfl
theorem vD(R:List Nat):PyData.eqv (.list (mq R)) (.list [])=R.isEmpty:=by cases R<;>rfl
theorem Bw(n:Nat):half ((n:Int) - 1)=n / 2:=by
 unfold half
 split<;>omega
theorem Bk(L:List Nat):Txt.slice ⟨L.toArray⟩ (some (4 * (if sA L=true then 1 else 0))) (some (((⟨L.toArray⟩:Str).length:Int) - 4 * (if eB L=true then 1 else 0)))=⟨(mid L).toArray⟩:=by
 have h1:(4:Int) * (if sA L=true then 1 else 0)=((q4 (sA L) 4:Nat):Int):=by cases sA L<;>rfl
 have h2:((⟨L.toArray⟩:Str).length:Int) - 4 * (if eB L=true then 1 else 0)=((L.length - q4 (eB L) 4:Nat):Int):=by
  rw [iB]
  cases h:eB L with
  | true=>
   have:=vX h
   show(L.length:Int) - 4 * 1=((L.length - 4:Nat):Int)
   omega
  | false=>
   show(L.length:Int) - 4 * 0=((L.length - 0:Nat):Int)
   omega
 rw [h1,h2,qW L _ _ (by
  cases h:sA L with
  | true=>exact xA h
  | false=>exact Nat.zero_le _)]
 rfl
theorem xr(n:Nat):seqIndex? 0 (n + 1)=some 0:=by
 unfold seqIndex?
 simp
 try omega
theorem EI(M:List Nat):jI M M [] []:=by
 unfold jI
 show _=Option.map _ (go (iH M) 0 false)
 cases go (iH M) 0 false<;>rfl
noncomputable def mf(l:Addr)(H:Hp):Nat:=match H l with | some (.lst xs)=>xs.length | _=>0
theorem oy{l:Addr}{H:Hp}{xs:List V}(h:H l=some (.lst xs)):mf l H=xs.length:=by unfold mf;rw [h]
theorem Fq(c:Nat):(!(Builtin.Str.occurrences (Str.ofString "[]") ⟨#[c]⟩ 0 (Str.ofString "[]").length 1).isEmpty)=decide (c=91\/c=93):=by
 rw [oB]
 exact decide_eq_decide.mpr (by show c∈[91,93]↔_;simp)
theorem EM(c:Nat):(!(Builtin.Str.occurrences (Str.ofString "[]\\n") ⟨#[c]⟩ 0 (Str.ofString "[]\\n").length 1).isEmpty)=(sgn [92,c]).isSome:=by
 rw [oB,rE]
 have e:decide (c∈(Str.ofString "[]\\n").cps.toList)=decide (c=91\/c=93\/c=92\/c=110):=decide_eq_decide.mpr (by show c∈[91,93,92,110]↔_;simp)
 rw [e]
 by_cases h:c=91\/c=93\/c=92
 ·rw [if_pos h,decide_eq_true (by omega)];rfl
 ·by_cases h2:c=110
  ·rw [if_neg h,if_pos h2,decide_eq_true (by omega)];rfl
  ·rw [if_neg h,if_neg h2,decide_eq_false (by omega)];rfl
theorem HK(c:Nat):decide ((⟨#[c]⟩:Str).cps.toList < (Str.ofString " ").cps.toList)=decide (c < 32):=decide_eq_decide.mpr (by show [c] < [32]↔_;rw [List.cons_lt_cons_iff];simp)
theorem DO(c:Nat):decide ((Str.ofString "~").cps.toList < (⟨#[c]⟩:Str).cps.toList)=decide (126 < c):=decide_eq_decide.mpr (by show [126] < [c]↔_;rw [List.cons_lt_cons_iff];simp)
noncomputable def ya:Sp:=fun vs H Q _=>∃ L:List Nat,vs=[.str ⟨L.toArray⟩]/\L.length<=4800/\(∀ c∈L,oc c)/\∀ v H',gO H H'->Due H' L v->Q v H'
section
variable {P : Program} {w : World} {K : PySem.W.Frag} {mg : Str -> Option Value} {base : Heap}
noncomputable abbrev yE:List Str:=["_law_line_here","_law_ahead","_law_behind","_law_rest","_law_signs","_law_edges","_law_sign","_law_marks"]
theorem lM:iU yE ["_law_line_here"] (iu oV):=⟨rfl,rfl,rfl,dkq,rfl,dkq,dkq⟩
theorem Dc:(["_law_k","_law_edges"]:List Str).Nodup:=dkq
seal iD PS PE PT PA PG PI iX iW in
theorem E9{f fw fi:Addr}{fd fdw fdi:FuncData}(D:Df K mg "_law_meant" oV f fd)(DW:Df K mg "_law_words" mO fw fdw)(DI:Df K mg "_law_is_piece" mw fi fdi)(GW:hZ P w K mg base iw 2 fw fdw ["_law_text_here"] qj)(T:Txt mg):hZ P w K mg base iw 3 f fd ["_law_line_here"] ya:=by
 have GI:hZ P w K mg base iw 2 fi fdi ["_law_words_here","_law_begin","_law_end","_law_marks"] tN:=(zq DI).mono (by decide)
 have bW:=jM (p:="_law_text_here") DW.F fun _ _ _ _ _ _ _=>rfl
 have bI:=DI.F.binds (ps:=["_law_words_here","_law_begin","_law_end","_law_marks"]) fun _ _ _ _ _ _ us hl=>match us,hl with | [_,_,_,_],_=>rfl
 refine D.F.ok lM (fun vs H Q E h=>?_) (fun cdv A outer s H vs Q E hr h=>?_)
 ·obtain⟨L,rfl,_⟩:=h
  rfl
 ·obtain⟨L,rfl,hl,aV,k⟩:=h
  have hz:(sizeLine:Nat)=16777216:=sizeLine_eq
  refine⟨_,gS (hU (i:=1) lM.nd rfl (Or.inl rfl) (k9 jD (js jU (pv 0) j6 (i5 gQ)) gZ (iy _)))
   (gS (hU (i:=2) lM.nd rfl (Or.inl rfl) (k9 jD (js jU (pv 0) (i5 (pw pJ gQ)) j6) gZ (iy _)))
   (gS (hU (i:=3) lM.nd rfl (Or.inl rfl) (lq (Cp hr.hd) rfl T.list mW (gN (js jU (pv 0) (i5 (gX lB gQ (lq oP rfl T.int mz (gN (pv 1) gP)))) (i5 (gX lR (ir kg rfl T.len i0 (gN (pv 0) gP)) (gX lB gQ (lq oP rfl T.int mz (gN (pv 2) gP)))))) gP)))
   (gS (hU (i:=4) lM.nd rfl (Or.inl rfl) gZ)
   (gS (hU (i:=5) lM.nd rfl (Or.inr rfl) (iK gP))
   (gS (vp PassesOwn.never (iq (nF hr.units100) (pv 3) (iK gP) (iy _))
    (gS (hU (i:=6) lM.nd rfl (Or.inl rfl) (jr F.plainAttrs_list F.slot_list_pop F.type_list_pop wO (pv 3) (gN gQ gP)))
    (gS (iN (iq qZ (pv 6) gZ rfl)
     (gS (iN (iq lh (g9 me gZ (gX iZ (ir jN rfl T.len i0 (gN (pv 5) gP)) gQ) (fun _ _=>rfl)) (pv 6) (iy _)) (g0 (iC lK)) iL)
     (gS (ke (jr F.plainAttrs_list F.slot_list_append F.type_list_append kj (pv 5) (gN (ir kg rfl T.len i0 (gN (pv 4) gP)) gP)))
     (g0 Hd))) iL)
    (gS (iN (PW.pt (tY (iq jD (pv 6) gZ (iy _)) (tu (PW.pt (jj (iq (oS hr.units100) (pv 3) (iK gP) (iy _)) (jH (iq zt (g9 jn (pv 3) gQ (fun _ _=>rfl)) gZ rfl))))))) (g0 (iC lK)) iL)
    (gS (iN (iq jD (pv 6) gZ (iy _)) (g0 (hU (i:=6) lM.nd rfl (Or.inl rfl) (Ic (EE F.plainAttrs_list F.slot_list_pop F.type_list_pop wO (pv 3)))))
     (g0 (iN (PW.pt (jj (iq FF (pv 6) gZ (iy _)) (jH (iq Bp (pv 6) gZ (iy _))))) (g0 (iC lK)) iL)))
    (g0 (hU (i:=4) lM.nd rfl (Or.inl rfl) (gX jF (pv 4) (pv 6)))))))))
   (gS (mE (i:=7) lM.nd rfl (Or.inl rfl) (own:=1) (caps:=[5]) (N:=["_law_k","_law_edges"]) (N0:=yE) (sc0:=iu oV) rfl (Gp rfl T.range (gN gQ (gN (gX lR (ir jN rfl T.len i0 (gN (pv 5) gP)) gQ) (gN gQ gP))))
    (fun _ _ _=>iS (i:=0) Dc rfl (Or.inl rfl)) (fun _ _ _=>k8)
    (fun _ _ _=>ja (gN (g9 (rT (K:=K) rfl) (pv 1) (pv 0) (fun _ _=>rfl)) (gN (g9 (rT (K:=K) rfl) (pv 1) (gX jb (pv 0) gQ) (fun _ _=>rfl)) gP)))
    (jK (by decide)) rfl rfl dkq rfl dkq dkq rfl dkq (fun _ _ _ h=>h))
   (gS (iN (PW.pt (jj (iq jD (gX iZ (ir jN rfl T.len i0 (gN (pv 5) gP)) gQ) gQ (iy _)) (jH (iq ng (gX jb (gX jb (ir kg rfl T.len i0 (gN (pv 4) gP)) (gX lB gQ (lq oP rfl T.int mz (gN (pv 1) gP)))) (gX lB gQ (lq oP rfl T.int mz (gN (pv 2) gP)))) gQ (iy _))))) (g0 (iC lK)) iL)
   (gS (iN (jG (jm (iE GI hr rfl DI.m DI.F.kp bI .nil iM (gN (iE GW hr rfl DW.m DW.F.kp bW .nil iM (gN (pv 4) gP)) (gN gQ (gN (ir kg rfl T.len i0 (gN (pv 4) gP)) (gN (pv 7) gP))))))) (g0 (iC lK)) iL)
   (g0 (iC (ja (gN (pv 1) (gN (pv 4) (gN (pv 7) (gN (pv 2) gP))))))))))))))),?_⟩
  have al:(⟨L.toArray⟩:Str).length=L.length:=iB L
  have e1:decide (V.str (Txt.slice ⟨L.toArray⟩ none (some 4))=V.str (Str.ofString "... "))=sA L:=by rw [BI];exact mK (L.take 4) dA
  have e2:decide (V.str (Txt.slice ⟨L.toArray⟩ (some (-4)) none)=V.str (Str.ofString " ..."))=eB L:=by rw [DZ];exact mK _ dB
  refine⟨_,rfl,_,rfl,_,rfl,by rw [al];omega,rfl,?_⟩
  show kq 1 (V.bl (decide (V.str (Txt.slice ⟨L.toArray⟩ none (some 4))=V.str (Str.ofString "... ")))) _ _ _
  rw [e1]
  refine⟨_,rfl,_,rfl,_,rfl,_,rfl,by rw [al];omega,rfl,?_⟩
  show kq 2 (V.bl (decide (V.str (Txt.slice ⟨L.toArray⟩ (some (-4)) none)=V.str (Str.ofString " ...")))) _ _ _
  rw [e2]
  refine⟨_,rfl,_,rfl,.inr ⟨_,rfl,_,_,rfl,rfl,.inl ⟨by decide,by decide⟩,_,rfl,_,rfl,_,rfl,by rw [al];omega,_,rfl,.inr ⟨_,rfl,_,_,rfl,rfl,.inl ⟨by decide,by decide⟩,_,_,rfl,rfl,_,rfl,_,rfl,by rw [al];omega,_,rfl,?_⟩⟩⟩
  show(Txt.slice ⟨L.toArray⟩ (some (4 * (if sA L=true then 1 else 0))) (some (((⟨L.toArray⟩:Str).length:Int) - 4 * (if eB L=true then 1 else 0)))).cps.size<=sizeLine/\_
  rw [Bk]
  have ml:=BZ L
  have mo:∀ c∈mid L,oc c:=fun c hc=>aV c (FP hc)
  refine⟨by show(mid L).toArray.size<=_;rw [List.size_toArray];omega,fun l aC=>⟨Nat.zero_le _,fun e ar=>?_⟩⟩
  have hle:l≠e:=fun z=>by rw [<-z,gY] at ar;cases ar
  have aI:H e=none:=by rw [ig (Ne.symm hle)] at ar;exact ar
  have aJ:gO H (upd (upd H l (.lst (kc (mid L)))) e (.lst [])):=gO.upf (hJ aC) ar
  have aK:upd (upd H l (.lst (kc (mid L)))) e (.lst []) l=some (.lst (kc (mid L))):=by rw [ig hle,gY]
  have aL:upd (upd H l (.lst (kc (mid L)))) e (.lst []) e=some (.lst []):=gY
  show tS _ _ _ _ (upd (upd H l (.lst (kc (mid L)))) e (.lst []))
  generalize upd (upd H l (.lst (kc (mid L)))) e (.lst [])=H0 at aJ aK aL ⊢
  have J:∀{H'},go (iH (mid L)) 0 false=none->gO H H'->Q .non H':=fun{H'} hg s'=>k _ _ s' (.inl ⟨by unfold jS;rw [hg],rfl⟩)
  refine xm (fun σ H'=>∃(R S es:List Nat) (o:Option V),σ=[some (.str ⟨L.toArray⟩),some (.bl (sA L)),some (.bl (eB L)),some (.ref l),some (.str ⟨S.toArray⟩),some (.ref e),o,none]/\gO H H'/\H' l=some (.lst (kc R))/\H' e=some (.lst (es.map fun n:Nat=>V.int n))/\(∀ c∈R,oc c)/\S.length + es.length + R.length<=(mid L).length/\jI (mid L) R S es)
   (fun _ H=>mf l H) ⟨mid L,[],[],none,rfl,aJ,aK,aL,mo,by simp,EI _⟩ ?_ ?_
  ·rintro σ H' ⟨R,S,es,o,rfl,sm,hL,hE,ho,hn,hR⟩
   refine⟨_,rfl,Nat.zero_le _,fun p hp=>?_⟩
   have s1:gO H' (upd H' p (.lst [])):=hJ hp
   have lay:(PyData.list (mq R)).canLay0=true:=ud ho
   refine⟨.list (mq R),.list [],.lst (gR.of (s1 _ _ hL)) (vf R).dt,.lst (gR.of gY) .nil,lay,rfl,Nat.le_trans (Nat.min_le_right _ _) (by decide),_,rfl,?_⟩
   rw [vD]
   have aD:=s1 _ _ hL
   have ak:=s1 _ _ hE
   have aE:=sm.trans s1
   generalize upd H' p (.lst [])=H1 at s1 aD ak aE ⊢
   cases R with
   | nil=>
    refine g8 ?_
    have aF:=CD hR
    have aM:S.length + es.length + 0<=(mid L).length:=hn
    have pl:=pairs_len es
    refine⟨_,rfl,e,_,rfl,.inl (gR.of ak),_,_,rfl,rfl,_,rfl,by rw [List.length_map];omega,by rw [List.length_map];omega,?_⟩
    rw [List.length_map,Bw]
    refine D7 (fun i ys H7=>gO H1 H7/\∃ us:List Addr,ys=us.map V.ref/\Paired (fun u (n:Nat×Nat)=>H7 u=some (.tup [.int n.1,.int n.2])) us ((pairs es).take i)) (by omega) ⟨gO.refl _,[],rfl,.nil⟩ ?_ ?_
    ·rintro i ys H7 N hi ⟨s7,us,rfl,aw⟩ hN
     obtain⟨x,y,hx,hy,aW⟩:=yx es i hi
     refine g1 ?_
     have aX:j3 (es.map fun n:Nat=>V.int n) (2 * (i:Int))=some (.int x):=by
      rw [show 2 * (i:Int)=((2 * i:Nat):Int) by omega]
      exact ik (by rw [List.getElem?_map,hx];rfl)
     have aY:j3 (es.map fun n:Nat=>V.int n) (2 * (i:Int) + 1)=some (.int y):=by
      rw [show 2 * (i:Int) + 1=((2 * i + 1:Nat):Int) by omega]
      exact ik (by rw [List.getElem?_map,hy];rfl)
     refine⟨_,rfl,_,rfl,e,_,_,_,rfl,rfl,gR.of (s7 _ _ ak),aX,_,rfl,_,rfl,_,_,rfl,rfl,e,_,_,_,rfl,rfl,gR.of (s7 _ _ ak),aY,lQ,fun q hq=>?_⟩
     refine hN _ _ ⟨gO.upf s7 hq,us++[q],by rw [List.map_append];rfl,?_⟩
     rw [List.take_add_one,aW]
     exact Gn.Paired.app (Gn.Paired.imp2 aw fun _ _ e=>hJ hq _ _ e) gY
    ·rintro ys H7 ⟨s7,us,rfl,aw⟩ _ m hm
     rw [<-pl,List.take_length] at aw
     have s8:gO H7 (upd H7 m (.lst (us.map V.ref))):=hJ hm
     have em:upd H7 m (.lst (us.map V.ref)) m=some (.lst (us.map V.ref)):=gY
     generalize upd H7 m (.lst (us.map V.ref))=H8 at s8 em ⊢
     have aN:=s7.trans s8
     have aO:=aE.trans aN
     have aP:jL H8 m (pairs es):=⟨us,em,Gn.Paired.imp2 aw fun _ _ e=>s8 _ _ e⟩
     have ag:((es.map fun n:Nat=>V.int n).length:Int) % 2=((es.length % 2:Nat):Int):=by rw [List.length_map];omega
     have au:∀{H9},gO H8 H9->(es.length % 2=1\/2000 < S.length + q4 (sA L) 2 + q4 (eB L) 2\/iQ (words S) 0 S.length ((pairs es).map zP)=false)->Q .non H9:=fun{H9} s9 hh=>k _ _ (aO.trans s9) (.inl ⟨by
      unfold jS
      rw [aF]
      exact if_pos hh,rfl⟩)
     refine⟨_,rfl,e,_,rfl,.inl (gR.of (aN _ _ ak)),_,_,rfl,rfl,(by show(0:Int) < 2;decide),rfl,_,rfl,?_⟩
     refine kY (fun hb=>?_) (fun hb=>?_)
     ·have av:es.length % 2=1:=by
       have h1:V.int (((es.map fun n:Nat=>V.int n).length:Int) % 2)=V.int 1:=of_decide_eq_true hb
       injection h1 with h1
       rw [ag] at h1
       omega
      exact gU (au (gO.refl _) (.inl av))
     ·have av:¬ es.length % 2=1:=fun z=>by
       have h1:¬ V.int (((es.map fun n:Nat=>V.int n).length:Int) % 2)=V.int 1:=fun z=>hb (decide_eq_true z)
       rw [ag,z] at h1
       exact h1 rfl
      refine⟨_,rfl,_,rfl,by rw [iB];omega,_,rfl,.inr ⟨_,rfl,_,_,rfl,rfl,.inl ⟨by decide,by decide⟩,_,_,rfl,rfl,_,rfl,.inr ⟨_,rfl,_,_,rfl,rfl,.inl ⟨by decide,by decide⟩,_,_,rfl,rfl,_,_,rfl,rfl,_,rfl,?_⟩⟩⟩
      have aZ:decide ((2000:Int) < ((⟨S.toArray⟩:Str).length:Int) + 2 * (if sA L=true then 1 else 0) + 2 * (if eB L=true then 1 else 0))=decide (2000 < S.length + q4 (sA L) 2 + q4 (eB L) 2):=by
       rw [iB]
       cases sA L<;>cases eB L<;>exact decide_eq_decide.mpr (by show _ < _ + _ * _ + _ * _↔_ < _ + (_:Nat) + _;simp [q4];omega)
      rw [aZ]
      by_cases U:2000 < S.length + q4 (sA L) 2 + q4 (eB L) 2
      ·rw [decide_eq_true U]
       exact gU (au (gO.refl _) (.inr (.inl U)))
      ·rw [decide_eq_false U]
       have hS:S.all iG=true:=qB _ _ _ (nP _) (fun q hq a0=>(mo 37 (Gw hq a0)).1 rfl) aF
       refine g8 ⟨_,rfl,⟨S.toArray⟩,rfl,⟨by rw [iB];omega,by rw [jY];exact hS⟩,fun a H9 s9 ha hW=>?_⟩
       rw [jY] at hW
       refine⟨_,rfl,_,rfl,by rw [iB];omega,_,rfl,a,m,0,_,words S,(pairs es).map zP,rfl,hW,lX S,?_,(aP.same s9).i,fun a7 aQ=>⟨_,rfl,?_⟩⟩
       ·have:=sZ S
        omega
       rw [iB]
       cases hpc:iQ (words S) 0 S.length ((pairs es).map zP) with
       | false=>exact gU (au (s9.trans aQ) (.inr (.inr hpc)))
       | true=>
        refine g8 ⟨_,rfl,_,rfl,_,rfl,_,rfl,by show 4<=sizeLine;omega,fun p hp=>?_⟩
        have aR:=s9.trans aQ
        refine k _ _ (gO.upf (aO.trans aR) hp) (.inr ⟨sA L,S,pairs es,eB L,p,m,?_,hS,by omega,rfl,gY,(aP.same aR).same (hJ hp)⟩)
        unfold jS
        rw [aF]
        refine if_neg fun hh=>?_
        rcases hh with hh | hh | hh
        ·exact av hh
        ·exact U hh
        ·rw [hpc] at hh;cases hh
   | cons c R=>
    refine gU ?_
    have hc:=ho c (List.mem_cons_self ..)
    have ax:∀ d∈R,oc d:=fun d hd=>ho d (List.mem_cons_of_mem _ hd)
    have aM:S.length + es.length + (R.length + 1)<=(mid L).length:=hn
    refine⟨_,rfl,.inl ⟨rfl,_,gR.of aD⟩,l,_,0,0,_,rfl,rfl,aD,by decide,by decide,xr _,rfl,?_⟩
    have aa:upd H1 l (.lst ((kc (c::R)).eraseIdx 0)) l=some (.lst (kc R)):=gY
    have ao:upd H1 l (.lst ((kc (c::R)).eraseIdx 0)) e=some (.lst (es.map fun n:Nat=>V.int n)):=by rw [ig (Ne.symm hle)];exact ak
    have ae:gO H (upd H1 l (.lst ((kc (c::R)).eraseIdx 0))):=kA aE aC
    generalize upd H1 l (.lst ((kc (c::R)).eraseIdx 0))=H2 at aa ao ae ⊢
    refine⟨_,rfl,_,_,rfl,rfl,_,rfl,?_⟩
    rw [Fq]
    by_cases hb:c=91\/c=93
    ·rw [decide_eq_true hb]
     refine gU ?_
     have ag:((es.map fun n:Nat=>V.int n).length:Int) % 2=((es.length % 2:Nat):Int):=by rw [List.length_map];omega
     obtain⟨x,hx,aS⟩:∃ x,j3 (Str.ofString "[]").cps.toList (((es.map fun n:Nat=>V.int n).length:Int) % 2)=some x/\x=if es.length % 2=0 then 91 else 93:=by
      rw [ag]
      rcases Nat.mod_two_eq_zero_or_one es.length with q | q<;>rw [q]
      ·exact⟨91,rfl,rfl⟩
      ·exact⟨93,rfl,rfl⟩
     refine⟨_,rfl,e,_,rfl,.inl (gR.of ao),_,_,rfl,rfl,(by show(0:Int) < 2;decide),_,_,x,rfl,rfl,by rw [hz];decide,hx,_,rfl,rfl,_,rfl,?_⟩
     rw [show decide (V.str ⟨#[x]⟩=V.str ⟨#[c]⟩)=decide (x=c) from oW x c]
     by_cases aq:x=c
     ·rw [decide_eq_true aq]
      refine g8 ⟨_,rfl,.inl ⟨rfl,_,gR.of ao⟩,_,rfl,_,rfl,by rw [iB];omega,e,_,_,rfl,rfl,ao,by rw [List.length_map];omega,?_⟩
      rw [iB]
      refine⟨⟨R,S,es++[S.length],_,rfl,kA ae aI,by rw [ig hle];exact aa,by rw [gY,List.map_append];rfl,ax,by rw [List.length_append];simp;omega,AM hR ?_⟩,?_⟩
      ·rw [<-aq,aS]
       rcases Nat.mod_two_eq_zero_or_one es.length with q | q<;>rw [q]
       ·exact .inl ⟨rfl,rfl⟩
       ·exact .inr ⟨rfl,rfl⟩
      ·show mf l _ < mf l _
       rw [oy hL,oy (xs:=kc R) (by rw [ig hle];exact aa)]
       simp
     ·rw [decide_eq_false aq]
      refine gU (J (Ci hR ?_) ae)
      rw [aS] at aq
      rcases Nat.mod_two_eq_zero_or_one es.length with q | q
      ·rw [if_pos q] at aq
       exact .inr ⟨by omega,q⟩
      ·rw [if_neg (by omega)] at aq
       exact .inl ⟨by omega,q⟩
    ·rw [decide_eq_false hb]
     refine g8 ?_
     have aG:c≠91:=fun z=>hb (.inl z)
     have aH:c≠93:=fun z=>hb (.inr z)
     refine⟨_,rfl,rfl,_,rfl,?_⟩
     rw [show decide (V.str ⟨#[c]⟩=V.str (Str.ofString "\\"))=decide (c=92) from oW c 92]
     by_cases af:c=92
     ·rw [decide_eq_true af]
      subst af
      refine gU ⟨_,rfl,Nat.zero_le _,fun p2 a6=>?_⟩
      have s3:gO H2 (upd H2 p2 (.lst [])):=hJ a6
      have aT:(PyData.list (mq R)).canLay0=true:=ud ax
      refine⟨.list (mq R),.list [],.lst (gR.of (s3 _ _ aa)) (vf R).dt,.lst (gR.of gY) .nil,aT,rfl,Nat.le_trans (Nat.min_le_right _ _) (by decide),_,rfl,?_⟩
      rw [vD]
      have ay:=s3 _ _ aa
      have aU:=s3 _ _ ao
      have aA:=ae.trans s3
      generalize upd H2 p2 (.lst [])=H3 at s3 ay aU aA ⊢
      cases R with
      | nil=>exact gU (gU (J (Hx hR) aA))
      | cons d R=>
       refine g8 ⟨_,rfl,l,_,_,_,rfl,rfl,gR.of ay,ik (j:=0) rfl,_,_,rfl,rfl,_,rfl,?_⟩
       rw [EM]
       cases hsg:sgn [92,d] with
       | none=>exact gU (J (BJ hR hsg) aA)
       | some x=>
        refine g8 ⟨_,rfl,rfl,_,rfl,?_⟩
        rw [show decide (V.str ⟨#[92]⟩=V.str (Str.ofString "\\"))=true from oW 92 92]
        refine gU ⟨_,rfl,.inl ⟨rfl,_,gR.of ay⟩,l,_,0,0,_,rfl,rfl,ay,by decide,by decide,xr _,rfl,_,rfl,dkq,by show 1 + (1 + 1) * 1<=16777216;decide,?_⟩
        rw [CV hsg]
        refine⟨_,rfl,_,rfl,_,_,rfl,rfl,by rw [iB];show S.length + 1<=sizeLine;omega,?_⟩
        show kq 4 (V.str (⟨S.toArray⟩++⟨[x].toArray⟩)) _ _ _
        rw [jw]
        have a8:S.length + es.length + (R.length + 1 + 1)<=(mid L).length:=aM
        refine⟨⟨R,S++[x],es,_,rfl,kA aA aC,gY,by rw [ig (Ne.symm hle)];exact aU,fun d' hd=>ax d' (List.mem_cons_of_mem _ hd),by rw [List.length_append];simp;omega,Gf hR hsg⟩,?_⟩
        show mf l _ < mf l _
        rw [oy hL,oy (xs:=kc R) (show upd H3 l (.lst ((kc (d::R)).eraseIdx 0)) l=some (.lst (kc R)) from gY)]
        simp
        try omega
     ·rw [decide_eq_false af]
      refine g8 ⟨_,rfl,rfl,_,rfl,?_⟩
      rw [show decide (V.str ⟨#[c]⟩=V.str (Str.ofString "\\"))=decide (c=92) from oW c 92,decide_eq_false af]
      refine g8 ⟨_,rfl,_,_,rfl,rfl,_,rfl,?_⟩
      rw [HK]
      by_cases aB:c < 32
      ·rw [decide_eq_true aB]
       exact gU (gU (J (xE hR aG aH af (.inl aB)) ae))
      ·rw [decide_eq_false aB]
       refine g8 ⟨_,rfl,_,_,rfl,rfl,_,rfl,?_⟩
       rw [DO]
       by_cases ah:126 < c
       ·rw [decide_eq_true ah]
        exact gU (J (xE hR aG aH af (.inr ah)) ae)
       ·rw [decide_eq_false ah]
        refine g8 ⟨_,rfl,_,rfl,_,_,rfl,rfl,by rw [iB];show S.length + 1<=sizeLine;omega,?_⟩
        show kq 4 (V.str (⟨S.toArray⟩++⟨[c].toArray⟩)) _ _ _
        rw [jw]
        refine⟨⟨R,S++[c],es,_,rfl,ae,aa,ao,ax,by rw [List.length_append];simp;omega,Ia hR aG aH af (fun z=>z.elim aB ah)⟩,?_⟩
        show mf l _ < mf l _
        rw [oy hL,oy aa]
        simp
  ·intro σ H' Q1 Q2 hq h
   obtain⟨x,h1,h2,h3⟩:=h
   refine⟨x,h1,h2,fun p hp=>?_⟩
   obtain⟨dx,dy,a1,a2,a3,a4,a5,b,e3,q⟩:=h3 p hp
   exact⟨dx,dy,a1,a2,a3,a4,a5,b,e3,hq _ _ q⟩
end
end K24
namespace PySem
section
variable {prog : Program} {w : World} {A : Around} {E : Value -> Shared -> Prop} {s : Shared} {I S l : Addr} {fp wr : List Addr} {n : Nat} {P : Nat -> Value -> Prop} {St : Nat -> Heap -> Prop}
theorem z5{R':Result->Shared->Prop}(W:Walks prog w A.in1 I fp wr n P St)(hS:S∉fp)(res:Value)(hn:n < sizeLine):∀(r k:Nat) (s:Shared) (acc:Array Value) (c:Nat),n - k=r->k<=n->
  St k s.heap->s.heap.get? S=some {cls:= .type "list",data:= .seq acc c}->ItemsOf P acc k->
  (∀(h':Heap) (tk:Nat) (acc':Array Value) (c':Nat),(∀ b o,b∉S::wr->s.heap.get? b=some o->h'.get? b=some o)->h'.get? S=some {cls:= .type "list",data:= .seq acc' c'}->ItemsOf P acc' n->R' (.ok (.ret res)) {s with heap:=h',toks:=tk})->
  codeAny (model prog w) A (.builtin "list.extend.loop" ⟨[.ref S,.ref I,res],[]⟩) R' s
 | 0,k,s,acc,c,hr,hk,hj,hl,ha,hR=>by
  refine codeAny_builtin F.entry_extend_loop ?_
  rw [Around.under_plainId F.plain_extend_loop _]
  show wpAny _ A.in1 (pyNext (.ref I) >>= _) _ _ s
  have e:k=n:=by omega
  subst e
  refine wpAny_bind (W.done s _ _ hj fun h' tk J=>?_)
  exact wpAny_pure (hR h' tk acc c (fun b o hb e=>J b o (fun q=>hb (List.mem_cons_of_mem _ q)) e) (J S _ (fun q=>hS (W.sub _ q)) hl) ha)
 | r + 1,k,s,acc,c,hr,hk,hj,hl,ha,hR=>by
  refine codeAny_builtin F.entry_extend_loop ?_
  rw [Around.under_plainId F.plain_extend_loop _]
  show wpAny _ A.in1 (pyNext (.ref I) >>= _) _ _ s
  refine wpAny_bind (W.item k s _ _ (by omega) hj fun v h' tk hv af J=>?_)
  have U:h'.get? S=some {cls:= .type "list",data:= .seq acc c}:=J S _ (fun q=>hS (W.sub _ q)) hl
  show wpAny _ A.in1 (updateSeq S (·.push v) >>= _) _ _ _
  refine wpAny_bind (wpAny_updateSeq U rfl ?_ (by have:=ha.1;omega) (by have:=ha.1;simp;omega))
  have ag:=Heap.get?_update_self (Obj.mapSeq (·.push v)) U rfl
  have aa:∀ b o,b≠S->h'.get? b=some o->(h'.update S (Obj.mapSeq (·.push v))).get? b=some o:=fun b o q e=>(Heap.get?_update_other _ _ (Ne.symm q)).trans e
  refine wpAny_pure ⟨plainId_quiet F.plain_extend_loop _,?_⟩
  refine z5 W hS res hn r (k + 1) {s with heap:=h'.update S (Obj.mapSeq (·.push v)),toks:=tk} (acc.push v) _ (by omega) (by omega) (W.frame _ _ _ af fun b hb o e=>aa b o (fun q=>hS (q ▸ hb)) e) ag ⟨by simp [ha.1],fun j u hu=>?_⟩ fun h3 ah ae c3 k3 l3 a3=>?_
  ·rw [Array.getElem?_push] at hu
   split at hu
   ·rename_i q
    cases hu
    rw [q,ha.1]
    exact hv
   ·exact ha.2 j u hu
  ·exact hR h3 ah ae c3 (fun b o hb e=>k3 b o hb (aa b o (fun q=>hb (q ▸ List.mem_cons_self)) (J b o (fun q=>hb (List.mem_cons_of_mem _ q)) e))) l3 a3
theorem E2:typeLookup (.type "list_reverseiterator") "__length_hint__"=pure (some (.builtin "list_reverseiterator.__length_hint__")):=by kernel_rfl
theorem Cj:typeLookup (.type "list_reverseiterator") "__len__"=pure none:=by kernel_rfl
theorem HH:isSubtype (.type "list_reverseiterator") (.type "list_reverseiterator")=pure true:=by kernel_rfl
theorem Bq:splitId "list_reverseiterator.__length_hint__"=some ("list_reverseiterator","__length_hint__"):=by kernel_rfl
theorem CA{R':Result->Shared->Prop}(W:Walks prog w A.in1 I fp wr n P St)(hS:S∉fp)(hI:I∈fp)(hn:n < sizeLine)(hT:s.TypeIs (.ref I) "list_reverseiterator")(hj:St 0 s.heap)(hl:s.heap.get? S=some {cls:= .type "list",data:= .seq #[]})
  (hR:∀(h':Heap) (tk:Nat) (acc':Array Value) (c':Nat),(∀ b o,b∉S::wr->s.heap.get? b=some o->h'.get? b=some o)->h'.get? S=some {cls:= .type "list",data:= .seq acc' c'}->ItemsOf P acc' n->R' (.ok (.ret .none)) {s with heap:=h',toks:=tk}):
  wpAny (model prog w) A.in1 (Builtin.«list.__init__» ⟨[.ref S,.ref I],[]⟩) (fun fin s'=>match fin with | .done f=>R' (.ok f) s' | .again c'=>c'.quiet=true/\codeAny (model prog w) A c' R' s') (fun e s'=>R' (.error e) s') s:=by
 have U:S≠I:=fun q=>hS (q ▸ hI)
 unfold Builtin.«list.__init__»
 show wpAny _ _ (Builtin.List.listItems (.ref S) >>= fun old=>Builtin.List.listUpdate (.ref S) (fun _=>#[]) >>= fun _=>letGo old.toList.reverse >>= fun _=>Builtin.List.listExtendWith (.ref S) (.ref I) .none) _ _ _
 refine wpAny_bind (wpAny_listItems hl rfl ?_)
 refine wpAny_bind (wpAny_updateSeq hl rfl ?_)
 have e1:=Heap.get?_update_self (Obj.mapSeq (fun _=>(#[]:Array Value))) hl rfl
 have o1:∀ b o,b≠S->s.heap.get? b=some o->(s.heap.update S (Obj.mapSeq (fun _=>(#[]:Array Value)))).get? b=some o:=fun b o q e=>(Heap.get?_update_other _ _ (Ne.symm q)).trans e
 generalize s.heap.update S (Obj.mapSeq (fun _=>(#[]:Array Value)))=H1 at e1 o1
 refine wpAny_bind (wpAny_letGo ?_)
 unfold Builtin.List.listExtendWith
 have J:Shared.TypeIs {s with heap:=H1} (.ref I) "list_reverseiterator":=by
  obtain⟨o,e,c⟩:=hT
  exact⟨o,o1 _ _ (Ne.symm U) e,c⟩
 have aa:St 0 H1:=W.frame _ _ _ hj fun b hb o e=>o1 b o (fun q=>hS (q ▸ hb)) e
 refine wpAny_bind (wpAny_typeOf J ?_)
 have h1:Builtin.List.listSameRef (.ref S) (.ref I)=false:=by
  simp only [Builtin.List.listSameRef,beq_eq_false_iff_ne];exact U
 have h2:(Value.type "list_reverseiterator" == Value.type "list")=false:=by decide
 have h3:(Value.type "list_reverseiterator" == Value.type "tuple")=false:=by decide
 simp only [h1,h2,h3,Bool.or_false,Bool.false_eq_true,if_false]
 refine wpAny_bind (W.self 0 _ _ _ aa ?_)
 refine wpAny_bind (wpAny_holding ?_)
 unfold Builtin.List.listLengthHint
 refine wpAny_bind (wpAny_specialOf J Cj ?_)
 show wpAny _ _ (specialOf (.ref I) "__length_hint__" >>= _) _ _ _
 refine wpAny_bind (wpAny_specialOf J E2 ?_)
 simp only [Bq]
 refine wpAny_bind (wpAny_isInstance J HH ?_)
 rw [if_neg (by decide:¬ (!true)=true),if_pos (by kernel_rfl),if_neg (by decide)]
 refine wpAny_pure ?_
 rw [if_neg dkq]
 refine wpAny_pure ⟨plainId_quiet F.plain_extend_loop _,z5 W hS .none hn _ 0 {s with heap:=H1} #[] _ rfl (Nat.zero_le _) aa e1 ⟨rfl,fun j v h=>by simp at h⟩ fun h' tk acc' c' kk ae af=>?_⟩
 exact hR h' tk acc' c' (fun b o hb e=>kk b o hb (o1 b o (fun q=>hb (q ▸ List.mem_cons_self)) e)) ae af
theorem Ge{Q:Value->Shared->Prop}(W:Walks prog w A.in1.in1 I fp wr n P St)(hI:I∈fp)(hn:n < sizeLine)(hT:s.TypeIs (.ref I) "list_reverseiterator")(hj:St 0 s.heap)(hb:∀ q∈fp,q < s.heap.objs.size)
  (hQ:∀(h':Heap) (tk:Nat) (acc':Array Value) (c':Nat),(∀ b o,b∉s.heap.objs.size::wr->s.heap.get? b=some o->h'.get? b=some o)->h'.get? s.heap.objs.size=some {cls:= .type "list",data:= .seq acc' c'}->ItemsOf P acc' n->Q (.ref s.heap.objs.size) {s with heap:=h',toks:=tk}):
  wpAny (model prog w) A (call (.type "list") [.ref I]) Q E s:=by
 obtain⟨c,tl,ak⟩:=F.called_list.mro
 have ag:=F.called_list.made
 have ao:=F.called_list.sub
 refine wpAny_call (codeAny_of_tree ?_)
 show wpAny _ _ (callAny (.type "list") _) _ _ _
 refine wpAny_pure ⟨Code.quiet_builtin _ dkq,codeAny_builtin F.entry_type_call ?_⟩
 rw [Around.under_plain (weight_type_call_type "list" [.ref I] []) rfl]
 have h1:=F.called_list.notType
 have h2:=F.called_list.canCreate
 have aq:=F.typeCall_list_1 (.ref I)
 repeat (any_goals (first | assumption | wp_step))
 refine codeAny_mono (code_list_new (.ref I) (E:=E) (Q₁:=fun obj U=>obj= .ref s.heap.objs.size/\U={s with heap:=s.heap.push {cls:= .type "list",data:= .seq #[]}}) ⟨rfl,rfl⟩) fun r U hr=>?_
 cases r with
 | error e=>exact hr
 | ok fl=>
  cases fl with
  | ret obj=>
   obtain⟨rfl,rfl⟩:=hr
   generalize hH:s.heap.push {cls:= .type "list",data:= .seq #[]}=H
   have hS:H.get? s.heap.objs.size=some {cls:= .type "list",data:= .seq #[]}:=by rw [<-hH];exact Heap.get?_push_size _ rfl
   have up:∀ b o,s.heap.get? b=some o->H.get? b=some o:=fun b o e=>by rw [<-hH];exact Heap.get?_push_of_some _ e
   have ah:Shared.TypeIs {s with heap:=H} (.ref s.heap.objs.size) "list":=⟨_,hS,rfl⟩
   have ar:=F.called_list.init.lookup
   have au:=F.called_list.init.bind (.ref s.heap.objs.size)
   repeat (any_goals (first | assumption | wp_step))
   have nS:s.heap.objs.size∉fp:=fun q=>Nat.lt_irrefl _ (hb _ q)
   refine codeAny_mono (codeAny_call_builtin (R:=wants (fun r aa=>r= .none/\∃ h' tk acc' c',aa={s with heap:=h',toks:=tk}/\(∀ b o,b∉s.heap.objs.size::wr->s.heap.get? b=some o->h'.get? b=some o)/\
     h'.get? s.heap.objs.size=some {cls:= .type "list",data:= .seq acc' c'}/\ItemsOf P acc' n) E) F.called_list.init.plain F.entry_list_init (xU ah ?_)) fun af aa J=>?_
   ·refine CA (s:={s with heap:=H}) W nS hI hn (by obtain⟨o,e,c⟩:=hT;exact⟨o,up _ _ e,c⟩) (W.frame _ _ _ hj fun b _ o e=>up b o e) hS fun h' tk acc' c' kk l' a'=>?_
    exact⟨rfl,h',tk,acc',c',rfl,fun b o hb e=>kk b o hb (up b o e),l',a'⟩
   ·cases af with
    | error e=>exact J
    | ok ae=>
     cases ae with
     | ret r=>
      obtain⟨rfl,h',tk,acc',c',rfl,kk,l',a'⟩:=J
      repeat (any_goals (first | assumption | wp_step))
      exact hQ _ _ _ _ kk l' a'
     | _=>exact J.elim
  | next=>exact hr.elim
  | brk=>exact hr.elim
  | cont=>exact hr.elim
end
end PySem
namespace L2
open PySem PySem.Spec PyProof.Rows
section
variable {X : Cx}
noncomputable def Ep(ta:TA):TE:=fun σ H Q=>ta σ H fun vs H1=>∃(l:Addr) (xs:List V),vs=[.ref l]/\H1 l=some (.lst xs)/\xs.length < sizeLine/\∀ p,H1 p=none->Q (.ref p) (upd H1 p (.lst xs.reverse))
theorem Ca{a:Expr}{ta:TA}{p1 p2 q1 q2:Pos}(hc:X.A.handled=none)(hg1:Gl X "list")(hm1:X.mg "list"=none)(hg2:Gl X "reversed")(hm2:X.mg "reversed"=none)(ha:PA X [a] ta)
  (hs:starEach [a] X.env=[(false,eval a X.env)]:=by rfl):
  PE X (.Call (.Name "list" p1) [.Call (.Name "reversed" p2) [a] [] q2] [] q1) (Ep ta):=by
 intro pins s σ H Q I h
 refine wpAny_Call_Name_kw (kX (u:= .type "list") I hg1 hm1 rfl ?_ (by decide) (by decide))
 refine PyProof.Rows.callWith_type1 ?_ rfl rfl
 show wpAny _ _ (spliced ((false,eval (.Call (.Name "reversed" p2) [a] [] q2) X.env)::[])) _ _ s
 refine Calls.spliced_cons ?_
 refine wpAny_Call_Name_kw (kX (u:= .type "reversed") I hg2 hm2 rfl ?_ (by decide) (by decide))
 refine PyProof.Rows.callWith_type1 (ic (ha q2 pins s σ H _ I h) fun us s1 ⟨vs,H1,I1,r1,q1⟩=>?_) hs rfl
 obtain⟨l,xs,e,hA,hlen,q⟩:=q1
 subst e
 obtain⟨u,rfl,ru⟩:=vals1 r1
 cases ru
 obtain⟨J,rv,pl,hz⟩:=I1.list (gR.of hA)
 have il:=rv.length
 refine call_reversed_list pl.isList ?_
 refine Calls.spliced_nil ?_
 have lt:l < s1.heap.objs.size:=by obtain⟨o,e,_⟩:=pl.isList;exact Heap.lt_size e
 have e0:((J.toArray.size:Nat):Int) - 1=(J.toArray.size:Int) - 1 - ((0:Nat):Int):=by omega
 rw [e0]
 have up:∀ b o,s1.heap.get? b=some o->(s1.heap.push (revObj l ((J.toArray.size:Int) - 1 - ((0:Nat):Int)))).get? b=some o:=fun b o e=>Heap.get?_push_of_some _ e
 have hit:(s1.heap.push (revObj l ((J.toArray.size:Int) - 1 - ((0:Nat):Int)))).IsRevIter s1.heap.objs.size l ((J.toArray.size:Int) - 1 - ((0:Nat):Int)):=⟨_,Heap.get?_push_size _ rfl,rfl,rfl⟩
 have U:(s1.heap.push (revObj l ((J.toArray.size:Int) - 1 - ((0:Nat):Int)))).objs.size=s1.heap.objs.size + 1:=Heap.size_push ..
 have hL:(s1.heap.push (revObj l ((J.toArray.size:Int) - 1 - ((0:Nat):Int)))).IsList l J.toArray:=by
  obtain⟨o,e,r⟩:=pl.isList
  exact⟨o,up _ _ e,r⟩
 generalize s1.heap.push (revObj l ((J.toArray.size:Int) - 1 - ((0:Nat):Int)))=h2 at up hit U hL ⊢
 have W:=Walks.listRev (prog:=X.prog) (w:=X.w) (A:=X.A.in1.in1) (by simpa using hc) s1.heap.objs.size l (Nat.ne_of_lt lt) J.toArray
 refine Ge (s:={s1 with heap:=h2}) W (by simp) (by rw [List.size_toArray];omega) hit.typeIs ⟨Nat.zero_le _,hit,hL⟩ (fun q hq=>?_) fun h' tk aa c' kk af ag=>?_
 ·show q < h2.objs.size
  rw [U]
  simp only [List.mem_cons,List.not_mem_nil,or_false] at hq
  rcases hq with r | r
  ·rw [r];exact Nat.lt_succ_self _
  ·rw [r];exact Nat.lt_succ_of_lt lt
 ·have kp:∀ b o,s1.heap.get? b=some o->h'.get? b=some o:=fun b o e=>kk b o (fun z=>by
   have b0:=Heap.lt_size e
   simp only [List.mem_cons,List.not_mem_nil,or_false] at z
   rcases z with r | r
   ·rw [r] at b0
    have b1:h2.objs.size < s1.heap.objs.size:=b0
    rw [U] at b1
    exact absurd (Nat.lt_of_succ_lt b1) (Nat.lt_irrefl _)
   ·rw [r] at b0
    exact Nat.lt_irrefl _ b0) (up b o e)
  have rel:Vals xs.reverse aa.toList:=by
   obtain⟨a1,a2⟩:=ag
   refine se (by rw [List.length_reverse];simp [a1,il]) fun i v w' hv hw=>?_
   have hi:i < xs.length:=by
    have:=(List.getElem?_eq_some_iff.mp hv).1
    rw [List.length_reverse] at this
    exact this
   have ah:=a2 i w' (by simpa using hw)
   rw [List.getElem?_reverse hi] at hv
   obtain⟨u',ak,ao⟩:=rv.get hv
   have e2:J[xs.length - 1 - i]? =some w':=by
    rw [il]
    simpa using ah
   rw [ak] at e2
   cases e2
   exact ao
  have ae:s1.heap.objs.size<=h2.objs.size:=by rw [U];exact Nat.le_succ _
  exact⟨.ref h2.objs.size,_,I1.laid (t':=tk) kp ae (show jc X.prog X.w _ h' _ (.lst xs.reverse) from⟨by rw [List.length_reverse];omega,aa.toList,c',rel,by simpa using af⟩),rfl,q _ (I1.hok.fresh ae)⟩
end
end L2
namespace K24
open PySem L2 PyProof.Rows PySem.Spec Gn K01 SH
noncomputable def wN:PyData->Nat
 | .tuple [_,_,.list ds]=>ds.length
 | _=>0
noncomputable def Pd(H:Hp)(v:V):Prop:=∃ d,iR H v d/\d.canLay0=true
noncomputable def Bd(H:Hp)(v:V):Prop:=∃ d,iR H v d/\d.canLay0=true/\wN d<=7000
theorem Pd.same {H H':Hp}(s:gO H H'){v:V}(h:Pd H v):Pd H' v:=by obtain⟨d,h,q⟩:=h;exact⟨d,h.same s,q⟩
theorem Bd.same {H H':Hp}(s:gO H H'){v:V}(h:Bd H v):Bd H' v:=by obtain⟨d,h,q⟩:=h;exact⟨d,h.same s,q⟩
theorem qT{d:PyData}{ds:List PyData}(h1:d.canLay0=true)(h2:(PyData.list ds).canLay0=true):(PyData.list (d::ds)).canLay0=true:=by
 show(d.canLay0 && (PyData.list ds).canLay0)=true
 rw [h1,h2]
 rfl
theorem sN{x y z:PyData}(h1:x.canLay0=true)(h2:y.canLay0=true)(h3:z.canLay0=true):(PyData.list [x,y,z]).canLay0=true:=qT h1 (qT h2 (qT h3 rfl))
theorem pX{H:Hp}:∀{xs:List V},(∀ x∈xs,Pd H x)->∃ ds,ji H xs ds/\(PyData.list ds).canLay0=true
 | [],_=>⟨[],.nil,rfl⟩
 | x::xs,h=>by
  obtain⟨d,hd,U⟩:=h x (List.mem_cons_self ..)
  obtain⟨ds,J,q2⟩:=pX (xs:=xs) fun y hy=>h y (List.mem_cons_of_mem _ hy)
  exact⟨d::ds,.cons hd J,qT U q2⟩
theorem CQ{H:Hp}{p:Addr}{xs:List V}(e:H p=some (.lst xs))(h:∀ x∈xs,Pd H x):Pd H (.ref p):=by
 obtain⟨ds,J,q⟩:=pX h
 exact⟨_,.lst e J,q⟩
theorem mM{H:Hp}{p l:Addr}{x y:V}{xs:List V}(e:H p=some (.tup [x,y,.ref l]))(hx:Pd H x)(hy:Pd H y)(el:H l=some (.lst xs))(h:∀ x∈xs,Pd H x)(hn:xs.length<=7000):Bd H (.ref p):=by
 obtain⟨dx,hx,U⟩:=hx
 obtain⟨dy,hy,q2⟩:=hy
 obtain⟨ds,J,q3⟩:=pX h
 refine⟨.tuple [dx,dy,.list ds],.tup e (.cons hx (.cons hy (.cons (.lst el J) .nil))),sN U q2 q3,?_⟩
 show ds.length<=7000
 rw [<-J.len]
 exact hn
theorem nZ{xs:List V}{lo hi:Option Int}{v:V}(h:v∈jB xs lo hi):v∈xs:=List.mem_of_mem_drop (List.mem_of_mem_take h)
theorem two{B H:Hp}{a l:Addr}{o:HO}{xs:List V}(s:gO B H)(hB:B l=none)(hl:H l=some (.lst xs))(ha:H a=none):∃ B' H',upd H a o=H'/\gO B B'/\gO B' H'/\B' l=none/\B' a=some o/\H' l=some (.lst xs):=by
 have ne:l≠a:=fun z=>by rw [z,ha] at hl;cases hl
 have J:B a=none:=s.free ha
 refine⟨upd B a o,_,rfl,hJ J,fun b u e=>?_,by rw [ig ne];exact hB,gY,by rw [ig ne];exact hl⟩
 by_cases q:b=a
 ·subst q
  rw [gY] at e ⊢
  exact e
 ·rw [ig q] at e ⊢
  exact s b u e
noncomputable def Av:Sp:=fun vs H Q _=>∃(n:Int) (x:V) (p m:Addr) (b e:Nat) (ns:List (Nat×Nat)),vs=[.int n,x,.ref p]/\0<=n/\H p=some (.tup [.int b,.int e,.ref m])/\jL H m ns/\1<=ns.length/\ns.length<=2000/\∀ v H',gO H H'->Bd H' v->Q v H'
section
variable {P : Program} {w : World} {K : PySem.W.Frag} {mg : Str -> Option Value} {base : Heap}
noncomputable abbrev Bz:List Str:=["_law_number_here","_law_text_here","_law_piece_here","_law_begin","_law_end","_law_marks","_law_at","_law_one","_law_other","_law_some","_law_more"]
theorem lj:iU Bz ["_law_number_here","_law_text_here","_law_piece_here"] (iu qD):=⟨rfl,rfl,rfl,dkq,rfl,dkq,dkq⟩
seal iD PS PE PT PA PG PI iX iW in
theorem FO{f:Addr}{fd:FuncData}(D:Df K mg "_law_spoilt_piece" qD f fd)(T:Txt mg):hZ P w K mg base iw 1 f fd ["_law_number_here","_law_text_here","_law_piece_here"] Av:=by
 refine D.F.ok lj (fun vs H Q E h=>?_) (fun cdv A outer s H vs Q E hr h=>?_)
 ·obtain⟨n,x,p,m,b,e,ns,rfl,_⟩:=h
  rfl
 ·obtain⟨n,x,p,m,b,e,ns,rfl,h0,hp,⟨ps,em,pm⟩,n1,n2,k⟩:=h
  have hz:(sizeLine:Nat)=16777216:=sizeLine_eq
  have pn:(ps.map V.ref).length=ns.length:=by rw [List.length_map];exact Gn.Paired.len pm
  refine⟨_,gS (rY (pv 2) (kS (n:=3) rfl (jx (iS (i:=3) lj.nd rfl (Or.inl rfl)) (jx (iS (i:=4) lj.nd rfl (Or.inl rfl)) (jx (iS (i:=5) lj.nd rfl (Or.inl rfl)) k7)))))
   (gS (hU (i:=6) lj.nd rfl (Or.inl rfl) (gX iZ (gX jO (pv 0) gQ) (ir jN rfl T.len i0 (gN (pv 5) gP))))
   (gS (rY (g9 jn (pv 5) (pv 6) (fun _ _=>rfl)) (kS (n:=2) rfl (jx (iS (i:=7) lj.nd rfl (Or.inl rfl)) (jx (iS (i:=8) lj.nd rfl (Or.inl rfl)) k7))))
   (gS (hU (i:=9) lj.nd rfl (Or.inl rfl) (iK (gN lK (gN (ja (gN (pv 3) (gN (pv 4) gP))) (gN (iK (gN (pv 3) (gN (pv 4) (gN (pv 5) gP)))) (gN (ja (gN (pv 3) (gN (pv 4) (gN (lq HY rfl T.tuple oG (gN (pv 5) gP)) gP)))) (gN (ja (gN (pv 3) (gN (pv 4) (gN (iK gP) gP)))) (gN (ja (gN jW (gN (pv 4) (gN (pv 5) gP)))) gP))))))))
   (gS (hU (i:=9) lj.nd rfl (Or.inl rfl) (gX kL (pv 9) (iK (gN (ja (gN (pv 3) (gN (pv 4) (gN (gX kL (pv 5) (iK (gN lK gP))) gP)))) (gN (ja (gN (pv 3) (gN (pv 4) (gN (iK (gN (iK (gN (pv 3) (gN (pv 4) gP))) gP)) gP)))) (gN gZ (gN (ja (gN (pv 4) (gN (pv 3) (gN (pv 5) gP)))) gP)))))))
   (gS (hU (i:=10) lj.nd rfl (Or.inl rfl) (gX lR (gX iZ (gX jO (pv 0) gQ) gQ) gQ))
   (gS (iN (iq jD (gX iZ (pv 0) gQ) gQ (iy _)) (g0 (iC (g9 jn (pv 9) (gX iZ (gX jO (pv 0) gQ) gQ) (fun _ _=>rfl)))) iL)
   (gS (hU (i:=9) lj.nd rfl (Or.inl rfl) (iK (gN (ja (gN (gX jb (pv 3) (pv 10)) (gN (pv 4) (gN (pv 5) gP)))) (gN (ja (gN (pv 3) (gN (gX jb (pv 4) (pv 10)) (gN (pv 5) gP)))) gP))))
   (gS (ke (jr F.plainAttrs_list F.slot_list_append F.type_list_append kj (pv 9) (gN (ja (gN (pv 3) (gN (pv 4) (gN (gX kL (gX kL (js nA (pv 5) j6 (i5 (pv 6))) (js nA (pv 5) (i5 (pv 6)) (i5 (gX jb (pv 6) gQ)))) (js nA (pv 5) (i5 (pv 6)) j6)) gP)))) gP)))
   (gS (ke (jr F.plainAttrs_list F.slot_list_append F.type_list_append kj (pv 9) (gN (ja (gN (pv 3) (gN (pv 4) (gN (gX kL (gX kL (js nA (pv 5) j6 (i5 (pv 6))) (iK (gN (ja (gN (gX jb (pv 7) (pv 10)) (gN (pv 8) gP))) gP))) (js nA (pv 5) (i5 (gX jb (pv 6) gQ)) j6)) gP)))) gP)))
   (gS (ke (jr F.plainAttrs_list F.slot_list_append F.type_list_append kj (pv 9) (gN (ja (gN (pv 3) (gN (pv 4) (gN (gX kL (gX kL (js nA (pv 5) j6 (i5 (pv 6))) (iK (gN (ja (gN (pv 7) (gN (gX jb (pv 8) (pv 10)) gP))) gP))) (js nA (pv 5) (i5 (gX jb (pv 6) gQ)) j6)) gP)))) gP)))
   (gS (ke (jr F.plainAttrs_list F.slot_list_append F.type_list_append kj (pv 9) (gN (ja (gN (pv 3) (gN (pv 4) (gN (Ca hr.hd rfl T.list rfl T.rev (gN (pv 5) gP)) gP)))) gP)))
   (g0 (iC (g9 jn (pv 9) (gX iZ (gX jO (pv 0) gQ) gQ) (fun _ _=>rfl))))))))))))))),?_⟩
  obtain⟨at',ef⟩:∃ at':Nat,n / 11 % (ns.length:Int)=(at':Int):=⟨(n / 11 % (ns.length:Int)).toNat,by rw [Int.toNat_of_nonneg (Int.emod_nonneg _ (by omega))]⟩
  have eg:at' < ns.length:=by
   have:=Int.emod_lt_of_pos (n / 11) (show(0:Int) < (ns.length:Int) by omega)
   omega
  have s0:=gO.refl H
  refine⟨_,rfl,p,_,rfl,ia.of hp,rfl,_,_,rfl,_,_,rfl,_,_,rfl,rfl,?_⟩
  refine⟨_,rfl,_,_,rfl,rfl,⟨by decide,by decide⟩,_,rfl,m,_,rfl,.inl (gR.of em),_,_,rfl,rfl,(by rw [pn];omega),?_⟩
  show kq 6 (V.int (n / 11 % ((ps.map V.ref).length:Int))) _ _ _
  rw [pn,ef]
  obtain⟨u,hu,eu⟩:∃ u,ps[at']? =some u/\∃ r:Nat×Nat,H u=some (.tup [.int r.1,.int r.2]):=by
   obtain⟨u,h1,h2⟩:=Gn.Paired.at pm (List.getElem?_eq_getElem eg)
   exact⟨u,h1,_,h2⟩
  obtain⟨⟨r1,r2⟩,eu⟩:=eu
  refine⟨_,rfl,_,rfl,m,_,_,_,rfl,rfl,gR.of em,ik (j:=at') (v:= .ref u) (by rw [List.getElem?_map,hu];rfl),u,_,rfl,ia.of eu,rfl,_,_,rfl,_,_,rfl,rfl,?_⟩
  change j8 _ _ _ [some (.int n),some x,some (.ref p),some (.int b),some (.int e),some (.ref m),some (.int at'),some (.int r1),some (.int r2),none,none] H
  refine⟨_,rfl,_,rfl,by show 2<=sizeLine;omega,fun p1 eh=>?_⟩
  have s1:gO H (upd H p1 (.tup [.int b,.int e])):=hJ eh
  have f1:upd H p1 (.tup [.int b,.int e]) p1=some (.tup [.int b,.int e]):=gY
  generalize upd H p1 (.tup [.int b,.int e])=H1 at s1 f1 ⊢
  have S1:=s1
  refine⟨_,rfl,_,rfl,_,rfl,by show 3<=sizeLine;omega,fun p2 ei=>?_⟩
  have s2:gO H1 (upd H1 p2 (.lst [.int b,.int e,.ref m])):=hJ ei
  have f2:upd H1 p2 (.lst [.int b,.int e,.ref m]) p2=some (.lst [.int b,.int e,.ref m]):=gY
  generalize upd H1 p2 (.lst [.int b,.int e,.ref m])=H2 at s2 f2 ⊢
  have S2:=S1.trans s2
  refine⟨_,rfl,_,rfl,_,rfl,m,_,rfl,.inl ⟨gR.of (S2 _ _ em),fun t3 ej=>?_⟩⟩
  have s3:gO H2 (upd H2 t3 (.tup (ps.map V.ref))):=hJ ej
  have f3:upd H2 t3 (.tup (ps.map V.ref)) t3=some (.tup (ps.map V.ref)):=gY
  generalize upd H2 t3 (.tup (ps.map V.ref))=H3 at s3 f3 ⊢
  have S3:=S2.trans s3
  refine⟨by show 3<=sizeLine;omega,fun p3 ek=>?_⟩
  have s4:gO H3 (upd H3 p3 (.tup [.int b,.int e,.ref t3])):=hJ ek
  have f4:upd H3 p3 (.tup [.int b,.int e,.ref t3]) p3=some (.tup [.int b,.int e,.ref t3]):=gY
  generalize upd H3 p3 (.tup [.int b,.int e,.ref t3])=H4 at s4 f4 ⊢
  have S4:=S3.trans s4
  refine⟨_,rfl,_,rfl,by show 0<=sizeLine;omega,fun l4 el=>?_⟩
  have s5:gO H4 (upd H4 l4 (.lst [])):=hJ el
  have f5:upd H4 l4 (.lst []) l4=some (.lst []):=gY
  generalize upd H4 l4 (.lst [])=H5 at s5 f5 ⊢
  have S5:=S4.trans s5
  refine⟨by show 3<=sizeLine;omega,fun p4 eo=>?_⟩
  have s6:gO H5 (upd H5 p4 (.tup [.int b,.int e,.ref l4])):=hJ eo
  have f6:upd H5 p4 (.tup [.int b,.int e,.ref l4]) p4=some (.tup [.int b,.int e,.ref l4]):=gY
  generalize upd H5 p4 (.tup [.int b,.int e,.ref l4])=H6 at s6 f6 ⊢
  have S6:=S5.trans s6
  refine⟨_,rfl,_,rfl,by show 3<=sizeLine;omega,fun p5 ep=>?_⟩
  have s7:gO H6 (upd H6 p5 (.tup [.bl true,.int e,.ref m])):=hJ ep
  have f7:upd H6 p5 (.tup [.bl true,.int e,.ref m]) p5=some (.tup [.bl true,.int e,.ref m]):=gY
  generalize upd H6 p5 (.tup [.bl true,.int e,.ref m])=H7 at s7 f7 ⊢
  have S7:=S6.trans s7
  refine⟨by show 6<=sizeLine;omega,fun L1 er=>?_⟩
  have s8:gO H7 (upd H7 L1 (.lst [.non,.ref p1,.ref p2,.ref p3,.ref p4,.ref p5])):=hJ er
  have f8:upd H7 L1 (.lst [.non,.ref p1,.ref p2,.ref p3,.ref p4,.ref p5]) L1=some (.lst [.non,.ref p1,.ref p2,.ref p3,.ref p4,.ref p5]):=gY
  generalize upd H7 L1 (.lst [.non,.ref p1,.ref p2,.ref p3,.ref p4,.ref p5])=H8 at s8 f8 ⊢
  have S8:=S7.trans s8
  change j8 _ _ _ [some (.int n),some x,some (.ref p),some (.int b),some (.int e),some (.ref m),some (.int at'),some (.int r1),some (.int r2),some (.ref L1),none] H8
  refine⟨_,rfl,_,rfl,_,rfl,_,rfl,by show 1<=sizeLine;omega,fun n1 et=>?_⟩
  have s9:gO H8 (upd H8 n1 (.lst [.non])):=hJ et
  have f9:upd H8 n1 (.lst [.non]) n1=some (.lst [.non]):=gY
  generalize upd H8 n1 (.lst [.non])=H9 at s9 f9 ⊢
  have S9:=S8.trans s9
  refine⟨m,n1,_,_,rfl,rfl,S9 _ _ em,f9,by rw [pn];show ns.length + 1<=sizeLine;omega,fun c1 ew=>?_⟩
  have aU:gO H9 (upd H9 c1 (.lst (ps.map V.ref++[.non]))):=hJ ew
  have cz:upd H9 c1 (.lst (ps.map V.ref++[.non])) c1=some (.lst (ps.map V.ref++[.non])):=gY
  generalize upd H9 c1 (.lst (ps.map V.ref++[.non]))=aV at aU cz ⊢
  have ey:=S9.trans aU
  refine⟨by show 3<=sizeLine;omega,fun p6 ez=>?_⟩
  have aW:gO aV (upd aV p6 (.tup [.int b,.int e,.ref c1])):=hJ ez
  have cA:upd aV p6 (.tup [.int b,.int e,.ref c1]) p6=some (.tup [.int b,.int e,.ref c1]):=gY
  generalize upd aV p6 (.tup [.int b,.int e,.ref c1])=aX at aW cA ⊢
  have eA:=ey.trans aW
  refine⟨_,rfl,_,rfl,_,rfl,_,rfl,by show 2<=sizeLine;omega,fun i1 eC=>?_⟩
  have aY:gO aX (upd aX i1 (.lst [.int b,.int e])):=hJ eC
  have cB:upd aX i1 (.lst [.int b,.int e]) i1=some (.lst [.int b,.int e]):=gY
  generalize upd aX i1 (.lst [.int b,.int e])=aZ at aY cB ⊢
  have eD:=eA.trans aY
  refine⟨by show 1<=sizeLine;omega,fun i2 eE=>?_⟩
  have a0:gO aZ (upd aZ i2 (.lst [.ref i1])):=hJ eE
  have cC:upd aZ i2 (.lst [.ref i1]) i2=some (.lst [.ref i1]):=gY
  generalize upd aZ i2 (.lst [.ref i1])=a6 at a0 cC ⊢
  have eF:=eD.trans a0
  refine⟨by show 3<=sizeLine;omega,fun p7 eG=>?_⟩
  have a7:gO a6 (upd a6 p7 (.tup [.int b,.int e,.ref i2])):=hJ eG
  have cD:upd a6 p7 (.tup [.int b,.int e,.ref i2]) p7=some (.tup [.int b,.int e,.ref i2]):=gY
  generalize upd a6 p7 (.tup [.int b,.int e,.ref i2])=a8 at a7 cD ⊢
  have eH:=eF.trans a7
  refine⟨_,rfl,_,rfl,_,rfl,by show 3<=sizeLine;omega,fun p8 eI=>?_⟩
  have a9:gO a8 (upd a8 p8 (.tup [.int e,.int b,.ref m])):=hJ eI
  have cE:upd a8 p8 (.tup [.int e,.int b,.ref m]) p8=some (.tup [.int e,.int b,.ref m]):=gY
  generalize upd a8 p8 (.tup [.int e,.int b,.ref m])=ba at a9 cE ⊢
  have eJ:=eH.trans a9
  refine⟨by show 4<=sizeLine;omega,fun L2 eK=>?_⟩
  have bb:gO ba (upd ba L2 (.lst [.ref p6,.ref p7,.str (Str.ofString "piece"),.ref p8])):=hJ eK
  have cF:upd ba L2 (.lst [.ref p6,.ref p7,.str (Str.ofString "piece"),.ref p8]) L2=some (.lst [.ref p6,.ref p7,.str (Str.ofString "piece"),.ref p8]):=gY
  generalize upd ba L2 (.lst [.ref p6,.ref p7,.str (Str.ofString "piece"),.ref p8])=bc at bb cF ⊢
  have eL:=eJ.trans bb
  refine⟨L1,L2,_,_,rfl,rfl,(bb _ _ (a9 _ _ (a7 _ _ (a0 _ _ (aY _ _ (aW _ _ (aU _ _ (s9 _ _ f8)))))))),cF,by show 6 + 4<=sizeLine;omega,fun L3 eM=>?_⟩
  have bV:gO bc (upd bc L3 (.lst ([.non,.ref p1,.ref p2,.ref p3,.ref p4,.ref p5]++[.ref p6,.ref p7,.str (Str.ofString "piece"),.ref p8]))):=hJ eM
  have cG:upd bc L3 (.lst ([.non,.ref p1,.ref p2,.ref p3,.ref p4,.ref p5]++[.ref p6,.ref p7,.str (Str.ofString "piece"),.ref p8])) L3=some (.lst ([.non,.ref p1,.ref p2,.ref p3,.ref p4,.ref p5]++[.ref p6,.ref p7,.str (Str.ofString "piece"),.ref p8])):=gY
  generalize upd bc L3 (.lst ([.non,.ref p1,.ref p2,.ref p3,.ref p4,.ref p5]++[.ref p6,.ref p7,.str (Str.ofString "piece"),.ref p8]))=J at bV cG ⊢
  have cH:=eL.trans bV
  change j8 _ _ _ [some (.int n),some x,some (.ref p),some (.int b),some (.int e),some (.ref m),some (.int at'),some (.int r1),some (.int r2),some (.ref L3),none] J
  have eN:=gO.refl J
  have eO:=bV.trans eN
  have cI:=bb.trans eO
  have cJ:=a9.trans cI
  have cK:=a7.trans cJ
  have cL:=a0.trans cK
  have cM:=aY.trans cL
  have cN:=aW.trans cM
  have t9:=aU.trans cN
  have t8:=s9.trans t9
  have t7:=s8.trans t8
  have t6:=s7.trans t7
  have t5:=s6.trans t6
  have t4:=s5.trans t5
  have t3:=s4.trans t4
  have t2:=s3.trans t3
  have t1:=s2.trans t2
  have t0:=s1.trans t1
  have pM:∀{H'},gO H H'->∀ v∈ps.map V.ref,Pd H' v:=fun{H'} s v hv=>by
   obtain⟨i,hi⟩:=List.getElem?_of_mem hv
   obtain⟨q,r,rfl,_,h2⟩:=mH (H:=H) pm hi
   exact⟨_,.tup (s _ _ h2) (.cons (.int _) (.cons (.int _) .nil)),rfl⟩
  have pI:∀{H':Hp} (i:Int),Pd H' (.int i):=fun i=>⟨_,.int i,rfl⟩
  have bM:∀{H':Hp} {q:Addr} {x y:V},gO H H'->H' q=some (.tup [x,y,.ref m])->Pd H' x->Pd H' y->Bd H' (.ref q):=fun s q hx hy=>mM q hx hy (s _ _ em) (pM s) (by rw [pn];omega)
  have b1:Bd J (.ref p1):=⟨_,.tup (t1 _ _ f1) (.cons (.int _) (.cons (.int _) .nil)),rfl,Nat.zero_le _⟩
  have b2:Bd J (.ref p2):=by
   obtain⟨dm,eP,bW⟩:=CQ (t0 _ _ em) (pM t0)
   exact⟨_,.lst (t2 _ _ f2) (.cons (.int _) (.cons (.int _) (.cons eP .nil))),sN rfl rfl bW,Nat.zero_le _⟩
  have b3:Bd J (.ref p3):=by
   obtain⟨ds,eQ,bW⟩:=pX (pM t0)
   exact⟨_,.tup (t4 _ _ f4) (.cons (.int _) (.cons (.int _) (.cons (.tup (t3 _ _ f3) eQ) .nil))),sN rfl rfl bW,Nat.zero_le _⟩
  have b4:Bd J (.ref p4):=mM (t6 _ _ f6) (pI _) (pI _) (t5 _ _ f5) (fun v hv=>nomatch hv) (by show 0<=_;omega)
  have b5:Bd J (.ref p5):=bM t0 (t7 _ _ f7) ⟨_,.bl true,rfl⟩ (pI _)
  have b6:Bd J (.ref p6):=mM (cM _ _ cA) (pI _) (pI _) (cN _ _ cz) (fun v hv=>by
   rcases List.mem_append.mp hv with q | q
   ·exact pM t0 v q
   ·rw [List.mem_singleton.mp q];exact⟨_,.non,rfl⟩) (by rw [List.length_append,pn];show ns.length + 1<=7000;omega)
  have b7:Bd J (.ref p7):=mM (cJ _ _ cD) (pI _) (pI _) (cK _ _ cC) (fun v hv=>by
   rw [List.mem_singleton.mp hv];exact⟨_,.lst (cL _ _ cB) (.cons (.int _) (.cons (.int _) .nil)),rfl⟩) (by show 1<=_;omega)
  have b8:Bd J (.ref p8):=bM t0 (cI _ _ cE) (pI _) (pI _)
  have bI:∀ v∈([.non,.ref p1,.ref p2,.ref p3,.ref p4,.ref p5]++[.ref p6,.ref p7,.str (Str.ofString "piece"),.ref p8]:List V),Bd J v:=fun v hv=>by
   have aG:v∈([.non,.ref p1,.ref p2,.ref p3,.ref p4,.ref p5,.ref p6,.ref p7,.str (Str.ofString "piece"),.ref p8]:List V):=hv
   simp only [List.mem_cons,List.not_mem_nil,or_false] at aG
   rcases aG with rfl | rfl | rfl | rfl | rfl | rfl | rfl | rfl | rfl | rfl
   ·exact⟨_,.non,rfl,Nat.zero_le _⟩
   ·exact b1
   ·exact b2
   ·exact b3
   ·exact b4
   ·exact b5
   ·exact b6
   ·exact b7
   ·exact⟨_,.str _,dkq,Nat.zero_le _⟩
   ·exact b8
  refine⟨_,rfl,_,_,rfl,rfl,⟨by decide,by decide⟩,_,_,rfl,rfl,(by show(0:Int) < 5;decide),_,_,rfl,rfl,?_⟩
  show kq 10 (V.int (n / 1000 % 5 - 2)) _ _ _
  generalize n / 1000 % 5 - 2=mo
  change j8 _ _ _ [some (.int n),some x,some (.ref p),some (.int b),some (.int e),some (.ref m),some (.int at'),some (.int r1),some (.int r2),some (.ref L3),some (.int mo)] J
  refine⟨_,rfl,_,_,rfl,rfl,(by show(0:Int) < 2;decide),rfl,_,rfl,?_⟩
  refine kY (fun _=>?_) (fun _=>?_)
  ·obtain⟨v,hv,ev⟩:=pV (xs:=[.non,.ref p1,.ref p2,.ref p3,.ref p4,.ref p5]++[.ref p6,.ref p7,.str (Str.ofString "piece"),.ref p8]) (n:=n / 2) (L:=10) (by show 0 < 10;decide) rfl
   exact⟨_,rfl,_,rfl,_,_,rfl,rfl,⟨by decide,by decide⟩,_,_,rfl,rfl,(by show(0:Int) < 10;decide),L3,_,_,_,rfl,rfl,gR.of cG,ev,k v _ cH (bI v hv)⟩
  change j8 _ _ _ [some (.int n),some x,some (.ref p),some (.int b),some (.int e),some (.ref m),some (.int at'),some (.int r1),some (.int r2),some (.ref L3),some (.int mo)] J
  refine⟨_,rfl,_,rfl,_,_,rfl,rfl,_,rfl,_,rfl,by show 3<=sizeLine;omega,fun q1 eR=>?_⟩
  have cO:gO J (upd J q1 (.tup [.int ((b:Int) + mo),.int e,.ref m])):=hJ eR
  have cP:upd J q1 (.tup [.int ((b:Int) + mo),.int e,.ref m]) q1=some (.tup [.int ((b:Int) + mo),.int e,.ref m]):=gY
  generalize upd J q1 (.tup [.int ((b:Int) + mo),.int e,.ref m])=bf at cO cP ⊢
  have cQ:=cH.trans cO
  refine⟨_,rfl,_,rfl,_,rfl,_,_,rfl,rfl,_,rfl,by show 3<=sizeLine;omega,fun q2 eS=>?_⟩
  have bX:gO bf (upd bf q2 (.tup [.int b,.int ((e:Int) + mo),.ref m])):=hJ eS
  have cR:upd bf q2 (.tup [.int b,.int ((e:Int) + mo),.ref m]) q2=some (.tup [.int b,.int ((e:Int) + mo),.ref m]):=gY
  generalize upd bf q2 (.tup [.int b,.int ((e:Int) + mo),.ref m])=aa at bX cR ⊢
  have cS:=cQ.trans bX
  have c1:Bd aa (.ref q1):=(bM cQ cP (pI _) (pI _)).same bX
  have c2:Bd aa (.ref q2):=bM cS cR (pI _) (pI _)
  refine⟨by show 2<=sizeLine;omega,fun U bY=>?_⟩
  have sH:gO aa (upd aa U (.lst [.ref q1,.ref q2])):=hJ bY
  have bZ:upd aa U (.lst [.ref q1,.ref q2]) U=some (.lst [.ref q1,.ref q2]):=gY
  generalize upd aa U (.lst [.ref q1,.ref q2])=G0 at sH bZ ⊢
  change j8 _ _ _ [some (.int n),some x,some (.ref p),some (.int b),some (.int e),some (.ref m),some (.int at'),some (.int r1),some (.int r2),some (.ref U),some (.int mo)] G0
  generalize eT:aa=B0 at sH bY c1 c2
  have cT:gO H B0:=eT ▸ cS
  clear b1 b2 b3 b4 b5 b6 b7 b8 bI
  refine⟨_,rfl,.inl ⟨rfl,_,gR.of bZ⟩,_,rfl,_,rfl,_,rfl,_,rfl,_,rfl,m,_,rfl,gR.of (sH _ _ (cT _ _ em)),fun a1 eU=>?_⟩
  obtain⟨B1,G1,e1,x1,cU,b0,y1,eV⟩:=two (o:= .lst (jB (ps.map V.ref) none (some (at':Int)))) sH bY bZ eU
  rw [e1]
  clear e1
  have cV:=cT.trans x1
  refine⟨_,rfl,_,rfl,_,rfl,_,rfl,_,_,rfl,rfl,_,rfl,m,_,rfl,gR.of (cU _ _ (cV _ _ em)),fun a2 eW=>?_⟩
  obtain⟨B2,G2,e2,x2,b9,cb,y2,eX⟩:=two (o:= .lst (jB (ps.map V.ref) (some (at':Int)) (some ((at':Int) + 1)))) cU b0 eV eW
  rw [e2]
  clear e2
  have eY:=cV.trans x2
  refine⟨a1,a2,_,_,rfl,rfl,b9 _ _ (x2 _ _ y1),b9 _ _ y2,by have z1:=jT (ps.map V.ref) none (some (at':Int));have z2:=jT (ps.map V.ref) (some (at':Int)) (some ((at':Int) + 1));rw [pn] at z1 z2;omega,fun a3 eZ=>?_⟩
  obtain⟨B3,G3,e3,x3,cW,cc,y3,e7⟩:=two (o:= .lst (jB (ps.map V.ref) none (some (at':Int))++jB (ps.map V.ref) (some (at':Int)) (some ((at':Int) + 1)))) b9 cb eX eZ
  rw [e3]
  clear e3
  have cX:=eY.trans x3
  refine⟨_,rfl,_,rfl,_,rfl,m,_,rfl,gR.of (cW _ _ (cX _ _ em)),fun a4 fa=>?_⟩
  obtain⟨B4,G4,e4,x4,cf,cg,y4,fe⟩:=two (o:= .lst (jB (ps.map V.ref) (some (at':Int)) none)) cW cc e7 fa
  rw [e4]
  clear e4
  have ff:=cX.trans x4
  refine⟨a3,a4,_,_,rfl,rfl,cf _ _ (x4 _ _ y3),cf _ _ y4,by rw [List.length_append];have z1:=jT (ps.map V.ref) none (some (at':Int));have z2:=jT (ps.map V.ref) (some (at':Int)) (some ((at':Int) + 1));have z3:=jT (ps.map V.ref) (some (at':Int)) none;rw [pn] at z1 z2 z3;omega,fun a5 fg=>?_⟩
  obtain⟨B5,G5,e5,x5,fh,cj,y5,fi⟩:=two (o:= .lst (jB (ps.map V.ref) none (some (at':Int))++jB (ps.map V.ref) (some (at':Int)) (some ((at':Int) + 1))++jB (ps.map V.ref) (some (at':Int)) none)) cf cg fe fg
  rw [e5]
  clear e5
  have fk:=ff.trans x5
  refine⟨by show 3<=sizeLine;omega,fun q3 fl=>?_⟩
  obtain⟨B6,G6,e6,x6,fm,aH,y6,fo⟩:=two (o:= .tup [.int b,.int e,.ref a5]) fh cj fi fl
  rw [e6]
  clear e6
  have ck:=fk.trans x6
  have c3:Bd B6 (.ref q3):=mM y6 (pI _) (pI _) (x6 _ _ y5) (fun v hv=>by
   rcases List.mem_append.mp hv with q | q
   ·rcases List.mem_append.mp q with q | q<;>exact pM ck v (nZ q)
   ·exact pM ck v (nZ q)) (by rw [List.length_append,List.length_append];have z1:=jT (ps.map V.ref) none (some (at':Int));have z2:=jT (ps.map V.ref) (some (at':Int)) (some ((at':Int) + 1));have z3:=jT (ps.map V.ref) (some (at':Int)) none;rw [pn] at z1 z2 z3;omega)
  refine⟨U,_,_,rfl,rfl,fo,by show 2 < sizeLine;omega,?_⟩
  have bg:gO B6 (upd G6 U (.lst ([.ref q1,.ref q2]++[.ref q3]))):=kA fm aH
  have cm:upd G6 U (.lst ([.ref q1,.ref q2]++[.ref q3])) U=some (.lst ([.ref q1,.ref q2]++[.ref q3])):=gY
  generalize upd G6 U (.lst ([.ref q1,.ref q2]++[.ref q3]))=G7 at bg cm ⊢
  change j8 _ _ _ [some (.int n),some x,some (.ref p),some (.int b),some (.int e),some (.ref m),some (.int at'),some (.int r1),some (.int r2),some (.ref U),some (.int mo)] G7
  generalize cY:B6=B7 at bg
  have x7:gO B6 B7:=cY ▸ gO.refl _
  have cZ:=ck.trans x7
  have cn:B7 U=none:=cY ▸ aH
  refine⟨_,rfl,.inl ⟨rfl,_,gR.of cm⟩,_,rfl,_,rfl,_,rfl,_,rfl,_,rfl,m,_,rfl,gR.of (bg _ _ (cZ _ _ em)),fun d1 fq=>?_⟩
  obtain⟨B8,G8,e8,x8,ft,cq,y8,fu⟩:=two (o:= .lst (jB (ps.map V.ref) none (some (at':Int)))) bg cn cm fq
  rw [e8]
  clear e8
  have fv:=cZ.trans x8
  refine⟨_,rfl,_,rfl,_,_,rfl,rfl,_,rfl,by show 2<=sizeLine;omega,fun d2 hd2=>?_⟩
  obtain⟨B9,G9,e9,x9,fw,cu,y9,fx⟩:=two (o:= .tup [.int ((r1:Int) + mo),.int r2]) ft cq fu hd2
  rw [e9]
  clear e9
  have fy:=fv.trans x9
  refine⟨by show 1<=sizeLine;omega,fun d3 fA=>?_⟩
  obtain⟨gn,gp,c0,ax,aI,bh,fB,c4⟩:=two (o:= .lst [.ref d2]) fw cu fx fA
  rw [c0]
  clear c0
  have c5:=fy.trans ax
  refine⟨d1,d3,_,_,rfl,rfl,aI _ _ (ax _ _ (x9 _ _ y8)),aI _ _ fB,by have z1:=jT (ps.map V.ref) none (some (at':Int));rw [pn] at z1;show _ + 1<=_;omega,fun d4 fC=>?_⟩
  obtain⟨gq,gr,c6,aJ,bJ,bo,fD,c7⟩:=two (o:= .lst (jB (ps.map V.ref) none (some (at':Int))++[.ref d2])) aI bh c4 fC
  rw [c6]
  clear c6
  have bK:=c5.trans aJ
  refine⟨_,rfl,_,rfl,_,_,rfl,rfl,_,rfl,m,_,rfl,gR.of (bJ _ _ (bK _ _ em)),fun d5 fE=>?_⟩
  obtain⟨gs,gu,c8,ay,aK,bp,fF,c9⟩:=two (o:= .lst (jB (ps.map V.ref) (some ((at':Int) + 1)) none)) bJ bo c7 fE
  rw [c8]
  clear c8
  have da:=bK.trans ay
  refine⟨d4,d5,_,_,rfl,rfl,aK _ _ (ay _ _ fD),aK _ _ fF,by rw [List.length_append];have z1:=jT (ps.map V.ref) none (some (at':Int));have z2:=jT (ps.map V.ref) (some ((at':Int) + 1)) none;rw [pn] at z1 z2;show _ + 1 + _<=_;omega,fun d6 fG=>?_⟩
  obtain⟨gv,gw,dc,aL,de,bq,fH,df⟩:=two (o:= .lst (jB (ps.map V.ref) none (some (at':Int))++[.ref d2]++jB (ps.map V.ref) (some ((at':Int) + 1)) none)) aK bp c9 fG
  rw [dc]
  clear dc
  have dg:=da.trans aL
  refine⟨by show 3<=sizeLine;omega,fun q4 fI=>?_⟩
  obtain⟨bt,cv,dh,aA,di,ao,fJ,dj⟩:=two (o:= .tup [.int b,.int e,.ref d6]) de bq df fI
  rw [dh]
  clear dh
  have aM:=dg.trans aA
  have fK:Bd bt (.ref q4):=mM fJ (pI _) (pI _) (aA _ _ fH) (fun v hv=>by
   rcases List.mem_append.mp hv with z | z
   ·rcases List.mem_append.mp z with z | z
    ·exact pM aM v (nZ z)
    ·rw [List.mem_singleton.mp z];exact⟨_,.tup (aA _ _ (aL _ _ (ay _ _ (aJ _ _ (ax _ _ y9))))) (.cons (.int _) (.cons (.int _) .nil)),rfl⟩
   ·exact pM aM v (nZ z)) (by rw [List.length_append];rw [List.length_append];have z1:=jT (ps.map V.ref) none (some (at':Int));have z2:=jT (ps.map V.ref) (some ((at':Int) + 1)) none;rw [pn] at z1 z2;show _ + 1 + _<=7000;omega)
  refine⟨U,_,_,rfl,rfl,dj,by show 3 < sizeLine;omega,?_⟩
  have aq:gO bt (upd cv U (.lst (([.ref q1,.ref q2]++[.ref q3])++[.ref q4]))):=kA di ao
  have aN:upd cv U (.lst (([.ref q1,.ref q2]++[.ref q3])++[.ref q4])) U=some (.lst (([.ref q1,.ref q2]++[.ref q3])++[.ref q4])):=gY
  generalize upd cv U (.lst (([.ref q1,.ref q2]++[.ref q3])++[.ref q4]))=fL at aq aN ⊢
  change j8 _ _ _ [some (.int n),some x,some (.ref p),some (.int b),some (.int e),some (.ref m),some (.int at'),some (.int r1),some (.int r2),some (.ref U),some (.int mo)] fL
  generalize bL:bt=dk at aq
  have aO:gO bt dk:=bL ▸ gO.refl _
  have bN:=aM.trans aO
  have bu:dk U=none:=bL ▸ ao
  refine⟨_,rfl,.inl ⟨rfl,_,gR.of aN⟩,_,rfl,_,rfl,_,rfl,_,rfl,_,rfl,m,_,rfl,gR.of (aq _ _ (bN _ _ em)),fun g1 fM=>?_⟩
  obtain⟨gx,gy,dn,aP,dq,bw,fN,dr⟩:=two (o:= .lst (jB (ps.map V.ref) none (some (at':Int)))) aq bu aN fM
  rw [dn]
  clear dn
  have du:=bN.trans aP
  refine⟨_,rfl,_,rfl,_,rfl,_,_,rfl,rfl,by show 2<=sizeLine;omega,fun g2 fO=>?_⟩
  obtain⟨gA,gB,dv,aB,dw,bx,fP,dy⟩:=two (o:= .tup [.int r1,.int ((r2:Int) + mo)]) dq bw dr fO
  rw [dv]
  clear dv
  have dz:=du.trans aB
  refine⟨by show 1<=sizeLine;omega,fun g3 fQ=>?_⟩
  obtain⟨gC,gD,dC,ae,aQ,bA,fR,dD⟩:=two (o:= .lst [.ref g2]) dw bx dy fQ
  rw [dC]
  clear dC
  have dE:=dz.trans ae
  refine⟨g1,g3,_,_,rfl,rfl,aQ _ _ (ae _ _ (aB _ _ fN)),aQ _ _ fR,by have z1:=jT (ps.map V.ref) none (some (at':Int));rw [pn] at z1;show _ + 1<=_;omega,fun g4 fS=>?_⟩
  obtain⟨gE,gF,dF,aC,bO,bB,fT,dG⟩:=two (o:= .lst (jB (ps.map V.ref) none (some (at':Int))++[.ref g2])) aQ bA dD fS
  rw [dF]
  clear dF
  have bP:=dE.trans aC
  refine⟨_,rfl,_,rfl,_,_,rfl,rfl,_,rfl,m,_,rfl,gR.of (bO _ _ (bP _ _ em)),fun g5 fU=>?_⟩
  obtain⟨gG,gH,dH,af,aR,bC,fV,dI⟩:=two (o:= .lst (jB (ps.map V.ref) (some ((at':Int) + 1)) none)) bO bB dG fU
  rw [dH]
  clear dH
  have dJ:=bP.trans af
  refine⟨g4,g5,_,_,rfl,rfl,aR _ _ (af _ _ fT),aR _ _ fV,by rw [List.length_append];have z1:=jT (ps.map V.ref) none (some (at':Int));have z2:=jT (ps.map V.ref) (some ((at':Int) + 1)) none;rw [pn] at z1 z2;show _ + 1 + _<=_;omega,fun g6 fW=>?_⟩
  obtain⟨gI,gJ,dO,aD,dP,bD,fX,dQ⟩:=two (o:= .lst (jB (ps.map V.ref) none (some (at':Int))++[.ref g2]++jB (ps.map V.ref) (some ((at':Int) + 1)) none)) aR bC dI fW
  rw [dO]
  clear dO
  have dR:=dJ.trans aD
  refine⟨by show 3<=sizeLine;omega,fun q5 fY=>?_⟩
  obtain⟨bE,cw,dU,ag,dV,ar,fZ,dW⟩:=two (o:= .tup [.int b,.int e,.ref g6]) dP bD dQ fY
  rw [dU]
  clear dU
  have aS:=dR.trans ag
  have gc:Bd bE (.ref q5):=mM fZ (pI _) (pI _) (ag _ _ fX) (fun v hv=>by
   rcases List.mem_append.mp hv with z | z
   ·rcases List.mem_append.mp z with z | z
    ·exact pM aS v (nZ z)
    ·rw [List.mem_singleton.mp z];exact⟨_,.tup (ag _ _ (aD _ _ (af _ _ (aC _ _ (ae _ _ fP))))) (.cons (.int _) (.cons (.int _) .nil)),rfl⟩
   ·exact pM aS v (nZ z)) (by rw [List.length_append];rw [List.length_append];have z1:=jT (ps.map V.ref) none (some (at':Int));have z2:=jT (ps.map V.ref) (some ((at':Int) + 1)) none;rw [pn] at z1 z2;show _ + 1 + _<=7000;omega)
  refine⟨U,_,_,rfl,rfl,dW,by show 4 < sizeLine;omega,?_⟩
  have au:gO bE (upd cw U (.lst ((([.ref q1,.ref q2]++[.ref q3])++[.ref q4])++[.ref q5]))):=kA dV ar
  have aT:upd cw U (.lst ((([.ref q1,.ref q2]++[.ref q3])++[.ref q4])++[.ref q5])) U=some (.lst ((([.ref q1,.ref q2]++[.ref q3])++[.ref q4])++[.ref q5])):=gY
  generalize upd cw U (.lst ((([.ref q1,.ref q2]++[.ref q3])++[.ref q4])++[.ref q5]))=gd at au aT ⊢
  change j8 _ _ _ [some (.int n),some x,some (.ref p),some (.int b),some (.int e),some (.ref m),some (.int at'),some (.int r1),some (.int r2),some (.ref U),some (.int mo)] gd
  generalize bQ:bE=dX at au
  have aE:gO bE dX:=bQ ▸ gO.refl _
  have bR:=aS.trans aE
  have bF:dX U=none:=bQ ▸ ar
  refine⟨_,rfl,.inl ⟨rfl,_,gR.of aT⟩,_,rfl,_,rfl,_,rfl,m,_,rfl,au _ _ (bR _ _ em),by rw [pn];omega,fun gf dY=>?_⟩
  obtain⟨gK,gL,dZ,aF,d0,bG,gh,d7⟩:=two (o:= .lst (ps.map V.ref).reverse) au bF aT dY
  rw [dZ]
  clear dZ
  have d8:=bR.trans aF
  refine⟨by show 3<=sizeLine;omega,fun q6 gj=>?_⟩
  obtain⟨bH,cx,d9,ah,eb,av,gk,ec⟩:=two (o:= .tup [.int b,.int e,.ref gf]) d0 bG d7 gj
  rw [d9]
  clear d9
  have bS:=d8.trans ah
  have gm:Bd bH (.ref q6):=mM gk (pI _) (pI _) (ah _ _ gh) (fun v hv=>pM bS v (List.mem_reverse.mp hv)) (by rw [List.length_reverse,pn];omega)
  refine⟨U,_,_,rfl,rfl,ec,by show 5 < sizeLine;omega,?_⟩
  have aw:gO bH (upd cx U (.lst (((([.ref q1,.ref q2]++[.ref q3])++[.ref q4])++[.ref q5])++[.ref q6]))):=kA eb av
  have bT:upd cx U (.lst (((([.ref q1,.ref q2]++[.ref q3])++[.ref q4])++[.ref q5])++[.ref q6])) U=some (.lst (((([.ref q1,.ref q2]++[.ref q3])++[.ref q4])++[.ref q5])++[.ref q6])):=gY
  generalize upd cx U (.lst (((([.ref q1,.ref q2]++[.ref q3])++[.ref q4])++[.ref q5])++[.ref q6]))=gM at aw bT ⊢
  generalize bU:bH=cy at aw
  have ak:gO bH cy:=bU ▸ gO.refl _
  have ed:=bS.trans ak
  have ee:cy U=none:=bU ▸ av
  obtain⟨v,hv,ev⟩:=pV (xs:=(((([.ref q1,.ref q2]++[.ref q3])++[.ref q4])++[.ref q5])++[.ref q6])) (n:=n / 2) (L:=6) (by show 0 < 6;decide) rfl
  have bv:Bd cy v:=by
   have aG:v∈([.ref q1,.ref q2,.ref q3,.ref q4,.ref q5,.ref q6]:List V):=hv
   simp only [List.mem_cons,List.not_mem_nil,or_false] at aG
   rcases aG with rfl | rfl | rfl | rfl | rfl | rfl
   ·exact Bd.same ((((((((((((((((((((((((((((gO.refl _).trans x1).trans x2).trans x3).trans x4).trans x5).trans x6).trans x7).trans x8).trans x9).trans ax).trans aJ).trans ay).trans aL).trans aA).trans aO).trans aP).trans aB).trans ae).trans aC).trans af).trans aD).trans ag).trans aE).trans aF).trans ah).trans ak)) c1
   ·exact Bd.same ((((((((((((((((((((((((((((gO.refl _).trans x1).trans x2).trans x3).trans x4).trans x5).trans x6).trans x7).trans x8).trans x9).trans ax).trans aJ).trans ay).trans aL).trans aA).trans aO).trans aP).trans aB).trans ae).trans aC).trans af).trans aD).trans ag).trans aE).trans aF).trans ah).trans ak)) c2
   ·exact Bd.same ((((((((((((((((((((((gO.refl _).trans x7).trans x8).trans x9).trans ax).trans aJ).trans ay).trans aL).trans aA).trans aO).trans aP).trans aB).trans ae).trans aC).trans af).trans aD).trans ag).trans aE).trans aF).trans ah).trans ak)) c3
   ·exact Bd.same ((((((((((((((gO.refl _).trans aO).trans aP).trans aB).trans ae).trans aC).trans af).trans aD).trans ag).trans aE).trans aF).trans ah).trans ak)) fK
   ·exact Bd.same ((((((gO.refl _).trans aE).trans aF).trans ah).trans ak)) gc
   ·exact Bd.same (((gO.refl _).trans ak)) gm
  exact⟨_,rfl,_,rfl,_,_,rfl,rfl,⟨by decide,by decide⟩,_,_,rfl,rfl,(by show(0:Int) < 6;decide),U,_,_,_,rfl,rfl,gR.of bT,ev,k v _ (ed.trans aw) (bv.same aw)⟩
end
theorem pj{d:PyData}{ds:List PyData}(h:(PyData.list (d::ds)).canLay0=true):d.canLay0=true/\(PyData.list ds).canLay0=true:=by
 have h':(d.canLay0 && (PyData.list ds).canLay0)=true:=h
 rw [Bool.and_eq_true] at h'
 exact h'
theorem xf{H:Hp}:∀{xs:List V} {ds:List PyData},ji H xs ds->(PyData.list ds).canLay0=true->∀ x∈xs,Pd H x
 | _,_,.nil,_,_,h=>nomatch h
 | _,_,.cons h r,q,x,J=>by
  obtain⟨U,q2⟩:=pj q
  rcases List.mem_cons.mp J with z | z
  ·rw [z];exact⟨_,h,U⟩
  ·exact xf r q2 x z
noncomputable def nu(H:Hp)(v:V)(b e:Int)(ms:List (Int×Int)):Prop:=∃(p m:Addr) (ps:List Addr),v= .ref p/\H p=some (.tup [.int b,.int e,.ref m])/\H m=some (.lst (ps.map V.ref))/\Paired (fun u (n:Int×Int)=>H u=some (.tup [.int n.1,.int n.2])) ps ms
theorem wI{H:Hp}:∀{xs:List V} {ms:List (Int×Int)},ji H xs (ms.map mI)->∃ ps:List Addr,xs=ps.map V.ref/\Paired (fun u (n:Int×Int)=>H u=some (.tup [.int n.1,.int n.2])) ps ms
 | [],[],_=>⟨[],rfl,.nil⟩
 | _::_,n::ns,.cons h r=>by
  obtain⟨ps,rfl,J⟩:=wI r
  cases h with
  | tup ht U=>
   rename_i u ys
   match ys,U with
   | [_,_],.cons (.int _) (.cons (.int _) .nil)=>exact⟨u::ps,rfl,.cons ht J⟩
theorem Eu{H:Hp}{v:V}{b e:Int}{ms:List (Int×Int)}(h:iR H v (oZ b e ms)):nu H v b e ms:=by
 cases h with
 | tup ht J=>
  rename_i p ys
  match ys,J with
  | [_,_,_],.cons (.int _) (.cons (.int _) (.cons (.lst hm U) .nil))=>
   obtain⟨ps,rfl,hp⟩:=wI U
   exact⟨p,_,ps,rfl,ht,hm,hp⟩
theorem wC{H:Hp}:∀{ps:List Addr} {ds:List PyData} {ms:List (Int×Int)},ji H (ps.map V.ref) ds->Paired (fun u (n:Int×Int)=>H u=some (.tup [.int n.1,.int n.2])) ps ms->ds=ms.map mI
 | [],_,_,.nil,.nil=>rfl
 | u::ps,_,_,.cons h r,.cons J U=>by
  rw [wC r U]
  cases h with
  | lst ht _=>rw [J] at ht;cases ht
  | tup ht hy=>
   rw [J] at ht
   cases ht
   match hy with
   | .cons (.int _) (.cons (.int _) .nil)=>rfl
theorem GK{H:Hp}{v:V}{d:PyData}{b e:Int}{ms:List (Int×Int)}(h:iR H v d)(hp:nu H v b e ms):d=oZ b e ms:=by
 obtain⟨p,m,ps,rfl,h1,h2,J⟩:=hp
 cases h with
 | lst ht _=>rw [h1] at ht;cases ht
 | tup ht U=>
  rw [h1] at ht
  cases ht
  match U with
  | .cons (.int _) (.cons (.int _) (.cons hz .nil))=>
   cases hz with
   | tup hz _=>rw [h2] at hz;cases hz
   | lst hz hs=>
    rw [h2] at hz
    cases hz
    rw [wC hs J]
    rfl
theorem vF{H:Hp}:∀{ys:List V},(∀ v∈ys,∃(u:Addr) (a b:Int),v= .ref u/\H u=some (.tup [.int a,.int b]))->∃(ps:List Addr) (ms:List (Int×Int)),ys=ps.map V.ref/\Paired (fun u (n:Int×Int)=>H u=some (.tup [.int n.1,.int n.2])) ps ms
 | [],_=>⟨[],[],rfl,.nil⟩
 | y::ys,h=>by
  obtain⟨u,a,b,rfl,J⟩:=h y (List.mem_cons_self ..)
  obtain⟨ps,ms,rfl,U⟩:=vF (ys:=ys) fun v hv=>h v (List.mem_cons_of_mem _ hv)
  exact⟨u::ps,(a,b)::ms,rfl,.cons J U⟩
theorem yj{F:Addr->Int×Int->Prop}:∀{ps:List Addr} {ns:List (Int×Int)},Paired F ps ns->∀{i:Nat} {x:V},(ps.map V.ref)[i]? =some x->∃ q n,x= .ref q/\F q n:=fun h i x e=>by
 obtain⟨q,n,J,_,U⟩:=uw h e
 exact⟨q,n,J,U⟩
theorem D2{v:V}(h:(zI v).isNone=false):∃ n,v= .int n:=by
 cases v<;>first | exact⟨_,rfl⟩ | cases h
theorem Hh(v:V):(mG v || !ma v)=(zI v).isNone:=by cases v<;>rfl
noncomputable def xZ:Sp:=fun vs H Q _=>∃(T:List Nat) (v:V) (d:PyData),vs=[.str ⟨T.toArray⟩,v]/\T.all iG=true/\T.length<=2000/\iR H v d/\d.canLay0=true/\wN d<=7000/\(k4 (words T) d=none->nO H 1 Q)/\
 (∀(b e:Nat) ns,d=jR b e ns->iQ (words T) b e (ns.map zP)=true->∀ H',gO H H'->Q (.str ⟨(iV T b e ns).toArray⟩) H')
section
variable {P : Program} {w : World} {K : PySem.W.Frag} {mg : Str -> Option Value} {base : Heap}
noncomputable abbrev z8:List Str:=["_law_text_here","_law_piece_here","_law_numbers","_law_mark"]
theorem sx:iU z8 ["_law_text_here","_law_piece_here"] (iu oq):=⟨rfl,rfl,rfl,dkq,rfl,dkq,dkq⟩
theorem Fg:(["_law_one"]:List Str).Nodup:=dkq
theorem CP{H:Hp}{u:Addr}{a b:V}(h:Pd H (.ref u))(hu:H u=some (.tup [a,b])):Pd H a/\Pd H b:=by
 obtain⟨d,h,q⟩:=h
 cases h with
 | lst ht _=>rw [hu] at ht;cases ht
 | tup ht U=>
  rw [hu] at ht
  cases ht
  match U with
  | .cons h1 (.cons h2 .nil)=>
   obtain⟨q1,J⟩:=pj q
   obtain⟨J,_⟩:=pj J
   exact⟨⟨_,h1,q1⟩,⟨_,h2,J⟩⟩
theorem En(ds:List PyData):PyData.eqv (.list ds) (.list [])=ds.isEmpty:=by cases ds<;>rfl
noncomputable def EK(H:Hp)(ys:List V)(i:Nat)(v:V):Prop:=∃(j:Nat) (u:Addr) (a b:V),j < i/\ys[j]? =some (.ref u)/\H u=some (.tup [a,b])/\(v=a\/v=b)
seal iD PS PE PT PA PG PI iX iW in
theorem Bo{f fw fi fl:Addr}{fd fdw fdi fdl:FuncData}(D:Df K mg "_law_piece_due" oq f fd)(DW:Df K mg "_law_words" mO fw fdw)(DI:Df K mg "_law_is_piece" mw fi fdi)(DL:Df K mg "_law_line" lZ fl fdl)
  (GW:hZ P w K mg base iw 2 fw fdw ["_law_text_here"] qj)(T:Txt mg):hZ P w K mg base iw 4 f fd ["_law_text_here","_law_piece_here"] xZ:=by
 have GI:hZ P w K mg base iw 3 fi fdi ["_law_words_here","_law_begin","_law_end","_law_marks"] tN:=(zq DI).mono (by decide)
 have GL:hZ P w K mg base iw 3 fl fdl ["_law_text_here","_law_piece_here"] tm:=xS DL DW GW T
 have GW3:=GW.mono (show 2<=3 by decide)
 have bW:=jM (p:="_law_text_here") DW.F fun _ _ _ _ _ _ _=>rfl
 have bI:=DI.F.binds (ps:=["_law_words_here","_law_begin","_law_end","_law_marks"]) fun _ _ _ _ _ _ us hl=>match us,hl with | [_,_,_,_],_=>rfl
 have bL:=DL.F.binds (ps:=["_law_text_here","_law_piece_here"]) fun _ _ _ _ _ _ us hl=>match us,hl with | [_,_],_=>rfl
 refine D.F.ok sx (fun vs H Q E h=>?_) (fun cdv A outer s H vs Q E hr h=>?_)
 ·obtain⟨t,v,d,rfl,_⟩:=h
  rfl
 ·obtain⟨t,v,d,rfl,hok,ax,hv,aF,aO,k1,k2⟩:=h
  have hz:(sizeLine:Nat)=16777216:=sizeLine_eq
  have one:1<=sizeLine:=by rw [hz];decide
  refine⟨_,gS (iN (PW.pt (jj (jG (jm (ir (qC (K:=K) rfl) rfl T.isi je (gN (pv 1) (gN (jX (v:= .ty "tuple") rfl T.tuple oG rfl) gP))))) (jj (iq lh (ir jN rfl T.len i0 (gN (pv 1) gP)) gQ (iy _)) (jH (jG (jm (ir (qC (K:=K) rfl) rfl T.isi je (gN (g9 iO (pv 1) gQ (fun _ _=>rfl)) (gN (jX (v:= .ty "list") rfl T.list mW rfl) gP))))))))) (g0 (iC (iK (gN gZ gP)))) iL)
   (gS (hU (i:=2) sx.nd rfl (Or.inl rfl) (lq tG rfl T.list mW (gN (js HA (pv 1) j6 (i5 gQ)) gP)))
   (gS (kR PassesOwn.never rfl (kJ (g9 iO (pv 1) gQ (fun _ _=>rfl))) (iS (i:=3) sx.nd rfl (Or.inl rfl)) (gS (iN (PW.pt (jj (jG (jm (ir (qC (K:=K) rfl) rfl T.isi je (gN (pv 3) (gN (jX (v:= .ty "tuple") rfl T.tuple oG rfl) gP))))) (jH (iq lh (ir jN rfl T.len i0 (gN (pv 3) gP)) gQ (iy _))))) (g0 (iC (iK (gN gZ gP)))) iL)
    (g0 (hU (i:=2) sx.nd rfl (Or.inl rfl) (gX kL (pv 2) (lq tG rfl T.list mW (gN (pv 3) gP)))))))
   (gS (iN (iq (nF hr.units100) (nr (own:=1) (caps:=[]) (N:=["_law_one"]) (N0:=z8) (sc0:=iu oq) rfl (kJ (pv 2)) (fun _ _ _=>iS (i:=0) Fg rfl (Or.inl rfl)) (fun _ _ _=>uj (PW.pt (jj (jm (ir (qC (K:=K) rfl) rfl T.isi je (gN (pv 0) (gN (jX (v:= .ty "bool") rfl T.bool qP rfl) gP)))) (jH (jG (jm (ir (qC (K:=K) rfl) rfl T.isi je (gN (pv 0) (gN (jX (v:= .ty "int") rfl T.int mz rfl) gP))))))))) (fun _ _ _=>pv 0) (jK (by decide)) rfl rfl
    dkq rfl dkq dkq rfl dkq) (iK gP) (iy _)) (g0 (iC (iK (gN gZ gP)))) iL)
   (gS (iN (jG (jm (iE GI hr rfl DI.m DI.F.kp bI .nil iM (gN (iE GW3 hr rfl DW.m DW.F.kp bW .nil iM (gN (pv 0) gP)) (gN (g9 iO (pv 1) gQ (fun _ _=>rfl)) (gN (g9 iO (pv 1) gQ (fun _ _=>rfl)) (gN (g9 iO (pv 1) gQ (fun _ _=>rfl)) gP))))))) (g0 (iC (iK (gN gZ gP)))) iL)
   (g0 (iC (iE GL hr rfl DL.m DL.F.kp bL .nil iM (gN (pv 0) (gN (pv 1) gP))))))))),?_⟩
  have span:∀{H1:Hp},gO H H1->(∀ b e ms,¬ (nu H v b e ms/\iQ (words t) b e ms=true))->∀ l,H1 l=none->Q (.ref l) (upd H1 l (.lst [.str (pq 1)])):=fun{H1} s1 aP l hl=>by
   refine k1 ?_ l _ (gO.upf s1 hl) (s1.free hl) gY
   cases hq:k4 (words t) d with
   | none=>rfl
   | some q=>
    obtain⟨b,e,ms,rfl,h1,_⟩:=yI hq
    exact absurd ⟨Eu hv,h1⟩ (aP b e ms)
  have J:(∀ b e ms,¬ nu H v b e ms)->∀ b e ms,¬ (nu H v b e ms/\iQ (words t) b e ms=true):=fun h b e ms z=>h b e ms z.1
  refine⟨_,rfl,v,.ty "tuple",_,_,rfl,hv.ty,.inl ⟨_,rfl,qi d⟩,_,rfl,?_⟩
  have ay:=hv
  cases hv with
  | non=>exact gU (gU ⟨one,span (gO.refl _) (J fun b e ms h=>by obtain⟨_,_,_,z,_⟩:=h;cases z)⟩)
  | bl _=>exact gU (gU ⟨one,span (gO.refl _) (J fun b e ms h=>by obtain⟨_,_,_,z,_⟩:=h;cases z)⟩)
  | int _=>exact gU (gU ⟨one,span (gO.refl _) (J fun b e ms h=>by obtain⟨_,_,_,z,_⟩:=h;cases z)⟩)
  | str _=>exact gU (gU ⟨one,span (gO.refl _) (J fun b e ms h=>by obtain⟨_,_,_,z,_⟩:=h;cases z)⟩)
  | lst h1 _=>exact gU (gU ⟨one,span (gO.refl _) (J fun b e ms h=>by obtain⟨_,_,_,z,h2,_⟩:=h;cases z;rw [h1] at h2;cases h2)⟩)
  | tup hp aQ=>
   rename_i p xs ds
   refine g8 ⟨_,rfl,p,_,rfl,.inr (ia.of hp),rfl,_,rfl,?_⟩
   by_cases h3:xs.length=3
   ·refine kY (fun hb=>?_) (fun _=>?_)
    ·have ao:(!decide (V.int (xs.length:Int)=V.int 3))=true:=hb
     rw [h3] at ao
     exact absurd ao (by decide)
    match xs,h3,aQ with
    | [x,y,z],_,.cons (d:=dx) hx (.cons (d:=dy) hy (.cons (d:=dz) au .nil))=>
     have a3:=hp
     refine⟨_,rfl,p,_,_,_,rfl,rfl,ia.of hp,ik (j:=2) rfl,z,.ty "list",_,_,rfl,au.ty,.inl ⟨_,rfl,ue dz⟩,_,rfl,?_⟩
     obtain⟨lx,aA⟩:=pj (show(PyData.list [dx,dy,dz]).canLay0=true from aF)
     obtain⟨ly,aR⟩:=pj aA
     obtain⟨lz,_⟩:=pj aR
     have aq:(∀ m,z≠ .ref m)\/(∃ m,z= .ref m/\∀ ys,H m≠some (.lst ys))->∀ b e ms,¬ nu H (.ref p) b e ms:=fun hh b e ms hP=>by
      obtain⟨p',m,ps,e1,e2,e3,_⟩:=hP
      cases e1
      rw [hp] at e2
      cases e2
      rcases hh with hh | ⟨m',e4,hh⟩
      ·exact hh _ rfl
      ·cases e4
       exact hh _ e3
     cases au with
     | non=>exact gU ⟨one,span (gO.refl _) (J (aq (.inl fun m z=>by cases z)))⟩
     | bl _=>exact gU ⟨one,span (gO.refl _) (J (aq (.inl fun m z=>by cases z)))⟩
     | int _=>exact gU ⟨one,span (gO.refl _) (J (aq (.inl fun m z=>by cases z)))⟩
     | str _=>exact gU ⟨one,span (gO.refl _) (J (aq (.inl fun m z=>by cases z)))⟩
     | tup hm _=>exact gU ⟨one,span (gO.refl _) (J (aq (.inr ⟨_,rfl,fun ys e=>by rw [hm] at e;cases e⟩)))⟩
     | @lst m ys ds hm aB=>
      have yl:ys.length<=7000:=by rw [aB.len];exact aO
      refine g8 ⟨_,rfl,_,rfl,p,_,rfl,ia.of hp,(by show ¬ (HT.iI 3 0 none=0/\HT.iI 3 3 (some 2)=3);decide),fun p1 aS=>?_⟩
      refine⟨p1,_,rfl,.inr (ia.of gY),fun nl aT=>?_⟩
      have s1:gO H (upd (upd H p1 (.tup [x,y])) nl (.lst [x,y])):=gO.upf (hJ aS) aT
      have e1:upd (upd H p1 (.tup [x,y])) nl (.lst [x,y]) nl=some (.lst [x,y]):=gY
      change kq 2 _ _ (upd (upd H p1 (.tup [x,y])) nl (.lst [x,y])) _
      generalize upd (upd H p1 (.tup [x,y])) nl (.lst [x,y])=H1 at s1 e1 ⊢
      refine⟨_,rfl,p,_,_,_,rfl,rfl,ia.of (s1 _ _ hp),ik (j:=2) rfl,m,rfl,⟨_,gR.of (s1 _ _ hm)⟩,?_⟩
      refine qe (xs:=ys) (fun j σ H2=>∃(ns:List V) (nl:Addr) (o3:Option V),σ=[some (.str ⟨t.toArray⟩),some (.ref p),some (.ref nl),o3]/\gO H H2/\H2 nl=some (.lst ns)/\ns.length=2 + 2 * j/\(∀ i,i < j->∃ u a b,ys[i]? =some (.ref u)/\H u=some (.tup [a,b]))/\(∀ v,v∈ns↔v=x\/v=y\/EK H ys j v))
       ⟨_,nl,_,rfl,s1,e1,rfl,fun i hi=>absurd hi (Nat.not_lt_zero _),fun v=>?_⟩ (fun j σ H2 _ q=>by obtain⟨_,_,_,_,q,_⟩:=q;exact gR.of (q _ _ hm)) ?_ ?_
      ·simp only [List.mem_cons,List.not_mem_nil,or_false]
       refine⟨fun h=>h.elim .inl fun h=> .inr (.inl h),fun h=>?_⟩
       rcases h with h | h | ⟨j,_,_,_,hj,_⟩
       ·exact .inl h
       ·exact .inr h
       ·exact absurd hj (Nat.not_lt_zero _)
      ·rintro j v σ H2 af ⟨ns,aC,aU,rfl,s2,e2,aV,aD,U⟩
       have hj:j < ys.length:=(List.getElem?_eq_some_iff.mp af).1
       obtain⟨dv,a4,av⟩:=aB.get af
       have aG:=av.same s2
       have ag:(∀ u a b,v= .ref u->H u≠some (.tup [a,b]))->∀ b e ms,¬ nu H (.ref p) b e ms:=fun hh b e ms hP=>by
        obtain⟨p',m',ps,q1,q2,q3,q4⟩:=hP
        cases q1
        rw [hp] at q2
        cases q2
        rw [hm] at q3
        cases q3
        obtain⟨u,n,rfl,hu⟩:=yj q4 af
        exact hh u _ _ rfl hu
       refine⟨_,rfl,v,.ty "tuple",_,_,rfl,aG.ty,.inl ⟨_,rfl,qi dv⟩,_,rfl,?_⟩
       cases av with
       | non=>exact gU (gU ⟨one,span s2 (J (ag fun u a b z=>by cases z))⟩)
       | bl _=>exact gU (gU ⟨one,span s2 (J (ag fun u a b z=>by cases z))⟩)
       | int _=>exact gU (gU ⟨one,span s2 (J (ag fun u a b z=>by cases z))⟩)
       | str _=>exact gU (gU ⟨one,span s2 (J (ag fun u a b z=>by cases z))⟩)
       | lst hu _=>exact gU (gU ⟨one,span s2 (J (ag fun u a b z q=>by cases z;rw [hu] at q;cases q))⟩)
       | @tup u us du hu a5=>
        refine g8 ⟨_,rfl,u,_,rfl,.inr (ia.of (s2 _ _ hu)),rfl,_,rfl,?_⟩
        by_cases h2:us.length=2
        ·refine kY (fun hb=>?_) (fun _=>?_)
         ·have ao:(!decide (V.int (us.length:Int)=V.int 2))=true:=hb
          rw [h2] at ao
          exact absurd ao (by decide)
         match us,h2,hu with
         | [a,b],_,hu=>
          refine⟨_,rfl,_,rfl,u,_,rfl,.inr (ia.of (s2 _ _ hu)),fun l3 aW=>?_⟩
          have s3:=hJ (o:= .lst [a,b]) aW
          refine⟨aC,l3,_,_,rfl,rfl,s3 _ _ e2,gY,(by show _ + 2<=_;omega),fun l4 aX=>?_⟩
          refine⟨ns++[a,b],l4,_,rfl,gO.upf (s2.trans s3) aX,gY,by rw [List.length_append];show _ + 2=_;omega,fun i hi=>?_,fun v=>?_⟩
          ·by_cases q:i < j
           ·exact aD i q
           ·have:i=j:=by omega
            subst this
            exact⟨u,a,b,af,hu⟩
          ·rw [List.mem_append,U v]
           constructor
           ·rintro(h | h)
            ·rcases h with h | h | ⟨i,u',a',b',hi,q⟩
             ·exact .inl h
             ·exact .inr (.inl h)
             ·exact .inr (.inr ⟨i,u',a',b',by omega,q⟩)
            ·refine .inr (.inr ⟨j,u,a,b,by omega,af,hu,?_⟩)
             simpa using h
           ·rintro(h | h | ⟨i,u',a',b',hi,q1,q2,q3⟩)
            ·exact .inl (.inl h)
            ·exact .inl (.inr (.inl h))
            ·by_cases q:i < j
             ·exact .inl (.inr (.inr ⟨i,u',a',b',q,q1,q2,q3⟩))
             ·have:i=j:=by omega
              subst this
              rw [af] at q1
              cases q1
              rw [hu] at q2
              cases q2
              exact .inr (by simpa using q3)
        ·refine kY (fun _=>⟨one,span s2 (J (ag fun u' a b z q=>?_))⟩) (fun hb=>absurd (show(!decide (V.int (us.length:Int)=V.int 2))=true from ?_) hb)
         ·cases z
          rw [hu] at q
          cases q
          exact h2 rfl
         ·rw [decide_eq_false (fun q=>h2 (by injection q with q;omega))]
          rfl
      ·rintro σ H2 ⟨ns,aC,aU,rfl,s2,e2,aV,aD,U⟩
       have aH:∀ v∈ns,Pd H v:=fun v hv=>by
        rcases(U v).mp hv with rfl | rfl | ⟨i,u,a,b,hi,q1,q2,q3⟩
        ·exact⟨_,hx,lx⟩
        ·exact⟨_,hy,ly⟩
        ·obtain⟨pa,pb⟩:=CP (xf aB lz _ (List.mem_of_getElem? q1)) q2
         rcases q3 with rfl | rfl
         ·exact pa
         ·exact pb
       refine⟨_,rfl,aC,rfl,⟨_,gR.of e2⟩,?_⟩
       refine mT (xs:=ns) (fun i zs G=>G=H2/\zs=(ns.take i).filter fun v=>(zI v).isNone) (by omega) (fun j zs G q=>by rw [q.1];exact gR.of e2) ⟨rfl,rfl⟩ ?_ ?_
       ·rintro i v zs G N aI ⟨rfl,rfl⟩ hN
        obtain⟨dv,av,_⟩:=(aH v (List.mem_of_getElem? aI)).same s2
        have ty:jQ K G v (.type (sk dv)):=av.ty
        have ah:(ns.take (i + 1)).filter (fun v=>(zI v).isNone)=(ns.take i).filter (fun v=>(zI v).isNone)++(if (zI v).isNone then [v] else []):=by
         rw [List.take_add_one,aI,List.filter_append]
         cases au:(zI v).isNone<;>simp [au]
        refine⟨_,rfl,v,.ty "bool",_,_,rfl,ty,.inl ⟨_,rfl,qU ty⟩,_,rfl,?_⟩
        have fi:=Hh v
        cases hbl:mG v with
        | true=>
         rw [hbl] at fi
         rw [<-fi] at ah
         exact gU (gU ⟨_,rfl,hN _ _ ⟨rfl,ah.symm⟩⟩)
        | false=>
         rw [hbl] at fi
         refine g8 ⟨_,rfl,v,.ty "int",_,_,rfl,ty,.inl ⟨_,rfl,yg ty⟩,_,rfl,?_⟩
         cases hin:ma v with
         | true=>
          rw [hin] at fi
          rw [<-fi] at ah
          refine g8 (hN _ _ ⟨rfl,?_⟩)
          rw [ah]
          exact(List.append_nil _).symm
         | false=>
          rw [hin] at fi
          rw [<-fi] at ah
          exact gU ⟨_,rfl,hN _ _ ⟨rfl,ah.symm⟩⟩
       ·rintro zs G ⟨rfl,rfl⟩ _ u hu
        rw [List.take_length]
        refine⟨Nat.zero_le _,fun u2 aJ=>?_⟩
        have s4:=gO.upf (o:= .lst []) (hJ (H:=G) (o:= .lst (ns.filter fun v=>(zI v).isNone)) hu) aJ
        have aw:=s2.trans s4
        obtain⟨dz,aK,aA⟩:=pX (H:=upd (upd G u (.lst (ns.filter fun v=>(zI v).isNone))) u2 (.lst [])) (xs:=ns.filter fun v=>(zI v).isNone) fun v hv=>(aH v (List.mem_filter.mp hv).1).same aw
        refine⟨.list dz,.list [],.lst (gR.of (hJ aJ _ _ gY)) aK.dt,.lst (gR.of gY) .nil,aA,rfl,Nat.le_trans (Nat.min_le_right _ _) (by decide),_,rfl,?_⟩
        rw [En]
        have dl:=aK.len
        generalize upd (upd G u (.lst (ns.filter fun v=>(zI v).isNone))) u2 (.lst [])=H4 at aw ⊢
        cases hde:dz.isEmpty with
        | false=>
         refine gU ⟨one,span aw (J fun b e ms hP=>?_)⟩
         obtain⟨p',m',ps,q1,q2,q3,q4⟩:=hP
         cases q1
         rw [hp] at q2
         cases q2
         rw [hm] at q3
         cases q3
         have:ns.filter (fun v=>(zI v).isNone)=[]:=List.filter_eq_nil_iff.mpr fun v hv=>by
          rcases(U v).mp hv with rfl | rfl | ⟨i,u,a,b,hi,z1,z2,z3⟩
          ·exact Bool.false_ne_true
          ·exact Bool.false_ne_true
          ·obtain⟨u',n,e4,aL⟩:=yj q4 z1
           cases e4
           rw [z2] at aL
           cases aL
           rcases z3 with rfl | rfl<;>exact Bool.false_ne_true
         rw [this] at dl
         cases dz with
         | nil=>cases hde
         | cons _ _=>cases dl
        | true=>
         refine g8 ?_
         have aa:∀ v∈ns,∃ n,v= .int n:=fun v hv=>by
          have:dz=[]:=by cases dz with | nil=>rfl | cons _ _=>cases hde
          rw [this] at dl
          have hf:ns.filter (fun v=>(zI v).isNone)=[]:=List.eq_nil_of_length_eq_zero dl
          have:=List.filter_eq_nil_iff.mp hf v hv
          exact D2 (Bool.eq_false_iff.mpr this)
         obtain⟨b,rfl⟩:=aa x ((U x).mpr (.inl rfl))
         obtain⟨e,rfl⟩:=aa y ((U y).mpr (.inr (.inl rfl)))
         obtain⟨ps,ms,rfl,aM⟩:=vF (H:=H) (ys:=ys) fun v hv=>by
          obtain⟨i,hi⟩:=List.getElem?_of_mem hv
          have aE:=(List.getElem?_eq_some_iff.mp hi).1
          obtain⟨u,a,b',q1,q2⟩:=aD i aE
          rw [hi] at q1
          cases q1
          obtain⟨a',rfl⟩:=aa a ((U a).mpr (.inr (.inr ⟨i,u,a,b',aE,hi,q2,.inl rfl⟩)))
          obtain⟨aY,rfl⟩:=aa b' ((U b').mpr (.inr (.inr ⟨i,u,_,b',aE,hi,q2,.inr rfl⟩)))
          exact⟨u,a',aY,rfl,q2⟩
         have ae:=GK ay ⟨p,m,ps,rfl,hp,hm,aM⟩
         refine⟨_,rfl,⟨t.toArray⟩,rfl,⟨by rw [iB];exact ax,by rw [jY];exact hok⟩,fun a H9 s9 ha hW=>?_⟩
         rw [jY] at hW
         have ak:=aw.trans s9
         have wl:=sZ t
         refine⟨_,rfl,p,_,_,_,rfl,rfl,ia.of (ak _ _ hp),ik (j:=0) rfl,_,rfl,p,_,_,_,rfl,rfl,ia.of (ak _ _ hp),ik (j:=1) rfl,_,rfl,p,_,_,_,rfl,rfl,ia.of (ak _ _ hp),ik (j:=2) rfl,a,m,b,e,words t,ms,rfl,hW,lX t,by omega,⟨ps,ak _ _ hm,Gn.Paired.imp2 aM fun _ _ e=>ak _ _ e⟩,fun a6 aZ=>⟨_,rfl,?_⟩⟩
         have ar:=ak.trans aZ
         cases hpc:iQ (words t) b e ms with
         | false=>
          refine gU ⟨one,fun l hl=>k1 ?_ l _ (gO.upf ar hl) (ar.free hl) gY⟩
          rw [ae,w6,hpc]
          rfl
         | true=>
          obtain⟨i,j,b',e',aN,rfl,rfl,rfl,_⟩:=rX hok ax hpc
          rw [rq] at ae
          rw [ae] at ay
          obtain⟨p',m',q1,q2,q3⟩:=xR ay
          cases q1
          exact g8 ⟨_,rfl,_,rfl,t,p,m',b',e',aN,rfl,hok,ax,ar _ _ q2,q3.same ar,hpc,fun a7 a0=>k2 b' e' aN ae hpc _ (ar.trans a0)⟩
   ·refine kY (fun _=>gU ⟨one,span (gO.refl _) (J fun b e ms h=>?_)⟩) (fun hb=>absurd (show(!decide (V.int (xs.length:Int)=V.int 3))=true from ?_) hb)
    ·obtain⟨_,_,_,q1,q2,_⟩:=h
     cases q1
     rw [hp] at q2
     cases q2
     exact h3 rfl
    ·rw [decide_eq_false (fun q=>h3 (by injection q with q;omega))]
     rfl
end
open WN (kE Rs Pl)
theorem D5{ws:List Wd}(hs:Sr ws){i:Nat}{x:Wd}(h:ws[i]? =some x):ix (wB ws) (x.2.1:Int)=some i:=by
 have hm:(ix (wB ws) (x.2.1:Int)).isSome=true:=uW.mpr ⟨x.2.1,List.mem_of_getElem? (ph h).1,rfl⟩
 cases q:ix (wB ws) (x.2.1:Int) with
 | none=>rw [q] at hm;cases hm
 | some j=>
  obtain⟨y,U,e⟩:=lE q
  obtain⟨y',J,ey⟩:=uN U
  have e':y=x.2.1:=by omega
  have o1:=hs.own h
  have o2:=hs.own J
  rcases Nat.lt_trichotomy j i with c | c | c
  ·have:=hs.lt J h c;omega
  ·rw [c]
  ·have:=hs.lt h J c;omega
theorem Aw{ws:List Wd}(hs:Sr ws){i:Nat}{x:Wd}(h:ws[i]? =some x):ix (wE ws) (x.2.2:Int)=some i:=by
 have hm:(ix (wE ws) (x.2.2:Int)).isSome=true:=uW.mpr ⟨x.2.2,List.mem_of_getElem? (ph h).2,rfl⟩
 cases q:ix (wE ws) (x.2.2:Int) with
 | none=>rw [q] at hm;cases hm
 | some j=>
  obtain⟨y,U,e⟩:=lE q
  obtain⟨y',J,ey⟩:=tq U
  have e':y=x.2.2:=by omega
  have o1:=hs.own h
  have o2:=hs.own J
  rcases Nat.lt_trichotomy j i with c | c | c
  ·have:=hs.lt J h c;omega
  ·rw [c]
  ·have:=hs.lt h J c;omega
theorem yB{ws:List Wd}(hs:Sr ws){i j:Nat}{x y:Wd}(hi:ws[i]? =some x)(hj:ws[j]? =some y)(h:i<=j):spn ws (x.2.1:Int) (y.2.2:Int)=some (i,j):=by
 unfold spn
 rw [D5 hs hi,Aw hs hj]
 exact if_pos h
noncomputable def ny(ws:List Wd)(r:Nat×Nat):Nat×Nat:=((ws.getD r.1 ([],0,0)).2.1,(ws.getD r.2 ([],0,0)).2.2)
theorem getD_at{ws:List Wd}{i:Nat}(h:i < ws.length):ws[i]? =some (ws.getD i ([],0,0)):=by rw [List.getD_eq_getElem?_getD,List.getElem?_eq_getElem h];rfl
theorem wV{ws:List Wd}(hs:Sr ws){t:Nat}(ht:t < ws.length):∀{acc:List (Nat×Nat)} {l:Nat},acc.Pairwise (fun a b=>a.2 + 1 < b.1)->(∀ r∈acc,r.1<=r.2/\r.2<=t)->(∀ r∈acc,l<=r.1)->jk ws t l ((acc.map (ny ws)).map zP)=true
 | [],_,_,_,_=>rfl
 | r::acc,l,J,hr,hl=>by
  obtain⟨h1,h2⟩:=hr r List.mem_cons_self
  have h3:=hl r List.mem_cons_self
  rw [List.pairwise_cons] at J
  have e:=yB hs (getD_at (show r.1 < ws.length by omega)) (getD_at (show r.2 < ws.length by omega)) h1
  have ih:=wV hs ht (acc:=acc) (l:=r.2 + 2) J.2 (fun x U=>hr x (List.mem_cons_of_mem _ U)) (fun x U=>by have:=J.1 x U;omega)
  show(match spn ws ((ws.getD r.1 ([],0,0)).2.1:Int) ((ws.getD r.2 ([],0,0)).2.2:Int) with | none=>false | some q=>decide (l<=q.1) && decide (q.2<=t) && jk ws t (q.2 + 2) ((acc.map (ny ws)).map zP))=true
  rw [e]
  show(decide (l<=r.1) && decide (r.2<=t) && jk ws t (r.2 + 2) ((acc.map (ny ws)).map zP))=true
  rw [ih,decide_eq_true h3,decide_eq_true h2]
  rfl
section
variable {P : Program} {w : World} {K : PySem.W.Frag} {mg : Str -> Option Value} {base : Heap} {CT CS CL : Addr}
noncomputable def xg:Sp:=fun vs H Q _=>∃(n:Int) (a:Addr) (ws:List Wd),vs=[.int n,.ref a]/\0<=n/\WL H a ws/\Sr ws/\1<=ws.length/\ws.length<=200/\∀(b e:Nat) (ns:List (Nat×Nat)) p m H',gO H H'->H p=none->H m=none->H' p=some (.tup [.int b,.int e,.ref m])->jL H' m ns->iQ ws b e (ns.map zP)=true->Q (.ref p) H'
theorem og:iU ["_law_number_here","_law_words_here","_law_first","_law_last","_law_marked","_law_place","_law_marks"] ["_law_number_here","_law_words_here"] (iu oF):=⟨rfl,rfl,rfl,dkq,rfl,dkq,dkq⟩
noncomputable abbrev Cw:List Str:=["_law_number_here","_law_words_here","_law_first","_law_last","_law_marked","_law_place","_law_marks"]
theorem z9:(["_law_begin","_law_end","_law_words_here"]:List Str).Nodup:=dkq
theorem BL(bs:List Bool):kZ (.bl true) (bs.map V.bl)=bs.any id:=by
 unfold kZ
 rw [List.any_map]
 congr 1
 funext b
 cases b<;>rfl
theorem AO(bs:List Bool):(bs.map V.bl).all kD=true:=by simp [kD]
theorem E1{n j:Nat}(h:j < n):kO n (j:Int)=some j:=by
 unfold kO
 simp
 omega
seal iD PS PE PT PA PG PI iX iW in
theorem Dd{f fm fr:Addr}{fd fdm fdr:FuncData}(D:Df K mg "_law_piece" oF f fd)(DM:Df K mg "_law_mixed" mQ fm fdm)(DR:Df K mg "_law_rows" pD fr fdr)(T:Txt mg):hZ P w K mg base iw 2 f fd ["_law_number_here","_law_words_here"] xg:=by
 have GM:hZ P w K mg base iw 1 fm fdm ["_law_number_here","_law_k"] qI:=rW DM
 have GR:hZ P w K mg base iw 1 fr fdr ["_law_flags"] zi:=CO DR T
 have bM:=DM.F.binds (ps:=["_law_number_here","_law_k"]) fun _ _ _ _ _ _ us hl=>match us,hl with | [_,_],_=>rfl
 have bR:=jM (p:="_law_flags") DR.F fun _ _ _ _ _ _ _=>rfl
 refine D.F.ok og (fun vs H Q E h=>?_) (fun cdv A outer s H vs Q E hr h=>?_)
 ·obtain⟨n,a,ws,rfl,_⟩:=h
  rfl
 ·obtain⟨n,a,ws,rfl,h0,hW,hs,h1,h2,k⟩:=h
  have hz:(sizeLine:Nat)=16777216:=sizeLine_eq
  obtain⟨ps,eA,pA⟩:=hW.ex
  have ae:(ps.map V.ref).length=ws.length:=by rw [List.length_map];exact Gn.Paired.len pA
  refine⟨_,gS (hU (i:=2) og.nd rfl (Or.inl rfl) (gX iZ (pv 0) (ir jN rfl T.len i0 (gN (pv 1) gP))))
   (gS (hU (i:=3) og.nd rfl (Or.inl rfl) (gX jb (pv 2) (gX iZ (gX iZ (gX jO (pv 0) gQ) gQ) (gX lR (ir jN rfl T.len i0 (gN (pv 1) gP)) (pv 2)))))
   (gS (hU (i:=4) og.nd rfl (Or.inl rfl) (iK gP))
   (gS (kR PassesOwn.never rfl (nt rfl T.range (gN (ir jN rfl T.len i0 (gN (pv 1) gP)) gP)) (iS (i:=5) og.nd rfl (Or.inl rfl))
    (g0 (ke (jr F.plainAttrs_list F.slot_list_append F.type_list_append kj (pv 4) (gN (sy (Al zE zE (pv 2) (pv 5) (pv 3))
     (qc (k9 jD (gX iZ (gX jO (iE GM hr rfl DM.m DM.F.kp bM .nil iM (gN (pv 0) (gN (gX jb gQ (pv 5)) gP))) gQ) gQ) gQ (iy _)))) gP)))))
   (gS (oH (iq pQ jW (pv 4) (by with_unfolding_all rfl)) (g0 (rY jW (zf (pv 4) (pv 2) set_list))) iL)
   (gS (mE (i:=6) og.nd rfl (Or.inl rfl) (own:=2) (caps:=[1]) (N:=["_law_begin","_law_end","_law_words_here"]) (N0:=Cw) (sc0:=iu oF) rfl (kJ (iE GR hr rfl DR.m DR.F.kp bR .nil iM (gN (pv 4) gP)))
    (fun _ _ _=>kS (n:=2) rfl (jx (iS (i:=0) z9 rfl (Or.inl rfl)) (jx (iS (i:=1) z9 rfl (Or.inl rfl)) k7))) (fun _ _ _=>k8)
    (fun _ _ _=>ja (gN (g9 (lO (K:=K) rfl) (g9 (rT (K:=K) rfl) (pv 2) (pv 0) (fun _ _=>rfl)) gQ (fun _ _=>rfl)) (gN (g9 (lO (K:=K) rfl) (g9 (rT (K:=K) rfl) (pv 2) (pv 1) (fun _ _=>rfl)) gQ (fun _ _=>rfl)) gP)))
    (nc (ky (jK (by decide)) (ky (jK (by decide)) mY))) rfl rfl dkq rfl dkq dkq rfl dkq (fun _ _ _ h=>h))
   (g0 (iC (ja (gN (g9 iO (g9 jn (pv 1) (pv 2) (fun _ _=>rfl)) gQ (fun _ _=>rfl)) (gN (g9 iO (g9 jn (pv 1) (pv 3) (fun _ _=>rfl)) gQ (fun _ _=>rfl)) (gN (pv 6) gP))))))))))),?_⟩
  obtain⟨J,aH⟩:∃ J:Nat,n % (ws.length:Int)=(J:Int):=⟨(n % (ws.length:Int)).toNat,by rw [Int.toNat_of_nonneg (Int.emod_nonneg _ (by omega))]⟩
  have aP:J < ws.length:=by
   have:=Int.emod_lt_of_pos n (show(0:Int) < (ws.length:Int) by omega)
   omega
  obtain⟨dd,aI⟩:∃ dd:Nat,n / 1000 % 8 % ((ws.length:Int) - (J:Int))=(dd:Int):=⟨(n / 1000 % 8 % ((ws.length:Int) - (J:Int))).toNat,by rw [Int.toNat_of_nonneg (Int.emod_nonneg _ (by omega))]⟩
  have aw:J + dd < ws.length:=by
   have:=Int.emod_lt_of_pos (n / 1000 % 8) (show(0:Int) < (ws.length:Int) - (J:Int) by omega)
   omega
  refine⟨_,rfl,_,rfl,a,_,rfl,.inl (gR.of eA),_,_,rfl,rfl,(by show(0:Int) < ((ps.map V.ref).length:Int);rw [ae];omega),?_⟩
  show kq 2 (V.int (n % ((ps.map V.ref).length:Int))) _ _ _
  rw [ae,aH]
  refine⟨_,rfl,_,rfl,_,_,rfl,rfl,⟨by decide,by decide⟩,_,_,rfl,rfl,(by show(0:Int) < 8;decide),_,rfl,a,_,rfl,.inl (gR.of eA),_,rfl,_,_,rfl,rfl,_,_,rfl,rfl,(by rw [ae];omega),_,_,rfl,rfl,?_⟩
  show kq 3 (V.int ((J:Int) + n / 1000 % 8 % (((ps.map V.ref).length:Int) - (J:Int)))) _ _ _
  rw [ae,aI,show(J:Int) + (dd:Int)=((J + dd:Nat):Int) by omega]
  generalize aQ:J + dd=la at aw
  have aD:J<=la:=by omega
  refine⟨Nat.zero_le _,fun l hl=>?_⟩
  have s1:gO H (upd H l (.lst [])):=hJ hl
  refine⟨_,rfl,a,_,rfl,.inl (gR.of (s1 _ _ eA)),_,rfl,by omega,by rw [ae];omega,?_⟩
  rw [Int.toNat_natCast,ae]
  refine oQ (fun i σ H'=>∃(bs:List Bool) (o5:Option V),σ=[some (.int n),some (.ref a),some (.int J),some (.int la),some (.ref l),o5,none]/\gO H H'/\H' l=some (.lst (bs.map V.bl))/\bs.length=i/\∀ j,bs[j]? =some true->J<=j/\j<=la) ?_ ?_ ?_
  ·exact⟨[],none,rfl,s1,gY,rfl,fun j h=>by simp at h⟩
  ·rintro i σ H' hi ⟨bs,o5,rfl,sm,eL,ak,ao⟩
   have add:∀ z:Bool,(z=true->J<=i/\i<=la)->∃(aa:List Bool) (o5:Option V),[some (.int n),some (.ref a),some (.int J),some (.int la),some (.ref l),some (.int (0 + (i:Int))),none]=[some (.int n),some (.ref a),some (.int J),some (.int la),some (.ref l),o5,none]/\gO H (upd H' l (.lst (bs.map V.bl++[.bl z])))/\upd H' l (.lst (bs.map V.bl++[.bl z])) l=some (.lst (aa.map V.bl))/\aa.length=i + 1/\∀ j,aa[j]? =some true->J<=j/\j<=la:=fun z aJ=>
    ⟨bs++[z],_,rfl,kA sm hl,by rw [gY,List.map_append];rfl,by rw [List.length_append,ak];rfl,fun j hj=>by
     by_cases q:j < bs.length
     ·rw [List.getElem?_append_left q] at hj;exact ao j hj
     ·rw [List.getElem?_append_right (by omega)] at hj
      have:j - bs.length=0:=by
       rcases Nat.eq_zero_or_pos (j - bs.length) with h | h
       ·exact h
       ·rw [List.getElem?_eq_none (by simp;omega)] at hj;cases hj
      rw [this] at hj
      have e:z=true:=by simpa using hj
      have e2:j=i:=by omega
      rw [e2];exact aJ e⟩
   refine⟨_,rfl,.inl ⟨rfl,_,gR.of eL⟩,_,rfl,_,rfl,_,_,rfl,rfl,_,rfl,?_⟩
   have ll:(bs.map V.bl).length < sizeLine:=by rw [List.length_map];omega
   by_cases c1:J<=i
   ·rw [decide_eq_true (show(J:Int)<=0 + (i:Int) by omega)]
    refine gU ⟨_,rfl,_,_,rfl,rfl,_,rfl,?_⟩
    by_cases c2:i<=la
    ·rw [decide_eq_true (show 0 + (i:Int)<=(la:Int) by omega)]
     refine gU ⟨_,rfl,_,rfl,_,_,rfl,rfl,n,_,rfl,by omega,by omega,fun r r0 r1=>?_⟩
     exact⟨_,_,rfl,rfl,⟨by decide,by decide⟩,_,_,rfl,rfl,(by show(0:Int) < 2;decide),rfl,l,_,_,rfl,rfl,eL,ll,add _ fun _=>⟨c1,c2⟩⟩
    ·rw [decide_eq_false (show ¬ 0 + (i:Int)<=(la:Int) by omega)]
     exact g8 ⟨l,_,_,rfl,rfl,eL,ll,add false fun z=>by cases z⟩
   ·rw [decide_eq_false (show ¬ (J:Int)<=0 + (i:Int) by omega)]
    exact g8 ⟨_,rfl,g8 ⟨l,_,_,rfl,rfl,eL,ll,add false fun z=>by cases z⟩⟩
  ·rintro σ H' ⟨bs,o5,rfl,sm,eL,ak,ao⟩
   refine⟨fun aE H5=>∃ aa:List Bool,aE=[some (.int n),some (.ref a),some (.int J),some (.int la),some (.ref l),o5,none]/\gO H H5/\H5 l=some (.lst (aa.map V.bl))/\aa.length=ws.length/\(∀ j:Nat,aa[j]? =some true->J<=j/\j<=la)/\∃ j:Nat,aa[j]? =some true,?_,?_⟩
   ·refine⟨_,rfl,l,_,rfl,.inl (gR.of eL),rfl,AO bs,?_⟩
    refine⟨_,rfl,?_⟩
    rw [BL]
    cases hany:bs.any id with
    | true=>
     refine g8 ⟨bs,rfl,sm,eL,ak,ao,?_⟩
     obtain⟨b,hb,e⟩:=List.any_eq_true.mp hany
     obtain⟨j,hj⟩:=List.getElem?_of_mem hb
     have e':b=true:=e
     exact⟨j,by rw [hj,e']⟩
    | false=>
     refine gU ⟨_,rfl,_,rfl,l,_,_,J,rfl,rfl,eL,E1 (by rw [List.length_map];omega),?_⟩
     refine⟨bs.set J true,rfl,kA sm hl,by rw [gY,List.map_set],by rw [List.length_set];exact ak,fun j hj=>?_,J,by rw [List.getElem?_set_self (by omega)]⟩
     by_cases q:J=j
     ·omega
     ·rw [List.getElem?_set_ne q] at hj
      exact ao j hj
   ·rintro aE H5 ⟨aa,rfl,s5,aK,aO,au,j0,aF⟩
    refine⟨_,rfl,l,aa,rfl,aK,by omega,fun pr H6 acc s6 aR aL ah aS=>?_⟩
    obtain⟨qs,eP,aG⟩:=aL.ex
    have ax:=s5.trans s6
    have av:(qs.map V.ref).length=acc.length:=by rw [List.length_map];exact Gn.Paired.len aG
    have af:∀ r∈acc,r.1<=r.2/\J<=r.1/\r.2<=la:=fun r U=>by
     have w:=ah.r.w r U
     have c1:=((ah.c r.1).mp ⟨r,U,Nat.le_refl _,w⟩).2
     have c2:=((ah.c r.2).mp ⟨r,U,w,Nat.le_refl _⟩).2
     exact⟨w,(au _ c1).1,(au _ c2).2⟩
    have aM:acc≠[]:=fun z=>by
     have:kE acc j0:=(ah.c j0).mpr ⟨(List.getElem?_eq_some_iff.mp aF).1,aF⟩
     rw [z] at this
     obtain⟨_,h,_⟩:=this
     cases h
    refine⟨pr,rfl,⟨_,gR.of eP⟩,mT (xs:=qs.map V.ref) (fun i ys H7=>gO H6 H7/\∃ us:List Addr,ys=us.map V.ref/\Paired (fun u (n:Nat×Nat)=>H7 u=some (.tup [.int n.1,.int n.2])) us ((acc.take i).map (ny ws))) (by rw [av];omega) (fun i ys H7 q=>gR.of (q.1 _ _ eP)) ⟨gO.refl _,[],rfl,.nil⟩ ?_ ?_⟩
    ·rintro i v ys H7 N hv ⟨s7,us,rfl,aq⟩ hN
     obtain⟨u,r,rfl,U,hu⟩:=mH (H:=H) aG hv
     obtain⟨w1,w2,w3⟩:=af r (List.mem_of_getElem? U)
     obtain⟨p1,ay,aA⟩:=Gn.Paired.at pA (getD_at (ws:=ws) (i:=r.1) (by omega))
     obtain⟨p2,aB,aC⟩:=Gn.Paired.at pA (getD_at (ws:=ws) (i:=r.2) (by omega))
     have ar:=ax.trans s7
     refine⟨u,_,rfl,ia.of (s7 _ _ hu),rfl,_,_,rfl,_,_,rfl,rfl,?_⟩
     refine⟨_,rfl,_,rfl,a,_,_,_,rfl,rfl,gR.of (ar _ _ eA),ik (j:=r.1) (v:= .ref p1) (by rw [List.getElem?_map,ay];rfl),p1,_,_,_,rfl,rfl,ia.of (ar _ _ aA),ik (j:=1) rfl,_,rfl,_,rfl,a,_,_,_,rfl,rfl,gR.of (ar _ _ eA),ik (j:=r.2) (v:= .ref p2) (by rw [List.getElem?_map,aB];rfl),p2,_,_,_,rfl,rfl,ia.of (ar _ _ aC),ik (j:=2) rfl,lQ,fun q hq=>?_⟩
     refine hN _ _ ⟨gO.upf s7 hq,us++[q],by rw [List.map_append];rfl,?_⟩
     rw [List.take_add_one,U,List.map_append]
     exact Gn.Paired.app (Gn.Paired.imp2 aq fun _ _ e=>hJ hq _ _ e) gY
    ·rintro ys H7 ⟨s7,us,rfl,aq⟩ _ m hm
     rw [av,List.take_length] at aq
     have s8:gO H7 (upd H7 m (.lst (us.map V.ref))):=hJ hm
     have em:upd H7 m (.lst (us.map V.ref)) m=some (.lst (us.map V.ref)):=gY
     have aN:H m=none:=(ax.trans s7).free hm
     generalize upd H7 m (.lst (us.map V.ref))=H8 at s8 em ⊢
     have ag:=(ax.trans s7).trans s8
     obtain⟨p1,ay,aA⟩:=Gn.Paired.at pA (getD_at (ws:=ws) (i:=J) (by omega))
     obtain⟨p2,aB,aC⟩:=Gn.Paired.at pA (getD_at (ws:=ws) (i:=la) (by omega))
     refine⟨_,rfl,_,rfl,a,_,_,_,rfl,rfl,gR.of (ag _ _ eA),ik (j:=J) (v:= .ref p1) (by rw [List.getElem?_map,ay];rfl),p1,_,_,_,rfl,rfl,ia.of (ag _ _ aA),ik (j:=1) rfl,_,rfl,_,rfl,a,_,_,_,rfl,rfl,gR.of (ag _ _ eA),ik (j:=la) (v:= .ref p2) (by rw [List.getElem?_map,aB];rfl),p2,_,_,_,rfl,rfl,ia.of (ag _ _ aC),ik (j:=2) rfl,_,rfl,by show 3<=sizeLine;omega,fun p hp=>?_⟩
     have s9:gO H8 (upd H8 p (.tup [.int ((ws.getD J ([],0,0)).2.1:Nat),.int ((ws.getD la ([],0,0)).2.2:Nat),.ref m])):=hJ hp
     refine k (ws.getD J ([],0,0)).2.1 (ws.getD la ([],0,0)).2.2 (acc.map (ny ws)) p m _ (ag.trans s9) (ag.free hp) aN gY ⟨us,s9 _ _ em,Gn.Paired.imp2 aq fun _ _ e=>s9 _ _ (s8 _ _ e)⟩ ?_
     unfold iQ
     rw [yB hs (getD_at (show J < ws.length by omega)) (getD_at aw) aD]
     show(!((acc.map (ny ws)).map zP).isEmpty && jk ws la J ((acc.map (ny ws)).map zP))=true
     rw [wV hs aw ah.r.o (fun r U=>⟨(af r U).1,(af r U).2.2⟩) fun r U=>(af r U).2.1]
     cases acc with
     | nil=>exact absurd rfl aM
     | cons _ _=>rfl
end
end K24
namespace L2
open PySem PySem.Spec PyProof.Rows
theorem Inv.big2 {X:Cx}{pins:List (Addr×Obj)}{σ:L2.St}{H:Hp}{s:Shared}(I:Inv X pins σ H s):sysModules < s.heap.objs.size:=by
 have h:mainGlobals < s.heap.objs.size:=(I.mod.glob.keeps I.bk).lt
 exact Nat.lt_trans (by decide) h
noncomputable def CM:TE:=fun _ H Q=>∀ p,H p=none->Q (.ref p) (upd H p (.dK []))
theorem Hi{X:Cx}{pos:Pos}:PE X (.Dict [] [] pos) CM:=fun pins s σ H Q I h=>
 wpAny_Dict_empty ⟨.ref s.heap.objs.size,_,I.laid (a:=s.heap.objs.size) (o:= .dK []) (t':=s.toks) (fun _ _ q=>Heap.get?_push_of_some _ q) (Nat.le_refl _)
  ⟨Nat.zero_le _,beq_eq_false_iff_ne.mpr (Ne.symm (Nat.ne_of_lt I.big2)),[],.nil,Heap.DictOf.new s.heap⟩,rfl,h _ (I.hok.fresh (Nat.le_refl _))⟩
end L2
namespace SH
open K01 (Wd words iG)
open K24 (oc)
theorem Ch.len:∀{p q:Nat} {ms:List (Nat×Nat)},Ch p q ms->ms.length + p<=q
 | _,_,[],h=>by have h':_<=_:=h;simpa using h'
 | p,q,m::r,h=>by
  have:=Ch.len h.2.2
  have:=h.1
  have:=h.2.1
  show r.length + 1 + p<=q
  omega
theorem Ie{c:Nat}(h:iG c=true):oc c:=by
 unfold iG at h
 simp only [Bool.or_eq_true,Bool.and_eq_true,decide_eq_true_eq,Bool.not_eq_true',decide_eq_false_iff_not] at h
 constructor
 ·intro e
  subst e
  revert h
  decide
 ·omega
theorem HV{c:Nat}(h:iG c=true):∀ d∈jf c,oc d:=by
 have:=Ie h
 unfold jf
 repeat' split
 all_goals (intro d hd;simp only [List.mem_cons,List.not_mem_nil,or_false] at hd;rcases hd with rfl | rfl<;>first | exact this | (constructor<;>decide) | skip)
 all_goals first | exact this | (constructor<;>decide) | skip
theorem rO:∀{s:List Nat},s.all iG=true->∀ d∈iA s,oc d
 | [],_,d,h=>nomatch h
 | c::s,J,d,h=>by
  rw [List.all_cons,Bool.and_eq_true] at J
  rw [l9] at h
  rcases List.mem_append.mp h with z | z
  ·exact HV J.1 d z
  ·exact rO J.2 d z
theorem rA{T:List Nat}(h:T.all iG=true)(p q:Nat):(sl T p q).all iG=true:=List.all_eq_true.mpr fun c hc=>List.all_eq_true.mp h c (List.mem_of_mem_drop (List.mem_of_mem_take hc))
theorem wA{T:List Nat}(h:T.all iG=true){q:Nat}:∀{ms:List (Nat×Nat)} {p:Nat},∀ d∈i6 T q p ms,oc d
 | [],p,d,hd=>rO (rA h _ _) d hd
 | m::r,p,d,hd=>by
  have J:d∈iA (sl T p m.1)++91::(iA (sl T m.1 m.2)++93::i6 T q m.2 r):=hd
  rcases List.mem_append.mp J with z | z
  ·exact rO (rA h _ _) d z
  ·rcases List.mem_cons.mp z with z | z
   ·rw [z];constructor<;>decide
   ·rcases List.mem_append.mp z with z | z
    ·exact rO (rA h _ _) d z
    ·rcases List.mem_cons.mp z with z | z
     ·rw [z];constructor<;>decide
     ·exact wA h d z
theorem zH(b:Bool){l:List Nat}(h:∀ c∈l,oc c):∀ c∈dot b l,oc c:=by
 cases b with
 | true=>exact h
 | false=>exact fun c hc=>nomatch hc
theorem vN{T:List Nat}(h:T.all iG=true)(b e:Nat)(ns:List (Nat×Nat)):∀ c∈iV T b e ns,oc c:=by
 unfold iV
 split
 ·exact fun c hc=>nomatch hc
 ·intro c hc
  rcases List.mem_append.mp hc with z | z
  ·rcases List.mem_append.mp z with z | z
   ·exact zH _ (by decide) c z
   ·exact wA h c z
  ·exact zH _ (by decide) c z
theorem Hk{T:List Nat}{b e:Nat}{ns:List (Nat×Nat)}(h:Ch b e ns):(iV T b e ns).length<=4 * (e - b) + 8:=by
 unfold iV
 split
 ·exact Nat.zero_le _
 ·rename_i q J
  rw [List.length_append,List.length_append]
  have:=K24.pZ T h
  have U:(dot (decide (0 < q.1)) dA).length<=4:=by cases decide (0 < q.1)<;>decide
  have d2:(dot (decide (q.2 + 1 < (words T).length)) dB).length<=4:=by cases decide (q.2 + 1 < (words T).length)<;>decide
  omega
end SH
namespace K24
open PySem L2 PyProof.Rows PySem.Spec Gn K01 SH
theorem zY:∀{a b:List (Nat×Nat)},a.map ju=b.map ju->a=b
 | [],[],_=>rfl
 | [],_::_,h=>by cases h
 | _::_,[],h=>by cases h
 | x::a,y::b,h=>by
  rw [List.map_cons,List.map_cons] at h
  injection h with h1 h2
  rw [zY h2]
  unfold ju at h1
  injection h1 with h1
  injection h1 with h3 h4
  injection h4 with h4 _
  injection h3 with h3
  injection h4 with h4
  rw [show x=y from Prod.ext (by omega) (by omega)]
theorem zZ{b e b' e':Nat}{ns ns':List (Nat×Nat)}(h:jR b e ns=jR b' e' ns'):b=b'/\e=e'/\ns=ns':=by
 unfold jR at h
 injection h with h
 injection h with h1 h
 injection h with h2 h
 injection h with h3 _
 injection h1 with h1
 injection h2 with h2
 injection h3 with h3
 exact⟨by omega,by omega,zY h3⟩
theorem tD(b e:Nat)(ns:List (Nat×Nat)):(jR b e ns).canLay0=true:=sN rfl rfl (oR ns)
theorem D8(b e:Nat)(ns:List (Nat×Nat)):(jR b e ns).depth<=100:=by
 have J:PyData.depthAll (ns.map ju)<=1:=qY ns
 show max 0 (max 0 (max (PyData.depthAll (ns.map ju) + 1) 0)) + 1<=100
 omega
theorem Dn{S:List Nat}(h:∀ c∈S,oc c):PyData.strOk ⟨S.toArray⟩=true:=by
 unfold PyData.strOk
 rw [<-Array.all_toList]
 refine List.all_eq_true.mpr fun c hc=>?_
 have:=(h c (by simpa using hc)).2
 exact decide_eq_true (by omega)
theorem one_mod(r:Int){n:Int}(h:0 < n):∃ k:Nat,1 + r % n=(k:Int)/\1<=k/\(k:Int)<=n:=by
 have h1:=Int.emod_nonneg r (show n≠0 by omega)
 have h2:=Int.emod_lt_of_pos r h
 exact⟨(1 + r % n).toNat,by omega,by omega,by omega⟩
section
variable {P : Program} {w : World} {K : PySem.W.Frag} {mg : Str -> Option Value} {base : Heap}
noncomputable abbrev xB:List Str:=["_law_script","_law_many","_law_text_here","_law_words_here","_law_piece_here","_law_kept","_law_line_here","_law_found","_law_signs","_law_other","_law_marks","_law_bad","_law_things"]
noncomputable def oY(K:W.Frag):Sp:=fun vs H Q _=>∃(a:Addr) (ns:List Int),vs=[.ref a]/\gR K H a (ns.map V.int)/\ns.length<=63/\∀ H',Q (.bl true) H'
theorem kz:iU xB ["_law_script"] (iu lC):=⟨rfl,rfl,rfl,dkq,rfl,dkq,dkq⟩
theorem vO:(["_law_one","_law_other","_law_piece_here"]:List Str).Nodup:=dkq
seal iD PS PE PT PA PG PI iX iW in
theorem EN{f fNu fTx fMe fWo fPc fLn fSh fRR fSp fDu fSL fRd fMt:Addr}{fd dNu dTx dMe dWo dPc dLn dSh dRR dSp dDu dSL ku dMt:FuncData}(D:Df K mg "law" lC f fd)(T:Txt mg)
  (DNu:Df K mg "_law_number" pE fNu dNu)(GNu:hZ P w K mg base iw 2 fNu dNu ["_law_script","_law_k"] (yw K))(DTx:Df K mg "_law_text" qz fTx dTx)(GTx:hZ P w K mg base iw 2 fTx dTx ["_law_number_here","_law_menu_here","_law_many"] yq)
  (DMe:Df K mg "_law_menu" nz fMe dMe)(GMe:hZ P w K mg base iw 2 fMe dMe ["_law_number_here"] zC)(DWo:Df K mg "_law_words" mO fWo dWo)(GWo:hZ P w K mg base iw 2 fWo dWo ["_law_text_here"] qj)
  (DPc:Df K mg "_law_piece" oF fPc dPc)(GPc:hZ P w K mg base iw 2 fPc dPc ["_law_number_here","_law_words_here"] xg)(DLn:Df K mg "_law_line" lZ fLn dLn)(GLn:hZ P w K mg base iw 3 fLn dLn ["_law_text_here","_law_piece_here"] tm)
  (DSh:Df K mg "_law_shown" pY fSh dSh)(GSh:hZ P w K mg base iw 6 fSh dSh ["_law_text_here","_law_piece_here"] (we K))(DRR:Df K mg "_law_read_right" pT fRR dRR)(GRR:hZ P w K mg base iw 9 fRR dRR ["_law_line_here","_law_due"] zj)
  (DSp:Df K mg "_law_spoilt_piece" qD fSp dSp)(GSp:hZ P w K mg base iw 1 fSp dSp ["_law_number_here","_law_text_here","_law_piece_here"] Av)(DDu:Df K mg "_law_piece_due" oq fDu dDu)(GDu:hZ P w K mg base iw 4 fDu dDu ["_law_text_here","_law_piece_here"] xZ)
  (DSL:Df K mg "_law_spoilt_line" qb fSL dSL)(GSL:hZ P w K mg base iw 1 fSL dSL ["_law_number_here","_law_line_here"] vo)(DRd:Df K mg "_law_read" oh fRd ku)(GRd:hZ P w K mg base iw 8 fRd ku ["_law_line_here"] (uJ K))
  (DMt:Df K mg "_law_meant" oV fMt dMt)(GMt:hZ P w K mg base iw 3 fMt dMt ["_law_line_here"] ya):hZ P w K mg base iw 10 f fd ["_law_script"] (oY K):=by
 have aa:=DNu.F.binds (ps:=["_law_script","_law_k"]) fun _ _ _ _ _ _ us hl=>match us,hl with | [_,_],_=>rfl
 have bQ:=DTx.F.binds (ps:=["_law_number_here","_law_menu_here","_law_many"]) fun _ _ _ _ _ _ us hl=>match us,hl with | [_,_,_],_=>rfl
 have bR:=jM (p:="_law_number_here") DMe.F fun _ _ _ _ _ _ _=>rfl
 have bS:=jM (p:="_law_text_here") DWo.F fun _ _ _ _ _ _ _=>rfl
 have bT:=DPc.F.binds (ps:=["_law_number_here","_law_words_here"]) fun _ _ _ _ _ _ us hl=>match us,hl with | [_,_],_=>rfl
 have bU:=DLn.F.binds (ps:=["_law_text_here","_law_piece_here"]) fun _ _ _ _ _ _ us hl=>match us,hl with | [_,_],_=>rfl
 have aS:=DSh.F.binds (ps:=["_law_text_here","_law_piece_here"]) fun _ _ _ _ _ _ us hl=>match us,hl with | [_,_],_=>rfl
 have bc:=DRR.F.binds (ps:=["_law_line_here","_law_due"]) fun _ _ _ _ _ _ us hl=>match us,hl with | [_,_],_=>rfl
 have bV:=DSp.F.binds (ps:=["_law_number_here","_law_text_here","_law_piece_here"]) fun _ _ _ _ _ _ us hl=>match us,hl with | [_,_,_],_=>rfl
 have bW:=DDu.F.binds (ps:=["_law_text_here","_law_piece_here"]) fun _ _ _ _ _ _ us hl=>match us,hl with | [_,_],_=>rfl
 have bX:=DSL.F.binds (ps:=["_law_number_here","_law_line_here"]) fun _ _ _ _ _ _ us hl=>match us,hl with | [_,_],_=>rfl
 have bY:=jM (p:="_law_line_here") DRd.F fun _ _ _ _ _ _ _=>rfl
 have bZ:=jM (p:="_law_line_here") DMt.F fun _ _ _ _ _ _ _=>rfl
 refine D.F.ok kz (fun vs H Q E h=>?_) (fun cdv A outer s H vs Q E U h=>?_)
 ·obtain⟨a,ns,rfl,_⟩:=h
  rfl
 ·obtain⟨a,ns,rfl,hS,hlen,kk⟩:=h
  have hz:(sizeLine:Nat)=16777216:=sizeLine_eq
  have one:1<=sizeLine:=by rw [hz];decide
  refine⟨_,(gS (hU (i:=1) kz.nd rfl (Or.inl rfl) (gX jb gQ (gX iZ (iE (GNu.mono (by decide)) U rfl DNu.m DNu.F.kp aa .nil iM (gN (pv 0) (gN gQ gP))) gQ)))
   (gS (oH (iq jD (gX iZ (gX jO (iE (GNu.mono (by decide)) U rfl DNu.m DNu.F.kp aa .nil iM (gN (pv 0) (gN gQ gP))) gQ) gQ) gQ (iy _)) (g0 (hU (i:=1) kz.nd rfl (Or.inl rfl) (gX jb gQ (gX iZ (gX jO (iE (GNu.mono (by decide)) U rfl DNu.m DNu.F.kp aa .nil iM (gN (pv 0) (gN gQ gP))) gQ) gQ)))) iL)
   (gS (hU (i:=2) kz.nd rfl (Or.inl rfl) (iE (GTx.mono (by decide)) U rfl DTx.m DTx.F.kp bQ .nil iM (gN (iE (GNu.mono (by decide)) U rfl DNu.m DNu.F.kp aa .nil iM (gN (pv 0) (gN gQ gP))) (gN (iE (GMe.mono (by decide)) U rfl DMe.m DMe.F.kp bR .nil iM (gN (iE (GNu.mono (by decide)) U rfl DNu.m DNu.F.kp aa .nil iM (gN (pv 0) (gN gQ gP))) gP)) (gN (pv 1) gP)))))
   (gS (hU (i:=3) kz.nd rfl (Or.inl rfl) (iE (GWo.mono (by decide)) U rfl DWo.m DWo.F.kp bS .nil iM (gN (pv 2) gP)))
   (gS (hU (i:=4) kz.nd rfl (Or.inr rfl) (iE (GPc.mono (by decide)) U rfl DPc.m DPc.F.kp bT .nil iM (gN (iE (GNu.mono (by decide)) U rfl DNu.m DNu.F.kp aa .nil iM (gN (pv 0) (gN gQ gP))) (gN (pv 3) gP))))
   (gS (hU (i:=5) kz.nd rfl (Or.inl rfl) (ja (gN (g9 iO (pv 4) gQ (fun _ _=>rfl)) (gN (g9 iO (pv 4) gQ (fun _ _=>rfl)) (gN (lq tG rfl T.list mW (gN (g9 iO (pv 4) gQ (fun _ _=>rfl)) gP)) gP)))))
   (gS (hU (i:=6) kz.nd rfl (Or.inl rfl) (iE (GLn.mono (by decide)) U rfl DLn.m DLn.F.kp bU .nil iM (gN (pv 2) (gN (pv 4) gP))))
   (gS (hU (i:=7) kz.nd rfl (Or.inl rfl) (iE (GSh.mono (by decide)) U rfl DSh.m DSh.F.kp aS .nil iM (gN (pv 2) (gN (pv 4) gP))))
   (gS (iN (PW.pt (jj (jG (jm (ir kB rfl T.isi je (gN (pv 7) (gN (jX (v:= .ty "str") rfl T.str rQ rfl) gP))))) (jj (iq lh (pv 7) (pv 6) (iy _)) (jH (iq (nF U.units100) (pv 4) (pv 5) (iy _)))))) (g0 (iC jW)) iL)
   (gS (hU (i:=8) kz.nd rfl (Or.inl rfl) (js jU (pv 2) (i5 (g9 iO (pv 4) gQ (fun _ _=>rfl))) (i5 (g9 iO (pv 4) gQ (fun _ _=>rfl)))))
   (gS (mE (i:=10) kz.nd rfl (Or.inl rfl) (own:=2) (caps:=[4]) (N:=["_law_one","_law_other","_law_piece_here"]) (N0:=xB) (sc0:=iu lC) rfl (kJ (g9 iO (pv 4) gQ (fun _ _=>rfl)))
    (fun _ _ _=>kS (n:=2) rfl (jx (iS (i:=0) vO rfl (Or.inl rfl)) (jx (iS (i:=1) vO rfl (Or.inl rfl)) k7))) (fun _ _ _=>k8)
    (fun _ _ _=>ja (gN (gX lR (pv 0) (g9 (lO (K:=K) rfl) (pv 2) gQ (fun _ _=>rfl))) (gN (gX lR (pv 1) (g9 (lO (K:=K) rfl) (pv 2) gQ (fun _ _=>rfl))) gP)))
    (nc (ky (jK (by decide)) (ky (jK (by decide)) mY))) rfl rfl dkq rfl dkq dkq rfl dkq (fun _ _ _ h=>h))
   (gS (iN (jG (jm (iE (GRR.mono (by decide)) U rfl DRR.m DRR.F.kp bc .nil iM (gN (pv 6) (gN (ja (gN (k9 ng (g9 iO (pv 4) gQ (fun _ _=>rfl)) (g9 iO (g9 jn (pv 3) gQ (fun _ _=>rfl)) gQ (fun _ _=>rfl)) (iy _)) (gN (pv 8) (gN (pv 10) (gN (k9 lW (g9 iO (pv 4) gQ (fun _ _=>rfl)) (g9 iO (g9 jn (pv 3) (pw pJ gQ) (fun _ _=>rfl)) gQ (fun _ _=>rfl)) (iy _)) gP))))) gP))))) (g0 (iC jW)) iL)
   (gS (hU (i:=9) kz.nd rfl (Or.inl rfl) (iE (GSp.mono (by decide)) U rfl DSp.m DSp.F.kp bV .nil iM (gN (iE (GNu.mono (by decide)) U rfl DNu.m DNu.F.kp aa .nil iM (gN (pv 0) (gN gQ gP))) (gN (pv 2) (gN (pv 4) gP)))))
   (gS (oH (iq (nF U.units100) (iE (GSh.mono (by decide)) U rfl DSh.m DSh.F.kp aS .nil iM (gN (pv 2) (gN (pv 9) gP))) (iE (GDu.mono (by decide)) U rfl DDu.m DDu.F.kp bW .nil iM (gN (pv 2) (gN (pv 9) gP))) (iy _)) (g0 (iC jW)) iL)
   (gS (iN (iq (nF U.units100) (iE (GSh.mono (by decide)) U rfl DSh.m DSh.F.kp aS .nil iM (gN (g9 jn (iK (gN lK (gN gQ (gN gZ (gN (iK (gN gZ gP)) gP))))) (gX iZ (iE (GNu.mono (by decide)) U rfl DNu.m DNu.F.kp aa .nil iM (gN (pv 0) (gN gQ gP))) gQ) (fun _ _=>rfl)) (gN (pv 9) gP))) (iK (gN gZ gP)) (iy _)) (g0 (iC jW)) iL)
   (gS (hU (i:=11) kz.nd rfl (Or.inl rfl) (iE (GSL.mono (by decide)) U rfl DSL.m DSL.F.kp bX .nil iM (gN (iE (GNu.mono (by decide)) U rfl DNu.m DNu.F.kp aa .nil iM (gN (pv 0) (gN gQ gP))) (gN (pv 6) gP))))
   (gS (hU (i:=12) kz.nd rfl (Or.inl rfl) (iK (gN lK (gN gQ (gN jW (gN (iK (gN (pv 6) gP)) (gN (ja (gN (pv 6) gP)) (gN Hi gP))))))))
   (gS (iN (iq (nF U.units100) (iE (GRd.mono (by decide)) U rfl DRd.m DRd.F.kp bY .nil iM (gN (g9 jn (pv 12) (gX iZ (iE (GNu.mono (by decide)) U rfl DNu.m DNu.F.kp aa .nil iM (gN (pv 0) (gN gQ gP))) gQ) (fun _ _=>rfl)) gP)) (iK (gN gZ gP)) (iy _)) (g0 (iC jW)) iL)
   (g0 (iC (iE (GRR.mono (by decide)) U rfl DRR.m DRR.F.kp bc .nil iM (gN (pv 11) (gN (iE (GMt.mono (by decide)) U rfl DMt.m DMt.F.kp bZ .nil iM (gN (pv 11) gP)) gP))))))))))))))))))))))),?_⟩
  refine⟨_,rfl,a,ns,0,rfl,hS,hlen,by decide,fun n0 H1 _ _ s1=>⟨_,_,rfl,rfl,(by show(0:Int) < 12;decide),_,_,rfl,rfl,?_⟩⟩
  refine⟨fun av H'=>∃ n:Nat,av=[some (.ref a),some (.int (n:Int)),none,none,none,none,none,none,none,none,none,none,none]/\gO H H'/\1<=n/\n<=100,?_,?_⟩
  ·refine⟨_,rfl,a,ns,0,rfl,s1.seq hS,hlen,by decide,fun n1 H2 _ _ s2=>⟨_,_,rfl,rfl,⟨by decide,by decide⟩,_,_,rfl,rfl,(by show(0:Int) < 9;decide),rfl,_,rfl,kY (fun _=>?_) fun _=>?_⟩⟩
   ·refine⟨_,rfl,a,ns,0,rfl,(s1.trans s2).seq hS,hlen,by decide,fun n2 H3 _ _ s3=>⟨_,_,rfl,rfl,⟨by decide,by decide⟩,_,_,rfl,rfl,(by show(0:Int) < 100;decide),_,_,rfl,rfl,?_⟩⟩
    obtain⟨k,hk,aT,b0⟩:=one_mod (n2 / 108) (n:=100) (by decide)
    refine⟨k,?_,(s1.trans s2).trans s3,aT,by omega⟩
    show([some (.ref a),some (.int (1 + n2 / 108 % 100)),none,none,none,none,none,none,none,none,none,none,none]:List (Option V))=_
    rw [hk]
   ·obtain⟨k,hk,aT,b0⟩:=one_mod n0 (n:=12) (by decide)
    refine⟨k,?_,s1.trans s2,aT,by omega⟩
    show([some (.ref a),some (.int (1 + n0 % 12)),none,none,none,none,none,none,none,none,none,none,none]:List (Option V))=_
    rw [hk]
  rintro av H2 ⟨many,rfl,s2,b1,cQ⟩
  refine⟨_,rfl,a,ns,1,rfl,s2.seq hS,hlen,by decide,fun t1 H3 _ _ s3=>⟨_,rfl,a,ns,2,rfl,(s2.trans s3).seq hS,hlen,by decide,fun t2 H4 _ _ s4=>⟨t2,rfl,fun mn H5 ws s5 eM w5 hW=>⟨_,rfl,t1,mn,ws,many,rfl,by omega,eM,w5,hW,fun z H6 s6 lz oz wm w1=>?_⟩⟩⟩⟩
  obtain⟨tt,rfl⟩:∃ tt:List Nat,z=⟨tt.toArray⟩:=⟨codes z,(toStr z).symm⟩
  rw [jY] at oz wm w1
  rw [iB] at lz
  have tl:tt.length<=1002:=by omega
  have b4:=w1 b1
  have hd:Drawn ⟨tt.toArray⟩:=⟨by rw [iB];omega,by rw [jY];exact oz⟩
  have u6:=((s2.trans s3).trans (s4.trans s5)).trans s6
  refine⟨_,rfl,⟨tt.toArray⟩,rfl,hd,fun W H7 s7 _ aU=>?_⟩
  rw [jY] at aU
  have u7:=u6.trans s7
  refine⟨_,rfl,a,ns,3,rfl,u7.seq hS,hlen,by decide,fun t3 H8 h3 _ s8=>⟨_,rfl,t3,W,words tt,rfl,h3,aU.same s8,lX _,b4,by omega,fun b e J p m H9 s9 cR cS ep hM aV=>?_⟩⟩
  have u9:=u7.trans (s8.trans s9)
  have bf:=(aU.same s8).same s9
  obtain⟨i,j,b',e',ae,q1,q2,q3,b5,aw,hle,aW,cT,b6⟩:=rX oz (by omega) aV
  have ib:b=b':=by omega
  have ie:e=e':=by omega
  have ins:J=ae:=sd q3
  subst ib ie ins
  have cU:=aw.len
  have b7:=aw.le
  have b8:1<=J.length:=List.length_pos_iff.mpr b5
  obtain⟨ms,eM,pM⟩:=hM
  have aH:(ms.map V.ref).length=J.length:=by rw [List.length_map];exact Gn.Paired.len pM
  have bg:jL H9 m J:=⟨ms,eM,pM⟩
  refine⟨_,rfl,p,_,_,_,rfl,rfl,ia.of ep,ik (j:=0) rfl,_,rfl,p,_,_,_,rfl,rfl,ia.of ep,ik (j:=1) rfl,_,rfl,p,_,_,_,rfl,rfl,ia.of ep,ik (j:=2) rfl,m,_,rfl,.inl (gR.of eM),fun l hl=>⟨by show 3<=sizeLine;omega,fun kp aX=>?_⟩⟩
  have v10:gO H9 (upd (upd H9 l (.lst (ms.map V.ref))) kp (.tup [.int b,.int e,.ref l])):=gO.upf (hJ hl) aX
  have el:upd (upd H9 l (.lst (ms.map V.ref))) kp (.tup [.int b,.int e,.ref l]) l=some (.lst (ms.map V.ref)):=by rw [ig (fun z=>by rw [<-z,gY] at aX;cases aX),gY]
  have bh:upd (upd H9 l (.lst (ms.map V.ref))) kp (.tup [.int b,.int e,.ref l]) kp=some (.tup [.int b,.int e,.ref l]):=gY
  change kq 5 _ _ (upd (upd H9 l (.lst (ms.map V.ref))) kp (.tup [.int b,.int e,.ref l])) _
  generalize upd (upd H9 l (.lst (ms.map V.ref))) kp (.tup [.int b,.int e,.ref l])=bo at v10 el bh ⊢
  have bp:jL bo l J:=⟨ms,el,Gn.Paired.imp2 pM fun _ _ q=>v10 _ _ q⟩
  have aI:=v10 _ _ ep
  have aJ:=bg.same v10
  refine⟨_,rfl,_,rfl,tt,p,m,b,e,J,rfl,oz,by omega,aI,aJ,aV,fun b9 aY=>?_⟩
  have bq:=aY _ _ aI
  have bt:=aJ.same aY
  have aK:iR b9 (.ref p) (jR b e J):= .tup bq (.cons (.int _) (.cons (.int _) (.cons bt.pd .nil)))
  have aL:nU (.str ⟨tt.toArray⟩):=fun z ez=>by cases ez;rw [iB];omega
  have aM:¬ kl (.str ⟨tt.toArray⟩)=false:=fun z=>by rw [sM hd] at z;cases z
  refine⟨_,rfl,_,rfl,.str ⟨tt.toArray⟩,.ref p,jR b e J,rfl,⟨_,.str _⟩,aL,aK,fun z=>absurd z aM,fun z ez _ hn=>?_,fun z b' e' ae ez _ af _ ah bu=>?_⟩
  ·cases ez
   rw [jY] at hn
   have:=rZ hn
   rw [aV] at this
   cases this
  cases ez
  obtain⟨rfl,rfl,rfl⟩:=zZ af
  rw [jY]
  clear af
  refine⟨_,rfl,.str _,.ty "str",_,_,rfl,.str _,.inl ⟨_,rfl,sq (K:=K) (H:=ah) (.str (⟨(iV tt b e J).toArray⟩:Str))⟩,_,rfl,g8 ?_⟩
  refine⟨_,rfl,_,rfl,rfl,_,rfl,?_⟩
  rw [decide_eq_true rfl]
  have aZ:gO bo ah:=aY.trans bu
  have cb:iR ah (.ref p) (jR b e J):=aK.same bu
  have cc:iR ah (.ref kp) (jR b e J):= .tup (aZ _ _ bh) (.cons (.int _) (.cons (.int _) (.cons (bp.same aZ).pd .nil)))
  refine g8 ⟨_,rfl,_,rfl,jR b e J,jR b e J,cb.dt,cc.dt,tD _ _ _,tD _ _ _,Nat.le_trans (Nat.min_le_right _ _) (D8 _ _ _),_,rfl,?_⟩
  rw [md (tD _ _ _)]
  have ax:gO H9 ah:=v10.trans aZ
  have ak:=ax _ _ ep
  have aN:=ax _ _ eM
  refine g8 ⟨_,rfl,_,rfl,p,_,_,_,rfl,rfl,ia.of ak,ik (j:=0) rfl,_,rfl,_,rfl,p,_,_,_,rfl,rfl,ia.of ak,ik (j:=1) rfl,_,rfl,_,rfl,by rw [iB];omega,?_⟩
  rw [uz tt b7 (by omega)]
  refine⟨_,rfl,p,_,_,_,rfl,rfl,ia.of ak,ik (j:=2) rfl,m,rfl,⟨_,gR.of aN⟩,mT (xs:=ms.map V.ref) (fun i ys G=>gO ah G/\∃ us:List Addr,ys=us.map V.ref/\Paired (fun u (n:Nat×Nat)=>G u=some (.tup [.int n.1,.int n.2])) us ((J.map fun m=>(m.1 - b,m.2 - b)).take i)) (by rw [aH];omega) (fun i ys G q=>gR.of (q.1 _ _ aN)) ⟨gO.refl _,[],rfl,.nil⟩ ?_ ?_⟩
  ·rintro i v ys G N hv ⟨sg,us,rfl,ay⟩ hN
   obtain⟨u,r,rfl,bw,hu⟩:=mH (H:=H) pM hv
   have vg:=ax.trans sg
   refine⟨u,_,rfl,ia.of (vg _ _ hu),rfl,_,_,rfl,_,_,rfl,rfl,?_⟩
   refine⟨_,rfl,_,rfl,p,_,_,_,rfl,rfl,ia.of (vg _ _ ep),ik (j:=0) rfl,_,_,rfl,rfl,_,rfl,_,rfl,p,_,_,_,rfl,rfl,ia.of (vg _ _ ep),ik (j:=0) rfl,_,_,rfl,rfl,lQ,fun q hq=>?_⟩
   refine hN _ _ ⟨gO.upf sg hq,us++[q],by rw [List.map_append];rfl,?_⟩
   rw [List.take_add_one,List.getElem?_map,bw]
   refine Gn.Paired.app (Gn.Paired.imp2 ay fun _ _ e=>hJ hq _ _ e) ?_
   show upd G q (.tup [.int ((r.1:Int) - b),.int ((r.2:Int) - b)]) q=some (.tup [.int ((r.1 - b:Nat):Int),.int ((r.2 - b:Nat):Int)])
   have cV:=aw.mem r (List.mem_of_getElem? bw)
   rw [gY,show(r.1:Int) - b=((r.1 - b:Nat):Int) by omega,show(r.2:Int) - b=((r.2 - b:Nat):Int) by omega]
  rintro ys G ⟨sg,us,rfl,ay⟩ _ mk cf
  rw [aH,List.take_of_length_le (by rw [List.length_map];omega)] at ay
  have a0:gO G (upd G mk (.lst (us.map V.ref))):=hJ cf
  have bx:upd G mk (.lst (us.map V.ref)) mk=some (.lst (us.map V.ref)):=gY
  generalize upd G mk (.lst (us.map V.ref))=bA at a0 bx ⊢
  have cg:jL bA mk (J.map fun m=>(m.1 - b,m.2 - b)):=⟨us,bx,Gn.Paired.imp2 ay fun _ _ q=>a0 _ _ q⟩
  have ao:gO H9 bA:=ax.trans (sg.trans a0)
  have aO:=ao _ _ ep
  obtain⟨wp,cj,pW⟩:=bf.ex
  have aP:=ao _ _ cj
  obtain⟨x,y,hx,hy,_⟩:=nM aW
  have bB:words tt≠[]:=fun z=>by rw [z] at hx;simp at hx
  obtain⟨aq,y0,a3⟩:=uh bB
  obtain⟨x0,bC⟩:∃ x0,(words tt)[0]? =some x0:=⟨(words tt)[0]'(List.length_pos_iff.mpr bB),List.getElem?_eq_getElem _⟩
  have df:=xT (lX tt) aW bC
  have dl:=yz (lX tt) aW a3
  obtain⟨q0,ck,cm⟩:=Gn.Paired.at pW bC
  obtain⟨qy,cn,cq⟩:=Gn.Paired.at pW (show(words tt)[aq.length]? =some y0 by rw [a3];simp)
  have al:(wp.map V.ref)=(wp.map V.ref).take aq.length++[V.ref qy]:=by
   have h1:(wp.map V.ref).length=aq.length + 1:=by rw [List.length_map,Gn.Paired.len pW,a3];simp
   have h2:(wp.map V.ref)[aq.length]? =some (.ref qy):=by rw [List.getElem?_map,cn];rfl
   have h3:=List.take_add_one (l:=wp.map V.ref) (i:=aq.length)
   rw [List.take_of_length_le (by omega),h2] at h3
   exact h3
  have oL:∀ c∈iV tt b e J,oc c:=vN oz b e J
  have lL:(iV tt b e J).length<=4700:=by have:=Hk (T:=tt) aw;omega
  refine⟨_,rfl,_,rfl,p,_,_,_,rfl,rfl,ia.of aO,ik (j:=0) rfl,_,rfl,W,_,_,_,rfl,rfl,gR.of aP,ik (j:=0) (v:= .ref q0) (by rw [List.getElem?_map,ck];rfl),q0,_,_,_,rfl,rfl,ia.of (ao _ _ cm),ik (j:=1) rfl,_,_,rfl,rfl,_,rfl,_,rfl,
   _,rfl,p,_,_,_,rfl,rfl,ia.of aO,ik (j:=1) rfl,_,rfl,_,rfl,W,_,_,_,rfl,rfl,gR.of aP,(by rw [al];exact tj _ _),qy,_,_,_,rfl,rfl,ia.of (ao _ _ cq),ik (j:=2) rfl,_,_,rfl,rfl,by show 4<=sizeLine;omega,fun q hq=>?_⟩
  refine⟨iV tt b e J,.ref q,rfl,by omega,fun z=>(oL 37 z).1 rfl,.inr ⟨decide (0 < i),sl tt b e,_,decide (j + 1 < (words tt).length),q,mk,b6,rA oz b e,by rw [List.length_map];omega,rfl,?_,cg.same (hJ hq)⟩,fun cu bD=>⟨_,rfl,g8 ?_⟩⟩
  ·rw [gY]
   show some (HO.tup [V.bl (decide ((x0.2.1:Int) < (b:Int))),.str ⟨(sl tt b e).toArray⟩,.ref mk,V.bl (decide ((e:Int) < (y0.2.2:Int)))])=_
   rw [df,dl]
  have a4:gO H9 cu:=(gO.upf ao hq).trans bD
  have bE:=u9.trans a4
  clear bD df dl
  refine⟨_,rfl,a,ns,4,rfl,bE.seq hS,hlen,by decide,fun t4 cW h4 _ a5=>⟨_,rfl,_,rfl,t4,_,p,m,b,e,J,rfl,h4,a5 _ _ (a4 _ _ ep),(bg.same a4).same a5,b8,by omega,fun v cv cw cx=>?_⟩⟩
  obtain⟨d,pd,ly,ml⟩:=cx
  have cy:=bE.trans (a5.trans cw)
  have nB:(PyData.list [.str "span"]).canLay0=true:=dkq
  have lay0:(PyData.list [.str "text"]).canLay0=true:=dkq
  have ar:(PyData.list [.str "line"]).canLay0=true:=dkq
  refine⟨fun av H'=>av=[some (.ref a),some (.int many),some (.str ⟨tt.toArray⟩),some (.ref W),some (.ref p),some (.ref kp),some (.str ⟨(iV tt b e J).toArray⟩),some (.str ⟨(iV tt b e J).toArray⟩),some (.str ⟨(sl tt b e).toArray⟩),some v,some (.ref mk),none,none]/\gO cv H',?_,?_⟩
  ·refine⟨_,rfl,_,rfl,.str ⟨tt.toArray⟩,v,d,rfl,⟨_,.str _⟩,aL,pd,fun z=>absurd z aM,fun z ez _ hn l' Hs ss cz a6=>?_,fun z b2 e2 ae ez _ af ag Hs ss=>?_⟩
   ·cases ez
    rw [jY] at hn
    refine⟨_,rfl,_,rfl,tt,v,d,rfl,oz,by omega,pd.same ss,ly,ml,fun _ l2 Ht st aA cA=>?_,fun b2 e2 ae af ag=>?_⟩
    ·refine⟨.list [.str "span"],.list [.str "span"],.lst (gR.of (st _ _ a6)) (.cons (.str _) .nil),.lst (gR.of cA) (.cons (.str _) .nil),nB,nB,Nat.le_trans (Nat.min_le_right _ _) (by decide),_,rfl,?_⟩
     rw [md nB]
     exact g8 ⟨rfl,ss.trans st⟩
    ·rw [af] at hn
     have:=rZ hn
     rw [ag] at this
     cases this
   ·cases ez
    rw [jY] at ag ⊢
    refine⟨_,rfl,_,rfl,tt,v,d,rfl,oz,by omega,pd.same ss,ly,ml,fun hn=>?_,fun b3 e3 cX aQ _ Ht st=>?_⟩
    ·rw [af] at hn
     have:=rZ hn
     rw [ag] at this
     cases this
    ·rw [af] at aQ
     obtain⟨rfl,rfl,rfl⟩:=zZ aQ
     have a7:(PyData.str ⟨(iV tt b2 e2 ae).toArray⟩).canLay0=true:=Dn (vN oz b2 e2 ae)
     refine⟨.str ⟨(iV tt b2 e2 ae).toArray⟩,.str ⟨(iV tt b2 e2 ae).toArray⟩,.str _,.str _,a7,a7,Nat.le_trans (Nat.min_le_right _ _) (Nat.zero_le _),_,rfl,?_⟩
     rw [md a7]
     exact g8 ⟨rfl,ss.trans st⟩
  rintro cO au ⟨rfl,bF⟩
  have bG:=cy.trans bF
  have bH:=pd.same bF
  refine⟨one,fun l1 cB=>⟨by show 4<=sizeLine;omega,fun l2 aA=>?_⟩⟩
  have aB:gO au (upd (upd au l1 (.lst [.str (Str.ofString "a")])) l2 (.lst [.non,.int 5,.str (Str.ofString "a\tb"),.ref l1])):=gO.upf (hJ cB) aA
  have f1:upd (upd au l1 (.lst [.str (Str.ofString "a")])) l2 (.lst [.non,.int 5,.str (Str.ofString "a\tb"),.ref l1]) l1=some (.lst [.str (Str.ofString "a")]):=by rw [ig (fun z=>by rw [<-z,gY] at aA;cases aA),gY]
  have f2:upd (upd au l1 (.lst [.str (Str.ofString "a")])) l2 (.lst [.non,.int 5,.str (Str.ofString "a\tb"),.ref l1]) l2=some (.lst [.non,.int 5,.str (Str.ofString "a\tb"),.ref l1]):=gY
  generalize upd (upd au l1 (.lst [.str (Str.ofString "a")])) l2 (.lst [.non,.int 5,.str (Str.ofString "a\tb"),.ref l1])=cY at aB f1 f2 ⊢
  refine⟨_,rfl,a,ns,5,rfl,(bG.trans aB).seq hS,hlen,by decide,fun t5 cC _ _ aC=>?_⟩
  obtain⟨xx,bI,cD⟩:=pV (xs:=[.non,.int 5,.str (Str.ofString "a\tb"),.ref l1]) (n:=t5) (L:=4) (by show 0 < 4;decide) rfl
  have xk:Known K cC xx/\nU xx/\kl xx=false:=by
   simp only [List.mem_cons,List.not_mem_nil,or_false] at bI
   rcases bI with rfl | rfl | rfl | rfl
   ·exact⟨⟨_,.non⟩,(fun z ez=>by cases ez),rfl⟩
   ·exact⟨⟨_,.int _⟩,(fun z ez=>by cases ez),rfl⟩
   ·exact⟨⟨_,.str _⟩,(fun z ez=>by cases ez;decide +kernel),dkq⟩
   ·exact⟨⟨_,.lst (aC _ _ f1)⟩,(fun z ez=>by cases ez),rfl⟩
  refine⟨_,_,rfl,rfl,(by show(0:Int) < 4;decide),l2,_,_,xx,rfl,rfl,gR.of (aC _ _ f2),cD,_,rfl,xx,v,d,rfl,xk.1,xk.2.1,(bH.same aB).same aC,fun _ l' Hs ss cz a6=>?_,fun z ez a8 _=>?_,fun z _ _ _ ez a8 _ _=>?_⟩
  rotate_left
  ·rw [ez,sM a8] at xk
   cases xk.2.2
  ·rw [ez,sM a8] at xk
   cases xk.2.2
  have cE:=(bG.trans aB).trans (aC.trans ss)
  refine⟨one,fun l3 cF=>?_⟩
  have a9:gO Hs (upd Hs l3 (.lst [.str (Str.ofString "text")])):=hJ cF
  refine⟨.list [.str "text"],.list [.str "text"],.lst (gR.of (a9 _ _ a6)) (.cons (.str _) .nil),.lst (gR.of gY) (.cons (.str _) .nil),lay0,lay0,Nat.le_trans (Nat.min_le_right _ _) (by decide),_,rfl,?_⟩
  rw [md lay0]
  generalize upd Hs l3 (.lst [.str (Str.ofString "text")])=cZ at a9 ⊢
  have bJ:=cE.trans a9
  refine g8 ⟨_,rfl,a,ns,6,rfl,bJ.seq hS,hlen,by decide,fun t6 c0 h6 _ cG=>⟨_,rfl,t6,_,rfl,h6,⟨by rw [iB];exact lL,by rw [jY];exact oL⟩,fun y aD cH hy=>?_⟩⟩
  obtain⟨yy,rfl⟩:∃ yy:List Nat,y=⟨yy.toArray⟩:=⟨codes y,(toStr y).symm⟩
  obtain⟨yl,yo⟩:=hy
  rw [iB] at yl
  rw [jY] at yo
  have cI:=bJ.trans (cG.trans cH)
  refine⟨_,rfl,one,fun l4 cJ=>⟨_,rfl,one,fun p5 bK=>fun d6 ba=>⟨by show 6<=sizeLine;omega,fun l7 aE=>?_⟩⟩⟩
  have v4:gO aD (upd aD l4 (.lst [.str ⟨(iV tt b e J).toArray⟩])):=hJ cJ
  have g4:upd aD l4 (.lst [.str ⟨(iV tt b e J).toArray⟩]) l4=some (.lst [.str ⟨(iV tt b e J).toArray⟩]):=gY
  generalize upd aD l4 (.lst [.str ⟨(iV tt b e J).toArray⟩])=K4 at v4 g4 bK ba aE ⊢
  have v5:gO K4 (upd K4 p5 (.tup [.str ⟨(iV tt b e J).toArray⟩])):=hJ bK
  have g5:upd K4 p5 (.tup [.str ⟨(iV tt b e J).toArray⟩]) p5=some (.tup [.str ⟨(iV tt b e J).toArray⟩]):=gY
  generalize upd K4 p5 (.tup [.str ⟨(iV tt b e J).toArray⟩])=K5 at v5 g5 ba aE ⊢
  have v6:gO K5 (upd K5 d6 (.dK [])):=hJ ba
  have g6:upd K5 d6 (.dK []) d6=some (.dK []):=gY
  generalize upd K5 d6 (.dK [])=K6 at v6 g6 aE ⊢
  have v7:gO K6 (upd K6 l7 (.lst [.non,.int 5,.bl true,.ref l4,.ref p5,.ref d6])):=hJ aE
  have g7:upd K6 l7 (.lst [.non,.int 5,.bl true,.ref l4,.ref p5,.ref d6]) l7=some (.lst [.non,.int 5,.bl true,.ref l4,.ref p5,.ref d6]):=gY
  generalize upd K6 l7 (.lst [.non,.int 5,.bl true,.ref l4,.ref p5,.ref d6])=K7 at v7 g7 ⊢
  have bL:=v5.trans (v6.trans v7)
  have cK:=cI.trans (v4.trans bL)
  refine⟨_,rfl,_,rfl,a,ns,7,rfl,cK.seq hS,hlen,by decide,fun t7 cL _ _ aF=>?_⟩
  obtain⟨aG,aR,bM⟩:=pV (xs:=[.non,.int 5,.bl true,.ref l4,.ref p5,.ref d6]) (n:=t7) (L:=6) (by show 0 < 6;decide) rfl
  have bb:Known K cL aG/\mR aG=false:=by
   simp only [List.mem_cons,List.not_mem_nil,or_false] at aR
   rcases aR with rfl | rfl | rfl | rfl | rfl | rfl
   ·exact⟨⟨_,.non⟩,rfl⟩
   ·exact⟨⟨_,.int _⟩,rfl⟩
   ·exact⟨⟨_,.bl _⟩,rfl⟩
   ·exact⟨⟨_,.lst (aF _ _ (bL _ _ g4))⟩,rfl⟩
   ·exact⟨⟨_,.tup (aF _ _ (v7 _ _ (v6 _ _ g5)))⟩,rfl⟩
   ·exact⟨⟨_,.dK (aF _ _ (v7 _ _ g6))⟩,rfl⟩
  refine⟨_,_,rfl,rfl,(by show(0:Int) < 6;decide),l7,_,_,aG,rfl,rfl,gR.of (aF _ _ g7),bM,aG,rfl,bb.1,fun _ l' bN c2 cP bO=>?_,fun L eL=>?_⟩
  rotate_left
  ·rw [eL] at bb
   cases bb.2
  refine⟨one,fun l8 cM=>?_⟩
  have v8:gO bN (upd bN l8 (.lst [.str (Str.ofString "line")])):=hJ cM
  refine⟨.list [.str "line"],.list [.str "line"],.lst (gR.of (v8 _ _ bO)) (.cons (.str _) .nil),.lst (gR.of gY) (.cons (.str _) .nil),ar,ar,Nat.le_trans (Nat.min_le_right _ _) (by decide),_,rfl,?_⟩
  rw [md ar]
  exact g8 ⟨_,rfl,_,rfl,yy,rfl,yl,yo,fun v2 c3 c4 bP=>⟨yy,v2,rfl,yl,fun z=>(yo 37 z).1 rfl,bP,fun cN _=>kk cN⟩⟩
end
open PySem L2 PyProof.Rows PySem.Spec Gn K01
section
variable {P : Program} {w : World} {K : PySem.W.Frag} {mg : Str -> Option Value} {base h : Heap}
theorem Fd(X:K.In h)(G:h.Ns mainGlobals mg){t0 t1 t2 t3 t4 t5 t6:Tok}
  (n0:W.nsIn K mainGlobals "isinstance"=some none)
  (n1:W.nsIn K mainGlobals "int"=some none)
  (n2:W.nsIn K mainGlobals "bool"=some none)
  (n3:W.nsIn K mainGlobals "str"=some none)
  (n4:W.nsIn K mainGlobals "list"=some none)
  (n5:W.nsIn K mainGlobals "tuple"=some none)
  (n6:W.nsIn K mainGlobals "len"=some none)
  (n7:W.nsIn K mainGlobals "all"=some none)
  (n8:W.nsIn K mainGlobals "ord"=some none)
  (n9:W.nsIn K mainGlobals "range"=some none)
  (n10:W.nsIn K mainGlobals "enumerate"=some none)
  (n11:W.nsIn K mainGlobals "ValueError"=some none)
  (n12:W.nsIn K mainGlobals "zip"=some none)
  (n13:W.nsIn K mainGlobals "reversed"=some none)
  (c0:W.nsIn K mainGlobals "MOST_TEXT_SIGNS"=some (some (.int 2000 t0)))
  (c1:W.nsIn K mainGlobals "SMALL_SIGNS"=some (some (.str "abcdefghijklmnopqrstuvwxyz0123456789" t1)))
  (c2:W.nsIn K mainGlobals "PERCENT_NUMBER"=some (some (.int 37 t2)))
  (c3:W.nsIn K mainGlobals "DOTS_AHEAD"=some (some (.str "... " t3)))
  (c4:W.nsIn K mainGlobals "DOTS_BEHIND"=some (some (.str " ..." t4)))
  (c5:W.nsIn K mainGlobals "LEAST_AHEAD"=some (some (.str "a " t5)))
  (c6:W.nsIn K mainGlobals "LEAST_BEHIND"=some (some (.str " a" t6)))
  :Txt mg where
 isi:=W.mg_none_of X G n0
 int:=W.mg_none_of X G n1
 bool:=W.mg_none_of X G n2
 str:=W.mg_none_of X G n3
 list:=W.mg_none_of X G n4
 tuple:=W.mg_none_of X G n5
 len:=W.mg_none_of X G n6
 all:=W.mg_none_of X G n7
 ord:=W.mg_none_of X G n8
 range:=W.mg_none_of X G n9
 enum:=W.mg_none_of X G n10
 val:=W.mg_none_of X G n11
 zip:=W.mg_none_of X G n12
 rev:=W.mg_none_of X G n13
 cText:=⟨t0,W.mg_of X G c0⟩
 cSmall:=⟨t1,W.mg_of X G c1⟩
 cPer:=⟨t2,W.mg_of X G c2⟩
 cDA:=⟨t3,W.mg_of X G c3⟩
 cDB:=⟨t4,W.mg_of X G c4⟩
 cLA:=⟨t5,W.mg_of X G c5⟩
 cLB:=⟨t6,W.mg_of X G c6⟩
theorem AV(P:Program){d:Addr}{ep:Nat}{t0 u0 t1 u1 t2 u2 t3 u3:Tok}(X:K.In h)(G:h.Ns mainGlobals mg)(a:W.nsIn K mainGlobals "SHOWN_SIGNS"=some (some (.ref d)))(ns:(d == sysModules)=false)
  (l:K.lookup d=some ⟨.type "dict",none,.dict #[⟨PyData.keyHash w.params "[",.str "[" t0,.str "\\[" u0⟩,⟨PyData.keyHash w.params "]",.str "]" t1,.str "\\]" u1⟩,⟨PyData.keyHash w.params "\\",.str "\\" t2,.str "\\\\" u2⟩,⟨PyData.keyHash w.params "\n",.str "\n" t3,.str "\\n" u3⟩] ep,#[]⟩):∃ d,mg "SHOWN_SIGNS"=some (.ref d)/\KD P w K d kK:=by
 refine⟨d,W.mg_of X G a,ns,fun h' J=>⟨[((.inr "[":Key),.str "\\[" u0),((.inr "]":Key),.str "\\]" u1),((.inr "\\":Key),.str "\\\\" u2),((.inr "\n":Key),.str "\\n" u3)],?_,_,_,_,J _ _ l,?_,rfl,?_,?_,?_⟩⟩
 ·exact .cons ⟨rfl,_,rfl⟩ (.cons ⟨rfl,_,rfl⟩ (.cons ⟨rfl,_,rfl⟩ (.cons ⟨rfl,_,rfl⟩ (.nil))))
 ·exact⟨rfl,rfl,rfl⟩
 ·intro e he
  simp at he
  rcases he with rfl | rfl | rfl | rfl
  ·exact⟨.inr "[",j7 "[" t0,rfl⟩
  ·exact⟨.inr "]",j7 "]" t1,rfl⟩
  ·exact⟨.inr "\\",j7 "\\" t2,rfl⟩
  ·exact⟨.inr "\n",j7 "\n" t3,rfl⟩
 ·exact .cons (j7 "[" t0) rfl (.cons (j7 "]" t1) rfl (.cons (j7 "\\" t2) rfl (.cons (j7 "\n" t3) rfl (.nil))))
 ·show([.inr "[",.inr "]",.inr "\\",.inr "\n"]:List Key).Nodup
  decide +kernel
theorem FQ(P:Program){d:Addr}{ep:Nat}{t0 u0 t1 u1 t2 u2 t3 u3:Tok}(X:K.In h)(G:h.Ns mainGlobals mg)(a:W.nsIn K mainGlobals "MEANT_SIGNS"=some (some (.ref d)))(ns:(d == sysModules)=false)
  (l:K.lookup d=some ⟨.type "dict",none,.dict #[⟨PyData.keyHash w.params "\\[",.str "\\[" t0,.str "[" u0⟩,⟨PyData.keyHash w.params "\\]",.str "\\]" t1,.str "]" u1⟩,⟨PyData.keyHash w.params "\\\\",.str "\\\\" t2,.str "\\" u2⟩,⟨PyData.keyHash w.params "\\n",.str "\\n" t3,.str "\n" u3⟩] ep,#[]⟩):∃ d,mg "MEANT_SIGNS"=some (.ref d)/\KD P w K d pf:=by
 refine⟨d,W.mg_of X G a,ns,fun h' J=>⟨[((.inr "\\[":Key),.str "[" u0),((.inr "\\]":Key),.str "]" u1),((.inr "\\\\":Key),.str "\\" u2),((.inr "\\n":Key),.str "\n" u3)],?_,_,_,_,J _ _ l,?_,rfl,?_,?_,?_⟩⟩
 ·exact .cons ⟨rfl,_,rfl⟩ (.cons ⟨rfl,_,rfl⟩ (.cons ⟨rfl,_,rfl⟩ (.cons ⟨rfl,_,rfl⟩ (.nil))))
 ·exact⟨rfl,rfl,rfl⟩
 ·intro e he
  simp at he
  rcases he with rfl | rfl | rfl | rfl
  ·exact⟨.inr "\\[",j7 "\\[" t0,rfl⟩
  ·exact⟨.inr "\\]",j7 "\\]" t1,rfl⟩
  ·exact⟨.inr "\\\\",j7 "\\\\" t2,rfl⟩
  ·exact⟨.inr "\\n",j7 "\\n" t3,rfl⟩
 ·exact .cons (j7 "\\[" t0) rfl (.cons (j7 "\\]" t1) rfl (.cons (j7 "\\\\" t2) rfl (.cons (j7 "\\n" t3) rfl (.nil))))
 ·show([.inr "\\[",.inr "\\]",.inr "\\\\",.inr "\\n"]:List Key).Nodup
  decide +kernel
theorem BX{CH c0 c1 c2 c3 c4 c5 c6 c7 c8 c9 c10 c11 c12:Addr}(X:K.In h)(G:h.Ns mainGlobals mg)
  (aH:W.nsIn K mainGlobals "HallError"=some (some (.ref CH)))
  (a0:W.nsIn K mainGlobals "BadText"=some (some (.ref c0)))
  (a1:W.nsIn K mainGlobals "BadSpan"=some (some (.ref c1)))
  (a2:W.nsIn K mainGlobals "NoLine"=some (some (.ref c2)))
  (a3:W.nsIn K mainGlobals "BadAsk"=some (some (.ref c3)))
  (a4:W.nsIn K mainGlobals "BadKept"=some (some (.ref c4)))
  (a5:W.nsIn K mainGlobals "BadKey"=some (some (.ref c5)))
  (a6:W.nsIn K mainGlobals "BadNumber"=some (some (.ref c6)))
  (a7:W.nsIn K mainGlobals "BadParts"=some (some (.ref c7)))
  (a8:W.nsIn K mainGlobals "BadRow"=some (some (.ref c8)))
  (a9:W.nsIn K mainGlobals "BadWord"=some (some (.ref c9)))
  (a10:W.nsIn K mainGlobals "NoAsk"=some (some (.ref c10)))
  (a11:W.nsIn K mainGlobals "NoText"=some (some (.ref c11)))
  (a12:W.nsIn K mainGlobals "Twice"=some (some (.ref c12)))
  (hn:W.specialIn K (.builtin "object.__class__") "__get__"=some (some (.builtin "getset_descriptor.__get__")))
  (ht:W.takesIn K (.builtin "object.__class__")=some true)
  {cd0:ClassData}
  (cl0:W.clsIn K c0=some cd0)
  (ga0:W.findIn K (.ref c0) "__getattribute__"=some (some (.builtin "BaseException.__getattribute__")))
  (hk0:W.findIn K (.ref c0) "__getattr__"=some none)
  (ha0:W.findIn K (.ref c0) "__class__"=some (some (.builtin "object.__class__")))
  (hm0:W.mroIn K c0 (.type "object")=some true)
  (hb0:W.mroIn K c0 (.type "BaseException")=some true)
  (q0_0:W.kitOne K (.ref c0) (.ref c0)=some true)
  (q1_0:W.kitOne K (.ref c0) (.ref c1)=some false)
  (q2_0:W.kitOne K (.ref c0) (.ref c2)=some false)
  (q3_0:W.kitOne K (.ref c0) (.ref c3)=some false)
  (q4_0:W.kitOne K (.ref c0) (.ref c4)=some false)
  (q5_0:W.kitOne K (.ref c0) (.ref c5)=some false)
  (q6_0:W.kitOne K (.ref c0) (.ref c6)=some false)
  (q7_0:W.kitOne K (.ref c0) (.ref c7)=some false)
  (q8_0:W.kitOne K (.ref c0) (.ref c8)=some false)
  (q9_0:W.kitOne K (.ref c0) (.ref c9)=some false)
  (q10_0:W.kitOne K (.ref c0) (.ref c10)=some false)
  (q11_0:W.kitOne K (.ref c0) (.ref c11)=some false)
  (q12_0:W.kitOne K (.ref c0) (.ref c12)=some false)
  (v0:W.kitOne K (.ref c0) (.type "ValueError")=some true)
  (e0:W.exmOne K (.ref c0) (.ref CH)=some true)
  (x0:W.excIn K c0 [.type "ValueError",.type "Exception",.type "BaseException",.type "object"] "ValueError.__new__"=true)
  {cd1:ClassData}
  (cl1:W.clsIn K c1=some cd1)
  (ga1:W.findIn K (.ref c1) "__getattribute__"=some (some (.builtin "BaseException.__getattribute__")))
  (hk1:W.findIn K (.ref c1) "__getattr__"=some none)
  (ha1:W.findIn K (.ref c1) "__class__"=some (some (.builtin "object.__class__")))
  (hm1:W.mroIn K c1 (.type "object")=some true)
  (hb1:W.mroIn K c1 (.type "BaseException")=some true)
  (q0_1:W.kitOne K (.ref c1) (.ref c0)=some false)
  (q1_1:W.kitOne K (.ref c1) (.ref c1)=some true)
  (q2_1:W.kitOne K (.ref c1) (.ref c2)=some false)
  (q3_1:W.kitOne K (.ref c1) (.ref c3)=some false)
  (q4_1:W.kitOne K (.ref c1) (.ref c4)=some false)
  (q5_1:W.kitOne K (.ref c1) (.ref c5)=some false)
  (q6_1:W.kitOne K (.ref c1) (.ref c6)=some false)
  (q7_1:W.kitOne K (.ref c1) (.ref c7)=some false)
  (q8_1:W.kitOne K (.ref c1) (.ref c8)=some false)
  (q9_1:W.kitOne K (.ref c1) (.ref c9)=some false)
  (q10_1:W.kitOne K (.ref c1) (.ref c10)=some false)
  (q11_1:W.kitOne K (.ref c1) (.ref c11)=some false)
  (q12_1:W.kitOne K (.ref c1) (.ref c12)=some false)
  (v1:W.kitOne K (.ref c1) (.type "ValueError")=some true)
  (e1:W.exmOne K (.ref c1) (.ref CH)=some true)
  (x1:W.excIn K c1 [.type "ValueError",.type "Exception",.type "BaseException",.type "object"] "ValueError.__new__"=true)
  {cd2:ClassData}
  (cl2:W.clsIn K c2=some cd2)
  (ga2:W.findIn K (.ref c2) "__getattribute__"=some (some (.builtin "BaseException.__getattribute__")))
  (hk2:W.findIn K (.ref c2) "__getattr__"=some none)
  (ha2:W.findIn K (.ref c2) "__class__"=some (some (.builtin "object.__class__")))
  (hm2:W.mroIn K c2 (.type "object")=some true)
  (hb2:W.mroIn K c2 (.type "BaseException")=some true)
  (q0_2:W.kitOne K (.ref c2) (.ref c0)=some false)
  (q1_2:W.kitOne K (.ref c2) (.ref c1)=some false)
  (q2_2:W.kitOne K (.ref c2) (.ref c2)=some true)
  (q3_2:W.kitOne K (.ref c2) (.ref c3)=some false)
  (q4_2:W.kitOne K (.ref c2) (.ref c4)=some false)
  (q5_2:W.kitOne K (.ref c2) (.ref c5)=some false)
  (q6_2:W.kitOne K (.ref c2) (.ref c6)=some false)
  (q7_2:W.kitOne K (.ref c2) (.ref c7)=some false)
  (q8_2:W.kitOne K (.ref c2) (.ref c8)=some false)
  (q9_2:W.kitOne K (.ref c2) (.ref c9)=some false)
  (q10_2:W.kitOne K (.ref c2) (.ref c10)=some false)
  (q11_2:W.kitOne K (.ref c2) (.ref c11)=some false)
  (q12_2:W.kitOne K (.ref c2) (.ref c12)=some false)
  (v2:W.kitOne K (.ref c2) (.type "ValueError")=some true)
  (e2:W.exmOne K (.ref c2) (.ref CH)=some true)
  (x2:W.excIn K c2 [.type "ValueError",.type "Exception",.type "BaseException",.type "object"] "ValueError.__new__"=true)
  (y0:W.exmAny K (.ref c0) [.ref c0,.ref c1]=some true)
  (y1:W.exmAny K (.ref c1) [.ref c0,.ref c1]=some true)
  :∃(CH:Addr) (cs:Nat->Addr),Cl mg CH cs/\CF K CH cs 0/\CF K CH cs 1/\CF K CH cs 2/\Ex K mg "BadText" (cs 0)/\Ex K mg "BadSpan" (cs 1)/\Ex K mg "NoLine" (cs 2)/\W.exmAny K (.ref (cs 0)) [.ref (cs 0),.ref (cs 1)]=some true/\W.exmAny K (.ref (cs 1)) [.ref (cs 0),.ref (cs 1)]=some true:=
 ⟨CH,(fun j=>([c0,c1,c2,c3,c4,c5,c6,c7,c8,c9,c10,c11,c12]:List Addr).getD j 0),⟨W.mg_of X G aH,W.mg_of X G a0,W.mg_of X G a1,W.mg_of X G a2,W.mg_of X G a3,W.mg_of X G a4,W.mg_of X G a5,W.mg_of X G a6,W.mg_of X G a7,W.mg_of X G a8,W.mg_of X G a9,W.mg_of X G a10,W.mg_of X G a11,W.mg_of X G a12⟩,⟨⟨by rw [show W.clsIn K ((fun j=>([c0,c1,c2,c3,c4,c5,c6,c7,c8,c9,c10,c11,c12]:List Addr).getD j 0) 0)=_ from cl0];rfl,ga0,hk0,ha0,hn,ht,hm0,hb0⟩,(fun j J=>match j,J with | 0,_=>q0_0 | 1,_=>q1_0 | 2,_=>q2_0 | 3,_=>q3_0 | 4,_=>q4_0 | 5,_=>q5_0 | 6,_=>q6_0 | 7,_=>q7_0 | 8,_=>q8_0 | 9,_=>q9_0 | 10,_=>q10_0 | 11,_=>q11_0 | 12,_=>q12_0 | n + 13,J=>absurd J (by omega)),v0,e0,by decide⟩,⟨⟨by rw [show W.clsIn K ((fun j=>([c0,c1,c2,c3,c4,c5,c6,c7,c8,c9,c10,c11,c12]:List Addr).getD j 0) 1)=_ from cl1];rfl,ga1,hk1,ha1,hn,ht,hm1,hb1⟩,(fun j J=>match j,J with | 0,_=>q0_1 | 1,_=>q1_1 | 2,_=>q2_1 | 3,_=>q3_1 | 4,_=>q4_1 | 5,_=>q5_1 | 6,_=>q6_1 | 7,_=>q7_1 | 8,_=>q8_1 | 9,_=>q9_1 | 10,_=>q10_1 | 11,_=>q11_1 | 12,_=>q12_1 | n + 13,J=>absurd J (by omega)),v1,e1,by decide⟩,⟨⟨by rw [show W.clsIn K ((fun j=>([c0,c1,c2,c3,c4,c5,c6,c7,c8,c9,c10,c11,c12]:List Addr).getD j 0) 2)=_ from cl2];rfl,ga2,hk2,ha2,hn,ht,hm2,hb2⟩,(fun j J=>match j,J with | 0,_=>q0_2 | 1,_=>q1_2 | 2,_=>q2_2 | 3,_=>q3_2 | 4,_=>q4_2 | 5,_=>q5_2 | 6,_=>q6_2 | 7,_=>q7_2 | 8,_=>q8_2 | 9,_=>q9_2 | 10,_=>q10_2 | 11,_=>q11_2 | 12,_=>q12_2 | n + 13,J=>absurd J (by omega)),v2,e2,by decide⟩,⟨W.mg_of X G a0,x0⟩,⟨W.mg_of X G a1,x1⟩,⟨W.mg_of X G a2,x2⟩,y0,y1⟩
theorem Ey(T:Txt mg)(C:∃(CH:Addr) (cs:Nat->Addr),Cl mg CH cs/\CF K CH cs 0/\CF K CH cs 1/\CF K CH cs 2/\Ex K mg "BadText" (cs 0)/\Ex K mg "BadSpan" (cs 1)/\Ex K mg "NoLine" (cs 2)/\W.exmAny K (.ref (cs 0)) [.ref (cs 0),.ref (cs 1)]=some true/\W.exmAny K (.ref (cs 1)) [.ref (cs 0),.ref (cs 1)]=some true)(KS:∃ d,mg "SHOWN_SIGNS"=some (.ref d)/\KD P w K d kK)(KM:∃ d,mg "MEANT_SIGNS"=some (.ref d)/\KD P w K d pf)
  (d_sWhole:∃ f fd,Df K mg "is_whole" qg f fd)
  (d_sSign:∃ f fd,Df K mg "is_text_sign" qv f fd)
  (d_sText:∃ f fd,Df K mg "is_text" oo f fd)
  (d_sNText:∃ f fd,Df K mg "need_text" qk f fd)
  (d_sWordsIn:∃ f fd,Df K mg "words_in" qo f fd)
  (d_sNW:∃ f fd,Df K mg "need_words" mj f fd)
  (d_sNM:∃ f fd,Df K mg "need_marks" qM f fd)
  (d_sNWi:∃ f fd,Df K mg "need_window" qm f fd)
  (d_sSS:∃ f fd,Df K mg "shown_signs" o6 f fd)
  (d_sSM:∃ f fd,Df K mg "shown_marks" ql f fd)
  (d_sSL:∃ f fd,Df K mg "shown_line" ou f fd)
  (d_sBS:∃ f fd,Df K mg "by_strokes" pH f fd)
  (d_sRM:∃ f fd,Df K mg "read_marks" pS f fd)
  (d_sSA:∃ f fd,Df K mg "shown_again" oj f fd)
  (d_sRS:∃ f fd,Df K mg "read_shown" qF f fd)
  (d_lMixed:∃ f fd,Df K mg "_law_mixed" mQ f fd)
  (d_lNumber:∃ f fd,Df K mg "_law_number" pE f fd)
  (d_lMenu:∃ f fd,Df K mg "_law_menu" nz f fd)
  (d_lText:∃ f fd,Df K mg "_law_text" qz f fd)
  (d_lSmall:∃ f fd,Df K mg "_law_small" qd f fd)
  (d_lWords:∃ f fd,Df K mg "_law_words" mO f fd)
  (d_lCls:∃ f fd,Df K mg "_law_class" oI f fd)
  (d_lShown:∃ f fd,Df K mg "_law_shown" pY f fd)
  (d_lRead:∃ f fd,Df K mg "_law_read" oh f fd)
  (d_lRows:∃ f fd,Df K mg "_law_rows" pD f fd)
  (d_lPiece:∃ f fd,Df K mg "_law_piece" oF f fd)
  (d_lIsP:∃ f fd,Df K mg "_law_is_piece" mw f fd)
  (d_lLine:∃ f fd,Df K mg "_law_line" lZ f fd)
  (d_lMeant:∃ f fd,Df K mg "_law_meant" oV f fd)
  (d_lSpL:∃ f fd,Df K mg "_law_spoilt_line" qb f fd)
  (d_lSpP:∃ f fd,Df K mg "_law_spoilt_piece" qD f fd)
  (d_lDue:∃ f fd,Df K mg "_law_piece_due" oq f fd)
  (d_lRR:∃ f fd,Df K mg "_law_read_right" pT f fd)
  {f:Addr}{fd:FuncData}(D:Df K mg "law" lC f fd):hZ P w K mg base iw 10 f fd ["_law_script"] (oY K):=by
 obtain⟨CH,cs,C,F0,F1,F2,XT,XS,XL,eT,eS⟩:=C
 obtain⟨_,hS,K1⟩:=KS
 obtain⟨_,hM,K2⟩:=KM
 obtain⟨_,_,aF⟩:=d_sWhole
 obtain⟨_,_,aH⟩:=d_sSign
 obtain⟨_,_,au⟩:=d_sText
 obtain⟨_,_,ah⟩:=d_sNText
 obtain⟨_,_,aa⟩:=d_sWordsIn
 obtain⟨_,_,ax⟩:=d_sNW
 obtain⟨_,_,aI⟩:=d_sNM
 obtain⟨_,_,aA⟩:=d_sNWi
 obtain⟨_,_,aJ⟩:=d_sSS
 obtain⟨_,_,aK⟩:=d_sSM
 obtain⟨_,_,ay⟩:=d_sSL
 obtain⟨_,_,aL⟩:=d_sBS
 obtain⟨_,_,aM⟩:=d_sRM
 obtain⟨_,_,aN⟩:=d_sSA
 obtain⟨_,_,aO⟩:=d_sRS
 obtain⟨_,_,U⟩:=d_lMixed
 obtain⟨_,_,ae⟩:=d_lNumber
 obtain⟨_,_,av⟩:=d_lMenu
 obtain⟨_,_,aw⟩:=d_lText
 obtain⟨_,_,aG⟩:=d_lSmall
 obtain⟨_,_,J⟩:=d_lWords
 obtain⟨_,_,ar⟩:=d_lCls
 obtain⟨_,_,ak⟩:=d_lShown
 obtain⟨_,_,af⟩:=d_lRead
 obtain⟨_,_,aP⟩:=d_lRows
 obtain⟨_,_,ao⟩:=d_lPiece
 obtain⟨_,_,aB⟩:=d_lIsP
 obtain⟨_,_,ag⟩:=d_lLine
 obtain⟨_,_,aq⟩:=d_lMeant
 obtain⟨_,_,aC⟩:=d_lSpL
 obtain⟨_,_,aD⟩:=d_lSpP
 obtain⟨_,_,aE⟩:=d_lDue
 obtain⟨_,_,aQ⟩:=d_lRR
 have gT:=Gv (P:=P) (w:=w) (base:=base) au aH T
 have aV:=Bf (P:=P) (w:=w) (base:=base) ah au XT gT
 have aW:=AJ aa ah aV T
 have aR:=Dh (P:=P) (w:=w) (base:=base) ax aF XS T
 have aX:=FE aI ax aR XS T
 have aS:=CJ aA ax aI aR aX XS T
 have aY:=Bs (P:=P) (w:=w) (base:=base) aJ hS K1
 have aZ:=GG aK aJ aY
 have aT:=Fx ay aa aA aK aW aS aZ T
 have a0:=AQ (P:=P) (w:=w) (base:=base) aM aL (EG aL T) hM K2 T
 have a3:=Dm aN ay aT T
 have a4:=AN aO aM aN a0 a3 XL XT XS eT eS T
 have gC:=Bm (P:=P) (w:=w) (base:=base) ar C T
 have gW:=E5 (P:=P) (w:=w) (base:=base) J aG T
 have aU:=C0 af C F2 aO a4 ar gC
 exact EN D T ae (Cm ae U T) aw (Hj aw U T) av (C8 av U T) J gW ao (Dd ao U aP T) ag (xS ag J gW T)
  ak (Hg ak C F0 F1 ay aT ar gC) aQ (Fo aQ af aU T) aD (FO aD T) aE (Bo aE J aB ag gW T) aC (AU aC T) af aU aq (E9 aq J aB gW T)
theorem Eb{f fa:Addr}{oc kV doc pm cd ct:Value}{od an:Option Addr}{sl:Array (Option Value)}(X:K.In h)(G:h.Ns mainGlobals mg)(hfa:mg "law"=some (.ref fa))(a:W.nsIn K mainGlobals "law"=some (some (.ref f)))
  (l:K.lookup f=some ⟨oc,od,.func (W.fnOf "law" "law" (lV lC) (kM lC) (iu lC) .none kV doc pm an cd ct),sl⟩)(c:W.codeIn K cd "law"=true)(k:W.keepIn K (.ref f)=true)
  (ok:∀(fd:FuncData) (base:Heap),Df K mg "law" lC f fd->hZ P w K mg base iw 10 f fd ["_law_script"] (oY K)):
  ∃ fd:FuncData,(∀(s:Shared) (v:Value),BindsTo s fd ⟨[v],[]⟩ [("_law_script",v)])/\∀ base:Heap,K.In base->base.Ns mainGlobals mg->hZ P w K mg base iw 10 fa fd ["_law_script"] (oY K):=by
 have e:=hfa.symm.trans (W.mg_of X G a)
 cases e
 exact⟨W.fnOf "law" "law" (lV lC) (kM lC) (iu lC) .none kV doc pm an cd ct,fun s v=> .of_eq rfl,fun base _ _=>ok _ base ⟨wg l c k,W.mg_of X G a⟩⟩
end
theorem walk{l:W.OpenLaw}{q:Program}{loose:List Str}{XP:(Str->Option Value)->Heap->Prop}{YP:World->Heap->Prop}{d:DefRec}{K:Params->W.Frag}(hn:l.most=some 63)(hdf:d.params.defaults=[])
  (hY:∀(w:World) (h:Heap),YP w h->(K w.params).In h)
  (F:∀(w:World) (mg:Str->Option Value) (fa:Addr) (h:Heap),(K w.params).In h->h.Ns mainGlobals mg->mg d.name=some (.ref fa)->
   ∃ fd:FuncData,(∀(s:Shared) (u:Value),BindsTo s fd ⟨[u],[]⟩ [("_law_script",u)])/\∀ base:Heap,(K w.params).In base->base.Ns mainGlobals mg->hZ l.prog w (K w.params) mg base iw 10 fa fd ["_law_script"] (oY (K w.params))):
  W.WalkO q loose XP YP l.row.toRowW d [] (fun f vs=>PySem.call f vs):=
 Ha (n:=63) (k:=10) (x:="_law_script") (sp:=oY) hn (by decide) hdf ⟨rfl,by decide,by decide⟩ hY F fun K H a ns J hb U=>⟨a,ns,rfl,U,J,fun _=>rfl⟩
end K24
open PySem PySem.W PyProof.Rows
set_option maxRecDepth 100000 in
set_option maxHeartbeats 0 in
theorem PySem.Challenge.cw_findhall_k24_shown_and_read_holds : PySem.Challenge.rw_findhall_k24_shown_and_read.Holds := by
 refine H24.head ?_
 k_fill
 refine K24.walk (l := PySem.Challenge.rw_findhall_k24_shown_and_read) rfl rfl (fun w h Y => PySem.W.kIn_of Y) ?F
 case F =>
  intro w mg fa h J G aS
  have hC : ∃ (CH : Addr) (cs : Nat -> Addr), K24.Cl mg CH cs /\ K24.CF (L2.ip J) CH cs 0 /\ K24.CF (L2.ip J) CH cs 1 /\ K24.CF (L2.ip J) CH cs 2 /\ Gn.Ex (L2.ip J) mg "BadText" (cs 0) /\ Gn.Ex (L2.ip J) mg "BadSpan" (cs 1) /\ Gn.Ex (L2.ip J) mg "NoLine" (cs 2) /\ PySem.W.exmAny (L2.ip J) (.ref (cs 0)) [.ref (cs 0), .ref (cs 1)] = some true /\ PySem.W.exmAny (L2.ip J) (.ref (cs 1)) [.ref (cs 0), .ref (cs 1)] = some true := by
   dsimp only [L2.ip]
   refine' K24.BX J G ?zaH ?za0 ?za1 ?za2 ?za3 ?za4 ?za5 ?za6 ?za7 ?za8 ?za9 ?za10 ?za11 ?za12 ?zhn ?zht ?zcl0 ?zga0 ?zhk0 ?zha0 ?zhm0 ?zhb0 ?zq0_0 ?zq1_0 ?zq2_0 ?zq3_0 ?zq4_0 ?zq5_0 ?zq6_0 ?zq7_0 ?zq8_0 ?zq9_0 ?zq10_0 ?zq11_0 ?zq12_0 ?zv0 ?ze0 ?zx0 ?zcl1 ?zga1 ?zhk1 ?zha1 ?zhm1 ?zhb1 ?zq0_1 ?zq1_1 ?zq2_1 ?zq3_1 ?zq4_1 ?zq5_1 ?zq6_1 ?zq7_1 ?zq8_1 ?zq9_1 ?zq10_1 ?zq11_1 ?zq12_1 ?zv1 ?ze1 ?zx1 ?zcl2 ?zga2 ?zhk2 ?zha2 ?zhm2 ?zhb2 ?zq0_2 ?zq1_2 ?zq2_2 ?zq3_2 ?zq4_2 ?zq5_2 ?zq6_2 ?zq7_2 ?zq8_2 ?zq9_2 ?zq10_2 ?zq11_2 ?zq12_2 ?zv2 ?ze2 ?zx2 ?zy0 ?zy1
   (case zaH => k_is)
   (case za0 => k_is)
   (case za1 => k_is)
   (case za2 => k_is)
   (case za3 => k_is)
   (case za4 => k_is)
   (case za5 => k_is)
   (case za6 => k_is)
   (case za7 => k_is)
   (case za8 => k_is)
   (case za9 => k_is)
   (case za10 => k_is)
   (case za11 => k_is)
   (case za12 => k_is)
   (case zhn => k_is)
   (case zht => k_is)
   (case zcl0 => k_is)
   (case zga0 => k_is)
   (case zhk0 => k_is)
   (case zha0 => k_is)
   (case zhm0 => k_is)
   (case zhb0 => k_is)
   (case zq0_0 => kit_is)
   (case zq1_0 => kit_is)
   (case zq2_0 => kit_is)
   (case zq3_0 => kit_is)
   (case zq4_0 => kit_is)
   (case zq5_0 => kit_is)
   (case zq6_0 => kit_is)
   (case zq7_0 => kit_is)
   (case zq8_0 => kit_is)
   (case zq9_0 => kit_is)
   (case zq10_0 => kit_is)
   (case zq11_0 => kit_is)
   (case zq12_0 => kit_is)
   (case zv0 => kit_is)
   (case ze0 => kts_exm)
   (case zx0 => k_exc)
   (case zcl1 => k_is)
   (case zga1 => k_is)
   (case zhk1 => k_is)
   (case zha1 => k_is)
   (case zhm1 => k_is)
   (case zhb1 => k_is)
   (case zq0_1 => kit_is)
   (case zq1_1 => kit_is)
   (case zq2_1 => kit_is)
   (case zq3_1 => kit_is)
   (case zq4_1 => kit_is)
   (case zq5_1 => kit_is)
   (case zq6_1 => kit_is)
   (case zq7_1 => kit_is)
   (case zq8_1 => kit_is)
   (case zq9_1 => kit_is)
   (case zq10_1 => kit_is)
   (case zq11_1 => kit_is)
   (case zq12_1 => kit_is)
   (case zv1 => kit_is)
   (case ze1 => kts_exm)
   (case zx1 => k_exc)
   (case zcl2 => k_is)
   (case zga2 => k_is)
   (case zhk2 => k_is)
   (case zha2 => k_is)
   (case zhm2 => k_is)
   (case zhb2 => k_is)
   (case zq0_2 => kit_is)
   (case zq1_2 => kit_is)
   (case zq2_2 => kit_is)
   (case zq3_2 => kit_is)
   (case zq4_2 => kit_is)
   (case zq5_2 => kit_is)
   (case zq6_2 => kit_is)
   (case zq7_2 => kit_is)
   (case zq8_2 => kit_is)
   (case zq9_2 => kit_is)
   (case zq10_2 => kit_is)
   (case zq11_2 => kit_is)
   (case zq12_2 => kit_is)
   (case zv2 => kit_is)
   (case ze2 => kts_exm)
   (case zx2 => k_exc)
   (case zy0 => kernel_rfl)
   (case zy1 => kernel_rfl)
  have T : K24.Txt mg := by
   refine' K24.Fd J G ?zn0 ?zn1 ?zn2 ?zn3 ?zn4 ?zn5 ?zn6 ?zn7 ?zn8 ?zn9 ?zn10 ?zn11 ?zn12 ?zn13 ?zc0 ?zc1 ?zc2 ?zc3 ?zc4 ?zc5 ?zc6
   (case zn0 => k_is)
   (case zn1 => k_is)
   (case zn2 => k_is)
   (case zn3 => k_is)
   (case zn4 => k_is)
   (case zn5 => k_is)
   (case zn6 => k_is)
   (case zn7 => k_is)
   (case zn8 => k_is)
   (case zn9 => k_is)
   (case zn10 => k_is)
   (case zn11 => k_is)
   (case zn12 => k_is)
   (case zn13 => k_is)
   (case zc0 => k_is)
   (case zc1 => k_is)
   (case zc2 => k_is)
   (case zc3 => k_is)
   (case zc4 => k_is)
   (case zc5 => k_is)
   (case zc6 => k_is)
  have KS : ∃ d, mg "SHOWN_SIGNS" = some (.ref d) /\ L2.KD PySem.Challenge.rw_findhall_k24_shown_and_read.prog w (L2.ip J) d K24.kK := by
   dsimp only [L2.ip]
   refine' K24.AV _ J G ?a ?ns ?l
   (case a => k_is)
   (case ns => decide)
   (case l => k_is)
  have KM : ∃ d, mg "MEANT_SIGNS" = some (.ref d) /\ L2.KD PySem.Challenge.rw_findhall_k24_shown_and_read.prog w (L2.ip J) d K24.pf := by
   dsimp only [L2.ip]
   refine' K24.FQ _ J G ?a ?ns ?l
   (case a => k_is)
   (case ns => decide)
   (case l => k_is)
  have ae : ∃ f fd, Gn.Df (L2.ip J) mg "is_whole" K24.qg f fd := by
   dsimp only [L2.ip]
   refine' Gn.jd J G ?a ?l ?c ?k
   (case a => k_is); (case l => k_is); (case c => k_is); (case k => k_is)
  have au : ∃ f fd, Gn.Df (L2.ip J) mg "is_text_sign" K24.qv f fd := by
   dsimp only [L2.ip]
   refine' Gn.jd J G ?a ?l ?c ?k
   (case a => k_is); (case l => k_is); (case c => k_is); (case k => k_is)
  have av : ∃ f fd, Gn.Df (L2.ip J) mg "is_text" K24.oo f fd := by
   dsimp only [L2.ip]
   refine' Gn.jd J G ?a ?l ?c ?k
   (case a => k_is); (case l => k_is); (case c => k_is); (case k => k_is)
  have af : ∃ f fd, Gn.Df (L2.ip J) mg "need_text" K24.qk f fd := by
   dsimp only [L2.ip]
   refine' Gn.jd J G ?a ?l ?c ?k
   (case a => k_is); (case l => k_is); (case c => k_is); (case k => k_is)
  have U : ∃ f fd, Gn.Df (L2.ip J) mg "words_in" K24.qo f fd := by
   dsimp only [L2.ip]
   refine' Gn.jd J G ?a ?l ?c ?k
   (case a => k_is); (case l => k_is); (case c => k_is); (case k => k_is)
  have aI : ∃ f fd, Gn.Df (L2.ip J) mg "need_words" K24.mj f fd := by
   dsimp only [L2.ip]
   refine' Gn.jd J G ?a ?l ?c ?k
   (case a => k_is); (case l => k_is); (case c => k_is); (case k => k_is)
  have aJ : ∃ f fd, Gn.Df (L2.ip J) mg "need_marks" K24.qM f fd := by
   dsimp only [L2.ip]
   refine' Gn.jd J G ?a ?l ?c ?k
   (case a => k_is); (case l => k_is); (case c => k_is); (case k => k_is)
  have aC : ∃ f fd, Gn.Df (L2.ip J) mg "need_window" K24.qm f fd := by
   dsimp only [L2.ip]
   refine' Gn.jd J G ?a ?l ?c ?k
   (case a => k_is); (case l => k_is); (case c => k_is); (case k => k_is)
  have aK : ∃ f fd, Gn.Df (L2.ip J) mg "shown_signs" K24.o6 f fd := by
   dsimp only [L2.ip]
   refine' Gn.jd J G ?a ?l ?c ?k
   (case a => k_is); (case l => k_is); (case c => k_is); (case k => k_is)
  have aL : ∃ f fd, Gn.Df (L2.ip J) mg "shown_marks" K24.ql f fd := by
   dsimp only [L2.ip]
   refine' Gn.jd J G ?a ?l ?c ?k
   (case a => k_is); (case l => k_is); (case c => k_is); (case k => k_is)
  have aM : ∃ f fd, Gn.Df (L2.ip J) mg "shown_line" K24.ou f fd := by
   dsimp only [L2.ip]
   refine' Gn.jd J G ?a ?l ?c ?k
   (case a => k_is); (case l => k_is); (case c => k_is); (case k => k_is)
  have aN : ∃ f fd, Gn.Df (L2.ip J) mg "by_strokes" K24.pH f fd := by
   dsimp only [L2.ip]
   refine' Gn.jd J G ?a ?l ?c ?k
   (case a => k_is); (case l => k_is); (case c => k_is); (case k => k_is)
  have aO : ∃ f fd, Gn.Df (L2.ip J) mg "read_marks" K24.pS f fd := by
   dsimp only [L2.ip]
   refine' Gn.jd J G ?a ?l ?c ?k
   (case a => k_is); (case l => k_is); (case c => k_is); (case k => k_is)
  have aP : ∃ f fd, Gn.Df (L2.ip J) mg "shown_again" K24.oj f fd := by
   dsimp only [L2.ip]
   refine' Gn.jd J G ?a ?l ?c ?k
   (case a => k_is); (case l => k_is); (case c => k_is); (case k => k_is)
  have aQ : ∃ f fd, Gn.Df (L2.ip J) mg "read_shown" K24.qF f fd := by
   dsimp only [L2.ip]
   refine' Gn.jd J G ?a ?l ?c ?k
   (case a => k_is); (case l => k_is); (case c => k_is); (case k => k_is)
  have ag : ∃ f fd, Gn.Df (L2.ip J) mg "_law_mixed" K24.mQ f fd := by
   dsimp only [L2.ip]
   refine' Gn.jd J G ?a ?l ?c ?k
   (case a => k_is); (case l => k_is); (case c => k_is); (case k => k_is)
  have aa : ∃ f fd, Gn.Df (L2.ip J) mg "_law_number" K24.pE f fd := by
   dsimp only [L2.ip]
   refine' Gn.jd J G ?a ?l ?c ?k
   (case a => k_is); (case l => k_is); (case c => k_is); (case k => k_is)
  have aw : ∃ f fd, Gn.Df (L2.ip J) mg "_law_menu" K24.nz f fd := by
   dsimp only [L2.ip]
   refine' Gn.jd J G ?a ?l ?c ?k
   (case a => k_is); (case l => k_is); (case c => k_is); (case k => k_is)
  have ax : ∃ f fd, Gn.Df (L2.ip J) mg "_law_text" K24.qz f fd := by
   dsimp only [L2.ip]
   refine' Gn.jd J G ?a ?l ?c ?k
   (case a => k_is); (case l => k_is); (case c => k_is); (case k => k_is)
  have ah : ∃ f fd, Gn.Df (L2.ip J) mg "_law_small" K24.qd f fd := by
   dsimp only [L2.ip]
   refine' Gn.jd J G ?a ?l ?c ?k
   (case a => k_is); (case l => k_is); (case c => k_is); (case k => k_is)
  have ak : ∃ f fd, Gn.Df (L2.ip J) mg "_law_words" K24.mO f fd := by
   dsimp only [L2.ip]
   refine' Gn.jd J G ?a ?l ?c ?k
   (case a => k_is); (case l => k_is); (case c => k_is); (case k => k_is)
  have aD : ∃ f fd, Gn.Df (L2.ip J) mg "_law_class" K24.oI f fd := by
   dsimp only [L2.ip]
   refine' Gn.jd J G ?a ?l ?c ?k
   (case a => k_is); (case l => k_is); (case c => k_is); (case k => k_is)
  have ao : ∃ f fd, Gn.Df (L2.ip J) mg "_law_shown" K24.pY f fd := by
   dsimp only [L2.ip]
   refine' Gn.jd J G ?a ?l ?c ?k
   (case a => k_is); (case l => k_is); (case c => k_is); (case k => k_is)
  have ay : ∃ f fd, Gn.Df (L2.ip J) mg "_law_read" K24.oh f fd := by
   dsimp only [L2.ip]
   refine' Gn.jd J G ?a ?l ?c ?k
   (case a => k_is); (case l => k_is); (case c => k_is); (case k => k_is)
  have aA : ∃ f fd, Gn.Df (L2.ip J) mg "_law_rows" K24.pD f fd := by
   dsimp only [L2.ip]
   refine' Gn.jd J G ?a ?l ?c ?k
   (case a => k_is); (case l => k_is); (case c => k_is); (case k => k_is)
  have aq : ∃ f fd, Gn.Df (L2.ip J) mg "_law_piece" K24.oF f fd := by
   dsimp only [L2.ip]
   refine' Gn.jd J G ?a ?l ?c ?k
   (case a => k_is); (case l => k_is); (case c => k_is); (case k => k_is)
  have aE : ∃ f fd, Gn.Df (L2.ip J) mg "_law_is_piece" K24.mw f fd := by
   dsimp only [L2.ip]
   refine' Gn.jd J G ?a ?l ?c ?k
   (case a => k_is); (case l => k_is); (case c => k_is); (case k => k_is)
  have aB : ∃ f fd, Gn.Df (L2.ip J) mg "_law_line" K24.lZ f fd := by
   dsimp only [L2.ip]
   refine' Gn.jd J G ?a ?l ?c ?k
   (case a => k_is); (case l => k_is); (case c => k_is); (case k => k_is)
  have ar : ∃ f fd, Gn.Df (L2.ip J) mg "_law_meant" K24.oV f fd := by
   dsimp only [L2.ip]
   refine' Gn.jd J G ?a ?l ?c ?k
   (case a => k_is); (case l => k_is); (case c => k_is); (case k => k_is)
  have aF : ∃ f fd, Gn.Df (L2.ip J) mg "_law_spoilt_line" K24.qb f fd := by
   dsimp only [L2.ip]
   refine' Gn.jd J G ?a ?l ?c ?k
   (case a => k_is); (case l => k_is); (case c => k_is); (case k => k_is)
  have aG : ∃ f fd, Gn.Df (L2.ip J) mg "_law_spoilt_piece" K24.qD f fd := by
   dsimp only [L2.ip]
   refine' Gn.jd J G ?a ?l ?c ?k
   (case a => k_is); (case l => k_is); (case c => k_is); (case k => k_is)
  have aH : ∃ f fd, Gn.Df (L2.ip J) mg "_law_piece_due" K24.oq f fd := by
   dsimp only [L2.ip]
   refine' Gn.jd J G ?a ?l ?c ?k
   (case a => k_is); (case l => k_is); (case c => k_is); (case k => k_is)
  have aR : ∃ f fd, Gn.Df (L2.ip J) mg "_law_read_right" K24.pT f fd := by
   dsimp only [L2.ip]
   refine' Gn.jd J G ?a ?l ?c ?k
   (case a => k_is); (case l => k_is); (case c => k_is); (case k => k_is)
  refine' K24.Eb J G aS ?a ?l ?c ?k fun fd base D => K24.Ey T hC KS KM ae au av af U aI aJ aC aK aL aM aN aO aP aQ ag aa aw ax ah ak aD ao ay aA aq aE aB ar aF aG aH aR D
  (case a => k_is); (case l => k_is); (case c => k_is); (case k => k_is)
