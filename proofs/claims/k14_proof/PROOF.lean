import PyProof.Rows.All
import Wide.All
import OpenK.AllK
import Wide.FinOn
import PyProof.EqAt
import PyProof.EqKinds
import PyProof.TupleCall
import Lean
import PySem.Challenge.RW_findhall_k14_spans_and_holds
noncomputable section
set_option Elab.async false
set_option linter.all false
set_option compiler.extract_closed false
set_option maxRecDepth 100000
set_option maxHeartbeats 4000000
noncomputable section
namespace H14
open PySem PySem.W PyProof.Rows
abbrev pQ : Program := PySem.Challenge.pw_findhall_k14_spans_and_holds
def vQ : Program := PySem.W.view pQ [0, 2, 3, 5, 6, 7, 9, 10, 12, 13, 14, 15, 16, 18, 19, 20, 21, 22, 23, 24, 25, 26, 27, 28, 29, 30, 31, 32, 33, 34, 35, 37, 38, 39, 40, 41, 42, 43, 44, 45, 46, 47, 48, 49]
def lQ : List Str := [Str.ofString "TOLD_LENGTHS"]
def xQ (s : Shared) : Bool := xlAt vQ [] s && recOk (RowW.records PySem.Challenge.rw_findhall_k14_spans_and_holds.row.toRowW) s
def sQ (w : World) (os : OsState) : Shared := ⟨boot_heap w.params, Array.mk [], boot_drawn, boot_toks, os⟩
def topRunT (tb : String -> Option Builtin) (p : Program) (w : World) (n₀ : Nat) (ann : Option Value) : Nat -> SharedT -> Thread -> Option SharedT
 | 0, _, _ => none
 | n + 1, s, t => match through t with
  | true => some s
  | false => match stepOk n₀ ann t with
   | false => none
   | true => match stepT (denote tb) p w s t with
    | some (s', t') => topRunT tb p w n₀ ann n s' t'
    | none => none
theorem topRun_of {tb : String -> Option Builtin} {p : Program} {w : World} {n₀ : Nat} {ann : Option Value} : ∀ {n : Nat} {s s' : SharedT} {t : Thread}, topRunT tb p w n₀ ann n s t = some s' -> topRun tb p w n₀ ann n s.abs t = some s'.abs
 | 0, _, _, _, h => by cases h
 | n + 1, s, s', t, h => by
  unfold topRunT at h
  unfold topRun
  cases he : through t with
  | true => rw [he] at h; cases h; rfl
  | false =>
   rw [he] at h
   cases hk : stepOk n₀ ann t with
   | false => rw [hk] at h; cases h
   | true =>
    rw [hk] at h
    cases hs : stepT (denote tb) p w s t with
    | none => rw [hs] at h; cases h
    | some r => obtain ⟨s₂, t₂⟩ := r; rw [hs] at h; rw [stepT_spec hs]; exact topRun_of h
def buildT : List Obj -> BT -> Nat -> Option BT
 | [], t, _ => some t
 | o :: r, t, n => match ((t.ins n o).get n).isSome with
  | true => buildT r (t.ins n o) (n + 1)
  | false => none
theorem build_of : ∀ {l : List Obj} {t t' : BT} {n : Nat} (life : Life), buildT l t n = some t' -> absHeap t' (n + l.length) life = ⟨(absHeap t n life).objs ++ l.toArray, life⟩
 | [], t, t', n, life, h => by
  cases h
  show absHeap t n life = _
  unfold absHeap
  simp
 | o :: r, t, t', n, life, h => by
  unfold buildT at h
  cases hs : ((t.ins n o).get n).isSome with
  | false => rw [hs] at h; cases h
  | true =>
   rw [hs] at h
   have e := build_of life h
   rw [show n + (o :: r).length = n + 1 + r.length by rw [List.length_cons]; omega, e, absHeap_ins hs]
   show Heap.mk _ _ = Heap.mk _ _
   congr 1
   show (absHeap t n life).objs.push o ++ r.toArray = (absHeap t n life).objs ++ (o :: r).toArray
   apply Array.ext'
   simp
def annQ (w : World) (os : OsState) : Option Value := (sQ w os).heap.nsMap mainGlobals (Str.ofString "__annotations__")
def topQ (w : World) (os : OsState) : Option Shared := match buildT (boot_heap w.params).objs.toList .nil 0 with
 | none => none
 | some t => (topRunT treeTable pQ w (boot_heap w.params).objs.size (annQ w os) 20000 ⟨t, (boot_heap w.params).objs.size, (boot_heap w.params).life, Array.mk [], boot_drawn, boot_toks, os⟩ (topStub pQ)).map SharedT.abs
theorem topQ_run {w : World} {os : OsState} {s : Shared} (h : topQ w os = some s) : topRun treeTable pQ w (sQ w os).heap.objs.size ((sQ w os).heap.nsMap mainGlobals (Str.ofString "__annotations__")) 20000 (sQ w os) (topStub pQ) = some s := by
 unfold topQ at h
 cases hb : buildT (boot_heap w.params).objs.toList .nil 0 with
 | none => rw [hb] at h; cases h
 | some t =>
  rw [hb] at h
  obtain ⟨x, hx, e⟩ := Option.map_eq_some_iff.mp h
  have q := topRun_of hx
  have a : absHeap t (boot_heap w.params).objs.size (boot_heap w.params).life = boot_heap w.params := by
   have := build_of (boot_heap w.params).life hb
   rw [Nat.zero_add, Array.length_toList] at this
   rw [this]
   show Heap.mk _ _ = _
   have e0 : (absHeap .nil 0 (boot_heap w.params).life).objs = #[] := by unfold absHeap BT.list; simp
   rw [e0]
   simp
  have es : SharedT.abs ⟨t, (boot_heap w.params).objs.size, (boot_heap w.params).life, Array.mk [], boot_drawn, boot_toks, os⟩ = sQ w os := by
   unfold SharedT.abs sQ
   rw [a]
  rw [es] at q
  rw [<- e]
  exact q
def okQ (h : Heap) (s : Shared) : Bool := staticsOk (importedModules pQ.main.body) h s.heap && namesBound pQ s.heap && gensDone s && laidKept h s.heap
def seenQ (s : Shared) := openSeen vQ lQ (importedModules pQ.main.body) xQ true s
def goodQ := openGood vQ lQ
def ok9 (w : World) (os : OsState) (s : Shared) : Bool := okQ (boot_heap w.params) s && ((sQ w os).heap.isNs mainGlobals && (sQ w os).gens.size == 0)
def seenA (s : Shared) := (fun x => (x.1, x.2.1, x.2.2.1, x.2.2.2.1, x.2.2.2.2.1, x.2.2.2.2.2.1, x.2.2.2.2.2.2.1, x.2.2.2.2.2.2.2.1, x.2.2.2.2.2.2.2.2)) (seenQ s)
def goodA := (true, (fun x => (x.1, x.2.1, x.2.2.1, x.2.2.2.1, x.2.2.2.2.1, x.2.2.2.2.2.1, x.2.2.2.2.2.2.1, x.2.2.2.2.2.2.2.1, x.2.2.2.2.2.2.2.2)) goodQ)
def runA (w : World) (os : OsState) := (topQ w os).map fun s => (ok9 w os s, seenA s)
def runK (as : List Nat) (w : World) (os : OsState) := (topQ w os).map fun s => as.map s.heap.get?
def _root_.PySem.W.Fast.tw14598715356260435866 := PySem.W.boot_o_0
theorem _root_.PySem.W.Fast.te14598715356260435866 : PySem.W.boot_o_0 = PySem.W.Fast.tw14598715356260435866 := rfl
def _root_.PySem.W.Fast.tw832369045636264998 := PySem.Challenge.pw_findhall_k14_spans_and_holds
theorem _root_.PySem.W.Fast.te832369045636264998 : PySem.Challenge.pw_findhall_k14_spans_and_holds = PySem.W.Fast.tw832369045636264998 := rfl
lay_quick runA goodA
theorem hA0 : ∀ w os, PySem.W.Fast.tw8045165312306432422 (World.withFollow w "special-get-raises" false) os = some PySem.W.Fast.tw8020226351269413902 := fun w os => by kernel_rfl
theorem hA1 : ∀ w os, PySem.W.Fast.tw8045165312306432422 (World.withFollow w "special-get-raises" true) os = some PySem.W.Fast.tw8020226351269413902 := fun w os => by kernel_rfl
lay_quick runK
theorem rA (w : World) (os : OsState) : runA w os = some goodA := by
 have k : ∀ b, runA (World.withFollow w "special-get-raises" b) os = some goodA := fun b => by
  rw [PySem.W.Fast.te8045165312306432422, PySem.W.Fast.te8020226351269413902]
  cases b
  ·exact hA0 w os
  ·exact hA1 w os
 have := k (w.params.followText "special-get-raises")
 rwa [World.withFollow_self] at this
theorem spl {as : List Nat} {V : World -> List (Option Obj)} {w : World} {os : OsState} (k : ∀ b, PySem.W.Fast.tw2938775762427090103 as (World.withFollow w "special-get-raises" b) os = some (V (World.withFollow w "special-get-raises" b))) : PySem.W.Fast.tw2938775762427090103 as w os = some (V w) := by
 have := k (w.params.followText "special-get-raises")
 rwa [World.withFollow_self] at this
theorem topFrom_some {tb : String -> Option Builtin} {p : Program} {w : World} {N : Nat} {s0 s : Shared} (h1 : (s0.heap.isNs mainGlobals && s0.gens.size == 0) = true) (h2 : topRun tb p w s0.heap.objs.size (s0.heap.nsMap mainGlobals (Str.ofString "__annotations__")) N s0 (topStub p) = some s)
  (h3 : (staticsOk (importedModules p.main.body) s0.heap s.heap && namesBound p s.heap && gensDone s && laidKept s0.heap s.heap) = true) : topFrom tb p w N s0 = some s := by
 unfold topFrom
 rw [h1]
 dsimp only
 rw [h2]
 dsimp only [Option.bind]
 rw [h3]
theorem openEnds_some {tb : String -> Option Builtin} {p : Program} {w : World} {N : Nat} {s0 s : Shared} (a : fencedOpening tb p w N = some s0) (b : topFrom tb p w N s0 = some s) : openEnds tb p w N = some s := by
 unfold openEnds
 rw [a]
 exact b
theorem map_at {α β : Type} {o : Option α} {s : α} {f : α -> β} {b : β} (h : o = some s) (e : o.map f = some b) : f s = b := by
 subst h
 exact Option.some.inj e
theorem map_some' {α β : Type} {o : Option α} {f : α -> β} {b : β} (e : o.map f = some b) : ∃ s, o = some s := by
 cases o with
 | none => cases e
 | some s => exact ⟨s, rfl⟩
theorem pair_of {α β σ : Type} {f : σ -> α} {g : σ -> β} {o : Option σ} {s : σ} {a : α} {b : β} (e : o = some s) (h1 : f s = a) (h2 : g s = b) : o.map (fun s => (f s, g s)) = some (a, b) := by
 subst e
 subst h1
 subst h2
 rfl
theorem sh_eq {s : Shared} {h : Heap} {g : Array GenState} {d : Drawn} {k : Nat} (a : s.heap = h) (b : s.gens = g) (c : s.drawn = d) (e : s.toks = k) : s = ⟨h, g, d, k, s.os⟩ := by
 cases s
 cases a
 cases b
 cases c
 cases e
 rfl
theorem opQ : opening pQ = plainProg pQ.main.scope.names := by kernel_rfl
theorem feQ (s : Shared) : fenceModules? pQ s = some s := by kernel_rfl
theorem seen_eq {s : Shared} (aA : seenA s = goodA.2) : seenQ s = goodQ :=
 Prod.ext (congrArg (fun y => y.1) aA) (Prod.ext (congrArg (fun y => y.2.1) aA) (Prod.ext (congrArg (fun y => y.2.2.1) aA) (Prod.ext (congrArg (fun y => y.2.2.2.1) aA) (Prod.ext (congrArg (fun y => y.2.2.2.2.1) aA) (Prod.ext (congrArg (fun y => y.2.2.2.2.2.1) aA) (Prod.ext (congrArg (fun y => y.2.2.2.2.2.2.1) aA) (Prod.ext (congrArg (fun y => y.2.2.2.2.2.2.2.1) aA) ((congrArg (fun y => y.2.2.2.2.2.2.2.2) aA)))))))))
theorem end_of {as : List Nat} {V : World -> List (Option Obj)} {w : World} {os : OsState} {s : Shared} (ht : topQ w os = some s) (hs0 : fencedOpening treeTable pQ w 20000 = some (sQ w os)) (e : runK as w os = some (V w)) :
  openEnds treeTable pQ w 20000 = some s /\ seenQ s = goodQ /\ as.map s.heap.get? = V w := by
 have d0 := map_at (f := fun (s : Shared) => (ok9 w os s, seenA s)) ht (rA w os)
 have d1 : ok9 w os s = true := congrArg (fun y => y.1) d0
 have dA : seenA s = goodA.2 := congrArg (fun y => y.2) d0
 obtain ⟨d2, d3⟩ := Bool.and_eq_true_iff.mp d1
 exact ⟨openEnds_some hs0 (topFrom_some d3 (topQ_run ht) d2), seen_eq dA , map_at (f := fun (s : Shared) => as.map s.heap.get?) ht e⟩
theorem hl_of {as : List Nat} {V : World -> List (Option Obj)} (h : ∀ w os, PySem.W.Fast.tw2938775762427090103 as w os = some (V w)) : LeftO pQ vQ lQ xQ (fun s => as.map s.heap.get?) V 20000 := fun w => by
 obtain ⟨s0, hs0, hv⟩ := Option.map_eq_some_iff.mp (boot_open (p := pQ) (N := 20000) opQ rfl feQ w)
 have es : s0 = sQ w s0.os := sh_eq (congrArg (fun x => x.1) hv) (congrArg (fun x => x.2.1) hv) (congrArg (fun x => x.2.2.1) hv) (congrArg (fun x => x.2.2.2) hv)
 rw [es] at hs0
 obtain ⟨s, ht⟩ := map_some' (rA w s0.os)
 have e : runK as w s0.os = some (V w) := by rw [PySem.W.Fast.te2938775762427090103]; exact h w s0.os
 obtain ⟨e1, e2, e3⟩ := end_of ht hs0 e
 exact pair_of (f := seenQ) (g := fun s => as.map s.heap.get?) (a := goodQ) e1 e2 e3
theorem dry {p : Prop} (_ : True) (h : p) : p := h
end H14
section
open PySem PySem.W PyProof.Rows
local macro_rules | `(tactic| o_head $H:term) => `(tactic| refine H14.dry ?hw ?hc)
local macro_rules | `(tactic| w_witness2) => `(tactic| trivial)
open_top H14.pre for PySem.Challenge.rw_findhall_k14_spans_and_holds
end
namespace H14
open PySem PySem.W PyProof.Rows
noncomputable def asQ : List Addr := [2, 3, 15, 17, 18, 20, 21, 22, 29, 30, 31, 32, 35, 42, 43, 44, 47, 49, 50, 52, 53, 54, 57, 58, 59, 61, 62, 64, 65, 66, 67, 69, 70, 72, 73, 74, 76, 77, 79, 80, 81, 84, 85, 93, 95, 96, 98, 99, 100, 102, 103, 105, 106, 107, 109, 110, 112, 113, 114, 115, 116, 117, 118, 121, 128, 130, 131, 133, 134, 135, 137, 138, 140, 141, 142, 144, 145, 147, 148, 149, 152, 153, 154, 155, 156, 159, 166, 168, 169, 171, 172, 173, 175, 176, 178, 179, 180, 182, 183, 185, 186, 187, 190, 191, 192, 193, 194, 197, 204, 206, 207, 209, 210, 211, 213, 214, 216, 217, 218, 220, 221, 223, 224, 225, 227, 228, 230, 231, 232, 233, 234, 237, 244, 246, 247, 249, 250, 251, 253, 254, 256, 257, 258, 260, 261, 263, 264, 265, 267, 268, 270, 271, 272, 274, 275, 277, 278, 279, 280, 281, 284, 291, 293, 294, 296, 297, 298, 300, 301, 303, 304, 305, 307, 308, 310, 311, 312, 314, 315, 317, 318, 319, 321, 322, 324, 325, 326, 328, 329, 331, 332, 333, 335, 336, 338, 339, 340, 341, 342, 345, 352, 354, 355, 357, 358, 359, 361, 362, 364, 365, 366, 368, 369, 371, 372, 373, 375, 376, 378, 379, 380, 382, 383, 385, 386, 387, 389, 390, 392, 393, 394, 396, 397, 399, 400, 401, 402, 403, 406, 413, 415, 416, 418, 419, 420, 422, 423, 425, 426, 427, 429, 430, 432, 433, 434, 436, 437, 439, 440, 441, 443, 444, 446, 447, 448, 450, 451, 453, 454, 455, 457, 458, 460, 461, 462, 463, 464, 467, 469, 470, 472, 473, 474, 476, 477, 479, 480, 481, 484, 485, 486, 488, 489, 491, 492, 493, 495, 496, 498, 499, 500, 503, 504, 505, 507, 508, 510, 511, 512, 514, 515, 517, 518, 519, 521, 522, 524, 525, 526, 529, 530, 531, 534, 535, 536, 538, 539, 541, 542, 543, 545, 546, 548, 549, 550, 552, 553, 555, 556, 557, 559, 560, 562, 563, 564, 566, 567, 569, 570, 571, 574, 575, 576, 578, 579, 581, 582, 583, 586, 587, 588, 591, 592]
noncomputable abbrev hkQ : Hook := kHook H14.pre.heap_39 asQ (fun _ => by kernel_rfl)
theorem kF : ∀ w os, PySem.W.Fast.tw2938775762427090103 asQ (World.withFollow w "special-get-raises" false) os = some (Hook.val hkQ (World.withFollow w "special-get-raises" false)) := fun w os => by kernel_rfl
theorem kT : ∀ w os, PySem.W.Fast.tw2938775762427090103 asQ (World.withFollow w "special-get-raises" true) os = some (Hook.val hkQ (World.withFollow w "special-get-raises" true)) := fun w os => by kernel_rfl
theorem kB (w : World) (os : OsState) : ∀ b, PySem.W.Fast.tw2938775762427090103 asQ (World.withFollow w "special-get-raises" b) os = some (Hook.val hkQ (World.withFollow w "special-get-raises" b))
 | false => kF w os
 | true => kT w os
end H14
section
open PySem PySem.W PyProof.Rows
local macro_rules | `(tactic| o_head $H:term) => `(tactic|
 refine holds_open
  (q := H14.vQ) (loose := H14.lQ)
  (Xt := H14.xQ) (XP := XL H14.vQ [])
  (Yf := Hook.obs H14.hkQ)
  (Ya := Hook.val H14.hkQ) (YP := Hook.says H14.hkQ)
  (N := 20000)
  (H14.hl_of fun w os => H14.spl (H14.kB w os))
  (Hook.of H14.hkQ) (Hook.keeps H14.hkQ)
  (fun s e => xl_of s (Bool.and_eq_true_iff.mp e).1)
  XL.keeps rfl rfl rfl
  (fun s e => recFacts_of (Bool.and_eq_true_iff.mp e).2)
  rfl
  (by first | assumption | decide +kernel)
  (by decide +kernel)
  ⟨rfl, rfl, rfl, rfl, rfl, by decide +kernel⟩
  ?hw ?hc)
open_top H14.head for PySem.Challenge.rw_findhall_k14_spans_and_holds
end
namespace L2
open PySem PySem.Spec PyProof.Rows
theorem _root_.dkq {p:Prop} [Decidable p] (h:decide p=true:=by kernel_rfl):p:=of_decide_eq_true h
noncomputable abbrev Key:=Sum Int Str
noncomputable def kc:Key->Value->Bool
 | .inl k,v=>Value.isInt k v
 | .inr x,v=>Value.isStrOf x v
noncomputable def yP(w:World):Key->Int
 | .inl k=>hashInt k
 | .inr x=>hashStr w x
theorem iR:∀{k:Key} {v:Value},kc k v=true->(∃ i t,k=Sum.inl i/\v=Value.int i t)\/(∃ x t,k=Sum.inr x/\v=Value.str x t)
 | .inl i,v,h=>by
  obtain⟨t,e⟩:=Value.isInt_shape (k:=i) (v:=v) h
  exact .inl ⟨i,t,rfl,e⟩
 | .inr x,v,h=>by
  obtain⟨t,e⟩:=Value.isStrOf_shape (x:=x) (v:=v) h
  exact .inr ⟨x,t,rfl,e⟩
theorem vS(i:Int)(t:Tok):kc (.inl i) (.int i t)=true:=by simp [kc,Value.isInt]
theorem fY(x:Str)(t:Tok):kc (.inr x) (.str x t)=true:=by simp [kc,Value.isStrOf]
theorem AM(a b:Int):decide ((Sum.inl a:Key)=Sum.inl b)=(a == b):=by
 by_cases e:a=b
 ·subst e;simp
 ·have h:¬ (Sum.inl a:Key)=Sum.inl b:=fun q=>e (Sum.inl.inj q)
  rw [decide_eq_false h]
  exact(beq_eq_false_iff_ne.mpr e).symm
theorem xq(a b:Str):decide ((Sum.inr a:Key)=Sum.inr b)=decide (a=b):=by
 by_cases e:a=b
 ·subst e;simp
 ·have h:¬ (Sum.inr a:Key)=Sum.inr b:=fun q=>e (Sum.inr.inj q)
  rw [decide_eq_false h,decide_eq_false e]
theorem yt(a:Int)(b:Str):decide ((Sum.inl a:Key)=Sum.inr b)=false:=decide_eq_false (fun q=>nomatch q)
theorem Cp(a:Str)(b:Int):decide ((Sum.inr a:Key)=Sum.inl b)=false:=decide_eq_false (fun q=>nomatch q)
noncomputable def fP(prog:Program)(w:World):PySem.KeyKind prog w Key where
 is:=kc
 hash:=yP w
 inj:=fun v a b ha hb=>by
  rcases iR ha with ⟨i,t,rfl,rfl⟩ | ⟨x,t,rfl,rfl⟩
  ·rcases iR hb with ⟨j,u,rfl,e⟩ | ⟨y,u,rfl,e⟩
   ·injection e with e1 _;rw [e1]
   ·exact nomatch e
  ·rcases iR hb with ⟨j,u,rfl,e⟩ | ⟨y,u,rfl,e⟩
   ·exact nomatch e
   ·injection e with e1 _;rw [e1]
 byValue:=fun k v h=>by
  rcases iR h with ⟨i,t,rfl,rfl⟩ | ⟨x,t,rfl,rfl⟩<;>rfl
 pyHash:=fun J h=>by
  rcases iR J with ⟨i,t,rfl,rfl⟩ | ⟨x,t,rfl,rfl⟩
  ·exact wpAny_pyHash_int h
  ·exact wpAny_pyHash_str h
 eqBool:=fun U J h=>by
  rcases iR U with ⟨i,t,rfl,rfl⟩ | ⟨x,t,rfl,rfl⟩
  ·rcases iR J with ⟨j,u,rfl,rfl⟩ | ⟨y,u,rfl,rfl⟩
   ·rw [AM] at h;exact wpAny_eqBool_int h
   ·rw [yt] at h;exact SeqAt.EqAt.int_str i t y u _ _ _ _ h
  ·rcases iR J with ⟨j,u,rfl,rfl⟩ | ⟨y,u,rfl,rfl⟩
   ·rw [Cp] at h;exact SeqAt.EqAt.str_int x t j u _ _ _ _ h
   ·rw [xq] at h;exact wpAny_eqBool_str h
 «strs»:=fun k x t v h=>by
  rcases iR h with ⟨i,u,rfl,e⟩ | ⟨y,u,rfl,e⟩
  ·exact nomatch e
  ·injection e with e1 _
   subst e1
   cases v<;>rfl
theorem yQ(prog:Program)(w:World)(i:Int)(t:Tok):(fP prog w).is (.inl i) (.int i t)=true:=vS i t
theorem zN(prog:Program)(w:World)(x:Str)(t:Tok):(fP prog w).is (.inr x) (.str x t)=true:=fY x t
inductive V where
 | non | bl (b : Bool) | int (i : Int) | str (x : Str) | byt (b : Array UInt8) | flt (b : UInt64) | ref (a : Addr) | ty (n : String)
 deriving DecidableEq
noncomputable def RelV:V->Value->Prop
 | .non,u=>u=Value.none
 | .bl b,u=>u=Value.bool b
 | .int i,u=>∃ t,u=Value.int i t
 | .str x,u=>∃ t,u=Value.str x t
 | .byt b,u=>∃ t,u=Value.bytes b t
 | .flt b,u=>∃ t,u=Value.float b t
 | .ref a,u=>u=Value.ref a
 | .ty n,u=>u=Value.type n
noncomputable abbrev Vals:List V->List Value->Prop:=Paired RelV
theorem Vals.length {xs:List V}{us:List Value}(r:Vals xs us):xs.length=us.length:=Paired.length r
theorem Vals.get:∀{xs:List V} {us:List Value} {i:Nat} {x:V},Vals xs us->xs[i]? =some x->∃ u,us[i]? =some u/\RelV x u
 | _,_,_,_,.nil,e=>by simp at e
 | _,_,0,_,.cons r _,e=>by simp at e;subst e;exact⟨_,rfl,r⟩
 | _,_,i + 1,x,.cons _ t,e=>by
  obtain⟨u,h1,h2⟩:=Vals.get (i:=i) (x:=x) t (by simpa using e)
  exact⟨u,by simpa using h1,h2⟩
theorem Vals.set {x:V}{u:Value}(r:RelV x u):∀{xs:List V} {us:List Value} (i:Nat),Vals xs us->Vals (xs.set i x) (us.set i u)
 | _,_,_,.nil=> .nil
 | _,_,0,.cons _ t=> .cons r t
 | _,_,i + 1,.cons q t=> .cons q (Vals.set r i t)
theorem Vals.append:∀{xs ys:List V} {us ws:List Value},Vals xs us->Vals ys ws->Vals (xs++ys) (us++ws)
 | _,_,_,_,.nil,s=>s
 | _,_,_,_,.cons r t,s=> .cons r (Vals.append t s)
theorem Vals.take:∀{xs:List V} {us:List Value} (n:Nat),Vals xs us->Vals (xs.take n) (us.take n)
 | _,_,0,_=> .nil
 | _,_,_ + 1,.nil=> .nil
 | _,_,n + 1,.cons r t=> .cons r (Vals.take n t)
theorem Vals.drop:∀{xs:List V} {us:List Value} (n:Nat),Vals xs us->Vals (xs.drop n) (us.drop n)
 | _,_,0,r=>r
 | _,_,_ + 1,.nil=> .nil
 | _,_,n + 1,.cons _ t=>Vals.drop n t
noncomputable def gn:Option V->Option Value->Prop
 | some v,some u=>RelV v u
 | none,none=>True
 | _,_=>False
noncomputable def KV{κ:Type}:List (κ×V)->List (κ×Value)->Prop:=Paired fun(p:κ×V) (q:κ×Value)=>p.1=q.1/\RelV p.2 q.2
noncomputable def kV:Key->V
 | .inl i=> .int i
 | .inr x=> .str x
inductive HO where
 | lst (xs : List V)
 | tup (xs : List V)
 | dK (kvs : List (Key × V)) | dT (kvs : List (List Key × V))
 | set (S : Int -> Bool) (n : Nat)
 | ins (C dx : Addr) (fs : List (Str × V))
 | own (x : Addr)
 | xd (fs : List (Str × V))
 | met (f x : Addr)
 | rng (lo hi : Int)
 | frz (o : Obj) (u : HO)
 | tbl (ps : Array Value)
 | ext (φ : Heap -> Prop)
noncomputable abbrev Hp:=Addr->Option HO
noncomputable def upd(H:Hp)(a:Addr)(o:HO):Hp:=fun b=>if b=a then some o else H b
theorem cx{H:Hp}{a:Addr}{o:HO}:upd H a o a=some o:=by unfold upd;rw [if_pos rfl]
theorem cK{H:Hp}{a b:Addr}{o:HO}(h:b≠a):upd H a o b=H b:=by unfold upd;rw [if_neg h]
theorem lO{H:Hp}{a:Addr}{o u:HO}:upd (upd H a o) a u=upd H a u:=by
 funext b;unfold upd;split<;>rfl
theorem jH{H:Hp}{a b:Addr}{o u:HO}(h:H a=some o)(h':H b=some u)(d:o≠u):a≠b:=by
 intro e;subst e;rw [h] at h';exact d (Option.some.inj h')
theorem dA{H:Hp}{a b:Addr}{o:HO}(h:H a=some o)(h':H b=none):a≠b:=by
 intro e;subst e;rw [h] at h';cases h'
section
variable (P : Program) (w : World)
noncomputable def dP(H:Hp)(h:Heap)(a:Addr):HO->Prop
 | .lst xs=>xs.length<=sizeLine/\∃(J:List Value) (n:Nat),Vals xs J/\h.get? a=some {cls:= .type "list",data:= .seq J.toArray n}
 | .tup xs=>xs.length<=sizeLine/\∃ J:List Value,Vals xs J/\IsTup h a J.toArray
 | .dK kvs=>kvs.length<=sizeLine/\(a == sysModules)=false/\∃ vs,KV kvs vs/\h.DictOf (fP P w) a vs
 | .dT kvs=>kvs.length<=sizeLine/\(a == sysModules)=false/\∃ xs:List (List Key×Addr×Value),
   Paired (fun(p:List Key×V) (q:List Key×Addr×Value)=>p.1=q.1/\H q.2.1=some (.tup (p.1.map kV))/\RelV p.2 q.2.2) kvs xs/\
   ∃ o es ep,h.get? a=some o/\o.ExactDict/\o.data= .dict es ep/\es.toList=xs.map (entryOfKey (tupleKind (fP P w)))/\(xs.map (·.1)).Nodup
 | .set S n=>h.SetOf (intKind P w) a S n
 | .ins C dx fs=>H dx=some (.own a)/\fs.length<=1000/\dx≠a/\h.get? a=some (W.instObj C dx)/\
   ∃ mA,h.Ns1 dx mA/\(∀ f,gn (fs.lookup f) (mA f))/\PySem.Within mA (fs.map (·.1))
 | .own _=>∃ o,h.get? a=some o
 | .xd fs=>∃ mA,h.Ns1 a mA/\∀ f,gn (fs.lookup f) (mA f)
 | .rng lo hi=>∃ t u v,h.get? a=some {cls:= .type "range",data:= .fields #[.int lo t,.int hi u,.int 1 v]}
 | .frz o u=>h.get? a=some o/\dP H h a u
 | .tbl ps=>h.get? a=some {cls:= .none,data:= .fields ps}
 | .met f x=>h.get? a=some (W.methodObj (.ref f) (.ref x))
 | .ext U=>U h/\(∃ o,h.get? a=some o)/\∀ h1 h2:Heap,U h1->(∀ o,h1.get? a=some o->h2.get? a=some o)->U h2
noncomputable def dJ(H:Hp)(h:Heap):Prop:=∀ a o,H a=some o->dP P w H h a o
end
section
variable {P : Program} {w : World} {H H' : Hp} {h h' : Heap} {a : Addr} {o : HO}
theorem dP.lt (x:dP P w H h a o):a < h.objs.size:=by
 cases o with
 | lst xs=>obtain⟨_,_,_,_,e⟩:=x;exact Heap.lt_size e
 | tup xs=>obtain⟨_,_,_,p⟩:=x;exact p.lt
 | dK kvs=>obtain⟨_,_,_,_,o,_,_,e,_⟩:=x;exact Heap.lt_size e
 | dT kvs=>obtain⟨_,_,_,_,o,_,_,e,_⟩:=x;exact Heap.lt_size e
 | set S n=>obtain⟨o,_,_,_,e,_⟩:=x;exact Heap.lt_size e
 | ins C dx fs=>obtain⟨_,_,_,e,_⟩:=x;exact Heap.lt_size e
 | own y=>obtain⟨_,e⟩:=x;exact Heap.lt_size e
 | xd fs=>obtain⟨_,⟨_,_,_,e,_⟩,_⟩:=x;exact Heap.lt_size e
 | rng lo hi=>obtain⟨_,_,_,e⟩:=x;exact Heap.lt_size e
 | frz ob u=>obtain⟨e,_⟩:=x;exact Heap.lt_size e
 | tbl ps=>exact Heap.lt_size (show h.get? a=some _ from x)
 | met f y=>exact Heap.lt_size (show h.get? a=some _ from x)
 | ext J=>obtain⟨_,⟨_,e⟩,_⟩:=x;exact Heap.lt_size e
theorem Paired.mapP {α β:Type}{F G:α->β->Prop}:∀{l₁:List α} {l₂:List β},Paired F l₁ l₂->(∀ a b,F a b->G a b)->Paired G l₁ l₂
 | _,_,.nil,_=> .nil
 | _,_,.cons r t,f=> .cons (f _ _ r) (Paired.mapP t f)
theorem dP.stay (x:dP P w H h a o)(k:∀ b u,(b=a\/H b=some (.own a))->h.get? b=some u->h'.get? b=some u)
  (ho:∀ b,H b=some (.own a)->H' b=some (.own a))(ht:∀ b xs,H b=some (.tup xs)->H' b=some (.tup xs)):dP P w H' h' a o:=by
 induction o with
 | lst xs=>obtain⟨z,J,n,r,e⟩:=x;exact⟨z,J,n,r,k _ _ (.inl rfl) e⟩
 | tup xs=>obtain⟨z,J,r,ob,e,c⟩:=x;exact⟨z,J,r,ob,k _ _ (.inl rfl) e,c⟩
 | dK kvs=>obtain⟨z,y,vs,r,ob,es,ep,e,c⟩:=x;exact⟨z,y,vs,r,ob,es,ep,k _ _ (.inl rfl) e,c⟩
 | dT kvs=>
  obtain⟨z,y,xs,r,ob,es,ep,e,c⟩:=x
  exact⟨z,y,xs,Paired.mapP r fun p q z=>⟨z.1,ht _ _ z.2.1,z.2.2⟩,ob,es,ep,k _ _ (.inl rfl) e,c⟩
 | set S n=>obtain⟨ob,es,ep,t,e,c⟩:=x;exact⟨ob,es,ep,t,k _ _ (.inl rfl) e,c⟩
 | ins C dx fs=>
  obtain⟨d,z,ne,e,mA,⟨U,es,ep,e2,c⟩,r⟩:=x
  exact⟨ho _ d,z,ne,k _ _ (.inl rfl) e,mA,⟨U,es,ep,k _ _ (.inr d) e2,c⟩,r⟩
 | own y=>obtain⟨ob,e⟩:=x;exact⟨ob,k _ _ (.inl rfl) e⟩
 | xd fs=>obtain⟨mA,⟨U,es,ep,e,c⟩,r⟩:=x;exact⟨mA,⟨U,es,ep,k _ _ (.inl rfl) e,c⟩,r⟩
 | rng lo hi=>obtain⟨t,u,v,e⟩:=x;exact⟨t,u,v,k _ _ (.inl rfl) e⟩
 | frz ob u ih=>obtain⟨e,q⟩:=x;exact⟨k _ _ (.inl rfl) e,ih q⟩
 | tbl ps=>
  have e:h.get? a=some {cls:= .none,data:= .fields ps}:=x
  show h'.get? a=some {cls:= .none,data:= .fields ps}
  exact k a _ (.inl rfl) e
 | met f y=>
  have e:h.get? a=some (W.methodObj (.ref f) (.ref y)):=x
  show h'.get? a=some (W.methodObj (.ref f) (.ref y))
  exact k a _ (.inl rfl) e
 | ext φ=>obtain⟨p,⟨o,e⟩,st⟩:=x;exact⟨st _ _ p fun o q=>k _ _ (.inl rfl) q,⟨o,k _ _ (.inl rfl) e⟩,st⟩
theorem dJ.lt (x:dJ P w H h)(e:H a=some o):a < h.objs.size:=(x a o e).lt
theorem dJ.fresh (x:dJ P w H h)(e:h.objs.size<=a):H a=none:=by
 cases q:H a with
 | none=>rfl
 | some u=>exact absurd (Nat.lt_of_lt_of_le (x.lt q) e) (Nat.lt_irrefl _)
theorem dJ.kept (x:dJ P w H h)(k:∀ b u,h.get? b=some u->h'.get? b=some u):dJ P w H h':=fun a o e=>
 (x a o e).stay (fun b u _ q=>k b u q) (fun _ q=>q) fun _ _ q=>q
theorem dJ.laid (x:dJ P w H h)(k:∀ b u,h.get? b=some u->h'.get? b=some u)(hp:h.objs.size<=a)(new:dP P w (upd H a o) h' a o):dJ P w (upd H a o) h':=fun b u e=>by
 have hn:=x.fresh hp
 by_cases hb:b=a
 ·subst hb;rw [cx] at e;cases e;exact new
 ·rw [cK hb] at e
  exact(x b u e).stay (fun c v _ q=>k c v q) (fun c q=>by rw [cK (dA q hn)];exact q) fun c xs q=>by rw [cK (dA q hn)];exact q
end
noncomputable def Rd(H:Hp)(a:Addr)(u:HO):Prop:=H a=some u\/∃ o,H a=some (.frz o u)
theorem Rd.ok {P:Program}{w:World}{H:Hp}{h:Heap}{a:Addr}{u:HO}(r:Rd H a u)(x:dJ P w H h):dP P w H h a u:=by
 rcases r with r | ⟨o,r⟩
 ·exact x a u r
 ·obtain⟨_,q⟩:=x a _ r
  exact q
noncomputable def lJ:Option HO->Prop
 | some (.lst _)=>True
 | some (.dK _)=>True
 | some (.dT _)=>True
 | some (.set _ _)=>True
 | some (.ins _ _ _)=>True
 | some (.ext _)=>True
 | _=>False
section
variable {P : Program} {w : World} {H : Hp} {h h' : Heap} {x e : Addr} {o' : HO}
theorem dJ.write (ok:dJ P w H h)(mu:lJ (H x))(he:e=x\/H e=some (.own x))(k:∀ b u,b≠e->h.get? b=some u->h'.get? b=some u)(heo:∃ u,h'.get? e=some u)
  (new:dP P w (upd H x o') h' x o'):dJ P w (upd H x o') h':=fun b u q=>by
 have U:∀ c y,H c=some (.own y)->c≠x:=fun c y r z=>by subst z;rw [r] at mu;exact mu
 have aa:∀ c xs,H c=some (.tup xs)->c≠x:=fun c xs r z=>by subst z;rw [r] at mu;exact mu
 by_cases hb:b=x
 ·subst hb;rw [cx] at q;cases q;exact new
 ·rw [cK hb] at q
  by_cases J:b=e
  ·have q':H b=some (.own x):=by
    rcases he with z | z
    ·exact absurd (J.trans z) hb
    ·rw [J];exact z
   rw [q] at q';cases q'
   obtain⟨v,hv⟩:=heo
   exact⟨v,by rw [J];exact hv⟩
  ·refine(ok b u q).stay (fun c v hc r=>k c v ?_ r) (fun c r=>by rw [cK (U c b r)];exact r) fun c xs r=>by rw [cK (aa c xs r)];exact r
   rcases hc with rfl | hc
   ·exact J
   ·rintro rfl
    rcases he with z | z
    ·exact U c b hc z
    ·rw [hc] at z;cases z;exact hb rfl
end
structure Un (fs ex : List Addr) (H H' : Hp) (h h' : Heap) : Prop where
 keep : ∀ b o, h.get? b = some o -> H b = none -> b ∉ fs -> b ∉ ex -> h'.get? b = some o
 slot : ∀ b o, h.get? b = some o -> H b = none -> b ∈ fs -> b ∉ ex -> ∃ sl, h'.get? b = some { o with slots := sl }
 free : ∀ b o, h.get? b = some o -> H b = none -> b ∉ ex -> H' b = none
 there : ∀ b o, h.get? b = some o -> b ∉ ex -> ∃ o', h'.get? b = some o'
 tups : ∀ b xs, H b = some (.tup xs) -> H' b = some (.tup xs)
 frzs : ∀ b o u, H b = some (.frz o u) -> H' b = some (.frz o u)
 tbls : ∀ b ps, H b = some (.tbl ps) -> ∃ more, H' b = some (.tbl (ps ++ more))
section
variable {fs fs' ex ex' : List Addr} {H H1 H2 : Hp} {h h1 h2 h' : Heap} {a x e : Addr} {o : HO}
theorem Un.any (u:Un fs ex H H1 h h1){b:Addr}{ob:Obj}(q:h.get? b=some ob)(n:H b=none)(hx:b∉ex):∃ sl,h1.get? b=some {ob with slots:=sl}:=by
 by_cases hb:b∈fs
 ·exact u.slot b ob q n hb hx
 ·exact⟨ob.slots,u.keep b ob q n hb hx⟩
theorem Un.kept (k:∀ b u,h.get? b=some u->h'.get? b=some u):Un fs ex H H h h':=
 ⟨fun b ob q _ _ _=>k b ob q,fun b ob q _ _ _=>⟨ob.slots,k b ob q⟩,fun _ _ _ n _=>n,fun b ob q _=>⟨ob,k b ob q⟩,fun _ _ q=>q,fun _ _ _ q=>q,fun _ ps q=>⟨#[],by rw [q];simp⟩⟩
theorem Un.refl:Un fs ex H H h h:=Un.kept fun _ _ q=>q
theorem Un.laid (k:∀ b u,h.get? b=some u->h'.get? b=some u)(hp:h.objs.size<=a)(hn:H a=none):Un fs ex H (upd H a o) h h' where
 keep:=fun b u q _ _ _=>k b u q
 slot:=fun b u q _ _ _=>⟨u.slots,k b u q⟩
 free:=fun b u q n _=>by rw [cK (Nat.ne_of_lt (Nat.lt_of_lt_of_le (Heap.lt_size q) hp))];exact n
 there:=fun b u q _=>⟨u,k b u q⟩
 tups:=fun b xs q=>by rw [cK (dA q hn)];exact q
 frzs:=fun b u xs q=>by rw [cK (dA q hn)];exact q
 tbls:=fun b ps q=>⟨#[],by rw [cK (dA q hn),q];simp⟩
theorem Un.write (mu:lJ (H x))(he:e=x\/H e=some (.own x))(k:∀ b u,b≠e->h.get? b=some u->h'.get? b=some u)(heo:∃ u,h'.get? e=some u):Un fs ex H (upd H x o) h h':=by
 have U:∀ b,H b=none->b≠x:=fun b n z=>by subst z;rw [n] at mu;exact mu
 have hb:∀ b,H b=none->b≠e:=fun b n z=>by
  subst z
  rcases he with r | r
  ·exact U b n r
  ·rw [n] at r;cases r
 have hm:∀ b u,H b=some u->¬ lJ (some u)->b≠x:=fun b u q nm z=>by subst z;rw [q] at mu;exact nm mu
 refine⟨fun b u q n _ _=>k b u (hb b n) q,fun b u q n _ _=>⟨u.slots,k b u (hb b n) q⟩,fun b u q n _=>by rw [cK (U b n)];exact n,fun b u q _=>?_,
  fun b xs q=>by rw [cK (hm b _ q fun z=>z)];exact q,fun b u xs q=>by rw [cK (hm b _ q fun z=>z)];exact q,fun b ps q=>⟨#[],by rw [cK (hm b _ q fun z=>z),q];simp⟩⟩
 by_cases J:b=e
 ·subst J;exact heo
 ·exact⟨u,k b u J q⟩
end
noncomputable def oh(h:Heap)(H:Hp):List Addr:=(List.range h.objs.size).filter fun a=>(H a).isSome
noncomputable def iS(h:Heap)(H:Hp):Heap:=W.hideAll h (oh h H)
theorem Ai(h:Heap)(H:Hp):(iS h H).objs.size=h.objs.size:=W.hideAll_size _ _
theorem xP{h:Heap}{H:Hp}{b:Addr}{o:Obj}(e:h.get? b=some o)(n:H b=none):(iS h H).get? b=some o:=
 W.hideAll_get _ e fun hm=>by
  have q:(H b).isSome=true:=(List.mem_filter.mp hm).2
  rw [n] at q;simp at q
theorem BQ{h:Heap}{H:Hp}{b:Addr}{o:Obj}(e:(iS h H).get? b=some o):h.get? b=some o/\H b=none:=by
 have J:h.get? b=some o:=W.of_hideAll (oh h H) e
 refine⟨J,?_⟩
 cases q:H b with
 | none=>rfl
 | some x=>
  have hm:b∈oh h H:=List.mem_filter.mpr ⟨List.mem_range.mpr (Heap.lt_size J),by simp [q]⟩
  have z:(iS h H).get? b=none:=W.hideAll_none (oh h H) hm
  rw [z] at e;cases e
structure Mod (K : W.Frag) (mg : Str -> Option Value) (base : Heap) : Prop where
 kin : K.In base
 glob : base.Ns mainGlobals mg
 blt : ∃ mb, base.Ns builtinsNs mb /\ ∀ x : Str, x ≠ "__name__" -> mb x = bootBuiltins x
 nolimit : base.NoLimit
structure Cx where
 prog : Program
 w : World
 K : W.Frag
 mg : Str -> Option Value
 base : Heap
 A : Around
 N : List Str
 s₀ : Shared
 H₀ : Hp
 env : Env
 outer : List Env
 stack : List Env
 ex : List Addr
 fn : Str -> Bool
 calm : Bool
 pn : List (Addr × Obj)
 xe : Value -> Shared -> Prop
noncomputable def da(l:List Env):List Addr:=l.filterMap (·.frame)
noncomputable abbrev Cx.fs (X:Cx):List Addr:=da X.outer
noncomputable def oX(sc:Scope)(x:Str):Prop:=sc.names.lookup x=some .local\/sc.names.lookup x=some .cell\/sc.names.lookup x=some .free
noncomputable def Loc(sc:Scope)(x:Str):Prop:=sc.names.lookup x=some .local\/sc.names.lookup x=some .cell
noncomputable def Look(env:Env)(h:Heap)(m:Str->Option Value)(x:Str)(u:Value):Prop:=
 (env.kindOf x=some .local/\m x=some u)\/((env.kindOf x=some .cell\/env.kindOf x=some .free)/\∃ c,env.cells.lookup x=some c/\h.IsCell c (some u))
structure Cx.Ok (X : Cx) : Prop where
 mod : Mod X.K X.mg X.base
 kind : X.env.scope.kind = .function
 glob : X.env.globals = mainGlobals
 blt : X.env.builtins = builtinsNs
 above : X.s₀.heap.objs.size <= X.env.locals
 inj : ∀ x y c, X.env.cells.lookup x = some c -> X.env.cells.lookup y = some c -> x = y
 has : ∀ x, (X.env.kindOf x = some .cell \/ X.env.kindOf x = some .free) -> ∃ c, X.env.cells.lookup x = some c
 cab : ∀ x c, X.fn x = true -> X.env.cells.lookup x = some c -> X.s₀.heap.objs.size <= c
 hd : X.calm = true -> X.A.handled = none
 frames : X.A.frames = some X.stack
 stk : X.stack = X.outer \/ (X.stack = X.env :: X.outer /\ X.env.frame = some X.env.locals)
 exf : ∀ b ∈ X.ex, b ≠ X.env.locals /\ ∀ x c, X.env.cells.lookup x = some c -> c ≠ b
 bs : ∀ b o, X.base.get? b = some o -> X.s₀.heap.get? b = some o /\ X.H₀ b = none
 bsz : X.base.objs.size <= X.s₀.heap.objs.size
 noex : ∀ b o, X.base.get? b = some o -> b ∉ X.ex
 exfs : ∀ b ∈ X.ex, b ∉ X.fs
 funs : X.s₀.heap.FunFrames X.base X.outer
 frf : ∀ b ∈ X.fs, X.H₀ b = none
structure Inv (X : Cx) (pins : List (Addr × Obj)) (σ : List (Option V)) (H : Hp) (s : Shared) : Prop where
 ok : X.Ok
 os : s.os = X.s₀.os
 bare : AllBare s.gens
 base : Un X.fs X.ex X.H₀ H X.s₀.heap s.heap
 loc : ∃ m, s.heap.Ns X.env.locals m /\ ∀ (i : Nat) (x : Str) (v : V), X.N[i]? = some x -> σ[i]? = some (some v) -> oX X.env.scope x -> ∃ u, RelV v u /\ Look X.env s.heap m x u
 cell : ∀ x c, X.env.cells.lookup x = some c -> ∃ v, s.heap.IsCell c v
 free : H X.env.locals = none
 freeC : ∀ x c, X.env.cells.lookup x = some c -> H c = none
 pin : ∀ p ∈ X.pn ++ pins, s.heap.get? p.1 = some p.2 /\ H p.1 = none /\ p.1 ≠ X.env.locals /\ p.1 ∉ X.fs /\ ∀ v, p.2.data ≠ .cell v
 hok : dJ X.prog X.w H s.heap
 len : σ.length = X.N.length
section
variable {X : Cx} {pins : List (Addr × Obj)} {σ : List (Option V)} {H H' : Hp} {s : Shared} {h' : Heap}
theorem Cx.Ok.nofr (ok:X.Ok){b:Addr}{o:Obj}(e:X.base.get? b=some o):b∉X.fs:=fun hb=>by
 have:=(ok.funs.mem hb).1
 rw [e] at this;cases this
theorem Inv.bs (I:Inv X pins σ H s):∀ b o,X.base.get? b=some o->s.heap.get? b=some o/\H b=none:=fun b o e=>
 ⟨I.base.keep b o (I.ok.bs b o e).1 (I.ok.bs b o e).2 (I.ok.nofr e) (I.ok.noex b o e),I.base.free b o (I.ok.bs b o e).1 (I.ok.bs b o e).2 (I.ok.noex b o e)⟩
theorem Inv.bk (I:Inv X pins σ H s):∀ b o,X.base.get? b=some o->s.heap.get? b=some o:=fun b o e=>(I.bs b o e).1
theorem Inv.mod (I:Inv X pins σ H s):Mod X.K X.mg X.base:=I.ok.mod
theorem Inv.kIn (I:Inv X pins σ H s):X.K.In s.heap:=I.ok.mod.kin.keeps I.bk
theorem Inv.fr (I:Inv X pins σ H s):∃ m,Fr X.base X.env.locals s.heap m:=
 let ⟨m,hn,_⟩:=I.loc
 ⟨m,hn,I.bk,Nat.le_trans I.ok.bsz I.ok.above⟩
theorem Inv.lt (I:Inv X pins σ H s):X.env.locals < s.heap.objs.size:=let ⟨_,hn,_⟩:=I.loc;hn.lt
theorem Inv.sz (I:Inv X pins σ H s):X.s₀.heap.objs.size<=s.heap.objs.size:=Nat.le_trans I.ok.above (Nat.le_of_lt I.lt)
theorem Inv.nofs (I:Inv X pins σ H s){a:Addr}(h:s.heap.objs.size<=a):a∉X.fs:=fun hb=>by
 obtain⟨_,o,J,_⟩:=I.ok.funs.mem hb
 exact absurd (Nat.lt_of_lt_of_le (Heap.lt_size J) (Nat.le_trans I.sz h)) (Nat.lt_irrefl _)
theorem Inv.cne (I:Inv X pins σ H s):∀ x c,X.env.cells.lookup x=some c->c≠X.env.locals:=fun x c e z=>by
 obtain⟨v,o,ho,hd⟩:=I.cell x c e
 obtain⟨m,⟨o',es,ep,J,U,_⟩,_⟩:=I.loc
 rw [z,J] at ho;cases ho;rw [U] at hd;cases hd
theorem Inv.funs (I:Inv X pins σ H s):s.heap.FunFrames X.base X.outer:=by
 have all:∀(l:List Env),(∀ b∈da l,b∈X.fs)->X.s₀.heap.FunFrames X.base l->s.heap.FunFrames X.base l:=by
  intro l
  induction l with
  | nil=>intro _ _;trivial
  | cons env r U=>
   intro hs hl
   obtain⟨hk,⟨L,o,hf,hn,ho,hd⟩,hr⟩:=hl
   have J:L∈X.fs:=hs L (by unfold da;rw [List.filterMap_cons,hf];exact List.mem_cons_self)
   obtain⟨sl,e⟩:=I.base.slot L o ho (I.ok.frf L J) J fun z=>I.ok.exfs L z J
   exact⟨hk,⟨L,_,hf,hn,e,hd⟩,U (fun b hb=>hs b (by unfold da;rw [List.filterMap_cons,hf];exact List.mem_cons_of_mem _ hb)) hr⟩
 exact all X.outer (fun _ hb=>hb) I.ok.funs
theorem Inv.stack (I:Inv X pins σ H s):s.heap.FunFrames X.base X.stack:=by
 rcases I.ok.stk with e | ⟨e,hf⟩
 ·rw [e];exact I.funs
 ·rw [e]
  obtain⟨m,hn,_⟩:=I.loc
  refine .cons (by rw [I.ok.kind];decide) hf hn ?_ I.funs
  exact Heap.get?_none_of_le (Nat.le_trans I.ok.bsz I.ok.above)
theorem Inv.stkSub (I:Inv X pins σ H s):∀ b∈da X.stack,b∈X.env.locals::X.fs:=fun b hb=>by
 rcases I.ok.stk with e | ⟨e,hf⟩
 ·rw [e] at hb;exact List.mem_cons_of_mem _ hb
 ·rw [e] at hb
  unfold da at hb
  rw [List.filterMap_cons,hf] at hb
  exact hb
theorem Inv.stkFree (I:Inv X pins σ H s):∀ b∈da X.stack,H b=none:=fun b hb=>by
 rcases List.mem_cons.mp (I.stkSub b hb) with e | hb
 ·rw [e];exact I.free
 ·obtain⟨_,o,J,_⟩:=I.ok.funs.mem hb
  exact I.base.free b o J (I.ok.frf b hb) fun z=>I.ok.exfs b z hb
theorem Inv.step {g':Array GenState}{t':Nat}{d':Drawn}{ch:List Addr}(I:Inv X pins σ H s)
  (hch:∀ b∈ch,(b∈X.ex\/X.s₀.heap.objs.size<=b)/\b≠X.env.locals/\(∀ x c,X.env.cells.lookup x=some c->c≠b)/\∀ p∈X.pn++pins,p.1≠b)
  (keep:∀ b o,b≠X.env.locals->b∉X.fs->b∉ch->s.heap.get? b=some o->H b=none->h'.get? b=some o)
  (slot:∀ b o,b≠X.env.locals->b∈X.fs->b∉ch->s.heap.get? b=some o->H b=none->∃ sl,h'.get? b=some {o with slots:=sl})(free:∀ b o,b∉ch->s.heap.get? b=some o->H b=none->H' b=none)
  (there:∀ b o,b∉ch->s.heap.get? b=some o->∃ o',h'.get? b=some o')
  (tups:∀ b xs,H b=some (.tup xs)->H' b=some (.tup xs))(frzs:∀ b o u,H b=some (.frz o u)->H' b=some (.frz o u))(tbls:∀ b ps,H b=some (.tbl ps)->∃ more,H' b=some (.tbl (ps++more)))
  (ns:∀ m,s.heap.Ns X.env.locals m->h'.Ns X.env.locals m)(hok:dJ X.prog X.w H' h')(hg:AllBare g'):
  Inv X pins σ H' {s with heap:=h',gens:=g',drawn:=d',toks:=t'}:=by
 have ae:∀ b o,X.s₀.heap.get? b=some o->b≠X.env.locals:=fun b o e=>Nat.ne_of_lt (Nat.lt_of_lt_of_le (Heap.lt_size e) I.ok.above)
 have aa:∀ b o,X.s₀.heap.get? b=some o->b∉X.ex->b∉ch:=fun b o e J hb=>by
  rcases(hch b hb).1 with z | z
  ·exact J z
  ·exact absurd (Nat.lt_of_lt_of_le (Heap.lt_size e) z) (Nat.lt_irrefl _)
 have cellK:∀ x c,X.env.cells.lookup x=some c->∀ v,s.heap.IsCell c v->h'.IsCell c v:=fun x c e v ⟨o,ho,hd⟩=>by
  have U:c∉ch:=fun z=>(hch c z).2.2.1 x c e rfl
  by_cases hc:c∈X.fs
  ·obtain⟨sl,q⟩:=slot c o (I.cne x c e) hc U ho (I.freeC x c e)
   exact⟨_,q,hd⟩
  ·exact⟨o,keep c o (I.cne x c e) hc U ho (I.freeC x c e),hd⟩
 refine⟨I.ok,I.os,hg,⟨fun b o e n hb J=>?_,fun b o e n hb J=>?_,fun b o e n J=>?_,fun b o e J=>?_,fun b xs e=>tups b xs (I.base.tups b xs e),fun b o xs e=>frzs b o xs (I.base.frzs b o xs e),fun b ps e=>?_⟩,?_,fun x c e=>?_,?_,fun x c e=>?_,fun p hp=>?_,hok,I.len⟩
 ·exact keep b o (ae b o e) hb (aa b o e J) (I.base.keep b o e n hb J) (I.base.free b o e n J)
 ·obtain⟨sl,e1⟩:=I.base.slot b o e n hb J
  obtain⟨af,e2⟩:=slot b _ (ae b o e) hb (aa b o e J) e1 (I.base.free b o e n J)
  exact⟨af,e2⟩
 ·obtain⟨o',e1⟩:=I.base.there b o e J
  exact free b o' (aa b o e J) e1 (I.base.free b o e n J)
 ·obtain⟨o',e1⟩:=I.base.there b o e J
  exact there b o' (aa b o e J) e1
 ·obtain⟨m1,e1⟩:=I.base.tbls b ps e
  obtain⟨m2,e2⟩:=tbls b _ e1
  exact⟨m1++m2,by rw [e2,Array.append_assoc]⟩
 ·obtain⟨m,hn,hl⟩:=I.loc
  refine⟨m,ns m hn,fun i x v e1 e2 e3=>?_⟩
  obtain⟨u,r,l⟩:=hl i x v e1 e2 e3
  refine⟨u,r,?_⟩
  rcases l with l | ⟨k,c,e,z⟩
  ·exact .inl l
  ·exact .inr ⟨k,c,e,cellK x c e _ z⟩
 ·obtain⟨v,z⟩:=I.cell x c e
  exact⟨v,cellK x c e v z⟩
 ·obtain⟨m,⟨o,_,_,ho,_⟩,_⟩:=I.loc
  exact free _ o (fun z=>(hch _ z).2.1 rfl) ho I.free
 ·obtain⟨v,o,ho,hd⟩:=I.cell x c e
  exact free c o (fun z=>(hch c z).2.2.1 x c e rfl) ho (I.freeC x c e)
 ·obtain⟨e,n,ne,nf,d⟩:=I.pin p hp
  have U:p.1∉ch:=fun z=>(hch p.1 z).2.2.2 p hp rfl
  exact⟨keep p.1 p.2 ne nf U e n,free p.1 p.2 U e n,ne,nf,d⟩
theorem Inv.un {t':Nat}(I:Inv X pins σ H s)(u:Un X.fs [] H H' s.heap h')(hok:dJ X.prog X.w H' h'):Inv X pins σ H' {s with heap:=h',toks:=t'}:=by
 obtain⟨m,⟨o,es,ep,ho,r⟩,_⟩:=id I.loc
 obtain⟨sl,hL⟩:=u.any ho I.free (by simp)
 exact I.step (g':=s.gens) (d':=s.drawn) (ch:=[]) (fun _ z=>nomatch z) (fun b o _ hb _ e n=>u.keep b o e n hb (by simp)) (fun b o _ hb _ e n=>u.slot b o e n hb (by simp)) (fun b o _ e n=>u.free b o e n (by simp)) (fun b o _ e=>u.there b o e (by simp)) u.tups u.frzs u.tbls (fun m' hm=>by
  obtain⟨o',U,aa,J,r'⟩:=hm
  rw [ho] at J;cases J
  exact⟨_,U,aa,hL,r'⟩) hok I.bare
theorem Inv.call {g':Array GenState}{t':Nat}{d':Drawn}{ch:List Addr}(I:Inv X pins σ H s)(u:Un (da X.stack) ch H H' s.heap h')(hok:dJ X.prog X.w H' h')(hg:AllBare g')
  (hch:∀ b∈ch,(b∈X.ex\/X.s₀.heap.objs.size<=b)/\b≠X.env.locals/\(∀ x c,X.env.cells.lookup x=some c->c≠b)/\∀ p∈X.pn++pins,p.1≠b):
  Inv X pins σ H' {s with heap:=h',gens:=g',drawn:=d',toks:=t'}:=by
 obtain⟨m,⟨o,es,ep,ho,r⟩,_⟩:=id I.loc
 obtain⟨sl,hL⟩:=u.any ho I.free fun z=>(hch _ z).2.1 rfl
 exact I.step (ch:=ch) hch (fun b o hL hb J e n=>u.keep b o e n (fun z=>(List.mem_cons.mp (I.stkSub b z)).elim hL hb) J) (fun b o _ _ J e n=>u.any e n J) (fun b o J e n=>u.free b o e n J) (fun b o J e=>u.there b o e J) u.tups u.frzs u.tbls (fun m' hm=>by
  obtain⟨o',aa,ae,U,r'⟩:=hm
  rw [ho] at U;cases U
  exact⟨_,aa,ae,hL,r'⟩) hok hg
theorem Inv.turned {t':Nat}{it:Addr}(I:Inv X pins σ H s)(k:∀ b o,b≠it->s.heap.get? b=some o->h'.get? b=some o)(hn:H it=none)(hL:it≠X.env.locals)
  (h1:it∈X.ex\/X.s₀.heap.objs.size<=it)(h2:∀ x c,X.env.cells.lookup x=some c->c≠it)(h3:∀ p∈X.pn++pins,p.1≠it):Inv X pins σ H {s with heap:=h',toks:=t'}:=by
 have U:∀ b u,H b=some u->b≠it:=fun b u e z=>by rw [z,hn] at e;cases e
 refine I.step (g':=s.gens) (d':=s.drawn) (ch:=[it]) (fun b hb=>?_) (fun b o _ _ J e _=>k b o (fun z=>J (by simp [z])) e) (fun b o _ _ J e _=>⟨o.slots,k b o (fun z=>J (by simp [z])) e⟩) (fun _ _ _ _ n=>n)
  (fun b o J e=>⟨o,k b o (fun z=>J (by simp [z])) e⟩) (fun _ _ e=>e) (fun _ _ _ e=>e) (fun b ps e=>⟨#[],by rw [e];simp⟩) (fun m hm=>?_) (fun b u e=>?_) I.bare
 ·have e:b=it:=by simpa using hb
  subst e
  exact⟨h1,hL,h2,h3⟩
 ·obtain⟨o,es,ep,ho,r⟩:=hm
  exact⟨o,es,ep,k _ o (Ne.symm hL) ho,r⟩
 ·refine(I.hok b u e).stay (fun c v J q=>k c v ?_ q) (fun _ q=>q) fun _ _ q=>q
  rcases J with z | z
  ·rw [z];exact U b u e
  ·exact U c _ z
theorem Inv.tok (I:Inv X pins σ H s)(t:Nat):Inv X pins σ H {s with toks:=t}:=I.un (h':=s.heap) (t':=t) Un.refl I.hok
theorem Inv.kept {t':Nat}(I:Inv X pins σ H s)(k:∀ b u,s.heap.get? b=some u->h'.get? b=some u):Inv X pins σ H {s with heap:=h',toks:=t'}:=I.un (Un.kept k) (I.hok.kept k)
theorem Inv.laid {a:Addr}{o:HO}{t':Nat}(I:Inv X pins σ H s)(k:∀ b u,s.heap.get? b=some u->h'.get? b=some u)(hp:s.heap.objs.size<=a)(new:dP X.prog X.w (upd H a o) h' a o):
  Inv X pins σ (upd H a o) {s with heap:=h',toks:=t'}:=I.un (Un.laid k hp (I.hok.fresh hp)) (I.hok.laid k hp new)
theorem Inv.write {x e:Addr}{o:HO}{t':Nat}(I:Inv X pins σ H s)(mu:lJ (H x))(he:e=x\/H e=some (.own x))(k:∀ b u,b≠e->s.heap.get? b=some u->h'.get? b=some u)(heo:∃ u,h'.get? e=some u)
  (new:dP X.prog X.w (upd H x o) h' x o):Inv X pins σ (upd H x o) {s with heap:=h',toks:=t'}:=I.un (Un.write mu he k heo) (I.hok.write mu he k heo new)
theorem Inv.weak {σ':List (Option V)}(I:Inv X pins σ H s)(hl:σ'.length=σ.length)(w:∀(i:Nat) v,σ'[i]? =some (some v)->σ[i]? =some (some v)):Inv X pins σ' H s:=
 ⟨I.ok,I.os,I.bare,I.base,let ⟨m,hn,hl'⟩:=I.loc;⟨m,hn,fun i x v J U e3=>hl' i x v J (w i v U) e3⟩,I.cell,I.free,I.freeC,I.pin,I.hok,hl.trans I.len⟩
theorem Inv.pins_of {pins':List (Addr×Obj)}(I:Inv X pins σ H s)(h:∀ p∈pins',s.heap.get? p.1=some p.2/\H p.1=none/\p.1≠X.env.locals/\p.1∉X.fs/\∀ v,p.2.data≠ .cell v):Inv X pins' σ H s:=
 ⟨I.ok,I.os,I.bare,I.base,I.loc,I.cell,I.free,I.freeC,fun p J=>(List.mem_append.mp J).elim (fun z=>I.pin p (List.mem_append_left _ z)) (h p),I.hok,I.len⟩
theorem su{N:List Str}(hN:N.Nodup){i j:Nat}{x:Str}(a:N[i]? =some x)(b:N[j]? =some x):i=j:=by
 obtain⟨h1,J⟩:=List.getElem?_eq_some_iff.mp a
 obtain⟨h2,U⟩:=List.getElem?_eq_some_iff.mp b
 exact(List.getElem_inj hN).mp (J.trans U.symm)
theorem yV{M:Model}{A:Around}{E:Value->Shared->Prop}{i:Nat}{x:Str}{v:V}{u:Value}{Q:Unit->Shared->Prop}(I:Inv X pins σ H s)(hN:X.N.Nodup)(hi:X.N[i]? =some x)(hx:Loc X.env.scope x)(r:RelV v u)
  (h:∀ s',Inv X pins (σ.set i (some v)) H s'->(∃ a,Heap.SameBut a s.heap s'.heap/\(a=X.env.locals\/X.env.cells.lookup x=some a))->Q () s')(hf:X.fn x=true\/X.env.scope.names.lookup x=some .local:=by first | exact .inl rfl | exact .inr rfl | assumption):wpAny M A (storeName X.env x u) Q E s:=by
 obtain⟨m,hn,hl⟩:=id I.loc
 have af:(X.env.scope.kind == .class || (X.env.scope.kind == .module && X.env.locals != X.env.globals))=false:=by rw [I.ok.kind];rfl
 have aa:i < σ.length:=by rw [I.len];exact(List.getElem?_eq_some_iff.mp hi).1
 have cne:=I.cne
 have tracked:∀{a:Addr} {h':Heap},(∃ o,s.heap.get? a=some o/\H a=none)->Heap.SameBut a s.heap h'->dJ X.prog X.w H h':=fun{a h'} ha hs b ob e=>by
  obtain⟨_,_,U⟩:=ha
  refine(I.hok b ob e).stay (fun c w' hc q=>(hs.2 c ?_).trans q) (fun _ q=>q) fun _ _ q=>q
  rintro rfl
  rcases hc with rfl | hc
  ·rw [U] at e;cases e
  ·rw [U] at hc;cases hc
 rcases hx with hk | hk
 ·refine wpAny_storeName_local hk hn (fun h' aq hs=>?_) af
  obtain⟨oL,_,_,ar,_⟩:=id hn
  refine h _ ⟨I.ok,I.os,I.bare,⟨fun b o e n hb hx=>?_,fun b o e n hb hx=>?_,I.base.free,fun b o e hx=>?_,I.base.tups,I.base.frzs,I.base.tbls⟩,⟨_,aq,fun j y v' J e2 e3=>?_⟩,fun y c e=>?_,I.free,I.freeC,fun p hp=>?_,tracked ⟨oL,ar,I.free⟩ hs,by simpa using I.len⟩ ⟨_,hs,.inl rfl⟩
  ·exact(hs.2 b (Nat.ne_of_lt (Nat.lt_of_lt_of_le (Heap.lt_size e) I.ok.above))).trans (I.base.keep b o e n hb hx)
  ·obtain⟨sl,J⟩:=I.base.slot b o e n hb hx
   exact⟨sl,(hs.2 b (Nat.ne_of_lt (Nat.lt_of_lt_of_le (Heap.lt_size e) I.ok.above))).trans J⟩
  ·obtain⟨o',J⟩:=I.base.there b o e hx
   exact⟨o',(hs.2 b (Nat.ne_of_lt (Nat.lt_of_lt_of_le (Heap.lt_size e) I.ok.above))).trans J⟩
  ·by_cases hj:j=i
   ·subst hj
    rw [hi] at J;cases J
    rw [List.getElem?_set_self aa] at e2
    cases e2
    exact⟨u,r,.inl ⟨hk,by simp⟩⟩
   ·rw [List.getElem?_set_ne (Ne.symm hj)] at e2
    obtain⟨u',r',q⟩:=hl j y v' J e2 e3
    refine⟨u',r',?_⟩
    rcases q with ⟨k,e⟩ | ⟨k,c,e,z⟩
    ·refine .inl ⟨k,?_⟩
     have:y≠x:=fun e=>hj (su hN J (e ▸ hi))
     simp [this,e]
    ·exact .inr ⟨k,c,e,z.sameBut hs (cne y c e)⟩
  ·obtain⟨w',z⟩:=I.cell y c e
   exact⟨w',z.sameBut hs (cne y c e)⟩
  ·obtain⟨e,n,ne,nf,d⟩:=I.pin p hp
   exact⟨(hs.2 p.1 ne).trans e,n,ne,nf,d⟩
 ·have ae:X.fn x=true:=by
   rcases hf with z | z
   ·exact z
   ·rw [z] at hk;cases hk
  obtain⟨c,hc⟩:=I.ok.has x (.inl hk)
  obtain⟨w',z⟩:=I.cell x c hc
  refine wpAny_storeName_cell I.ok.kind hk hc z (fun h' ag hs=>?_)
  obtain⟨oc,ah,ak⟩:=id z
  refine h {s with heap:=h'} ⟨I.ok,I.os,I.bare,⟨fun b o e n hb hx=>?_,fun b o e n hb hx=>?_,I.base.free,fun b o e hx=>?_,I.base.tups,I.base.frzs,I.base.tbls⟩,⟨m,hn.sameBut hs (Ne.symm (cne x c hc)),fun j y v' J e2 e3=>?_⟩,fun y c' e=>?_,I.free,I.freeC,fun p hp=>?_,tracked ⟨oc,ah,I.freeC x c hc⟩ hs,by simpa using I.len⟩ ⟨c,hs,.inr hc⟩
  ·exact(hs.2 b (Nat.ne_of_lt (Nat.lt_of_lt_of_le (Heap.lt_size e) (I.ok.cab x c ae hc)))).trans (I.base.keep b o e n hb hx)
  ·obtain⟨sl,J⟩:=I.base.slot b o e n hb hx
   exact⟨sl,(hs.2 b (Nat.ne_of_lt (Nat.lt_of_lt_of_le (Heap.lt_size e) (I.ok.cab x c ae hc)))).trans J⟩
  ·obtain⟨o',J⟩:=I.base.there b o e hx
   exact⟨o',(hs.2 b (Nat.ne_of_lt (Nat.lt_of_lt_of_le (Heap.lt_size e) (I.ok.cab x c ae hc)))).trans J⟩
  ·by_cases hj:j=i
   ·subst hj
    rw [hi] at J;cases J
    rw [List.getElem?_set_self aa] at e2
    cases e2
    exact⟨u,r,.inr ⟨.inl hk,c,hc,ag⟩⟩
   ·rw [List.getElem?_set_ne (Ne.symm hj)] at e2
    obtain⟨u',r',q⟩:=hl j y v' J e2 e3
    refine⟨u',r',?_⟩
    rcases q with q | ⟨k,c',e,z'⟩
    ·exact .inl q
    ·refine .inr ⟨k,c',e,z'.sameBut hs ?_⟩
     rintro rfl
     exact hj (su hN J (I.ok.inj _ _ _ e hc ▸ hi))
  ·by_cases ao:c'=c
   ·subst ao;exact⟨_,ag⟩
   ·obtain⟨w2,z2⟩:=I.cell y c' e
    exact⟨w2,z2.sameBut hs ao⟩
  ·obtain⟨e,n,ne,nf,d⟩:=I.pin p hp
   refine⟨(hs.2 p.1 ?_).trans e,n,ne,nf,d⟩
   intro q
   rw [q,ah] at e
   have q':oc=p.2:=Option.some.inj e
   exact d w' (by rw [<-q'];exact ak)
theorem mZ{M:Model}{A:Around}{E:Value->Shared->Prop}{i:Nat}{x:Str}{v:V}{u:Value}{Q:Unit->Shared->Prop}(I:Inv X pins σ H s)(hN:X.N.Nodup)(hi:X.N[i]? =some x)(hx:Loc X.env.scope x)(r:RelV v u)
  (h:∀ s',Inv X pins (σ.set i (some v)) H s'->Q () s')(hf:X.fn x=true\/X.env.scope.names.lookup x=some .local:=by first | exact .inl rfl | exact .inr rfl | assumption):wpAny M A (storeName X.env x u) Q E s:=
 yV I hN hi hx r (fun s' J _=>h s' J) hf
theorem Inv.call' {s':Shared}{ch:List Addr}(I:Inv X pins σ H s)(ho:s'.os=s.os)(u:Un (da X.stack) ch H H' s.heap s'.heap)(hok:dJ X.prog X.w H' s'.heap)(hg:AllBare s'.gens)
  (hch:∀ b∈ch,(b∈X.ex\/X.s₀.heap.objs.size<=b)/\b≠X.env.locals/\(∀ x c,X.env.cells.lookup x=some c->c≠b)/\∀ p∈X.pn++pins,p.1≠b):Inv X pins σ H' s':=by
 obtain⟨h',g',d',t',o'⟩:=s'
 have e:o'=s.os:=ho
 subst e
 exact I.call (g':=g') (t':=t') (d':=d') u hok hg hch
end
noncomputable abbrev XK:=Value->Option Addr->Hp->Prop
noncomputable abbrev St:=List (Option V)
noncomputable abbrev VK:=V->Hp->Prop
noncomputable abbrev TE:=St->Hp->VK->Prop
noncomputable abbrev TT:=St->Hp->(Bool->Hp->Prop)->Prop
noncomputable abbrev TA:=St->Hp->(List V->Hp->Prop)->Prop
structure Ends where
 nx : St -> Hp -> Prop
 rt : VK
 bk : St -> Hp -> Prop := fun _ _ => False
 ct : St -> Hp -> Prop := fun _ _ => False
noncomputable abbrev TS:=Ends->St->Hp->Prop
noncomputable def EP(X:Cx)(pins:List (Addr×Obj))(σ:St)(Q:VK)(u:Value)(s':Shared):Prop:=∃ v H',Inv X pins σ H' s'/\RelV v u/\Q v H'
noncomputable def TP(X:Cx)(pins:List (Addr×Obj))(σ:St)(Q:Bool->Hp->Prop)(b:Bool)(s':Shared):Prop:=∃ H',Inv X pins σ H' s'/\Q b H'
noncomputable def AP(X:Cx)(pins:List (Addr×Obj))(σ:St)(Q:List V->Hp->Prop)(us:List Value)(s':Shared):Prop:=∃ vs H',Inv X pins σ H' s'/\Vals vs us/\Q vs H'
noncomputable def SP(X:Cx)(pins:List (Addr×Obj))(D:Ends)(f:Flow)(s':Shared):Prop:=
 match f with
 | .next=>∃ J H',Inv X pins J H' s'/\D.nx J H'
 | .brk=>∃ J H',Inv X pins J H' s'/\D.bk J H'
 | .cont=>∃ J H',Inv X pins J H' s'/\D.ct J H'
 | .ret u=>∃ v J H',Inv X pins J H' s'/\RelV v u/\D.rt v H'
noncomputable def PE(X:Cx)(e:Expr)(t:TE):Prop:=
 ∀(pins:List (Addr×Obj)) (s:Shared) (σ:St) (H:Hp) (Q:VK),Inv X pins σ H s->t σ H Q->wpAny (model X.prog X.w) X.A (eval e X.env) (EP X pins σ Q) X.xe s
noncomputable def PT(X:Cx)(e:Expr)(t:TT):Prop:=
 ∀(pins:List (Addr×Obj)) (s:Shared) (σ:St) (H:Hp) (Q:Bool->Hp->Prop),Inv X pins σ H s->t σ H Q->wpAny (model X.prog X.w) X.A (isTrue e X.env (eval e X.env)) (TP X pins σ Q) X.xe s
noncomputable def PW(X:Cx)(e:Expr)(t:TT):Prop:=
 ∀(whole:Sem Value) (pins:List (Addr×Obj)) (s:Shared) (σ:St) (H:Hp) (Q:Bool->Hp->Prop),Inv X pins σ H s->t σ H Q->wpAny (model X.prog X.w) X.A (isTrue e X.env whole) (TP X pins σ Q) X.xe s
theorem PW.pt {X:Cx}{e:Expr}{t:TT}(h:PW X e t):PT X e t:=h _
noncomputable def PA(X:Cx)(es:List Expr)(t:TA):Prop:=
 ∀(pos:Pos) (pins:List (Addr×Obj)) (s:Shared) (σ:St) (H:Hp) (Q:List V->Hp->Prop),Inv X pins σ H s->t σ H Q->wpAny (model X.prog X.w) X.A (spliced (backTo pos (starEach es X.env))) (AP X pins σ Q) X.xe s
noncomputable def PS(X:Cx)(st:Stmt)(t:TS):Prop:=
 ∀(pins:List (Addr×Obj)) (s:Shared) (σ:St) (H:Hp) (D:Ends),Inv X pins σ H s->t D σ H->wpAny (model X.prog X.w) X.A (exec st X.env) (SP X pins D) X.xe s
noncomputable def cV(X:Cx)(st:List Stmt)(t:TS):Prop:=
 ∀(pins:List (Addr×Obj)) (s:Shared) (σ:St) (H:Hp) (D:Ends),Inv X pins σ H s->t D σ H->wpAny (model X.prog X.w) X.A (execs st X.env) (SP X pins D) X.xe s
theorem cF{α:Type}{t:Sem α}{Q Q':α->Shared->Prop}{M:Model}{A:Around}{E:Value->Shared->Prop}{s:Shared}(h:wpAny M A t Q E s)(hQ:∀ a s,Q a s->Q' a s):wpAny M A t Q' E s:=wpAny_mono h hQ fun _ _ x=>x
section
variable {X : Cx}
noncomputable def mL(i:Nat):TE:=fun σ H Q=>∃ v,σ[i]? =some (some v)/\Q v H
noncomputable def tC(v:V):TE:=fun _ H Q=>Q v H
theorem wV{i:Nat}{x:Str}{pos:Pos}(hN:X.N[i]? =some x)(hv:oX X.env.scope x)(hd:(x == ("__debug__":Str))=false:=by decide)(hcd:(x == ("__classdict__":Str))=false:=by decide):PE X (.Name x pos) (mL i):=by
 intro pins s σ H Q I h
 obtain⟨v,e,h⟩:=h
 obtain⟨m,hn,hl⟩:=I.loc
 obtain⟨u,r,l⟩:=hl i x v hN e hv
 have fin:EP X pins σ Q u s:=⟨v,H,I,r,h⟩
 rcases l with ⟨hk,hm⟩ | ⟨hk,c,U,J⟩
 ·exact wpAny_Name (wpAny_loadName_local I.ok.kind hk hn hm fin) hd
 ·rcases hk with hk | hk
  ·exact wpAny_Name (wpAny_loadName_cell I.ok.kind hk U J fin) hd
  ·exact wpAny_Name (wpAny_loadName_free I.ok.kind hk U J fin hcd) hd
theorem cj{i j pos}:PE X (.Constant (.int i) j pos) (tC (.int i)):=fun _ _ _ H _ I h=>wpAny_Constant_int ⟨.int i,H,I.tok _,⟨_,rfl⟩,h⟩
theorem ju{b j pos}:PE X (.Constant (.bool b) j pos) (tC (.bl b)):=fun _ _ _ H _ I h=>Constant_bool ⟨.bl b,H,I,rfl,h⟩
theorem dw{x j pos}:PE X (.Constant (.str x) j pos) (tC (.str x)):=fun _ _ _ H _ I h=>Calls.Constant_str ⟨.str x,H,I.tok _,⟨_,rfl⟩,h⟩
noncomputable def Gl(X:Cx)(x:Str):Prop:=X.env.kindOf x=some .globalImplicit
theorem lR{E:Value->Shared->Prop}{pins:List (Addr×Obj)}{s:Shared}{σ:St}{H:Hp}{x:Str}{u:Value}{pos:Pos}{Q:Value->Shared->Prop}(I:Inv X pins σ H s)(hg:Gl X x)(hm:X.mg x=some u)(h:Q u s)
  (hd:(x == ("__debug__":Str))=false:=by decide):wpAny (model X.prog X.w) X.A (eval (.Name x pos) X.env) Q E s:=
 Calls.Name_function_global I.ok.kind hg (Calls.loadGlobal_global (by rw [I.ok.glob];exact I.mod.glob.keeps I.bk) hm h) hd
theorem iM{E:Value->Shared->Prop}{pins:List (Addr×Obj)}{s:Shared}{σ:St}{H:Hp}{x:Str}{u:Value}{pos:Pos}{Q:Value->Shared->Prop}(I:Inv X pins σ H s)(hg:Gl X x)(hm:X.mg x=none)(hv:bootBuiltins x=some u)(h:Q u s)
  (hn:x≠"__name__":=by decide)(hd:(x == ("__debug__":Str))=false:=by decide):wpAny (model X.prog X.w) X.A (eval (.Name x pos) X.env) Q E s:=by
 obtain⟨J,h1,h2⟩:=I.mod.blt
 exact Calls.Name_function_global I.ok.kind hg (Calls.loadGlobal_builtin (by rw [I.ok.glob];exact I.mod.glob.keeps I.bk) hm (by rw [I.ok.blt];exact h1.keeps I.bk) ((h2 x hn).trans hv) h) hd
theorem iF{x:Str}{v:V}{u:Value}{pos:Pos}(hg:Gl X x)(hm:X.mg x=some u)(r:RelV v u)(hd:(x == ("__debug__":Str))=false:=by decide):PE X (.Name x pos) (tC v):=
 fun _ _ _ H _ I h=>lR I hg hm ⟨v,H,I,r,h⟩ hd
theorem h7{x:Str}{v:V}{u:Value}{pos:Pos}(hg:Gl X x)(hm:X.mg x=none)(hv:bootBuiltins x=some u)(r:RelV v u)(hn:x≠"__name__":=by decide)(hd:(x == ("__debug__":Str))=false:=by decide):PE X (.Name x pos) (tC v):=
 fun _ _ _ H _ I h=>iM I hg hm hv ⟨v,H,I,r,h⟩ hn hd
variable {a b : Expr} {ta tb : TE} {pos : Pos}
noncomputable def tB(t:TE):TT:=fun σ H Q=>t σ H fun x H1=>∃ c,x= .bl c/\Q c H1
theorem fT{e:Expr}{t:TE}(h:PE X e t)(he:∀ whole,isTrue e X.env whole=(do let v<-whole;standAt e.pos;holding [v] (truthy v)):=by intro _;rfl):PT X e (tB t):=by
 intro pins s σ H Q I hw
 refine isTrue_plain (cF (h pins s σ H _ I hw) fun v s1 ⟨x,H1,J,U,q1⟩=>?_) (he _)
 obtain⟨d,rfl,q⟩:=q1
 cases U
 exact wpAny_truthy_bool ⟨H1,J,q⟩
variable {tA tB' : TT} {rest : List Expr}
noncomputable def wM(t u:TT):TT:=fun σ H Q=>t σ H fun c H1=>if c=true then u σ H1 Q else Q false H1
noncomputable def wb(t u:TT):TT:=fun σ H Q=>t σ H fun c H1=>if c=true then Q true H1 else u σ H1 Q
noncomputable def BZ(t:TT):TT:=fun σ H Q=>t σ H fun c H1=>Q (!c) H1
theorem k9(ha:PT X a tA):PW X (.BoolOp .And [a] pos) tA:=by
 intro J pins s σ H Q I h
 refine isTrue_and (cF (ha pins s σ H Q I h) fun c s1 e=>?_)
 cases c with
 | true=>exact isTrue_and_nil e
 | false=>exact e
theorem h9(ha:PT X a tA):PW X (.BoolOp .Or [a] pos) tA:=by
 intro J pins s σ H Q I h
 refine isTrue_or (cF (ha pins s σ H Q I h) fun c s1 e=>?_)
 cases c with
 | false=>exact isTrue_or_nil e
 | true=>exact e
theorem kY(ha:PT X a tA)(hb:PW X (.BoolOp .And (b::rest) pos) tB'):PW X (.BoolOp .And (a::b::rest) pos) (wM tA tB'):=by
 intro U pins s σ H Q I h
 refine isTrue_and (cF (ha pins s σ H _ I h) fun c s1 ⟨H1,J,q1⟩=>?_)
 cases c with
 | true=>exact hb U pins s1 σ H1 Q J q1
 | false=>exact⟨H1,J,q1⟩
theorem fX(ha:PT X a tA)(hb:PW X (.BoolOp .Or (b::rest) pos) tB'):PW X (.BoolOp .Or (a::b::rest) pos) (wb tA tB'):=by
 intro U pins s σ H Q I h
 refine isTrue_or (cF (ha pins s σ H _ I h) fun c s1 ⟨H1,J,q1⟩=>?_)
 cases c with
 | true=>exact⟨H1,J,q1⟩
 | false=>exact hb U pins s1 σ H1 Q J q1
theorem gs(ha:PT X a tA):PT X (.UnaryOp .Not a pos) (BZ tA):=by
 intro pins s σ H Q I h
 exact isTrue_not (ha pins s σ H (fun c H1=>Q (!c) H1) I h)
noncomputable def vM(ta tb:TE):TE:=fun σ H Q=>ta σ H fun x H1=>∃ c,x= .bl c/\if c=true then tb σ H1 Q else Q (.bl false) H1
noncomputable def zv(ta tb:TE):TE:=fun σ H Q=>ta σ H fun x H1=>∃ c,x= .bl c/\if c=true then Q (.bl true) H1 else tb σ H1 Q
noncomputable def zB(ta:TE):TE:=fun σ H Q=>ta σ H fun x H1=>∃ c,x= .bl c/\Q (.bl (!c)) H1
theorem jD{op}{t:TE}(h:PE X a t):PE X (.BoolOp op [a] pos) t:=fun pins s σ H Q I hw=>BoolOp_one (h pins s σ H Q I hw)
theorem ni(ha:PE X a ta)(hb:PE X (.BoolOp .And (b::rest) pos) tb):PE X (.BoolOp .And (a::b::rest) pos) (vM ta tb):=by
 intro pins s σ H Q I h
 refine BoolOp_and (cF (ha pins s σ H _ I h) fun v s1 ⟨x,H1,J,U,q1⟩=>?_)
 obtain⟨c,rfl,q1⟩:=q1
 cases U
 refine wpAny_truthy_bool ?_
 cases c with
 | true=>exact hb pins s1 σ H1 Q J q1
 | false=>exact⟨.bl false,H1,J,rfl,q1⟩
theorem qL(ha:PE X a ta)(hb:PE X (.BoolOp .Or (b::rest) pos) tb):PE X (.BoolOp .Or (a::b::rest) pos) (zv ta tb):=by
 intro pins s σ H Q I h
 refine BoolOp_or (cF (ha pins s σ H _ I h) fun v s1 ⟨x,H1,J,U,q1⟩=>?_)
 obtain⟨c,rfl,q1⟩:=q1
 cases U
 refine wpAny_truthy_bool ?_
 cases c with
 | false=>exact hb pins s1 σ H1 Q J q1
 | true=>exact⟨.bl true,H1,J,rfl,q1⟩
theorem pT(ha:PE X a ta):PE X (.UnaryOp .Not a pos) (zB ta):=by
 intro pins s σ H Q I h
 refine UnaryOp_ (cF (ha pins s σ H _ I h) fun v s1 ⟨x,H1,J,U,q1⟩=>?_)
 obtain⟨c,rfl,q1⟩:=q1
 cases U
 exact not_of (wpAny_truthy_bool ⟨.bl (!c),H1,J,rfl,q1⟩)
noncomputable def wu(t:TT)(ta tb:TE):TE:=fun σ H Q=>t σ H fun c H1=>if c=true then ta σ H1 Q else tb σ H1 Q
theorem qj{c:Expr}(hc:PT X c tA)(ha:PE X a ta)(hb:PE X b tb):PE X (.IfExp c a b pos) (wu tA ta tb):=by
 intro pins s σ H Q I h
 refine wpAny_IfExp (cF (hc pins s σ H _ I h) fun d s1 ⟨H1,J,q1⟩=>?_)
 cases d with
 | true=>exact ha pins s1 σ H1 Q J q1
 | false=>exact hb pins s1 σ H1 Q J q1
end
noncomputable def cm(K:W.Frag)(H:Hp)(a:Addr)(xs:List V):Prop:=
 Rd H a (.lst xs)\/
  ∃(o:Obj) (J:Array Value) (n:Nat),K.lookup a=some o/\o.cls= .type "list"/\o.dict=none/\o.data= .seq J n/\J.size<=sizeLine/\Vals xs J.toList
noncomputable def cq(K:W.Frag)(H:Hp)(a:Addr)(xs:List V):Prop:=
 Rd H a (.tup xs)\/
  ∃(o:Obj) (J:Array Value) (n:Nat),K.lookup a=some o/\o.cls= .type "tuple"/\o.data= .seq J n/\J.size<=sizeLine/\Vals xs J.toList
noncomputable def vW:Value->Option V
 | .none=>some .non
 | .bool b=>some (.bl b)
 | .int i _=>some (.int i)
 | .str x _=>some (.str x)
 | .bytes b _=>some (.byt b)
 | .float b _=>some (.flt b)
 | .ref a=>some (.ref a)
 | .type n=>some (.ty n)
 | _=>none
theorem RelV.abs {x:V}{u:Value}(r:RelV x u):vW u=some x:=by
 cases x with
 | non=>cases r;rfl
 | bl _=>cases r;rfl
 | int _=>obtain⟨t,rfl⟩:=r;rfl
 | str _=>obtain⟨t,rfl⟩:=r;rfl
 | byt _=>obtain⟨t,rfl⟩:=r;rfl
 | flt _=>obtain⟨t,rfl⟩:=r;rfl
 | ref _=>cases r;rfl
 | ty _=>cases r;rfl
theorem RelV.inj {x y:V}{u:Value}(r:RelV x u)(q:RelV y u):x=y:=Option.some.inj (r.abs.symm.trans q.abs)
theorem Vals.inj:∀{xs ys:List V} {us:List Value},Vals xs us->Vals ys us->xs=ys
 | _,_,_,.nil,.nil=>rfl
 | _,_,_,.cons r t,.cons J t'=>by rw [r.inj J,Vals.inj t t']
section
variable {X : Cx} {pins : List (Addr × Obj)} {σ : St} {H : Hp} {s : Shared} {a : Addr} {xs ys : List V}
theorem cm.of {K:W.Frag}(h:H a=some (.lst xs)):cm K H a xs:= .inl (.inl h)
theorem cq.of {K:W.Frag}(h:H a=some (.tup xs)):cq K H a xs:= .inl (.inl h)
theorem Inv.list (I:Inv X pins σ H s)(h:cm X.K H a xs):∃ its:List Value,Vals xs its/\PlainL s.heap a its.toArray/\xs.length<=sizeLine:=by
 rcases h with h | ⟨o,its,n,hk,J,hd,hs,hz,r⟩
 ·obtain⟨z,its,n,r,e⟩:=h.ok I.hok
  exact⟨its,r,⟨_,n,e,rfl,rfl,rfl⟩,z⟩
 ·refine⟨its.toList,r,⟨o,n,I.kIn a o hk,J,hd,by simpa using hs⟩,?_⟩
  have e:=r.length
  simp only [Array.length_toList] at e
  omega
theorem Inv.tuple (I:Inv X pins σ H s)(h:cq X.K H a xs):∃ its:List Value,Vals xs its/\IsTup s.heap a its.toArray/\xs.length<=sizeLine:=by
 rcases h with h | ⟨o,its,n,hk,J,hs,hz,r⟩
 ·obtain⟨z,its,r,p⟩:=h.ok I.hok
  exact⟨its,r,p,z⟩
 ·refine⟨its.toList,r,⟨o,I.kIn a o hk,J,n,by simpa using hs⟩,?_⟩
  have e:=r.length
  simp only [Array.length_toList] at e
  omega
theorem Inv.list_inj (I:Inv X pins σ H s)(h:cm X.K H a xs)(h':cm X.K H a ys):xs=ys:=by
 obtain⟨J,r,⟨o,n,e,_,_,d⟩,_⟩:=I.list h
 obtain⟨its',r',⟨o',n',U,_,_,d'⟩,_⟩:=I.list h'
 rw [e] at U;cases U
 rw [d] at d'
 injection d' with d1 _
 have:J=its':=by simpa using congrArg Array.toList d1
 subst this
 exact r.inj r'
theorem Inv.tuple_inj (I:Inv X pins σ H s)(h:cq X.K H a xs)(h':cq X.K H a ys):xs=ys:=by
 obtain⟨J,r,⟨o,e,_,n,d⟩,_⟩:=I.tuple h
 obtain⟨its',r',⟨o',U,_,n',d'⟩,_⟩:=I.tuple h'
 rw [e] at U;cases U
 rw [d] at d'
 injection d' with d1 _
 have:J=its':=by simpa using congrArg Array.toList d1
 subst this
 exact r.inj r'
end
noncomputable abbrev Cx.wish (X:Cx)(E:Value->Shared->Prop):Cx:={X with xe:=E}
noncomputable abbrev Cx.nox (X:Cx):Cx:=X.wish fun _ _=>False
theorem Cx.Ok.wish {X:Cx}(ok:X.Ok)(E:Value->Shared->Prop):(X.wish E).Ok:=
 ⟨ok.mod,ok.kind,ok.glob,ok.blt,ok.above,ok.inj,ok.has,ok.cab,ok.hd,ok.frames,ok.stk,ok.exf,ok.bs,ok.bsz,ok.noex,ok.exfs,ok.funs,ok.frf⟩
theorem Cx.Ok.unwish {X:Cx}{E:Value->Shared->Prop}(ok:(X.wish E).Ok):X.Ok:=
 ⟨ok.mod,ok.kind,ok.glob,ok.blt,ok.above,ok.inj,ok.has,ok.cab,ok.hd,ok.frames,ok.stk,ok.exf,ok.bs,ok.bsz,ok.noex,ok.exfs,ok.funs,ok.frf⟩
section
variable {X : Cx} {pins : List (Addr × Obj)} {σ : St} {H : Hp} {s : Shared} {E : Value -> Shared -> Prop}
theorem Inv.wish (I:Inv X pins σ H s)(E:Value->Shared->Prop):Inv (X.wish E) pins σ H s:=⟨I.ok.wish E,I.os,I.bare,I.base,I.loc,I.cell,I.free,I.freeC,I.pin,I.hok,I.len⟩
theorem Inv.unwish (I:Inv (X.wish E) pins σ H s):Inv X pins σ H s:=⟨I.ok.unwish,I.os,I.bare,I.base,I.loc,I.cell,I.free,I.freeC,I.pin,I.hok,I.len⟩
theorem SP.unwish {D:Ends}{f:Flow}{s':Shared}(h:SP (X.wish E) pins D f s'):SP X pins D f s':=by
 cases f with
 | next=>obtain⟨J,H',I,q⟩:=h;exact⟨J,H',I.unwish,q⟩
 | brk=>obtain⟨J,H',I,q⟩:=h;exact⟨J,H',I.unwish,q⟩
 | cont=>obtain⟨J,H',I,q⟩:=h;exact⟨J,H',I.unwish,q⟩
 | ret u=>obtain⟨v,J,H',I,r,q⟩:=h;exact⟨v,J,H',I.unwish,r,q⟩
theorem cV.nox {st:List Stmt}{t:TS}(h:cV X.nox st t):cV X st t:=fun pins s σ H D I hw=>
 wpAny_mono (h pins s σ H D (I.wish _) hw) (fun _ _ q=>q.unwish) fun _ _ z=>False.elim z
end
section
variable {X : Cx} {st : Stmt} {rest : List Stmt} {t u : TS} {e : Expr} {te : TE} {pos : Pos}
noncomputable def zC:TS:=fun D σ H=>D.nx σ H
noncomputable def z7(t u:TS):TS:=fun D σ H=>t {D with nx:=u D} σ H
theorem dz:cV X [] zC:=fun _ _ σ H _ I h=>wpAny_execs_nil ⟨σ,H,I,h⟩
theorem cD(h1:PS X st t)(h2:cV X rest u):cV X (st::rest) (z7 t u):=by
 intro pins s σ H D I h
 refine wpAny_execs_cons (cF (h1 pins s σ H {D with nx:=u D} I h) fun f s1 q=>?_)
 cases f with
 | next=>
  obtain⟨J,H',U,q⟩:=q
  exact h2 pins s1 J H' D U q
 | ret v=>exact q
 | brk=>exact q
 | cont=>exact q
theorem cz(h1:PS X st t):cV X [st] t:=by
 intro pins s σ H D I h
 refine wpAny_execs_cons (cF (h1 pins s σ H D I h) fun f s1 q=>?_)
 cases f with
 | next=>exact wpAny_execs_nil q
 | ret v=>exact q
 | brk=>exact q
 | cont=>exact q
theorem Inv.quiet {pins:List (Addr×Obj)}{σ:St}{H:Hp}{s:Shared}(I:Inv X pins σ H s):interactive X.env=false:=by simp [interactive,I.ok.kind]
noncomputable def zj(te:TE):TS:=fun D σ H=>te σ H fun _ H1=>D.nx σ H1
theorem g9(he:PE X e te)(hs:swapsWith e none pos.line X.env=pure false:=by rfl):PS X (.Expr e pos) (zj te):=by
 intro pins s σ H D I h
 exact wpAny_Expr_any (cF (he pins s σ H _ I h) fun v s1 ⟨x,H1,J,U,q1⟩=>⟨σ,H1,J,q1⟩) I.quiet hs
noncomputable def BP(te:TE):TS:=fun D σ H=>te σ H D.rt
theorem cI(he:PE X e te):PS X (.Return (some e) pos) (BP te):=by
 intro pins s σ H D I h
 exact wpAny_Return_some (cF (he pins s σ H _ I h) fun v s1 ⟨x,H1,J,U,q1⟩=>⟨x,σ,H1,J,U,q1⟩)
noncomputable def zF(c:TT)(t u:TS):TS:=fun D σ H=>c σ H fun b H1=>if b=true then t D σ H1 else u D σ H1
theorem dC{c:Expr}{a b:List Stmt}{tc:TT}(hc:PT X c tc)(ha:cV X a t)(hb:cV X b u):PS X (.If c a b pos) (zF tc t u):=by
 intro pins s σ H D I h
 refine wpAny_If (cF (hc pins s σ H _ I h) fun d s1 ⟨H1,J,q1⟩=>?_)
 cases d with
 | true=>exact ha pins s1 σ H1 D J q1
 | false=>exact hb pins s1 σ H1 D J q1
end
noncomputable abbrev TG:=V->St->Hp->(St->Hp->Prop)->Prop
noncomputable abbrev iG:=List V->St->Hp->(St->Hp->Prop)->Prop
noncomputable def PG(X:Cx)(target:Expr)(t:TG):Prop:=
 ∀(pins:List (Addr×Obj)) (s:Shared) (σ:St) (H:Hp) (v:V) (u:Value) (Q:St->Hp->Prop),Inv X pins σ H s->RelV v u->t v σ H Q->
  wpAny (model X.prog X.w) X.A (assign target X.env u) (fun _ s'=>∃ J H',Inv X pins J H' s'/\Q J H') X.xe s
noncomputable def dj(X:Cx)(ts:List Expr)(t:iG):Prop:=
 ∀(pins:List (Addr×Obj)) (s:Shared) (σ:St) (H:Hp) (vs:List V) (us:List Value) (Q:St->Hp->Prop),Inv X pins σ H s->Vals vs us->t vs σ H Q->
  wpAny (model X.prog X.w) X.A (assignInOrder ((assignEach ts X.env).map (·.2)) us) (fun _ s'=>∃ J H',Inv X pins J H' s'/\Q J H') X.xe s
noncomputable abbrev fc:=V->V->V->Hp->(Hp->Prop)->Prop
noncomputable def sU(X:Cx)(t:fc):Prop:=
 ∀(pins:List (Addr×Obj)) (s:Shared) (σ:St) (H:Hp) (o i v:V) (J U u:Value) (Q:Hp->Prop),Inv X pins σ H s->RelV o J->RelV i U->RelV v u->t o i v H Q->
  wpAny (model X.prog X.w) X.A (setItem J U u) (fun _ s'=>∃ H',Inv X pins σ H' s'/\Q H') X.xe s
section
variable {X : Cx} {pos : Pos}
noncomputable def jC(i:Nat):TG:=fun v σ H Q=>Q (σ.set i (some v)) H
theorem dU{i:Nat}{x:Str}(hN:X.N.Nodup)(hi:X.N[i]? =some x)(hx:Loc X.env.scope x)(hf:X.fn x=true\/X.env.scope.names.lookup x=some .local:=by first | exact .inl rfl | exact .inr rfl | assumption):PG X (.Name x pos) (jC i):=by
 intro pins s σ H v u Q I r h
 exact wpAny_assign_Name (mZ I hN hi hx r (fun s' J=>⟨_,H,J,h⟩) hf)
noncomputable def vp:iG:=fun vs σ H Q=>vs=[]/\Q σ H
noncomputable def sF(t:TG)(u:iG):iG:=fun vs σ H Q=>∃ v r,vs=v::r/\t v σ H fun J H'=>u r J H' Q
theorem kj:dj X [] vp:=by
 intro pins s σ H vs us Q I r h
 obtain⟨e,h⟩:=h
 subst e
 cases r
 exact assignInOrder_nil ⟨σ,H,I,h⟩
theorem gF{e:Expr}{es:List Expr}{t:TG}{u:iG}(h1:PG X e t)(h2:dj X es u)
  (hs:(assignEach (e::es) X.env).map (·.2)=assign e X.env::(assignEach es X.env).map (·.2):=by rfl):dj X (e::es) (sF t u):=by
 intro pins s σ H vs us Q I r h
 obtain⟨v,vr,U,h⟩:=h
 subst U
 cases r with
 | cons r rr=>
  rw [hs]
  refine assignInOrder_cons (cF (h1 pins s σ H _ _ _ I r h) fun _ s1 ⟨J,H1,I1,q1⟩=>?_)
  exact h2 pins s1 J H1 _ _ Q I1 rr q1
noncomputable def uc(K:W.Frag)(n:Nat)(t:iG):TG:=fun v σ H Q=>∃ a xs,v= .ref a/\cq K H a xs/\xs.length=n/\t xs σ H Q
theorem kT{es:List Expr}{k:Nat}{t:iG}{n:Nat}(hc:X.calm=true)(h:dj X es t)
  (hn:(assignEach es X.env).length=n:=by rfl)(hst:(assignEach es X.env).findIdx? (·.1)=none:=by rfl):PG X (.Tuple es k pos) (uc X.K n t):=by
 intro pins s σ H v u Q I r hw
 obtain⟨a,xs,U,hq,hl,hw⟩:=hw
 subst U
 cases r
 obtain⟨aa,J,ht,hz⟩:=I.tuple hq
 refine assign_Tuple_tuple (I.ok.hd hc) ht (by simp [hn,<-hl,J.length]) hst fun h' hx=>?_
 have I1:Inv X pins σ H {s with heap:=h'}:=I.kept (t':=s.toks) fun b o e=>hx b o (Nat.ne_of_lt (Heap.lt_size e)) e
 exact h pins _ σ H xs _ Q I1 (by simpa using J) hw
noncomputable def yU(to ti:TE)(t:fc):TG:=fun v σ H Q=>to σ H fun o H1=>ti σ H1 fun i H2=>t o i v H2 fun J=>Q σ J
theorem xG{o i:Expr}{to ti:TE}{t:fc}(ho:PE X o to)(hi:PE X i ti)(hs:sU X t)
  (ha:∀ v,assign (.Subscript o i pos) X.env v=(do
   let ov<-holding [v] (eval o X.env)
   let iv<-holding [v,ov] (eval i X.env)
   standAt pos
   holding [v,ov,iv] (setItem ov iv v)
   release [v,ov,iv] []):=by intro _;rfl):PG X (.Subscript o i pos) (yU to ti t):=by
 intro pins s σ H v u Q I r h
 rw [ha]
 refine wpAny_bind (wpAny_holding (cF (ho pins s σ H _ I h) fun ov s1 ⟨x,H1,J,U,q1⟩=>?_))
 refine wpAny_bind (wpAny_holding (cF (hi pins s1 σ H1 _ J q1) fun iv s2 ⟨y,H2,I2,r2,q2⟩=>?_))
 refine wpAny_bind (wpAny_standAt (wpAny_bind (wpAny_holding (cF (hs pins s2 σ H2 x y v ov iv u _ I2 U r2 r q2) fun _ s3 ⟨H3,I3,q3⟩=>?_))))
 exact wpAny_release ⟨σ,H3,I3,q3⟩
noncomputable def uw(te:TE)(g:TG):TS:=fun D σ H=>te σ H fun x H1=>g x σ H1 D.nx
theorem zp{tg e:Expr}{te:TE}{g:TG}(he:PE X e te)(hg:PG X tg g)(hs:swapsWithSole [tg] e pos.line X.env=pure false:=by rfl)(hw:swappedStores [tg] e X.env=pure none:=by rfl)
  (h1:(assignEach [tg] X.env).map (·.2)=[assign tg X.env]:=by rfl):PS X (.Assign [tg] e pos) (uw te g):=by
 intro pins s σ H D I h
 refine wpAny_Assign_stores (cF (he pins s σ H _ I h) fun v s1 ⟨x,H1,J,U,q1⟩=>?_) hs hw
 rw [h1]
 exact cF (hg pins s1 σ H1 x v _ J U q1) fun _ s2 q=>q
theorem dB{i:Nat}{x:Str}{e:Expr}{te:TE}{pos':Pos}(hN:X.N.Nodup)(hi:X.N[i]? =some x)(hx:Loc X.env.scope x)(he:PE X e te)(hs:swapsWith e (some (.Name x pos')) pos.line X.env=pure false:=by rfl)(hf:X.fn x=true\/X.env.scope.names.lookup x=some .local:=by first | exact .inl rfl | exact .inr rfl | assumption):
  PS X (.Assign [.Name x pos'] e pos) (uw te (jC i)):=by
 intro pins s σ H D I h
 refine wpAny_Assign_Name (cF (he pins s σ H _ I h) fun v s1 ⟨y,H1,J,U,q1⟩=>?_) hs
 exact mZ J hN hi hx U (fun s2 I2=>⟨_,H1,I2,q1⟩) hf
noncomputable def A3(i j:Nat)(ta:TA):TS:=fun D σ H=>ta σ H fun vs H1=>∃ v w,vs=[v,w]/\D.nx ((σ.set i (some v)).set j (some w)) H1
theorem A8{i j:Nat}{x y:Str}{a b:Expr}{ta:TA}{px py pt:Pos}{kt k2 pt2}(hc:X.calm=true)(hN:X.N.Nodup)(hi:X.N[i]? =some x)(hj:X.N[j]? =some y)(hij:i≠j)
  (hx:X.env.scope.names.lookup x=some .local)(hy:X.env.scope.names.lookup y=some .local)(ha:PA X [a,b] ta)
  (hw:swappedStores [.Tuple [.Name x px,.Name y py] kt pt] (.Tuple [a,b] k2 pt2) X.env=pure (some [x,y]))
  (hs:swapsWithSole [.Tuple [.Name x px,.Name y py] kt pt] (.Tuple [a,b] k2 pt2) pos.line X.env=pure false:=by rfl):
  PS X (.Assign [.Tuple [.Name x px,.Name y py] kt pt] (.Tuple [a,b] k2 pt2) pos) (A3 i j ta):=by
 intro pins s σ H D I h
 rw [exec_Assign_arm]
 refine wpAny_bind (wpAny_standAt ?_)
 rw [hs]
 refine wpAny_bind (wpAny_pure ?_)
 rw [if_neg (by decide)]
 refine wpAny_bind (Tuple_ (cF (ha _ pins s σ H _ I h) fun us s1 ⟨vs,H1,I1,r1,q1⟩=>?_))
 obtain⟨v,w,e1,q1⟩:=q1
 subst e1
 obtain⟨J,U,rfl,rv,aa⟩:∃ J U,us=[J,U]/\RelV v J/\RelV w U:=by
  cases r1 with
  | cons p q=>
   cases q with
   | cons p' q'=>
    cases q'
    exact⟨_,_,rfl,p,p'⟩
 refine wpAny_newObj_type ?_ (by show 2<=sizeLine;decide)
 have I2:Inv X pins σ H1 {s1 with heap:=s1.heap.push {cls:= .type "tuple",data:= .seq [J,U].toArray}}:=I1.kept (t':=s1.toks) fun b o e=>Heap.get?_push_of_some _ e
 rw [hw]
 refine wpAny_bind (wpAny_pure ?_)
 show wpAny (model X.prog X.w) X.A (do rule "assign.swapped-stores";let items<-unpackItems (.ref s1.heap.objs.size) 2 none;assignInOrder [fun v=>bindName X.env y v,fun v=>bindName X.env x v] items.reverse;pure Flow.next) _ _ _
 refine wpAny_bind (wpAny_rule (wpAny_bind (unpackItems_tuple (items:=#[J,U]) (I.ok.hd hc) (IsTup.new s1.heap _) fun h' ae=>?_)))
 have I3:=I2.kept (h':=h') (t':=s1.toks) fun b o e=>ae b o (Nat.ne_of_lt (Heap.lt_size e)) e
 show wpAny _ _ (assignInOrder [fun v=>bindName X.env y v,fun v=>bindName X.env x v] [U,J] >>= fun _=>pure Flow.next) _ _ _
 refine wpAny_bind (assignInOrder_cons (wpAny_bindName (mZ I3 hN hj (.inl hy) aa (fun s2 I4=>?_) (.inr hy))))
 refine assignInOrder_cons (wpAny_bindName (mZ I4 hN hi (.inl hx) rv (fun s3 I5=>assignInOrder_nil (wpAny_pure ?_)) (.inr hx)))
 rw [List.set_comm _ _ (Ne.symm hij)] at I5
 exact⟨_,H1,I5,q1⟩
end
structure It where
 go : Nat -> Hp -> Prop
 yld : Nat -> Hp -> V -> Hp -> Prop
 stop : Nat -> Hp -> Prop
noncomputable def gv(X:Cx)(pins:List (Addr×Obj))(H:Hp)(b:Addr):Prop:=
 H b=none/\b≠X.env.locals/\b∉X.fs/\(b∈X.ex\/X.s₀.heap.objs.size<=b)/\(∀ x c,X.env.cells.lookup x=some c->c≠b)/\∀ p∈X.pn++pins,p.1≠b
theorem Inv.fpOk {X:Cx}{pins:List (Addr×Obj)}{σ:St}{H H':Hp}{s:Shared}{b:Addr}(I:Inv X pins σ H s)(hb:s.heap.objs.size<=b)(hn:H' b=none):gv X pins H' b:=by
 refine⟨hn,Nat.ne_of_gt (Nat.lt_of_lt_of_le I.lt hb),I.nofs hb,.inr (Nat.le_trans I.sz hb),fun x c e z=>?_,fun p J z=>?_⟩
 ·obtain⟨v,q⟩:=I.cell x c e
  exact absurd (Nat.lt_of_lt_of_le q.lt (by rw [z];exact hb)) (Nat.lt_irrefl _)
 ·exact absurd (Nat.lt_of_lt_of_le (Heap.lt_size (I.pin p J).1) (by rw [z];exact hb)) (Nat.lt_irrefl _)
structure Turn (P : Program) (w : World) (K : W.Frag) (tg : Expr) (J : It) (fp : List Addr) (it : Addr) (tn : Nat -> Heap -> Prop) : Prop where
 mem : it ∈ fp
 obj : ∀ i h, tn i h -> ∀ b ∈ fp, ∃ o, h.get? b = some o /\ ∀ v, o.data ≠ .cell v
 keep : ∀ i h h', tn i h -> (∀ b ∈ fp, ∀ o, h.get? b = some o -> h'.get? b = some o) -> tn i h'
 item : ∀ (X : Cx), X.prog = P -> X.w = w -> X.K = K -> X.calm = true -> ∀ (i : Nat) (pins : List (Addr × Obj)) (s : Shared) (σ : St) (H : Hp) (E : Value -> Shared -> Prop), Inv X pins σ H s -> (∀ b ∈ fp, gv X pins H b) -> tn i s.heap -> J.go i H ->
  wpAny (model P w) X.A (pyNext (.ref it)) (fun r s1 => ∃ u, r = some u /\
   wpAny (model P w) X.A (letOwnedTupleGo tg (.ref it) u) (fun _ s2 => ∃ x H', Inv X pins σ H' s2 /\ RelV x u /\ J.yld i H x H' /\ tn (i + 1) s2.heap /\ ∀ b ∈ fp, H' b = none) E s1) E s
 done : ∀ (X : Cx), X.prog = P -> X.w = w -> X.K = K -> X.calm = true -> ∀ (i : Nat) (pins : List (Addr × Obj)) (s : Shared) (σ : St) (H : Hp) (E : Value -> Shared -> Prop), Inv X pins σ H s -> (∀ b ∈ fp, gv X pins H b) -> tn i s.heap -> J.stop i H ->
  wpAny (model P w) X.A (pyNext (.ref it)) (fun r s1 => r = none /\ Inv X pins σ H s1) E s
 self : ∀ (A : Around) (i : Nat) (s : Shared) (Q : Value -> Shared -> Prop) (E : Value -> Shared -> Prop), tn i s.heap -> Q (.ref it) s -> wpAny (model P w) A (pyIter (.ref it)) Q E s
noncomputable abbrev TI:=St->Hp->(It->Hp->Prop)->Prop
noncomputable def tF(X:Cx)(pins:List (Addr×Obj))(σ:St)(tg:Expr)(R:It->Hp->Prop)(itv:Value)(s2:Shared):Prop:=
 ∃(it:Addr) (fp:List Addr) (U:Nat->Heap->Prop) (J:It) (H':Hp),itv= .ref it/\Inv X pins σ H' s2/\Turn X.prog X.w X.K tg J fp it U/\U 0 s2.heap/\(∀ b∈fp,gv X pins H' b)/\R J H'
noncomputable def PI(X:Cx)(tg iter:Expr)(wi:TI):Prop:=
 ∀(pins:List (Addr×Obj)) (s:Shared) (σ:St) (H:Hp) (R:It->Hp->Prop),Inv X pins σ H s->wi σ H R->
  wpAny (model X.prog X.w) X.A (eval iter X.env) (fun v s1=>wpAny (model X.prog X.w) X.A (pyIter v) (tF X pins σ tg R) X.xe s1) X.xe s
theorem nz {M : Model} {A : Around} {E : Value -> Shared -> Prop} {s : Shared} {tg : Expr} {it : Addr} {u : Value} {o : Obj} {n : String} {vs : Array Value} {Q : Unit -> Shared -> Prop} (ho : s.heap.get? it = some o) (hc : o.cls = .type n) (hd : o.data = .fields vs)
  (hn : ["enumerate", "zip", "dict_itemiterator", "dict_reverseitemiterator", "odict_iterator", "itertools.zip_longest", "itertools.pairwise"].contains n = false) (hQ : Q () s) : wpAny M A (letOwnedTupleGo tg (.ref it) u) Q E s := by
 unfold letOwnedTupleGo
 cases tg <;> first
  | exact wpAny_pure hQ
  | (cases u <;> first
    | exact wpAny_pure hQ
    | (refine wpAny_bind (wpAny_load ho ?_)
       rw [hc, hd]
       show wpAny M A (if (["enumerate", "zip", "dict_itemiterator", "dict_reverseitemiterator", "odict_iterator", "itertools.zip_longest", "itertools.pairwise"].contains n && vs[0]? == some (rawInt _)) = true then _ else _) Q E s
       rw [if_neg (by intro h; rw [hn, Bool.false_and] at h; cases h)]
       exact wpAny_pure hQ))
noncomputable def kE(K:W.Frag)(a:Addr):It:=
 ⟨fun i H=>∃ xs x,cm K H a xs/\xs[i]? =some x,fun i H x H'=>H'=H/\∀ xs,cm K H a xs->xs[i]? =some x,fun i H=>∃ xs,cm K H a xs/\xs.length<=i⟩
noncomputable def kO(K:W.Frag)(a:Addr):It:=
 ⟨fun i H=>∃ xs x,cq K H a xs/\xs[i]? =some x,fun i H x H'=>H'=H/\∀ xs,cq K H a xs->xs[i]? =some x,fun i H=>∃ xs,cq K H a xs/\xs.length<=i⟩
noncomputable def jb(lo:Int)(n:Nat):It:=⟨fun i _=>i < n,fun i H x H'=>H'=H/\x= .int (lo + i),fun i _=>n<=i⟩
theorem zZ{P:Program}{w:World}{K:W.Frag}{tg:Expr}(a it:Addr):Turn P w K tg (kE K a) [it] it (fun i h=>h.IsListIter it a i) where
 mem:=by simp
 obj:=fun i h st b hb=>by
  have e:b=it:=by simpa using hb
  subst e
  obtain⟨o,e,c,d⟩:=st
  exact⟨o,e,fun v z=>by rw [d] at z;cases z⟩
 keep:=fun i h h' st k=>st.at fun o e=>k it (by simp) o e
 item:=by
  intro X hP hw hK hc i pins s σ H E I hf st hg
  subst hP hw hK
  obtain⟨xs,x,U,hx⟩:=hg
  obtain⟨aa,rv,p,hz⟩:=I.list U
  obtain⟨u,hu,ru⟩:=rv.get hx
  obtain⟨f0,f1,f2,f3,f4,f5⟩:=hf it (by simp)
  refine wpAny_pyNext_list_item st p.isList (x:=u) (by simpa using hu) fun h' J sb=>?_
  have I1:Inv X pins σ H {s with heap:=h'}:=I.turned (t':=s.toks) (fun b o hb e=>(sb.2 b hb).trans e) f0 f1 f3 f4 f5
  obtain⟨o,e,c,d⟩:=id J
  exact⟨u,rfl,nz (s:={s with heap:=h'}) e c d (by decide) ⟨x,H,I1,ru,⟨rfl,fun ys hy=>by rw [I.list_inj hy U];exact hx⟩,J,fun b hb=>(hf b hb).1⟩⟩
 done:=by
  intro X hP hw hK hc i pins s σ H E I hf st hg
  subst hP hw hK
  obtain⟨xs,U,hx⟩:=hg
  obtain⟨aa,rv,p,hz⟩:=I.list U
  obtain⟨f0,f1,f2,f3,f4,f5⟩:=hf it (by simp)
  have hl:=rv.length
  exact wpAny_pyNext_list_end (I.ok.hd hc) st p.isList (by simp;(clear f3 f1 hz;omega)) fun h' eb=>⟨rfl,I.turned (t':=s.toks) (fun b o hb e=>eb b o hb e) f0 f1 f3 f4 f5⟩
 self:=fun _ _ _ _ _ st h=>wpAny_pyIter_listiter st h
theorem xU{P:Program}{w:World}{K:W.Frag}{tg:Expr}(a it:Addr):Turn P w K tg (kO K a) [it] it (fun i h=>h.IsTupleIter it a i) where
 mem:=by simp
 obj:=fun i h st b hb=>by
  have e:b=it:=by simpa using hb
  subst e
  obtain⟨o,e,c,d⟩:=st
  exact⟨o,e,fun v z=>by rw [d] at z;cases z⟩
 keep:=fun i h h' st k=>st.at fun o e=>k it (by simp) o e
 item:=by
  intro X hP hw hK hc i pins s σ H E I hf st hg
  subst hP hw hK
  obtain⟨xs,x,hq,hx⟩:=hg
  obtain⟨J,rv,p,hz⟩:=I.tuple hq
  obtain⟨u,hu,ru⟩:=rv.get hx
  obtain⟨f0,f1,f2,f3,f4,f5⟩:=hf it (by simp)
  refine wpAny_pyNext_tuple_item st (show s.heap.IsTuple a J.toArray from p) (x:=u) (by simpa using hu) fun h' U sb=>?_
  have I1:Inv X pins σ H {s with heap:=h'}:=I.turned (t':=s.toks) (fun b o hb e=>(sb.2 b hb).trans e) f0 f1 f3 f4 f5
  obtain⟨o,e,c,d⟩:=id U
  exact⟨u,rfl,nz (s:={s with heap:=h'}) e c d (by decide) ⟨x,H,I1,ru,⟨rfl,fun ys hy=>by rw [I.tuple_inj hy hq];exact hx⟩,U,fun b hb=>(hf b hb).1⟩⟩
 done:=by
  intro X hP hw hK hc i pins s σ H E I hf st hg
  subst hP hw hK
  obtain⟨xs,hq,hx⟩:=hg
  obtain⟨J,rv,p,hz⟩:=I.tuple hq
  obtain⟨f0,f1,f2,f3,f4,f5⟩:=hf it (by simp)
  have hl:=rv.length
  exact wpAny_pyNext_tuple_end (I.ok.hd hc) st (show s.heap.IsTuple a J.toArray from p) (by simp;(clear f3 f1 hz;omega)) fun h' eb=>⟨rfl,I.turned (t':=s.toks) (fun b o hb e=>eb b o hb e) f0 f1 f3 f4 f5⟩
 self:=fun _ _ _ _ _ st h=>wpAny_pyIter_tupleiter st h
theorem wy{P:Program}{w:World}{K:PySem.W.Frag}{tg:Expr}(it:Addr)(lo:Int)(n:Nat):Turn P w K tg (jb lo n) [it] it (fun i h=>IsRangeIter h it (lo + (i:Nat) * 1) ((n:Int) - (i:Nat)) 1) where
 mem:=by simp
 obj:=fun i h st b hb=>by
  have e:b=it:=by simpa using hb
  subst e
  exact⟨_,st,fun v z=>by
   have z':Data.fields _=Data.cell v:=z
   cases z'⟩
 keep:=fun i h h' st k=>k it (by simp) _ st
 item:=by
  intro X U hw hK hc i pins s σ H E I hf st hg
  subst U hw hK
  obtain⟨f0,f1,f2,f3,f4,f5⟩:=hf it (by simp)
  have W:=Walks.range (prog:=X.prog) (w:=X.w) (I.ok.hd hc) it lo 1 n
  refine W.item i s _ _ hg st fun v h' tk hv J kk=>?_
  obtain⟨t,rfl⟩:=hv
  have I1:Inv X pins σ H {s with heap:=h',toks:=tk}:=I.turned (fun b o hb e=>kk b o (by simpa using hb) e) f0 f1 f3 f4 f5
  refine⟨_,rfl,nz (s:={s with heap:=h',toks:=tk}) (n:="range_iterator") J rfl rfl (by decide) ⟨.int (lo + i),H,I1,⟨t,?_⟩,⟨rfl,rfl⟩,J,fun b hb=>(hf b hb).1⟩⟩
  rw [Int.mul_one]
 done:=by
  intro X U hw hK hc i pins s σ H E I hf st hg
  subst U hw hK
  obtain⟨f0,f1,f2,f3,f4,f5⟩:=hf it (by simp)
  exact wpAny_pyNext_range_end (I.ok.hd hc) st (by have:n<=i:=hg;(clear f3 f1;omega)) fun h' eb=>⟨rfl,I.turned (t':=s.toks) (fun b o hb e=>eb b o hb e) f0 f1 f3 f4 f5⟩
 self:=fun _ _ _ _ _ st h=>wpAny_pyIter_rangeiter st h
section
variable {X : Cx} {tg : Expr}
noncomputable def AE(K:W.Frag)(tl:TE):TI:=fun σ H R=>tl σ H fun x H1=>∃ a,x= .ref a/\(∃ xs,cm K H1 a xs)/\R (kE K a) H1
noncomputable def AK(K:W.Frag)(tl:TE):TI:=fun σ H R=>tl σ H fun x H1=>∃ a,x= .ref a/\(∃ xs,cq K H1 a xs)/\R (kO K a) H1
theorem jh{l:Expr}{tl:TE}(hl:PE X l tl):PI X tg l (AE X.K tl):=by
 intro pins s σ H R I h
 refine cF (hl pins s σ H _ I h) fun v s1 ⟨x,H1,J,U,q1⟩=>?_
 obtain⟨a,e,⟨xs,hq⟩,q⟩:=q1
 subst e
 cases U
 obtain⟨aa,rv,p,hz⟩:=J.list hq
 refine wpAny_pyIter_list p.isList ?_
 refine⟨s1.heap.objs.size,[s1.heap.objs.size],_,_,H1,rfl,J.kept (t':=s1.toks) fun b o e=>Heap.get?_push_of_some _ e,zZ a _,⟨_,Heap.get?_push_size _ rfl,rfl,rfl⟩,fun b hb=>?_,q⟩
 have e:b=s1.heap.objs.size:=by simpa using hb
 subst e
 exact J.fpOk (Nat.le_refl _) (J.hok.fresh (Nat.le_refl _))
theorem p0{l:Expr}{tl:TE}(hl:PE X l tl):PI X tg l (AK X.K tl):=by
 intro pins s σ H R I h
 refine cF (hl pins s σ H _ I h) fun v s1 ⟨x,H1,J,r1,q1⟩=>?_
 obtain⟨a,e,⟨xs,hq⟩,q⟩:=q1
 subst e
 cases r1
 obtain⟨U,rv,p,hz⟩:=J.tuple hq
 refine wpAny_pyIter_tuple (show s1.heap.IsTuple a U.toArray from p) ?_
 refine⟨s1.heap.objs.size,[s1.heap.objs.size],_,_,H1,rfl,J.kept (t':=s1.toks) fun b o e=>Heap.get?_push_of_some _ e,xU a _,⟨_,Heap.get?_push_size _ rfl,rfl,rfl⟩,fun b hb=>?_,q⟩
 have e:b=s1.heap.objs.size:=by simpa using hb
 subst e
 exact J.fpOk (Nat.le_refl _) (J.hok.fresh (Nat.le_refl _))
theorem vG{pins:List (Addr×Obj)}{σ:St}{H:Hp}{s:Shared}{R:It->Hp->Prop}{E:Value->Shared->Prop}{lo hi:Int}{t u v:Tok}{tk:Nat}(I:Inv X pins σ H s)(h1: -(2 ^ 62)<=lo)(h2:lo < 2 ^ 62)(h3: -(2 ^ 62)<=hi)(h4:hi < 2 ^ 62)
  (q:R (jb lo (hi - lo).toNat) H):wpAny (model X.prog X.w) X.A (pyIter (.ref s.heap.objs.size)) (tF X pins σ tg R) E {s with heap:=s.heap.push {cls:= .type "range",data:= .fields #[.int lo t,.int hi u,.int 1 v]},toks:=tk}:=by
 refine wpAny_pyIter_range (IsRange.new ..) (small_one h1 h2 h3 h4) ?_
 have J:Inv X pins σ H {s with heap:=s.heap.push {cls:= .type "range",data:= .fields #[.int lo t,.int hi u,.int 1 v]},toks:=tk}:=I.kept fun b o e=>Heap.get?_push_of_some _ e
 refine⟨(s.heap.push {cls:= .type "range",data:= .fields #[.int lo t,.int hi u,.int 1 v]}).objs.size,[(s.heap.push {cls:= .type "range",data:= .fields #[.int lo t,.int hi u,.int 1 v]}).objs.size],_,_,H,rfl,
  J.kept (t':=tk) fun b o e=>Heap.get?_push_of_some _ e,wy _ lo (hi - lo).toNat,?_,fun b hb=>?_,q⟩
 ·have U:lo + ((0:Nat):Int) * 1=lo:=by simp
  have e2:(((hi - lo).toNat:Nat):Int) - ((0:Nat):Int)=Builtin.Range.rangeSize lo hi 1:=by rw [rangeSize_one];split<;>(clear U h4 h3 h2 h1;omega)
  show IsRangeIter _ _ (lo + ((0:Nat):Int) * 1) ((((hi - lo).toNat:Nat):Int) - ((0:Nat):Int)) 1
  rw [U,e2]
  exact Heap.get?_push_size _ rfl
 ·have e:b=(s.heap.push {cls:= .type "range",data:= .fields #[.int lo t,.int hi u,.int 1 v]}).objs.size:=by simpa using hb
  subst e
  exact J.fpOk (Nat.le_refl _) (J.hok.fresh (Nat.le_refl _))
noncomputable def vO(ta:TA):TI:=fun σ H R=>ta σ H fun vs H1=>∃ j:Int,vs=[.int j]/\ -(2 ^ 62)<=j/\j < 2 ^ 62/\R (jb 0 j.toNat) H1
noncomputable def Ao(ta:TA):TI:=fun σ H R=>ta σ H fun vs H1=>∃ i j:Int,vs=[.int i,.int j]/\(-(2 ^ 62)<=i/\i < 2 ^ 62/\ -(2 ^ 62)<=j/\j < 2 ^ 62)/\R (jb i (j - i).toNat) H1
theorem iP{a:Expr}{ta:TA}{p pos:Pos}(hg:Gl X "range")(hm:X.mg "range"=none)(ha:PA X [a] ta)(hs:starEach [a] X.env=[(false,eval a X.env)]:=by rfl):PI X tg (.Call (.Name "range" p) [a] [] pos) (vO ta):=by
 intro pins s σ H R I h
 refine Call_ (iM I hg hm boot_range (PyProof.Rows.callWith_type1 (cF (ha pos pins s σ H _ I h) fun us s1 ⟨vs,H1,J,U,q1⟩=>?_) hs rfl))
 obtain⟨j,e,q1,q2,q⟩:=q1
 subst e
 cases U with
 | cons r rr=>
  cases rr
  obtain⟨t,rfl⟩:=r
  exact call_range_1 (vG J (by(clear q2 q1;omega)) (by omega) q1 q2 (by simpa using q))
theorem yh{a b:Expr}{ta:TA}{p pos:Pos}(hg:Gl X "range")(hm:X.mg "range"=none)(ha:PA X [a,b] ta)(hs:starEach [a,b] X.env=[(false,eval a X.env),(false,eval b X.env)]:=by rfl)(hs2:starEach [b] X.env=[(false,eval b X.env)]:=by rfl):
  PI X tg (.Call (.Name "range" p) [a,b] [] pos) (Ao ta):=by
 intro pins s σ H R I h
 refine Call_ (iM I hg hm boot_range (PyProof.Rows.callWith_type1 (cF (ha pos pins s σ H _ I h) fun us s1 ⟨vs,H1,U,r1,q1⟩=>?_) (by rw [hs,hs2]) (by rw [hs2];rfl)))
 obtain⟨i,j,e,⟨q1,q2,q3,q4⟩,q⟩:=q1
 subst e
 cases r1 with
 | cons r J=>
  cases J with
  | cons r' J=>
   cases J
   obtain⟨t,rfl⟩:=r
   obtain⟨t',rfl⟩:=r'
   exact call_range_2 (vG U q1 q2 q3 q4 q)
noncomputable def wA(wi:TI)(g:TG)(tb:TS):TS:=fun D σ H=>wi σ H fun J H1=>∃ W:Nat->Nat->St->Hp->Prop,(∃ m,W 0 m σ H1)/\∀ i m σ H,W i m σ H->
 (J.stop i H/\D.nx σ H)\/(J.go i H/\∃ N:St->Hp->Prop,(∀ U H',N U H'->∃ m',m' < m/\W (i + 1) m' U H')/\∀ x H',J.yld i H x H'->g x σ H' fun aa H2=>tb {D with nx:=N,ct:=N,bk:=D.nx} aa H2)
noncomputable def kh(fp:List Addr)(h:Heap):List (Addr×Obj):=fp.filterMap fun b=>(h.get? b).map fun o=>(b,o)
theorem kR{fp:List Addr}{h:Heap}{b:Addr}{o:Obj}(hb:b∈fp)(e:h.get? b=some o):(b,o)∈kh fp h:=List.mem_filterMap.mpr ⟨b,hb,by rw [e];rfl⟩
theorem xj{fp:List Addr}{h:Heap}{p:Addr×Obj}(hp:p∈kh fp h):p.1∈fp/\h.get? p.1=some p.2:=by
 obtain⟨b,hb,e⟩:=List.mem_filterMap.mp hp
 cases q:h.get? b with
 | none=>rw [q] at e;cases e
 | some o=>
  rw [q] at e
  have J:(b,o)=p:=Option.some.inj e
  subst J
  exact⟨hb,q⟩
theorem Inv.pinned {pins:List (Addr×Obj)}{σ:St}{H:Hp}{s:Shared}{fp:List Addr}(I:Inv X pins σ H s)(hf:∀ b∈fp,gv X pins H b)(ho:∀ b∈fp,∃ o,s.heap.get? b=some o/\∀ v,o.data≠ .cell v):Inv X (pins++kh fp s.heap) σ H s:=
 I.pins_of fun p U=>(List.mem_append.mp U).elim (fun z=>I.pin p (List.mem_append_right _ z)) fun z=>by
  obtain⟨hb,e⟩:=xj z
  obtain⟨f0,f1,f2,_⟩:=hf p.1 hb
  obtain⟨o,J,d⟩:=ho p.1 hb
  rw [e] at J;cases J
  exact⟨e,f0,f1,f2,d⟩
theorem Inv.unpinned {pins pl:List (Addr×Obj)}{σ:St}{H:Hp}{s:Shared}(I:Inv X (pins++pl) σ H s):Inv X pins σ H s:=I.pins_of fun p J=>I.pin p (List.mem_append_right _ (List.mem_append_left _ J))
theorem gN{iter:Expr}{body:List Stmt}{wi:TI}{g:TG}{tb:TS}{pos:Pos}(hp:PassesOwn (model X.prog X.w) X.A X.env X.xe)(hc:X.calm=true)(hi:PI X tg iter wi)(hg:PG X tg g)(hb:cV X body tb)
  (hs:∀ x,foldedSetIterable iter X.env x=pure x:=by intro _;rfl):PS X (.For tg iter body [] pos) (wA wi g tb):=by
 intro pins s σ H D I h
 refine wpAny_For (cF (hi pins s σ H _ I h) fun v s1 h1=>cF h1 fun av s2 h2=>?_) hs
 obtain⟨it,fp,tn,J,H2,e,I2,T,ao,f2,W,⟨m0,w0⟩,turn⟩:=h2
 subst e
 have aa:∀{H':Hp},(∀ b∈fp,H' b=none)->∀ b∈fp,gv X pins H' b:=fun hn b hb=>⟨hn b hb,(f2 b hb).2⟩
 refine codeAny_forLoop_any (fun n s'=>∃ i ae H',Inv X pins ae H' s'/\tn i s'.heap/\(∀ b∈fp,H' b=none)/\W i n ae H') ?_ m0 ⟨0,σ,H2,I2,ao,fun b hb=>(f2 b hb).1,w0⟩
 rintro n s3 ⟨i,af,H3,I3,ah,ak,w3⟩
 rcases turn i n af H3 w3 with ⟨stop,qn⟩ | ⟨go,N,hN,step⟩
 ·refine wpAny_passesOwn hp (cF (T.done X rfl rfl rfl hc i pins s3 af H3 X.xe I3 (aa ak) ah stop) fun r s4 ⟨hr,I4⟩=>?_)
  subst hr
  exact wpAny_execs_nil ⟨af,H3,I4,qn⟩
 ·refine wpAny_passesOwn hp (cF (T.item X rfl rfl rfl hc i pins s3 af H3 X.xe I3 (aa ak) ah go) fun r s4 ⟨u,hr,h4⟩=>?_)
  subst hr
  refine wpAny_passesOwn hp (cF h4 fun _ s5 ⟨x,H5,I5,r5,y5,ag,aq⟩=>?_)
  have ar:=I5.pinned (aa aq) (T.obj _ _ ag)
  refine wpAny_passesOwn hp (cF (hg _ s5 af H5 x u _ ar r5 (step x H5 y5)) fun _ s6 ⟨au,H6,I6,q6⟩=>?_)
  refine wpAny_passesOwn hp (cF (hb _ s6 au H6 _ I6 q6) fun f s7 q7=>?_)
  have again:∀{U:St} {H7:Hp},Inv X (pins++kh fp s5.heap) U H7 s7->N U H7->∃ m,m < n/\∃ i ae H',Inv X pins ae H' s7/\tn i s7.heap/\(∀ b∈fp,H' b=none)/\W i m ae H':=fun{U H7} I7 n7=>by
   obtain⟨m',hm,w7⟩:=hN U H7 n7
   refine⟨m',hm,i + 1,U,H7,I7.unpinned,T.keep _ _ _ ag fun b hb o e=>(I7.pin (b,o) (List.mem_append_right _ (List.mem_append_right _ (kR hb e)))).1,fun b hb=>?_,w7⟩
   obtain⟨o,e,d⟩:=T.obj _ _ ag b hb
   exact(I7.pin (b,o) (List.mem_append_right _ (List.mem_append_right _ (kR hb e)))).2.1
  cases f with
  | next=>obtain⟨U,H7,I7,n7⟩:=q7;exact again I7 n7
  | cont=>obtain⟨U,H7,I7,n7⟩:=q7;exact again I7 n7
  | brk=>obtain⟨U,H7,I7,q7⟩:=q7;exact⟨U,H7,I7.unpinned,q7⟩
  | ret v=>obtain⟨x7,U,H7,I7,r7,q7⟩:=q7;exact⟨x7,U,H7,I7.unpinned,r7,q7⟩
end
theorem lZ{K:PySem.W.Frag}{a:Addr}{xs:List V}{g:TG}{tb:TS}{D:Ends}{σ:St}{H:Hp}(Pv:Nat->St->Hp->Prop)(h0:Pv 0 σ H)(hl:∀ i σ H,i<=xs.length->Pv i σ H->cm K H a xs)
  (hs:∀ i x σ H,xs[i]? =some x->Pv i σ H->g x σ H fun σ2 H2=>tb {D with nx:=Pv (i + 1),ct:=Pv (i + 1),bk:=D.nx} σ2 H2)(hd:∀ σ H,Pv xs.length σ H->D.nx σ H):
  ∃ W:Nat->Nat->St->Hp->Prop,(∃ m,W 0 m σ H)/\∀ i m σ H,W i m σ H->
   ((kE K a).stop i H/\D.nx σ H)\/((kE K a).go i H/\∃ N:St->Hp->Prop,(∀ σ' H',N σ' H'->∃ m',m' < m/\W (i + 1) m' σ' H')/\∀ x H',(kE K a).yld i H x H'->g x σ H' fun σ2 H2=>tb {D with nx:=N,ct:=N,bk:=D.nx} σ2 H2):=by
 refine⟨fun i m σ H=>m=xs.length - i/\i<=xs.length/\Pv i σ H,⟨xs.length,by simp,Nat.zero_le _,h0⟩,?_⟩
 rintro i m σ H ⟨rfl,hi,p⟩
 have q:=hl i σ H hi p
 by_cases J:i < xs.length
 ·refine .inr ⟨⟨xs,xs[i],q,by simp [J]⟩,Pv (i + 1),fun σ' H' U=>⟨xs.length - (i + 1),by(clear hi;omega),rfl,J,U⟩,fun x H' y=>?_⟩
  obtain⟨e,y⟩:=y
  subst e
  exact hs i x σ _ (y xs q) p
 ·have e:i=xs.length:=by omega
  subst e
  exact .inl ⟨⟨xs,q,Nat.le_refl _⟩,hd σ H p⟩
theorem yN{K:PySem.W.Frag}{a:Addr}{xs:List V}{g:TG}{tb:TS}{D:Ends}{σ:St}{H:Hp}(Pv:Nat->St->Hp->Prop)(h0:Pv 0 σ H)(hl:∀ i σ H,i<=xs.length->Pv i σ H->cq K H a xs)
  (hs:∀ i x σ H,xs[i]? =some x->Pv i σ H->g x σ H fun σ2 H2=>tb {D with nx:=Pv (i + 1),ct:=Pv (i + 1),bk:=D.nx} σ2 H2)(hd:∀ σ H,Pv xs.length σ H->D.nx σ H):
  ∃ W:Nat->Nat->St->Hp->Prop,(∃ m,W 0 m σ H)/\∀ i m σ H,W i m σ H->
   ((kO K a).stop i H/\D.nx σ H)\/((kO K a).go i H/\∃ N:St->Hp->Prop,(∀ σ' H',N σ' H'->∃ m',m' < m/\W (i + 1) m' σ' H')/\∀ x H',(kO K a).yld i H x H'->g x σ H' fun σ2 H2=>tb {D with nx:=N,ct:=N,bk:=D.nx} σ2 H2):=by
 refine⟨fun i m σ H=>m=xs.length - i/\i<=xs.length/\Pv i σ H,⟨xs.length,by simp,Nat.zero_le _,h0⟩,?_⟩
 rintro i m σ H ⟨rfl,hi,p⟩
 have q:=hl i σ H hi p
 by_cases J:i < xs.length
 ·refine .inr ⟨⟨xs,xs[i],q,by simp [J]⟩,Pv (i + 1),fun σ' H' U=>⟨xs.length - (i + 1),by(clear hi;omega),rfl,J,U⟩,fun x H' y=>?_⟩
  obtain⟨e,y⟩:=y
  subst e
  exact hs i x σ _ (y xs q) p
 ·have e:i=xs.length:=by omega
  subst e
  exact .inl ⟨⟨xs,q,Nat.le_refl _⟩,hd σ H p⟩
theorem jF{lo:Int}{n:Nat}{g:TG}{tb:TS}{D:Ends}{σ:St}{H:Hp}(Pv:Nat->St->Hp->Prop)(h0:Pv 0 σ H)
  (hs:∀ i σ H,i < n->Pv i σ H->g (.int (lo + i)) σ H fun σ2 H2=>tb {D with nx:=Pv (i + 1),ct:=Pv (i + 1),bk:=D.nx} σ2 H2)(hd:∀ σ H,Pv n σ H->D.nx σ H):
  ∃ W:Nat->Nat->St->Hp->Prop,(∃ m,W 0 m σ H)/\∀ i m σ H,W i m σ H->
   ((jb lo n).stop i H/\D.nx σ H)\/((jb lo n).go i H/\∃ N:St->Hp->Prop,(∀ σ' H',N σ' H'->∃ m',m' < m/\W (i + 1) m' σ' H')/\∀ x H',(jb lo n).yld i H x H'->g x σ H' fun σ2 H2=>tb {D with nx:=N,ct:=N,bk:=D.nx} σ2 H2):=by
 refine⟨fun i m σ H=>m=n - i/\i<=n/\Pv i σ H,⟨n,by simp,Nat.zero_le _,h0⟩,?_⟩
 rintro i m σ H ⟨rfl,hi,p⟩
 by_cases J:i < n
 ·refine .inr ⟨J,Pv (i + 1),fun σ' H' U=>⟨n - (i + 1),by(clear hi;omega),rfl,J,U⟩,fun x H' y=>?_⟩
  obtain⟨e,y⟩:=y
  subst e y
  exact hs i σ _ J p
 ·have e:i=n:=by omega
  subst e
  exact .inl ⟨Nat.le_refl _,hd σ H p⟩
noncomputable abbrev R2:=V->V->Hp->VK->Prop
noncomputable def eI(X:Cx)(f:Value->Value->Sem Value)(r:R2):Prop:=
 ∀(pins:List (Addr×Obj)) (s:Shared) (σ:St) (H:Hp) (x y:V) (v u:Value) (Q:VK),Inv X pins σ H s->RelV x v->RelV y u->r x y H Q->
  wpAny (model X.prog X.w) X.A (f v u) (EP X pins σ Q) X.xe s
noncomputable def gf(X:Cx)(f:Value)(r:List V->Hp->VK->Prop):Prop:=
 ∀(pins:List (Addr×Obj)) (s:Shared) (σ:St) (H:Hp) (xs:List V) (us:List Value) (Q:VK),Inv X pins σ H s->Vals xs us->r xs H Q->
  wpAny (model X.prog X.w) X.A (call f us) (EP X pins σ Q) X.xe s
noncomputable def nH(r:R2)(ta tb:TE):TE:=fun σ H Q=>ta σ H fun x H1=>tb σ H1 fun y H2=>r x y H2 Q
noncomputable def rI(C:Int->Int->Prop)(g:Int->Int->V):R2:=fun x y H Q=>∃ i j,x= .int i/\y= .int j/\C i j/\Q (g i j) H
noncomputable def jR(g:Int->Int->V):R2:=fun x y H Q=>∃ i j,x= .int i/\y= .int j/\Q (g i j) H
section
variable {X : Cx} {a b c : Expr} {ta tb tc : TE} {pos : Pos}
theorem oq(ha:PE X a ta)(hb:PE X b tb){pins:List (Addr×Obj)}{s:Shared}{σ:St}{H:Hp}{R:V->V->Hp->Prop}(I:Inv X pins σ H s)
  (h:ta σ H fun x H1=>tb σ H1 fun y H2=>R x y H2){Q:Value->Shared->Prop}{f:Value->Value->Sem Value}
  (hf:∀ v u s2 x y H2,Inv X pins σ H2 s2->RelV x v->RelV y u->R x y H2->wpAny (model X.prog X.w) X.A (f v u) Q X.xe s2):
  wpAny (model X.prog X.w) X.A (eval a X.env) (fun v s₁=>wpAny (model X.prog X.w) X.A (eval b X.env) (fun u s₂=>wpAny (model X.prog X.w) X.A (f v u) Q X.xe s₂) X.xe s₁) X.xe s:=by
 refine cF (ha pins s σ H _ I h) fun v s1 ⟨x,H1,J,U,q1⟩=>?_
 refine cF (hb pins s1 σ H1 _ J q1) fun u s2 ⟨y,H2,I2,r2,q2⟩=>?_
 exact hf v u s2 x y H2 I2 U r2 q2
theorem cy{op:Operator}{r:R2}(ho:eI X (binaryOp op) r)(ha:PE X a ta)(hb:PE X b tb):PE X (.BinOp a op b pos) (nH r ta tb):=by
 intro pins s σ H Q I h
 exact wpAny_BinOp (oq ha hb I h fun v u s2 x y H2 J U ry q=>ho pins s2 σ H2 x y v u Q J U ry q)
theorem oU{f:Value->Value->Sem Value}{C:Int->Int->Prop}{g:Int->Int->Int}
  (rule:∀(i j:Int) (t u:Tok) (s:Shared) (Q:Value->Shared->Prop) (E:Value->Shared->Prop),C i j->Q (.int (g i j) s.toks) {s with toks:=s.toks + 1}->wpAny (model X.prog X.w) X.A (f (.int i t) (.int j u)) Q E s):
  eI X f (rI C fun i j=> .int (g i j)):=by
 intro pins s σ H x y v u Q I J U h
 obtain⟨i,j,rfl,rfl,hc,q⟩:=h
 obtain⟨t,rfl⟩:=J
 obtain⟨t',rfl⟩:=U
 exact rule i j t t' s _ _ hc ⟨.int (g i j),H,I.tok _,⟨_,rfl⟩,q⟩
theorem uy{f:Value->Value->Sem Value}{g:Int->Int->Int}
  (rule:∀(i j:Int) (t u:Tok) (s:Shared) (Q:Value->Shared->Prop) (E:Value->Shared->Prop),Q (.int (g i j) s.toks) {s with toks:=s.toks + 1}->wpAny (model X.prog X.w) X.A (f (.int i t) (.int j u)) Q E s):
  eI X f (jR fun i j=> .int (g i j)):=by
 intro pins s σ H x y v u Q I J U h
 obtain⟨i,j,rfl,rfl,q⟩:=h
 obtain⟨t,rfl⟩:=J
 obtain⟨t',rfl⟩:=U
 exact rule i j t t' s _ _ ⟨.int (g i j),H,I.tok _,⟨_,rfl⟩,q⟩
theorem oR{f:Value->Value->Sem Value}{g:Int->Int->Bool}
  (rule:∀(i j:Int) (t u:Tok) (s:Shared) (Q:Value->Shared->Prop) (E:Value->Shared->Prop),Q (.bool (g i j)) s->wpAny (model X.prog X.w) X.A (f (.int i t) (.int j u)) Q E s):
  eI X f (jR fun i j=> .bl (g i j)):=by
 intro pins s σ H x y v u Q I J U h
 obtain⟨i,j,rfl,rfl,q⟩:=h
 obtain⟨t,rfl⟩:=J
 obtain⟨t',rfl⟩:=U
 exact rule i j t t' s _ _ ⟨.bl (g i j),H,I,rfl,q⟩
noncomputable def Ay(i j:Int):Prop:=0 < j/\j < 1073741824
noncomputable def qu(i j:Int):Prop:=(-(2 ^ 64) < i/\i < 2 ^ 64)\/(-(2 ^ 64) < j/\j < 2 ^ 64)
theorem qu.ok {i j:Int}(h:qu i j):IntMulOk i j:=by
 rcases h with ⟨h1,h2⟩ | ⟨h1,h2⟩
 ·exact .of_left (intBits_le_64 h1 h2)
 ·exact .of_right (intBits_le_64 h1 h2)
theorem eA:eI X (binaryOp .Add) (jR fun i j=> .int (i + j)):=uy fun _ _ _ _ _ _ _ q=>add_int q
theorem iy:eI X (binaryOp .Sub) (jR fun i j=> .int (i - j)):=uy fun _ _ _ _ _ _ _ q=>sub_int q
theorem j4:eI X (binaryOp .Mult) (rI qu fun i j=> .int (i * j)):=oU fun _ _ _ _ _ _ _ J q=>mul_int q J.ok
theorem eL:eI X (binaryOp .FloorDiv) (rI Ay fun i j=> .int (i / j)):=oU fun i j _ _ _ _ _ J q=>by
 have h1:(0:Int) < j:=J.1
 have h2:j < 1073741824:=J.2
 exact floordiv_int (by(clear h2;omega)) (by rw [Int.fdiv_eq_ediv_of_nonneg i (by omega)];exact q) (.inl (PyProof.noPylong_small (by omega)))
theorem dG:eI X (binaryOp .Mod) (rI (fun _ j=>0 < j) fun i j=> .int (i % j)):=oU fun i j _ _ _ _ _ J q=>by
 have h1:(0:Int) < j:=J
 exact mod_int' (by(clear J;omega)) (by rw [Int.fmod_eq_emod_of_nonneg i (by omega)];exact q)
end
noncomputable def oW:V->V->Bool
 | .non,.non=>true | .non,.int _=>true | .int _,.non=>true | .non,.bl _=>true | .bl _,.non=>true | .non,.str _=>true | .str _,.non=>true
 | .int _,.int _=>true | .bl _,.bl _=>true | .str _,.str _=>true | .byt _,.byt _=>true
 | .int _,.str _=>true | .str _,.int _=>true | .bl _,.str _=>true | .str _,.bl _=>true
 | _,_=>false
noncomputable def Bf:R2:=fun x y H Q=>oW x y=true/\Q (.bl (decide (x=y))) H
noncomputable def wK:R2:=fun x y H Q=>oW x y=true/\Q (.bl (!decide (x=y))) H
theorem rD{i j:Int}:decide (V.int i=V.int j)=(i == j):=by
 rw [Bool.eq_iff_iff]
 simp
theorem tT{i j:Bool}:decide (V.bl i=V.bl j)=(i == j):=by
 rw [Bool.eq_iff_iff]
 simp
theorem rX{i j:Str}:decide (V.str i=V.str j)=(i == j):=by
 rw [Bool.eq_iff_iff]
 simp
theorem vv{i j:Array UInt8}:decide (V.byt i=V.byt j)=(i.toList == j.toList):=by
 rw [Bool.eq_iff_iff]
 cases i
 cases j
 simp
section
variable {X : Cx} {a b c : Expr} {ta tb tc : TE} {pos : Pos}
theorem dS{pins:List (Addr×Obj)}{σ:St}{H:Hp}{s:Shared}{Q:VK}{k k':Bool}(I:Inv X pins σ H s)(q:Q (.bl k) H)(e:k=k'):EP X pins σ Q (.bool k') s:=by
 subst e
 exact⟨.bl k,H,I,rfl,q⟩
theorem dQ:eI X (compareOp .Eq) Bf:=by
 intro pins s σ H x y v u Q I U J h
 obtain⟨hs,q⟩:=h
 cases x with
 | non=>
  cases U
  cases y with
  | non=>cases J;exact PySem.EqNone.eq_none_none (dS I q (by simp))
  | bl j=>cases J;exact PySem.EqNone.eq_none_bool (dS I q (by simp))
  | int j=>obtain⟨t',rfl⟩:=J;exact PySem.EqNone.eq_none_int (dS I q (by simp))
  | str j=>obtain⟨t',rfl⟩:=J;exact PySem.EqNone.eq_none_str (dS I q (by simp))
  | _=>exact absurd (show false=true from hs) Bool.false_ne_true
 | bl i=>
  cases U
  cases y with
  | non=>cases J;exact PySem.EqNone.eq_bool_none (dS I q (by simp))
  | bl j=>cases J;exact eq_bool (dS I q tT)
  | str j=>obtain⟨t',rfl⟩:=J;exact PySem.EqMixed.eq_bool_str (dS I q (by simp))
  | _=>exact absurd (show false=true from hs) Bool.false_ne_true
 | int i=>
  obtain⟨t,rfl⟩:=U
  cases y with
  | non=>cases J;exact PySem.EqNone.eq_int_none (dS I q (by simp))
  | int j=>obtain⟨t',rfl⟩:=J;exact eq_int (dS I q rD)
  | str j=>obtain⟨t',rfl⟩:=J;exact PySem.EqMixed.eq_int_str (dS I q (by simp))
  | _=>exact absurd (show false=true from hs) Bool.false_ne_true
 | str i=>
  obtain⟨t,rfl⟩:=U
  cases y with
  | non=>cases J;exact PySem.EqNone.eq_str_none (dS I q (by simp))
  | bl j=>cases J;exact PySem.EqMixed.eq_str_bool (dS I q (by simp))
  | int j=>obtain⟨t',rfl⟩:=J;exact PySem.EqMixed.eq_str_int (dS I q (by simp))
  | str j=>obtain⟨t',rfl⟩:=J;exact eq_str (dS I q rX)
  | _=>exact absurd (show false=true from hs) Bool.false_ne_true
 | byt i=>
  obtain⟨t,rfl⟩:=U
  cases y with
  | byt j=>obtain⟨t',rfl⟩:=J;exact W.eq_bytes (dS I q vv)
  | _=>exact absurd (show false=true from hs) Bool.false_ne_true
 | _=>cases y<;>exact absurd (show false=true from hs) Bool.false_ne_true
theorem mT:eI X (compareOp .NotEq) wK:=by
 intro pins s σ H x y v u Q I U J h
 obtain⟨hs,q⟩:=h
 cases x with
 | non=>
  cases U
  cases y with
  | non=>cases J;exact PySem.EqNone.ne_none_none (dS I q (by simp))
  | bl j=>cases J;exact PySem.EqNone.ne_none_bool (dS I q (by simp))
  | int j=>obtain⟨t',rfl⟩:=J;exact PySem.EqNone.ne_none_int (dS I q (by simp))
  | str j=>obtain⟨t',rfl⟩:=J;exact PySem.EqNone.ne_none_str (dS I q (by simp))
  | _=>exact absurd (show false=true from hs) Bool.false_ne_true
 | bl i=>
  cases U
  cases y with
  | non=>cases J;exact PySem.EqNone.ne_bool_none (dS I q (by simp))
  | bl j=>cases J;exact ne_bool (dS I q (congrArg not tT))
  | str j=>obtain⟨t',rfl⟩:=J;exact PySem.EqMixed.ne_bool_str (dS I q (by simp))
  | _=>exact absurd (show false=true from hs) Bool.false_ne_true
 | int i=>
  obtain⟨t,rfl⟩:=U
  cases y with
  | non=>cases J;exact PySem.EqNone.ne_int_none (dS I q (by simp))
  | int j=>obtain⟨t',rfl⟩:=J;exact ne_int (dS I q (congrArg not rD))
  | str j=>obtain⟨t',rfl⟩:=J;exact PySem.EqMixed.ne_int_str (dS I q (by simp))
  | _=>exact absurd (show false=true from hs) Bool.false_ne_true
 | str i=>
  obtain⟨t,rfl⟩:=U
  cases y with
  | non=>cases J;exact PySem.EqNone.ne_str_none (dS I q (by simp))
  | bl j=>cases J;exact PySem.EqMixed.ne_str_bool (dS I q (by simp))
  | int j=>obtain⟨t',rfl⟩:=J;exact PySem.EqMixed.ne_str_int (dS I q (by simp))
  | str j=>obtain⟨t',rfl⟩:=J;exact ne_str (dS I q (congrArg not rX))
  | _=>exact absurd (show false=true from hs) Bool.false_ne_true
 | byt i=>
  obtain⟨t,rfl⟩:=U
  cases y with
  | byt j=>obtain⟨t',rfl⟩:=J;exact W.ne_bytes (dS I q (congrArg not vv))
  | _=>exact absurd (show false=true from hs) Bool.false_ne_true
 | _=>cases y<;>exact absurd (show false=true from hs) Bool.false_ne_true
theorem lX:eI X (compareOp .Lt) (jR fun i j=> .bl (decide (i < j))):=oR fun _ _ _ _ _ _ _ q=>lt_int q
theorem vh:eI X (compareOp .LtE) (jR fun i j=> .bl (decide (i<=j))):=oR fun _ _ _ _ _ _ _ q=>le_int q
theorem iN:eI X (compareOp .Gt) (jR fun i j=> .bl (decide (j < i))):=oR fun _ _ _ _ _ _ _ q=>gt_int q
theorem yc:eI X (compareOp .In) (fun x y H Q=>∃ i j,x= .str i/\y= .str j/\Q (.bl (!(Builtin.Str.occurrences j i 0 j.length 1).isEmpty)) H):=by
 intro pins s σ H x y v u Q I J U h
 obtain⟨i,j,rfl,rfl,q⟩:=h
 obtain⟨t,rfl⟩:=J
 obtain⟨t',rfl⟩:=U
 exact in_str (dS I q rfl)
theorem cX(b:Expr){op:CmpOp}(h:op≠ .In:=by decide)(h2:op≠ .NotIn:=by decide):behindInMarks op b=false:=by
 have J:(op == CmpOp.In)=false:=by cases op<;>first | rfl | exact absurd rfl h
 have U:(op == CmpOp.NotIn)=false:=by cases op<;>first | rfl | exact absurd rfl h2
 cases b<;>simp [behindInMarks,J,U]
theorem iJ{op:CmpOp}{r:R2}(ho:eI X (compareOp op) r)(ha:PE X a ta)(hb:PE X b tb)(hm:behindInMarks op b=false):PE X (.Compare a [op] [b] pos) (nH r ta tb):=by
 intro pins s σ H Q I h
 exact wpAny_Compare1 (oq ha hb I h fun v u s2 x y H2 J U ry q=>ho pins s2 σ H2 x y v u Q J U ry q) hm
noncomputable def vc(t:TE):TT:=fun σ H Q=>t σ H fun x H'=>∃ k,x= .bl k/\Q k H'
theorem cZ{op:CmpOp}{r:R2}(ho:eI X (compareOp op) r)(ha:PE X a ta)(hb:PE X b tb)(hm:behindInMarks op b=false):PT X (.Compare a [op] [b] pos) (vc (nH r ta tb)):=by
 intro pins s σ H Q I h
 refine wpAny_isTrue_Compare1 (cF (ha pins s σ H _ I h) fun v s1 ⟨x,H1,J,U,q1⟩=>cF (hb pins s1 σ H1 _ J q1) fun u s2 ⟨y,H2,I2,r2,q2⟩=>
  cF (ho pins s2 σ H2 x y v u _ I2 U r2 q2) fun c s3 ⟨z,H3,I3,r3,k,e,q3⟩=>?_) hm
 subst e
 cases r3
 exact wpAny_truthy_bool ⟨H3,I3,q3⟩
noncomputable def x8(r r':R2)(ta tb tc:TE):TE:=fun σ H Q=>ta σ H fun x H1=>tb σ H1 fun y H2=>r x y H2 fun z J=>∃ k,z= .bl k/\
 (if k=true then tc σ J fun U H4=>r' y U H4 Q else Q (.bl false) J)
theorem Af{op op':CmpOp}{r r':R2}(ho:eI X (compareOp op) r)(ho':eI X (compareOp op') r')(ha:PE X a ta)(hb:PE X b tb)(hc:PE X c tc)
  (hm:lastMarks [op,op'] [b,c]=false:=by with_unfolding_all rfl):PT X (.Compare a [op,op'] [b,c] pos) (vc (x8 r r' ta tb tc)):=by
 intro pins s σ H Q I h
 refine isTrue_chain (cF (ha pins s σ H _ I h) fun v s1 ⟨x,H1,I1,r1,q1⟩=>test_link (cF (hb pins s1 σ H1 _ I1 q1) fun u s2 ⟨y,H2,I2,J,q2⟩=>
  cF (ho pins s2 σ H2 x y v u _ I2 r1 J q2) fun d s3 ⟨z,U,I3,r3,k,e,q3⟩=>?_)) hm
 subst e
 cases r3
 refine wpAny_truthy_bool ?_
 cases k with
 | false=>
  obtain⟨k',e',q'⟩:=q3
  cases e'
  exact ite_ff ⟨U,I3,q'⟩
 | true=>
  refine ite_tt (test_last (cF (hc pins s3 σ U _ I3 q3) fun w' s4 ⟨z',H4,I4,r4,q4⟩=>cF (ho' pins s4 σ H4 y z' u w' _ I4 J r4 q4) fun d' s5 ⟨z2,H5,I5,r5,k2,e2,q5⟩=>?_))
  subst e2
  cases r5
  exact wpAny_truthy_bool ⟨H5,I5,q5⟩
theorem kx:(sizeLine:Nat) < 2 ^ 63:=by rw [sizeLine_eq];decide
theorem uQ:eI X (binaryOp .Add) (fun x y H Q=>∃ i j,x= .str i/\y= .str j/\i.length + j.length<=sizeLine/\Q (.str (i++j)) H):=by
 intro pins s σ H x y v u Q I J U h
 obtain⟨i,j,rfl,rfl,hz,q⟩:=h
 obtain⟨t,rfl⟩:=J
 obtain⟨t',rfl⟩:=U
 exact add_str (fun t' tk=>⟨.str (i++j),H,I.tok _,⟨_,rfl⟩,q⟩) hz
theorem vals1{x:V}{us:List Value}(r:Vals [x] us):∃ u,us=[u]/\RelV x u:=by
 cases r with
 | cons J U=>cases U;exact⟨_,rfl,J⟩
theorem vals2{x y:V}{us:List Value}(r:Vals [x,y] us):∃ u w',us=[u,w']/\RelV x u/\RelV y w':=by
 cases r with
 | cons J U=>
  cases U with
  | cons r3 r4=>cases r4;exact⟨_,_,rfl,J,r3⟩
theorem uI(hc:X.calm=true):gf X (.builtin "max") (fun xs H Q=>∃ i j,xs=[.int i,.int j]/\Q (.int (if j > i then j else i)) H):=by
 intro pins s σ H xs us Q I r h
 obtain⟨i,j,rfl,q⟩:=h
 obtain⟨u,U,rfl,⟨t,rfl⟩,⟨t',rfl⟩⟩:=vals2 r
 refine max_two_ints (I.ok.hd hc) fun h' tk k=>⟨_,H,I.kept k,?_,q⟩
 by_cases J:j > i
 ·rw [if_pos J,if_pos J];exact⟨_,rfl⟩
 ·rw [if_neg J,if_neg J];exact⟨_,rfl⟩
theorem ue(hc:X.calm=true):gf X (.builtin "min") (fun xs H Q=>∃ i j,xs=[.int i,.int j]/\Q (.int (if j < i then j else i)) H):=by
 intro pins s σ H xs us Q I r h
 obtain⟨i,j,rfl,q⟩:=h
 obtain⟨u,U,rfl,⟨t,rfl⟩,⟨t',rfl⟩⟩:=vals2 r
 refine min_two_ints (I.ok.hd hc) fun h' tk k=>⟨_,H,I.kept k,?_,q⟩
 by_cases J:j < i
 ·rw [if_pos J,if_pos J];exact⟨_,rfl⟩
 ·rw [if_neg J,if_neg J];exact⟨_,rfl⟩
theorem zu:gf X (.type "int") (fun xs H Q=>(∃ i,xs=[.int i]/\Q (.int i) H)\/∃ k,xs=[.bl k]/\Q (.int (if k then 1 else 0)) H):=by
 intro pins s σ H xs us Q I r h
 rcases h with ⟨i,rfl,q⟩ | ⟨k,rfl,q⟩
 ·obtain⟨u,rfl,t,rfl⟩:=vals1 r
  exact call_int_int ⟨.int i,H,I,⟨_,rfl⟩,q⟩
 ·obtain⟨u,rfl,J⟩:=vals1 r
  cases J
  exact call_int_bool ⟨.int (if k then 1 else 0),H,I.tok _,⟨_,rfl⟩,q⟩
end
structure jU (h : Heap) (x dx C : Addr) (mA : Str -> Option Value) : Prop where
 obj : h.get? x = some (W.instObj C dx)
 ns : h.Ns1 dx mA
 ne : dx ≠ x
theorem BO{h:Heap}{dx:Addr}{mA:Str->Option Value}(n:h.Ns1 dx mA):∃ od,h.get? dx=some od/\∀ name,W.lookIn name od=some (mA name):=by
 obtain⟨o,es,ep,U,hd,hk,_,hm⟩:=n
 refine⟨o,U,fun name=>?_⟩
 have e:=hm name
 unfold nsFind findBy at e
 rw [<-Array.find?_toList] at e
 unfold W.lookIn
 rw [hd]
 dsimp only
 split
 ·rename_i y q
  rw [q] at e
  exact congrArg some e
 ·rename_i q
  rw [q] at e
  have a:es.toList.any (·.refKey)=false:=by
   rw [List.any_eq_false]
   intro y hy
   obtain⟨z,t,J⟩:=hk y (Array.mem_toList_iff.mp hy)
   simp [DictEntry.refKey,J]
  have a':¬ es.toList.any (·.refKey)=true:=by rw [a];exact Bool.false_ne_true
  rw [if_neg a']
  exact congrArg some e
theorem jU.look {h:Heap}{x dx C:Addr}{mA:Str->Option Value}(I:jU h x dx C mA):∃ od,W.InstAt h x (W.instObj C dx) C (some od)/\∀ name,W.lookIn name od=some (mA name):=
 let ⟨od,ho,hl⟩:=BO I.ns
 ⟨od,⟨I.obj,rfl,rfl,ho⟩,hl⟩
section
variable {prog : Program} {w : World} {A : Around} {E : Value -> Shared -> Prop} {s : Shared} {K : PySem.W.Frag} {x dx C f : Addr} {mA : Str -> Option Value} {name : Str} {v : Value}
theorem get_map{expr:Bool}{Q:Value->Shared->Prop}(X:K.In s.heap)(I:jU s.heap x dx C mA)(hg:W.plainGet K C name=true)(hh:W.hasDictIn K C=true)
  (ha:W.findIn K (.ref C) name=some none)(hv:mA name=some v)(hv':W.handedIn v=true)(h:Q v {s with toks:=s.toks + 1}):
  wpAny (model prog w) A (getAttr (.ref x) name expr) Q E s:=by
 obtain⟨od,J,U⟩:=I.look
 exact W.get_value X J (W.plainGet_of hg).1 (W.findObj_own hh ha rfl (by rw [U,hv])) hv' h
theorem Be{pl:Sem Bool}{Q:Value×List Value->Shared->Prop}(X:K.In s.heap)(I:jU s.heap x dx C mA)(hg:W.plainGet K C name=true)
  (hf:W.findIn K (.ref C) name=some (some (.ref f)))(ht:W.isFn K (.ref f)=true)(hv:mA name=none)(h:Q (.ref f,[.ref x]) s):
  wpAny (model prog w) A (getMethod (.ref x) name pl) Q E s:=by
 obtain⟨U,J,hl⟩:=I.look
 exact W.method_fn X J (W.plainGet_of hg).1 (W.plainGet_of hg).2 hf (beq_iff_eq.mp ht) (by show(W.lookIn name U).map (·.isSome)=some false;rw [hl,hv];rfl) h
theorem xf{ns:List Str}{Q:Unit->Shared->Prop}(X:K.In s.heap)(I:jU s.heap x dx C mA)
  (hs:W.findIn K (.ref C) "__setattr__"=some (some (.builtin "object.__setattr__")))(hp:W.plainOver K C=true)(ht:W.takerIn K C name=some none)(hh:W.hasDictIn K C=true)
  (hw:PySem.Within mA ns)(hsz:ns.length<=sizeLine)
  (h:∀ h',jU h' x dx C (fun y=>if y=name then some v else mA y)->Heap.SameBut dx s.heap h'->Q () {s with heap:=h',toks:=s.toks + 2}):
  wpAny (model prog w) A (setAttr (.ref x) name v) Q E s:=by
 obtain⟨od,J,hl⟩:=I.look
 refine W.set_plain X J hs (W.osa_open (s:={s with toks:=s.toks + 1}) (r:=none) X J hp ht fun b=>?_)
 obtain⟨cd,hc,af⟩:=W.any_some hh
 have hx:s.heap.get? x=some ⟨.ref C,some dx,.plain,#[]⟩:=I.obj
 refine wpAny_bind (wpAny_pure (wpAny_bind (wpAny_bind (wpAny_loadPart hx (wpAny_bind (W.Looks.here (s:={s with toks:=s.toks + 1}) (W.looks_clsIn X hc) ?_))))))
 rw [af]
 refine wpAny_pure (a:=some dx) (wpAny_bind (wpAny_pure (wpAny_bind ?_)))
 refine wpAny_nsSet1 (s:={s with toks:=s.toks + 1}) I.ns fun h' U aa=>?_
 obtain⟨oD,ak,ao,ag,ah,ae⟩:=U.count (PySem.Within.cons name v hw)
 refine wpAny_bind (wpAny_lookBehind ag (by rw [ah];exact pastItsLine_dict (Nat.le_trans ae (by rw [List.length_cons];(clear ae;omega)))) ?_)
 exact wpAny_pure (h _ ⟨(aa.2 _ (Ne.symm I.ne)).trans I.obj,U,I.ne⟩ aa)
theorem As{R:Result->Shared->Prop}{vs:List Value}{kw:List (Str×Value)}(X:K.In s.heap)(hm:W.makesIn K C=true)
  (hi:W.findIn K (.ref C) "__init__"=some (some (.ref f)))(hf:W.typeIn K (.ref f)=some (.type "function"))
  (h:codeAny (model prog w) (A.under (.builtin "type.__call__" ⟨.ref C::vs,kw⟩)) (.call (.ref f) ⟨.ref (s.heap.objs.size + 1)::vs,kw⟩) (W.InitBack (s.heap.objs.size + 1) R)
   {s with heap:=(s.heap.push W.emptyDict).push (W.instObj C s.heap.objs.size)}):
  codeAny (model prog w) A (.call (.ref C) ⟨vs,kw⟩) R s:=by
 obtain⟨J,g,d,t,os⟩:=s
 exact W.make_core (W.makes_of X hm) (W.looks_findIn X hi) (fun self=>W.bind_fn X self hf) (.inl rfl) h
end
noncomputable def eJ(f:Str)(v:V):List (Str×V)->List (Str×V)
 | []=>[(f,v)]
 | (g,x)::r=>if g=f then (g,v)::r else (g,x)::eJ f v r
theorem eR(f g:Str)(v:V):∀ fs:List (Str×V),(eJ f v fs).lookup g=if g=f then some v else fs.lookup g
 | []=>by
  show List.lookup g [(f,v)]=_
  by_cases h:g=f
  ·have hb:(g == f)=true:=beq_iff_eq.mpr h
   simp only [List.lookup,hb,if_pos h]
  ·have hb:(g == f)=false:=beq_eq_false_iff_ne.mpr h
   simp only [List.lookup,hb,if_neg h]
 | (k,x)::r=>by
  have J:=eR f g v r
  rw [show eJ f v ((k,x)::r)=(if k=f then (k,v)::r else (k,x)::eJ f v r) from rfl]
  by_cases hk:k=f
  ·rw [if_pos hk]
   by_cases h:g=k
   ·have hb:(g == k)=true:=beq_iff_eq.mpr h
    simp only [List.lookup,hb,if_pos (h.trans hk)]
   ·have hb:(g == k)=false:=beq_eq_false_iff_ne.mpr h
    simp only [List.lookup,hb,if_neg (fun e:g=f=>h (e.trans hk.symm))]
  ·rw [if_neg hk]
   by_cases h:g=k
   ·have hb:(g == k)=true:=beq_iff_eq.mpr h
    simp only [List.lookup,hb,if_neg (fun e:g=f=>hk (h.symm.trans e))]
   ·have hb:(g == k)=false:=beq_eq_false_iff_ne.mpr h
    simp only [List.lookup,hb]
    exact J
theorem pN(f:Str)(v:V):∀ fs:List (Str×V),f∈(eJ f v fs).map (·.1)/\∀ g,g∈fs.map (·.1)->g∈(eJ f v fs).map (·.1)
 | []=>⟨by simp [eJ],fun g h=>by simp at h⟩
 | (k,x)::r=>by
  obtain⟨J,U⟩:=pN f v r
  rw [show eJ f v ((k,x)::r)=(if k=f then (k,v)::r else (k,x)::eJ f v r) from rfl]
  by_cases hk:k=f
  ·rw [if_pos hk]
   subst hk
   exact⟨by simp,fun g h=>by simpa using h⟩
  ·rw [if_neg hk]
   refine⟨?_,fun g h=>?_⟩
   ·rw [List.map_cons]
    exact List.mem_cons_of_mem _ J
   ·rw [List.map_cons] at h ⊢
    rcases List.mem_cons.mp h with e | e
    ·exact List.mem_cons.mpr (.inl e)
    ·exact List.mem_cons_of_mem _ (U g e)
theorem qR(f:Str)(v:V):∀ fs:List (Str×V),(eJ f v fs).length<=fs.length + 1
 | []=>by simp [eJ]
 | (k,x)::r=>by
  have J:=qR f v r
  rw [show eJ f v ((k,x)::r)=(if k=f then (k,v)::r else (k,x)::eJ f v r) from rfl]
  by_cases hk:k=f
  ·rw [if_pos hk,List.length_cons,List.length_cons];(clear J;omega)
  ·rw [if_neg hk,List.length_cons,List.length_cons];omega
theorem gn.some_of {v:V}{o:Option Value}(r:gn (some v) o):∃ u,o=some u/\RelV v u:=by
 cases o with
 | none=>exact(show False from r).elim
 | some u=>exact⟨u,rfl,r⟩
theorem gn.none_of {o:Option Value}(r:gn none o):o=none:=by
 cases o with
 | none=>rfl
 | some u=>exact(show False from r).elim
theorem BD{v:V}{u:Value}(r:RelV v u):W.handedIn u=true:=by
 cases v with
 | non=>cases (show u=Value.none from r);rfl
 | bl b=>cases (show u=Value.bool b from r);rfl
 | int i=>obtain⟨t,e⟩:=(show ∃ t,u=Value.int i t from r);cases e;rfl
 | str x=>obtain⟨t,e⟩:=(show ∃ t,u=Value.str x t from r);cases e;rfl
 | byt b=>obtain⟨t,e⟩:=(show ∃ t,u=Value.bytes b t from r);cases e;rfl
 | flt b=>obtain⟨t,e⟩:=(show ∃ t,u=Value.float b t from r);cases e;rfl
 | ref a=>cases (show u=Value.ref a from r);rfl
 | ty n=>cases (show u=Value.type n from r);rfl
section
variable {P : Program} {w : World} {H H' : Hp} {h h' : Heap} {a C dx : Addr} {fs fs' : List (Str × V)}
theorem jq(hok:dJ P w H h)(e:H a=some (.ins C dx fs)):∃ mA,jU h a dx C mA/\(∀ f,gn (fs.lookup f) (mA f))/\PySem.Within mA (fs.map (·.1))/\fs.length<=1000/\H dx=some (.own a):=by
 obtain⟨d,z,ne,ob,mA,n,r,q⟩:=(show dP P w H h a (.ins C dx fs) from hok a _ e)
 exact⟨mA,⟨ob,n,ne⟩,r,q,z,d⟩
end
structure gL (K : W.Frag) (C : Addr) : Prop where
 pg : W.plainGet K C Str.empty = true
 hd : W.hasDictIn K C = true
 po : W.plainOver K C = true
 sa : W.findIn K (.ref C) "__setattr__" = some (some (.builtin "object.__setattr__"))
theorem gL.get {K:W.Frag}{C:Addr}(c:gL K C)(f:Str):W.plainGet K C f=true:=c.pg
noncomputable def gZ(K:W.Frag)(C:Addr)(f:Str):Prop:=W.findIn K (.ref C) f=some none
theorem gZ.taker {K:W.Frag}{C:Addr}{f:Str}(n:gZ K C f):W.takerIn K C f=some none:=by
 unfold W.takerIn
 rw [show W.findIn K (.ref C) f=some none from n]
 rfl
structure Meth (K : W.Frag) (C : Addr) (m : Str) (f : Addr) : Prop where
 at_ : W.findIn K (.ref C) m = some (some (.ref f))
 fn : W.isFn K (.ref f) = true
 kp : W.keepIn K (.ref f) = true
section
variable {X : Cx} {pins : List (Addr × Obj)} {σ : St} {H : Hp} {s : Shared} {a C dx : Addr} {fs : List (Str × V)} {f : Str} {v : V} {A : Around} {E : Value -> Shared -> Prop}
theorem Ca{b:Bool}{Q:Value->Shared->Prop}(I:Inv X pins σ H s)(e:H a=some (.ins C dx fs))(c:gL X.K C)(n:gZ X.K C f)(l:fs.lookup f=some v)
  (h:∀ u s',Inv X pins σ H s'->RelV v u->Q u s'):wpAny (model X.prog X.w) A (getAttr (.ref a) f b) Q E s:=by
 obtain⟨mA,O,r,_,_,_⟩:=jq I.hok e
 obtain⟨u,U,J⟩:=gn.some_of (v:=v) (o:=mA f) (by rw [<-l];exact r f)
 exact get_map I.kIn O (c.get f) c.hd n U (BD J) (h u _ (I.tok _) J)
theorem tJ{m:Str}{g:Addr}{pl:Sem Bool}{Q:Value×List Value->Shared->Prop}(I:Inv X pins σ H s)(e:H a=some (.ins C dx fs))(c:gL X.K C)(k:Meth X.K C m g)(l:fs.lookup m=none)
  (h:Q (.ref g,[.ref a]) s):wpAny (model X.prog X.w) A (getMethod (.ref a) m pl) Q E s:=by
 obtain⟨mA,O,r,_,_,_⟩:=jq I.hok e
 have hn:mA m=none:=gn.none_of (by rw [<-l];exact r m)
 exact Be I.kIn O (c.get m) k.at_ k.fn hn h
theorem zr{y:V}{u:Value}{Q:Unit->Shared->Prop}(I:Inv X pins σ H s)(e:H a=some (.ins C dx fs))(c:gL X.K C)(n:gZ X.K C f)(hl:fs.length < 1000)(ry:RelV y u)
  (h:∀ s',Inv X pins σ (upd H a (.ins C dx (eJ f y fs))) s'->Q () s'):wpAny (model X.prog X.w) A (setAttr (.ref a) f u) Q E s:=by
 obtain⟨mA,O,r,U,_,ho⟩:=jq I.hok e
 have hz:(fs.map (·.1)).length<=sizeLine:=by rw [List.length_map,sizeLine_eq];(clear hl;omega)
 refine xf I.kIn O c.sa c.po n.taker c.hd U hz fun h' J sb=>h _ ?_
 have hd:∃ o,h'.get? dx=some o:=let ⟨o,_,_,e',_⟩:=J.ns;⟨o,e'⟩
 refine I.write (x:=a) (e:=dx) (by rw [e];exact True.intro) (.inr ho) (fun b q hb z=>(sb.2 b hb).trans z) hd ?_
 refine⟨by rw [cK O.ne];exact ho,?_,O.ne,J.obj,_,J.ns,fun g=>?_,fun g hg=>?_⟩
 ·have:=qR f y fs;(clear hz;omega)
 ·show gn ((eJ f y fs).lookup g) (if g=f then some u else mA g)
  rw [eR]
  by_cases q:g=f
  ·rw [if_pos q,if_pos q];exact ry
  ·rw [if_neg q,if_neg q];exact r g
 ·by_cases q:g=f
  ·rw [q];exact(pN f y fs).1
  ·refine(pN f y fs).2 g (U g fun z=>hg ?_)
   show(if g=f then some u else mA g)=none
   rw [if_neg q];exact z
theorem Inv.made (I:Inv X pins σ H s):Inv X pins σ (upd (upd H s.heap.objs.size (.own (s.heap.objs.size + 1))) (s.heap.objs.size + 1) (.ins C s.heap.objs.size []))
  {s with heap:=(s.heap.push W.emptyDict).push (W.instObj C s.heap.objs.size)}:=by
 have J:(s.heap.push W.emptyDict).get? s.heap.objs.size=some W.emptyDict:=Heap.get?_push_size s.heap rfl
 have U:((s.heap.push W.emptyDict).push (W.instObj C s.heap.objs.size)).get? (s.heap.objs.size + 1)=some (W.instObj C s.heap.objs.size):=by
  have:=Heap.get?_push_size (s.heap.push W.emptyDict) (o:=W.instObj C s.heap.objs.size) rfl
  rwa [Heap.size_push] at this
 have e3:(s.heap.push W.emptyDict).Ns s.heap.objs.size (fun _=>none):=⟨W.emptyDict,#[],_,J,rfl,(fun e he=>absurd he (by simp)),fun _=>rfl⟩
 have I1:=I.laid (a:=s.heap.objs.size) (o:= .own (s.heap.objs.size + 1)) (h':=s.heap.push W.emptyDict) (t':=s.toks) (fun b u q=>Heap.get?_push_of_some _ q) (Nat.le_refl _) ⟨_,J⟩
 refine I1.laid (a:=s.heap.objs.size + 1) (o:= .ins C s.heap.objs.size []) (t':=s.toks) (fun b u q=>Heap.get?_push_of_some _ q) (Nat.le_of_eq (Heap.size_push _ _)) ?_
 have ne:s.heap.objs.size≠s.heap.objs.size + 1:=Nat.ne_of_lt (Nat.lt_succ_self _)
 refine⟨by rw [cK ne,cx],Nat.zero_le _,ne,U,fun _=>none,(Heap.Ns1.of_empty e3).at fun o q=>Heap.get?_push_of_some _ q,fun _=>True.intro,fun y hy=>absurd rfl hy⟩
theorem Cb{prog:Program}{w:World}{env:Env}{e:Expr}{f:Str}{pos:Pos}{s:Shared}{Q:Value->Shared->Prop}(hb:attributeBase e f env (eval e env)=eval e env)
  (h:wpAny (model prog w) A (eval e env) (fun o s₁=>wpAny (model prog w) A (getAttr o f true) Q E s₁) E s):wpAny (model prog w) A (eval (.Attribute e f pos) env) Q E s:=
 Attribute_any_ h (by rw [arm_eval_Attribute,hb])
end
noncomputable def ud(K:W.Frag)(ta:TE)(f:Str):TE:=fun σ H Q=>ta σ H fun x H1=>∃ a C dx fs v,x= .ref a/\H1 a=some (.ins C dx fs)/\gL K C/\gZ K C f/\fs.lookup f=some v/\Q v H1
noncomputable def By(K:W.Frag)(ta tv:TE)(f:Str):TS:=fun D σ H=>tv σ H fun y H1=>ta σ H1 fun x H2=>∃ a C dx fs,x= .ref a/\H2 a=some (.ins C dx fs)/\gL K C/\gZ K C f/\fs.length < 1000/\
 D.nx σ (upd H2 a (.ins C dx (eJ f y fs)))
section
variable {X : Cx} {o e value : Expr} {f : Str} {pos pos' tpos : Pos} {ta tv : TE}
theorem eK(he:PE X e ta)(hb:attributeBase e f X.env (eval e X.env)=eval e X.env):PE X (.Attribute e f pos) (ud X.K ta f):=by
 intro pins s σ H Q I h
 refine Cb hb (cF (he pins s σ H _ I h) fun u s1 ⟨x,H1,J,U,a,C,dx,fs,v,ex,ea,c,n,l,q⟩=>?_)
 subst ex
 obtain rfl:u=Value.ref a:=U
 exact Ca J ea c n l fun u' s2 I2 ru=>⟨v,H1,I2,ru,q⟩
theorem ig(ha:PE X o ta)(hv:PE X value tv)(hs:swapsWith value (some (.Attribute o f pos')) pos.line X.env=pure false):PS X (.Assign [.Attribute o f pos'] value pos) (By X.K ta tv f):=by
 intro pins s σ H D I h
 refine plainObj_wpAny_Assign_Attribute (cF (hv pins s σ H _ I h) fun u s1 ⟨y,H1,J,U,q⟩=>cF (ha pins s1 σ H1 _ J q) fun ov s2 ⟨x,H2,I2,rx,a,C,dx,fs,ex,ea,c,n,l,q2⟩=>?_) hs
 subst ex
 obtain rfl:ov=Value.ref a:=rx
 exact zr I2 ea c n l U fun s3 I3=>⟨σ,_,I3,q2⟩
end
section
variable {X : Cx} {pins : List (Addr × Obj)} {σ : St} {H : Hp} {s : Shared} {A : Around} {E : Value -> Shared -> Prop} {Q : Value -> Shared -> Prop} {c : Value} {b : Bool}
inductive fB (K : W.Frag) (H : Hp) : V -> Value -> Prop where
 | non : fB K H .non (.type "NoneType")
 | bl (x : Bool) : fB K H (.bl x) (.type "bool")
 | int (i : Int) : fB K H (.int i) (.type "int")
 | str (x : Str) : fB K H (.str x) (.type "str")
 | flt (x : UInt64) : fB K H (.flt x) (.type "float")
 | lst {a : Addr} {xs : List V} (e : H a = some (.lst xs)) : fB K H (.ref a) (.type "list")
 | frz {a : Addr} {o : Obj} {xs : List V} (e : H a = some (.frz o (.lst xs))) : fB K H (.ref a) (.type "list")
 | tup {a : Addr} {xs : List V} (e : H a = some (.tup xs)) : fB K H (.ref a) (.type "tuple")
 | dK {a : Addr} {kvs : List (Key × V)} (e : H a = some (.dK kvs)) : fB K H (.ref a) (.type "dict")
 | dT {a : Addr} {kvs : List (List Key × V)} (e : H a = some (.dT kvs)) : fB K H (.ref a) (.type "dict")
 | ins {a C dx : Addr} {fs : List (Str × V)} (e : H a = some (.ins C dx fs)) (cl : gL K C) (ha : W.findIn K (.ref C) "__class__" = some (some (.builtin "object.__class__")))
   (hn : W.specialIn K (.builtin "object.__class__") "__get__" = some (some (.builtin "getset_descriptor.__get__"))) (htk : W.takesIn K (.builtin "object.__class__") = some true)
   (hm : W.mroIn K C (.type "object") = some true) : fB K H (.ref a) (.ref C)
theorem uP{x:V}{u t:Value}(I:Inv X pins σ H s)(rx:RelV x u)(ty:fB X.K H x t)(e:W.kitOne X.K t c=some b)(h:∀ tk,Q (.bool b) {s with toks:=tk}):
  wpAny (model X.prog X.w) A (call (.builtin "isinstance") [u,c]) Q E s:=by
 cases ty with
 | non=>cases (show u=Value.none from rx);exact W.kia_one W.kitx_none I.kIn True.intro e (fun z=>nomatch z) h
 | bl y=>cases (show u=Value.bool y from rx);exact W.kia_one W.kitx_bool I.kIn True.intro e (fun z=>nomatch z) h
 | int i=>obtain⟨t,q⟩:=(show ∃ t,u=Value.int i t from rx);cases q;exact W.kia_one W.kitx_int I.kIn True.intro e (fun z=>nomatch z) h
 | str y=>obtain⟨t,q⟩:=(show ∃ t,u=Value.str y t from rx);cases q;exact W.kia_one W.kitx_str I.kIn True.intro e (fun z=>nomatch z) h
 | flt y=>obtain⟨t,q⟩:=(show ∃ t,u=Value.float y t from rx);cases q;exact W.kia_one W.kitx_float I.kIn True.intro e (fun z=>nomatch z) h
 | @lst a xs U=>
  cases (show u=Value.ref a from rx)
  obtain⟨_,_,n,_,h1⟩:=(show dP X.prog X.w H s.heap a (.lst xs) from I.hok a _ U)
  exact W.kia_one W.kitx_list I.kIn ⟨_,h1,rfl⟩ e (fun z=>nomatch z) h
 | @frz a ob xs U=>
  cases (show u=Value.ref a from rx)
  obtain⟨_,_,_,n,_,h1⟩:=(show dP X.prog X.w H s.heap a (.frz ob (.lst xs)) from I.hok a _ U)
  exact W.kia_one W.kitx_list I.kIn ⟨_,h1,rfl⟩ e (fun z=>nomatch z) h
 | @tup a xs U=>
  cases (show u=Value.ref a from rx)
  obtain⟨_,_,_,p⟩:=(show dP X.prog X.w H s.heap a (.tup xs) from I.hok a _ U)
  obtain⟨o,h1,h2,_⟩:=p
  exact W.kia_one W.kitx_tuple I.kIn ⟨o,h1,h2⟩ e (fun z=>nomatch z) h
 | @dK a kvs U=>
  cases (show u=Value.ref a from rx)
  obtain⟨_,_,vs,_,p⟩:=(show dP X.prog X.w H s.heap a (.dK kvs) from I.hok a _ U)
  obtain⟨o,es,ep,h1,h2,_⟩:=p
  exact W.kia_one W.kitx_dict I.kIn ⟨o,h1,h2.1⟩ e (fun z=>nomatch z) h
 | @dT a kvs U=>
  cases (show u=Value.ref a from rx)
  obtain⟨_,_,xs,_,o,es,ep,h1,h2,_⟩:=(show dP X.prog X.w H s.heap a (.dT kvs) from I.hok a _ U)
  exact W.kia_one W.kitx_dict I.kIn ⟨o,h1,h2.1⟩ e (fun z=>nomatch z) h
 | @ins a C dx fs U cl ha hn htk hm=>
  cases (show u=Value.ref a from rx)
  obtain⟨mA,O,_⟩:=jq I.hok U
  obtain⟨od,J,_⟩:=O.look
  exact W.kia_one (W.kitx_own (cl.get _) cl.hd ha hn htk hm) I.kIn J e (fun z=>nomatch z) h
end
structure dW (k : Nat) (A : Around) : Prop where
 hd : A.handled = none
 dp : A.depth + 3 * k + 5 < recursionLimit
 un : A.units + 16 * k + 200 < cLine
theorem dW.mono {j k:Nat}{A:Around}(r:dW k A)(h:j<=k):dW j A:=⟨r.hd,by have:=r.dp;omega,by have:=r.un;omega⟩
theorem dW.deeper {k:Nat}{A:Around}(r:dW (k + 1) A)(env:Env):dW k (A.deeper env):=
 ⟨r.hd,by have:=r.dp;show A.depth + 1 + 3 * k + 5 < _;omega,by have:=r.un;show A.units + 3 + 16 * k + 200 < _;omega⟩
theorem y0{A:Around}{C:Addr}{us:List Value}{kw:List (Str×Value)}:(A.under (.builtin "type.__call__" ⟨.ref C::us,kw⟩)).depth=A.depth + 1:=by
 first | rfl | simp [Around.under,Code.weight,Code.isCreation,Code.isGuard,Code.isCaller,Code.frames,Code.isFrame,guardIds]
theorem vR{A:Around}{C:Addr}{us:List Value}{kw:List (Str×Value)}:(A.under (.builtin "type.__call__" ⟨.ref C::us,kw⟩)).units=A.units + 1:=by
 first | rfl | simp [Around.under,Code.cUnits,Code.frames,Code.isFrame]
theorem dW.make {k:Nat}{A:Around}(r:dW (k + 1) A)(C:Addr)(us:List Value)(kw:List (Str×Value)):dW k (A.under (.builtin "type.__call__" ⟨.ref C::us,kw⟩)):=
 ⟨r.hd,by have:=r.dp;rw [y0];omega,by have:=r.un;rw [vR];omega⟩
theorem dW.depth {k:Nat}{A:Around}(r:dW k A):A.depth < recursionLimit:=by have:=r.dp;omega
theorem dW.units {k:Nat}{A:Around}(r:dW k A):A.units + 64 < cLine:=by have:=r.un;omega
noncomputable def mB:TA:=fun _ H Q=>Q [] H
noncomputable def oF(ta:TE)(tr:TA):TA:=fun σ H Q=>ta σ H fun x H1=>tr σ H1 fun xs H2=>Q (x::xs) H2
section
variable {X : Cx} {e : Expr} {es : List Expr} {te : TE} {t : TA} {pos : Pos}
theorem cg:PA X [] mB:=fun _ _ _ _ H Q I h=>Calls.spliced_nil ⟨[],H,I,.nil,h⟩
theorem cf(ha:PE X e te)(hr:PA X es t)(hs:starEach (e::es) X.env=(false,eval e X.env)::starEach es X.env:=by rfl):PA X (e::es) (oF te t):=by
 intro pos pins s σ H Q I h
 rw [hs]
 show wpAny _ _ (spliced ((false,eval e X.env)::backTo pos (starEach es X.env))) _ _ s
 refine Calls.spliced_cons (cF (ha pins s σ H _ I h) fun u s1 ⟨x,H1,J,U,q1⟩=>?_)
 exact cF (hr pos pins s1 σ H1 _ J q1) fun us s2 ⟨xs,H2,I2,r2,q2⟩=>⟨x::xs,H2,I2,.cons U r2,q2⟩
noncomputable def AX(t:TA):TE:=fun σ H Q=>t σ H fun xs H1=>xs.length<=sizeLine/\∀ p,H1 p=none->Q (.ref p) (upd H1 p (.tup xs))
noncomputable def tK(t:TA):TE:=fun σ H Q=>t σ H fun xs H1=>xs.length<=sizeLine/\∀ p,H1 p=none->Q (.ref p) (upd H1 p (.lst xs))
theorem fF{x1}(h:PA X es t):PE X (.Tuple es x1 pos) (AX t):=by
 intro pins s σ H Q I U
 refine wpAny_Tuple_spliced (cF (h pos pins s σ H _ I U) fun us s1 ⟨xs,H1,J,r,z,q⟩=>⟨by rw [<-r.length];exact z,?_⟩)
 have hf:H1 s1.heap.objs.size=none:=J.hok.fresh (Nat.le_refl _)
 refine⟨.ref s1.heap.objs.size,upd H1 s1.heap.objs.size (.tup xs),J.laid (t':=s1.toks) (fun b u e=>Heap.get?_push_of_some _ e) (Nat.le_refl _) ?_,rfl,q _ hf⟩
 exact⟨z,us,r,⟨_,Heap.get?_push_size _ rfl,rfl,_,rfl⟩⟩
theorem dR(h:PA X es t):PE X (.List es pos) (tK t):=by
 intro pins s σ H Q I U
 refine wpAny_List_spliced (cF (h pos pins s σ H _ I U) fun us s1 ⟨xs,H1,J,r,z,q⟩=>⟨by rw [<-r.length];exact z,?_⟩)
 have hf:H1 s1.heap.objs.size=none:=J.hok.fresh (Nat.le_refl _)
 refine⟨.ref s1.heap.objs.size,upd H1 s1.heap.objs.size (.lst xs),J.laid (t':=s1.toks) (fun b u e=>Heap.get?_push_of_some _ e) (Nat.le_refl _) ?_,rfl,q _ hf⟩
 exact⟨z,us,0,r,Heap.get?_push_size _ rfl⟩
end
noncomputable abbrev Sp:=List V->Hp->VK->XK->Prop
noncomputable abbrev fR:=List Env->Hp->Shared->XK->Value->Shared->Prop
structure ka (P : Program) (w : World) (K : W.Frag) (mg : Str -> Option Value) (base : Heap) (A : Around) (outer : List Env) (s : Shared) (H : Hp) : Prop where
 frames : A.frames = some outer
 mod : Mod K mg base
 bs : ∀ b o, base.get? b = some o -> s.heap.get? b = some o /\ H b = none
 bsz : base.objs.size <= s.heap.objs.size
 funs : s.heap.FunFrames base outer
 frf : ∀ b ∈ da outer, H b = none
 hok : dJ P w H s.heap
 bare : AllBare s.gens
noncomputable def CE(outer:List Env)(P:Program)(w:World)(H:Hp)(s:Shared)(Q:VK)(u:Value)(s':Shared):Prop:=
 ∃ v H',s'.os=s.os/\AllBare s'.gens/\Un (da outer) [] H H' s.heap s'.heap/\dJ P w H' s'.heap/\RelV v u/\Q v H'
noncomputable def CR(CX:fR)(outer:List Env)(P:Program)(w:World)(H:Hp)(s:Shared)(Q:VK)(E:XK)(r:Result)(s':Shared):Prop:=
 match r with
 | .ok (.ret u)=>CE outer P w H s Q u s'
 | .ok _=>False
 | .error e=>CX outer H s E e s'
structure cu (P : Program) (w : World) (K : W.Frag) (mg : Str -> Option Value) (base : Heap) (CX : fR) (k : Nat) (f : Addr) (fd : FuncData) (ps : List Str) (sp : Sp) : Prop where
 len : ∀ vs H Q E, sp vs H Q E -> vs.length = ps.length
 run : ∀ (A : Around) (outer : List Env) (s : Shared) (H : Hp) (args : Args) (us : List Value) (vs : List V) (Q : VK) (E : XK), dW k A -> ka P w K mg base A outer s H -> BindsTo s fd args (ps.zip us) -> Vals vs us -> sp vs H Q E ->
  codeAny (model P w) A (.call (.ref f) args) (CR CX outer P w H s Q E) s
theorem cu.mono {P:Program}{w:World}{K:W.Frag}{mg:Str->Option Value}{base:Heap}{CX:fR}{j k:Nat}{f:Addr}{fd:FuncData}{ps:List Str}{sp:Sp}(F:cu P w K mg base CX j f fd ps sp)(h:j<=k):
  cu P w K mg base CX k f fd ps sp:=⟨F.len,fun A outer s H args us vs Q E J=>F.run A outer s H args us vs Q E (J.mono h)⟩
theorem ka.make {P:Program}{w:World}{K:W.Frag}{mg:Str->Option Value}{base:Heap}{A:Around}{outer:List Env}{s:Shared}{H:Hp}(e:ka P w K mg base A outer s H)(C:Addr)(us:List Value)(kw:List (Str×Value)):
  ka P w K mg base (A.under (.builtin "type.__call__" ⟨.ref C::us,kw⟩)) outer s H:=⟨by first | exact e.frames | (simpa [Around.under,Code.envs,Code.isFrame,pushEnvs] using e.frames),e.mod,e.bs,e.bsz,e.funs,e.frf,e.hok,e.bare⟩
section
variable {X : Cx} {pins : List (Addr × Obj)} {σ : St} {H : Hp} {s s' : Shared}
theorem Inv.env0 (I:Inv X pins σ H s):ka X.prog X.w X.K X.mg X.base X.A X.stack s H:=
 ⟨I.ok.frames,I.ok.mod,I.bs,Nat.le_trans I.ok.bsz I.sz,I.stack,I.stkFree,I.hok,I.bare⟩
theorem Inv.after {Q:VK}{u:Value}(I:Inv X pins σ H s)(h:CE X.stack X.prog X.w H s Q u s'):EP X pins σ Q u s':=by
 obtain⟨v,H',os,bare,un,hok,r,q⟩:=h
 obtain⟨U,g,d,t,J⟩:=s'
 obtain rfl:J=s.os:=os
 exact⟨v,H',I.call (h':=U) (g':=g) (d':=d) (t':=t) (ch:=[]) un hok bare (fun b z=>absurd z (by simp)),r,q⟩
end
noncomputable def z8(sp:Sp)(dvs:List V)(E:XK)(t:TA):TE:=fun σ H Q=>t σ H fun vs H1=>sp (vs++dvs) H1 Q E
noncomputable def Ar(C:Addr)(sp:Sp)(dvs:List V)(E:XK)(t:TA):TE:=fun σ H Q=>t σ H fun vs H1=>∀ x dx,H1 x=none->H1 dx=none->dx≠x->
 sp (.ref x::(vs++dvs)) (upd (upd H1 dx (.own x)) x (.ins C dx [])) (fun v H2=>v= .non/\Q (.ref x) H2) E
noncomputable def Binds(K:W.Frag)(fd:FuncData)(ps:List Str)(ds:List Value):Prop:=
 ∀(s:Shared) (us:List Value),K.In s.heap->(us++ds).length=ps.length->BindsTo s fd ⟨us,[]⟩ (ps.zip (us++ds))
theorem Binds.all {K:W.Frag}{fd:FuncData}{ps:List Str}(h:∀ us:List Value,us.length=ps.length->bindArgs fd ⟨us,[]⟩=pure (ps.zip us)):Binds K fd ps []:=fun s us _ J=>by
 rw [List.append_nil] at J ⊢
 exact .of_eq (h us J)
noncomputable def Passes(CX:fR)(X:Cx)(E:XK):Prop:=∀(pins:List (Addr×Obj)) (σ:St) (H:Hp) (s:Shared) (e:Value) (s':Shared),Inv X pins σ H s->CX X.stack H s E e s'->X.xe e s'
section
variable {X : Cx} {CX : fR} {k : Nat} {f C : Addr} {fd : FuncData} {ps : List Str} {sp : Sp} {dvs : List V} {ds : List Value} {E : XK} {x m : Str} {p pos apos : Pos} {e o : Expr} {es : List Expr} {ta : TE} {t : TA}
theorem oE{pins:List (Addr×Obj)}{σ:St}{H:Hp}{s:Shared}{Q:VK}{us:List Value}{vs:List V}(F:cu X.prog X.w X.K X.mg X.base CX k f fd ps sp)(hr:dW k X.A)(hb:Binds X.K fd ps ds)(hd:Vals dvs ds)(hx:Passes CX X E)
  (I:Inv X pins σ H s)(r:Vals vs us)(h:sp (vs++dvs) H Q E):wpAny (model X.prog X.w) X.A (call (.ref f) us) (EP X pins σ Q) X.xe s:=by
 have U:Vals (vs++dvs) (us++ds):=r.append hd
 have hl:(us++ds).length=ps.length:=by rw [<-U.length];exact F.len _ _ _ _ h
 refine wpAny_call (codeAny_mono (F.run X.A X.stack s H ⟨us,[]⟩ (us++ds) (vs++dvs) Q E hr I.env0 (hb s us I.kIn hl) U h) fun r s' J=>?_)
 cases r with
 | error e=>exact hx pins σ H s e s' I J
 | ok fl=>
  cases fl with
  | ret u=>exact I.after J
  | next=>exact False.elim J
  | brk=>exact False.elim J
  | cont=>exact False.elim J
theorem cT(F:cu X.prog X.w X.K X.mg X.base CX k f fd ps sp)(hr:dW k X.A)(hg:Gl X x)(hm:X.mg x=some (.ref f))(hk:W.keepIn X.K (.ref f)=true)(hb:Binds X.K fd ps ds)(hd:Vals dvs ds)(hx:Passes CX X E)
  (ha:PA X (e::es) t)(hdb:(x == ("__debug__":Str))=false:=by decide)(he:starEach (e::es) X.env=(false,eval e X.env)::starEach es X.env:=by rfl)(hpl:(backTo pos (starEach es X.env)).any (·.1)=false:=by rfl):
  PE X (.Call (.Name x p) (e::es) [] pos) (z8 sp dvs E t):=by
 intro pins s σ H Q I h
 refine wpAny_Call_Name_kw (lR I hg hm ?_ hdb)
 refine W.callWith_K (h₀:=X.base) I.ok.mod.kin hk (cF (ha pos pins s σ H _ I h) fun us s1 ⟨vs,H1,J,r,q⟩=>⟨J.kIn,?_⟩) he hpl
 exact oE F hr hb hd hx J r q
structure Mk (K : W.Frag) (C f : Addr) : Prop where
 makes : W.makesIn K C = true
 init : W.findIn K (.ref C) "__init__" = some (some (.ref f))
 fn : W.isFn K (.ref f) = true
 kp : W.keepIn K (.ref C) = true
theorem Bi{pins:List (Addr×Obj)}{σ:St}{H:Hp}{s:Shared}{Q:VK}{us:List Value}{vs:List V}(M:Mk X.K C f)(F:cu X.prog X.w X.K X.mg X.base CX k f fd ps sp)(hr:dW (k + 1) X.A)(hb:Binds X.K fd ps ds)(hd:Vals dvs ds)
  (hx:Passes CX X E)(I:Inv X pins σ H s)(r:Vals vs us)
  (h:∀ x dx,H x=none->H dx=none->dx≠x->sp (.ref x::(vs++dvs)) (upd (upd H dx (.own x)) x (.ins C dx [])) (fun v H2=>v= .non/\Q (.ref x) H2) E):
  wpAny (model X.prog X.w) X.A (call (.ref C) us) (EP X pins σ Q) X.xe s:=by
 have hq:=h (s.heap.objs.size + 1) s.heap.objs.size (I.hok.fresh (Nat.le_succ _)) (I.hok.fresh (Nat.le_refl _)) (Nat.ne_of_lt (Nat.lt_succ_self _))
 have U:=Inv.made (C:=C) I
 have r2:Vals (V.ref (s.heap.objs.size + 1)::(vs++dvs)) (Value.ref (s.heap.objs.size + 1)::(us++ds)):= .cons rfl (r.append hd)
 have hl:(Value.ref (s.heap.objs.size + 1)::us++ds).length=ps.length:=by
  have e:=r2.length
  rw [F.len _ _ _ _ hq] at e
  exact e.symm
 refine wpAny_call (As (f:=f) I.kIn M.makes M.init (beq_iff_eq.mp M.fn) (codeAny_mono (F.run _ X.stack _ _ ⟨Value.ref (s.heap.objs.size + 1)::us,[]⟩ (Value.ref (s.heap.objs.size + 1)::(us++ds)) _ _ E (hr.make C us [])
  (U.env0.make C us []) (hb _ (Value.ref (s.heap.objs.size + 1)::us) U.kIn hl) r2 hq) fun r s' J=>?_))
 cases r with
 | error e=>exact hx pins σ _ _ e s' U J
 | ok fl=>
  cases fl with
  | ret u=>
   obtain⟨v,H',I3,rv,ev,q3⟩:=U.after J
   subst ev
   exact⟨rv,⟨V.ref (s.heap.objs.size + 1),H',I3,rfl,q3⟩⟩
  | next=>exact False.elim J
  | brk=>exact False.elim J
  | cont=>exact False.elim J
theorem jI(M:Mk X.K C f)(F:cu X.prog X.w X.K X.mg X.base CX k f fd ps sp)(hr:dW (k + 1) X.A)(hg:Gl X x)(hm:X.mg x=some (.ref C))(hb:Binds X.K fd ps ds)(hd:Vals dvs ds)(hx:Passes CX X E)
  (ha:PA X (e::es) t)(hdb:(x == ("__debug__":Str))=false:=by decide)(he:starEach (e::es) X.env=(false,eval e X.env)::starEach es X.env:=by rfl)(hpl:(backTo pos (starEach es X.env)).any (·.1)=false:=by rfl):
  PE X (.Call (.Name x p) (e::es) [] pos) (Ar C sp dvs E t):=by
 intro pins s σ H Q I h
 refine wpAny_Call_Name_kw (lR I hg hm ?_ hdb)
 refine W.callWith_K (h₀:=X.base) I.ok.mod.kin M.kp (cF (ha pos pins s σ H _ I h) fun us s1 ⟨vs,H1,J,r,q⟩=>⟨J.kIn,?_⟩) he hpl
 exact Bi M F hr hb hd hx J r q
end
section
variable {X : Cx} {CX : fR} {k : Nat} {f C : Addr} {fd : FuncData} {ps ks : List Str} {sp : Sp} {E : XK} {x m : Str} {p pos apos kpos : Pos} {e o : Expr} {es : List Expr} {kws : List Keyword} {te ta : TE} {t tk : TA} {nm : Option Str}
variable {g : List Value -> List Value -> List Value} {gV : List V -> List V -> List V}
end
structure dD (N P : List Str) (sc : Scope) : Prop where
 kind : sc.kind = .function
 co : sc.isCoroutine = false
 gen : sc.isGenerator = false
 nd : N.Nodup
 pre : N.take P.length = P
 par : ∀ x ∈ P, sc.names.lookup x = some .local \/ sc.names.lookup x = some .cell
 nofree : ∀ y ∈ sc.names, y.2 ≠ .free
theorem vt{kindOf:Str->Option NameKind}{x:Str}:∀{binds:List (Str×Value)} {m:Str->Option Value},(∀ v,(x,v)∉binds)->bindL kindOf binds m x=m x
 | [],_,_=>rfl
 | (n,v)::r,m,h=>by
  unfold bindL
  rw [vt fun w hw=>h w (List.mem_cons_of_mem _ hw)]
  split
  ·have:x≠n:=by rintro rfl;exact h v List.mem_cons_self
   simp [this]
  ·rfl
theorem sS{kindOf:Str->Option NameKind}{x:Str}:∀{binds:List (Str×Value)} {m:Str->Option Value},(∀ v,(x,v)∉binds)->bindC kindOf binds m x=m x
 | [],_,_=>rfl
 | (n,v)::r,m,h=>by
  unfold bindC
  rw [sS fun w hw=>h w (List.mem_cons_of_mem _ hw)]
  split
  ·rfl
  ·have:x≠n:=by rintro rfl;exact h v List.mem_cons_self
   simp [this]
theorem si{kindOf:Str->Option NameKind}{x:Str}{v:Value}:∀{P:List Str} {vs:List Value} {i:Nat} {m:Str->Option Value},P.Nodup->P[i]? =some x->vs[i]? =some v->kindOf x=some .local->
  bindL kindOf (P.zip vs) m x=some v
 | [],_,_,_,_,h,_,_=>by simp at h
 | _::_,[],_,_,_,_,h,_=>by simp at h
 | p::P,w::vs,0,m,nd,h1,h2,hk=>by
  simp at h1 h2;subst h1;subst h2
  show bindL kindOf ((p,w)::P.zip vs) m p=_
  unfold bindL
  rw [vt fun v J=>(List.nodup_cons.mp nd).1 (List.of_mem_zip J).1,if_pos hk]
  simp
 | p::P,w::vs,i + 1,m,nd,h1,h2,hk=>by
  show bindL kindOf ((p,w)::P.zip vs) m x=_
  unfold bindL
  exact si (i:=i) (List.nodup_cons.mp nd).2 (by simpa using h1) (by simpa using h2) hk
theorem tS{kindOf:Str->Option NameKind}{x:Str}{v:Value}:∀{P:List Str} {vs:List Value} {i:Nat} {m:Str->Option Value},P.Nodup->P[i]? =some x->vs[i]? =some v->kindOf x≠some .local->
  bindC kindOf (P.zip vs) m x=some v
 | [],_,_,_,_,h,_,_=>by simp at h
 | _::_,[],_,_,_,_,h,_=>by simp at h
 | p::P,w::vs,0,m,nd,h1,h2,hk=>by
  simp at h1 h2;subst h1;subst h2
  show bindC kindOf ((p,w)::P.zip vs) m p=_
  unfold bindC
  rw [sS fun v J=>(List.nodup_cons.mp nd).1 (List.of_mem_zip J).1,if_neg hk]
  simp
 | p::P,w::vs,i + 1,m,nd,h1,h2,hk=>by
  show bindC kindOf ((p,w)::P.zip vs) m x=_
  unfold bindC
  exact tS (i:=i) (List.nodup_cons.mp nd).2 (by simpa using h1) (by simpa using h2) hk
noncomputable def start(N:List Str)(vs:List V):St:=vs.map some++List.replicate (N.length - vs.length) none
noncomputable def dY(CX:fR)(P:Program)(w:World)(K:W.Frag)(mg:Str->Option Value)(base:Heap)(N:List Str)(qual:Str)(scope:Scope)(f:Addr)(cd:Value)(A:Around)(outer:List Env)(s:Shared)(H:Hp)(E:XK):Cx where
 prog:=P
 w:=w
 K:=K
 mg:=mg
 base:=base
 A:=A.deeper (envOfC qual scope s.heap.objs.size f cd)
 N:=N
 s₀:=s
 H₀:=H
 env:=envOfC qual scope s.heap.objs.size f cd
 outer:=outer
 stack:=envOfC qual scope s.heap.objs.size f cd::outer
 ex:=[]
 calm:=true
 fn:=fun _=>true
 pn:=[]
 xe:=fun e s'=>wpAny (model P w) (A.deeper (envOfC qual scope s.heap.objs.size f cd)) (leaving (envOfC qual scope s.heap.objs.size f cd) e) (fun _ J=>CX outer H s E e J) (fun U J=>CX outer H s E U J) s'
theorem tH{sc:Scope}{n:Nat}{x:Str}(h:sc.names.lookup x=some .cell):∃ c,(cellsFrom n sc.names []).lookup x=some c:=by
 have q:=W.cellsFrom_some sc.names n [] (.inl h)
 exact Option.isSome_iff_exists.mp q
theorem yB{CX:fR}{P:Program}{w:World}{K:W.Frag}{mg:Str->Option Value}{base:Heap}{N ps:List Str}{qual:Str}{scope:Scope}{f:Addr}{cd:Value}{A:Around}{outer:List Env}{s s1:Shared}{H:Hp}{E:XK}{us:List Value}{vs:List V}
  (S:dD N ps scope)(hd:A.handled=none)(e0:ka P w K mg base A outer s H)(hl:vs.length=ps.length)(r:Vals vs us)
  (x:InCallC s s.heap.objs.size (bindL (envOfC qual scope s.heap.objs.size f cd).kindOf (ps.zip us) fun _=>none) (cellsFrom (s.heap.objs.size + 1) scope.names []) (bindC (envOfC qual scope s.heap.objs.size f cd).kindOf (ps.zip us) fun _=>none) s1):
  Inv (dY CX P w K mg base N qual scope f cd A outer s H E) [] (start N vs) H s1:=by
 have ae:ps.length<=N.length:=by have:=congrArg List.length S.pre;rw [List.length_take] at this;(clear hl;omega)
 obtain⟨h1,tk,rfl,hk⟩:=x.done
 have J:∀ b:Addr,b∉(dY CX P w K mg base N qual scope f cd A outer s H E).ex:=fun b z=>absurd (show b∈([]:List Addr) from z) (by simp)
 refine⟨⟨e0.mod,S.kind,rfl,rfl,Nat.le_refl _,fun y z c h1 h2=>?_,fun y hy=>?_,fun y c _ h=>?_,fun _=>hd,Around.frames_deeper e0.frames,.inr ⟨rfl,rfl⟩,fun b z=>absurd z (J b),e0.bs,e0.bsz,fun b _ _=>J b,fun b z=>absurd z (J b),e0.funs,e0.frf⟩,
  rfl,e0.bare,Un.kept hk,⟨_,x.toInCall.ns,fun i y v h1 h2 h3=>?_⟩,fun y c h=>⟨_,x.cell y c h⟩,e0.hok.fresh (Nat.le_refl _),fun y c h=>?_,fun p U=>absurd (show p∈([]:List (Addr×Obj)) from U) (by simp),e0.hok.kept hk,?_⟩
 ·exact name_of_addr x.apart (PySem.mem_of_lookup h1) (PySem.mem_of_lookup h2)
 ·have hy:scope.names.lookup y=some .cell\/scope.names.lookup y=some .free:=hy
  rcases hy with hy | hy
  ·exact tH hy
  ·exact absurd rfl (S.nofree _ (PySem.mem_of_lookup hy))
 ·exact Nat.le_of_lt (x.above y c (PySem.mem_of_lookup h))
 ·have hi:i < vs.length:=by
   unfold start at h2
   by_cases hi:i < vs.length
   ·exact hi
   ·rw [List.getElem?_append_right (by simpa using hi)] at h2
    rw [List.getElem?_replicate] at h2
    split at h2<;>cases h2
  have ha:vs[i]? =some v:=by
   unfold start at h2
   rw [List.getElem?_append_left (by simpa using hi),List.getElem?_map] at h2
   cases e:vs[i]? with
   | none=>rw [e] at h2;cases h2
   | some a=>rw [e] at h2;cases h2;rfl
  obtain⟨u,hu,rv⟩:=r.get ha
  have U:ps[i]? =some y:=by
   rw [<-S.pre,List.getElem?_take_of_lt (by(clear hu ha h2 h1 ae;omega))];exact h1
  have aa:ps.Nodup:=by rw [<-S.pre];exact S.nd.sublist (List.take_sublist _ _)
  refine⟨u,rv,?_⟩
  rcases S.par y (List.mem_of_getElem? U) with k | k
  ·exact .inl ⟨k,si aa U hu k⟩
  ·obtain⟨c,e⟩:=tH (n:=s.heap.objs.size + 1) k
   refine .inr ⟨.inl k,c,e,?_⟩
   have q:=x.cell y c e
   rw [tS aa U hu (by show scope.names.lookup y≠_;rw [k];decide)] at q
   exact q
 ·exact e0.hok.fresh (Nat.le_of_lt (x.above y c (PySem.mem_of_lookup h)))
 ·unfold start
  show _=N.length
  rw [List.length_append,List.length_map,List.length_replicate]
  omega
theorem ug{CX:fR}{P:Program}{w:World}{K:W.Frag}{mg:Str->Option Value}{base:Heap}{k:Nat}{f:Addr}{name qual:Str}{params:Arguments}{body:List Stmt}{scope:Scope}{dV kV doc pm cdv ct oc:Value}{an od:Option Addr}
  {osl:Array (Option Value)}{N ps:List Str}{sp:Sp}(lk:K.lookup f=some ⟨oc,od,.func (W.fnOf name qual params body scope dV kV doc pm an cdv ct),osl⟩)(hcd:W.codeIn K cdv qual=true)(S:dD N ps scope)
  (len:∀ vs H Q E,sp vs H Q E->vs.length=ps.length)
  (hbody:∀(A:Around) (outer:List Env) (s:Shared) (H:Hp) (vs:List V) (Q:VK) (E:XK),dW k (A.deeper (envOfC qual scope s.heap.objs.size f cdv))->sp vs H Q E->
   ∃ t,cV (dY CX P w K mg base N qual scope f cdv A outer s H E) body t/\t {nx:=fun _ H'=>Q .non H',rt:=Q} (start N vs) H):
  cu P w K mg base CX (k + 1) f (W.fnOf name qual params body scope dV kV doc pm an cdv ct) ps sp:=by
 refine⟨len,fun A outer s H args us vs Q E hr e0 hb r ae=>?_⟩
 have hl:=len _ _ _ _ ae
 have KX:K.In s.heap:=e0.mod.kin.keeps fun b o e=>(e0.bs b o e).1
 have lim:s.heap.NoLimit:=e0.mod.nolimit.keeps fun b o e=>(e0.bs b o e).1
 have aa:∀ y∈ps.zip us,scope.names.lookup y.1=some .local\/(scope.names.lookup y.1=some .cell/\((cellsFrom (s.heap.objs.size + 1) scope.names []).lookup y.1).isSome=true):=fun⟨n,v⟩ hy=>by
  rcases S.par n (List.of_mem_zip hy).1 with q | q
  ·exact .inl q
  ·exact .inr ⟨q,W.cellsFrom_some _ _ _ (.inl q)⟩
 refine codeAny_call_function hr.depth (KX _ _ lk) rfl S.co S.gen rfl (W.codeRec_of KX hcd) (hb _ _ _ _ ?_)
 refine wpAny_newFunctionEnv_cells S.kind aa fun env he s1 x=>?_
 subst he
 refine⟨lim.keeps x.toInCall.keep,codeAny_func ?_⟩
 obtain⟨t,ht,hq⟩:=hbody A outer s H vs Q E (hr.deeper _) ae
 have I:Inv (dY CX P w K mg base N qual scope f cdv A outer s H E) [] (start N vs) H s1:=yB S hr.hd e0 hl r x
 refine wpAny_mono (ht [] s1 (start N vs) H _ I hq) (fun fl s' hs=>?_) fun e s' hs=>hs
 have fin:∀{U:St} {H':Hp} {v:V} {u:Value},Inv (dY CX P w K mg base N qual scope f cdv A outer s H E) [] U H' s'->RelV v u->Q v H'->CE outer P w H s Q u s':=
  fun{U H' v u} J rv q=>⟨v,H',J.os,J.bare,J.base,J.hok,rv,q⟩
 cases fl with
 | ret u=>
  obtain⟨v,U,H',J,rv,q⟩:=hs
  exact fin J rv q
 | next=>
  obtain⟨U,H',J,q⟩:=hs
  exact fin (v:=V.non) (u:=Value.none) J rfl q
 | brk=>
  obtain⟨_,_,_,q⟩:=hs
  exact False.elim q
 | cont=>
  obtain⟨_,_,_,q⟩:=hs
  exact False.elim q
section
variable {X : Cx} {x : Str} {p pos : Pos} {e : Expr} {es : List Expr} {t : TA} {id T : String} {r : List V -> Hp -> VK -> Prop}
noncomputable def sL(r:List V->Hp->VK->Prop)(t:TA):TE:=fun σ H Q=>t σ H fun vs H1=>r vs H1 Q
theorem dF(hc:gf X (.builtin id) r)(hg:Gl X x)(hm:X.mg x=none)(hv:bootBuiltins x=some (.builtin id))(ha:PA X (e::es) t)(hn:x≠"__name__":=by decide)(hdb:(x == ("__debug__":Str))=false:=by decide)
  (he:starEach (e::es) X.env=(false,eval e X.env)::starEach es X.env:=by rfl)(hpl:(backTo pos (starEach es X.env)).any (·.1)=false:=by rfl):PE X (.Call (.Name x p) (e::es) [] pos) (sL r t):=by
 intro pins s σ H Q I h
 refine wpAny_Call_Name_kw (iM I hg hm hv ?_ hn hdb)
 exact PyProof.Rows.callWith_builtin1 (cF (ha pos pins s σ H _ I h) fun us s1 ⟨vs,H1,J,U,q1⟩=>hc pins s1 σ H1 vs us Q J U q1) he hpl
theorem jy(hc:gf X (.type T) r)(hg:Gl X x)(hm:X.mg x=none)(hv:bootBuiltins x=some (.type T))(ha:PA X (e::es) t)(hn:x≠"__name__":=by decide)(hdb:(x == ("__debug__":Str))=false:=by decide)
  (he:starEach (e::es) X.env=(false,eval e X.env)::starEach es X.env:=by rfl)(hpl:(backTo pos (starEach es X.env)).any (·.1)=false:=by rfl):PE X (.Call (.Name x p) (e::es) [] pos) (sL r t):=by
 intro pins s σ H Q I h
 refine wpAny_Call_Name_kw (iM I hg hm hv ?_ hn hdb)
 exact PyProof.Rows.callWith_type1 (cF (ha pos pins s σ H _ I h) fun us s1 ⟨vs,H1,J,U,q1⟩=>hc pins s1 σ H1 vs us Q J U q1) he hpl
end
end L2
namespace HT
open PySem PyProof.Rows
section
open PySem.SeqAt
open PySem.AutoSeq1 (wpAny_loadPart')
open PySem.MeetsSeq PySem.MeetsSeq2 PySem.MeetsSeq3
end
section
variable {prog : Program} {w : World} {A : Around} {E : Value -> Shared -> Prop} {s : Shared}
noncomputable def fS(n d:Nat):Option Int->Nat
 | none=>d
 | some v=>if v < 0 then (v + (n:Int)).toNat else min v.toNat n
theorem Co(n d:Nat):fS n d none=d:=rfl
theorem qA(n d k:Nat):fS n d (some (k:Int))=min k n:=by
 show(if (k:Int) < 0 then ((k:Int) + (n:Int)).toNat else min (k:Int).toNat n)=min k n
 rw [if_neg (by omega),Int.toNat_natCast]
end
end HT
namespace L2
open PySem PySem.Spec PyProof.Rows
noncomputable abbrev TO:=St->Hp->(Option Int->Hp->Prop)->Prop
noncomputable def PO(X:Cx)(e:Option Expr)(t:TO):Prop:=
 ∀(pins:List (Addr×Obj)) (s:Shared) (σ:St) (H:Hp) (Q:Option Int->Hp->Prop),Inv X pins σ H s->t σ H Q->
  wpAny (model X.prog X.w) X.A (evalPart e X.env) (fun u s'=>∃ o H',Inv X pins σ H' s'/\IsPart u o/\Q o H') X.xe s
noncomputable def xE:TO:=fun _ H Q=>Q none H
noncomputable def vL(t:TE):TO:=fun σ H Q=>t σ H fun x H1=>∃ i,x= .int i/\Q (some i) H1
section
variable {X : Cx} {e : Expr} {te : TE} {lo hi : Option Expr} {tl th : TO} {pos p2 : Pos}
theorem lh:PO X none xE:=by
 intro pins s σ H Q I h
 rw [evalPart_none]
 exact wpAny_pure ⟨none,H,I,.none,h⟩
theorem hV(h:PE X e te):PO X (some e) (vL te):=by
 intro pins s σ H Q I hw
 rw [evalPart_some]
 refine cF (h pins s σ H _ I hw) fun u s1 ⟨x,H1,J,U,q1⟩=>?_
 obtain⟨i,rfl,q⟩:=q1
 obtain⟨t,rfl⟩:=U
 exact⟨some i,H1,J,.int i t,q⟩
noncomputable def qw(X:Cx)(r:V->Option Int->Option Int->Hp->VK->Prop):Prop:=
 ∀(pins:List (Addr×Obj)) (s:Shared) (σ:St) (H:Hp) (x:V) (v J U:Value) (lo hi:Option Int) (sl:Addr) (Q:VK),Inv X pins σ H s->RelV x v->s.heap.IsSliceOf sl J U .none->IsPart J lo->IsPart U hi->r x lo hi H Q->
  ∃ T id,typeLookup (.type T) "__getitem__"=pure (some (.builtin id))/\s.TypeIs v T/\wpAny (model X.prog X.w) X.A (getItem v (.ref sl)) (EP X pins σ Q) X.xe s
noncomputable def yF(r:V->Option Int->Option Int->Hp->VK->Prop)(te:TE)(tl th:TO):TE:=fun σ H Q=>te σ H fun x H1=>tl σ H1 fun l H2=>th σ H2 fun u J=>r x l u J Q
theorem jg{r:V->Option Int->Option Int->Hp->VK->Prop}(hr:qw X r)(he:PE X e te)(hl:PO X lo tl)(hu:PO X hi th):PE X (.Subscript e (.Slice lo hi none p2) pos) (yF r te tl th):=by
 intro pins s σ H Q I h
 refine Subscript_ (cF (he pins s σ H _ I h) fun v s1 ⟨x,H1,I1,r1,q1⟩=>?_)
 refine wpAny_Slice (cF (hl pins s1 σ H1 _ I1 q1) fun J s2 ⟨l,H2,I2,pl,q2⟩=>cF (hu pins s2 σ H2 _ I2 q2) fun U s3 ⟨u,H3,I3,pu,q3⟩=>?_)
 rw [evalPart_none]
 refine wpAny_pure ?_
 have I4:Inv X pins σ H3 {s3 with heap:=s3.heap.push {cls:= .type "slice",data:= .fields #[J,U,.none]}}:=I3.kept (t':=s3.toks) fun b ob q=>Heap.get?_push_of_some _ q
 obtain⟨T,id,hT,ht,hg⟩:=hr pins {s3 with heap:=s3.heap.push {cls:= .type "slice",data:= .fields #[J,U,.none]}} σ H3 x v J U l u s3.heap.objs.size Q I4 r1 (Heap.IsSliceOf.new ..) pl pu q3
 show wpAny (model X.prog X.w) X.A (subscriptTail e (.Slice lo hi none p2) v (.ref s3.heap.objs.size)) (EP X pins σ Q) X.xe {s3 with heap:=s3.heap.push {cls:= .type "slice",data:= .fields #[J,U,.none]}}
 exact tail_any (ops:=[.ref s3.heap.objs.size,v]) ht hT hg (by with_unfolding_all rfl)
noncomputable def dZ(xs:List V)(lo hi:Option Int):List V:=(xs.drop (HT.fS xs.length 0 lo)).take (HT.fS xs.length xs.length hi - HT.fS xs.length 0 lo)
theorem Ce(xs:List V)(lo hi:Option Int):(dZ xs lo hi).length<=xs.length:=by
 unfold dZ
 rw [List.length_take,List.length_drop]
 omega
end
noncomputable def jS(n:Nat)(i:Int):Option Nat:=if 0<=i then (if i < n then some i.toNat else none) else if -(n:Int)<=i then some (i + n).toNat else none
noncomputable def iZ{α:Type}(xs:List α)(i:Int):Option α:=(jS xs.length i).bind fun j=>xs[j]?
theorem uu{n:Nat}{i:Int}{j:Nat}(h:jS n i=some j):seqIndex? i n=some j/\j < n/\ -(n:Int)<=i/\i < n:=by
 unfold jS at h
 by_cases h0:0<=i
 ·rw [if_pos h0] at h
  by_cases h1:i < n
  ·rw [if_pos h1] at h
   have e:i.toNat=j:=Option.some.inj h
   exact⟨by rw [seqIndex_of h0 h1,e],by omega,by omega,h1⟩
  ·rw [if_neg h1] at h;cases h
 ·rw [if_neg h0] at h
  by_cases h1: -(n:Int)<=i
  ·rw [if_pos h1] at h
   have e:(i + n).toNat=j:=Option.some.inj h
   exact⟨by rw [seqIndex_neg (by(clear e h1;omega)) h1,e],by omega,h1,by omega⟩
  ·rw [if_neg h1] at h;cases h
theorem mw{α:Type}{xs:List α}{i:Int}{v:α}(h:iZ xs i=some v):∃ j,seqIndex? i xs.length=some j/\xs[j]? =some v/\j < xs.length/\ -(xs.length:Int)<=i/\i < xs.length:=by
 unfold iZ at h
 cases e:jS xs.length i with
 | none=>rw [e] at h;cases h
 | some j=>
  rw [e] at h
  obtain⟨h1,h2,J,U⟩:=uu e
  exact⟨j,h1,h,h2,J,U⟩
theorem cA{α:Type}{xs:List α}{j:Nat}{v:α}(h:xs[j]? =some v):iZ xs (j:Int)=some v:=by
 have J:j < xs.length:=(List.getElem?_eq_some_iff.mp h).1
 have e:jS xs.length (j:Int)=some j:=by
  unfold jS
  rw [if_pos (by(clear J h;omega)),if_pos (by omega)];simp
 unfold iZ;rw [e];exact h
noncomputable def A9(b:Expr):Prop:=∀ o i,subscripted b false o i=operate [o,i] (getItem o i)
noncomputable def lS(X:Cx)(r:R2):Prop:=
 ∀(value slice:Expr) (pins:List (Addr×Obj)) (s:Shared) (σ:St) (H:Hp) (x y:V) (v u:Value) (Q:VK),Inv X pins σ H s->RelV x v->RelV y u->r x y H Q->
  subscripted slice false v u=operate [v,u] (getItem v u)->wpAny (model X.prog X.w) X.A (subscriptTail value slice v u) (EP X pins σ Q) X.xe s
noncomputable def nP(X:Cx)(id:String)(r:V->List V->Hp->VK->Prop):Prop:=
 ∀(pins:List (Addr×Obj)) (s:Shared) (σ:St) (H:Hp) (x:V) (xs:List V) (v:Value) (us:List Value) (Q:VK),Inv X pins σ H s->RelV x v->Vals xs us->r x xs H Q->
  wpAny (model X.prog X.w) X.A (call (.builtin id) (v::us)) (EP X pins σ Q) X.xe s
section
variable {X : Cx} {a b : Expr} {ta tb : TE} {pos : Pos}
theorem cQ{r:R2}(hr:lS X r)(ha:PE X a ta)(hb:PE X b tb)(hs:A9 b):PE X (.Subscript a b pos) (nH r ta tb):=by
 intro pins s σ H Q I h
 exact Subscript_ (oq ha hb I h fun v u s2 x y H2 J U ry q=>hr a b pins s2 σ H2 x y v u Q J U ry q (hs _ _))
noncomputable def oj(K:W.Frag):R2:=fun x y H Q=>∃ p xs i v,x= .ref p/\y= .int i/\cm K H p xs/\iZ xs i=some v/\Q v H
noncomputable def zy(K:W.Frag):R2:=fun x y H Q=>∃ p xs i v,x= .ref p/\y= .int i/\cq K H p xs/\iZ xs i=some v/\Q v H
noncomputable def v5:R2:=fun x y H Q=>∃ z i c,x= .str z/\y= .int i/\z.length<=sizeLine/\iZ z.cps.toList i=some c/\Q (.str ⟨#[c]⟩) H
theorem gI:lS X (oj X.K):=by
 intro value slice pins s σ H x y v u Q I rx ry h hs
 obtain⟨p,xs,i,z,rfl,rfl,hq,he,q⟩:=h
 cases rx
 obtain⟨t,rfl⟩:=ry
 obtain⟨aa,r,pl,hz⟩:=I.list hq
 obtain⟨j,h1,h2,h3,h4,h5⟩:=mw he
 obtain⟨w,J,ae⟩:=r.get h2
 have hl:=r.length
 have hn:=kx
 have fin:EP X pins σ Q w s:=⟨z,H,I,ae,q⟩
 by_cases h0:0<=i
 ·have U:i.toNat=j:=by
   rw [seqIndex_of h0 h5] at h1
   exact Option.some.inj h1
  exact item_listR pl.isList h0 (by(clear U h0 hl J h4 h3 h2;omega)) (by rw [U];simpa using J) fin hs
 ·have U:(i + (aa.toArray.size:Int)).toNat=j:=by
   rw [seqIndex_neg (by(clear hn hl J h5 h4 h3 h2 hz;omega)) h4] at h1
   rw [List.size_toArray,<-hl]
   exact Option.some.inj h1
  exact subscriptTail_builtinR (x:=w) pl.isList.typeIs slot_list_getitem.lookup
   (wpAny_getItem_list_neg (Q:=fun r s'=>r=w/\EP X pins σ Q r s') pl.isList (by(clear U hn hl J h5 h4 h3 h2 hz;omega)) (by rw [List.size_toArray]<;>omega) (by omega) (by rw [U];simpa using J) ⟨rfl,fin⟩) hs
theorem dn:lS X (zy X.K):=by
 intro value slice pins s σ H x y v u Q I rx ry h hs
 obtain⟨p,xs,i,z,rfl,rfl,hq,he,q⟩:=h
 cases rx
 obtain⟨t,rfl⟩:=ry
 obtain⟨aa,r,pl,hz⟩:=I.tuple hq
 obtain⟨j,h1,h2,h3,h4,h5⟩:=mw he
 obtain⟨w,U,J⟩:=r.get h2
 have hl:=r.length
 have hn:=kx
 have fin:EP X pins σ Q w s:=⟨z,H,I,J,q⟩
 exact subscriptTail_builtinR (x:=w) pl.typeIs slot_tuple_getitem.lookup
  (getItem_tuple (j:=j) (Q:=fun r s'=>r=w/\EP X pins σ Q r s') pl (by(clear hl U h5 h3 h2;omega)) (by omega) (by rw [List.size_toArray,<-hl];exact h1) (by simpa using U) ⟨rfl,fin⟩) hs
theorem rj:lS X v5:=by
 intro value slice pins s σ H x y v u Q I rx ry h hs
 obtain⟨z,i,c,rfl,rfl,hz,he,q⟩:=h
 obtain⟨t,rfl⟩:=rx
 obtain⟨t',rfl⟩:=ry
 obtain⟨j,h1,h2,U,h4,h5⟩:=mw he
 have J:z.cps.toList.length=z.length:=by simp [Str.length]
 rw [J] at h1 h4 h5
 have hn:=kx
 exact tail_any (typeIs_str s z t) slot_str_getitem.lookup (getItem_str (c:=c) (by
  have e1:decide (i < -(2 ^ 63:Int))=false:=decide_eq_false (by(clear J h5 U h2;omega))
  have e2:decide (i ≥ 2 ^ 63)=false:=decide_eq_false (by(clear e1 J h4 U h2;omega))
  rw [e1,e2,Bool.or_false]) (by rw [h1];simpa using h2) ⟨.str ⟨#[c]⟩,H,I.tok _,⟨_,rfl⟩,q⟩) hs
theorem xo(its:List Value)(n j:Nat)(u:Value):Obj.mapSeq (·.setIfInBounds j u) {cls:= .type "list",data:= .seq its.toArray n}={cls:= .type "list",data:= .seq (its.set j u).toArray n}:=by
 simp [Obj.mapSeq]
theorem Inv.lst {pins:List (Addr×Obj)}{σ:St}{H:Hp}{s:Shared}{p:Addr}{xs:List V}(I:Inv X pins σ H s)(h:H p=some (.lst xs)):
  ∃(its:List Value) (n:Nat),Vals xs its/\s.heap.get? p=some {cls:= .type "list",data:= .seq its.toArray n}/\xs.length<=sizeLine:=by
 obtain⟨z,its,n,r,e⟩:=I.hok p _ h
 exact⟨its,n,r,e,z⟩
theorem Inv.lstUpd {pins:List (Addr×Obj)}{σ:St}{H:Hp}{s:Shared}{p:Addr}{xs ys:List V}{its its':List Value}{n n':Nat}{f:Obj->Obj}(I:Inv X pins σ H s)(h:H p=some (.lst xs))
  (ho:s.heap.get? p=some {cls:= .type "list",data:= .seq its.toArray n})(hf:f {cls:= .type "list",data:= .seq its.toArray n}={cls:= .type "list",data:= .seq its'.toArray n'})(r:Vals ys its')(hz:ys.length<=sizeLine)(t:Nat):
  Inv X pins σ (upd H p (.lst ys)) {s with heap:=s.heap.update p f,toks:=t}:=by
 have e:(s.heap.update p f).get? p=some {cls:= .type "list",data:= .seq its'.toArray n'}:=by
  rw [Heap.get?_update_self f ho (by rw [hf]<;>rfl),hf]
 refine I.write (x:=p) (e:=p) (by rw [h];trivial) (.inl rfl) (fun b u hb q=>(Heap.get?_update_other _ _ (Ne.symm hb)).trans q) ⟨_,e⟩ ?_
 exact⟨hz,its',n',r,e⟩
noncomputable def wO:V->V->V->Hp->(Hp->Prop)->Prop:=fun o i v H Q=>∃ p xs k j,o= .ref p/\i= .int k/\H p=some (.lst xs)/\jS xs.length k=some j/\Q (upd H p (.lst (xs.set j v)))
theorem set_list:sU X wO:=by
 intro pins s σ H o i v ov iv u Q I ro ri rv h
 obtain⟨p,xs,k,j,rfl,rfl,hp,hj,q⟩:=h
 cases ro
 obtain⟨t,rfl⟩:=ri
 obtain⟨U,n,r,ho,hz⟩:=I.lst hp
 obtain⟨h1,h2,h3,h4⟩:=uu hj
 have J:=r.length
 have hn:=kx
 have I':Inv X pins σ (upd H p (.lst (xs.set j v))) {s with heap:=s.heap.update p (Obj.mapSeq (·.setIfInBounds j u))}:=
  I.lstUpd hp ho (xo U n j u) (r.set rv j) (by rw [List.length_set];exact hz) s.toks
 by_cases h0:0<=k
 ·have hk:k.toNat=j:=by
   rw [seqIndex_of h0 h4] at h1
   exact Option.some.inj h1
  exact W.ki_setAt ho h0 (by(clear hk h0 J h3 h2;omega)) (by rw [List.size_toArray,<-J];exact h4) (by rw [hk];exact⟨_,I',q⟩)
 ·have hk:(k + (U.toArray.size:Int)).toNat=j:=by
   rw [seqIndex_neg (by(clear hn J h4 h3 h2 hz;omega)) h3] at h1
   rw [List.size_toArray,<-J]
   exact Option.some.inj h1
  exact W.ki_setBack ho (by(clear hk hn J h4 h3 h2 hz;omega)) (by rw [List.size_toArray,<-J];exact h3) (by omega) (by rw [hk];exact⟨_,I',q⟩)
theorem xV(lo hi:Option Int)(n:Nat):(sliceBounds lo hi none n).1=((HT.fS n 0 lo:Nat):Int)/\(sliceBounds lo hi none n).2.1=((HT.fS n n hi:Nat):Int)/\(sliceBounds lo hi none n).2.2=1:=by
 refine⟨?_,?_,rfl⟩
 ·cases lo with
  | none=>simp [sliceBounds,HT.fS]
  | some i=>
   simp only [sliceBounds,HT.fS,Option.getD_none,show(1:Int) > 0 by decide,if_true]
   by_cases h:i < 0
   ·simp only [h,if_true]<;>omega
   ·simp only [h,if_false]<;>(clear h;omega)
 ·cases hi with
  | none=>simp [sliceBounds,HT.fS]
  | some i=>
   simp only [sliceBounds,HT.fS,Option.getD_none,show(1:Int) > 0 by decide,if_true]
   by_cases h:i < 0
   ·simp only [h,if_true]<;>omega
   ·simp only [h,if_false]<;>(clear h;omega)
theorem vQ(its:List Value)(lo hi:Option Int):slicePick its.toArray lo hi none=((its.drop (HT.fS its.length 0 lo)).take (HT.fS its.length its.length hi - HT.fS its.length 0 lo)).toArray:=by
 obtain⟨h1,h2,J⟩:=xV lo hi its.toArray.size
 unfold slicePick
 rw [h1,h2,J]
 simp only [sliceRange_one,pick_run,List.size_toArray]<;>rfl
noncomputable def xg(K:W.Frag):V->Option Int->Option Int->Hp->VK->Prop:=fun x lo hi H Q=>∃ a xs,x= .ref a/\cm K H a xs/\∀ p,H p=none->Q (.ref p) (upd H p (.lst (dZ xs lo hi)))
theorem qh:qw X (xg X.K):=by
 intro pins s σ H x v vl vu lo hi sl Q I J hs pl pu h
 obtain⟨a,xs,rfl,U,q⟩:=h
 cases J
 obtain⟨aa,r,ht,hz⟩:=I.list U
 have hlen:=r.length
 refine⟨"list",_,slot_list_getitem.lookup,ht.isList.typeIs,?_⟩
 refine wpAny_getItem_list_slice ht.isList hs pl pu .none (by simp) ?_ (by rw [List.size_toArray]<;>omega)
 rw [vQ,<-hlen]
 refine⟨.ref s.heap.objs.size,_,I.laid (t':=s.toks) (o:= .lst (dZ xs lo hi)) (fun b ob q=>Heap.get?_push_of_some _ q) (Nat.le_refl _) ?_,rfl,q _ (I.hok.fresh (Nat.le_refl _))⟩
 exact⟨Nat.le_trans (Ce xs lo hi) hz,_,0,(r.drop (HT.fS xs.length 0 lo)).take (HT.fS xs.length xs.length hi - HT.fS xs.length 0 lo),Heap.get?_push_size _ rfl⟩
noncomputable def iW:V->Bool
 | .non=>true
 | .bl _=>true
 | .int _=>true
 | .str _=>true
 | _=>false
noncomputable def iX:V->V->Bool
 | .non,.non=>true
 | .bl a,.bl b=>a == b
 | .bl a,.int b=>(if a then 1 else 0) == b
 | .int a,.bl b=>a == (if b then 1 else 0)
 | .int a,.int b=>a == b
 | .str a,.str b=>a == b
 | _,_=>false
theorem Ct{A:Around}{s:Shared}{y x:V}{u v:Value}(ry:RelV y u)(rx:RelV x v)(fy:iW y=true)(fx:iW x=true):SeqAt.EqAt A s u v (iX y x):=by
 cases y with
 | non=>
  cases ry
  cases x with
  | non=>cases rx;exact SeqAt.EqAt.same _
  | bl b=>cases rx;exact SeqAt.EqAt.none_bool b
  | int b=>obtain⟨t,rfl⟩:=rx;exact SeqAt.EqAt.none_int b t
  | str b=>obtain⟨t,rfl⟩:=rx;exact SeqAt.EqAt.none_str b t
  | _=>exact absurd (show false=true from fx) Bool.false_ne_true
 | bl a=>
  cases ry
  cases x with
  | non=>cases rx;exact SeqAt.EqAt.bool_none a
  | bl b=>cases rx;exact SeqAt.EqAt.bool_bool a b
  | int b=>obtain⟨t,rfl⟩:=rx;exact SeqAt.EqAt.bool_int a b t
  | str b=>obtain⟨t,rfl⟩:=rx;exact SeqAt.EqAt.bool_str a b t
  | _=>exact absurd (show false=true from fx) Bool.false_ne_true
 | int a=>
  obtain⟨t',rfl⟩:=ry
  cases x with
  | non=>cases rx;exact SeqAt.EqAt.int_none a t'
  | bl b=>cases rx;exact SeqAt.EqAt.int_bool a t' b
  | int b=>obtain⟨t,rfl⟩:=rx;exact SeqAt.EqAt.int_int a t' b t
  | str b=>obtain⟨t,rfl⟩:=rx;exact SeqAt.EqAt.int_str a t' b t
  | _=>exact absurd (show false=true from fx) Bool.false_ne_true
 | str a=>
  obtain⟨t',rfl⟩:=ry
  cases x with
  | non=>cases rx;exact SeqAt.EqAt.str_none a t'
  | bl b=>cases rx;exact SeqAt.EqAt.str_bool a t' b
  | int b=>obtain⟨t,rfl⟩:=rx;exact SeqAt.EqAt.str_int a t' b t
  | str b=>obtain⟨t,rfl⟩:=rx;exact SeqAt.EqAt.str_str a t' b t
  | _=>exact absurd (show false=true from fx) Bool.false_ne_true
 | _=>exact absurd (show false=true from fy) Bool.false_ne_true
noncomputable def iL(x:V)(u:Value):Bool:=match u with
 | .none=>iX .non x
 | .bool b=>iX (.bl b) x
 | .int i _=>iX (.int i) x
 | .str z _=>iX (.str z) x
 | _=>false
theorem va{x y:V}{u:Value}(r:RelV y u)(f:iW y=true):iL x u=iX y x:=by
 cases y with
 | non=>cases r;rfl
 | bl b=>cases r;rfl
 | int i=>obtain⟨t,rfl⟩:=r;rfl
 | str z=>obtain⟨t,rfl⟩:=r;rfl
 | _=>exact absurd (show false=true from f) Bool.false_ne_true
theorem qe{x:V}:∀{xs:List V} {us:List Value},Vals xs us->xs.all iW=true->us.any (iL x)=xs.any fun y=>iX y x
 | _,_,.nil,_=>rfl
 | y::xs,u::us,.cons r t,f=>by
  rw [List.all_cons,Bool.and_eq_true] at f
  rw [List.any_cons,List.any_cons,va r f.1,qe t f.2]
theorem qP{A:Around}{s:Shared}{x:V}{v:Value}(rx:RelV x v)(fx:iW x=true):∀{xs:List V} {us:List Value},Vals xs us->xs.all iW=true->∀ u∈us,SeqAt.EqAt A s u v (iL x u)
 | _,_,.nil,_=>fun u hu=>by cases hu
 | y::xs,u::us,.cons r t,f=>fun J hu=>by
  rw [List.all_cons,Bool.and_eq_true] at f
  rcases List.mem_cons.mp hu with rfl | hu
  ·rw [va r f.1];exact Ct r rx f.1 fx
  ·exact qP rx fx t f.2 J hu
noncomputable def eO(x:V)(xs:List V):Bool:=xs.any fun y=>iX y x
noncomputable def y9(K:W.Frag)(neg:Bool):R2:=fun x y H Q=>∃ p xs,y= .ref p/\(cm K H p xs\/cq K H p xs)/\iW x=true/\xs.all iW=true/\Q (.bl (if neg then !eO x xs else eO x xs)) H
theorem uG:eI X (compareOp .In) (y9 X.K false):=by
 intro pins s σ H x y v u Q I U ry h
 obtain⟨p,xs,rfl,hq,fx,fs,q⟩:=h
 cases ry
 rcases hq with hq | hq
 ·obtain⟨J,r,pl,hz⟩:=I.list hq
  refine SeqAt.in_listAt (iL x) pl.isList (fun w hw=>qP U fx r fs w (by simpa using hw)) ⟨.bl _,H,I,rfl,?_⟩
  rw [show J.toArray.any (iL x)=J.any (iL x) by simp,qe r fs]
  exact q
 ·obtain⟨J,r,pl,hz⟩:=I.tuple hq
  refine SeqAt.in_tupleAt (iL x) pl (fun w hw=>qP U fx r fs w (by simpa using hw)) ⟨.bl _,H,I,rfl,?_⟩
  rw [show J.toArray.any (iL x)=J.any (iL x) by simp,qe r fs]
  exact q
theorem fO:gf X (.builtin "len") (fun xs H Q=>∃ p ys,xs=[.ref p]/\(cm X.K H p ys\/cq X.K H p ys)/\Q (.int ys.length) H):=by
 intro pins s σ H xs us Q I r h
 obtain⟨p,ys,rfl,hq,q⟩:=h
 obtain⟨u,rfl,rx⟩:=vals1 r
 cases rx
 have hn:=kx
 rcases hq with hq | hq
 ·obtain⟨J,U,pl,hz⟩:=I.list hq
  have hlen:=U.length
  exact Calls.call_len_list pl.isList (by simp only [List.size_toArray]<;>omega) ⟨.int ys.length,H,I.tok _,⟨s.toks + 1,by rw [List.size_toArray,hlen]⟩,q⟩
 ·obtain⟨J,U,pl,hz⟩:=I.tuple hq
  have hlen:=U.length
  exact len_tuple pl (by simp only [List.size_toArray]<;>omega) ⟨.int ys.length,H,I.tok _,⟨s.toks + 1,by rw [List.size_toArray,hlen]⟩,q⟩
theorem mV:gf X (.builtin "len") (fun xs H Q=>∃ z,xs=[.str z]/\z.length<=sizeLine/\Q (.int z.length) H):=by
 intro pins s σ H xs us Q I r h
 obtain⟨z,rfl,hz,q⟩:=h
 obtain⟨u,rfl,t,rfl⟩:=vals1 r
 have hn:=kx
 exact len_str (by omega) ⟨.int z.length,H,I.tok _,⟨_,rfl⟩,q⟩
theorem qt:gf X (.type "list") (fun xs H Q=>∃ p ys,xs=[.ref p]/\(cm X.K H p ys\/cq X.K H p ys)/\∀ l,H l=none->Q (.ref l) (upd H l (.lst ys))):=by
 intro pins s σ H xs us Q I r h
 obtain⟨p,ys,rfl,hq,q⟩:=h
 obtain⟨u,rfl,rx⟩:=vals1 r
 cases rx
 have fin:∀(J:List Value),Vals ys J->ys.length<=sizeLine->∀(h':Heap) (U:Nat),(∀ b o',s.heap.get? b=some o'->h'.get? b=some o')->
   h'.get? s.heap.objs.size=some {cls:= .type "list",dict:=none,data:= .seq J.toArray U,slots:=#[]}->EP X pins σ Q (.ref s.heap.objs.size) {s with heap:=h'}:=fun J r' hz h' U kp e=>
  ⟨.ref s.heap.objs.size,_,I.laid (t':=s.toks) kp (Nat.le_refl _) (show dP X.prog X.w _ h' _ (.lst ys) from⟨hz,J,U,r',e⟩),rfl,q _ (I.hok.fresh (Nat.le_refl _))⟩
 rcases hq with hq | hq
 ·obtain⟨J,r',pl,hz⟩:=I.list hq
  have hlen:=r'.length
  obtain⟨o,ho,hc,n,hd⟩:=pl.isList
  exact call_list_seq p (.inl rfl) ho hc hd (fun h' U kp e=>fin J r' hz h' U kp e) (by simp only [List.size_toArray]<;>omega)
 ·obtain⟨J,r',pl,hz⟩:=I.tuple hq
  have hlen:=r'.length
  obtain⟨o,ho,hc,n,hd⟩:=pl
  exact call_list_seq p (.inr rfl) ho hc hd (fun h' U kp e=>fin J r' hz h' U kp e) (by simp only [List.size_toArray]<;>omega)
theorem p7:gf X (.type "tuple") (fun xs H Q=>∃ p ys,xs=[.ref p]/\((cm X.K H p ys/\∀ l,H l=none->Q (.ref l) (upd H l (.tup ys)))\/(cq X.K H p ys/\Q (.ref p) H))):=by
 intro pins s σ H xs us Q I r h
 obtain⟨p,ys,rfl,h⟩:=h
 obtain⟨u,rfl,rx⟩:=vals1 r
 cases rx
 rcases h with ⟨U,q⟩ | ⟨U,q⟩
 ·obtain⟨J,r',pl,hz⟩:=I.list U
  have hlen:=r'.length
  refine call_tuple_list pl.isList (fun h' kp=>?_) (by simp only [List.size_toArray]<;>omega)
  have I1:Inv X pins σ H {s with heap:=h'}:=I.kept (t':=s.toks) kp
  have I2:Inv X pins σ (upd H h'.objs.size (.tup ys)) {s with heap:=h'.push {cls:= .type "tuple",data:= .seq J.toArray}}:=
   I1.laid (t':=s.toks) (fun b o e=>Heap.get?_push_of_some _ e) (Nat.le_refl _) (show dP X.prog X.w _ _ _ (.tup ys) from⟨hz,J,r',IsTup.new _ _⟩)
  exact⟨.ref h'.objs.size,_,I2,rfl,q _ (I1.hok.fresh (Nat.le_refl _))⟩
 ·obtain⟨J,r',pl,hz⟩:=I.tuple U
  exact call_tuple_same pl ⟨.ref p,H,I,rfl,q⟩
noncomputable def pf(K:W.Frag)(T:String)(x:V)(H:Hp):Prop:=match x with
 | .str _=>T="str"
 | .int _=>T="int"
 | .ref p=>(T="list"/\∃ xs,cm K H p xs)\/(T="tuple"/\∃ o,K.lookup p=some o/\o.cls= .type "tuple"/\o.dict=none)\/
   (T="dict"/\((∃ kvs,H p=some (.dK kvs))\/∃ kvs,H p=some (.dT kvs)))\/(T="set"/\∃ S n,H p=some (.set S n))
 | _=>False
theorem zA{pins:List (Addr×Obj)}{σ:St}{H:Hp}{s:Shared}{T:String}{x:V}{v:Value}(I:Inv X pins σ H s)(r:RelV x v)(ty:pf X.K T x H):
  s.TypeIs v T/\∀ a,v= .ref a->∃ ob,s.heap.get? a=some ob/\ob.dict=none:=by
 cases x with
 | str z=>
  obtain⟨t,rfl⟩:=r
  cases (show T="str" from ty)
  exact⟨typeIs_str s z t,fun _ e=>nomatch e⟩
 | int i=>
  obtain⟨t,rfl⟩:=r
  cases (show T="int" from ty)
  exact⟨typeIs_int s i t,fun _ e=>nomatch e⟩
 | ref p=>
  cases r
  rcases ty with ⟨rfl,xs,U⟩ | ⟨rfl,o,hk,hc,hd⟩ | ⟨rfl,hk⟩ | ⟨rfl,S,n,hk⟩
  ·obtain⟨aa,_,pl,_⟩:=I.list U
   refine⟨pl.isList.typeIs,fun a e=>?_⟩
   cases e
   obtain⟨o,n,e,c,hd,_⟩:=pl
   exact⟨o,e,hd⟩
  ·refine⟨⟨o,I.kIn p o hk,hc⟩,fun a e=>?_⟩
   cases e
   exact⟨o,I.kIn _ o hk,hd⟩
  ·have z:∃ o,s.heap.get? p=some o/\o.ExactDict:=by
    rcases hk with ⟨kvs,hk⟩ | ⟨kvs,hk⟩
    ·obtain⟨_,_,_,_,o,_,_,e,ex,_⟩:=I.hok p _ hk
     exact⟨o,e,ex⟩
    ·obtain⟨_,_,_,_,o,_,_,e,ex,_⟩:=I.hok p _ hk
     exact⟨o,e,ex⟩
   obtain⟨o,e,ex⟩:=z
   refine⟨⟨o,e,ex.1⟩,fun a J=>?_⟩
   cases J
   exact⟨o,e,ex.2.1⟩
  ·obtain⟨o,_,_,_,e,ex,_⟩:=I.hok p _ hk
   refine⟨⟨o,e,ex.1⟩,fun a J=>?_⟩
   cases J
   exact⟨o,e,ex.2.1⟩
 | _=>exact False.elim ty
noncomputable def qN(K:W.Frag)(T:String)(r:V->List V->Hp->VK->Prop)(to:TE)(t:TA):TE:=fun σ H Q=>to σ H fun x H1=>pf K T x H1/\t σ H1 fun xs H2=>r x xs H2 Q
variable {o e : Expr} {es : List Expr} {to : TE} {t : TA} {name : Str} {apos cpos : Pos} {T id : String} {r : V -> List V -> Hp -> VK -> Prop}
theorem gj(pa:PlainAttrs T)(slot:Slot T name id)(hty:typeOf (.builtin id)=pure (.type "method_descriptor"))(hm:nP X id r)(ho:PE X o to)(ha:PA X (e::es) t)
  (hbase:attributeBase o name X.env (eval o X.env)=eval o X.env:=by rfl)
  (hfew:((backTo cpos (starEach (e::es) X.env)).all (fun x=> !x.1) && (backToKw cpos (keywordEach [] X.env)).all (fun x=>x.1.isSome)
   && decide ((e::es).length + ([]:List Keyword).length + (if ([]:List Keyword).isEmpty then 0 else 1) < 30))=true:=by rfl)
  (hline:(apos.endLine == cpos.line)=true:=by rfl)(hs:starEach (e::es) X.env=(false,eval e X.env)::starEach es X.env:=by rfl)(hplain:(backTo cpos (starEach es X.env)).any (·.1)=false:=by rfl):
  PE X (.Call (.Attribute o name apos) (e::es) [] cpos) (qN X.K T r to t):=by
 intro pins s σ H Q I h
 refine wpAny_Call_method_late hbase hfew hline rfl (cF (ho pins s σ H _ I h) fun v s1 ⟨x,H1,J,U,ty,q1⟩=>?_)
 obtain⟨h1,h2⟩:=zA J U ty
 refine⟨T,id,pa,slot,hty,h1,h2,?_⟩
 have hA:=ha cpos pins s1 σ H1 _ J q1
 rw [hs] at hA ⊢
 refine Calls.callWith_builtin (by show(false || (backTo cpos (starEach es X.env)).any (·.1))=false;rw [hplain]<;>rfl) (Calls.evalArgs_plain ?_)
 exact cF hA fun us s2 ⟨vs,H2,I2,r2,q2⟩=>hm pins s2 σ H2 x vs v us Q I2 U r2 q2
end
noncomputable def kL(X:Cx)(id:String)(r:V->List V->Hp->VK->Prop):Prop:=
 ∀(pins:List (Addr×Obj)) (s:Shared) (σ:St) (H:Hp) (x:V) (xs:List V) (v:Value) (us:List Value) (Q:VK),Inv X pins σ H s->RelV x v->Vals xs us->r x xs H Q->
  wpAny (model X.prog X.w) X.A (call (.builtin id) (v::us)) (EP X pins σ Q) X.xe s
theorem Vals.one:∀{x:V} {us:List Value},Vals [x] us->∃ u,us=[u]/\RelV x u
 | _,_,.cons r .nil=>⟨_,rfl,r⟩
theorem Vals.two:∀{x y:V} {us:List Value},Vals [x,y] us->∃ u v,us=[u,v]/\RelV x u/\RelV y v
 | _,_,_,.cons r (.cons q .nil)=>⟨_,_,rfl,r,q⟩
theorem Vals.eraseIdx:∀{xs:List V} {us:List Value} (i:Nat),Vals xs us->Vals (xs.eraseIdx i) (us.eraseIdx i)
 | _,_,_,.nil=> .nil
 | _,_,0,.cons _ t=>t
 | _,_,i + 1,.cons r t=> .cons r (Vals.eraseIdx i t)
theorem pF{α:Type}:∀(l:List α) (i:Nat),(l.eraseIdx i).length<=l.length
 | [],_=>Nat.le_refl _
 | _::_,0=>Nat.le_succ _
 | _::r,i + 1=>Nat.succ_le_succ (pF r i)
section
variable {X : Cx} {pins : List (Addr × Obj)} {σ : St} {H : Hp} {s : Shared} {l b : Addr} {xs ys zs : List V}
theorem Inv.lset {its its':List Value}{n:Nat}{f:Array Value->Array Value}{t':Nat}(I:Inv X pins σ H s)(hH:H l=some (.lst xs))
  (e:s.heap.get? l=some {cls:= .type "list",data:= .seq its.toArray n})(hf:f its.toArray=its'.toArray)(hv:Vals ys its')(hz:ys.length<=sizeLine):
  Inv X pins σ (upd H l (.lst ys)) {s with heap:=s.heap.update l (Obj.mapSeq f),toks:=t'}:=by
 have q:=PySem.IsL.update e f
 rw [hf] at q
 refine I.write (x:=l) (e:=l) (by rw [hH];exact trivial) (.inl rfl) (fun U u hb J=>(Heap.get?_update_other s.heap (Obj.mapSeq f) (Ne.symm hb)).trans J) ⟨_,q⟩ ?_
 exact⟨hz,its',_,hv,q⟩
theorem Inv.lnew {its:List Value}{t':Nat}(I:Inv X pins σ H s)(hv:Vals ys its)(hz:ys.length<=sizeLine):
  Inv X pins σ (upd H s.heap.objs.size (.lst ys)) {s with heap:=s.heap.push {cls:= .type "list",data:= .seq its.toArray},toks:=t'}:=
 I.laid (fun _ _ q=>Heap.get?_push_of_some _ q) (Nat.le_refl _) ⟨hz,its,0,hv,Heap.get?_push_size _ rfl⟩
theorem Inv.fresh (I:Inv X pins σ H s):H s.heap.objs.size=none:=I.hok.fresh (Nat.le_refl _)
theorem Inv.lstM (I:Inv X pins σ H s)(hH:H l=some (.lst xs)):xs.length<=sizeLine/\∃(its:List Value) (n:Nat),Vals xs its/\xs.length=its.length/\s.heap.get? l=some {cls:= .type "list",data:= .seq its.toArray n}:=by
 obtain⟨z,its,n,r,e⟩:=I.hok l _ hH
 exact⟨z,its,n,r,r.length,e⟩
theorem zP{n:Nat}(h:n<=sizeLine):Builtin.List.listTooLong n=false:=by
 unfold Builtin.List.listTooLong
 exact decide_eq_false (by omega)
end
section
variable {X : Cx}
noncomputable def y7:V->List V->Hp->VK->Prop:=fun x vs H Q=>∃ l xs y,x= .ref l/\vs=[y]/\H l=some (.lst xs)/\xs.length < sizeLine/\Q .non (upd H l (.lst (xs++[y])))
theorem jr:kL X "list.append" y7:=by
 intro pins s σ H x vs v us Q I rx rv h
 obtain⟨l,xs,y,rfl,rfl,U,hz,q⟩:=h
 cases rx
 obtain⟨u,rfl,ru⟩:=rv.one
 obtain⟨z,J,n,r,hl,e⟩:=I.lstM U
 refine call_meets F.slot_list_append ⟨_,e,rfl⟩ F.entry_list_append (F.args_list_append_2 _ _) (PySem.list_append l J.toArray n u (by rw [List.size_toArray];(clear hz;omega))) ⟨e,?_⟩
 refine⟨.non,_,I.lset (its':=J++[u]) U e (by simp) (r.append (.cons ru .nil)) ?_,rfl,q⟩
 rw [List.length_append,List.length_singleton]
 (clear hl z;omega)
noncomputable def B7:V->List V->Hp->VK->Prop:=fun x vs H Q=>∃ l b xs zs,x= .ref l/\vs=[.ref b]/\H l=some (.lst xs)/\H b=some (.lst zs)/\xs.length + zs.length<=sizeLine/\Q .non (upd H l (.lst (xs++zs)))
theorem Bx:kL X "list.extend" B7:=by
 intro pins s σ H x vs v us Q I rx rv h
 obtain⟨l,b,xs,zs,rfl,rfl,hH,hB,hz,q⟩:=h
 cases rx
 obtain⟨u,rfl,ru⟩:=rv.one
 cases ru
 obtain⟨z,U,n,r,hl,e⟩:=I.lstM hH
 obtain⟨z2,J,n2,r2,af,e2⟩:=I.lstM hB
 have aa:U.toArray.size + J.toArray.size<=sizeLine:=by rw [List.size_toArray,List.size_toArray];(clear z2 z;omega)
 have ae:¬ (!U.toArray.isEmpty && Builtin.List.listTooLong (U.toArray.size + J.toArray.size))=true:=by
  rw [zP aa,Bool.and_false]
  exact Bool.false_ne_true
 refine call_meets F.slot_list_extend ⟨_,e,rfl⟩ F.entry_list_extend (F.args_list_extend_2 _ _)
  (AutoSeq1.list_extend_list_list_0 l U.toArray n b J.toArray n2 ae (by rw [List.size_toArray];(clear aa af z2 hz;omega)) (by omega)) ⟨e,e2,?_⟩
 refine⟨.non,_,I.lset (its':=U++J) hH e (by simp) (r.append r2) ?_,rfl,q⟩
 rw [List.length_append]
 (clear aa af z2 hl z;omega)
noncomputable def vX:V->List V->Hp->VK->Prop:=fun x vs H Q=>∃ l xs i k y,x= .ref l/\vs=[.int i]/\H l=some (.lst xs)/\ -(2 ^ 63)<=i/\i < 2 ^ 63/\seqIndex? i xs.length=some k/\xs[k]? =some y/\Q y (upd H l (.lst (xs.eraseIdx k)))
theorem yL:kL X "list.pop" vX:=by
 intro pins s σ H x vs v us Q I rx rv h
 obtain⟨l,xs,i,k,y,rfl,rfl,hH,h1,h2,hk,U,q⟩:=h
 cases rx
 obtain⟨u,rfl,ru⟩:=rv.one
 obtain⟨t,rfl⟩:=ru
 obtain⟨z,J,n,r,hl,e⟩:=I.lstM hH
 obtain⟨w,hw,aa⟩:=r.get U
 refine call_meets F.slot_list_pop ⟨_,e,rfl⟩ F.entry_list_pop (F.args_list_pop_2 _ _)
  (MeetsSeq.list_pop_at l J.toArray n i t k w (fitsIndex_both h1 h2) (by rw [List.size_toArray,<-hl];exact hk) (by rw [<-Array.getElem?_toList];exact hw) (by rw [List.size_toArray];(clear hw U h2 h1;omega))) ⟨e,?_⟩
 refine⟨y,_,I.lset (its':=J.eraseIdx k) hH e ?_ (r.eraseIdx k) ?_,aa,q⟩
 ·show J.toArray.eraseIdxIfInBounds k=(J.eraseIdx k).toArray
  rw [List.eraseIdxIfInBounds_toArray]
 ·have:=pF xs k
  (clear hw hl U h2 h1;omega)
noncomputable def xu:R2:=fun x y H Q=>∃ l b xs zs,x= .ref l/\y= .ref b/\H l=some (.lst xs)/\H b=some (.lst zs)/\xs.length + zs.length<=sizeLine/\∀ p,H p=none->Q (.ref p) (upd H p (.lst (xs++zs)))
theorem m9:eI X (binaryOp .Add) xu:=by
 intro pins s σ H x y v u Q I rx ry h
 obtain⟨l,b,xs,zs,rfl,rfl,hH,hB,hz,q⟩:=h
 cases rx
 cases ry
 obtain⟨z,U,n,r,hl,e⟩:=I.lstM hH
 obtain⟨z2,J,n2,r2,aa,e2⟩:=I.lstM hB
 refine PySem.P.add_list e e2 ?_ (by rw [List.size_toArray,List.size_toArray];(clear z2 z;omega))
 have ea:U.toArray++J.toArray=(U++J).toArray:=by simp
 rw [ea]
 exact⟨.ref _,_,I.lnew (t':=s.toks) (r.append r2) (by rw [List.length_append];(clear aa z2 hl z;omega)),rfl,q _ I.fresh⟩
end
section
variable {prog : Program} {w : World} {A : Around} {E : Value -> Shared -> Prop} {s : Shared}
end
section
variable {X : Cx}
end
end L2
namespace Att
open PySem PySem.W PySem.Calls PyProof.Rows
theorem zd{P:Params}{h:Heap}:∀(ns:List Int) (vs:List Value),WellAll P h vs (ns.map WData.int)->IntsAre vs ns:=by
 intro ns
 induction ns with
 | nil=>
  intro vs w
  rw [List.map_nil] at w
  cases w
  exact .nil
 | cons n ns J=>
  intro vs w
  rw [List.map_cons] at w
  cases w with
  | cons a b=>
   cases a
   exact .cons _ _ (J _ b)
theorem Ak{l:OpenLaw}{n:Nat}(hn:l.most=some n){P:Params}{h:Heap}{args:List WData}{vals:List Value}
  (hpre:l.row.toRowW.claim.pre args=true)(hwl:WellAll P h vals args):
  ∃ a vs ns,vals=[Value.ref a]/\args=[WData.list (ns.map WData.int)]/\h.get? a=some {cls:= .type "list",data:= .seq vs.toArray}/\IntsAre vs ns/\ns.length<=n:=by
 have aa:WShape.hasAll [] args [.list .int]=true:=(pre_splitW hpre).1
 have hc:l.pre.holds [] {args:=args}=true:=(pre_splitW hpre).2
 obtain⟨d,r,rfl,h1,h2⟩:=hasAllW_cons aa
 obtain rfl:=hasAllW_nil h2
 obtain⟨xs,rfl,h3⟩:=hasW_list h1
 obtain⟨ns,rfl⟩:=items_int h3
 have hlen:ns.length<=n:=by
  unfold OpenLaw.pre at hc
  have h4:(WTm.not (.lt (.lit (.int (n:Int))) (.len (.arg 0)))).holds [] {args:=[.list (ns.map .int)]}=true:=by
   have h4:=(holds_andW hc).1
   rw [hn] at h4
   exact h4
  have J:=condW_of h4 (w_not (w_lt w_lit (w_len_list (w_arg rfl))))
  rw [List.length_map] at J
  refine Nat.le_of_not_lt fun q=>?_
  have q':(n:Int) < ((ns.length:Nat):Int):=by(clear J;omega)
  first
   | (rw [decide_eq_true q'] at J;exact absurd J (by decide))
   | (simp at J;omega)
 cases hwl with
 | cons w1 w2=>
  cases w2
  cases w1 with
  | list ho U=>exact⟨_,_,ns,rfl,rfl,ho,zd ns _ U,hlen⟩
theorem xR(l:OpenLaw)(args:List WData):l.row.toRowW.claim.post args (.bool true) args=true:=
 postW_of (r:=l.row.toRowW) (X:=(true == true))
  (show WShape.has [] (.bool true) .bool=true by first | rfl | decide | simp [WShape.has,WShape.arms,WShape.armsAll])
  (show(WTm.eq .res (.lit (.bool true))).value [] {args:=args,res:=some (.bool true),after:=args}=some (.bool (true == true)) from w_eq_bool (w_res rfl) w_lit) rfl
section
variable {prog : Program} {w : World} {A : Around} {E : Value -> Shared -> Prop} {s : Shared} {K : Frag}
end
end Att
namespace L2
open PySem PySem.Spec PyProof.Rows
theorem u7:∀{vs:List Value} {ns:List Int},IntsAre vs ns->Vals (ns.map V.int) vs
 | _,_,.nil=> .nil
 | _,_,.cons n t h=> .cons ⟨t,rfl⟩ (u7 h)
noncomputable def uh(H:Hp):Prop:=∀ b,H b=none\/∃ o xs,H b=some (.frz o (.lst xs))
theorem B8{P:Program}{w:World}{K:W.Frag}{mg mb:Str->Option Value}{CX:fR}{k:Nat}{fa a:Addr}{fd:FuncData}{x:Str}{sp:Sp}{s₁:Shared}{vs:List Value}{ns:List Int}
  (KX:K.In s₁.heap)(hns:s₁.heap.Ns mainGlobals mg)(hb:s₁.heap.Ns builtinsNs mb)(hbb:∀ x:Str,x≠"__name__"->mb x=bootBuiltins x)(hlim:s₁.heap.NoLimit)(hg:s₁.gens=#[])
  (ha:s₁.heap.get? a=some {cls:= .type "list",data:= .seq vs.toArray})(hi:IntsAre vs ns)(hl:ns.length<=sizeLine)(hr:dW k callerA)
  (F:∀ base:Heap,K.In base->base.Ns mainGlobals mg->cu P w K mg base CX k fa fd [x] sp)(hbind:∀(s:Shared) (u:Value),BindsTo s fd ⟨[u],[]⟩ [(x,u)])
  (hsp:∀ H:Hp,uh H->cm K H a (ns.map V.int)->sp [.ref a] H (fun v _=>v= .bl true) fun _ _ _=>False)
  (hCX:∀ H e s',CX [] H s₁ (fun _ _ _=>False) e s'->False):
  codeAny (model P w) callerA (.call (.ref fa) ⟨[.ref a],[]⟩) (fun r s'=>r= .ok (.ret (.bool true))/\OldK s₁.heap s'.heap/\s'.os=s₁.os/\AllBare s'.gens) s₁:=by
 have rv:=u7 hi
 have aa:=hi.length
 have core:∀ H:Hp,uh H->cm K H a (ns.map V.int)->dJ P w H s₁.heap->(∀ b,H b≠none->b=a)->(H a≠none->K.lookup a=none)->
   codeAny (model P w) callerA (.call (.ref fa) ⟨[.ref a],[]⟩) (fun r s'=>r= .ok (.ret (.bool true))/\OldK s₁.heap s'.heap/\s'.os=s₁.os/\AllBare s'.gens) s₁:=by
  intro H hO hS hok hA hK
  have J:∀{b:Addr} {o:Obj},s₁.heap.get? b=some o->H b=none->(iS s₁.heap H).get? b=some o:=fun e n=>xP e n
  have ag:∀{b:Addr} {o:Obj} {es:Array DictEntry} {ep:Nat},s₁.heap.get? b=some o->o.data= .dict es ep->H b=none:=fun{b o es ep} e d=>by
   cases q:H b with
   | none=>rfl
   | some u=>
    have e':b=a:=hA b (by rw [q];simp)
    subst e'
    rw [ha] at e;cases e
    have d':Data.seq vs.toArray _=Data.dict es ep:=d
    cases d'
  have U:∀{b:Addr} {m:Str->Option Value},s₁.heap.Ns b m->(iS s₁.heap H).Ns b m:=fun{b m} ⟨o,es,ep,e,d,r⟩=>⟨o,es,ep,J e (ag e d),d,r⟩
  have ae:K.In (iS s₁.heap H):=fun b o e=>J (KX b o e) (by
   cases q:H b with
   | none=>rfl
   | some u=>
    have e':b=a:=hA b (by rw [q];simp)
    subst e'
    rw [hK (by rw [q];simp)] at e;cases e)
  have hM:Mod K mg (iS s₁.heap H):=⟨ae,U hns,⟨mb,U hb,hbb⟩,let ⟨mc,h1,h2⟩:=hlim;⟨mc,U h1,h2⟩⟩
  have e0:ka P w K mg (iS s₁.heap H) callerA [] s₁ H:=⟨rfl,hM,fun b o e=>BQ e,Nat.le_of_eq (Ai _ _),trivial,fun b hb=>absurd (show b∈([]:List Addr) from hb) (by simp),hok,.of_eq hg⟩
  refine codeAny_mono ((F _ ae (U hns)).run callerA [] s₁ H ⟨[.ref a],[]⟩ [.ref a] [.ref a] _ _ hr e0 (hbind s₁ (.ref a)) (.cons rfl .nil) (hsp H hO hS)) fun r s' h=>?_
  cases r with
  | error e=>exact(hCX H e s' h).elim
  | ok fl=>
   cases fl with
   | next=>exact False.elim h
   | brk=>exact False.elim h
   | cont=>exact False.elim h
   | ret u=>
    obtain⟨v,H',os,bare,un,af,r',q⟩:=h
    have q':v= .bl true:=q
    subst q'
    obtain rfl:u=Value.bool true:=r'
    refine⟨rfl,OldK.of_keep fun b o e=>?_,os,bare⟩
    cases q:H b with
    | none=>exact un.keep b o e q (by intro z;exact absurd (show b∈([]:List Addr) from z) (by simp)) (by simp)
    | some u=>
     rcases hO b with z | ⟨ob,xs,z⟩
     ·rw [q] at z;cases z
     ·have z2:=un.frzs b ob _ z
      obtain⟨e1,_⟩:=hok b _ z
      obtain⟨e2,_⟩:=af b _ z2
      rw [e] at e1;cases e1
      exact e2
 cases hk:K.lookup a with
 | some o=>
  have e:=KX a o hk
  rw [ha] at e
  cases e
  refine core (fun _=>none) (fun _=> .inl rfl) (.inr ⟨_,vs.toArray,_,hk,rfl,rfl,rfl,by rw [List.size_toArray,aa];exact hl,by simpa using rv⟩) (fun b u z=>by have z':(none:Option HO)=some u:=z;cases z') (fun b z=>absurd rfl z) fun z=>absurd rfl z
 | none=>
  refine core (fun b=>if b=a then some (.frz {cls:= .type "list",data:= .seq vs.toArray} (.lst (ns.map V.int))) else none) (fun b=>?_) (.inl (.inr ⟨{cls:= .type "list",data:= .seq vs.toArray},if_pos rfl⟩)) (fun b u z=>?_) (fun b z=>?_) fun _=>hk
  ·by_cases hb:b=a
   ·exact .inr ⟨_,_,if_pos hb⟩
   ·exact .inl (if_neg hb)
  ·by_cases hb:b=a
   ·have z':=(if_pos hb).symm.trans z
    cases z'
    subst hb
    exact⟨ha,by rw [List.length_map];exact hl,vs,_,rv,ha⟩
   ·have z':=(if_neg hb).symm.trans z
    cases z'
  ·by_cases hb:b=a
   ·exact hb
   ·exact absurd (if_neg hb) z
noncomputable abbrev c7{K:W.Frag}{h:Heap}(_:K.In h):W.Frag:=K
noncomputable def inClass(s:Stmt)(j:Nat):Stmt:=match s with
 | .ClassDef _ _ _ body _ _ _ _ _ _ _=>body.getD j (.Pass ⟨0,0,0,0⟩)
 | _=> .Pass ⟨0,0,0,0⟩
noncomputable def cP(s:Stmt):Arguments:=match s with
 | .FunctionDef _ a _ _ _ _ _ _ _ _=>a
 | _=>{posonlyargs:=[],args:=[],vararg:=none,kwonlyargs:=[],kw_defaults:=[],kwarg:=none,defaults:=[]}
noncomputable def cL(s:Stmt):List Stmt:=match s with
 | .FunctionDef _ _ b _ _ _ _ _ _ _=>b
 | _=>[]
noncomputable def cv(s:Stmt):Scope:=match s with
 | .FunctionDef _ _ _ _ _ _ sc _ _ _=>sc
 | _=>{kind:= .function,names:=[],isGenerator:=false,isCoroutine:=false}
noncomputable abbrev cC:fR:=fun _ _ _ _ _ _=>False
noncomputable abbrev E0:XK:=fun _ _ _=>False
theorem cH{X:Cx}:Passes cC X E0:=fun _ _ _ _ _ _ _ h=>h.elim
structure ix (K : W.Frag) (x qual : Str) (st : Stmt) (f : Addr) (fd : FuncData) : Prop where
 ex : ∃ (oc : Value) (od : Option Addr) (kV doc pm : Value) (an : Option Addr) (cdv ct : Value) (osl : Array (Option Value)),
  fd = W.fnOf x qual (cP st) (cL st) (cv st) .none kV doc pm an cdv ct /\ K.lookup f = some ⟨oc, od, .func fd, osl⟩ /\ W.codeIn K cdv qual = true
 kp : W.keepIn K (.ref f) = true
section
variable {P : Program} {w : World} {K : PySem.W.Frag} {mg : Str -> Option Value} {base : Heap}
theorem ix.ok {x qual:Str}{st:Stmt}{f:Addr}{fd:FuncData}{N ps:List Str}{k:Nat}{sp:Sp}(F:ix K x qual st f fd)(S:dD N ps (cv st))(len:∀ vs H Q E,sp vs H Q E->vs.length=ps.length)
  (hbody:∀(cdv:Value) (A:Around) (outer:List Env) (s:Shared) (H:Hp) (vs:List V) (Q:VK) (E:XK),dW k (A.deeper (envOfC qual (cv st) s.heap.objs.size f cdv))->sp vs H Q E->
   ∃ t,cV (dY cC P w K mg base N qual (cv st) f cdv A outer s H E).nox (cL st) t/\t {nx:=fun _ H'=>Q .non H',rt:=Q} (start N vs) H):cu P w K mg base cC (k + 1) f fd ps sp:=by
 obtain⟨oc,od,kV,doc,pm,an,cdv,ct,aa,rfl,lk,J⟩:=F.ex
 refine ug lk J S len fun A outer s H vs Q E hr U=>?_
 obtain⟨t,h,q⟩:=hbody cdv A outer s H vs Q E hr U
 exact⟨t,h.nox,q⟩
theorem ix.binds {x qual:Str}{st:Stmt}{f:Addr}{fd:FuncData}{ps:List Str}(F:ix K x qual st f fd)
  (h:∀(kV doc pm:Value) (an:Option Addr) (cdv ct:Value) (us:List Value),us.length=ps.length->bindArgs (W.fnOf x qual (cP st) (cL st) (cv st) .none kV doc pm an cdv ct) ⟨us,[]⟩=pure (ps.zip us)):Binds K fd ps []:=by
 obtain⟨oc,od,kV,doc,pm,an,cdv,ct,J,rfl,lk,U⟩:=F.ex
 exact .all (h kV doc pm an cdv ct)
theorem dX{x qual:Str}{st:Stmt}{f:Addr}{oc:Value}{od an:Option Addr}{osl:Array (Option Value)}{kV doc pm cdv ct:Value}(l:K.lookup f=some ⟨oc,od,.func (W.fnOf x qual (cP st) (cL st) (cv st) .none kV doc pm an cdv ct),osl⟩)
  (c:W.codeIn K cdv qual=true)(k:W.keepIn K (.ref f)=true):ix K x qual st f (W.fnOf x qual (cP st) (cL st) (cv st) .none kV doc pm an cdv ct):=⟨⟨oc,od,kV,doc,pm,an,cdv,ct,osl,rfl,l,c⟩,k⟩
end
theorem AD{A:Around}{k:Nat}(hr:dW k A):A.units + 1 < cLine:=Nat.lt_of_le_of_lt (Nat.add_le_add_left (by decide:1<=64) _) hr.units
section
variable {X : Cx}
theorem pv(i:Nat){x:Str}{pos:Pos}(hN:X.N[i]? =some x:=by rfl)(hv:oX X.env.scope x:=by first | exact Or.inl rfl | exact Or.inr (Or.inl rfl) | exact Or.inr (Or.inr rfl))(hd:(x == ("__debug__":Str))=false:=by decide)
  (hcd:(x == ("__classdict__":Str))=false:=by decide):PE X (.Name x pos) (mL i):=wV hN hv hd hcd
end
theorem cY{A B:Prop}(h:B):if false=true then A else B:=by
 rw [if_neg Bool.false_ne_true]
 exact h
theorem cJ{A B:Prop}(h:A):if true=true then A else B:=by
 rw [if_pos rfl]
 exact h
theorem ik{c A B:Prop} [Decidable c] (h1:c->A)(h2:¬ c->B):if c then A else B:=by
 by_cases h:c
 ·rw [if_pos h]
  exact h1 h
 ·rw [if_neg h]
  exact h2 h
noncomputable def ck(H H':Hp):Prop:=∀ b o,H b=some o->H' b=some o
theorem ck.refl (H:Hp):ck H H:=fun _ _ h=>h
theorem ck.trans {H H1 H2:Hp}(a:ck H H1)(b:ck H1 H2):ck H H2:=fun c o h=>b c o (a c o h)
theorem ck.free {H H':Hp}(e:ck H H'){l:Addr}(h:H' l=Option.none):H l=Option.none:=by
 cases q:H l with
 | none=>rfl
 | some o=>
  rw [e l o q] at h
  cases h
theorem ck.seq {K:W.Frag}{H H':Hp}{a:Addr}{xs:List V}(e:ck H H')(h:cm K H a xs):cm K H' a xs:=by
 rcases h with (h | ⟨o,h⟩) | h
 ·exact .inl (.inl (e _ _ h))
 ·exact .inl (.inr ⟨o,e _ _ h⟩)
 ·exact .inr h
end L2
set_option maxHeartbeats 4000000
namespace L2
open PySem PySem.Spec PyProof.Rows
section
variable {κ : Type} [DecidableEq κ]
noncomputable def df(kvs:List (κ×V))(k:κ):Option V:=(kvs.find? fun J=>decide (J.1=k)).map (·.2)
noncomputable def putK(kvs:List (κ×V))(k:κ)(v:V):List (κ×V):=
 if (kvs.any fun J=>decide (J.1=k))=true then kvs.map (fun J=>if J.1=k then (J.1,v) else J) else kvs++[(k,v)]
theorem nc{p:κ×V}{r:List (κ×V)}{k:κ}(e:p.1=k):df (p::r) k=some p.2:=by simp [df,List.find?_cons,e]
theorem lE{p:κ×V}{r:List (κ×V)}{k:κ}(e:¬ p.1=k):df (p::r) k=df r k:=by simp [df,List.find?_cons,e]
theorem qi(k:κ):∀ kvs:List (κ×V),(kvs.any fun kv=>decide (kv.1=k))=(df kvs k).isSome
 | []=>rfl
 | p::r=>by
  rw [List.any_cons]
  by_cases e:p.1=k
  ·simp only [nc e,decide_eq_true e,Bool.true_or,Option.isSome_some]
  ·rw [lE e,decide_eq_false e,Bool.false_or];exact qi k r
theorem wY(kvs:List (κ×V))(k:κ)(v:V):(putK kvs k v).length<=kvs.length + 1:=by
 unfold putK
 split
 ·rw [List.length_map];omega
 ·rw [List.length_append,List.length_cons,List.length_nil];omega
theorem yG{kvs:List (κ×V)}{k:κ}(v:V)(h:df kvs k=none):putK kvs k v=kvs++[(k,v)]:=by
 unfold putK
 rw [qi,h]
 exact if_neg (by decide)
theorem gn.getD {o:Option V}{u:Option Value}{d:V}{d':Value}(r:gn o u)(rd:RelV d d'):RelV (o.getD d) (u.getD d'):=by
 cases o with
 | none=>cases u with
  | none=>exact rd
  | some _=>exact(show False from r).elim
 | some _=>cases u with
  | none=>exact(show False from r).elim
  | some _=>exact r
theorem KV.val {kvs:List (κ×V)}{vs:List (κ×Value)}(r:KV kvs vs)(k:κ):gn (df kvs k) (valueAt vs k):=by
 unfold KV at r
 induction r with
 | nil=>exact True.intro
 | @cons p q ps qs h t U=>
  obtain⟨h1,h2⟩:=h
  by_cases e:p.1=k
  ·have J:q.1=k:=h1.symm.trans e
   have b:valueAt (q::qs) k=some q.2:=by simp [valueAt,List.find?_cons,J]
   rw [nc e,b];exact h2
  ·have J:¬ q.1=k:=fun z=>e (h1.trans z)
   have b:valueAt (q::qs) k=valueAt qs k:=by simp [valueAt,List.find?_cons,J]
   rw [lE e,b];exact U
theorem KV.any {kvs:List (κ×V)}{vs:List (κ×Value)}(r:KV kvs vs)(k:κ):(kvs.any fun kv=>decide (kv.1=k))=vs.any fun kv=>decide (kv.1=k):=by
 unfold KV at r
 induction r with
 | nil=>rfl
 | cons h t J=>rw [List.any_cons,List.any_cons,J,h.1]
theorem KV.repl {kvs:List (κ×V)}{vs:List (κ×Value)}(r:KV kvs vs)(k:κ){y:V}{u:Value}(ry:RelV y u):
  KV (kvs.map fun kv=>if kv.1=k then (kv.1,y) else kv) (vs.map fun kv=>if kv.1=k then (kv.1,u) else kv):=by
 unfold KV at r ⊢
 induction r with
 | nil=>exact .nil
 | @cons p q ps qs h t J=>
  rw [List.map_cons,List.map_cons]
  refine .cons ?_ J
  obtain⟨h1,h2⟩:=h
  by_cases e:p.1=k
  ·rw [if_pos e,if_pos (h1.symm.trans e)];exact⟨h1,ry⟩
  ·rw [if_neg e,if_neg (fun z=>e (h1.trans z))];exact⟨h1,h2⟩
theorem KV.put {kvs:List (κ×V)}{vs:List (κ×Value)}(r:KV kvs vs)(k:κ){y:V}{u:Value}(ry:RelV y u):KV (putK kvs k y) (stored vs k u):=by
 unfold putK stored
 rw [r.any k]
 by_cases e:(vs.any fun J=>decide (J.1=k))=true
 ·rw [if_pos e,if_pos e];exact r.repl k ry
 ·rw [if_neg e,if_neg e];exact Paired.snoc r ⟨rfl,ry⟩
theorem KV.length {kvs:List (κ×V)}{vs:List (κ×Value)}(r:KV kvs vs):kvs.length=vs.length:=Paired.length r
end
theorem nj{P:Program}{w:World}{k:Key}{u:Value}(r:RelV (kV k) u):(fP P w).is k u=true:=by
 cases k with
 | inl i=>obtain⟨t,e⟩:=(show ∃ t,u=Value.int i t from r);subst e;exact yQ P w i t
 | inr x=>obtain⟨t,e⟩:=(show ∃ t,u=Value.str x t from r);subst e;exact zN P w x t
theorem vF{P:Program}{w:World}:∀{ks:List Key} {us:List Value},Vals (ks.map kV) us->ItemsAre (fP P w) ks us
 | [],_,r=>by rw [List.map_nil] at r;cases r;exact .nil
 | k::ks,_,r=>by
  rw [List.map_cons] at r
  cases r with
  | cons h t=>exact .cons (nj h) (vF t)
noncomputable abbrev KT(H:Hp):List (List Key×V)->List (List Key×Addr×Value)->Prop:=Paired fun p q=>p.1=q.1/\H q.2.1=some (.tup (p.1.map kV))/\RelV p.2 q.2.2
theorem KT.val {H:Hp}{kvs:List (List Key×V)}{xs:List (List Key×Addr×Value)}(r:KT H kvs xs)(k:List Key):gn (df kvs k) ((atKey xs k).map (·.2)):=by
 induction r with
 | nil=>exact True.intro
 | @cons p q ps qs h t U=>
  obtain⟨h1,_,h2⟩:=h
  by_cases e:p.1=k
  ·have J:q.1=k:=h1.symm.trans e
   have b:atKey (q::qs) k=some q.2:=by simp [atKey,List.find?_cons,J]
   rw [nc e,b];exact h2
  ·have J:¬ q.1=k:=fun z=>e (h1.trans z)
   have b:atKey (q::qs) k=atKey qs k:=by simp [atKey,List.find?_cons,J]
   rw [lE e,b];exact U
section
variable {P : Program} {w : World} {H : Hp} {h : Heap} {a : Addr}
theorem tD{u:HO}(ok:dJ P w H h)(e:Rd H a u):dP P w H h a u:=e.ok ok
theorem ux{kvs:List (Key×V)}(ok:dJ P w H h)(e:Rd H a (.dK kvs)):kvs.length<=sizeLine/\(a == sysModules)=false/\∃ vs,KV kvs vs/\h.DictOf (fP P w) a vs:=
 show dP P w H h a (.dK kvs) from tD ok e
theorem za{kvs:List (Key×V)}(ok:dJ P w H h)(e:H a=some (.dK kvs)):kvs.length<=sizeLine/\(a == sysModules)=false/\∃ vs,KV kvs vs/\h.DictOf (fP P w) a vs:=ux ok (.inl e)
theorem tW{ks:List Key}(ok:dJ P w H h)(e:H a=some (.tup (ks.map kV))):(tupleKind (fP P w)).is h ks a:=by
 obtain⟨_,J,r,o,h1,h2,n,U⟩:=(show dP P w H h a (.tup (ks.map kV)) from ok a _ e)
 exact⟨o,J.toArray,n,h1,h2,U,by simpa using vF r⟩
theorem w5{kvs:List (List Key×V)}(ok:dJ P w H h)(e:Rd H a (.dT kvs)):kvs.length<=sizeLine/\(a == sysModules)=false/\
  ∃ xs,KT H kvs xs/\h.DictOfH (tupleKind (fP P w)) a xs:=by
 obtain⟨z,y,xs,r,o,es,ep,h1,h2,U,h4,h5⟩:=(show dP P w H h a (.dT kvs) from tD ok e)
 refine⟨z,y,xs,r,o,es,ep,h1,h2,U,h4,fun x hx=>?_,h5⟩
 have all:∀{l:List (List Key×V)} {m:List (List Key×Addr×Value)},KT H l m->∀ x∈m,(tupleKind (fP P w)).is h x.1 x.2.1:=by
  intro l m q
  induction q with
  | nil=>intro x hx;exact nomatch hx
  | @cons p q ps qs J t ih=>
   intro x hx
   rcases List.mem_cons.mp hx with e | hx
   ·subst e
    exact tW ok (by rw [<-J.1];exact J.2.1)
   ·exact ih x hx
 exact all r x hx
end
noncomputable def kP(H:Hp)(a:Addr)(y:V)(r:Option V):Prop:=
 (∃ kvs k,Rd H a (.dK kvs)/\y=kV k/\r=df kvs k)\/∃ kvs k b,Rd H a (.dT kvs)/\y= .ref b/\H b=some (.tup (k.map kV))/\r=df kvs k
theorem kP.k {H:Hp}{a:Addr}{kvs:List (Key×V)}{k:Key}(e:H a=some (.dK kvs)):kP H a (kV k) (df kvs k):= .inl ⟨kvs,k,.inl e,rfl,rfl⟩
section
variable {X : Cx} {pins : List (Addr × Obj)} {σ : St} {H : Hp} {s : Shared} {a : Addr} {y v : V} {u r : Value} {o : Option V} {A : Around} {E : Value -> Shared -> Prop}
theorem Inv.big (I:Inv X pins σ H s):sysModules < s.heap.objs.size:=by
 have h:mainGlobals < s.heap.objs.size:=(I.mod.glob.keeps I.bk).lt
 exact Nat.lt_trans (by decide) h
theorem wH{h':Heap}{t':Nat}{ob:HO}(I:Inv X pins σ H s)(mu:lJ (H a))(hs:Heap.SameBut a s.heap h')(he:∃ q,h'.get? a=some q)(new:dP X.prog X.w (upd H a ob) h' a ob):
  Inv X pins σ (upd H a ob) {s with heap:=h',toks:=t'}:=
 I.write (x:=a) (e:=a) mu (.inl rfl) (fun b q hb z=>(hs.2 b hb).trans z) he new
theorem zb{P:Program}{w:World}{H':Hp}{h':Heap}{kvs:List (Key×V)}{vs:List (Key×Value)}(z:kvs.length<=sizeLine)(hd:(a == sysModules)=false)(rel:KV kvs vs)(dd:h'.DictOf (fP P w) a vs):
  dP P w H' h' a (.dK kvs):=⟨z,hd,vs,rel,dd⟩
end
section
variable {X : Cx} {pins : List (Addr × Obj)} {σ : St} {H : Hp} {s : Shared} {a : Addr} {kvs : List (Key × V)} {k : Key} {u : Value} {A : Around} {E : Value -> Shared -> Prop}
end
section
variable {X : Cx} {o i e value : Expr} {pos pos' tpos : Pos} {td ty tv : TE}
end
theorem AN{P:Program}{w:World}{H:Hp}(h:Heap)(hb:sysModules < h.objs.size):dP P w H (h.push {cls:= .type "dict",data:= .dict #[]}) h.objs.size (.dK []):=
 ⟨Nat.zero_le _,beq_eq_false_iff_ne.mpr (Ne.symm (Nat.ne_of_lt hb)),[],.nil,Heap.DictOf.new h⟩
noncomputable def Am:TE:=fun _ H Q=>∀ p,H p=none->Q (.ref p) (upd H p (.dK []))
section
variable {X : Cx} {pos : Pos}
theorem A6:PE X (.Dict [] [] pos) Am:=fun pins s σ H Q I h=>
 wpAny_Dict_empty ⟨.ref s.heap.objs.size,_,I.laid (a:=s.heap.objs.size) (o:= .dK []) (t':=s.toks) (fun _ _ q=>Heap.get?_push_of_some _ q) (Nat.le_refl _) (AN s.heap I.big),rfl,h _ (I.hok.fresh (Nat.le_refl _))⟩
end
structure M1 (X : Cx) (o : Expr) (m : Str) (apos : Pos) (e : Expr) (cpos : Pos) : Prop where
 base : attributeBase o m X.env (eval o X.env) = eval o X.env
 few : ((backTo cpos (starEach [e] X.env)).all (fun x => !x.1) && (backToKw cpos (keywordEach [] X.env)).all (fun x => x.1.isSome)
  && decide (([e] : List Expr).length + ([] : List Keyword).length + (if ([] : List Keyword).isEmpty then 0 else 1) < 30)) = true
 line : (apos.endLine == cpos.line) = true
 trees : backTo cpos (starEach [e] X.env) = [(false, eval e X.env)]
section
variable {X : Cx} {pins : List (Addr × Obj)} {σ : St} {H : Hp} {s : Shared} {a : Addr} {y d : V} {u r : Value} {o : Option V} {A : Around} {E : Value -> Shared -> Prop}
theorem Au{Q:Value->Shared->Prop}(hu:A.units + 1 < cLine)(I:Inv X pins σ H s)(g:kP H a y o)(ry:RelV y u)(rd:RelV d r)(h:∀ w' s',Inv X pins σ H s'->RelV (o.getD d) w'->Q w' s'):
  wpAny (model X.prog X.w) A (call (.builtin "dict.get") [.ref a,u,r]) Q E s:=by
 rcases g with ⟨kvs,k,e,J,l⟩ | ⟨kvs,k,b,e,J,U,l⟩
 ·subst J
  obtain⟨z,hd,vs,rel,dd⟩:=ux I.hok e
  refine call_meetsIn F.slot_dict_get dd.typeIs F.entry_dict_get (F.args_dict_get_3 _ _ _) (meets_dict_get_default (fP X.prog X.w) a (nj ry) hd r) ⟨_,dd.mapOf,h _ _ (I.tok _) ?_⟩
  rw [l]
  exact(rel.val k).getD rd
 ·subst J
  cases (show u=Value.ref b from ry)
  obtain⟨z,hd,xs,rel,dd⟩:=w5 I.hok e
  refine call_meetsIn F.slot_dict_get dd.typeIs F.entry_dict_get (F.args_dict_get_3 _ _ _) (meetsH_dict_get_default (tupleKind (fP X.prog X.w)) a b hd r) ⟨tupleKind_room_in1 hu,k,xs,tW I.hok U,dd,h _ _ (I.tok _) ?_⟩
  rw [l]
  exact(rel.val k).getD rd
end
section
variable {X : Cx} {o e f : Expr} {apos cpos : Pos} {td ty tx : TE}
end
section
variable {X : Cx} {pins : List (Addr × Obj)} {σ : St} {H : Hp} {s : Shared} {a : Addr} {kvs : List (Key × V)} {A : Around} {E : Value -> Shared -> Prop}
end
section
variable {X : Cx} {pins : List (Addr × Obj)} {σ : St} {H : Hp} {s : Shared} {a : Addr} {y : V} {u : Value} {A : Around} {E : Value -> Shared -> Prop}
end
section
variable {X : Cx}
end
section
variable {κ : Type} [DecidableEq κ]
theorem xX{kvs:List (κ×V)}{k:κ}(h:df kvs k=none):¬ k∈kvs.map (·.1):=by
 intro m
 obtain⟨p,J,e⟩:=List.mem_map.mp m
 have q:(kvs.any fun U=>decide (U.1=k))=true:=List.any_eq_true.mpr ⟨p,J,decide_eq_true e⟩
 rw [qi,h] at q
 exact absurd q (by simp)
end
section
variable {X : Cx}
theorem sd:∀{ys:List Str} {us:List Value},Vals (ys.map V.str) us->StrsAre us ys
 | [],_,.nil=> .nil
 | y::ys,_,.cons r t=>by
  obtain⟨k,e⟩:=(show ∃ k,_=Value.str y k from r)
  subst e
  exact .cons y k (sd t)
theorem Cm:nP X "str.join" (fun x xs H Q=>∃ z p ys,x= .str z/\xs=[.ref p]/\cm X.K H p (ys.map V.str)/\(ys.map (·.length)).sum + ys.length * z.length<=16777216/\Q (.str (Txt.join z ys)) H):=by
 intro pins s σ H x xs v us Q I J rs h
 obtain⟨z,p,ys,rfl,rfl,U,hz,q⟩:=h
 obtain⟨t,rfl⟩:=J
 obtain⟨u,rfl,r1⟩:=vals1 rs
 cases r1
 obtain⟨aa,r,pl,_⟩:=I.list U
 exact join_list pl.isList (by simpa using sd r) hz fun t' k=>⟨.str _,H,I.tok _,⟨_,rfl⟩,q⟩
noncomputable def wR:V->Option Int->Option Int->Hp->VK->Prop:=fun x lo hi H Q=>∃ z,x= .str z/\z.length<=sizeLine/\Q (.str (Txt.slice z lo hi)) H
theorem lI:qw X wR:=by
 intro pins s σ H x v vl vu lo hi sl Q I U hs pl pu h
 obtain⟨z,rfl,hz,q⟩:=h
 obtain⟨t,rfl⟩:=U
 refine⟨"str",_,F.slot_str_getitem.lookup,typeIs_str _ _ _,?_⟩
 cases pl with
 | none=>
  cases pu with
  | none=>exact wpAny_getItem_str_slice (l:=none) (u:=none) (st:=none) hs rfl (post_val_or_str ⟨Nat.le_trans (Txt.slice_le z _ _) hz,fun t' k=>⟨.str (Txt.slice z none none),H,I.tok _,⟨_,rfl⟩,q⟩⟩)
  | int j J=>exact wpAny_getItem_str_slice (l:=none) (u:=some (j,J)) (st:=none) hs rfl (post_val_or_str ⟨Nat.le_trans (Txt.slice_le z _ _) hz,fun t' k=>⟨.str (Txt.slice z none (some j)),H,I.tok _,⟨_,rfl⟩,q⟩⟩)
 | int i ti=>
  cases pu with
  | none=>exact wpAny_getItem_str_slice (l:=some (i,ti)) (u:=none) (st:=none) hs rfl (post_val_or_str ⟨Nat.le_trans (Txt.slice_le z _ _) hz,fun t' k=>⟨.str (Txt.slice z (some i) none),H,I.tok _,⟨_,rfl⟩,q⟩⟩)
  | int j J=>exact wpAny_getItem_str_slice (l:=some (i,ti)) (u:=some (j,J)) (st:=none) hs rfl (post_val_or_str ⟨Nat.le_trans (Txt.slice_le z _ _) hz,fun t' k=>⟨.str (Txt.slice z (some i) (some j)),H,I.tok _,⟨_,rfl⟩,q⟩⟩)
mutual
inductive f7 (K : PySem.W.Frag) (H : Hp) : V -> PyData -> Prop
 | non : f7 K H .non .none
 | bl (b : Bool) : f7 K H (.bl b) (.bool b)
 | int (i : Int) : f7 K H (.int i) (.int i)
 | str (x : Str) : f7 K H (.str x) (.str x)
 | lst {a : Addr} {xs : List V} {ds : List PyData} : cm K H a xs -> gA K H xs ds -> f7 K H (.ref a) (.list ds)
 | tup {a : Addr} {xs : List V} {ds : List PyData} : cq K H a xs -> gA K H xs ds -> f7 K H (.ref a) (.tuple ds)
inductive gA (K : PySem.W.Frag) (H : Hp) : List V -> List PyData -> Prop
 | nil : gA K H [] []
 | cons {x : V} {xs : List V} {d : PyData} {ds : List PyData} : f7 K H x d -> gA K H xs ds -> gA K H (x :: xs) (d :: ds)
end
mutual
theorem f7.reads {pins : List (Addr × Obj)} {σ : St} {H : Hp} {s : Shared} (I : Inv X pins σ H s) : ∀ {x : V} {d : PyData} {u : Value}, f7 X.K H x d -> RelV x u -> ∃ as, Reads s.heap u d as
 | _, _, _, .non, r => by cases r; exact ⟨_, .none⟩
 | _, _, _, .bl b, r => by cases r; exact ⟨_, .bool b⟩
 | _, _, _, .int i, r => by obtain ⟨t, rfl⟩ := r; exact ⟨_, .int i t⟩
 | _, _, _, .str x, r => by obtain ⟨t, rfl⟩ := r; exact ⟨_, .str x t⟩
 | _, _, _, .lst hq hs, r => by
  cases r
  obtain ⟨its, rv, ⟨o, n, e, c, _, d⟩, _⟩ := I.list hq
  obtain ⟨as, ra⟩ := gA.reads I hs rv
  exact ⟨_, .list e c d (by simpa using ra)⟩
 | _, _, _, .tup hq hs, r => by
  cases r
  obtain ⟨its, rv, ⟨o, e, c, n, d⟩, _⟩ := I.tuple hq
  obtain ⟨as, ra⟩ := gA.reads I hs rv
  exact ⟨_, .tuple e c d (by simpa using ra)⟩
theorem gA.reads {pins : List (Addr × Obj)} {σ : St} {H : Hp} {s : Shared} (I : Inv X pins σ H s) : ∀ {xs : List V} {ds : List PyData} {us : List Value}, gA X.K H xs ds -> Vals xs us -> ∃ as, ReadsAll s.heap us ds as
 | _, _, _, .nil, .nil => ⟨_, .nil⟩
 | _, _, _, .cons h hs, .cons r rs => by
  obtain ⟨as, ra⟩ := f7.reads I h r
  obtain ⟨bs, rb⟩ := gA.reads I hs rs
  exact ⟨_, .cons ra rb⟩
end
noncomputable def xw(X:Cx):R2:=fun x y H Q=>∃ dx J,f7 X.K H x dx/\f7 X.K H y J/\dx.canLay0=true/\J.canLay0=true/\min dx.depth J.depth<=100/\Q (.bl (PyData.eqv dx J)) H
noncomputable def AA(X:Cx):R2:=fun x y H Q=>∃ dx J,f7 X.K H x dx/\f7 X.K H y J/\dx.canLay0=true/\J.canLay0=true/\min dx.depth J.depth<=100/\Q (.bl (!PyData.eqv dx J)) H
theorem kf(hu:X.A.units + 100 < cLine):eI X (compareOp .Eq) (xw X):=by
 intro pins s σ H x y v u Q I rx ry h
 obtain⟨dx,dy,hx,hy,J,U,hd,q⟩:=h
 obtain⟨as,ra⟩:=hx.reads I rx
 obtain⟨bs,rb⟩:=hy.reads I ry
 exact SeqAt.compareEq_reads ra rb J U (by(clear U J;omega)) ⟨.bl _,H,I,rfl,q⟩
theorem lN(hu:X.A.units + 100 < cLine):eI X (compareOp .NotEq) (AA X):=by
 intro pins s σ H x y v u Q I rx ry h
 obtain⟨dx,dy,hx,hy,J,U,hd,q⟩:=h
 obtain⟨as,ra⟩:=hx.reads I rx
 obtain⟨bs,rb⟩:=hy.reads I ry
 exact SeqAt.compareNe_reads ra rb J U (by(clear U J;omega)) ⟨.bl _,H,I,rfl,q⟩
theorem uJ:∀{bs:List Bool} {us:List Value},Vals (bs.map V.bl) us->∀(i:Nat) (v:Value),us[i]? =some v->∃ b,bs[i]? =some b/\v= .bool b
 | [],_,.nil,i,v,h=>by simp at h
 | b::bs,_,.cons r t,0,v,h=>by
  have J:_=Value.bool b:=r
  subst J
  simp at h
  exact⟨b,by simp,h.symm⟩
 | b::bs,_,.cons r t,i + 1,v,h=>by
  obtain⟨c,U,e2⟩:=uJ t i v (by simpa using h)
  exact⟨c,by simpa using U,e2⟩
theorem A2(hc:X.calm=true):gf X (.builtin "all") (fun xs H Q=>∃(p:Addr) (bs:List Bool),xs=[.ref p]/\cm X.K H p (bs.map V.bl)/\Q (.bl (bs.all id)) H):=by
 intro pins s σ H xs us Q I r h
 obtain⟨p,bs,rfl,hq,q⟩:=h
 obtain⟨u,rfl,rx⟩:=vals1 r
 cases rx
 obtain⟨J,rv,pl,hz⟩:=I.list hq
 have U:=pl.isList
 have hlen:=rv.length
 rw [List.length_map] at hlen
 have aa:p < s.heap.objs.size:=by obtain⟨_,e,_⟩:=U;exact Heap.lt_size e
 refine call_all_walk (wpAny_pyIter_list U ?_)
 refine⟨s.heap.objs.size,[s.heap.objs.size,p],[s.heap.objs.size],J.toArray.size,_,_,fun i=>(bs[i]?).getD true,rfl,Walks.list (A:=X.A.in1) (I.ok.hd hc) _ p (Nat.ne_of_lt aa) J.toArray,
  ⟨⟨_,Heap.get?_push_size _ rfl,rfl,rfl⟩,U.push _⟩,fun i v s' Q' E' hP hQ=>?_,fun h' tk hk=>?_⟩
 ·obtain⟨b,e,rfl⟩:=uJ rv i v (by simpa using hP)
  simp only [e,Option.getD_some] at hQ
  exact wpAny_truthy_bool hQ
 ·have e:((List.range J.toArray.size).all fun i=>(bs[i]?).getD true)=bs.all id:=by
   rw [List.size_toArray,<-hlen];exact LSm.range_all bs
  rw [e]
  exact⟨.bl _,H,I.kept (LSm.kept_iter hk),rfl,q⟩
theorem iC:gf X (.builtin "isinstance") (fun xs H Q=>∃ x c t b,xs=[x,c]/\fB X.K H x t/\
  ((∃ n,c= .ty n/\W.kitOne X.K t (.type n)=some b)\/(∃ C,c= .ref C/\W.kitOne X.K t (.ref C)=some b))/\Q (.bl b) H):=by
 intro pins s σ H xs us Q I r h
 obtain⟨x,c,t,b,rfl,ty,U,q⟩:=h
 obtain⟨u,w',rfl,J,rc⟩:=vals2 r
 rcases U with ⟨n,rfl,e⟩ | ⟨C,rfl,e⟩
 ·cases rc
  exact uP I J ty e fun tk=>⟨.bl b,H,I.tok tk,rfl,q⟩
 ·cases rc
  exact uP I J ty e fun tk=>⟨.bl b,H,I.tok tk,rfl,q⟩
end
section
variable {X : Cx} {pins : List (Addr × Obj)} {σ : St} {H H' : Hp} {s : Shared} {h' : Heap}
theorem Inv.track {a:Addr}{o:HO}(I:Inv X pins σ H s)(hs:X.s₀.heap.get? a=none\/a∈X.ex)(hn:H a=none)(hL:a≠X.env.locals)(hC:∀ x c,X.env.cells.lookup x=some c->c≠a)(hp:∀ p∈X.pn++pins,p.1≠a)
  (new:dP X.prog X.w (upd H a o) s.heap a o):Inv X pins σ (upd H a o) s:=by
 refine⟨I.ok,I.os,I.bare,⟨I.base.keep,I.base.slot,fun b ob e n U=>?_,I.base.there,fun b xs e=>?_,fun b ob u e=>?_,fun b ps e=>?_⟩,I.loc,I.cell,?_,fun x c e=>?_,fun p J=>?_,fun b u e=>?_,I.len⟩
 ·have hb:b≠a:=by
   rintro rfl
   rcases hs with z | z
   ·rw [z] at e;cases e
   ·exact U z
  rw [cK hb]
  exact I.base.free b ob e n U
 ·have q:=I.base.tups b xs e
  rw [cK (dA q hn)];exact q
 ·have q:=I.base.frzs b ob u e
  rw [cK (dA q hn)];exact q
 ·obtain⟨m,q⟩:=I.base.tbls b ps e
  exact⟨m,by rw [cK (dA q hn)];exact q⟩
 ·rw [cK (Ne.symm hL)];exact I.free
 ·rw [cK (hC x c e)];exact I.freeC x c e
 ·obtain⟨e,n,r⟩:=I.pin p J
  exact⟨e,by rw [cK (hp p J)];exact n,r⟩
 ·by_cases hb:b=a
  ·subst hb;rw [cx] at e;cases e;exact new
  ·rw [cK hb] at e
   exact(I.hok b u e).stay (fun c v _ q=>q) (fun c q=>by rw [cK (dA q hn)];exact q) fun c xs q=>by rw [cK (dA q hn)];exact q
theorem Inv.turnedL {t':Nat}{fp:List Addr}(I:Inv X pins σ H s)(k:∀ b o,b∉fp->s.heap.get? b=some o->h'.get? b=some o)(hf:∀ b∈fp,gv X pins H b):Inv X pins σ H {s with heap:=h',toks:=t'}:=by
 have U:∀ b u,H b=some u->b∉fp:=fun b u e z=>by rw [(hf b z).1] at e;cases e
 refine I.step (g':=s.gens) (d':=s.drawn) (ch:=fp) (fun b hb=>?_) (fun b o _ _ J e _=>k b o J e) (fun b o _ _ J e _=>⟨o.slots,k b o J e⟩) (fun _ _ _ _ n=>n)
  (fun b o J e=>⟨o,k b o J e⟩) (fun _ _ e=>e) (fun _ _ _ e=>e) (fun b ps e=>⟨#[],by rw [e];simp⟩) (fun m hm=>?_) (fun b u e=>?_) I.bare
 ·obtain⟨f0,f1,f2,f3,f4,f5⟩:=hf b hb
  exact⟨f3,f1,f4,f5⟩
 ·obtain⟨o,es,ep,ho,r⟩:=hm
  exact⟨o,es,ep,k _ o (fun z=>(hf _ z).2.1 rfl) ho,r⟩
 ·refine(I.hok b u e).stay (fun c v J q=>k c v ?_ q) (fun _ q=>q) fun _ _ q=>q
  rcases J with z | z
  ·rw [z];exact U b u e
  ·exact U c _ z
end
noncomputable def oY(x:Str):It:=⟨fun i _=>i < x.cps.size,fun i H v H'=>H'=H/\∃ c,x.cps[i]? =some c/\v= .str ⟨#[c]⟩,fun i _=>i=x.cps.size⟩
theorem vm{P:Program}{w:World}{A:Around}(hh:A.handled=none)(I:Addr)(x:Str)(t:Tok):Walks P w A I [I] [I] x.cps.size (SignAt x) (fun i h=>h.IsStrIter I (strIterType x) x t i):=by
 unfold strIterType
 cases x.cps.all (· < 128)
 ·exact Walks.strWide hh I x t
 ·exact Walks.strAscii hh I x t
theorem AF{x:Str}:["enumerate","zip","dict_itemiterator","dict_reverseitemiterator","odict_iterator","itertools.zip_longest","itertools.pairwise"].contains (strIterType x)=false:=by
 unfold strIterType
 cases x.cps.all (· < 128)<;>decide
theorem vN{P:Program}{w:World}{K:W.Frag}{tg:Expr}(x:Str)(t:Tok)(it:Addr):Turn P w K tg (oY x) [it] it (fun i h=>h.IsStrIter it (strIterType x) x t i) where
 mem:=by simp
 obj:=fun i h st b hb=>by
  have e:b=it:=by simpa using hb
  subst e
  obtain⟨o,e,c,d⟩:=st
  exact⟨o,e,fun v z=>by rw [d] at z;cases z⟩
 keep:=fun i h h' st k=>by
  obtain⟨o,e,r⟩:=st
  exact⟨o,k it (by simp) o e,r⟩
 item:=by
  intro X U hw hK hc i pins s σ H E I hf st hg
  subst U hw hK
  refine(vm (P:=X.prog) (w:=X.w) (I.ok.hd hc) it x t).item i s _ _ hg st fun v h' tk hv J kk=>?_
  obtain⟨c,u,aa,rfl⟩:=hv
  have I1:Inv X pins σ H {s with heap:=h',toks:=tk}:=I.turnedL kk hf
  obtain⟨o,e,c2,d⟩:=id J
  exact⟨_,rfl,nz (s:={s with heap:=h',toks:=tk}) e c2 d AF ⟨.str ⟨#[c]⟩,H,I1,⟨u,rfl⟩,⟨rfl,c,aa,rfl⟩,J,fun b hb=>(hf b hb).1⟩⟩
 done:=by
  intro X U hw hK hc i pins s σ H E I hf st hg
  subst U hw hK
  have ae:i=x.cps.size:=hg
  subst ae
  exact(vm (P:=X.prog) (w:=X.w) (I.ok.hd hc) it x t).done s _ _ st fun h' tk kk=>⟨rfl,I.turnedL kk hf⟩
 self:=fun A i s Q E st h=>by
  revert st
  unfold strIterType
  cases x.cps.all (· < 128)
  ·exact fun st=>wpAny_pyIter_striter_wide st h
  ·exact fun st=>wpAny_pyIter_striter_ascii st h
noncomputable def B3(tl:TE):TI:=fun σ H R=>tl σ H fun v H1=>∃ x,v= .str x/\R (oY x) H1
section
variable {X : Cx} {tg : Expr}
theorem xD{l:Expr}{tl:TE}(hl:PE X l tl):PI X tg l (B3 tl):=by
 intro pins s σ H R I h
 refine cF (hl pins s σ H _ I h) fun v s1 ⟨y,H1,J,U,x,e,q⟩=>?_
 subst e
 obtain⟨t,rfl⟩:=U
 refine wpAny_pyIter_strU ?_
 refine⟨s1.heap.objs.size,[s1.heap.objs.size],_,_,H1,rfl,J.kept (t':=s1.toks) fun b o e=>Heap.get?_push_of_some _ e,vN x t _,⟨_,Heap.get?_push_size _ rfl,rfl,rfl⟩,fun b hb=>?_,q⟩
 have e:b=s1.heap.objs.size:=by simpa using hb
 subst e
 exact J.fpOk (Nat.le_refl _) (J.hok.fresh (Nat.le_refl _))
end
section
variable {X : Cx}
end
open PySem
noncomputable def fK(env:Env):List (Str×NameKind)->List (Str×Addr)->List (Str×Addr)
 | [],cs=>cs
 | (n,k)::r,cs=>fK env r (if (k == NameKind.free)=true then (n,(env.cells.lookup n).getD 0)::cs else cs)
theorem vC{scope:Scope}{env:Env}(h:∀ x∈scope.names,x.2= .free->∃ c,env.cells.lookup x.1=some c):closureFor scope env=pure (fK env scope.names []):=by
 unfold closureFor
 have go:∀(names:List (Str×NameKind)) (cs:List (Str×Addr)),(∀ x∈names,x.2= .free->∃ c,env.cells.lookup x.1=some c)->
   (forIn names cs fun(x:Str×NameKind) (r:List (Str×Addr))=>(match x with
    | (name,kind)=>if (kind == NameKind.free)=true then do let a<-cellOf env name;pure (ForInStep.yield ((name,a)::r)) else pure (ForInStep.yield r):Sem (ForInStep (List (Str×Addr)))))=pure (fK env names cs):=by
  intro names
  induction names with
  | nil=>intro cs _;rfl
  | cons x r J=>
   intro cs h
   obtain⟨n,k⟩:=x
   rw [List.forIn_cons]
   have U:=fun y hy=>h y (List.mem_cons_of_mem _ hy)
   cases hk:(k == NameKind.free) with
   | false=>
    simp only [hk,Bool.false_eq_true,if_false]
    show(pure (ForInStep.yield cs) >>= _:Sem _)=_
    simp only [pure_bind]
    rw [J cs U]
    simp only [fK,hk,Bool.false_eq_true,if_false]
   | true=>
    obtain⟨c,hc⟩:=h (n,k) List.mem_cons_self (by simpa using hk)
    have e:cellOf env n=pure c:=by unfold cellOf;rw [show env.cells.lookup n=some c from hc]
    simp only [hk,if_true,e,pure_bind]
    rw [J _ U]
    simp only [fK,hk,if_true]
    rw [show env.cells.lookup n=some c from hc]
    rfl
 exact congrArg (fun m:Sem (List (Str×Addr))=>m >>= fun r=>pure r) (go scope.names [] h)
theorem oA{env:Env}{x:Str}{c:Addr}:∀{names:List (Str×NameKind)} {cs:List (Str×Addr)},(fK env names cs).lookup x=some c->cs.lookup x=some c\/((x,NameKind.free)∈names/\c=(env.cells.lookup x).getD 0)
 | [],_,h=> .inl h
 | (n,k)::r,cs,h=>by
  rcases oA (names:=r) h with q | ⟨q,e⟩
  ·cases hk:(k == NameKind.free) with
   | false=>rw [hk] at q;exact .inl q
   | true=>
    rw [hk,if_pos rfl] at q
    have J:k=NameKind.free:=by simpa using hk
    subst J
    cases hx:x == n with
    | true=>
     rw [List.lookup_cons,hx] at q
     have e:x=n:=by simpa using hx
     subst e
     exact .inr ⟨List.mem_cons_self,(Option.some.inj q).symm⟩
    | false=>
     rw [List.lookup_cons,hx] at q
     exact .inl q
  ·exact .inr ⟨List.mem_cons_of_mem _ q,e⟩
theorem jN{env:Env}{x:Str}:∀{names:List (Str×NameKind)} {cs:List (Str×Addr)},(x,NameKind.free)∈names\/(∃ c,cs.lookup x=some c)->∃ c,(fK env names cs).lookup x=some c
 | [],_,h=>by
  rcases h with h | h
  ·cases h
  ·exact h
 | (n,k)::r,cs,h=>by
  refine jN (names:=r) ?_
  rcases h with h | ⟨c,h⟩
  ·rcases List.mem_cons.mp h with e | e
   ·cases e
    refine .inr ⟨(env.cells.lookup x).getD 0,?_⟩
    rw [if_pos (by rfl),List.lookup_cons]
    simp
   ·exact .inl e
  ·refine .inr ?_
   cases hk:(k == NameKind.free) with
   | false=>exact⟨c,h⟩
   | true=>
    rw [if_pos rfl,List.lookup_cons]
    cases hx:x == n with
    | true=>exact⟨_,rfl⟩
    | false=>exact⟨c,h⟩
theorem oZ{env:Env}(hf:env.scope.kind= .function):∀{names:List (Str×NameKind)} {x:Str},names.lookup x=some .free->env.kindOf x=some .cell->
  (names.map fun(n,k)=>if (k == NameKind.free && env.scope.kind == .function && env.kindOf n == some .cell) then (n,NameKind.cell) else (n,k)).lookup x=some .cell
 | [],_,h,_=>by simp at h
 | (n,k)::r,x,h,U=>by
  have ih:=@oZ env hf r x
  show List.lookup x ((if (k == NameKind.free && env.scope.kind == .function && env.kindOf n == some .cell)=true then (n,NameKind.cell) else (n,k))::_)=_
  cases hx:x == n with
  | true=>
   have e:x=n:=by simpa using hx
   subst e
   simp only [List.lookup_cons,hx] at h
   cases h
   rw [if_pos (by rw [hf,U];rfl)]
   simp [List.lookup_cons]
  | false=>
   simp only [List.lookup_cons,hx] at h
   by_cases J:(k == NameKind.free && env.scope.kind == .function && env.kindOf n == some .cell)=true
   ·rw [if_pos J];simp only [List.lookup_cons,hx];exact ih h U
   ·rw [if_neg J];simp only [List.lookup_cons,hx];exact ih h U
theorem lH{env:Env}:∀{names:List (Str×NameKind)} {x:Str} {k':NameKind},(∀ y∈names,y.2≠ .cell)->(k'= .cell\/k'= .free)->
  (names.map fun(n,k)=>if (k == NameKind.free && env.scope.kind == .function && env.kindOf n == some .cell) then (n,NameKind.cell) else (n,k)).lookup x=some k'->(x,NameKind.free)∈names
 | [],_,_,_,_,h=>by simp at h
 | (n,k)::r,x,k',hn,hk,h=>by
  have ih:=@lH env r x k' (fun y hy=>hn y (List.mem_cons_of_mem _ hy)) hk
  have h':List.lookup x ((if (k == NameKind.free && env.scope.kind == .function && env.kindOf n == some .cell)=true then (n,NameKind.cell) else (n,k))::r.map fun(n,k)=>if (k == NameKind.free && env.scope.kind == .function && env.kindOf n == some .cell) then (n,NameKind.cell) else (n,k))=some k':=h
  have U:k≠ .cell:=hn (n,k) List.mem_cons_self
  by_cases J:(k == NameKind.free && env.scope.kind == .function && env.kindOf n == some .cell)=true
  ·rw [if_pos J,List.lookup_cons] at h'
   have aa:k= .free:=by
    rw [Bool.and_eq_true,Bool.and_eq_true] at J
    simpa using J.1.1
   cases hx:x == n with
   | true=>
    have e:x=n:=by simpa using hx
    subst e
    rw [aa]
    exact List.mem_cons_self
   | false=>rw [hx] at h';exact List.mem_cons_of_mem _ (ih h')
  ·rw [if_neg J,List.lookup_cons] at h'
   cases hx:x == n with
   | true=>
    rw [hx] at h'
    have e:x=n:=by simpa using hx
    subst e
    have e2:k=k':=Option.some.inj h'
    subst e2
    rcases hk with z | z
    ·exact absurd z U
    ·rw [z];exact List.mem_cons_self
   | false=>rw [hx] at h';exact List.mem_cons_of_mem _ (ih h')
section
variable {prog : Program} {w : World} {A : Around} {R : Result -> Shared -> Prop} {s : Shared}
theorem ym{elt target iter:Expr}{ifs:List Expr}{scope:Scope}{pos:Pos}{it acc:Value}{env:Env}(I:Nat->Shared->Prop)
  (turn:∀ n s,I n s->wpAny (model prog w) A (pyNext it) (fun r s₁=>match r with
   | none=>R (.ok .next) s₁
   | some v=>wpAny (model prog w) A (letOwnedTupleGo target it v) (fun _ s₀=>wpAny (model prog w) A (assign target env v) (fun _ s₂=>
     wpAny (model prog w) A (forIn ifs true fun c r=>if r=true then do let ok<-isTrue c env (eval c env);pure (ForInStep.yield ok) else pure (ForInStep.yield r)) (fun ok s₃=>
      if ok=true then wpAny (model prog w) A (eval elt env) (fun x s₄=>
       wpAny (model prog w) A (call (.builtin "list.append") [acc,x]) (fun _ s₅=>∃ m,m < n/\I m s₅) (fun _ _=>False) s₄) (fun _ _=>False) s₃
      else ∃ m,m < n/\I m s₃) (fun _ _=>False) s₂) (fun _ _=>False) s₀) (fun _ _=>False) s₁) (fun _ _=>False) s)
  (n:Nat)(h:I n s):
  codeAny (model prog w) A (.compLoop (.ListComp elt [⟨target,iter,ifs,0⟩] scope pos) 0 it acc env) R s:=by
 refine codeAny_loop rfl I (fun n s hI=>?_) n h
 show wpAny _ A ((compTurn (.ListComp elt [⟨target,iter,ifs,0⟩] scope pos) 0 it acc env).onRaise (fun x=>do noteFrame x env;theTreesLotGoes x)) _ _ s
 refine wpAny_noted ?_
 rw [compTurn_list]
 refine wpAny_bind (wpAny_standAt (wpAny_bind (wpAny_mono (turn n s hI) (fun r s₁ J=>?_) fun _ _ h'=>h'.elim)))
 cases r with
 | none=>exact wpAny_pure J
 | some v=>
  refine wpAny_bind (wpAny_mono J (fun _ s₀ h₀=>?_) fun _ _ h'=>h'.elim)
  refine wpAny_bind (wpAny_mono h₀ (fun _ s₂ aa=>wpAny_bind (wpAny_mono aa (fun ok s₃ U=>?_) fun _ _ h'=>h'.elim)) fun _ _ h'=>h'.elim)
  cases ok with
  | false=>exact wpAny_pure ⟨rfl,U⟩
  | true=>
   exact wpAny_bind (wpAny_bind (wpAny_mono U (fun x s₄ ae=>wpAny_bind (wpAny_mono ae (fun _ s₅ af=>wpAny_pure (wpAny_pure ⟨rfl,af⟩)) fun _ _ h'=>h'.elim)) fun _ _ h'=>h'.elim))
end
noncomputable def dv(X:Cx)(scope:Scope)(N:List Str)(s₀:Shared)(H₀:Hp)(ex:List Addr):Cx:=
 {X with N:=N,s₀:=s₀,H₀:=H₀,env:=compEnvC scope (fK X.env scope.names []) s₀.heap.objs.size X.env,outer:=X.stack,ex:=ex,fn:=fun _=>false,pn:=[],xe:=fun _ _=>False}
section
variable {X : Cx} {c : Expr} {t : TT}
noncomputable def de(X:Cx)(ifs:List Expr)(t:TT):Prop:=∀(pins:List (Addr×Obj)) (s:Shared) (σ:St) (H:Hp) (Q:Bool->Hp->Prop),Inv X pins σ H s->t σ H Q->
 wpAny (model X.prog X.w) X.A (forIn ifs true fun c r=>if r=true then do let ok<-isTrue c X.env (eval c X.env);pure (ForInStep.yield ok) else pure (ForInStep.yield r)) (TP X pins σ Q) X.xe s
noncomputable def tQ:TT:=fun _ H Q=>Q true H
theorem iU:de X [] tQ:=fun _ _ _ H _ I h=>wpAny_tests_nil ⟨H,I,h⟩
theorem mE(h:PT X c t):de X [c] t:=fun pins s σ H Q I J=>wpAny_tests_one (h pins s σ H Q I J)
end
noncomputable def jO(own:Nat)(g:TG):Prop:=∀ x σ H Q U,g x σ H Q->(∀ J H',Q J H'->J.length=σ.length->(∀ j v,own<=j->σ[j]? =some (some v)->J[j]? =some (some v))->U J H')->g x σ H U
noncomputable def nO(own:Nat)(g:iG):Prop:=∀ xs σ H Q U,g xs σ H Q->(∀ J H',Q J H'->J.length=σ.length->(∀ j v,own<=j->σ[j]? =some (some v)->J[j]? =some (some v))->U J H')->g xs σ H U
theorem fW{own i:Nat}(hi:i < own):jO own (jC i):=fun x σ H Q J h k=>k _ H h (by simp) fun j v U e=>by rw [List.getElem?_set_ne (by(clear e;omega))];exact e
theorem pK{own:Nat}:nO own vp:=fun xs σ H Q J ⟨e,h⟩ k=>⟨e,k σ H h rfl fun _ _ _ e=>e⟩
theorem kr{own:Nat}{t:TG}{u:iG}(h1:jO own t)(h2:nO own u):nO own (sF t u):=fun xs σ H Q Q' ⟨v,r,e,h⟩ k=>
 ⟨v,r,e,h1 v σ H _ _ h fun U H' q l1 k1=>h2 r U H' _ _ q fun J aa q2 l2 k2=>k J aa q2 (l2.trans l1) fun j w hj e=>k2 j w hj (k1 j w hj e)⟩
theorem qI{own n:Nat}{K:W.Frag}{t:iG}(h:nO own t):jO own (uc K n t):=fun x σ H Q J ⟨a,xs,e,U,hl,q⟩ k=>⟨a,xs,e,U,hl,h xs σ H Q J q k⟩
noncomputable def dE(own:Nat)(caps:List Nat)(σ:St):St:=List.replicate own none++caps.map fun j=>(σ[j]?).join
noncomputable def jX(J:It)(g:TG)(tc:TT)(te:TE)(σ0:St)(Q:VK)(H:Hp):Prop:=
  ∃ W:Nat->Nat->List V->Hp->Prop,(∃ m,W 0 m [] H)/\∀ i m ys H,W i m ys H->
   (J.stop i H/\ys.length<=sizeLine/\∀ p,H p=none->Q (.ref p) (upd H p (.lst ys)))\/
   (J.go i H/\ys.length < sizeLine/\∀ x H',J.yld i H x H'->g x σ0 H' fun U H2=>tc U H2 fun b H3=>
    if b=true then te U H3 fun y H4=>∃ m',m' < m/\W (i + 1) m' (ys++[y]) H4 else ∃ m',m' < m/\W (i + 1) m' ys H3)
noncomputable def oa(own:Nat)(caps:List Nat)(wi:TI)(g:TG)(tc:TT)(te:TE):TE:=fun σ H Q=>wi σ H fun J H1=>jX J g tc te (dE own caps σ) Q H1
theorem mM{a:Addr}{o:Obj}:∀ p∈[(a,o)],p.1=a:=fun p J=>by rw [List.mem_singleton.mp J]
section
variable {X : Cx}
theorem uZ{scope:Scope}{N:List Str}{pins:List (Addr×Obj)}{σ σ':St}{H2 He:Hp}{s2 s1:Shared}{hp h':Heap}{fp:List Addr}{ys:List V}{its:List Value}{na:Nat}{lo:Obj}
  (I2:Inv X pins σ H2 s2)(f2:∀ b∈fp,gv X pins H2 b)(ehp:hp=s2.heap.push lo)
  (J:Inv (dv X scope N {s2 with heap:=hp} H2 (s2.heap.objs.size::fp)) [(s2.heap.objs.size,{cls:= .type "list",data:= .seq its.toArray na})] σ' He s1)
  (hsb:Heap.SameBut hp.objs.size s1.heap h')(hv:Vals ys its)(hz:ys.length<=sizeLine):
  Inv X pins σ (upd He s2.heap.objs.size (.lst ys)) {s1 with heap:=h'}:=by
 have hC:hp.objs.size=s2.heap.objs.size + 1:=by rw [ehp,Heap.size_push]
 have below:∀{b:Addr} {o:Obj},s2.heap.get? b=some o->b≠hp.objs.size/\b≠s2.heap.objs.size:=fun{b o} e=>by
  have q:=Heap.lt_size e
  exact⟨by rw [hC];exact Nat.ne_of_lt (Nat.lt_succ_of_lt q),Nat.ne_of_lt q⟩
 have up:∀{b:Addr} {o:Obj},s2.heap.get? b=some o->hp.get? b=some o:=fun e=>by rw [ehp];exact Heap.get?_push_of_some _ e
 have un:Un (da X.stack) (s2.heap.objs.size::fp) H2 He hp s1.heap:=J.base
 have nD:∀{b:Addr} {o:Obj},s2.heap.get? b=some o->b∉fp->b∉s2.heap.objs.size::fp:=fun e hx z=>(List.mem_cons.mp z).elim (below e).2 hx
 have U:He hp.objs.size=none:=J.free
 have u2:Un (da X.stack) fp H2 He s2.heap h':=by
  refine⟨fun b o e n hb hx=>?_,fun b o e n hb hx=>?_,fun b o e n hx=>?_,fun b o e hx=>?_,un.tups,un.frzs,un.tbls⟩
  ·exact(hsb.2 b (below e).1).trans (un.keep b o (up e) n hb (nD e hx))
  ·obtain⟨sl,q⟩:=un.slot b o (up e) n hb (nD e hx)
   exact⟨sl,(hsb.2 b (below e).1).trans q⟩
  ·exact un.free b o (up e) n (nD e hx)
  ·obtain⟨o',q⟩:=un.there b o (up e) (nD e hx)
   exact⟨o',(hsb.2 b (below e).1).trans q⟩
 have hok:dJ X.prog X.w He h':=fun b u e=>by
  refine(J.hok b u e).stay (fun c v hc q=>(hsb.2 c ?_).trans q) (fun _ q=>q) fun _ _ q=>q
  rintro rfl
  rcases hc with z | z
  ·rw [<-z,U] at e;cases e
  ·rw [U] at z;cases z
 have I3:Inv X pins σ He {s1 with heap:=h'}:=I2.call' (s':={s1 with heap:=h'}) (ch:=fp) J.os u2 hok J.bare fun b hb=>by
  obtain⟨f0,f1,f3,f4,f5,f6⟩:=f2 b hb
  exact⟨f4,f1,f5,f6⟩
 obtain⟨pe,pn,_⟩:=J.pin _ (List.mem_append_right _ List.mem_cons_self)
 refine I3.track (.inl (Heap.get?_none_of_le I2.sz)) pn (Nat.ne_of_gt I2.lt) (fun y c' q z=>?_) (fun p aa z=>?_) ?_
 ·obtain⟨v,q'⟩:=I2.cell y c' q
  exact absurd q'.lt (by rw [z];exact Nat.lt_irrefl _)
 ·exact absurd (Heap.lt_size (I2.pin p aa).1) (by rw [z];exact Nat.lt_irrefl _)
 ·exact⟨hz,its,na,hv,(hsb.2 _ (by rw [hC];exact Nat.ne_of_lt (Nat.lt_succ_self _))).trans pe⟩
theorem BX{elt target iter:Expr}{ifs:List Expr}{scope sc0:Scope}{pos:Pos}{N N0:List Str}{own:Nat}{caps:List Nat}{wi:TI}{g:TG}{tc:TT}{te:TE}
  (hcalm:X.calm=true)(hi:PI X target iter wi)
  (hg:∀ s₀ H₀ ex,PG (dv X scope N s₀ H₀ ex) target g)(hc:∀ s₀ H₀ ex,de (dv X scope N s₀ H₀ ex) ifs tc)(he:∀ s₀ H₀ ex,PE (dv X scope N s₀ H₀ ex) elt te)(hk:jO own g)
  (hX:X.N=N0)(hsc:X.env.scope=sc0)
  (hcell:∀ y∈scope.names,y.2≠ .cell)(hkind:scope.kind= .function)(hnames:∀ y∈scope.names,y.2= .local->scope.names.lookup y.1=some .local)
  (hfree:∀ y∈scope.names,y.2= .free->sc0.names.lookup y.1=some .cell)(hN:N.length=own + caps.length)
  (hcap:∀ p∈caps.zip (N.drop own),N0[p.1]? =some p.2/\scope.names.lookup p.2=some .free)
  (hs:∀ x,foldedSetIterable iter X.env x=pure x)
  {use:Option (Value->Sem Unit)}{Qf:Value->Shared->Prop}{pins:List (Addr×Obj)}{s:Shared}{σ:St}{H:Hp}{Q:VK}{cpos:Pos}(I:Inv X pins σ H s)(h:oa own caps wi g tc te σ H Q)
  (hR:∀(D C:Addr) (s':Shared) (He:Hp) (ys:List V) (m:Str->Option Value) (f:Flow),s'.heap.Ns C m->(∀ h',Heap.SameBut C s'.heap h'->Inv X pins σ (upd He D (.lst ys)) {s' with heap:=h'})->
   gv X pins (upd He D (.lst ys)) C->Q (.ref D) (upd He D (.lst ys))->compPost (model X.prog X.w) X.A X.xe use Qf (.ref D) C (.ok f) s'):
  wpAny (model X.prog X.w) X.A (comprehension (.ListComp elt [⟨target,iter,ifs,0⟩] scope pos) scope X.env cpos (newList []) false (eval iter X.env) use) Qf X.xe s:=by
 have ae:∀ y∈scope.names,y.2= .free->X.env.kindOf y.1=some .cell:=fun y hy e=>by
  show X.env.scope.names.lookup y.1=some .cell
  rw [hsc];exact hfree y hy e
 refine wpAny_comprehension_free (use:=use) rfl hs (vC fun y hy e=>I.ok.has y.1 (.inl (ae y hy e))) hkind hnames ?_
 refine cF (hi pins s σ H _ I h) fun v s1 h1=>cF h1 fun a6 s2 h2=>?_
 obtain⟨it,fp,tn,J,H2,e,I2,T,aG,f2,W,⟨m0,w0⟩,turn⟩:=h2
 subst e
 refine wpAny_newObj_type (wpAny_newFunctionEnv hcell (by intro y hy;simp at hy) (fun ar ag ah=>?_) hkind)
 dsimp only at ag ah ⊢
 generalize ak:s2.heap.push {cls:= .type "list",dict:=none,data:= .seq ([]:List Value).toArray}=hp at ag ah ⊢
 have hC:hp.objs.size=s2.heap.objs.size + 1:=by rw [<-ak,Heap.size_push]
 have ao:s2.heap.objs.size≠hp.objs.size:=by rw [hC];exact Nat.ne_of_lt (Nat.lt_succ_self _)
 have ay:hp.get? s2.heap.objs.size=some {cls:= .type "list",data:= .seq ([]:List Value).toArray}:=by rw [<-ak];exact Heap.get?_push_size _ rfl
 have up:∀{b:Addr} {o:Obj},s2.heap.get? b=some o->hp.get? b=some o:=fun e=>by rw [<-ak];exact Heap.get?_push_of_some _ e
 have up1:∀{b:Addr} {o:Obj},hp.get? b=some o->ar.get? b=some o:=fun{b o} e=>ah.extBut b o (Nat.ne_of_lt (Heap.lt_size e)) (Heap.get?_push_of_some _ e)
 have aF:∀{b:Addr} {o:Obj},s2.heap.get? b=some o->b < s2.heap.objs.size:=fun e=>Heap.lt_size e
 have aU:∀ b∈fp,∃ o,s2.heap.get? b=some o:=fun b hb=>by obtain⟨o,e,_⟩:=T.obj 0 _ aG b hb;exact⟨o,e⟩
 have aA:∀ b∈fp,b≠hp.objs.size/\b≠s2.heap.objs.size:=fun b hb=>by
  obtain⟨o,e⟩:=aU b hb
  have q:=aF e
  exact⟨by rw [hC];exact Nat.ne_of_lt (Nat.lt_succ_of_lt q),Nat.ne_of_lt q⟩
 have aa:∀{x:Str} {c:Addr},(fK X.env scope.names []).lookup x=some c->X.env.cells.lookup x=some c/\X.env.kindOf x=some .cell:=fun{x c} q=>by
  rcases oA q with z | ⟨z,e⟩
  ·cases z
  ·have k:=ae _ z rfl
   obtain⟨c',au⟩:=I2.ok.has x (.inl k)
   rw [au] at e
   have e':c=c':=e
   subst e'
   exact⟨au,k⟩
 have aq:∀{x:Str} {c:Addr},(fK X.env scope.names []).lookup x=some c->c < s2.heap.objs.size:=fun q=>by
  obtain⟨v,z⟩:=I2.cell _ _ (aa q).1
  exact z.lt
 have av:∀ b∈da X.stack,b < s2.heap.objs.size:=fun b hb=>by
  obtain⟨_,o,ho,_⟩:=I2.stack.mem hb
  exact Heap.lt_size ho
 have aV:(dv X scope N {s2 with heap:=hp} H2 (s2.heap.objs.size::fp)).Ok:=by
  refine⟨I2.ok.mod,hkind,I2.ok.glob,I2.ok.blt,Nat.le_refl _,fun x y c q1 q2=>I2.ok.inj x y c (aa q1).1 (aa q2).1,fun x hx=>?_,(fun x c z=>by cases z),I2.ok.hd,I2.ok.frames,.inl rfl,fun b hb=>?_,fun b o q=>⟨up (I2.bs b o q).1,(I2.bs b o q).2⟩,?_,fun b o q hb=>?_,fun b hb=>?_,?_,fun b hb=>I2.stkFree b hb⟩
  ·rcases hx with hx | hx
   ·exact jN (.inl (lH (env:=X.env) hcell (.inl rfl) hx))
   ·exact jN (.inl (lH (env:=X.env) hcell (.inr rfl) hx))
  ·rcases List.mem_cons.mp hb with rfl | hb
   ·exact⟨by show s2.heap.objs.size≠hp.objs.size;exact ao,fun x c q=>Nat.ne_of_lt (aq q)⟩
   ·exact⟨(aA b hb).1,fun x c q=>(f2 b hb).2.2.2.2.1 x c (aa q).1⟩
  ·show X.base.objs.size<=hp.objs.size
   rw [hC]
   exact Nat.le_succ_of_le (Nat.le_trans I2.ok.bsz I2.sz)
  ·rcases List.mem_cons.mp hb with rfl | hb
   ·exact Nat.lt_irrefl _ (aF (I2.bs _ o q).1)
   ·rcases(f2 b hb).2.2.2.1 with z | z
    ·exact I2.ok.noex b o q z
    ·exact Nat.lt_irrefl _ (Nat.lt_of_lt_of_le (Heap.lt_size (I2.ok.bs b o q).1) z)
  ·intro z
   rcases List.mem_cons.mp hb with rfl | hb
   ·exact Nat.lt_irrefl _ (av _ z)
   ·rcases List.mem_cons.mp (I2.stkSub b z) with q | q
    ·exact(f2 b hb).2.1 q
    ·exact(f2 b hb).2.2.1 q
  ·show hp.FunFrames X.base X.stack
   exact I2.stack.of_keeps fun b o q _=>⟨o,up q,rfl⟩
 have len0:(dE own caps σ).length=N.length:=by unfold dE;rw [List.length_append,List.length_replicate,List.length_map,hN]
 have I0:Inv (dv X scope N {s2 with heap:=hp} H2 (s2.heap.objs.size::fp)) [] (dE own caps σ) H2 {s2 with heap:=ar,toks:=s2.toks + ([]:List (Str×Value)).length}:=by
  refine⟨aV,rfl,I2.bare,Un.kept fun b o q=>up1 q,⟨_,ag,fun i x v e1 e2 e3=>?_⟩,fun x c q=>?_,I2.hok.fresh (by show s2.heap.objs.size<=hp.objs.size;rw [hC];exact Nat.le_succ _),fun x c q=>I2.freeC x c (aa q).1,fun p af=>absurd (show p∈([]:List (Addr×Obj)) from af) (by simp),I2.hok.kept fun b o q=>up1 (up q),len0⟩
  ·
   unfold dE at e2
   by_cases aN:i < own
   ·rw [List.getElem?_append_left (by simpa using aN),List.getElem?_replicate] at e2
    split at e2<;>cases e2
   ·rw [List.getElem?_append_right (by simpa using aN),List.length_replicate,List.getElem?_map] at e2
    cases ec:caps[i - own]? with
    | none=>rw [ec] at e2;cases e2
    | some j=>
     rw [ec] at e2
     have aw:(σ[j]?).join=some v:=Option.some.inj e2
     have aO:σ[j]? =some (some v):=by
      cases q:σ[j]? with
      | none=>rw [q] at aw;cases aw
      | some z=>rw [q] at aw;exact congrArg some aw
     have hx:(N.drop own)[i - own]? =some x:=by
      rw [List.getElem?_drop]
      have:own + (i - own)=i:=by(clear aO aw ec e2 e1 len0 ay ao hC ak hN hkind hsc hX hcalm;omega)
      rw [this];exact e1
     have hz:(caps.zip (N.drop own))[i - own]? =some (j,x):=by
      rw [List.getElem?_zip_eq_some];exact⟨ec,hx⟩
     obtain⟨hj,hf⟩:=hcap _ (List.mem_of_getElem? hz)
     rw [<-hX] at hj
     have aP:(x,NameKind.free)∈scope.names:=PySem.mem_of_lookup hf
     have aH:=ae _ aP rfl
     obtain⟨m,hn,hl⟩:=I2.loc
     obtain⟨u,ru,lk⟩:=hl j x v hj aO (.inr (.inl aH))
     refine⟨u,ru,.inr ⟨.inl (oZ I2.ok.kind hf aH),?_⟩⟩
     obtain⟨c,au⟩:=jN (env:=X.env) (cs:=[]) (.inl aP)
     have aW:=(aa au).1
     rcases lk with ⟨z,_⟩ | ⟨_,c2,aQ,aB⟩
     ·rw [aH] at z;cases z
     ·rw [aW] at aQ
      cases aQ
      obtain⟨oc,aI,aJ⟩:=aB
      exact⟨c,au,oc,up1 (up aI),aJ⟩
  ·obtain⟨v,oc,aI,aJ⟩:=I2.cell x c (aa q).1
   exact⟨v,oc,up1 (up aI),aJ⟩
 have aR:∀{aC:St} {H':Hp} {s':Shared} {U:List Value} {na:Nat},Inv (dv X scope N {s2 with heap:=hp} H2 (s2.heap.objs.size::fp)) [] aC H' s'->H' s2.heap.objs.size=none->
   s'.heap.get? s2.heap.objs.size=some {cls:= .type "list",data:= .seq U.toArray na}->
   Inv (dv X scope N {s2 with heap:=hp} H2 (s2.heap.objs.size::fp)) [(s2.heap.objs.size,{cls:= .type "list",data:= .seq U.toArray na})] aC H' s':=fun{aC H' s' U na} I' hn hd=>I'.pins_of fun p af=>by
  have e:p=(s2.heap.objs.size,{cls:= .type "list",data:= .seq U.toArray na}):=by simpa using af
  subst e
  exact⟨hd,hn,ao,fun z=>Nat.lt_irrefl _ (av _ z),fun v z=>nomatch z⟩
 have aS:∀{H':Hp} {pl:List (Addr×Obj)},(∀ b∈fp,H' b=none)->(∀ p∈pl,p.1=s2.heap.objs.size)->∀ b∈fp,gv (dv X scope N {s2 with heap:=hp} H2 (s2.heap.objs.size::fp)) pl H' b:=fun hn aX b hb=>by
  refine⟨hn b hb,(aA b hb).1,fun z=>?_,.inl (List.mem_cons_of_mem _ hb),fun x c q=>(f2 b hb).2.2.2.2.1 x c (aa q).1,fun p af z=>?_⟩
  ·rcases List.mem_cons.mp (I2.stkSub b z) with q | q
   ·exact(f2 b hb).2.1 q
   ·exact(f2 b hb).2.2.1 q
  ·exact(aA b hb).2 (z.symm.trans (aX p af))
 have loop:∀ ax:Shared,ax={s2 with heap:=ar,toks:=s2.toks + ([]:List (Str×Value)).length}->
   codeAny (model X.prog X.w) X.A (.compLoop (.ListComp elt [⟨target,iter,ifs,0⟩] scope pos) 0 (.ref it) (.ref s2.heap.objs.size) (compEnvC scope (fK X.env scope.names []) hp.objs.size X.env))
    (compPost (model X.prog X.w) X.A X.xe use Qf (.ref s2.heap.objs.size) hp.objs.size) ax:=by
  rintro ax rfl
  refine ym (fun n s'=>∃ i ys U na H',Inv (dv X scope N {s2 with heap:=hp} H2 (s2.heap.objs.size::fp)) [] (dE own caps σ) H' s'/\tn i s'.heap/\(∀ b∈fp,H' b=none)/\H' s2.heap.objs.size=none/\
   Vals ys U/\s'.heap.get? s2.heap.objs.size=some {cls:= .type "list",data:= .seq U.toArray na}/\W i n ys H') ?_ m0
   ⟨0,[],[],0,H2,I0,T.keep _ _ _ aG fun b _ o q=>up1 (up q),fun b hb=>(f2 b hb).1,I2.hok.fresh (Nat.le_refl _),.nil,up1 ay,w0⟩
  rintro n s3 ⟨i,ys,U,na,H3,I3,aT,aY,aK,aD,aL,w3⟩
  have Ip:=aR I3 aK aL
  have f3:=aS (H':=H3) (pl:=[(s2.heap.objs.size,{cls:= .type "list",data:= .seq U.toArray na})]) aY mM
  rcases turn i n ys H3 w3 with ⟨stop,hz,fin⟩ | ⟨go,hz,step⟩
  ·refine cF (T.done (dv X scope N {s2 with heap:=hp} H2 (s2.heap.objs.size::fp)) rfl rfl rfl hcalm i _ s3 _ H3 _ Ip f3 aT stop) fun r s4 ⟨hr,I4⟩=>?_
   subst hr
   obtain⟨m,hn,_⟩:=I4.loc
   exact hR _ _ _ _ ys m _ hn (fun h' aZ=>uZ I2 f2 ak.symm I4 aZ aD hz) (I2.fpOk (by rw [hC];exact Nat.le_succ _) (by rw [cK (Ne.symm ao)];exact I4.free)) (fin _ (I4.pin _ (List.mem_append_right _ List.mem_cons_self)).2.1)
  ·refine cF (T.item (dv X scope N {s2 with heap:=hp} H2 (s2.heap.objs.size::fp)) rfl rfl rfl hcalm i _ s3 _ H3 _ Ip f3 aT go) fun r s4 ⟨u,hr,h4⟩=>?_
   subst hr
   refine cF h4 fun _ s5 ⟨x,H5,I5,r5,y5,aM,a0⟩=>?_
   have a5:=I5.pinned (aS (H':=H5) (pl:=[(s2.heap.objs.size,{cls:= .type "list",data:= .seq U.toArray na})]) a0 mM) (T.obj _ _ aM)
   refine cF (hg _ _ _ _ s5 _ H5 x u _ a5 r5 (hk x _ H5 _ _ (step x H5 y5) fun aC H' q l k=>(⟨q,l,k⟩:_/\_/\_))) fun _ s6 ⟨aE,H6,I6,q6,l6,k6⟩=>?_
   refine cF (hc _ _ _ _ s6 aE H6 _ I6 q6) fun ok s7 ⟨H7,I7,q7⟩=>?_
   have weak:∀{H':Hp} {s':Shared} {pl:List (Addr×Obj)},Inv (dv X scope N {s2 with heap:=hp} H2 (s2.heap.objs.size::fp)) pl aE H' s'->Inv (dv X scope N {s2 with heap:=hp} H2 (s2.heap.objs.size::fp)) pl (dE own caps σ) H' s':=fun I'=>
    I'.weak l6.symm fun j v e=>k6 j v (by
     by_cases hj:j < own
     ·unfold dE at e
      rw [List.getElem?_append_left (by simpa using hj),List.getElem?_replicate] at e
      split at e<;>cases e
     ·(clear e l6 hz aL aK len0 ay ao hC ak hN hkind hsc hX hcalm;omega)) e
   have after:∀{H':Hp} {s':Shared},Inv (dv X scope N {s2 with heap:=hp} H2 (s2.heap.objs.size::fp)) ([(s2.heap.objs.size,{cls:= .type "list",data:= .seq U.toArray na})]++kh fp s5.heap) aE H' s'->
     tn (i + 1) s'.heap/\(∀ b∈fp,H' b=none)/\H' s2.heap.objs.size=none/\s'.heap.get? s2.heap.objs.size=some {cls:= .type "list",data:= .seq U.toArray na}:=fun I'=>by
    refine⟨T.keep _ _ _ aM fun b hb o e=>(I'.pin (b,o) (List.mem_append_right _ (List.mem_append_right _ (kR hb e)))).1,fun b hb=>?_,?_,?_⟩
    ·obtain⟨o,e,d⟩:=T.obj _ _ aM b hb
     exact(I'.pin (b,o) (List.mem_append_right _ (List.mem_append_right _ (kR hb e)))).2.1
    ·exact(I'.pin _ (List.mem_append_right _ (List.mem_append_left _ List.mem_cons_self))).2.1
    ·exact(I'.pin _ (List.mem_append_right _ (List.mem_append_left _ List.mem_cons_self))).1
   cases ok with
   | false=>
    rw [if_neg Bool.false_ne_true]
    obtain⟨m',hm,w7⟩:=(show ∃ m',m' < n/\W (i + 1) m' ys H7 by rw [if_neg Bool.false_ne_true] at q7;exact q7)
    obtain⟨a1,a2,a3,a4⟩:=after I7
    exact⟨m',hm,i + 1,ys,U,na,H7,(weak I7).pins_of (fun p af=>absurd af (by simp)),a1,a2,a3,aD,a4,w7⟩
   | true=>
    rw [if_pos rfl]
    rw [if_pos rfl] at q7
    refine cF (he _ _ _ _ s7 aE H7 _ I7 q7) fun yv s8 ⟨y,H8,I8,r8,m',hm,w8⟩=>?_
    obtain⟨a1,a2,a3,a4⟩:=after I8
    have hl:=aD.length
    refine call_meets F.slot_list_append ⟨_,a4,rfl⟩ F.entry_list_append (F.args_list_append_2 _ _) (PySem.list_append s2.heap.objs.size U.toArray na yv (by rw [List.size_toArray];(clear a4 a3 hm l6 aL aK len0 ay ao hC ak hN hkind hsc hX hcalm;omega))) ⟨a4,?_⟩
    have I9:Inv (dv X scope N {s2 with heap:=hp} H2 (s2.heap.objs.size::fp)) [] (dE own caps σ) H8 s8:=(weak I8).pins_of (fun p af=>absurd af (by simp))
    have q:(s8.heap.update s2.heap.objs.size (Obj.mapSeq (·.push yv))).get? s2.heap.objs.size=some {cls:= .type "list",data:= .seq (U++[yv]).toArray (na + 1)}:=by
     have q:=PySem.IsL.update a4 (·.push yv)
     simpa using q
    refine⟨m',hm,i + 1,ys++[y],U++[yv],na + 1,H8,I9.turned (it:=s2.heap.objs.size) (t':=s8.toks) (fun b o hb e=>?_) a3 (ao) (.inl List.mem_cons_self) (fun x c z=>Nat.ne_of_lt (aq z)) (fun p af=>absurd (show p∈([]:List (Addr×Obj)) from af) (by simp)),?_,a2,a3,aD.append (.cons r8 .nil),q,w8⟩
    ·rw [Heap.get?_update_other _ _ (Ne.symm hb)];exact e
    ·exact T.keep _ _ _ a1 fun b hb o e=>by rw [Heap.get?_update_other _ _ (Ne.symm (aA b hb).2)];exact e
 exact codeAny_compStart_list (loop _ rfl) (T.self _ 0 _ _ _ (T.keep _ _ _ aG fun b _ o q=>up1 (up q)) (loop _ rfl))
theorem gP{elt target iter:Expr}{ifs:List Expr}{scope sc0:Scope}{pos:Pos}{N N0:List Str}{own:Nat}{caps:List Nat}{wi:TI}{g:TG}{tc:TT}{te:TE}
  (hcalm:X.calm=true)(hi:PI X target iter wi)
  (hg:∀ s₀ H₀ ex,PG (dv X scope N s₀ H₀ ex) target g)(hc:∀ s₀ H₀ ex,de (dv X scope N s₀ H₀ ex) ifs tc)(he:∀ s₀ H₀ ex,PE (dv X scope N s₀ H₀ ex) elt te)(hk:jO own g)
  (hX:X.N=N0)(hsc:X.env.scope=sc0)
  (hcell:∀ y∈scope.names,y.2≠ .cell)(hkind:scope.kind= .function)(hnames:∀ y∈scope.names,y.2= .local->scope.names.lookup y.1=some .local)
  (hfree:∀ y∈scope.names,y.2= .free->sc0.names.lookup y.1=some .cell)(hN:N.length=own + caps.length)
  (hcap:∀ p∈caps.zip (N.drop own),N0[p.1]? =some p.2/\scope.names.lookup p.2=some .free)
  (hs:∀ x,foldedSetIterable iter X.env x=pure x:=by intro _;rfl):
  PE X (.ListComp elt [⟨target,iter,ifs,0⟩] scope pos) (oa own caps wi g tc te):=by
 intro pins s σ H Q I h
 rw [eval_ListComp]
 exact BX hcalm hi hg hc he hk hX hsc hcell hkind hnames hfree hN hcap hs I h fun D C s' He ys m f hn U _ q=>⟨m,hn,fun h' J=>⟨.ref D,_,U h' J,rfl,q⟩⟩
end
theorem dP.at {P:Program}{w:World}{H:Hp}{h:Heap}{a:Addr}{o:HO}(x:dP P w H h a o):∃ ob,h.get? a=some ob:=by
 cases o with
 | lst xs=>obtain⟨_,_,_,_,e⟩:=x;exact⟨_,e⟩
 | tup xs=>obtain⟨_,_,_,ob,e,_⟩:=x;exact⟨_,e⟩
 | dK kvs=>obtain⟨_,_,_,_,o,_,_,e,_⟩:=x;exact⟨_,e⟩
 | dT kvs=>obtain⟨_,_,_,_,o,_,_,e,_⟩:=x;exact⟨_,e⟩
 | set S n=>obtain⟨o,_,_,_,e,_⟩:=x;exact⟨_,e⟩
 | ins C dx fs=>obtain⟨_,_,_,e,_⟩:=x;exact⟨_,e⟩
 | own y=>obtain⟨_,e⟩:=x;exact⟨_,e⟩
 | xd fs=>obtain⟨_,⟨_,_,_,e,_⟩,_⟩:=x;exact⟨_,e⟩
 | rng lo hi=>obtain⟨_,_,_,e⟩:=x;exact⟨_,e⟩
 | frz ob u=>obtain⟨e,_⟩:=x;exact⟨_,e⟩
 | tbl ps=>exact⟨_,show h.get? a=some _ from x⟩
 | met f y=>exact⟨_,show h.get? a=some _ from x⟩
 | ext J=>obtain⟨_,⟨_,e⟩,_⟩:=x;exact⟨_,e⟩
noncomputable def dg(P:Program)(w:World):fR:=fun outer H s E e s'=>∃(J:Addr) (cls U:Value) (B:Heap) (H':Hp),
 e= .ref J/\s'.os=s.os/\AllBare s'.gens/\Un (da outer) [] H H' s.heap s'.heap/\dJ P w H' s'.heap/\Heap.FlyingW B outer J cls U s'.heap/\
 (∀ b o,s.heap.get? b=some o->H b=none->b∉da outer->B.get? b=some o)/\(∀ b o,s.heap.get? b=some o->b∉da outer->∃ o',B.get? b=some o')/\
 (∀ b u,H' b=some u->∃ o,B.get? b=some o)/\E cls none H'
theorem dg.no {P:Program}{w:World}{outer:List Env}{H:Hp}{s s':Shared}{e:Value}(h:dg P w outer H s (fun _ _ _=>False) e s'):False:=by
 obtain⟨_,_,_,_,_,_,_,_,_,_,_,_,_,_,z⟩:=h
 exact z
theorem l9{fs:List Addr}{H H':Hp}{h h1 h2 B base:Heap}{outer:List Env}(hfs:fs=da outer)(u:Un fs [] H H' h h1)(k1:∀ b o,h.get? b=some o->H b=none->b∉fs->B.get? b=some o)
  (k3:∀ b o,h.get? b=some o->b∉fs->∃ o',B.get? b=some o')(ff:h1.FunFrames base outer)(st:B.StaysIn h2)(up:h1.UpToSlots h2):Un fs [] H H' h h2:=by
 have fr:∀ b∈fs,∀ o,h1.get? b=some o->∃ sl,h2.get? b=some {o with slots:=sl}:=fun b hb o e=>by
  rw [hfs] at hb
  obtain⟨_,o',J,nf⟩:=ff.mem hb
  rw [e] at J;cases J
  exact up b o e nf
 refine⟨fun b o e n hb _=>st b o (k1 b o e n hb),fun b o e n hb U=>?_,u.free,fun b o e U=>?_,u.tups,u.frzs,u.tbls⟩
 ·obtain⟨sl,e1⟩:=u.slot b o e n hb U
  obtain⟨aa,e2⟩:=fr b hb _ e1
  exact⟨aa,e2⟩
 ·by_cases hb:b∈fs
  ·obtain⟨o1,e1⟩:=u.there b o e U
   obtain⟨sl,e2⟩:=fr b hb _ e1
   exact⟨_,e2⟩
  ·obtain⟨o',J⟩:=k3 b o e hb
   exact⟨o',st b o' J⟩
theorem lT{P:Program}{w:World}{H:Hp}{h1 h2 B:Heap}(x:dJ P w H h1)(k2:∀ b u,H b=some u->∃ o,B.get? b=some o)(s1:B.StaysIn h1)(s2:B.StaysIn h2):dJ P w H h2:=fun b u e=>by
 refine(x b u e).stay (fun c v U q=>?_) (fun _ q=>q) fun _ _ q=>q
 have ht:∃ z,H c=some z:=by
  rcases U with z | z
  ·subst z;exact⟨u,e⟩
  ·exact⟨_,z⟩
 obtain⟨z,ez⟩:=ht
 obtain⟨o,J⟩:=k2 c z ez
 have:=s1 c o J
 rw [q] at this;cases this
 exact s2 c v J
section
variable {P : Program} {w : World} {K : PySem.W.Frag} {mg : Str -> Option Value} {base : Heap} {N : List Str} {qual : Str} {scope : Scope} {f : Addr} {cdv : Value} {A : Around} {outer : List Env} {s₀ : Shared} {H₀ : Hp} {E E' : XK}
noncomputable def Raises(X:Cx)(E:XK):Prop:=∀(pins:List (Addr×Obj)) (σ:St) (H:Hp) (s:Shared) (h':Heap) (J:Addr) (cls:Value) (args:List Value),Inv X pins σ H s->Heap.MadeExcOf s.heap h' J cls args->E cls none H->X.xe (.ref J) {s with heap:=h'}
theorem iV:Raises (dY (dg P w) P w K mg base N qual scope f cdv A outer s₀ H₀ E) E:=by
 intro pins σ H s h' ea cls args I hx hE
 have stk:=I.stack
 have U:∀ env∈(dY (dg P w) P w K mg base N qual scope f cdv A outer s₀ H₀ E).stack,∀ b,env.frame=some b->b∈da (dY (dg P w) P w K mg base N qual scope f cdv A outer s₀ H₀ E).stack:=fun env he b hb=>List.mem_filterMap.mpr ⟨env,he,hb⟩
 have J:∀{b:Addr} {o:Obj},s.heap.get? b=some o->b∉da (dY (dg P w) P w K mg base N qual scope f cdv A outer s₀ H₀ E).stack->(W.hideAll s.heap (da (dY (dg P w) P w K mg base N qual scope f cdv A outer s₀ H₀ E).stack)).get? b=some o:=fun e hb=>W.hideAll_get _ e hb
 have hL:∀{b:Addr} {o:Obj},s₀.heap.get? b=some o->b∉da outer->b∉da (dY (dg P w) P w K mg base N qual scope f cdv A outer s₀ H₀ E).stack:=fun{b o} e hb z=>by
  rcases List.mem_cons.mp (I.stkSub b z) with q | q
  ·have h1:=Heap.lt_size e
   have h2:s₀.heap.objs.size<=(dY (dg P w) P w K mg base N qual scope f cdv A outer s₀ H₀ E).env.locals:=I.ok.above
   rw [q] at h1
   exact Nat.lt_irrefl _ (Nat.lt_of_lt_of_le h1 h2)
  ·exact hb q
 show wpAny (model P w) (A.deeper (envOfC qual scope s₀.heap.objs.size f cdv)) (leaving (envOfC qual scope s₀.heap.objs.size f cdv) (.ref ea)) _ _ _
 refine wpAny_leaves_madeW (s:={s with heap:=h'}) (h:=s.heap) (base:=W.hideAll s.heap (da (dY (dg P w) P w K mg base N qual scope f cdv A outer s₀ H₀ E).stack)) I.ok.frames rfl (fun b o q=>W.of_hideAll _ q) (W.funFrames_hide stk U) hx fun aa t fl _ _ up=>?_
 have u0:Un (da outer) [] H₀ H s₀.heap s.heap:=I.base
 have tr:∀ b u,H b=some u->b∉da (dY (dg P w) P w K mg base N qual scope f cdv A outer s₀ H₀ E).stack:=fun b u e z=>by rw [I.stkFree b z] at e;cases e
 have k1:∀ b o,s₀.heap.get? b=some o->H₀ b=none->b∉da outer->(W.hideAll s.heap (da (dY (dg P w) P w K mg base N qual scope f cdv A outer s₀ H₀ E).stack)).get? b=some o:=fun b o e n hb=>J (u0.keep b o e n hb (by simp)) (hL e hb)
 have k3:∀ b o,s₀.heap.get? b=some o->b∉da outer->∃ o',(W.hideAll s.heap (da (dY (dg P w) P w K mg base N qual scope f cdv A outer s₀ H₀ E).stack)).get? b=some o':=fun b o e hb=>by
  obtain⟨o',e'⟩:=u0.there b o e (by simp)
  exact⟨o',J e' (hL e hb)⟩
 have k2:∀ b u,H b=some u->∃ o,(W.hideAll s.heap (da (dY (dg P w) P w K mg base N qual scope f cdv A outer s₀ H₀ E).stack)).get? b=some o:=fun b u e=>by
  obtain⟨o,eo⟩:=(I.hok b u e).at
  exact⟨o,J eo (tr b u e)⟩
 exact⟨ea,cls,.ref t,_,H,rfl,I.os,I.bare,l9 rfl u0 k1 k3 I.funs fl.1 ((Heap.UpToSlots.of_keeps hx.keeps).trans up),lT I.hok k2 (fun b o q=>W.of_hideAll _ q) fl.1,fl,k1,k3,k2,hE⟩
theorem je(hE:∀ cls od H',E' cls od H'->E cls od H'):Passes (dg P w) (dY (dg P w) P w K mg base N qual scope f cdv A outer s₀ H₀ E) E':=by
 intro pins σ H s e s' I h
 obtain⟨ea,cls,a0,B,H',rfl,os,bare,un,hok,fl,k1,k3,k2,U⟩:=h
 have stk:(dY (dg P w) P w K mg base N qual scope f cdv A outer s₀ H₀ E).stack=envOfC qual scope s₀.heap.objs.size f cdv::outer:=rfl
 have af:da (dY (dg P w) P w K mg base N qual scope f cdv A outer s₀ H₀ E).stack=s₀.heap.objs.size::da outer:=rfl
 have J:Un (da outer) [] H₀ H s₀.heap s.heap:=I.base
 have aa:∀{b:Addr} {o:Obj},s₀.heap.get? b=some o->b∉da outer->b∉da (dY (dg P w) P w K mg base N qual scope f cdv A outer s₀ H₀ E).stack:=fun{b o} e hb z=>by
  rw [af] at z
  rcases List.mem_cons.mp z with q | q
  ·have h1:=Heap.lt_size e
   rw [q] at h1
   exact Nat.lt_irrefl _ h1
  ·exact hb q
 show wpAny (model P w) (A.deeper (envOfC qual scope s₀.heap.objs.size f cdv)) (leaving (envOfC qual scope s₀.heap.objs.size f cdv) (.ref ea)) _ _ _
 refine wpAny_leaves_onW I.ok.frames rfl fl fun ah ae up=>?_
 have u1:Un (da outer) [] H₀ H' s₀.heap s'.heap:=by
  refine⟨fun b o e n hb U=>?_,fun b o e n hb U=>?_,fun b o e n U=>?_,fun b o e U=>?_,fun b xs q=>un.tups b xs (J.tups b xs q),fun b ob u q=>un.frzs b ob u (J.frzs b ob u q),fun b ps q=>?_⟩
  ·exact un.keep b o (J.keep b o e n hb U) (J.free b o e n U) (aa e hb) (by simp)
  ·obtain⟨sl,e1⟩:=J.slot b o e n hb U
   obtain⟨ag,e2⟩:=un.any e1 (J.free b o e n U) (by simp)
   exact⟨ag,e2⟩
  ·obtain⟨o',e1⟩:=J.there b o e U
   exact un.free b o' e1 (J.free b o e n U) (by simp)
  ·obtain⟨o',e1⟩:=J.there b o e U
   exact un.there b o' e1 (by simp)
  ·obtain⟨m1,e1⟩:=J.tbls b ps q
   obtain⟨m2,e2⟩:=un.tbls b _ e1
   exact⟨m1++m2,by rw [e2,Array.append_assoc]⟩
 have K1:∀ b o,s₀.heap.get? b=some o->H₀ b=none->b∉da outer->B.get? b=some o:=fun b o e n hb=>k1 b o (J.keep b o e n hb (by simp)) (J.free b o e n (by simp)) (aa e hb)
 have K3:∀ b o,s₀.heap.get? b=some o->b∉da outer->∃ o',B.get? b=some o':=fun b o e hb=>by
  obtain⟨o',e1⟩:=J.there b o e (by simp)
  exact k3 b o' e1 (aa e hb)
 have ff:s'.heap.FunFrames B outer:=by
  obtain⟨_,_,⟨_,_,r⟩,_⟩:=fl
  exact r
 exact⟨ea,cls,a0,B,H',rfl,os.trans I.os,bare,l9 rfl u1 K1 K3 ff ae.1 up,lT hok k2 fl.1 ae.1,ae,K1,K3,k2,hE _ _ _ U⟩
end
theorem AB{K:W.Frag}{h:Heap}{C:Addr}{bmB:List Value}{newId:String}(X:K.In h)(q:W.excIn K C bmB newId=true):
  ∃ bm N nm qn bs hdct sn sub ab col dd k0 k1 k2 k3 k5 mN,h.get? C=some (excClassObj nm qn C N bs bm hdct sn sub ab col dd k0 k1 k2 k3 k5 newId)/\h.Ns N mN/\mN "__init__"=none/\OwnTail h bmB bm:=by
 unfold W.excIn at q
 split at q
 ·rename_i dd cd sl ho
  split at q
  ·rename_i C' bm k0 k1 k2 k3 n k5 hm hs
   simp only [Bool.and_eq_true,beq_iff_eq,Bool.not_eq_true'] at q
   obtain⟨⟨⟨⟨⟨rfl,rfl⟩,J⟩,ht⟩,hok⟩,U⟩:=q
   obtain⟨nm,bs,mro,ns,qn,hd,sn,sub,ab,col,del⟩:=cd
   dsimp only at hm J hok U
   subst hm J
   have aa:sl=#[k0,k1,k2,k3,some (.builtin n),k5]:=by
    obtain⟨l⟩:=sl
    simp only at hs
    rw [hs]
   subst aa
   exact⟨bm,ns,nm,qn,bs,hd,sn,sub,ab,col,dd,k0,k1,k2,k3,k5,_,X _ _ ho,.of_isNs (W.isNs_of_in X hok),W.nsMap_none_of_in X hok U,W.tail_of_in X ht⟩
  ·cases q
 ·cases q
section
variable {X : Cx} {E : XK}
noncomputable def Bq(C:Addr)(E:XK)(t:TA):TS:=fun _ σ H=>t σ H fun vs H1=>vs.length<=sizeLine/\E (.ref C) none H1
theorem jn{x:Str}{C:Addr}{e:Expr}{es:List Expr}{t:TA}{np cpos pos:Pos}{B Bn newId nid initId inN:String}{bmB bmN:List Value}(hcalm:X.calm=true)(hq:W.excIn X.K C bmB newId=true)
  (Fn:ExcBaseFacts Bn newId inN bmN)(hBn:bmB.contains (.type Bn)=true)(FB:ExcBaseFacts B nid initId bmB)(hg:Gl X x)(hm:X.mg x=some (.ref C))(ha:PA X (e::es) t)(hR:Raises X E)
  (hdb:(x == ("__debug__":Str))=false:=by decide)(he:starEach (e::es) X.env=(false,eval e X.env)::starEach es X.env:=by rfl)(hpl:(backTo cpos (starEach es X.env)).any (·.1)=false:=by rfl):
  PS X (.Raise (some (.Call (.Name x np) (e::es) [] cpos)) none pos) (Bq C E t):=by
 intro pins s σ H D I h
 obtain⟨tl,N,nm,qn,bs,hdct,sn,sub,ab,col,dd,k0,k1,k2,k3,k5,mN,hC,hN,U,T⟩:=AB I.ok.mod.kin hq
 refine wpAny_Raise_call_subU (C:=C) (nm:=nm) (q:=qn) (N:=N) (bs:=bs) (bm:=tl) (hdct:=hdct) (sn:=sn) (sub:=sub) (ab:=ab) (col:=col) (dd:=dd) (k0:=k0) (k1:=k1) (k2:=k2) (k3:=k3) (k5:=k5)
  Fn hBn FB (mN:=mN) (T.hasType FB.hasBase) (I.ok.hd hcalm) (by rw [he];show(false || (backTo cpos (starEach es X.env)).any (·.1))=false;rw [hpl];rfl) U (lR I hg hm ⟨rfl,?_⟩ hdb)
 have hA:=ha cpos pins s σ H _ I h
 rw [he] at hA ⊢
 exact Calls.evalArgs_plain (cF hA fun us s2 ⟨vs,H2,J,r,hz,hE⟩=>⟨rfl,by rw [<-r.length];exact hz,J.bk _ _ hC,hN.keeps J.bk,T.keeps J.bk,fun h' ea mk=>hR pins σ H2 s2 h' ea (.ref C) us J mk hE⟩)
end
section
variable {P : Program} {w : World} {K : PySem.W.Frag} {mg : Str -> Option Value} {base : Heap}
theorem ix.ok1 {x qual:Str}{st:Stmt}{f:Addr}{fd:FuncData}{N ps:List Str}{k:Nat}{sp:Sp}(F:ix K x qual st f fd)(S:dD N ps (cv st))(len:∀ vs H Q E,sp vs H Q E->vs.length=ps.length)
  (hbody:∀(cdv:Value) (A:Around) (outer:List Env) (s:Shared) (H:Hp) (vs:List V) (Q:VK) (E:XK),dW k (A.deeper (envOfC qual (cv st) s.heap.objs.size f cdv))->sp vs H Q E->
   ∃ t,cV (dY (dg P w) P w K mg base N qual (cv st) f cdv A outer s H E) (cL st) t/\t {nx:=fun _ H'=>Q .non H',rt:=Q} (start N vs) H):cu P w K mg base (dg P w) (k + 1) f fd ps sp:=by
 obtain⟨oc,od,kV,doc,pm,an,cdv,ct,aa,rfl,lk,J⟩:=F.ex
 exact ug lk J S len fun A outer s H vs Q E hr U=>hbody cdv A outer s H vs Q E hr U
end
section
variable {X : Cx} {CX : fR} {k : Nat} {f C : Addr} {fd : FuncData} {ps : List Str} {sp : Sp} {dvs : List V} {ds : List Value} {E : St -> XK} {x m : Str} {p pos apos : Pos} {e o : Expr} {es : List Expr} {ta : TE} {t : TA}
end
section
variable {X : Cx} {pins : List (Addr × Obj)} {σ : St} {H : Hp} {s : Shared}
end
section
variable {X : Cx}
end
structure qd (k : Nat) (A : Around) : Prop where
 dp : A.depth + 3 * k + 5 < recursionLimit
 un : A.units + 16 * k + 200 < cLine
theorem dW.toN {k:Nat}{A:Around}(r:dW k A):qd k A:=⟨r.dp,r.un⟩
theorem qd.units {k:Nat}{A:Around}(r:qd k A):A.units + 100 < cLine:=by have:=r.un;omega
theorem dW.units100 {k:Nat}{A:Around}(r:dW k A):A.units + 100 < cLine:=r.toN.units
section
variable {X : Cx} {k : Nat} {f C : Addr} {fd : FuncData} {ps : List Str} {sp : List V -> Hp -> VK -> Prop} {dvs : List V} {ds : List Value} {x m : Str} {p pos apos : Pos} {e o : Expr} {es : List Expr} {ta : TE} {t : TA}
end
end L2
namespace PySem.W
open PySem PySem.Spec PySem.Calls PyProof.Rows PySem.Builtin.ObjectAttr PySem.Builtin.Getset_descriptor PySem.Builtin
section
variable {prog : Program} {w : World} {A : Around} {E : Value -> Shared -> Prop} {K : Frag} {x C : Addr} {ox : Obj}
end
end PySem.W
namespace L2
open PySem PySem.Spec PyProof.Rows
theorem ve:∀{Cs:List Addr} {its:List Value},Vals (Cs.map V.ref) its->its=Cs.map Value.ref
 | [],_,.nil=>rfl
 | _::_,_,.cons J U=>by cases J;rw [ve U,List.map_cons]
section
variable {X : Cx}
end
theorem ly{J:It}{g:TG}{tc:TT}{te:TE}{σ0:St}{H:Hp}{Q:VK}(n:Nat)(Pv:Nat->List V->Hp->Prop)(hz:n < sizeLine)(hgo:∀ i ys H,i < n->Pv i ys H->J.go i H)(hstop:∀ ys H,Pv n ys H->J.stop n H)(h0:Pv 0 [] H)
  (hs:∀ i ys H x H' (N:List V->Hp->Prop),i < n->Pv i ys H->J.yld i H x H'->(∀ ys' H2,Pv (i + 1) ys' H2->N ys' H2)->
   g x σ0 H' fun σ2 H2=>tc σ2 H2 fun b H3=>if b=true then te σ2 H3 fun y H4=>N (ys++[y]) H4 else N ys H3)
  (hd:∀ ys H,Pv n ys H->ys.length<=n->∀ p,H p=none->Q (.ref p) (upd H p (.lst ys))):
  jX J g tc te σ0 Q H:=by
 refine⟨fun i m ys H=>m=n - i/\i<=n/\ys.length<=i/\Pv i ys H,⟨n,by simp,Nat.zero_le _,Nat.le_refl _,h0⟩,?_⟩
 rintro i m ys H ⟨rfl,hi,hl,p⟩
 by_cases aa:i < n
 ·refine .inr ⟨hgo i ys H aa p,by(clear aa;omega),fun x H' y=>?_⟩
  have key:=hs i ys H x H' (fun ys' H2=>(ys'.length<=ys.length + 1->∃ U,U < n - i/\U=n - (i + 1)/\i + 1<=n/\ys'.length<=i + 1/\Pv (i + 1) ys' H2)) aa p y (fun ys' H2 q hle=>⟨n - (i + 1),by(clear hle hl hi hz;omega),rfl,aa,by(clear aa hi hz;omega),q⟩)
  have e:(fun σ2 H2=>tc σ2 H2 fun b H3=>if b=true then te σ2 H3 fun y H4=>((ys++[y]).length<=ys.length + 1->∃ U,U < n - i/\U=n - (i + 1)/\i + 1<=n/\(ys++[y]).length<=i + 1/\Pv (i + 1) (ys++[y]) H4)
    else (ys.length<=ys.length + 1->∃ U,U < n - i/\U=n - (i + 1)/\i + 1<=n/\ys.length<=i + 1/\Pv (i + 1) ys H3))=
   (fun σ2 H2=>tc σ2 H2 fun b H3=>if b=true then te σ2 H3 fun y H4=>∃ U,U < n - i/\U=n - (i + 1)/\i + 1<=n/\(ys++[y]).length<=i + 1/\Pv (i + 1) (ys++[y]) H4
    else ∃ U,U < n - i/\U=n - (i + 1)/\i + 1<=n/\ys.length<=i + 1/\Pv (i + 1) ys H3):=by
   funext σ2 H2
   congr 1
   funext b H3
   have e1:∀(y:V) (H4:Hp),((ys++[y]).length<=ys.length + 1->∃ U,U < n - i/\U=n - (i + 1)/\i + 1<=n/\(ys++[y]).length<=i + 1/\Pv (i + 1) (ys++[y]) H4)=(∃ U,U < n - i/\U=n - (i + 1)/\i + 1<=n/\(ys++[y]).length<=i + 1/\Pv (i + 1) (ys++[y]) H4):=fun y H4=>
    propext ⟨fun q=>q (by simp),fun q _=>q⟩
   have e2:(ys.length<=ys.length + 1->∃ U,U < n - i/\U=n - (i + 1)/\i + 1<=n/\ys.length<=i + 1/\Pv (i + 1) ys H3)=(∃ U,U < n - i/\U=n - (i + 1)/\i + 1<=n/\ys.length<=i + 1/\Pv (i + 1) ys H3):=propext ⟨fun q=>q (by(clear aa hl hi hz;omega)),fun q _=>q⟩
   simp only [e1,e2]
  rw [e] at key
  exact key
 ·have e:i=n:=by(clear hl hz;omega)
  subst e
  exact .inl ⟨hstop ys H p,by(clear aa hi;omega),hd ys H p hl⟩
theorem Bs{x:Str}{g:TG}{tc:TT}{te:TE}{σ0:St}{H:Hp}{Q:VK}(Pv:Nat->List V->Hp->Prop)(hz:x.cps.size < sizeLine)(h0:Pv 0 [] H)
  (hs:∀ i c ys H (N:List V->Hp->Prop),x.cps[i]? =some c->Pv i ys H->(∀ ys' H2,Pv (i + 1) ys' H2->N ys' H2)->
   g (.str ⟨#[c]⟩) σ0 H fun σ2 H2=>tc σ2 H2 fun b H3=>if b=true then te σ2 H3 fun y H4=>N (ys++[y]) H4 else N ys H3)
  (hd:∀ ys H,Pv x.cps.size ys H->ys.length<=x.cps.size->∀ p,H p=none->Q (.ref p) (upd H p (.lst ys))):jX (oY x) g tc te σ0 Q H:=ly x.cps.size Pv hz (fun i ys H hi _=>hi) (fun ys H _=>rfl) h0
 (fun i ys H v H' N hi p y J=>by
  obtain⟨e,c,U,e2⟩:=y
  subst e e2
  exact hs i c ys _ N U p J) hd
theorem lK{lo:Int}{n:Nat}{g:TG}{tc:TT}{te:TE}{σ0:St}{H:Hp}{Q:VK}(Pv:Nat->List V->Hp->Prop)(hz:n < sizeLine)(h0:Pv 0 [] H)
  (hs:∀ i ys H (N:List V->Hp->Prop),i < n->Pv i ys H->(∀ ys' H2,Pv (i + 1) ys' H2->N ys' H2)->
   g (.int (lo + i)) σ0 H fun σ2 H2=>tc σ2 H2 fun b H3=>if b=true then te σ2 H3 fun y H4=>N (ys++[y]) H4 else N ys H3)
  (hd:∀ ys H,Pv n ys H->ys.length<=n->∀ p,H p=none->Q (.ref p) (upd H p (.lst ys))):jX (jb lo n) g tc te σ0 Q H:=ly n Pv hz (fun i ys H hi _=>hi) (fun ys H _=>Nat.le_refl _) h0
 (fun i ys H v H' N hi p y J=>by
  obtain⟨e,U⟩:=y
  subst e U
  exact hs i ys _ N hi p J) hd
theorem oI{K:W.Frag}{a:Addr}{xs:List V}{g:TG}{tc:TT}{te:TE}{σ0:St}{H:Hp}{Q:VK}(Pv:Nat->List V->Hp->Prop)(hz:xs.length < sizeLine)(hl:∀ i ys H,Pv i ys H->cm K H a xs)(h0:Pv 0 [] H)
  (hs:∀ i x ys H (N:List V->Hp->Prop),xs[i]? =some x->Pv i ys H->(∀ ys' H2,Pv (i + 1) ys' H2->N ys' H2)->
   g x σ0 H fun σ2 H2=>tc σ2 H2 fun b H3=>if b=true then te σ2 H3 fun y H4=>N (ys++[y]) H4 else N ys H3)
  (hd:∀ ys H,Pv xs.length ys H->ys.length<=xs.length->∀ p,H p=none->Q (.ref p) (upd H p (.lst ys))):jX (kE K a) g tc te σ0 Q H:=ly xs.length Pv hz
 (fun i ys H hi p=>⟨xs,xs[i],hl i ys H p,by simp [hi]⟩) (fun ys H p=>⟨xs,hl _ ys H p,Nat.le_refl _⟩) h0
 (fun i ys H v H' N hi p y J=>by
  obtain⟨e,y⟩:=y
  subst e
  exact hs i v ys _ N (y xs (hl i ys _ p)) p J) hd
@[elab_as_elim] theorem xC {α:Type}{p:List α->Prop}(h:∀ a,p [a])(us:List α)(hl:us.length=1):p us:=by
 obtain⟨a,rfl⟩:=List.length_eq_one_iff.mp hl
 exact h a
@[elab_as_elim] theorem eT {α:Type}{p:List α->Prop}(h:∀ a b,p [a,b])(us:List α)(hl:us.length=2):p us:=by
 cases us with
 | nil=>cases hl
 | cons a r=>exact @xC _ (fun r=>p (a::r)) (fun b=>h a b) r (Nat.succ.inj hl)
@[elab_as_elim] theorem vB {α:Type}{p:List α->Prop}(h:∀ a b c,p [a,b,c])(us:List α)(hl:us.length=3):p us:=by
 cases us with
 | nil=>cases hl
 | cons a r=>exact @eT _ (fun r=>p (a::r)) (fun b c=>h a b c) r (Nat.succ.inj hl)
@[elab_as_elim] theorem uo {α:Type}{p:List α->Prop}(h:∀ a b c d,p [a,b,c,d])(us:List α)(hl:us.length=4):p us:=by
 cases us with
 | nil=>cases hl
 | cons a r=>exact @vB _ (fun r=>p (a::r)) (fun b c d=>h a b c d) r (Nat.succ.inj hl)
section
variable {X : Cx}
end
noncomputable def qz(a:Addr):It:=⟨fun i H=>∃ xs x,H a=some (.lst xs)/\xs[i]? =some x,fun i H v H'=>∃ T x,H T=none/\(∀ xs,H a=some (.lst xs)->xs[i]? =some x)/\v= .ref T/\H'=upd H T (.tup [.int i,x]),fun i H=>∃ xs,H a=some (.lst xs)/\i=xs.length⟩
theorem z9{P:Program}{w:World}{K:PySem.W.Frag}{elts:List Expr}{k:Nat}{pos:Pos}(a e it:Addr)(hei:e≠it):
  Turn P w K (.Tuple elts k pos) (qz a) [e,it] e (fun i h=>(∃ old,IsEnum h e it i old)/\h.IsListIter it a i) where
 mem:=by simp
 obj:=fun i h st b hb=>by
  obtain⟨⟨old,he⟩,o,ho,c,d⟩:=st
  rcases List.mem_cons.mp hb with rfl | hb
  ·exact⟨_,he,fun v z=>nomatch z⟩
  ·have e:b=it:=by simpa using hb
   subst e
   exact⟨o,ho,fun v z=>by rw [d] at z;cases z⟩
 keep:=fun i h h' st kk=>by
  obtain⟨⟨old,he⟩,o,ho,r⟩:=st
  exact⟨⟨old,kk e (by simp) _ he⟩,o,kk it (by simp) o ho,r⟩
 item:=by
  intro X hP hw hK hc i pins s σ H E I hf st hg
  subst hP hw hK
  obtain⟨xs,x,U,hx⟩:=hg
  obtain⟨J,rv,p,hz⟩:=I.list (cm.of U)
  obtain⟨u,hu,ru⟩:=rv.get hx
  have ae:a≠e:=fun z=>by rw [z,(hf e (by simp)).1] at U;cases U
  have af:a≠it:=fun z=>by rw [z,(hf it (by simp)).1] at U;cases U
  have aq:i < J.toArray.size:=by
   have:=(List.getElem?_eq_some_iff.mp hu).1
   simpa using this
  have W:=WalksT.enumerateD (Draws.list (prog:=X.prog) (w:=X.w) (A:=X.A.in1) (I.ok.hd hc) it a af J.toArray) e hei (by simp [hei,Ne.symm ae]) (by simp)
  refine W.item i s _ _ aq ⟨st.1,st.2,p.isList⟩ fun T vals h' tk hv hT ht mid kk=>⟨_,rfl,?_⟩
  obtain⟨t',y,hy,rfl⟩:=hv
  have ar:y=u:=by
   have h1:J[i]? =some y:=by simpa using hy
   rw [hu] at h1
   exact(Option.some.inj h1).symm
  subst ar
  refine W.go elts k pos i T _ _ _ mid fun ag aa ah=>?_
  have keep:∀ b o,b∉[e,it]->s.heap.get? b=some o->ag.get? b=some o:=fun b o hb q=>ah b o hb (kk b o hb q)
  have I1:Inv X pins σ H {s with heap:=ag,toks:=tk}:=I.turnedL keep hf
  have hn:H T=none:=I.hok.fresh hT
  have ak:T∉[e,it]:=W.apart i T h' mid
  obtain⟨ot,au,av,n,aw⟩:=ht
  have I2:Inv X pins σ (upd H T (.tup [.int i,x])) {s with heap:=ag,toks:=tk}:=by
   refine I1.track (.inl (Heap.get?_none_of_le (Nat.le_trans I.sz hT))) hn (Nat.ne_of_gt (Nat.lt_of_lt_of_le I.lt hT)) (fun y c' q z=>?_) (fun p hp z=>?_) ?_
   ·obtain⟨v,q'⟩:=I.cell y c' q
    exact absurd (Nat.lt_of_lt_of_le q'.lt (by rw [z];exact hT)) (Nat.lt_irrefl _)
   ·exact absurd (Nat.lt_of_lt_of_le (Heap.lt_size (I.pin p hp).1) (by rw [z];exact hT)) (Nat.lt_irrefl _)
   ·exact⟨by show 2<=sizeLine;decide,[.int i t',y],.cons ⟨_,rfl⟩ (.cons ru .nil),ot,ah T ot ak au,av,n,aw⟩
  refine⟨.ref T,_,I2,rfl,⟨T,x,hn,(fun ys ao=>?_),rfl,rfl⟩,⟨aa.1,aa.2.1⟩,fun b hb=>?_⟩
  ·rw [U] at ao
   cases ao
   exact hx
  ·have ax:b≠T:=fun z=>ak (z ▸ hb)
   rw [cK ax]
   exact(hf b hb).1
 done:=by
  intro X hP hw hK hc i pins s σ H E I hf st hg
  subst hP hw hK
  obtain⟨xs,U,hx⟩:=hg
  obtain⟨J,rv,p,hz⟩:=I.list (cm.of U)
  have hl:=rv.length
  have ae:a≠e:=fun z=>by rw [z,(hf e (by simp)).1] at U;cases U
  have af:a≠it:=fun z=>by rw [z,(hf it (by simp)).1] at U;cases U
  have W:=WalksT.enumerateD (Draws.list (prog:=X.prog) (w:=X.w) (A:=X.A.in1) (I.ok.hd hc) it a af J.toArray) e hei (by simp [hei,Ne.symm ae]) (by simp)
  have hi:i=J.toArray.size:=by rw [hx,hl];simp
  subst hi
  exact W.done s _ _ ⟨st.1,st.2,p.isList⟩ fun h' tk kk=>⟨rfl,I.turnedL kk hf⟩
 self:=fun A i s Q E st h=>by
  obtain⟨⟨old,he⟩,_⟩:=st
  exact wpAny_pyIter_enum he h
noncomputable def yf(ta:TA):TI:=fun σ H R=>ta σ H fun vs H1=>∃(a:Addr) (xs:List V),vs=[.ref a]/\H1 a=some (.lst xs)/\R (qz a) H1
section
variable {X : Cx}
theorem vz{elts:List Expr}{k:Nat}{tpos p pos:Pos}{a:Expr}{ta:TA}(hg:Gl X "enumerate")(hm:X.mg "enumerate"=none)(ha:PA X [a] ta)(hs:starEach [a] X.env=[(false,eval a X.env)]:=by rfl):
  PI X (.Tuple elts k tpos) (.Call (.Name "enumerate" p) [a] [] pos) (yf ta):=by
 intro pins s σ H R I h
 refine Call_ (iM I hg hm boot_enumerate (PyProof.Rows.callWith_type1 (cF (ha pos pins s σ H _ I h) fun us s1 ⟨vs,H1,J,U,q1⟩=>?_) hs rfl))
 obtain⟨l,xs,e,hH,q⟩:=q1
 subst e
 obtain⟨u,rfl,ru⟩:=vals1 U
 cases ru
 obtain⟨aa,rv,pl,hz⟩:=J.list (cm.of hH)
 refine call_enumerate_list pl.isList fun h' he hit ae hk=>?_
 refine wpAny_pyIter_enum he ?_
 refine⟨s1.heap.objs.size + 1,[s1.heap.objs.size + 1,s1.heap.objs.size],_,_,H1,rfl,J.kept (t':=s1.toks) hk,z9 l _ _ (Nat.succ_ne_self _),⟨⟨_,he⟩,hit⟩,fun b hb=>?_,q⟩
 rcases List.mem_cons.mp hb with rfl | hb
 ·exact J.fpOk (Nat.le_succ _) (J.hok.fresh (Nat.le_succ _))
 ·have e:b=s1.heap.objs.size:=by simpa using hb
  subst e
  exact J.fpOk (Nat.le_refl _) (J.hok.fresh (Nat.le_refl _))
end
section
variable {X : Cx} {CX : fR} {k : Nat} {f C : Addr} {fd : FuncData} {ps : List Str} {ds : List Value} {dvs : List V} {sp : Sp} {m : Str} {pos apos : Pos} {e o : Expr} {es : List Expr} {ta : TE} {t : TA} {E : St -> XK}
end
section
variable {X : Cx} {pins : List (Addr × Obj)} {σ : St} {H : Hp} {s : Shared} {a : Addr}
end
section
variable {X : Cx}
noncomputable def ub:V->List V->Hp->VK->Prop:=fun x vs H Q=>∃ d kvs k y,x= .ref d/\vs=[kV k,y]/\H d=some (.dK kvs)/\kvs.length < sizeLine/\(∀ v,df kvs k=some v->Q v H)/\(df kvs k=none->Q y (upd H d (.dK (putK kvs k y))))
theorem Bt:kL X "dict.setdefault" ub:=by
 intro pins s σ H x vs v us Q I rx rv h
 obtain⟨d,kvs,k,y,rfl,rfl,hH,hz,q1,q2⟩:=h
 cases rx
 obtain⟨u,w',rfl,ru,J⟩:=rv.two
 obtain⟨z,hd,vs,rel,dd⟩:=za I.hok hH
 refine call_meetsIn F.slot_dict_setdefault dd.typeIs F.entry_dict_setdefault (F.args_dict_setdefault_3 _ _ _) (kt_meets_setdefault (fP X.prog X.w) d (nj ru) hd w')
  ⟨vs,dd,by rw [<-rel.length];exact z,fun v hv=>?_,fun hn h' U hs=>?_⟩
 ·have r:=rel.val k
  rw [hv] at r
  cases l:df kvs k with
  | none=>rw [l] at r;exact(show False from r).elim
  | some v'=>
   rw [l] at r
   exact⟨v',H,I.tok _,r,q1 v' l⟩
 ·have l:df kvs k=none:=by
   have r:=rel.val k
   rw [hn] at r
   cases l:df kvs k with
   | none=>rfl
   | some v'=>rw [l] at r;exact(show False from r).elim
  have he:∃ q,h'.get? d=some q:=let ⟨q,_,_,hq,_⟩:=U;⟨q,hq⟩
  have hl:(putK kvs k y).length<=sizeLine:=by have:=wY kvs k y;omega
  exact⟨y,_,wH I (by rw [hH];exact True.intro) hs he (zb hl hd (rel.put k J) U),J,q2 l⟩
noncomputable def zX:V->List V->Hp->VK->Prop:=fun x vs H Q=>∃ d y z o,x= .ref d/\vs=[y,z]/\kP H d y o/\Q (o.getD z) H
theorem yE(hu:X.A.units + 1 < cLine):kL X "dict.get" zX:=by
 intro pins s σ H x vs v us Q I U rv h
 obtain⟨d,y,z,o,rfl,rfl,g,q⟩:=h
 cases U
 obtain⟨u,w',rfl,ru,J⟩:=rv.two
 exact Au hu I g ru J fun w2 s3 I3 r3=>⟨_,H,I3,r3,q⟩
theorem sV{K:W.Frag}{H:Hp}{d:Addr}{kvs:List (Key×V)}(h:H d=some (.dK kvs)):pf K "dict" (.ref d) H:= .inr (.inr (.inl ⟨rfl,.inl ⟨kvs,h⟩⟩))
noncomputable def Ac:V->List V->Hp->VK->Prop:=fun x vs H Q=>∃(l:Addr) (xs:List V) (j:Int) (i:Nat) (y:V),x= .ref l/\vs=[.int j,y]/\j=(i:Int)/\H l=some (.lst xs)/\i<=xs.length/\xs.length < 1000000/\Q .non (upd H l (.lst (xs.take i++y::xs.drop i)))
theorem v8{its:List Value}{w':Value}{j:Int}{i:Nat}(hj:j=(i:Int))(hi:i<=its.length):(fun xs:Array Value=>have k:=if j < 0 then (j + (xs.size:Int)).toNat else min j.toNat xs.size;(xs.extract 0 k).push w'++xs.extract k) its.toArray=(its.take i++w'::its.drop i).toArray:=by
 have h1:¬ (j < 0):=by omega
 have h2:min j.toNat its.toArray.size=i:=by rw [List.size_toArray,hj,Int.toNat_natCast];omega
 dsimp only
 rw [if_neg h1,h2]
 simp
 exact List.take_of_length_le (by rw [List.length_drop];exact Nat.le_refl _)
theorem w6:kL X "list.insert" Ac:=by
 intro pins s σ H x vs v us Q I rx rv h
 obtain⟨l,xs,j,i,y,rfl,rfl,hj,hH,hi,hz,q⟩:=h
 cases rx
 obtain⟨u,w',rfl,⟨t,rfl⟩,aa⟩:=rv.two
 obtain⟨z,J,n,r,hl,e⟩:=I.lstM hH
 have hs:(sizeLine:Nat)=16777216:=sizeLine_eq
 have U:Builtin.List.listFitsIndex j=true:=fitsIndex_both (by omega) (by omega)
 have ae:J.toArray.size<=sizeLine:=by rw [List.size_toArray];omega
 refine call_meets F.slot_list_insert ⟨_,e,rfl⟩ F.entry_list_insert (F.args_list_insert_3 _ _ _) (AutoSeq1.list_insert_list_int_val_1 l J.toArray n j t w' (by simp [U]) ae) ⟨e,?_⟩
 refine⟨.non,_,I.lset (its':=J.take i++w'::J.drop i) hH e (v8 hj (by omega)) ((r.take i).append (.cons aa (r.drop i))) ?_,rfl,q⟩
 rw [List.length_append,List.length_cons,List.length_take,List.length_drop]
 omega
end
noncomputable def mh(a b:Addr):It:=⟨fun i H=>∃ xs ys x y,H a=some (.lst xs)/\H b=some (.lst ys)/\xs[i]? =some x/\ys[i]? =some y,
 fun i H v H'=>∃ T x y,H T=none/\(∀ xs,H a=some (.lst xs)->xs[i]? =some x)/\(∀ ys,H b=some (.lst ys)->ys[i]? =some y)/\v= .ref T/\H'=upd H T (.tup [x,y]),
 fun i H=>∃ xs ys,H a=some (.lst xs)/\H b=some (.lst ys)/\i=min xs.length ys.length⟩
theorem uj{H:Hp}{a b z TI TO i1 i2:Addr}{xs ys:List V}(ha:H a=some (.lst xs))(hb:H b=some (.lst ys))(hf:∀ c∈[z,TI,TO,i1,i2],H c=none)(hd:[z,TI,TO,i1,i2].Nodup):ZipApart z TI TO i1 i2 a b:=by
 have f:∀ c∈[z,TI,TO,i1,i2],a≠c/\b≠c:=fun c U=>⟨fun e=>(by rw [e,hf c U] at ha;cases ha),fun e=>(by rw [e,hf c U] at hb;cases hb)⟩
 simp at hd f
 obtain⟨⟨d1,d2,d3,d4⟩,⟨d5,d6,d7⟩,⟨d8,d9⟩,J⟩:=hd
 obtain⟨⟨f1,g1⟩,⟨f2,g2⟩,⟨f3,g3⟩,⟨f4,g4⟩,f5,g5⟩:=f
 exact⟨Ne.symm d1,Ne.symm d2,Ne.symm d3,Ne.symm d4,d5,d6,d7,d8,d9,J,f1,f3,f4,f5,g1,g3,g4,g5⟩
theorem Bp{P:Program}{w:World}{K:PySem.W.Frag}{elts:List Expr}{k:Nat}{pos:Pos}(a b z TI TO i1 i2:Addr)(hd:[z,TI,TO,i1,i2].Nodup):
  Turn P w K (.Tuple elts k pos) (mh a b) [z,TI,TO,i1,i2] z (fun i h=>IsZip h z TI TO .none/\IsPair h TI (.ref i1) (.ref i2)/\(∃ a b,IsPair h TO a b)/\h.IsListIter i1 a i/\h.IsListIter i2 b i) where
 mem:=by simp
 obj:=fun i h st c U=>by
  obtain⟨hz,ag,⟨u,v,ak⟩,⟨o1,aw,c1,d1⟩,o2,ax,c2,d2⟩:=st
  simp at U
  rcases U with rfl | rfl | rfl | rfl | rfl
  ·exact⟨_,hz,fun v z=>nomatch z⟩
  ·exact⟨_,ag,fun v z=>nomatch z⟩
  ·exact⟨_,ak,fun v z=>nomatch z⟩
  ·exact⟨o1,aw,fun v z=>by rw [d1] at z;cases z⟩
  ·exact⟨o2,ax,fun v z=>by rw [d2] at z;cases z⟩
 keep:=fun i h h' st kk=>by
  obtain⟨hz,ag,⟨u,v,ak⟩,h1,h2⟩:=st
  exact⟨kk z (by simp) _ hz,kk TI (by simp) _ ag,⟨u,v,kk TO (by simp) _ ak⟩,h1.at fun o e=>kk i1 (by simp) o e,h2.at fun o e=>kk i2 (by simp) o e⟩
 item:=by
  intro X hP hw hK U i pins s σ H E I hf st hg
  subst hP hw hK
  obtain⟨xs,ys,x,y,hA,hB,hx,hy⟩:=hg
  obtain⟨ae,rv,p,hz⟩:=I.list (cm.of hA)
  obtain⟨J,ao,p2,ay⟩:=I.list (cm.of hB)
  obtain⟨u,hu,ru⟩:=rv.get hx
  obtain⟨u2,au,aA⟩:=ao.get hy
  have aq:=uj hA hB (fun c U=>(hf c U).1) hd
  have aB:i < min ae.toArray.size J.toArray.size:=by
   have h1:=(List.getElem?_eq_some_iff.mp hu).1
   have h2:=(List.getElem?_eq_some_iff.mp au).1
   simp
   omega
  have W:=WalksT.zip2 (prog:=X.prog) (w:=X.w) (A:=X.A) (I.ok.hd U) z TI TO i1 i2 a b aq ae.toArray J.toArray
  refine W.item i s _ _ aB ⟨st.1,st.2.1,st.2.2.1,st.2.2.2.1,st.2.2.2.2,p.isList,p2.isList⟩ fun T vals h' tk hv hT ht mid kk=>⟨_,rfl,?_⟩
  obtain⟨q,q2,hq,aC,rfl⟩:=hv
  have e1:q=u:=by
   have h1:ae[i]? =some q:=by simpa using hq
   rw [hu] at h1
   exact(Option.some.inj h1).symm
  have e2:q2=u2:=by
   have h1:J[i]? =some q2:=by simpa using aC
   rw [au] at h1
   exact(Option.some.inj h1).symm
  subst e1 e2
  refine W.go elts k pos i T _ _ _ mid fun ar aa av=>?_
  have sub:∀ c,c∉[z,TI,TO,i1,i2]->c∉[z,TO,i1,i2]:=fun c U hm=>U (by simp at hm ⊢;rcases hm with r | r | r | r<;>simp [r])
  have keep:∀ c o,c∉[z,TI,TO,i1,i2]->s.heap.get? c=some o->ar.get? c=some o:=fun c o U q=>av c o (sub c U) (kk c o (sub c U) q)
  have I1:Inv X pins σ H {s with heap:=ar,toks:=tk}:=I.turnedL keep hf
  have hn:H T=none:=I.hok.fresh hT
  have af:T∉[z,TO,i1,i2]:=W.apart i T h' mid
  have ag:T≠TI:=fun e=>by
   have:=Heap.lt_size st.2.1
   rw [<-e] at this
   exact absurd (Nat.lt_of_lt_of_le this hT) (Nat.lt_irrefl _)
  obtain⟨ot,aD,aE,n,aF⟩:=ht
  have I2:Inv X pins σ (upd H T (.tup [x,y])) {s with heap:=ar,toks:=tk}:=by
   refine I1.track (.inl (Heap.get?_none_of_le (Nat.le_trans I.sz hT))) hn (Nat.ne_of_gt (Nat.lt_of_lt_of_le I.lt hT)) (fun y c' q z=>?_) (fun p hp z=>?_) ?_
   ·obtain⟨v,q'⟩:=I.cell y c' q
    exact absurd (Nat.lt_of_lt_of_le q'.lt (by rw [z];exact hT)) (Nat.lt_irrefl _)
   ·exact absurd (Nat.lt_of_lt_of_le (Heap.lt_size (I.pin p hp).1) (by rw [z];exact hT)) (Nat.lt_irrefl _)
   ·exact⟨by show 2<=sizeLine;decide,[q,q2],.cons ru (.cons aA .nil),ot,av T ot af aD,aE,n,aF⟩
  refine⟨.ref T,_,I2,rfl,⟨T,x,y,hn,(fun zs ah=>?_),(fun zs ah=>?_),rfl,rfl⟩,⟨aa.1,aa.2.1,aa.2.2.1,aa.2.2.2.1,aa.2.2.2.2.1⟩,fun b hb=>?_⟩
  ·rw [hA] at ah
   cases ah
   exact hx
  ·rw [hB] at ah
   cases ah
   exact hy
  ·have aG:b≠T:=fun e=>by
    subst e
    simp at hb af
    rcases hb with r | r | r | r | r
    ·exact af.1 r
    ·exact ag r
    ·exact af.2.1 r
    ·exact af.2.2.1 r
    ·exact af.2.2.2 r
   rw [cK aG]
   exact(hf b hb).1
 done:=by
  intro X hP hw hK U i pins s σ H E I hf st hg
  subst hP hw hK
  obtain⟨xs,ys,hA,hB,hx⟩:=hg
  obtain⟨ae,rv,p,hz⟩:=I.list (cm.of hA)
  obtain⟨J,ao,p2,ay⟩:=I.list (cm.of hB)
  have hl:=rv.length
  have aH:=ao.length
  have aq:=uj hA hB (fun c U=>(hf c U).1) hd
  have W:=WalksT.zip2 (prog:=X.prog) (w:=X.w) (A:=X.A) (I.ok.hd U) z TI TO i1 i2 a b aq ae.toArray J.toArray
  have hi:i=min ae.toArray.size J.toArray.size:=by rw [hx,hl,aH];simp
  subst hi
  have sub:∀ c,c∉[z,TI,TO,i1,i2]->c∉[z,TO,i1,i2]:=fun c U hm=>U (by simp at hm ⊢;rcases hm with r | r | r | r<;>simp [r])
  exact W.done s _ _ ⟨st.1,st.2.1,st.2.2.1,st.2.2.2.1,st.2.2.2.2,p.isList,p2.isList⟩ fun h' tk kk=>⟨rfl,I.turnedL (fun c o U q=>kk c o (sub c U) q) hf⟩
 self:=fun A i s Q E st h=>wpAny_pyIter_zip st.1 h
noncomputable def Aw(ta:TA):TI:=fun σ H R=>ta σ H fun vs H1=>∃(a b:Addr) (xs ys:List V),vs=[.ref a,.ref b]/\H1 a=some (.lst xs)/\H1 b=some (.lst ys)/\R (mh a b) H1
section
variable {X : Cx}
theorem yu:bootBuiltins "zip"=some (.type "zip"):=dkq
theorem Ad{elts:List Expr}{k:Nat}{tpos p pos:Pos}{a b:Expr}{ta:TA}(hg:Gl X "zip")(hm:X.mg "zip"=none)(ha:PA X [a,b] ta)(hs:starEach [a,b] X.env=(false,eval a X.env)::starEach [b] X.env:=by rfl)(hs2:(backTo pos (starEach [b] X.env)).any (·.1)=false:=by rfl):
  PI X (.Tuple elts k tpos) (.Call (.Name "zip" p) [a,b] [] pos) (Aw ta):=by
 intro pins s σ H R I h
 refine Call_ (iM I hg hm yu (PyProof.Rows.callWith_type1 (cF (ha pos pins s σ H _ I h) fun us s1 ⟨vs,H1,J,r1,q1⟩=>?_) hs hs2))
 obtain⟨l1,l2,xs,ys,e,hA,hB,q⟩:=q1
 subst e
 obtain⟨u1,u2,rfl,ae,af⟩:=r1.two
 cases ae
 cases af
 obtain⟨aq,rv,pl,hz⟩:=J.list (cm.of hA)
 obtain⟨ao,ar,ag,au⟩:=J.list (cm.of hB)
 refine call_zip_2 pl.isList ag.isList fun h' U ah ak h1 h2 av hk=>?_
 refine wpAny_pyIter_zip U ?_
 refine⟨s1.heap.objs.size + 4,[s1.heap.objs.size + 4,s1.heap.objs.size + 2,s1.heap.objs.size + 3,s1.heap.objs.size,s1.heap.objs.size + 1],_,_,H1,rfl,J.kept (t':=s1.toks) hk,Bp l1 l2 _ _ _ _ _ (by simp),⟨U,ah,⟨_,_,ak⟩,h1,h2⟩,fun b hb=>?_,q⟩
 simp at hb
 have aa:s1.heap.objs.size<=b:=by
  rcases hb with r | r | r | r | r<;>rw [r]<;>first | exact Nat.le_refl _ | exact Nat.le_add_right _ _
 exact J.fpOk aa (J.hok.fresh aa)
end
theorem BH{a b:Addr}{xs ys:List V}{g:TG}{tb:TS}{D:Ends}{σ:St}{H:Hp}(Pv:Nat->St->Hp->Prop)(he:xs.length=ys.length)(h0:Pv 0 σ H)(hl:∀ i σ H,i<=xs.length->Pv i σ H->H a=some (.lst xs)/\H b=some (.lst ys))
  (hs:∀ i x y σ H T,xs[i]? =some x->ys[i]? =some y->Pv i σ H->H T=none->g (.ref T) σ (upd H T (.tup [x,y])) fun σ2 H2=>tb {D with nx:=Pv (i + 1),ct:=Pv (i + 1),bk:=D.nx} σ2 H2)(hd:∀ σ H,Pv xs.length σ H->D.nx σ H):
  ∃ W:Nat->Nat->St->Hp->Prop,(∃ m,W 0 m σ H)/\∀ i m σ H,W i m σ H->
   ((mh a b).stop i H/\D.nx σ H)\/((mh a b).go i H/\∃ N:St->Hp->Prop,(∀ σ' H',N σ' H'->∃ m',m' < m/\W (i + 1) m' σ' H')/\∀ x H',(mh a b).yld i H x H'->g x σ H' fun σ2 H2=>tb {D with nx:=N,ct:=N,bk:=D.nx} σ2 H2):=by
 refine⟨fun i m σ H=>m=xs.length - i/\i<=xs.length/\Pv i σ H,⟨xs.length,by simp,Nat.zero_le _,h0⟩,?_⟩
 rintro i m σ H ⟨rfl,hi,p⟩
 have q:=hl i σ H hi p
 by_cases J:i < xs.length
 ·refine .inr ⟨⟨xs,ys,xs[i],ys[i]'(by omega),q.1,q.2,by simp [J],by simp [show i < ys.length by omega]⟩,Pv (i + 1),fun σ' H' p'=>⟨xs.length - (i + 1),by omega,rfl,J,p'⟩,fun x H' y=>?_⟩
  obtain⟨T,z,z2,hT,hz,U,rfl,rfl⟩:=y
  exact hs i z z2 σ H T (hz xs q.1) (U ys q.2) p hT
 ·have e:i=xs.length:=by omega
  subst e
  exact .inl ⟨⟨xs,ys,q.1,q.2,by omega⟩,hd σ H p⟩
section
variable {X : Cx}
theorem zo:nP X "str.startswith" (fun x xs H Q=>∃ z y,x= .str z/\xs=[.str y]/\Q (.bl (Txt.startswith z y)) H):=by
 intro pins s σ H x xs v us Q I J rs h
 obtain⟨z,y,rfl,rfl,q⟩:=h
 obtain⟨t,rfl⟩:=J
 obtain⟨u,rfl,t',rfl⟩:=vals1 rs
 exact SC.startswith ⟨.bl _,H,I,rfl,q⟩
theorem uY:∀{ns:List Nat} {us:List Value},Vals (ns.map fun(n:Nat)=>V.int (n:Int)) us->∀(i:Nat) (v:Value),us[i]? =some v->∃ n t,ns[i]? =some n/\v= .int (n:Int) t
 | [],_,.nil,i,v,h=>by simp at h
 | b::bs,_,.cons r t,0,v,h=>by
  obtain⟨k,J⟩:=(show ∃ k,_=Value.int (b:Int) k from r)
  subst J
  simp at h
  exact⟨b,k,by simp,h.symm⟩
 | b::bs,_,.cons r t,i + 1,v,h=>by
  obtain⟨c,k,U,e2⟩:=uY t i v (by simpa using h)
  exact⟨c,k,by simpa using U,e2⟩
theorem qK(ns:List Nat):∀ k,k<=ns.length->preSum (fun i=>(((ns[i]?).getD 0:Nat):Int)) k=((ns.take k).sum:Nat)
 | 0,_=>rfl
 | k + 1,h=>by
  show preSum _ k + (((ns[k]?).getD 0:Nat):Int)=_
  rw [qK ns k (by omega),List.take_add_one,List.sum_append,List.getElem?_eq_getElem (show k < ns.length by omega)]
  simp
theorem A7(ns:List Nat)(k:Nat):(ns.take k).sum<=ns.sum:=by
 have:=congrArg List.sum (List.take_append_drop k ns)
 rw [List.sum_append] at this
 omega
theorem rp:∀{ns:List Nat} {n:Nat},n∈ns->n<=ns.sum
 | m::r,n,h=>by
  rw [List.sum_cons]
  rcases List.mem_cons.mp h with e | e
  ·omega
  ·have:=rp e
   omega
theorem wg(hc:X.calm=true):gf X (.builtin "sum") (fun xs H Q=>∃(p:Addr) (ns:List Nat),xs=[.ref p]/\cm X.K H p (ns.map fun(n:Nat)=>V.int (n:Int))/\ns.sum<=1000000/\Q (.int ((ns.sum:Nat):Int)) H):=by
 intro pins s σ H xs us Q I r h
 obtain⟨p,ns,rfl,hq,hS,q⟩:=h
 obtain⟨u,rfl,rx⟩:=vals1 r
 cases rx
 obtain⟨J,rv,pl,hz⟩:=I.list hq
 have hl:=pl.isList
 have hlen:=rv.length
 rw [List.length_map] at hlen
 have U:p < s.heap.objs.size:=by obtain⟨_,e,_⟩:=hl;exact Heap.lt_size e
 refine call_sum_walk (wpAny_pyIter_list hl ?_)
 refine⟨s.heap.objs.size,[s.heap.objs.size,p],[s.heap.objs.size],J.toArray.size,_,_,fun i=>(((ns[i]?).getD 0:Nat):Int),rfl,Walks.list (A:=X.A.in1) (I.ok.hd hc) _ p (Nat.ne_of_lt U) J.toArray,
  ⟨⟨_,Heap.get?_push_size _ rfl,rfl,rfl⟩,hl.push _⟩,fun b hb=>?_,fun i v hP=>?_,fun j hj=>?_,fun h' tk t' hk=>?_⟩
 ·have e:∀ o,(s.heap.push o).objs.size=s.heap.objs.size + 1:=fun o=>by show(s.heap.objs.push o).size=_;simp
  show b < (s.heap.push _).objs.size
  rw [e]
  rcases List.mem_cons.mp hb with z | z
  ·rw [z];exact Nat.lt_succ_self _
  ·rw [List.mem_singleton.mp z];exact Nat.lt_succ_of_lt U
 ·obtain⟨n,t,e,rfl⟩:=uY rv i v (by simpa using hP)
  refine⟨t,?_⟩
  show Value.int (n:Int) t=Value.int (((ns[i]?).getD 0:Nat):Int) t
  rw [e]
  rfl
 ·have aa:j < ns.length:=by rw [List.size_toArray] at hj;omega
  refine⟨?_,?_⟩
  ·show InLong (((ns[j]?).getD 0:Nat):Int)
   rw [List.getElem?_eq_getElem aa,Option.getD_some]
   have:=rp (List.getElem_mem aa)
   exact⟨by omega,by omega⟩
  ·rw [qK ns (j + 1) (by omega)]
   have:=A7 ns (j + 1)
   exact⟨by omega,by omega⟩
 ·rw [List.size_toArray,<-hlen,qK ns _ (Nat.le_refl _),List.take_of_length_le (Nat.le_refl _)]
  exact⟨.int _,H,I.kept (LSm.kept_iter hk),⟨t',rfl⟩,q⟩
end
section
variable {X : Cx} {o e : Expr} {es : List Expr} {to : TE} {t : TA} {name : Str} {apos cpos : Pos} {T id : String} {r : V -> List V -> Hp -> VK -> Prop}
theorem wB{K:W.Frag}(hK:X.K=K)(pa:PlainAttrs T)(slot:Slot T name id)(hty:typeOf (.builtin id)=pure (.type "method_descriptor"))(hm:nP X id r)(ho:PE X o to)(ha:PA X (e::es) t)
  (hbase:attributeBase o name X.env (eval o X.env)=eval o X.env:=by rfl)
  (hfew:((backTo cpos (starEach (e::es) X.env)).all (fun x=> !x.1) && (backToKw cpos (keywordEach [] X.env)).all (fun x=>x.1.isSome)
   && decide ((e::es).length + ([]:List Keyword).length + (if ([]:List Keyword).isEmpty then 0 else 1) < 30))=true:=by rfl)
  (hline:(apos.endLine == cpos.line)=true:=by rfl)(hs:starEach (e::es) X.env=(false,eval e X.env)::starEach es X.env:=by rfl)(hplain:(backTo cpos (starEach es X.env)).any (·.1)=false:=by rfl):
  PE X (.Call (.Attribute o name apos) (e::es) [] cpos) (qN K T r to t):=by
 subst hK
 exact gj pa slot hty hm ho ha hbase hfew hline hs hplain
end
end L2
namespace Gn
open PySem L2 PyProof.Rows PySem.Spec
end Gn
namespace L2
open PySem PySem.Spec PyProof.Rows
section
variable {X : Cx}
end
structure KD (P : Program) (w : World) (K : W.Frag) (d : Addr) (kvs : List (Key × V)) : Prop where
 ns : (d == sysModules) = false
 at_ : ∀ h : Heap, K.In h -> ∃ vs, KV kvs vs /\ h.DictOf (fP P w) d vs
noncomputable def Cd(kvs:List (Key×V))(ty:TE):TE:=fun σ H Q=>ty σ H fun y H2=>∃ k,y=kV k/\Q ((df kvs k).getD .non) H2
section
variable {X : Cx} {x : Str} {d : Addr} {kvs : List (Key × V)} {e : Expr} {p apos cpos : Pos} {ty : TE}
theorem BI(hg:Gl X x)(hm:X.mg x=some (.ref d))(D:KD X.prog X.w X.K d kvs)(he:PE X e ty)(m:M1 X (.Name x p) "get" apos e cpos)(hdb:(x == ("__debug__":Str))=false:=by decide):
  PE X (.Call (.Attribute (.Name x p) "get" apos) [e] [] cpos) (Cd kvs ty):=by
 intro pins s σ H Q I h
 refine wpAny_Call_method m.base m.few m.line F.plainAttrs_dict F.slot_dict_get F.type_dict_get (lR I hg hm ?_ hdb)
 obtain⟨vs,rel,dd⟩:=D.at_ s.heap I.kIn
 refine⟨dd.typeIs,fun b q=>?_,?_⟩
 ·cases q
  obtain⟨ob,_,_,h1,h2,_⟩:=dd
  exact⟨ob,h1,h2.2.1⟩
 rw [m.trees]
 refine Calls.callWith_builtin rfl (Calls.evalArgs_plain (Calls.spliced_cons (cF (he pins s σ H _ I h) fun iv s2 ⟨y,H2,I2,ry,k,ey,q2⟩=>Calls.spliced_nil ?_)))
 subst ey
 obtain⟨aa,J,U⟩:=D.at_ s2.heap I2.kIn
 refine call_meetsIn F.slot_dict_get U.typeIs F.entry_dict_get (F.args_dict_get_2 _ _) (meets_dict_get (fP X.prog X.w) d (nj ry) D.ns) ⟨_,U.mapOf,⟨_,H2,I2.tok _,?_,q2⟩⟩
 exact(J.val k).getD rfl
end
section
variable {X : Cx} {CX : fR} {k : Nat} {ι : Type} {C f : ι -> Addr} {fd : ι -> FuncData} {ps : ι -> List Str} {sp : ι -> Sp} {E : XK} {m : Str} {pos apos : Pos} {e o : Expr} {es : List Expr} {ta : TE} {t : TA}
noncomputable def uS(C:ι->Addr)(m:Str)(sp:ι->Sp)(E:XK)(ta:TE)(t:TA):TE:=fun σ H Q=>ta σ H fun x H1=>∃ i a dx fs,x= .ref a/\H1 a=some (.ins (C i) dx fs)/\fs.lookup m=none/\
 t σ H1 fun vs H2=>sp i (x::vs) H2 Q E
theorem fI{pl:Sem Bool}(he:PE X o ta)(c:∀ i,gL X.K (C i))(hm:∀ i,Meth X.K (C i) m (f i))(F:∀ i,cu X.prog X.w X.K X.mg X.base CX k (f i) (fd i) (ps i) (sp i))(hr:dW k X.A)(hb:∀ i,Binds X.K (fd i) (ps i) [])
  (hx:Passes CX X E)(ha:PA X (e::es) t)
  (hst:starEach (e::es) X.env=(false,eval e X.env)::starEach es X.env:=by rfl)(hpl:(backTo pos (starEach es X.env)).any (·.1)=false:=by rfl)
  (ht:eval (.Call (.Attribute o m apos) (e::es) [] pos) X.env=(do
   let ov<-eval o X.env
   standAt apos.atName
   let (f,first)<-holding [ov] (getMethod ov m pl)
   callWith pos f first (backTo pos (starEach (e::es) X.env)) (backToKw pos (keywordEach [] X.env))):=by rfl):
  PE X (.Call (.Attribute o m apos) (e::es) [] pos) (uS C m sp E ta t):=by
 intro pins s σ H Q I h
 refine W.methodCall_KW (pl:=pl) (cF (he pins s σ H _ I h) fun u s1 ⟨x,H1,J,rx,i,a,dx,fs,ex,ea,l,q⟩=>?_) ht
 subst ex
 obtain rfl:u=Value.ref a:=rx
 refine tJ J ea (c i) (hm i) l ?_
 refine W.callWith_K (first:=[.ref a]) (h₀:=X.base) I.ok.mod.kin (hm i).kp (cF (ha pos pins s1 σ H1 _ J q) fun us s2 ⟨vs,H2,U,r,q2⟩=>⟨U.kIn,?_⟩) hst hpl
 exact oE (us:= .ref a::us) (vs:= .ref a::vs) (dvs:=[]) (F i) hr (hb i) .nil hx U (.cons rfl r) (by rw [List.append_nil];exact q2)
theorem rJ{pl:Sem Bool}(he:PE X o ta)(c:∀ i,gL X.K (C i))(hm:∀ i,Meth X.K (C i) m (f i))(F:∀ i,cu X.prog X.w X.K X.mg X.base CX k (f i) (fd i) (ps i) (sp i))(hr:dW k X.A)(hb:∀ i,Binds X.K (fd i) (ps i) [])
  (hx:Passes CX X E)
  (ht:eval (.Call (.Attribute o m apos) [] [] pos) X.env=(do
   let ov<-eval o X.env
   standAt apos.atName
   let (f,first)<-holding [ov] (getMethod ov m pl)
   callWith pos f first (backTo pos (starEach [] X.env)) (backToKw pos (keywordEach [] X.env))):=by rfl):
  PE X (.Call (.Attribute o m apos) [] [] pos) (uS C m sp E ta mB):=by
 intro pins s σ H Q I h
 refine W.methodCall_KW (pl:=pl) (cF (he pins s σ H _ I h) fun u s1 ⟨x,H1,J,U,i,a,dx,fs,ex,ea,l,q⟩=>?_) ht
 subst ex
 obtain rfl:u=Value.ref a:=U
 refine tJ J ea (c i) (hm i) l ?_
 exact W.callWith_K0 (first:=[.ref a]) J.kIn (hm i).kp (oE (us:=[.ref a]) (vs:=[.ref a]) (dvs:=[]) (F i) hr (hb i) .nil hx J (.cons rfl .nil) q)
end
section
variable {X : Cx}
structure vn (K : W.Frag) (C : Addr) : Prop where
 cl : gL K C
 ha : W.findIn K (.ref C) "__class__" = some (some (.builtin "object.__class__"))
 hn : W.specialIn K (.builtin "object.__class__") "__get__" = some (some (.builtin "getset_descriptor.__get__"))
 htk : W.takesIn K (.builtin "object.__class__") = some true
 hm : W.mroIn K C (.type "object") = some true
theorem wW:gf X (.builtin "isinstance") (fun xs H Q=>∃(a C dx:Addr) (fs:List (Str×V)) (p:Addr) (Cs:List Addr) (b:Bool),xs=[.ref a,.ref p]/\H a=some (.ins C dx fs)/\vn X.K C/\H p=some (.tup (Cs.map V.ref))/\W.kitAny X.K (.ref C) (Cs.map Value.ref)=some b/\Q (.bl b) H):=by
 intro pins s σ H xs us Q I r h
 obtain⟨a,C,dx,fs,p,Cs,b,rfl,ea,T,hp,e,q⟩:=h
 obtain⟨u,w',rfl,rx,rc⟩:=vals2 r
 cases rx
 cases rc
 obtain⟨mA,O,_⟩:=jq I.hok ea
 obtain⟨od,J,_⟩:=O.look
 obtain⟨_,U,rv,o,ho,ae,n,hd⟩:=(show dP X.prog X.w H s.heap p (.tup (Cs.map V.ref)) from I.hok p _ hp)
 have ei:U=Cs.map Value.ref:=ve rv
 obtain⟨cls,dd,data,sl⟩:=o
 have aa:cls= .type "tuple":=ae
 have af:data= .seq U.toArray n:=hd
 subst aa af
 exact W.kia_tup (W.kitx_own (T.cl.get _) T.cl.hd T.ha T.hn T.htk T.hm) I.kIn J ho (by rw [ei];exact e) (fun z=>nomatch z) fun tk=>⟨.bl b,H,I.tok tk,rfl,q⟩
end
end L2
namespace PySem
section
variable {M : Model} {A : Around} {E : Value -> Shared -> Prop} {s : Shared}
theorem yT{e:Value}{env env':Env}(h:env.frame=env'.frame):noteFrame e env=noteFrame e env':=by
 unfold noteFrame frameOf
 rw [h]
theorem Bg{base:Heap}{env:Env}{outer:List Env}{L e:Addr}{cls a0 fl:Value}{Q:Unit->Shared->Prop}(hfr:A.frames=some (env::outer))(hl:s.heap.FunFrames base (env::outer))(hf:env.frame=some L)
  (ht:s.heap.TracedAtW base e cls a0 fl)(hkb:base.StaysIn s.heap)(hen:base.get? e=none)(h:∀ h',Heap.HeldW base (env::outer) e cls a0 L h'->s.heap.UpToSlots h'->Q () {s with heap:=h'}):
  wpAny M A (noteFrame (.ref e) env) Q E s:=by
 by_cases q:fl=rawInt L
 ·subst q
  exact wpAny_noteFrame_againW hf ht (h s.heap ⟨hkb,hen,hl,ht⟩ fun b o hb _=>⟨o.slots,hb⟩)
 ·obtain⟨oe,vs,T,oT,ts,he,⟨aa,h0⟩,hd,h1,ae,af,hT,J,h3⟩:=ht
  subst aa
  unfold noteFrame
  simp only [hf]
  refine wpAny_bind (wpAny_field he hd h1 ?_)
  rw [if_pos (show(Value.ref T != Value.none)=true from rfl)]
  refine wpAny_bind (wpAny_field hT J h3 ?_)
  rw [if_neg (fun z=>q (by simpa using z))]
  refine wpAny_bind (wpAny_setField hT J (Array.getElem?_eq_some_iff.mp h3).1 ?_)
  have ot:∀ b,b≠T->(s.heap.update T (Obj.mapFields (·.setIfInBounds 3 Value.none))).get? b=s.heap.get? b:=fun b hb=>Heap.get?_update_other _ _ (Ne.symm hb)
  have nr:∀ b o,s.heap.get? b=some o->(∀ vs,o.data≠ .fields vs)->b≠T:=fun b o hb U z=>by
   rw [z,hT] at hb
   cases hb
   exact U ts J
  exact wpAny_entryW hfr (hl.of_keeps fun b o hb U=>⟨o,(ot b (nr b o hb U)).trans hb,rfl⟩) hf ((ot e (Ne.symm af)).trans he) (fun b o hb=>(ot b fun z=>by rw [z,ae] at hb;cases hb).trans (hkb b o hb)) hen hd
   (Array.getElem?_eq_some_iff.mp h1).1 h0 fun h' ⟨x1,x2,x3,x4⟩=>h h' ⟨x1,hen,x2,x3⟩ fun b o hb U=>x4 b o ((ot b (nr b o hb U)).trans hb) U
end
end PySem
namespace L2
open PySem PySem.Spec PyProof.Rows
noncomputable def mG(X:Cx)(E:XK):Prop:=∀(pins:List (Addr×Obj)) (σ:St) (H:Hp) (s:Shared) (J T:Addr) (U oT:Obj) (vs ts:Array Value) (a0 fl:Value),Inv X pins σ H s->s.heap.get? J=some U->U.data= .fields vs->vs[0]? =some a0->
 vs[1]? =some (.ref T)->T≠J->s.heap.get? T=some oT->oT.data= .fields ts->ts[3]? =some fl->H J=none->H T=none->X.s₀.heap.get? J=none->X.s₀.heap.get? T=none->E U.cls none H->X.xe (.ref J) s
section
variable {P : Program} {w : World} {K : PySem.W.Frag} {mg : Str -> Option Value} {base : Heap} {N : List Str} {qual : Str} {scope : Scope} {f : Addr} {cdv : Value} {A : Around} {outer : List Env} {s₀ : Shared} {H₀ : Hp} {E : XK}
theorem AL:mG (dY (dg P w) P w K mg base N qual scope f cdv A outer s₀ H₀ E) E:=by
 intro pins σ H s U T oe oT vs ts a0 fl I he hd h0 h1 aa hT ae h3 nE nT sE sT hE
 generalize hB:W.hideAll s.heap (U::T::da (dY (dg P w) P w K mg base N qual scope f cdv A outer s₀ H₀ E).stack)=B
 have ff:s.heap.FunFrames B (dY (dg P w) P w K mg base N qual scope f cdv A outer s₀ H₀ E).stack:=by
  rw [<-hB]
  exact W.funFrames_hide I.stack fun env he b hb=> .tail _ (.tail _ (List.mem_filterMap.mpr ⟨env,he,hb⟩))
 have st:B.StaysIn s.heap:=fun b o q=>by rw [<-hB] at q;exact W.of_hideAll _ q
 have bn:B.get? U=none:=by rw [<-hB];exact W.hideAll_none _ (.head _)
 have tn:B.get? T=none:=by rw [<-hB];exact W.hideAll_none _ (.tail _ (.head _))
 have J:∀{b:Addr} {o:Obj},s.heap.get? b=some o->b≠U->b≠T->b∉da (dY (dg P w) P w K mg base N qual scope f cdv A outer s₀ H₀ E).stack->B.get? b=some o:=fun{b o} e z1 z2 z3=>by
  rw [<-hB]
  refine W.hideAll_get _ e fun z=>?_
  rcases List.mem_cons.mp z with q | q
  ·exact z1 q
  rcases List.mem_cons.mp q with q | q
  ·exact z2 q
  ·exact z3 q
 have hL:∀{b:Addr} {o:Obj},s₀.heap.get? b=some o->b∉da outer->b∉da (dY (dg P w) P w K mg base N qual scope f cdv A outer s₀ H₀ E).stack:=fun{b o} e hb z=>by
  rcases List.mem_cons.mp (I.stkSub b z) with q | q
  ·have h1:=Heap.lt_size e
   have h2:s₀.heap.objs.size<=(dY (dg P w) P w K mg base N qual scope f cdv A outer s₀ H₀ E).env.locals:=I.ok.above
   rw [q] at h1
   exact Nat.lt_irrefl _ (Nat.lt_of_lt_of_le h1 h2)
  ·exact hb q
 have n0:∀{b:Addr} {o:Obj},s₀.heap.get? b=some o->b≠U/\b≠T:=fun{b o} e=>
  ⟨fun z=>by rw [z] at e;exact absurd (e.symm.trans sE) (by simp),fun z=>by rw [z] at e;exact absurd (e.symm.trans sT) (by simp)⟩
 have u0:Un (da outer) [] H₀ H s₀.heap s.heap:=I.base
 have k1:∀ b o,s₀.heap.get? b=some o->H₀ b=none->b∉da outer->B.get? b=some o:=fun b o e n hb=>J (u0.keep b o e n hb (by simp)) (n0 e).1 (n0 e).2 (hL e hb)
 have k3:∀ b o,s₀.heap.get? b=some o->b∉da outer->∃ o',B.get? b=some o':=fun b o e hb=>by
  obtain⟨o',e'⟩:=u0.there b o e (by simp)
  exact⟨o',J e' (n0 e).1 (n0 e).2 (hL e hb)⟩
 have k2:∀ b u,H b=some u->∃ o,B.get? b=some o:=fun b u e=>by
  obtain⟨o,eo⟩:=(I.hok b u e).at
  exact⟨o,J eo (fun z=>by rw [z,nE] at e;cases e) (fun z=>by rw [z,nT] at e;cases e) fun z=>by rw [I.stkFree b z] at e;cases e⟩
 show wpAny (model P w) (A.deeper (envOfC qual scope s₀.heap.objs.size f cdv)) (leaving (envOfC qual scope s₀.heap.objs.size f cdv) (.ref U)) _ _ _
 unfold leaving
 refine wpAny_bind (Bg I.ok.frames ff rfl ⟨oe,vs,T,oT,ts,he,⟨rfl,h0⟩,hd,h1,tn,aa,hT,ae,h3⟩ st bn fun h4 held af=>?_)
 refine wpAny_landsW held fun h5 ag ah=>?_
 obtain⟨c1,c2,⟨_,_,c3⟩,c4⟩:=ag
 exact⟨U,oe.cls,a0,B,H,rfl,I.os,I.bare,l9 rfl u0 k1 k3 I.funs c1 (af.trans ah),lT I.hok k2 st c1,⟨c1,c2,c3,c4⟩,k1,k3,k2,hE⟩
end
section
variable {X : Cx} {E : XK}
theorem Cj{scope:Scope}{N:List Str}{pins pl:List (Addr×Obj)}{σ σ':St}{H2 He:Hp}{s2 s1:Shared}{hp h':Heap}{fp:List Addr}{lo:Obj}
  (I2:Inv X pins σ H2 s2)(f2:∀ b∈fp,gv X pins H2 b)(ehp:hp=s2.heap.push lo)(J:Inv (dv X scope N {s2 with heap:=hp} H2 (s2.heap.objs.size::fp)) pl σ' He s1)
  (hsb:Heap.SameBut hp.objs.size s1.heap h'):Inv X pins σ He {s1 with heap:=h'}:=by
 have hC:hp.objs.size=s2.heap.objs.size + 1:=by rw [ehp,Heap.size_push]
 have below:∀{b:Addr} {o:Obj},s2.heap.get? b=some o->b≠hp.objs.size/\b≠s2.heap.objs.size:=fun{b o} e=>by
  have q:=Heap.lt_size e
  exact⟨by rw [hC];exact Nat.ne_of_lt (Nat.lt_succ_of_lt q),Nat.ne_of_lt q⟩
 have up:∀{b:Addr} {o:Obj},s2.heap.get? b=some o->hp.get? b=some o:=fun e=>by rw [ehp];exact Heap.get?_push_of_some _ e
 have un:Un (da X.stack) (s2.heap.objs.size::fp) H2 He hp s1.heap:=J.base
 have nD:∀{b:Addr} {o:Obj},s2.heap.get? b=some o->b∉fp->b∉s2.heap.objs.size::fp:=fun e hx z=>(List.mem_cons.mp z).elim (below e).2 hx
 have U:He hp.objs.size=none:=J.free
 have u2:Un (da X.stack) fp H2 He s2.heap h':=by
  refine⟨fun b o e n hb hx=>?_,fun b o e n hb hx=>?_,fun b o e n hx=>?_,fun b o e hx=>?_,un.tups,un.frzs,un.tbls⟩
  ·exact(hsb.2 b (below e).1).trans (un.keep b o (up e) n hb (nD e hx))
  ·obtain⟨sl,q⟩:=un.slot b o (up e) n hb (nD e hx)
   exact⟨sl,(hsb.2 b (below e).1).trans q⟩
  ·exact un.free b o (up e) n (nD e hx)
  ·obtain⟨o',q⟩:=un.there b o (up e) (nD e hx)
   exact⟨o',(hsb.2 b (below e).1).trans q⟩
 have hok:dJ X.prog X.w He h':=fun b u e=>by
  refine(J.hok b u e).stay (fun c v hc q=>(hsb.2 c ?_).trans q) (fun _ q=>q) fun _ _ q=>q
  rintro rfl
  rcases hc with z | z
  ·rw [<-z,U] at e;cases e
  ·rw [U] at z;cases z
 exact I2.call' (s':={s1 with heap:=h'}) (ch:=fp) J.os u2 hok J.bare fun b hb=>by
  obtain⟨f0,f1,f3,f4,f5,f6⟩:=f2 b hb
  exact⟨f4,f1,f5,f6⟩
noncomputable abbrev mr(X:Cx)(scope:Scope)(C:Addr)(use:Option (Value->Sem Unit))(Qf:Value->Shared->Prop)(acc:Value):Value->Shared->Prop:=
 notedBy (model X.prog X.w) X.A (compEnvC scope (fK X.env scope.names []) C X.env) fun x s'=>compPost (model X.prog X.w) X.A X.xe use Qf acc C (.error x) s'
theorem y4{scope:Scope}{N:List Str}{pins:List (Addr×Obj)}{σ:St}{H2:Hp}{s2:Shared}{hp:Heap}{fp:List Addr}{lo:Obj}{use:Option (Value->Sem Unit)}{Qf:Value->Shared->Prop}{acc:Value}
  (hex:X.ex=[])(hstk:X.stack=X.env::X.outer)(hfr:X.env.frame=some X.env.locals)(hR:mG X E)(I2:Inv X pins σ H2 s2)(f2:∀ b∈fp,gv X pins H2 b)(ehp:hp=s2.heap.push lo):
  Passes (dg X.prog X.w) ((dv X scope N {s2 with heap:=hp} H2 (s2.heap.objs.size::fp)).wish (mr X scope hp.objs.size use Qf acc)) E:=by
 intro aa ao Hc sc e s' J h
 obtain⟨ea,cls,a0,B,H',rfl,os,bare,un,hok,fl,k1,k3,k2,hE⟩:=h
 show wpAny (model X.prog X.w) X.A (noteFrame (.ref ea) (compEnvC scope (fK X.env scope.names []) hp.objs.size X.env)) _ _ s'
 have aD:noteFrame (.ref ea) (compEnvC scope (fK X.env scope.names []) hp.objs.size X.env)=noteFrame (.ref ea) X.env:=yT rfl
 rw [aD]
 have aq:Un (da X.stack) [] Hc H' sc.heap s'.heap:=un
 have ae:Heap.FlyingW B X.stack ea cls a0 s'.heap:=fl
 have aE:Heap.FlyingW B (X.env::X.outer) ea cls a0 s'.heap:=hstk ▸ ae
 have aF:X.A.frames=some (X.env::X.outer):=hstk ▸ I2.ok.frames
 refine wpAny_looks_onW aF hfr aE fun U held ar=>?_
 obtain⟨b1,b2,b3,oe,vs,T,oT,ts,he,⟨au,h0⟩,hd,h1,ag,av,hT,af,h3⟩:=held
 subst au
 have up:∀{b:Addr} {o:Obj},s2.heap.get? b=some o->hp.get? b=some o:=fun e=>by rw [ehp];exact Heap.get?_push_of_some _ e
 have J4:Inv ((dv X scope N {s2 with heap:=hp} H2 (s2.heap.objs.size::fp)).wish (mr X scope hp.objs.size use Qf acc)) aa ao H' {s' with heap:=U}:=
  J.call' (s':={s' with heap:=U}) (ch:=[]) os (l9 rfl aq k1 k3 ae.2.2.1 b1 ar) (lT hok k2 ae.1 b1) bare fun b z=>absurd z (by simp)
 obtain⟨m,hn,_⟩:=J4.loc
 refine⟨m,hn,fun h' ah aw aG=>?_⟩
 have fld:∀{b:Addr} {o:Obj} {us:Array Value},U.get? b=some o->o.data= .fields us->b∉da X.stack:=fun{b o us} e d z=>by
  obtain⟨_,o',ax,nf⟩:=(hstk ▸ b3:U.FunFrames B X.stack).mem z
  rw [e] at ax
  cases ax
  exact nf us d
 have ay:∃ o,B.get? hp.objs.size=some o:=by
  obtain⟨mC,aH,_⟩:=J.loc
  obtain⟨oC,eC⟩:∃ o,sc.heap.get? hp.objs.size=some o:=by
   obtain⟨o,_,_,e,_⟩:=aH
   exact⟨o,e⟩
  refine k3 _ oC eC fun z=>?_
  obtain⟨_,o,ho,_⟩:=I2.stack.mem z
  have:=Heap.lt_size ho
  rw [ehp,Heap.size_push] at this
  exact Nat.lt_irrefl _ (Nat.lt_trans (Nat.lt_succ_self _) this)
 have aI:T≠hp.objs.size:=fun z=>by obtain⟨o,e⟩:=ay;rw [<-z,ag] at e;cases e
 have aJ:ea≠hp.objs.size:=fun z=>by obtain⟨o,e⟩:=ay;rw [<-z,b2] at e;cases e
 have ak:h'.get? ea=some oe:=(ah.2 ea aJ).trans he
 have aA:h'.get? T=some oT:=(ah.2 T aI).trans hT
 have z3:3 < ts.size:=(Array.getElem?_eq_some_iff.mp h3).1
 unfold PySem.passOn
 refine wpAny_bind (wpAny_field ak hd h1 ?_)
 rw [if_neg (show ¬ ((Value.ref T == Value.none)=true) from by simp)]
 unfold setFlight
 refine wpAny_bind (wpAny_bind (wpAny_field ak hd h1 ?_))
 rw [if_pos (show(Value.ref T != Value.none)=true from rfl)]
 refine wpAny_setField aA af z3 (wpAny_throw ?_)
 generalize hv:(aw.frame.elim Value.none fun f=>rawInt f)=v
 have o4:∀ b,b≠T->(U.update T (Obj.mapFields (·.setIfInBounds 3 v))).get? b=U.get? b:=fun b hb=>Heap.get?_update_other _ _ (Ne.symm hb)
 have o':∀ b,b≠T->(h'.update T (Obj.mapFields (·.setIfInBounds 3 v))).get? b=h'.get? b:=fun b hb=>Heap.get?_update_other _ _ (Ne.symm hb)
 have fz:(Obj.mapFields (·.setIfInBounds 3 v) oT).isFreed=false:=Obj.isFreed_of_fields (Obj.data_mapFields af _)
 have s4:(U.update T (Obj.mapFields (·.setIfInBounds 3 v))).get? T=some (Obj.mapFields (·.setIfInBounds 3 v) oT):=Heap.get?_update_self _ hT fz
 have s6:(h'.update T (Obj.mapFields (·.setIfInBounds 3 v))).get? T=some (Obj.mapFields (·.setIfInBounds 3 v) oT):=Heap.get?_update_self _ aA fz
 have aB:B.StaysIn (U.update T (Obj.mapFields (·.setIfInBounds 3 v))):=fun b o q=>(o4 b fun z=>by rw [z,ag] at q;cases q).trans (b1 b o q)
 have aK:s'.heap.UpToSlots (U.update T (Obj.mapFields (·.setIfInBounds 3 v))):=fun b o q nf=>by
  obtain⟨sl,e⟩:=ar b o q nf
  refine⟨sl,(o4 b fun z=>?_).trans e⟩
  rw [z,hT] at e
  cases e
  exact nf ts af
 have J6:Inv ((dv X scope N {s2 with heap:=hp} H2 (s2.heap.objs.size::fp)).wish (mr X scope hp.objs.size use Qf acc)) aa ao H' {s' with heap:=U.update T (Obj.mapFields (·.setIfInBounds 3 v))}:=
  J.call' (s':={s' with heap:=U.update T (Obj.mapFields (·.setIfInBounds 3 v))}) (ch:=[]) os (l9 rfl aq k1 k3 ae.2.2.1 aB aK) (lT hok k2 ae.1 aB) bare fun b z=>absurd z (by simp)
 have aC:Heap.SameBut hp.objs.size (U.update T (Obj.mapFields (·.setIfInBounds 3 v))) (h'.update T (Obj.mapFields (·.setIfInBounds 3 v))):=by
  refine⟨?_,fun b hb=>?_⟩
  ·rw [Heap.size_update,Heap.size_update]
   exact ah.1
  ·by_cases z:b=T
   ·rw [z,s4,s6]
   ·rw [o4 b z,o' b z]
    exact ah.2 b hb
 have IX:Inv X pins σ H' {s' with heap:=h'.update T (Obj.mapFields (·.setIfInBounds 3 v))}:=Cj (s1:={s' with heap:=U.update T (Obj.mapFields (·.setIfInBounds 3 v))}) I2 f2 ehp J6.unwish aC
 have gone:∀{b:Addr} {o:Obj} {us:Array Value},U.get? b=some o->o.data= .fields us->B.get? b=none->X.s₀.heap.get? b=none:=fun{b o us} e d n=>by
  cases q:X.s₀.heap.get? b with
  | none=>rfl
  | some ob=>
   obtain⟨o2,e2⟩:=I2.base.there b ob q (by rw [hex];simp)
   have nx:b∉s2.heap.objs.size::fp:=fun z=>by
    rcases List.mem_cons.mp z with z | z
    ·exact absurd (Heap.lt_size e2) (by rw [z];exact Nat.lt_irrefl _)
    ·rcases(f2 b z).2.2.2.1 with z2 | z2
     ·rw [hex] at z2;simp at z2
     ·exact absurd (Heap.lt_size q) (Nat.not_lt.mpr z2)
   obtain⟨o3,e3⟩:=J.base.there b o2 (up e2) nx
   obtain⟨o5,e5⟩:=k3 b o3 e3 (fld e d)
   rw [n] at e5
   cases e5
 have nE:H' ea=none:=by
  cases q:H' ea with
  | none=>rfl
  | some u=>obtain⟨o,e⟩:=k2 ea u q;rw [b2] at e;cases e
 have nT:H' T=none:=by
  cases q:H' T with
  | none=>rfl
  | some u=>obtain⟨o,e⟩:=k2 T u q;rw [ag] at e;cases e
 exact hR pins σ H' _ ea T oe _ vs _ a0 v IX ((o' ea (Ne.symm av)).trans ak) hd h0 h1 av s6 (Obj.data_mapFields af _) (by simp [z3]) nE nT (gone he hd b2) (gone hT af ag) hE
end
section
variable {prog : Program} {w : World} {A : Around} {R : Result -> Shared -> Prop} {s : Shared}
theorem yR{elt target iter:Expr}{ifs:List Expr}{scope:Scope}{pos:Pos}{it acc:Value}{env:Env}(I:Nat->Shared->Prop)
  (turn:∀ n s,I n s->wpAny (model prog w) A (pyNext it) (fun r s₁=>match r with
   | none=>R (.ok .next) s₁
   | some v=>wpAny (model prog w) A (letOwnedTupleGo target it v) (fun _ s₀=>wpAny (model prog w) A (assign target env v) (fun _ s₂=>
     wpAny (model prog w) A (forIn ifs true fun c r=>if r=true then do let ok<-isTrue c env (eval c env);pure (ForInStep.yield ok) else pure (ForInStep.yield r)) (fun ok s₃=>
      if ok=true then wpAny (model prog w) A (eval elt env) (fun x s₄=>
       wpAny (model prog w) A (call (.builtin "list.append") [acc,x]) (fun _ s₅=>∃ m,m < n/\I m s₅) (fun _ _=>False) s₄) (notedBy (model prog w) A env fun x s'=>R (.error x) s') s₃
      else ∃ m,m < n/\I m s₃) (fun _ _=>False) s₂) (fun _ _=>False) s₀) (fun _ _=>False) s₁) (fun _ _=>False) s)
  (n:Nat)(h:I n s):
  codeAny (model prog w) A (.compLoop (.ListComp elt [⟨target,iter,ifs,0⟩] scope pos) 0 it acc env) R s:=by
 refine codeAny_loop rfl I (fun n s hI=>?_) n h
 show wpAny _ A ((compTurn (.ListComp elt [⟨target,iter,ifs,0⟩] scope pos) 0 it acc env).onRaise (fun x=>do noteFrame x env;theTreesLotGoes x)) _ _ s
 refine wpAny_noted ?_
 rw [compTurn_list]
 refine wpAny_bind (wpAny_standAt (wpAny_bind (wpAny_mono (turn n s hI) (fun r s₁ J=>?_) fun _ _ h'=>h'.elim)))
 cases r with
 | none=>exact wpAny_pure J
 | some v=>
  refine wpAny_bind (wpAny_mono J (fun _ s₀ h₀=>?_) fun _ _ h'=>h'.elim)
  refine wpAny_bind (wpAny_mono h₀ (fun _ s₂ aa=>wpAny_bind (wpAny_mono aa (fun ok s₃ U=>?_) fun _ _ h'=>h'.elim)) fun _ _ h'=>h'.elim)
  cases ok with
  | false=>exact wpAny_pure ⟨rfl,U⟩
  | true=>
   exact wpAny_bind (wpAny_bind (wpAny_mono U (fun x s₄ ae=>wpAny_bind (wpAny_mono ae (fun _ s₅ af=>wpAny_pure (wpAny_pure ⟨rfl,af⟩)) fun _ _ h'=>h'.elim)) fun _ _ h'=>h'))
end
section
variable {X : Cx}
theorem xb{elt target iter:Expr}{ifs:List Expr}{scope sc0:Scope}{pos:Pos}{N N0:List Str}{own:Nat}{caps:List Nat}{wi:TI}{g:TG}{tc:TT}{te:TE}
  (hcalm:X.calm=true)(hi:PI X target iter wi)
  (hg:∀ s₀ H₀ ex,PG (dv X scope N s₀ H₀ ex) target g)(hc:∀ s₀ H₀ ex,de (dv X scope N s₀ H₀ ex) ifs tc){E:XK}(hex:X.ex=[])(hstk:X.stack=X.env::X.outer)(hfr:X.env.frame=some X.env.locals)(hRT:mG X E)(he:∀ s₀ H₀ ex xe,Passes (dg X.prog X.w) ((dv X scope N s₀ H₀ ex).wish xe) E->PE ((dv X scope N s₀ H₀ ex).wish xe) elt te)(hk:jO own g)
  (hX:X.N=N0)(hsc:X.env.scope=sc0)
  (hcell:∀ y∈scope.names,y.2≠ .cell)(hkind:scope.kind= .function)(hnames:∀ y∈scope.names,y.2= .local->scope.names.lookup y.1=some .local)
  (hfree:∀ y∈scope.names,y.2= .free->sc0.names.lookup y.1=some .cell)(hN:N.length=own + caps.length)
  (hcap:∀ p∈caps.zip (N.drop own),N0[p.1]? =some p.2/\scope.names.lookup p.2=some .free)
  (hs:∀ x,foldedSetIterable iter X.env x=pure x)
  {use:Option (Value->Sem Unit)}{Qf:Value->Shared->Prop}{pins:List (Addr×Obj)}{s:Shared}{σ:St}{H:Hp}{Q:VK}{cpos:Pos}(I:Inv X pins σ H s)(h:oa own caps wi g tc te σ H Q)
  (hR:∀(D C:Addr) (s':Shared) (He:Hp) (ys:List V) (m:Str->Option Value) (f:Flow),s'.heap.Ns C m->(∀ h',Heap.SameBut C s'.heap h'->Inv X pins σ (upd He D (.lst ys)) {s' with heap:=h'})->
   gv X pins (upd He D (.lst ys)) C->Q (.ref D) (upd He D (.lst ys))->compPost (model X.prog X.w) X.A X.xe use Qf (.ref D) C (.ok f) s'):
  wpAny (model X.prog X.w) X.A (comprehension (.ListComp elt [⟨target,iter,ifs,0⟩] scope pos) scope X.env cpos (newList []) false (eval iter X.env) use) Qf X.xe s:=by
 have ae:∀ y∈scope.names,y.2= .free->X.env.kindOf y.1=some .cell:=fun y hy e=>by
  show X.env.scope.names.lookup y.1=some .cell
  rw [hsc];exact hfree y hy e
 refine wpAny_comprehension_free (use:=use) rfl hs (vC fun y hy e=>I.ok.has y.1 (.inl (ae y hy e))) hkind hnames ?_
 refine cF (hi pins s σ H _ I h) fun v s1 h1=>cF h1 fun a7 s2 h2=>?_
 obtain⟨it,fp,tn,J,H2,e,I2,T,aG,f2,W,⟨m0,w0⟩,turn⟩:=h2
 subst e
 refine wpAny_newObj_type (wpAny_newFunctionEnv hcell (by intro y hy;simp at hy) (fun ar ag ah=>?_) hkind)
 dsimp only at ag ah ⊢
 generalize ak:s2.heap.push {cls:= .type "list",dict:=none,data:= .seq ([]:List Value).toArray}=hp at ag ah ⊢
 have hC:hp.objs.size=s2.heap.objs.size + 1:=by rw [<-ak,Heap.size_push]
 have ao:s2.heap.objs.size≠hp.objs.size:=by rw [hC];exact Nat.ne_of_lt (Nat.lt_succ_self _)
 have ay:hp.get? s2.heap.objs.size=some {cls:= .type "list",data:= .seq ([]:List Value).toArray}:=by rw [<-ak];exact Heap.get?_push_size _ rfl
 have up:∀{b:Addr} {o:Obj},s2.heap.get? b=some o->hp.get? b=some o:=fun e=>by rw [<-ak];exact Heap.get?_push_of_some _ e
 have up1:∀{b:Addr} {o:Obj},hp.get? b=some o->ar.get? b=some o:=fun{b o} e=>ah.extBut b o (Nat.ne_of_lt (Heap.lt_size e)) (Heap.get?_push_of_some _ e)
 have aF:∀{b:Addr} {o:Obj},s2.heap.get? b=some o->b < s2.heap.objs.size:=fun e=>Heap.lt_size e
 have aU:∀ b∈fp,∃ o,s2.heap.get? b=some o:=fun b hb=>by obtain⟨o,e,_⟩:=T.obj 0 _ aG b hb;exact⟨o,e⟩
 have aA:∀ b∈fp,b≠hp.objs.size/\b≠s2.heap.objs.size:=fun b hb=>by
  obtain⟨o,e⟩:=aU b hb
  have q:=aF e
  exact⟨by rw [hC];exact Nat.ne_of_lt (Nat.lt_succ_of_lt q),Nat.ne_of_lt q⟩
 have aa:∀{x:Str} {c:Addr},(fK X.env scope.names []).lookup x=some c->X.env.cells.lookup x=some c/\X.env.kindOf x=some .cell:=fun{x c} q=>by
  rcases oA q with z | ⟨z,e⟩
  ·cases z
  ·have k:=ae _ z rfl
   obtain⟨c',au⟩:=I2.ok.has x (.inl k)
   rw [au] at e
   have e':c=c':=e
   subst e'
   exact⟨au,k⟩
 have aq:∀{x:Str} {c:Addr},(fK X.env scope.names []).lookup x=some c->c < s2.heap.objs.size:=fun q=>by
  obtain⟨v,z⟩:=I2.cell _ _ (aa q).1
  exact z.lt
 have av:∀ b∈da X.stack,b < s2.heap.objs.size:=fun b hb=>by
  obtain⟨_,o,ho,_⟩:=I2.stack.mem hb
  exact Heap.lt_size ho
 have aV:(dv X scope N {s2 with heap:=hp} H2 (s2.heap.objs.size::fp)).Ok:=by
  refine⟨I2.ok.mod,hkind,I2.ok.glob,I2.ok.blt,Nat.le_refl _,fun x y c q1 q2=>I2.ok.inj x y c (aa q1).1 (aa q2).1,fun x hx=>?_,(fun x c z=>by cases z),I2.ok.hd,I2.ok.frames,.inl rfl,fun b hb=>?_,fun b o q=>⟨up (I2.bs b o q).1,(I2.bs b o q).2⟩,?_,fun b o q hb=>?_,fun b hb=>?_,?_,fun b hb=>I2.stkFree b hb⟩
  ·rcases hx with hx | hx
   ·exact jN (.inl (lH (env:=X.env) hcell (.inl rfl) hx))
   ·exact jN (.inl (lH (env:=X.env) hcell (.inr rfl) hx))
  ·rcases List.mem_cons.mp hb with rfl | hb
   ·exact⟨by show s2.heap.objs.size≠hp.objs.size;exact ao,fun x c q=>Nat.ne_of_lt (aq q)⟩
   ·exact⟨(aA b hb).1,fun x c q=>(f2 b hb).2.2.2.2.1 x c (aa q).1⟩
  ·show X.base.objs.size<=hp.objs.size
   rw [hC]
   exact Nat.le_succ_of_le (Nat.le_trans I2.ok.bsz I2.sz)
  ·rcases List.mem_cons.mp hb with rfl | hb
   ·exact Nat.lt_irrefl _ (aF (I2.bs _ o q).1)
   ·rcases(f2 b hb).2.2.2.1 with z | z
    ·exact I2.ok.noex b o q z
    ·exact Nat.lt_irrefl _ (Nat.lt_of_lt_of_le (Heap.lt_size (I2.ok.bs b o q).1) z)
  ·intro z
   rcases List.mem_cons.mp hb with rfl | hb
   ·exact Nat.lt_irrefl _ (av _ z)
   ·rcases List.mem_cons.mp (I2.stkSub b z) with q | q
    ·exact(f2 b hb).2.1 q
    ·exact(f2 b hb).2.2.1 q
  ·show hp.FunFrames X.base X.stack
   exact I2.stack.of_keeps fun b o q _=>⟨o,up q,rfl⟩
 have len0:(dE own caps σ).length=N.length:=by unfold dE;rw [List.length_append,List.length_replicate,List.length_map,hN]
 have I0:Inv (dv X scope N {s2 with heap:=hp} H2 (s2.heap.objs.size::fp)) [] (dE own caps σ) H2 {s2 with heap:=ar,toks:=s2.toks + ([]:List (Str×Value)).length}:=by
  refine⟨aV,rfl,I2.bare,Un.kept fun b o q=>up1 q,⟨_,ag,fun i x v e1 e2 e3=>?_⟩,fun x c q=>?_,I2.hok.fresh (by show s2.heap.objs.size<=hp.objs.size;rw [hC];exact Nat.le_succ _),fun x c q=>I2.freeC x c (aa q).1,fun p af=>absurd (show p∈([]:List (Addr×Obj)) from af) (by simp),I2.hok.kept fun b o q=>up1 (up q),len0⟩
  ·
   unfold dE at e2
   by_cases aN:i < own
   ·rw [List.getElem?_append_left (by simpa using aN),List.getElem?_replicate] at e2
    split at e2<;>cases e2
   ·rw [List.getElem?_append_right (by simpa using aN),List.length_replicate,List.getElem?_map] at e2
    cases ec:caps[i - own]? with
    | none=>rw [ec] at e2;cases e2
    | some j=>
     rw [ec] at e2
     have aw:(σ[j]?).join=some v:=Option.some.inj e2
     have aO:σ[j]? =some (some v):=by
      cases q:σ[j]? with
      | none=>rw [q] at aw;cases aw
      | some z=>rw [q] at aw;exact congrArg some aw
     have hx:(N.drop own)[i - own]? =some x:=by
      rw [List.getElem?_drop]
      have:own + (i - own)=i:=by(clear aO aw ec e2 e1 len0 ay ao hC ak hN hkind hsc hX hcalm;omega)
      rw [this];exact e1
     have hz:(caps.zip (N.drop own))[i - own]? =some (j,x):=by
      rw [List.getElem?_zip_eq_some];exact⟨ec,hx⟩
     obtain⟨hj,hf⟩:=hcap _ (List.mem_of_getElem? hz)
     rw [<-hX] at hj
     have aP:(x,NameKind.free)∈scope.names:=PySem.mem_of_lookup hf
     have aH:=ae _ aP rfl
     obtain⟨m,hn,hl⟩:=I2.loc
     obtain⟨u,ru,lk⟩:=hl j x v hj aO (.inr (.inl aH))
     refine⟨u,ru,.inr ⟨.inl (oZ I2.ok.kind hf aH),?_⟩⟩
     obtain⟨c,au⟩:=jN (env:=X.env) (cs:=[]) (.inl aP)
     have aW:=(aa au).1
     rcases lk with ⟨z,_⟩ | ⟨_,c2,aQ,aB⟩
     ·rw [aH] at z;cases z
     ·rw [aW] at aQ
      cases aQ
      obtain⟨oc,aI,aJ⟩:=aB
      exact⟨c,au,oc,up1 (up aI),aJ⟩
  ·obtain⟨v,oc,aI,aJ⟩:=I2.cell x c (aa q).1
   exact⟨v,oc,up1 (up aI),aJ⟩
 have aR:∀{aC:St} {H':Hp} {s':Shared} {U:List Value} {na:Nat},Inv (dv X scope N {s2 with heap:=hp} H2 (s2.heap.objs.size::fp)) [] aC H' s'->H' s2.heap.objs.size=none->
   s'.heap.get? s2.heap.objs.size=some {cls:= .type "list",data:= .seq U.toArray na}->
   Inv (dv X scope N {s2 with heap:=hp} H2 (s2.heap.objs.size::fp)) [(s2.heap.objs.size,{cls:= .type "list",data:= .seq U.toArray na})] aC H' s':=fun{aC H' s' U na} I' hn hd=>I'.pins_of fun p af=>by
  have e:p=(s2.heap.objs.size,{cls:= .type "list",data:= .seq U.toArray na}):=by simpa using af
  subst e
  exact⟨hd,hn,ao,fun z=>Nat.lt_irrefl _ (av _ z),fun v z=>nomatch z⟩
 have aS:∀{H':Hp} {pl:List (Addr×Obj)},(∀ b∈fp,H' b=none)->(∀ p∈pl,p.1=s2.heap.objs.size)->∀ b∈fp,gv (dv X scope N {s2 with heap:=hp} H2 (s2.heap.objs.size::fp)) pl H' b:=fun hn aX b hb=>by
  refine⟨hn b hb,(aA b hb).1,fun z=>?_,.inl (List.mem_cons_of_mem _ hb),fun x c q=>(f2 b hb).2.2.2.2.1 x c (aa q).1,fun p af z=>?_⟩
  ·rcases List.mem_cons.mp (I2.stkSub b z) with q | q
   ·exact(f2 b hb).2.1 q
   ·exact(f2 b hb).2.2.1 q
  ·exact(aA b hb).2 (z.symm.trans (aX p af))
 have loop:∀ ax:Shared,ax={s2 with heap:=ar,toks:=s2.toks + ([]:List (Str×Value)).length}->
   codeAny (model X.prog X.w) X.A (.compLoop (.ListComp elt [⟨target,iter,ifs,0⟩] scope pos) 0 (.ref it) (.ref s2.heap.objs.size) (compEnvC scope (fK X.env scope.names []) hp.objs.size X.env))
    (compPost (model X.prog X.w) X.A X.xe use Qf (.ref s2.heap.objs.size) hp.objs.size) ax:=by
  rintro ax rfl
  refine yR (fun n s'=>∃ i ys U na H',Inv (dv X scope N {s2 with heap:=hp} H2 (s2.heap.objs.size::fp)) [] (dE own caps σ) H' s'/\tn i s'.heap/\(∀ b∈fp,H' b=none)/\H' s2.heap.objs.size=none/\
   Vals ys U/\s'.heap.get? s2.heap.objs.size=some {cls:= .type "list",data:= .seq U.toArray na}/\W i n ys H') ?_ m0
   ⟨0,[],[],0,H2,I0,T.keep _ _ _ aG fun b _ o q=>up1 (up q),fun b hb=>(f2 b hb).1,I2.hok.fresh (Nat.le_refl _),.nil,up1 ay,w0⟩
  rintro n s3 ⟨i,ys,U,na,H3,I3,aT,aY,aK,aD,aL,w3⟩
  have Ip:=aR I3 aK aL
  have f3:=aS (H':=H3) (pl:=[(s2.heap.objs.size,{cls:= .type "list",data:= .seq U.toArray na})]) aY mM
  rcases turn i n ys H3 w3 with ⟨stop,hz,fin⟩ | ⟨go,hz,step⟩
  ·refine cF (T.done (dv X scope N {s2 with heap:=hp} H2 (s2.heap.objs.size::fp)) rfl rfl rfl hcalm i _ s3 _ H3 _ Ip f3 aT stop) fun r s4 ⟨hr,I4⟩=>?_
   subst hr
   obtain⟨m,hn,_⟩:=I4.loc
   exact hR _ _ _ _ ys m _ hn (fun h' aZ=>uZ I2 f2 ak.symm I4 aZ aD hz) (I2.fpOk (by rw [hC];exact Nat.le_succ _) (by rw [cK (Ne.symm ao)];exact I4.free)) (fin _ (I4.pin _ (List.mem_append_right _ List.mem_cons_self)).2.1)
  ·refine cF (T.item (dv X scope N {s2 with heap:=hp} H2 (s2.heap.objs.size::fp)) rfl rfl rfl hcalm i _ s3 _ H3 _ Ip f3 aT go) fun r s4 ⟨u,hr,h4⟩=>?_
   subst hr
   refine cF h4 fun _ s5 ⟨x,H5,I5,r5,y5,aM,a0⟩=>?_
   have a5:=I5.pinned (aS (H':=H5) (pl:=[(s2.heap.objs.size,{cls:= .type "list",data:= .seq U.toArray na})]) a0 mM) (T.obj _ _ aM)
   refine cF (hg _ _ _ _ s5 _ H5 x u _ a5 r5 (hk x _ H5 _ _ (step x H5 y5) fun aC H' q l k=>(⟨q,l,k⟩:_/\_/\_))) fun _ s6 ⟨aE,H6,I6,q6,l6,k6⟩=>?_
   refine cF (hc _ _ _ _ s6 aE H6 _ I6 q6) fun ok s7 ⟨H7,I7,q7⟩=>?_
   have weak:∀{H':Hp} {s':Shared} {pl:List (Addr×Obj)},Inv (dv X scope N {s2 with heap:=hp} H2 (s2.heap.objs.size::fp)) pl aE H' s'->Inv (dv X scope N {s2 with heap:=hp} H2 (s2.heap.objs.size::fp)) pl (dE own caps σ) H' s':=fun I'=>
    I'.weak l6.symm fun j v e=>k6 j v (by
     by_cases hj:j < own
     ·unfold dE at e
      rw [List.getElem?_append_left (by simpa using hj),List.getElem?_replicate] at e
      split at e<;>cases e
     ·(clear e l6 hz aL aK len0 ay ao hC ak hN hkind hsc hX hcalm;omega)) e
   have after:∀{H':Hp} {s':Shared},Inv (dv X scope N {s2 with heap:=hp} H2 (s2.heap.objs.size::fp)) ([(s2.heap.objs.size,{cls:= .type "list",data:= .seq U.toArray na})]++kh fp s5.heap) aE H' s'->
     tn (i + 1) s'.heap/\(∀ b∈fp,H' b=none)/\H' s2.heap.objs.size=none/\s'.heap.get? s2.heap.objs.size=some {cls:= .type "list",data:= .seq U.toArray na}:=fun I'=>by
    refine⟨T.keep _ _ _ aM fun b hb o e=>(I'.pin (b,o) (List.mem_append_right _ (List.mem_append_right _ (kR hb e)))).1,fun b hb=>?_,?_,?_⟩
    ·obtain⟨o,e,d⟩:=T.obj _ _ aM b hb
     exact(I'.pin (b,o) (List.mem_append_right _ (List.mem_append_right _ (kR hb e)))).2.1
    ·exact(I'.pin _ (List.mem_append_right _ (List.mem_append_left _ List.mem_cons_self))).2.1
    ·exact(I'.pin _ (List.mem_append_right _ (List.mem_append_left _ List.mem_cons_self))).1
   cases ok with
   | false=>
    rw [if_neg Bool.false_ne_true]
    obtain⟨m',hm,w7⟩:=(show ∃ m',m' < n/\W (i + 1) m' ys H7 by rw [if_neg Bool.false_ne_true] at q7;exact q7)
    obtain⟨a1,a2,a3,a4⟩:=after I7
    exact⟨m',hm,i + 1,ys,U,na,H7,(weak I7).pins_of (fun p af=>absurd af (by simp)),a1,a2,a3,aD,a4,w7⟩
   | true=>
    rw [if_pos rfl]
    rw [if_pos rfl] at q7
    refine cF (he _ _ _ (mr X scope hp.objs.size use Qf (.ref s2.heap.objs.size)) (y4 hex hstk hfr hRT I2 f2 ak.symm) _ s7 aE H7 _ (I7.wish _) q7) fun yv s8 ⟨y,H8,a6,r8,m',hm,w8⟩=>?_
    have I8:=a6.unwish
    obtain⟨a1,a2,a3,a4⟩:=after I8
    have hl:=aD.length
    refine call_meets F.slot_list_append ⟨_,a4,rfl⟩ F.entry_list_append (F.args_list_append_2 _ _) (PySem.list_append s2.heap.objs.size U.toArray na yv (by rw [List.size_toArray];(clear a4 a3 hm l6 aL aK len0 ay ao hC ak hN hkind hsc hX hcalm;omega))) ⟨a4,?_⟩
    have I9:Inv (dv X scope N {s2 with heap:=hp} H2 (s2.heap.objs.size::fp)) [] (dE own caps σ) H8 s8:=(weak I8).pins_of (fun p af=>absurd af (by simp))
    have q:(s8.heap.update s2.heap.objs.size (Obj.mapSeq (·.push yv))).get? s2.heap.objs.size=some {cls:= .type "list",data:= .seq (U++[yv]).toArray (na + 1)}:=by
     have q:=PySem.IsL.update a4 (·.push yv)
     simpa using q
    refine⟨m',hm,i + 1,ys++[y],U++[yv],na + 1,H8,I9.turned (it:=s2.heap.objs.size) (t':=s8.toks) (fun b o hb e=>?_) a3 (ao) (.inl List.mem_cons_self) (fun x c z=>Nat.ne_of_lt (aq z)) (fun p af=>absurd (show p∈([]:List (Addr×Obj)) from af) (by simp)),?_,a2,a3,aD.append (.cons r8 .nil),q,w8⟩
    ·rw [Heap.get?_update_other _ _ (Ne.symm hb)];exact e
    ·exact T.keep _ _ _ a1 fun b hb o e=>by rw [Heap.get?_update_other _ _ (Ne.symm (aA b hb).2)];exact e
 exact codeAny_compStart_list (loop _ rfl) (T.self _ 0 _ _ _ (T.keep _ _ _ aG fun b _ o q=>up1 (up q)) (loop _ rfl))
theorem vP{elt target iter:Expr}{ifs:List Expr}{scope sc0:Scope}{pos:Pos}{N N0:List Str}{own:Nat}{caps:List Nat}{wi:TI}{g:TG}{tc:TT}{te:TE}
  (hcalm:X.calm=true)(hi:PI X target iter wi)
  (hg:∀ s₀ H₀ ex,PG (dv X scope N s₀ H₀ ex) target g)(hc:∀ s₀ H₀ ex,de (dv X scope N s₀ H₀ ex) ifs tc){E:XK}(hex:X.ex=[])(hstk:X.stack=X.env::X.outer)(hfr:X.env.frame=some X.env.locals)(hRT:mG X E)(he:∀ s₀ H₀ ex xe,Passes (dg X.prog X.w) ((dv X scope N s₀ H₀ ex).wish xe) E->PE ((dv X scope N s₀ H₀ ex).wish xe) elt te)(hk:jO own g)
  (hX:X.N=N0)(hsc:X.env.scope=sc0)
  (hcell:∀ y∈scope.names,y.2≠ .cell)(hkind:scope.kind= .function)(hnames:∀ y∈scope.names,y.2= .local->scope.names.lookup y.1=some .local)
  (hfree:∀ y∈scope.names,y.2= .free->sc0.names.lookup y.1=some .cell)(hN:N.length=own + caps.length)
  (hcap:∀ p∈caps.zip (N.drop own),N0[p.1]? =some p.2/\scope.names.lookup p.2=some .free)
  (hs:∀ x,foldedSetIterable iter X.env x=pure x:=by intro _;rfl):
  PE X (.ListComp elt [⟨target,iter,ifs,0⟩] scope pos) (oa own caps wi g tc te):=by
 intro pins s σ H Q I h
 rw [eval_ListComp]
 exact xb hcalm hi hg hc hex hstk hfr hRT he hk hX hsc hcell hkind hnames hfree hN hcap hs I h fun D C s' He ys m f hn U _ q=>⟨m,hn,fun h' J=>⟨.ref D,_,U h' J,rfl,q⟩⟩
end
end L2
namespace PySem
section
variable {prog : Program} {w : World} {A : Around} {E : Value -> Shared -> Prop} {s : Shared}
end
section
variable {prog : Program} {w : World} {A : Around} {E : Value -> Shared -> Prop} {s : Shared} {z a b i j : Addr} {f g : List Addr} {n m k : Nat} {P P' : Nat -> Value -> Prop} {St St' : Nat -> Heap -> Prop} {u v : Value}
end
section
variable {prog : Program} {w : World} {A : Around} {E : Value -> Shared -> Prop} {s : Shared}
end
end PySem
namespace L2
open PySem PySem.Spec PyProof.Rows
section
variable {X : Cx}
noncomputable def x9:R2:=fun x y H Q=>∃ a b xs,x= .ref a/\y= .ref b/\H a=some (.lst xs)/\H b=some (.lst xs)/\(∀ v∈xs,∃ p,v= .ref p)/\Q (.bl false) H
theorem rC:∀{xs:List V} {us vs:List Value},(∀ v∈xs,∃ p,v= .ref p)->Vals xs us->Vals xs vs->us=vs
 | _,_,_,_,.nil,.nil=>rfl
 | x::xs,_,_,h,.cons J t1,.cons U t2=>by
  obtain⟨p,rfl⟩:=h x (by simp)
  cases J
  cases U
  rw [rC (fun v hv=>h v (by simp [hv])) t1 t2]
theorem Bl(hu:X.A.units + 100 < cLine):eI X (compareOp .NotEq) x9:=by
 intro pins s σ H x y v u Q I rx ry h
 obtain⟨a,b,xs,rfl,rfl,hA,hB,hr,q⟩:=h
 cases rx
 cases ry
 obtain⟨aa,r,pl,hz⟩:=I.list (cm.of hA)
 obtain⟨U,r2,J,ae⟩:=I.list (cm.of hB)
 have e:=rC hr r r2
 subst e
 have:=SeqAt.RcNeAt.lists (A:=X.A) (e:=fun _=>true) pl.isList J.isList rfl (by omega) fun j h1 h2=>SeqAt.EqAt.same _
 refine this X.prog X.w X.xe _ ?_
 exact⟨.bl false,H,I,by simp [RelV],q⟩
end
end L2
namespace Gn
open PySem L2 PyProof.Rows PySem.Spec
section
variable {P : Program} {w : World} {K : PySem.W.Frag} {mg : Str -> Option Value} {base h : Heap}
noncomputable def mI:V->Bool
 | .str _=>true
 | _=>false
noncomputable def oV:V->Bool
 | .int _=>true
 | .bl _=>true
 | _=>false
noncomputable def qY:V->Bool
 | .bl _=>true
 | _=>false
noncomputable def Known(K:W.Frag)(H:Hp)(x:V):Prop:=∃ n,fB K H x (.type n)
theorem xA{K:W.Frag}{H:Hp}{x:V}{n:String}(h:fB K H x (.type n)):W.kitOne K (.type n) (.type "str")=some (mI x):=by
 cases h<;>kernel_rfl
theorem uB{K:W.Frag}{H:Hp}{x:V}{n:String}(h:fB K H x (.type n)):W.kitOne K (.type n) (.type "int")=some (oV x):=by
 cases h<;>kernel_rfl
theorem uE{K:W.Frag}{H:Hp}{x:V}{n:String}(h:fB K H x (.type n)):W.kitOne K (.type n) (.type "bool")=some (qY x):=by
 cases h<;>kernel_rfl
theorem cG{H:Hp}{a:Addr}{o:HO}(h:H a=none):ck H (upd H a o):=fun b u e=>by rw [cK (dA e h)];exact e
theorem ck.upd {H H':Hp}{a:Addr}{o:HO}(s:ck H H')(h:H' a=none):ck H (upd H' a o):=s.trans (cG h)
structure Df (K : W.Frag) (mg : Str -> Option Value) (x : Str) (st : Stmt) (f : Addr) (fd : FuncData) : Prop where
 F : ix K x x st f fd
 m : mg x = some (.ref f)
theorem gY:bootBuiltins "isinstance"=some (.builtin "isinstance"):=dkq
theorem oP:bootBuiltins "int"=some (.type "int"):=dkq
theorem oG:bootBuiltins "bool"=some (.type "bool"):=dkq
theorem tL:bootBuiltins "str"=some (.type "str"):=dkq
theorem mJ:bootBuiltins "list"=some (.type "list"):=dkq
theorem kz:bootBuiltins "tuple"=some (.type "tuple"):=dkq
theorem eZ:bootBuiltins "len"=some (.builtin "len"):=dkq
theorem xp:bootBuiltins "all"=some (.builtin "all"):=dkq
theorem f9{x p:Str}{st:Stmt}{f:Addr}{fd:FuncData}(F:ix K x x st f fd)
  (h:∀(kV doc pm:Value) (an:Option Addr) (cdv ct:Value) (u:Value),bindArgs (W.fnOf x x (cP st) (cL st) (cv st) .none kV doc pm an cdv ct) ⟨[u],[]⟩=pure ([p].zip [u])):Binds K fd [p] []:=
 F.binds fun kV doc pm an cdv ct us J=>match us,J with | [u],_=>h kV doc pm an cdv ct u
theorem g1{i:Nat}{v:V}{σ:L2.St}{H:Hp}{te:TE}{M:V->Hp->Prop}{N0:Hp->Prop}(h:te (σ.set i (some v)) H M):jC i v σ H fun σ2 H2=>tQ σ2 H2 fun b H3=>if b=true then te σ2 H3 M else N0 H3:=by
 show if true=true then te (σ.set i (some v)) H M else N0 H
 exact cJ h
structure Ex (K : W.Frag) (mg : Str -> Option Value) (x : Str) (C : Addr) : Prop where
 m : mg x = some (.ref C)
 q : W.excIn K C [.type "ValueError", .type "Exception", .type "BaseException", .type "object"] "ValueError.__new__" = true
structure Cu (K : W.Frag) (mg : Str -> Option Value) (x : Str) (st : Stmt) (f : Addr) (fd : FuncData) (items : Array Value) : Prop where
 ex : ∃ (oc : Value) (od : Option Addr) (kV doc pm : Value) (an : Option Addr) (cdv ct : Value) (osl : Array (Option Value)) (T : Addr) (o : Obj) (n : Nat),
  fd = W.fnOf x x (cP st) (cL st) (cv st) (.ref T) kV doc pm an cdv ct /\ K.lookup f = some ⟨oc, od, .func fd, osl⟩ /\ W.codeIn K cdv x = true /\ K.lookup T = some o /\ o.data = .seq items n
 kp : W.keepIn K (.ref f) = true
 m : mg x = some (.ref f)
theorem uU{K:W.Frag}{H:Hp}:∀(ns:List Int),gA K H (ns.map V.int) (ns.map PyData.int)
 | []=> .nil
 | n::ns=> .cons (.int n) (uU ns)
theorem lay_ints:∀(ns:List Int),(PyData.list (ns.map PyData.int)).canLay0=true:=by
 intro ns
 induction ns with
 | nil=>rfl
 | cons n ns J=>exact J
theorem Paired.imp2 {α β:Type}{F G:α->β->Prop}:∀{l:List α} {m:List β},Paired F l m->(∀ a b,F a b->G a b)->Paired G l m
 | _,_,.nil,_=> .nil
 | _,_,.cons r t,f=> .cons (f _ _ r) (Paired.imp2 t f)
theorem Paired.app {α β:Type}{F:α->β->Prop}{a:α}{b:β}:∀{l:List α} {m:List β},Paired F l m->F a b->Paired F (l++[a]) (m++[b])
 | _,_,.nil,h=> .cons h .nil
 | _,_,.cons r t,h=> .cons r (Paired.app t h)
theorem Paired.len {α β:Type}{F:α->β->Prop}:∀{l:List α} {m:List β},Paired F l m->l.length=m.length
 | _,_,.nil=>rfl
 | _,_,.cons _ t=>by simp [Paired.len t]
theorem Bc{H0 H:Hp}{a t:Addr}{o o':HO}(s:ck H0 H)(ha:H0 a=none)(ht:H t=none):ck H0 (upd (upd H t o) a o'):=fun b u e=>by
 rw [cK (dA e ha),cK (dA (s b u e) ht)]
 exact s b u e
theorem gX{r n:Int}(hn:0 < n):∃ j:Nat,(j:Int)=r % n/\(j:Int) < n:=by
 have h1:=Int.emod_nonneg r (show n≠0 by omega)
 have h2:=Int.emod_lt_of_pos r hn
 exact⟨(r % n).toNat,by omega,by omega⟩
noncomputable def z6(c:TT)(t u:TS):TS:=fun D σ H=>∃ J:L2.St->Hp->Prop,(c σ H fun b H1=>if b=true then t {D with nx:=J} σ H1 else u {D with nx:=J} σ H1)/\∀ U H',J U H'->D.nx U H'
theorem qM{X:Cx}{c:Expr}{a b:List Stmt}{tc:TT}{t u:TS}{pos:Pos}(hc:PT X c tc)(ha:cV X a t)(hb:cV X b u):PS X (.If c a b pos) (z6 tc t u):=by
 intro pins s σ H D I h
 obtain⟨J,h1,h2⟩:=h
 refine cF (dC hc ha hb pins s σ H {D with nx:=J} I h1) fun f s1 q=>?_
 cases f with
 | next=>obtain⟨U,H',I',q⟩:=q;exact⟨U,H',I',h2 _ _ q⟩
 | brk=>exact q
 | cont=>exact q
 | ret u=>exact q
theorem zE{xs:List V}{n L:Int}(h0:0 < xs.length)(hL:L=(xs.length:Nat)):∃ v∈xs,iZ xs (n % L)=some v:=by
 obtain⟨j,U,aa⟩:=gX (r:=n) (n:=L) (by omega)
 have J:j < xs.length:=by omega
 refine⟨xs[j],List.getElem_mem J,?_⟩
 rw [<-U]
 exact cA (List.getElem?_eq_getElem J)
theorem B9{K:W.Frag}{H:Hp}{p:Addr}{xs:List V}{n L:Int}{Q:VK}(hp:H p=some (.lst xs))(h0:0 < xs.length)(hL:L=(xs.length:Nat))(h:∀ v∈xs,Q v H):oj K (.ref p) (.int (n % L)) H Q:=by
 obtain⟨v,J,e⟩:=zE (n:=n) h0 hL
 exact⟨p,xs,_,v,rfl,rfl,cm.of hp,e,h v J⟩
theorem PE.imp {X:Cx}{e:Expr}{t t':TE}(h:PE X e t)(i:∀ σ H Q,t' σ H Q->t σ H Q):PE X e t':=fun pins s σ H Q I q=>h pins s σ H Q I (i σ H Q q)
theorem Ag{K:W.Frag}{H:Hp}{p:Addr}{xs:List V}{n L:Int}{Q:VK}(R:V->Hp->Prop)(hp:H p=some (.lst xs))(h0:0 < xs.length)(hL:L=(xs.length:Nat))(hR:∀ v∈xs,R v H)(h:∀ v,R v H->Q v H):oj K (.ref p) (.int (n % L)) H Q:=
 B9 hp h0 hL fun v J=>h v (hR v J)
theorem qT{d:PyData}(h:d.canLay0=true):PyData.eqv d d=true:=SeqAt.eqv_refl d h
noncomputable def AI(K:W.Frag):List V->Hp->VK->Prop:=fun xs H Q=>∃ x c t b,xs=[x,c]/\fB K H x t/\
  ((∃ n,c= .ty n/\W.kitOne K t (.type n)=some b)\/(∃ C,c= .ref C/\W.kitOne K t (.ref C)=some b))/\Q (.bl b) H
theorem uW{X:Cx}{K:W.Frag}(h:X.K=K):gf X (.builtin "isinstance") (AI K):=by subst h;exact iC
theorem qg{X:Cx}{K:W.Frag}(h:X.K=K):lS X (oj K):=by subst h;exact gI
theorem rq{K:W.Frag}{a:Addr}{xs:List V}{g:TG}{tc:TT}{te:TE}{σ0:L2.St}{H:Hp}{Q:VK}(Pv:Nat->List V->Hp->Prop)(hz:xs.length < sizeLine)(hl:∀ i ys H,Pv i ys H->cq K H a xs)(h0:Pv 0 [] H)
  (hs:∀ i x ys H (N:List V->Hp->Prop),xs[i]? =some x->Pv i ys H->(∀ ys' H2,Pv (i + 1) ys' H2->N ys' H2)->
   g x σ0 H fun σ2 H2=>tc σ2 H2 fun b H3=>if b=true then te σ2 H3 fun y H4=>N (ys++[y]) H4 else N ys H3)
  (hd:∀ ys H,Pv xs.length ys H->ys.length<=xs.length->∀ p,H p=none->Q (.ref p) (upd H p (.lst ys))):jX (kO K a) g tc te σ0 Q H:=ly xs.length Pv hz
 (fun i ys H hi p=>⟨xs,xs[i],hl i ys H p,by simp [hi]⟩) (fun ys H p=>⟨xs,hl _ ys H p,Nat.le_refl _⟩) h0
 (fun i ys H v H' N hi p y J=>by
  obtain⟨e,y⟩:=y
  subst e
  exact hs i v ys _ N (y xs (hl i ys _ p)) p J) hd
theorem y6{K:W.Frag}:W.kitOne K (.type "tuple") (.type "tuple")=some true:=by kernel_rfl
theorem Bv{K:W.Frag}:W.kitOne K (.type "list") (.type "list")=some true:=by kernel_rfl
theorem xJ{P:Program}{w:World}{X:Cx}:Passes (dg P w) X E0:=fun _ _ _ _ _ _ _ h=>(dg.no h).elim
theorem eF{x:Str}{st:Stmt}{f:Addr}{oc kV doc pm cd ct:Value}{od an:Option Addr}{sl:Array (Option Value)}(X:K.In h)(G:h.Ns mainGlobals mg)(a:W.nsIn K mainGlobals x=some (some (.ref f)))
  (l:K.lookup f=some ⟨oc,od,.func (W.fnOf x x (cP st) (cL st) (cv st) .none kV doc pm an cd ct),sl⟩)(c:W.codeIn K cd x=true)(k:W.keepIn K (.ref f)=true):∃ f fd,Df K mg x st f fd:=
 ⟨f,_,dX l c k,W.mg_of X G a⟩
end
open PySem PySem.W PySem.Calls PyProof.Rows
theorem rA:∀(ns:List Int) (m:Nat),WData.weightAll (ns.map WData.int)<=m->∀ n∈ns,Builtin.Int.intBits n<=m
 | [],_,_,_,h=>nomatch h
 | i::ns,m,hw,n,h=>by
  have J:Builtin.Int.intBits i + 1 + WData.weightAll (ns.map WData.int)<=m:=hw
  rcases List.mem_cons.mp h with rfl | h
  ·omega
  ·exact rA ns m (by omega) n h
theorem wq{ns:List Int}(h:WData.layableAll [WData.list (ns.map WData.int)]=true):∀ n∈ns,Builtin.Int.intBits n<=2 ^ 20:=by
 have h1:(WData.layable (WData.list (ns.map WData.int)) && true)=true:=h
 rw [Bool.and_true] at h1
 have h2:=(Bool.and_eq_true_iff.mp h1).2
 exact rA ns _ (of_decide_eq_true h2)
theorem xm{l:OpenLaw}{n:Nat}{q:Program}{loose:List Str}{XP:(Str->Option Value)->Heap->Prop}{YP:World->Heap->Prop}{d:DefRec}
  (hn:l.most=some n)(hdf:d.params.defaults=[])
  (call:∀(w:World) (s₀ s₁:Shared) (mg mb:Str->Option Value) (fa:Addr) (a:Addr) (vs:List Value) (ns:List Int),
   Ground q loose [] XP w s₀ mg mb s₁.heap->YP w s₁.heap->mg d.name=some (.ref fa)->
   s₁.heap.get? a=some {cls:= .type "list",data:= .seq vs.toArray}->IntsAre vs ns->ns.length<=n->(∀ i∈ns,Builtin.Int.intBits i<=2 ^ 20)->s₁.gens=#[]->
   codeAny (model l.prog w) callerA (.call (.ref fa) ⟨[.ref a],[]⟩) (fun r s'=>r= .ok (.ret (.bool true))/\OldK s₁.heap s'.heap/\s'.os=s₁.os/\AllBare s'.gens) s₁):
  WalkO q loose XP YP l.row.toRowW d [] (fun f vs=>PySem.call f vs):=by
 intro w s₀ s₁ mg mb G Y fa o pm cd doc dV kV ho hd ag hD ae hg args vals as J U ah af ak
 obtain rfl:dV= .none:=Dflts.none hD hdf
 obtain rfl:kV= .none:=Dflts.noKw hD
 obtain⟨a,vs,ns,rfl,rfl,aa,hints,hlen⟩:=Att.Ak hn J af
 refine enter_call (codeAny_mono (call w s₀ s₁ mg mb fa a vs ns G Y ae aa hints hlen (wq U) hg) fun r s' hq=>?_)
 obtain⟨rfl,h2,h3,h4⟩:=hq
 exact⟨.inl ⟨.bool true,.bool true,[],rfl,fun _=>rfl,.bool true,Att.xR l _,fun _=>⟨List.Pairwise.nil,fun _ hm=>(nomatch hm)⟩⟩,h2,h3,h4⟩
theorem B1{l:W.OpenLaw}{n k:Nat}{q:Program}{loose:List Str}{XP:(Str->Option Value)->Heap->Prop}{YP:World->Heap->Prop}{d:DefRec}{K:Params->W.Frag}{sp:W.Frag->Sp}{x:Str}
  (hn:l.most=some n)(hn2:n<=sizeLine)(hdf:d.params.defaults=[])(hr:dW k callerA)
  (hY:∀(w:World) (h:Heap),YP w h->(K w.params).In h)
  (F:∀(w:World) (mg:Str->Option Value) (fa:Addr) (h:Heap),(K w.params).In h->h.Ns mainGlobals mg->mg d.name=some (.ref fa)->
   ∃ fd:FuncData,(∀(s:Shared) (u:Value),BindsTo s fd ⟨[u],[]⟩ [(x,u)])/\
    ∀ base:Heap,(K w.params).In base->base.Ns mainGlobals mg->cu l.prog w (K w.params) mg base cC k fa fd [x] (sp (K w.params)))
  (hsp:∀(K:W.Frag) (H:Hp) (a:Addr) (ns:List Int),ns.length<=n->(∀ i∈ns,Builtin.Int.intBits i<=2 ^ 20)->cm K H a (ns.map V.int)->sp K [.ref a] H (fun v _=>v= .bl true) fun _ _ _=>False):
  W.WalkO q loose XP YP l.row.toRowW d [] (fun f vs=>PySem.call f vs):=by
 refine xm hn hdf fun w s₀ ae mg mb fa a vs ns G Y aa U hints hlen J hg=>?_
 have KX:=hY w _ Y
 obtain⟨fd,hb,hF⟩:=F w mg fa _ KX G.T.g aa
 exact B8 KX G.T.g G.T.b G.T.builtins G.T.nolimit hg U hints (Nat.le_trans hlen hn2) hr hF hb (fun H hO hS=>hsp _ H a ns hlen J hS) fun H e s' z=>z
section
variable {X : Cx}
end
theorem yj(xs:List V)(k:Nat):dZ xs none (some (k:Int))=xs.take k:=by
 unfold dZ
 rw [HT.qA,HT.Co,List.drop_zero,Nat.sub_zero]
 by_cases h:k<=xs.length
 ·rw [Nat.min_eq_left h]
 ·rw [Nat.min_eq_right (by omega),List.take_of_length_le (Nat.le_refl _),List.take_of_length_le (by omega)]
end Gn
namespace K04
end K04
namespace BK
open K04
section
variable {α : Type} [DecidableEq α]
end
open PySem L2 PyProof.Rows PySem.Spec Gn K04
theorem tP{α β:Type}:∀{es:List (α×β)},(es.map (·.1)).Nodup->∀{w:α} {a b:β},(w,a)∈es->(w,b)∈es->a=b
 | [],_,_,_,_,h,_=>nomatch h
 | e::es,hn,w,a,b,h1,h2=>by
  have J:(e.1::es.map (·.1)).Nodup:=hn
  obtain⟨n1,n2⟩:=List.nodup_cons.mp J
  rcases List.mem_cons.mp h1 with h1 | h1
  ·rcases List.mem_cons.mp h2 with h2 | h2
   ·have:=h1.trans h2.symm
    exact(Prod.mk.inj this).2
   ·exact absurd (List.mem_map.mpr ⟨_,h2,by rw [<-h1]⟩) n1
  ·rcases List.mem_cons.mp h2 with h2 | h2
   ·exact absurd (List.mem_map.mpr ⟨_,h1,by rw [<-h2]⟩) n1
   ·exact tP n2 h1 h2
theorem uD{α β:Type}:∀{es:List (α×β)},(es.map (·.2)).Nodup->∀{w v:α} {a:β},(w,a)∈es->(v,a)∈es->w=v
 | [],_,_,_,_,h,_=>nomatch h
 | e::es,hn,w,v,a,h1,h2=>by
  have J:(e.2::es.map (·.2)).Nodup:=hn
  obtain⟨n1,n2⟩:=List.nodup_cons.mp J
  rcases List.mem_cons.mp h1 with h1 | h1
  ·rcases List.mem_cons.mp h2 with h2 | h2
   ·have:=h1.trans h2.symm
    exact(Prod.mk.inj this).1
   ·exact absurd (List.mem_map.mpr ⟨_,h2,by rw [<-h1]⟩) n1
  ·rcases List.mem_cons.mp h2 with h2 | h2
   ·exact absurd (List.mem_map.mpr ⟨_,h1,by rw [<-h2]⟩) n1
   ·exact uD n2 h1 h2
theorem pB{α:Type}:∀{l:List α} {a:α},l.Nodup->a∉l->(l++[a]).Nodup
 | [],a,_,_=>List.nodup_cons.mpr ⟨(fun h=>nomatch h),List.nodup_nil⟩
 | x::l,a,hn,h=>by
  obtain⟨n1,n2⟩:=List.nodup_cons.mp hn
  show(x::(l++[a])).Nodup
  refine List.nodup_cons.mpr ⟨fun z=>?_,pB n2 fun z=>h (List.mem_cons_of_mem _ z)⟩
  rcases List.mem_append.mp z with z | z
  ·exact n1 z
  ·rw [List.mem_singleton.mp z] at h
   exact h List.mem_cons_self
noncomputable abbrev sl(ws:List Str):List V:=ws.map V.str
theorem rT{ws:List Str}{i:Nat}{x:V}(h:(sl ws)[i]? =some x):∃ w,ws[i]? =some w/\x= .str w:=by
 rw [List.getElem?_map] at h
 cases hp:ws[i]? with
 | none=>rw [hp] at h;cases h
 | some c=>rw [hp] at h;exact⟨c,rfl,(Option.some.inj h).symm⟩
theorem take_snoc{α:Type}{xs:List α}{i:Nat}{x:α}(h:xs[i]? =some x):xs.take (i + 1)=xs.take i++[x]:=by rw [List.take_add_one,h];rfl
noncomputable def SameBut(x:Addr)(H H':Hp):Prop:=∀ b o,H b=some o->b≠x->H' b=some o
theorem SameBut.of {x:Addr}{H G:Hp}(s:ck H G):SameBut x H G:=fun b u e _=>s b u e
theorem SameBut.new {x:Addr}{B H G:Hp}(s:SameBut x H G)(t:ck B H)(h:B x=none):ck B G:=fun b u e=>s _ _ (t _ _ e) (dA e h)
end BK
namespace BN
open PySem L2 PyProof.Rows PySem.Spec Gn BK
noncomputable abbrev Ek:=List (Nat×Addr)
noncomputable abbrev ky(n:Nat):Key:=Sum.inl ((n:Nat):Int)
theorem qU{a b:Nat}(h:¬ a=b):¬ ky a=ky b:=fun z=>h (Int.ofNat.inj (Sum.inl.inj z))
noncomputable def eG(es:Ek):List (Key×V):=es.map fun e=>(ky e.1,V.ref e.2)
theorem Ae(es:Ek):(eG es).length=es.length:=List.length_map _
theorem xS(es:Ek):(eG es).map (·.1)=(es.map (·.1)).map ky:=by
 unfold eG
 rw [List.map_map,List.map_map]
 rfl
theorem sY:∀{es:Ek} {w:Nat},w∉es.map (·.1)->df (eG es) (ky w)=none
 | [],_,_=>rfl
 | e::es,w,h=>by
  have h1:¬ e.1=w:=fun z=>h (by rw [<-z];exact List.mem_map.mpr ⟨e,List.mem_cons_self,rfl⟩)
  have h2:w∉es.map (·.1):=fun z=>h (List.mem_cons_of_mem _ z)
  show df ((ky e.1,V.ref e.2)::eG es) (ky w)=none
  rw [lE (qU h1),sY h2]
theorem pU:∀{es:Ek} {w:Nat} {v:V},df (eG es) (ky w)=some v->∃ a,v= .ref a/\(w,a)∈es
 | [],_,_,h=>nomatch h
 | e::es,w,v,h=>by
  have h':df ((ky e.1,V.ref e.2)::eG es) (ky w)=some v:=h
  by_cases h1:e.1=w
  ·rw [nc (p:=(ky e.1,V.ref e.2)) (by rw [h1])] at h'
   subst h1
   exact⟨e.2,(Option.some.inj h').symm,List.mem_cons_self⟩
  ·rw [lE (qU h1)] at h'
   obtain⟨a,J,U⟩:=pU h'
   exact⟨a,J,List.mem_cons_of_mem _ U⟩
theorem sk{es:Ek}{w:Nat}(h:w∈es.map (·.1)):∃ a,df (eG es) (ky w)=some (.ref a)/\(w,a)∈es:=by
 cases q:df (eG es) (ky w) with
 | none=>
  have:=xX q
  rw [xS] at this
  exact absurd (List.mem_map.mpr ⟨w,h,rfl⟩) this
 | some v=>
  obtain⟨a,rfl,ha⟩:=pU q
  exact⟨a,rfl,ha⟩
theorem yw{es:Ek}{w:Nat}(h:df (eG es) (ky w)=none):w∉es.map (·.1):=fun z=>by
 obtain⟨a,e,_⟩:=sk z
 rw [h] at e
 cases e
theorem wX{es:Ek}{w:Nat}{a:Addr}(h:df (eG es) (ky w)=none):putK (eG es) (ky w) (.ref a)=eG (es++[(w,a)]):=by
 rw [yG _ h]
 unfold eG
 rw [List.map_append]
 rfl
structure DN (B H : Hp) (d : Addr) (es : Ek) (F : Hp -> Addr -> Nat -> Prop) : Prop where
 d : H d = some (.dK (eG es))
 k : (es.map (·.1)).Nodup
 a : (es.map (·.2)).Nodup
 n : ∀ e ∈ es, B e.2 = none
 f : ∀ e ∈ es, F H e.2 e.1
theorem DN.put {B H H':Hp}{d a:Addr}{es:Ek}{w:Nat}{F F':Hp->Addr->Nat->Prop}(h:DN B H d es F)(ha:(w,a)∈es)(hd:H' d=some (.dK (eG es)))
  (hf:∀ e∈es,e.1≠w->e.2≠a->F H e.2 e.1->F' H' e.2 e.1)(hw:F' H' a w):DN B H' d es F':=⟨hd,h.k,h.a,h.n,fun e he=>by
 by_cases J:e.1=w
 ·have:e.2=a:=tP h.k (w:=w) (by rw [<-J];exact he) ha
  rw [this,J]
  exact hw
 ·exact hf e he J (fun z=>J (uD h.a (a:=a) (by rw [<-z];exact he) ha)) (h.f e he)⟩
theorem DN.new {B H H':Hp}{d z:Addr}{es:Ek}{w:Nat}{F F':Hp->Addr->Nat->Prop}(h:DN B H d es F)(hw:w∉es.map (·.1))(hz:B z=none)(hz2:z∉es.map (·.2))(hd:H' d=some (.dK (eG (es++[(w,z)]))))
  (hf:∀ e∈es,e.1≠w->e.2≠z->F H e.2 e.1->F' H' e.2 e.1)(hF:F' H' z w):DN B H' d (es++[(w,z)]) F':=by
 refine⟨hd,?_,?_,fun e he=>?_,fun e he=>?_⟩
 ·rw [List.map_append]
  exact pB h.k hw
 ·rw [List.map_append]
  exact pB h.a hz2
 ·rcases List.mem_append.mp he with he | he
  ·exact h.n e he
  ·rw [List.mem_singleton.mp he]
   exact hz
 ·rcases List.mem_append.mp he with he | he
  ·exact hf e he (fun q=>hw (by rw [<-q];exact List.mem_map.mpr ⟨e,he,rfl⟩)) (fun q=>hz2 (by rw [<-q];exact List.mem_map.mpr ⟨e,he,rfl⟩)) (h.f e he)
  ·rw [List.mem_singleton.mp he]
   exact hF
noncomputable def tw(i j:Nat):TE:=fun σ H Q=>∃(B:Hp) (d:Addr) (es:Ek) (x:Nat) (F:Hp->Addr->Nat->Prop),σ[i]? =some (some (.ref d))/\σ[j]? =some (some (.int ((x:Nat):Int)))/\DN B H d es F/\es.length<=10000/\(∀ z,H z=none->B z=none)/\
 (∀ e∈es,∃ l,H e.2=some (.lst l))/\(∀ G a y l,SameBut d H G->H a=some (.lst l)->F H a y->F G a y)/\(∀ G z,x∉es.map (·.1)->G z=some (.lst [])->F G z x)/\
 ∀ p J H',SameBut d H H'->DN B H' d J F->(x,p)∈J->(J=es\/(x∉es.map (·.1)/\J=es++[(x,p)]/\H p=none))->(∃ l,H' p=some (.lst l))->Q (.ref p) H'
theorem w9{K:W.Frag}{i j:Nat}{σ:L2.St}{H:Hp}{Q:VK}(h:tw i j σ H Q):qN K "dict" ub (mL i) (oF (mL j) (oF (tK mB) mB)) σ H Q:=by
 obtain⟨B,d,es,x,F,hi,hj,hD,hlen,hB,U,ag,ao,q⟩:=h
 have hl:(sizeLine:Nat)=16777216:=sizeLine_eq
 refine⟨_,hi,sV hD.d,_,hj,(by show 0<=sizeLine;decide),fun z hz=>?_⟩
 have sz:ck H (upd H z (.lst [])):=cG hz
 have aa:(upd H z (.lst [])) z=some (.lst []):=cx
 generalize upd H z (.lst [])=H2 at sz aa ⊢
 have ae:=sz _ _ hD.d
 have ah:∀ e∈es,e.2≠d/\e.2≠z:=fun e he=>by
  obtain⟨l,h1⟩:=U e he
  exact⟨(fun q=>by rw [q,hD.d] at h1;cases h1),(fun q=>by rw [q,hz] at h1;cases h1)⟩
 refine⟨d,eG es,ky x,.ref z,rfl,rfl,ae,(by rw [Ae];omega),fun v hv=>?_,fun hv=>?_⟩
 ·obtain⟨p,rfl,hp⟩:=pU hv
  obtain⟨l,h1⟩:=U _ hp
  refine q p es H2 (SameBut.of sz) ⟨ae,hD.k,hD.a,hD.n,fun e he=>?_⟩ hp (.inl rfl) ⟨l,sz _ _ h1⟩
  obtain⟨l',h2⟩:=U e he
  exact ag H2 e.2 e.1 l' (SameBut.of sz) h2 (hD.f e he)
 ·have af:=yw hv
  have aq:z≠d:=fun q=>by rw [q,ae] at aa;cases aa
  have J:upd H2 d (.dK (putK (eG es) (ky x) (.ref z))) z=some (.lst []):=by rw [cK aq];exact aa
  have ak:upd H2 d (.dK (putK (eG es) (ky x) (.ref z))) d=some (.dK (eG (es++[(x,z)]))):=by rw [cx,wX hv]
  have sb:SameBut d H (upd H2 d (.dK (putK (eG es) (ky x) (.ref z)))):=fun b u e hb=>by rw [cK hb];exact sz _ _ e
  generalize upd H2 d (.dK (putK (eG es) (ky x) (.ref z)))=H3 at J ak sb ⊢
  refine q z _ H3 sb (hD.new af (hB z hz) (fun q=>?_) ak (fun e he _ _ hf=>?_) (ao H3 z af J)) (List.mem_append_right _ (List.mem_singleton.mpr rfl)) (.inr ⟨af,rfl,hz⟩) ⟨_,J⟩
  ·obtain⟨e,he,q⟩:=List.mem_map.mp q
   exact(ah e he).2 q
  ·obtain⟨l',h2⟩:=U e he
   exact ag H3 e.2 e.1 l' sb h2 hf
end BN
namespace K01
noncomputable def fA(c:Nat):Bool:=(decide (97<=c) && decide (c<=122)) || (decide (48<=c) && decide (c<=57))
noncomputable def mK(c:Nat):Bool:=decide (c=10) || (decide (32<=c) && decide (c<=126) && !decide (c=37))
theorem BE{c:Nat}(h:mK c=true):c < 128:=by
 unfold mK at h
 simp only [Bool.or_eq_true,Bool.and_eq_true,decide_eq_true_eq,Bool.not_eq_true',decide_eq_false_iff_not] at h
 omega
theorem AY{c:Nat}(h:fA c=true):mK c=true:=by
 unfold fA at h
 unfold mK
 simp only [Bool.or_eq_true,Bool.and_eq_true,decide_eq_true_eq,Bool.not_eq_true',decide_eq_false_iff_not] at *
 omega
theorem rm{c:Nat}(h:fA c=true):c < 128:=BE (AY h)
open PySem L2
noncomputable def gU(most:Nat):V->Bool
 | .str z=>decide (1<=z.length) && decide (z.length<=most) && z.cps.toList.all fA
 | _=>false
noncomputable def nA(x:V):Prop:=∀ z,x= .str z->z.length<=5000
end K01
namespace BK
open PySem PySem.Spec PyProof.Rows
open L2 in
theorem xW(x y:Str)(hx:x.length<=10000):Txt.startswith x y=decide (V.str (Txt.slice x none (some (y.length:Int)))=V.str y):=by
 have J:∀ z:Str,z.cps.toList.length=z.length:=fun z=>by simp [Str.length]
 by_cases h:y.length<=x.length
 ·have U:Txt.slice x none (some (y.length:Int))=_:=PySem.StrLaws.sliceText_to ⟨by omega,by have:=J x;omega⟩
  unfold Txt.startswith
  rw [decide_eq_true (show 0 + y.length<=x.length by omega),Bool.true_and]
  show(x.cps.extract 0 (0 + y.length) == y.cps)=_
  rw [Bool.eq_iff_iff,beq_iff_eq,decide_eq_true_eq,U]
  constructor
  ·intro e
   congr 1
   cases y
   rename_i c
   have e':x.cps.extract 0 (0 + c.size)=c:=e
   congr 1
   rw [<-e']
   apply Array.ext'
   simp [Str.length]
  ·intro e
   injection e with e
   have e2:=congrArg Str.cps e
   rw [<-e2]
   apply Array.ext'
   simp [Str.length]
 ·unfold Txt.startswith
  rw [decide_eq_false (show ¬ 0 + y.length<=x.length by omega),Bool.false_and]
  refine(decide_eq_false fun e=>?_).symm
  injection e with e
  have:=Txt.slice_le x none (some (y.length:Int))
  rw [e] at this
  omega
end BK
namespace SPN
theorem uK{α:Type}{key:α->Nat}:∀{l m:List α},l.Pairwise (fun a b=>key a < key b)->m.Pairwise (fun a b=>key a < key b)->(∀ x,x∈l↔x∈m)->l=m
 | [],[],_,_,_=>rfl
 | [],b::m,_,_,h=>absurd ((h b).mpr List.mem_cons_self) (fun z=>nomatch z)
 | a::l,[],_,_,h=>absurd ((h a).mp List.mem_cons_self) (fun z=>nomatch z)
 | a::l,b::m,h1,h2,h=>by
  obtain⟨p1,q1⟩:=List.pairwise_cons.mp h1
  obtain⟨p2,q2⟩:=List.pairwise_cons.mp h2
  have e:a=b:=by
   rcases List.mem_cons.mp ((h a).mp List.mem_cons_self) with z | z
   ·exact z
   ·rcases List.mem_cons.mp ((h b).mpr List.mem_cons_self) with y | y
    ·exact y.symm
    ·have:=p2 a z
     have:=p1 b y
     omega
  subst e
  have U:l=m:=uK q1 q2 fun x=>by
   constructor
   ·intro J
    rcases List.mem_cons.mp ((h x).mp (List.mem_cons_of_mem _ J)) with z | z
    ·have:=p1 x J
     rw [z] at this
     omega
    ·exact z
   ·intro J
    rcases List.mem_cons.mp ((h x).mpr (List.mem_cons_of_mem _ J)) with z | z
    ·have:=p2 x J
     rw [z] at this
     omega
    ·exact z
  rw [U]
noncomputable def rk(r:Nat×Nat):Nat:=r.1 * 1000 + r.2
noncomputable def eQ(p:Nat->Bool)(k n:Nat):List (Nat×Nat):=((List.range n).filter p).map fun i=>(i,i + k)
theorem j7{p:Nat->Bool}{k n:Nat}(h:p n=true):eQ p k (n + 1)=eQ p k n++[(n,n + k)]:=by
 unfold eQ
 rw [List.range_succ,List.filter_append,List.map_append,List.filter_cons_of_pos h]
 rfl
theorem jJ{p:Nat->Bool}{k n:Nat}(h:p n=false):eQ p k (n + 1)=eQ p k n:=by
 unfold eQ
 rw [List.range_succ,List.filter_append,List.map_append,List.filter_cons_of_neg (by rw [h];decide)]
 simp
theorem uT{p:Nat->Bool}{k n:Nat}{r:Nat×Nat}:r∈eQ p k n↔r.1 < n/\p r.1=true/\r.2=r.1 + k:=by
 unfold eQ
 rw [List.mem_map]
 constructor
 ·rintro⟨i,hi,rfl⟩
  obtain⟨a,b⟩:=List.mem_filter.mp hi
  exact⟨List.mem_range.mp a,b,rfl⟩
 ·rintro⟨a,b,c⟩
  exact⟨r.1,List.mem_filter.mpr ⟨List.mem_range.mpr a,b⟩,by rw [<-c]⟩
theorem qa(p:Nat->Bool)(k:Nat):∀ n,(eQ p k n).Pairwise (fun a b=>rk a < rk b)
 | 0=>List.Pairwise.nil
 | n + 1=>by
  cases h:p n with
  | false=>rw [jJ h];exact qa p k n
  | true=>
   rw [j7 h]
   refine List.pairwise_append.mpr ⟨qa p k n,List.pairwise_singleton _ _,fun a ha b hb=>?_⟩
   obtain⟨a1,_,J⟩:=uT.mp ha
   rw [List.mem_singleton.mp hb]
   unfold rk
   simp only
   omega
theorem pG(p:Nat->Bool)(k n:Nat):(eQ p k n).length<=n:=by
 unfold eQ
 rw [List.length_map]
 have:=List.length_filter_le p (List.range n)
 rw [List.length_range] at this
 exact this
noncomputable def U(n:Nat):List (Nat×Nat):=(List.range n).flatMap fun i=>((List.range 36).filter fun d=>decide (i + d < n)).map fun d=>(i,i + d)
theorem qy{n:Nat}{r:Nat×Nat}(h1:r.1<=r.2)(h2:r.2 < n)(h3:r.2<=r.1 + 35):r∈U n:=by
 unfold U
 refine List.mem_flatMap.mpr ⟨r.1,List.mem_range.mpr (by omega),List.mem_map.mpr ⟨r.2 - r.1,List.mem_filter.mpr ⟨List.mem_range.mpr (by omega),decide_eq_true (by omega)⟩,?_⟩⟩
 exact Prod.ext rfl (by simp only;omega)
theorem sZ:(U 64).length=1674:=dkq
noncomputable def iH(p q:Nat×Nat)(n:Nat)(r:Nat×Nat):Prop:=(p.2 < q.1/\q.1<=p.2 + n + 1/\r=(p.1,q.2))\/(q.2 < p.1/\p.1<=q.2 + n + 1/\r=(q.1,p.2))
noncomputable def mx(i j:Int):Int:=if j > i then j else i
noncomputable def mn(i j:Int):Int:=if j < i then j else i
theorem we{a b c d n:Nat}(h1:a<=b)(h2:c<=d):(0<=mx a c - mn b d - 1/\mx a c - mn b d - 1<=(n:Int))↔((b < c/\c<=b + n + 1)\/(d < a/\a<=d + n + 1)):=by
 unfold mx mn
 split<;>split<;>omega
theorem Cg{a b c d n:Nat}(h1:a<=b)(h2:c<=d)(h:0<=mx a c - mn b d - 1/\mx a c - mn b d - 1<=(n:Int)):
  ∃ r:Nat×Nat,mn a c=(r.1:Int)/\mx b d=(r.2:Int)/\∀ x,x=r↔iH (a,b) (c,d) n x:=by
 unfold mx mn at h
 have key:(b < c/\c<=b + n + 1)\/(d < a/\a<=d + n + 1):=by split at h<;>split at h<;>omega
 unfold mx mn iH
 rcases key with ⟨k1,k2⟩ | ⟨k1,k2⟩
 ·refine⟨(a,d),by split<;>simp only<;>omega,by split<;>simp only<;>omega,fun x=>⟨fun e=> .inl ⟨k1,k2,e⟩,?_⟩⟩
  rintro(⟨_,_,e⟩ | ⟨z,_,_⟩)
  ·exact e
  ·simp only at z;omega
 ·refine⟨(c,b),by split<;>simp only<;>omega,by split<;>simp only<;>omega,fun x=>⟨fun e=> .inr ⟨k1,k2,e⟩,?_⟩⟩
  rintro(⟨z,_,_⟩ | ⟨_,_,e⟩)
  ·simp only at z;omega
  ·exact e
theorem vH{a b c d n:Nat}(h1:a<=b)(h2:c<=d)(h:¬ (0<=mx a c - mn b d - 1/\mx a c - mn b d - 1<=(n:Int)))(x:Nat×Nat):¬ iH (a,b) (c,d) n x:=by
 rw [we h1 h2] at h
 rintro(⟨J,U,_⟩ | ⟨J,U,_⟩)
 ·exact h (.inl ⟨J,U⟩)
 ·exact h (.inr ⟨J,U⟩)
end SPN
namespace L2
open PySem PySem.Spec PyProof.Rows
theorem sQ{a:Addr}{xs:List V}{g:TG}{tc:TT}{te:TE}{σ0:St}{H:Hp}{Q:VK}(Pv:Nat->List V->Hp->Prop)(hz:xs.length < sizeLine)(hl:∀ i ys H,Pv i ys H->H a=some (.lst xs))(h0:Pv 0 [] H)
  (hs:∀ i x ys H T (N:List V->Hp->Prop),xs[i]? =some x->Pv i ys H->H T=none->(∀ ys' H2,Pv (i + 1) ys' H2->N ys' H2)->
   g (.ref T) σ0 (upd H T (.tup [.int i,x])) fun σ2 H2=>tc σ2 H2 fun b H3=>if b=true then te σ2 H3 fun y H4=>N (ys++[y]) H4 else N ys H3)
  (hd:∀ ys H,Pv xs.length ys H->ys.length<=xs.length->∀ p,H p=none->Q (.ref p) (upd H p (.lst ys))):jX (qz a) g tc te σ0 Q H:=ly xs.length Pv hz
 (fun i ys H hi p=>⟨xs,xs[i],hl i ys H p,by simp [hi]⟩) (fun ys H p=>⟨xs,hl _ ys H p,rfl⟩) h0
 (fun i ys H v H' N hi p y J=>by
  obtain⟨T,z,U,hz,rfl,rfl⟩:=y
  exact hs i z ys H T N (hz xs (hl i ys H p)) p U J) hd
theorem og{xs:List V}{i j:Int}(b k:Nat)(e1:i=(b:Int))(e2:j=((b + k:Nat):Int))(h:b + k<=xs.length):dZ xs (some i) (some j)=(xs.drop b).take k:=by
 subst e1 e2
 unfold dZ
 rw [HT.qA,HT.qA,Nat.min_eq_left h,Nat.min_eq_left (by omega)]
 congr 1
 omega
theorem pW:∀ as bs:List Str,PyData.eqvAll (as.map PyData.str) (bs.map PyData.str)=decide (as=bs)
 | [],[]=>rfl
 | [],_::_=>by rw [decide_eq_false (by simp)];rfl
 | _::_,[]=>by rw [decide_eq_false (by simp)];rfl
 | a::as,b::bs=>by
  have J:=pW as bs
  show(PyData.eqv (.str a) (.str b) && PyData.eqvAll (as.map PyData.str) (bs.map PyData.str))=_
  rw [J]
  have e:PyData.eqv (.str a) (.str b)=decide (a=b):=by
   show(a == b)=_
   exact Bool.beq_eq_decide_eq a b
  rw [e]
  by_cases h1:a=b
  ·by_cases h2:as=bs
   ·rw [decide_eq_true h1,decide_eq_true h2,decide_eq_true (by rw [h1,h2])];rfl
   ·rw [decide_eq_true h1,decide_eq_false h2,decide_eq_false (by intro z;exact h2 (List.cons.inj z).2)];rfl
  ·rw [decide_eq_false h1,Bool.false_and,decide_eq_false (show ¬ a::as=b::bs from fun z=>h1 (List.cons.inj z).1)]
theorem sM(as bs:List Str):PyData.eqv (.list (as.map PyData.str)) (.list (bs.map PyData.str))=decide (as=bs):=pW as bs
theorem zK(as bs:List Str):PyData.eqv (.tuple (as.map PyData.str)) (.tuple (bs.map PyData.str))=decide (as=bs):=pW as bs
theorem iK{K:W.Frag}{H:Hp}:∀(ns:List Str),gA K H (ns.map V.str) (ns.map PyData.str)
 | []=> .nil
 | n::ns=> .cons (.str n) (iK ns)
theorem qk:∀{ns:List Str},(∀ n∈ns,PyData.strOk n=true)->PyData.canLayAll0 (ns.map PyData.str)=true
 | [],_=>rfl
 | n::ns,h=>by
  show(PyData.strOk n && PyData.canLayAll0 (ns.map PyData.str))=true
  rw [h n (by simp),qk fun y J=>h y (by simp [J])]
  rfl
theorem iY{ns:List Str}(h:∀ n∈ns,PyData.strOk n=true):(PyData.list (ns.map PyData.str)).canLay0=true:=qk h
theorem uM{ns:List Str}(h:∀ n∈ns,PyData.strOk n=true):(PyData.tuple (ns.map PyData.str)).canLay0=true:=qk h
theorem kq:∀ zs:List Str,PyData.depthAll (zs.map .str)=0
 | []=>rfl
 | z::zs=>by show max 0 (PyData.depthAll (zs.map .str))=0;rw [kq zs];rfl
noncomputable def fH(rs:List (Nat×Nat)):List PyData:=rs.map fun r=> .tuple [.int (r.1:Int),.int (r.2:Int)]
theorem iw:∀ rs:List (Nat×Nat),(PyData.list (fH rs)).canLay0=true
 | []=>rfl
 | r::rs=>iw rs
theorem um:∀ rs:List (Nat×Nat),PyData.depthAll (fH rs)<=1
 | []=>Nat.zero_le _
 | r::rs=>by
  have J:=um rs
  show max (max 0 (max 0 0) + 1) (PyData.depthAll (fH rs))<=1
  omega
end L2
namespace PySem.SetTable
noncomputable def kA(xs:Array Nat):Prop:=∀(i j a b:Nat),i < j->xs[i]? =some a->xs[j]? =some b->a < b
theorem ou{xs:Array Nat}{j:Nat}(R:kA xs):∀(fuel lo hi:Nat),hi - lo<=fuel->lo<=hi->hi<=xs.size->(∀ i a,i < lo->xs[i]? =some a->a < j)->(∀ i a,hi<=i->xs[i]? =some a->j<=a)->
  below.go xs j fuel lo hi<=xs.size/\(∀ i a,i < below.go xs j fuel lo hi->xs[i]? =some a->a < j)/\∀ i a,below.go xs j fuel lo hi<=i->xs[i]? =some a->j<=a
 | 0,lo,hi,h,h1,h2,hl,hr=>by
  have e:lo=hi:=by(clear h2;omega)
  subst e
  exact⟨h2,hl,hr⟩
 | fuel + 1,lo,hi,h,h1,h2,hl,hr=>by
  unfold below.go
  by_cases J:lo < hi
  ·rw [if_pos J]
   have U:lo<=(lo + hi) / 2:=by(clear h2 h1 h;omega)
   have aa:(lo + hi) / 2 < hi:=by(clear U h2 h1 h;omega)
   have hg:xs[(lo + hi) / 2]? =some (xs.getD ((lo + hi) / 2) j):=by
    rw [Array.getD_eq_getD_getElem?,Array.getElem?_eq_getElem (by(clear U J h1 h;omega))]
    rfl
   dsimp only
   by_cases hv:xs.getD ((lo + hi) / 2) j < j
   ·rw [if_pos hv]
    refine ou R fuel _ hi (by(clear hv hg aa U J h2 h1;omega)) (by omega) h2 (fun i a ae ea=>?_) hr
    by_cases e:i=(lo + hi) / 2
    ·subst e
     rw [hg] at ea
     have:=Option.some.inj ea
     (clear ae hg aa U J h2 h1 h;omega)
    ·have:=R i ((lo + hi) / 2) a _ (by(clear ea hv hg aa U J h2 h1 h;omega)) ea hg
     (clear e ea ae hg aa U J h2 h1 h;omega)
   ·rw [if_neg hv]
    refine ou R fuel lo _ (by(clear hv hg aa U J h2 h1;omega)) U (by omega) hl fun i a ae ea=>?_
    by_cases e:i=(lo + hi) / 2
    ·subst e
     rw [hg] at ea
     have:=Option.some.inj ea
     (clear ae hg aa U J h2 h1 h;omega)
    ·have:=R ((lo + hi) / 2) i _ a (by(clear ea hv hg aa U J h2 h1 h;omega)) hg ea
     (clear e ea ae hg aa U J h2 h1 h;omega)
  ·rw [if_neg J]
   have e:lo=hi:=by(clear h2 h;omega)
   subst e
   exact⟨h2,hl,hr⟩
theorem mW{xs:Array Nat}{j:Nat}(R:kA xs):below xs j<=xs.size/\(∀ i a,i < below xs j->xs[i]? =some a->a < j)/\∀ i a,below xs j<=i->xs[i]? =some a->j<=a:=
 ou R _ 0 xs.size (by omega) (Nat.zero_le _) (Nat.le_refl _) (fun i a h=>by omega) fun i a h J=>by
  rw [Array.getElem?_eq_none h] at J
  cases J
theorem below_at{xs:Array Nat}{i j:Nat}(R:kA xs)(h:xs[i]? =some j):below xs j=i:=by
 obtain⟨_,h1,h2⟩:=mW (j:=j) R
 rcases Nat.lt_trichotomy (below xs j) i with q | q | q
 ·have hs:=(Array.getElem?_eq_some_iff.mp h).1
  have e:xs[below xs j]? =some xs[below xs j]:=Array.getElem?_eq_getElem (by(clear h;omega))
  have a1:=h2 _ _ (Nat.le_refl _) e
  have a2:=R _ _ _ _ q e h
  (clear e h;omega)
 ·exact q
 ·have:=h1 i j q h
  (clear q h;omega)
theorem vq{t:SetTable}(hd:t.dummies=#[])(j:Nat):has t.dummies j=false:=by
 rw [hd]
 rfl
theorem kS{t:SetTable}{i j:Nat}(R:kA t.place)(h:t.place[i]? =some j):t.slot j= .live i:=by
 unfold slot
 rw [below_at R h]
 simp [h]
theorem zw{t:SetTable}{j:Nat}(hd:t.dummies=#[])(h:∀ i:Nat,t.place[i]? ≠some j):t.slot j= .empty:=by
 unfold slot
 have e:(t.place[below t.place j]? == some j)=false:=by
  rw [beq_eq_false_iff_ne]
  exact h _
 simp only [e]
 rw [vq hd]
 rfl
noncomputable def gD(m:Nat)(p:Probe):Probe:=if p.more > 0 then {p with j:=p.j + 1,more:=p.more - 1} else {p with j:=(leap m p.i p.perturb).1,more:=runEnd m (leap m p.i p.perturb).1 - (leap m p.i p.perturb).1,i:=(leap m p.i p.perturb).1,perturb:=(leap m p.i p.perturb).2}
noncomputable def start(m:Nat)(h:Int):Probe:={j:=bits h % (m + 1),more:=runEnd m (bits h % (m + 1)) - bits h % (m + 1),i:=bits h % (m + 1),perturb:=bits h,dummy:=none}
noncomputable def way(m:Nat)(h:Int):Nat->Probe
 | 0=>start m h
 | n + 1=>gD m (way m h n)
noncomputable def lp(m:Nat)(h:Int):Nat->Nat×Nat
 | 0=>(bits h % (m + 1),bits h)
 | n + 1=>leap m (lp m h n).1 (lp m h n).2
theorem zR(m i:Nat):runEnd m i - i<=9:=by unfold runEnd;split<;>omega
theorem nN{m:Nat}{h:Int}{n:Nat}:∀(k:Nat),k<=(way m h n).more->way m h (n + k)={way m h n with j:=(way m h n).j + k,more:=(way m h n).more - k}
 | 0,_=>rfl
 | k + 1,hk=>by
  show gD m (way m h (n + k))=_
  rw [nN k (by omega)]
  unfold gD
  rw [if_pos (show(way m h n).more - k > 0 by omega)]
  show Probe.mk _ _ _ _ _=Probe.mk _ _ _ _ _
  congr 1
theorem qZ(m:Nat)(h:Int):∀ b:Nat,∃ n,n<=10 * b/\way m h n={j:=(lp m h b).1,more:=runEnd m (lp m h b).1 - (lp m h b).1,i:=(lp m h b).1,perturb:=(lp m h b).2,dummy:=none}
 | 0=>⟨0,Nat.le_refl _,rfl⟩
 | b + 1=>by
  obtain⟨n,hn,e⟩:=qZ m h b
  have J:=zR m (lp m h b).1
  refine⟨n + (runEnd m (lp m h b).1 - (lp m h b).1) + 1,by omega,?_⟩
  show gD m (way m h (n + (runEnd m (lp m h b).1 - (lp m h b).1)))=_
  rw [nN (n:=n) _ (by rw [e];exact Nat.le_refl _),e]
  unfold gD
  rw [if_neg (by simp)]
  rfl
theorem qX(m:Nat)(h:Int):∀ n,(way m h n).dummy=none
 | 0=>rfl
 | n + 1=>by
  show(gD m (way m h n)).dummy=none
  unfold gD
  split<;>exact qX m h n
noncomputable def gg(x:Nat):Nat:=x * 5 + 1
noncomputable def gi:Nat->Nat->Nat
 | 0,x=>x
 | n + 1,x=>gg (gi n x)
theorem pM(a:Nat):∀(b x:Nat),gi (b + a) x=gi b (gi a x)
 | 0,x=>by rw [Nat.zero_add];rfl
 | b + 1,x=>by
  rw [Nat.add_right_comm]
  show gg (gi (b + a) x)=gg (gi b (gi a x))
  rw [pM a b x]
theorem rV:∀(n x:Nat),4 * gi n x + 1=5 ^ n * (4 * x + 1)
 | 0,x=>by simp [gi]
 | n + 1,x=>by
  have J:=rV n x
  show 4 * (gi n x * 5 + 1) + 1=_
  rw [Nat.pow_succ,Nat.mul_comm (5 ^ n) 5,Nat.mul_assoc,<-J]
  (clear J;omega)
theorem q8:∀ k:Nat,∃ v,5 ^ (2 ^ k)=1 + 4 * 2 ^ k * (2 * v + 1)
 | 0=>⟨0,rfl⟩
 | k + 1=>by
  obtain⟨v,e⟩:=q8 k
  refine⟨v + 2 ^ k * (2 * v + 1) * (2 * v + 1),?_⟩
  rw [Nat.pow_succ 2 k,Nat.pow_mul,e]
  generalize 2 ^ k=a
  generalize hb:2 * v + 1=b
  have:2 * (v + a * b * b) + 1=b + 2 * (a * b * b):=by(clear e;omega)
  rw [this]
  show(1 + 4 * a * b) ^ 2=1 + 4 * (a * 2) * (b + 2 * (a * b * b))
  rw [Nat.pow_two,Nat.add_mul,Nat.mul_add,Nat.mul_add]
  have J:4 * a * b * (4 * a * b)=16 * (a * (a * (b * b))):=by
   simp only [Nat.mul_assoc,Nat.mul_left_comm,Nat.mul_comm]
   try omega
  have U:4 * (a * 2) * (2 * (a * b * b))=16 * (a * (a * (b * b))):=by
   simp only [Nat.mul_assoc,Nat.mul_left_comm,Nat.mul_comm]
   try omega
  have e3:4 * (a * 2) * b=8 * (a * b):=by
   simp only [Nat.mul_assoc,Nat.mul_left_comm,Nat.mul_comm]
   try omega
  have e4:4 * a * b=4 * (a * b):=by rw [Nat.mul_assoc]
  rw [J,Nat.mul_add (4 * (a * 2)),U,e3,e4]
  (clear e4 e3 U J hb e;omega)
theorem vx(k x:Nat):∃ c,gi (2 ^ k) x=x + 2 ^ k * (2 * c + 1):=by
 obtain⟨v,e⟩:=q8 k
 have h:=rV (2 ^ k) x
 rw [e,Nat.add_mul,Nat.one_mul] at h
 refine⟨v * (4 * x + 1) + 2 * x,?_⟩
 have J:4 * 2 ^ k * (2 * v + 1) * (4 * x + 1)=4 * (2 ^ k * ((2 * v + 1) * (4 * x + 1))):=by
  simp only [Nat.mul_assoc]
 rw [J] at h
 have U:(2 * v + 1) * (4 * x + 1)=2 * (v * (4 * x + 1) + 2 * x) + 1:=by
  rw [Nat.add_mul,Nat.mul_assoc]
  (clear J h e;omega)
 rw [U] at h
 (clear U J e;omega)
theorem qv:∀(k x j:Nat),j < 2 ^ k->∃ n,n < 2 ^ k/\gi n x % 2 ^ k=j
 | 0,x,j,J=>⟨0,by decide,by
  have:j=0:=by simpa using J
  rw [this]
  exact Nat.mod_one _⟩
 | k + 1,x,j,J=>by
  have U:0 < 2 ^ k:=Nat.two_pow_pos k
  have e2:2 ^ (k + 1)=2 ^ k + 2 ^ k:=by rw [Nat.pow_succ];(clear U J;omega)
  obtain⟨n,hn,e⟩:=qv k x (j % 2 ^ k) (Nat.mod_lt _ U)
  have two:∀ y,y % 2 ^ k=j % 2 ^ k->y % 2 ^ (k + 1)=j\/y % 2 ^ (k + 1)=j + 2 ^ k\/y % 2 ^ (k + 1) + 2 ^ k=j:=fun y hy=>by
   have l1:y % 2 ^ (k + 1) < 2 ^ (k + 1):=Nat.mod_lt _ (Nat.two_pow_pos _)
   have m1:y % 2 ^ (k + 1) % 2 ^ k=y % 2 ^ k:=Nat.mod_mod_of_dvd _ ⟨2,by rw [Nat.pow_succ]⟩
   have d1:=Nat.div_add_mod (y % 2 ^ (k + 1)) (2 ^ k)
   have d2:=Nat.div_add_mod j (2 ^ k)
   have q1:y % 2 ^ (k + 1) / 2 ^ k < 2:=by rw [Nat.div_lt_iff_lt_mul U];(clear d2 d1 m1 l1 hy e hn e2 U J;omega)
   have q2:j / 2 ^ k < 2:=by rw [Nat.div_lt_iff_lt_mul U];(clear q1 d2 d1 m1 l1 hy e hn e2 U;omega)
   rw [m1,hy] at d1
   generalize y % 2 ^ (k + 1) / 2 ^ k=a at d1 q1
   generalize j / 2 ^ k=b at d2 q2
   have ha:a=0\/a=1:=by(clear q2 d2 d1 m1 l1 hy e hn e2 U J;omega)
   have hb:b=0\/b=1:=by(clear ha d2 q1 d1 m1 l1 hy e hn e2 U J;omega)
   rcases ha with rfl | rfl<;>rcases hb with rfl | rfl<;>simp at d1 d2<;>(clear q2 q1 m1 l1 hy e hn e2 U J;omega)
  rcases two _ e with q | q | q
  ·exact⟨n,by(clear q e e2 U J;omega),q⟩
  ·refine⟨2 ^ k + n,by(clear q e e2 U J;omega),?_⟩
   obtain⟨c,ec⟩:=vx k (gi n x)
   rw [pM n (2 ^ k) x,ec]
   have e4:gi n x + 2 ^ k * (2 * c + 1)=gi n x + 2 ^ k + 2 ^ (k + 1) * c:=by
    rw [Nat.mul_add,Nat.pow_succ,Nat.mul_one,Nat.mul_assoc]
    (clear ec q e hn e2 U J;omega)
   rw [e4,Nat.add_mul_mod_self_left,Nat.add_mod,q]
   have:2 ^ k % 2 ^ (k + 1)=2 ^ k:=Nat.mod_eq_of_lt (by(clear e4 ec e hn e2 U J;omega))
   rw [this]
   have:j + 2 ^ k + 2 ^ k=j + 2 ^ (k + 1):=by(clear e4 ec q e hn e2 U J;omega)
   rw [this,Nat.add_mod_right]
   exact Nat.mod_eq_of_lt J
  ·refine⟨2 ^ k + n,by(clear q e e2 U J;omega),?_⟩
   obtain⟨c,ec⟩:=vx k (gi n x)
   rw [pM n (2 ^ k) x,ec]
   have e4:gi n x + 2 ^ k * (2 * c + 1)=gi n x + 2 ^ k + 2 ^ (k + 1) * c:=by
    rw [Nat.mul_add,Nat.pow_succ,Nat.mul_one,Nat.mul_assoc]
    (clear ec q e hn e2 U J;omega)
   rw [e4,Nat.add_mul_mod_self_left,Nat.add_mod]
   have:2 ^ k % 2 ^ (k + 1)=2 ^ k:=Nat.mod_eq_of_lt (by(clear e4 ec e hn e2 U J;omega))
   rw [this,q]
   exact Nat.mod_eq_of_lt J
theorem xx(h:Int):bits h < 2 ^ 64:=by
 unfold bits
 have h1:=Int.emod_nonneg h (show(2 ^ 64:Int)≠0 by decide)
 have h2:=Int.emod_lt_of_pos h (show(0:Int) < 2 ^ 64 by decide)
 (clear h2 h1;omega)
theorem se(m:Nat)(h:Int):∀ n,(lp m h n).2=bits h / 32 ^ n
 | 0=>by simp [lp]
 | n + 1=>by
  show(lp m h n).2 / 32=_
  rw [se m h n,Nat.div_div_eq_div_mul,Nat.pow_succ]
theorem xi(m:Nat)(h:Int)(n:Nat)(hn:13<=n):(lp m h n).2=0:=by
 rw [se]
 apply Nat.div_eq_of_lt
 have h1:=xx h
 have h2:(2:Nat) ^ 64<=32 ^ 13:=by decide
 have J:(32:Nat) ^ 13<=32 ^ n:=Nat.pow_le_pow_right (by decide) hn
 (clear h2 hn;omega)
theorem zi(m:Nat)(h:Int):∀ n,(lp m h n).1 < m + 1
 | 0=>Nat.mod_lt _ (Nat.succ_pos _)
 | n + 1=>Nat.mod_lt _ (Nat.succ_pos _)
theorem qO(m:Nat)(h:Int):∀ n,(lp m h (13 + n)).1=gi n (lp m h 13).1 % (m + 1)
 | 0=>(Nat.mod_eq_of_lt (zi m h 13)).symm
 | n + 1=>by
  show((lp m h (13 + n)).1 * 5 + 1 + (lp m h (13 + n)).2 / 32) % (m + 1)=_
  rw [xi m h (13 + n) (by omega),qO m h n]
  show(gi n (lp m h 13).1 % (m + 1) * 5 + 1 + 0) % (m + 1)=(gi n (lp m h 13).1 * 5 + 1) % (m + 1)
  rw [Nat.add_zero,Nat.add_mod,Nat.mul_mod,Nat.mod_mod,<-Nat.mul_mod,<-Nat.add_mod]
theorem BJ{m k:Nat}(hm:m + 1=2 ^ k)(h:Int){j:Nat}(hj:j<=m):∃ n,n < 10 * turns m/\(way m h n).j=j:=by
 obtain⟨b,hb,e⟩:=qv k (lp m h 13).1 j (by omega)
 obtain⟨n,hn,en⟩:=qZ m h (13 + b)
 refine⟨n,by unfold turns;(clear e hj;omega),?_⟩
 rw [en]
 show(lp m h (13 + b)).1=j
 rw [qO,hm,e]
theorem get_ins{α:Type}{xs:Array α}{p:Nat}{x:α}(hp:p<=xs.size)(i:Nat):(insertAt xs p x)[i]? =if i < p then xs[i]? else if i=p then some x else xs[i - 1]? :=by
 rw [<-Array.getElem?_toList,toList_insertAt]
 have J:(xs.toList.take p).length=p:=by rw [List.length_take,Array.length_toList];omega
 by_cases h1:i < p
 ·rw [if_pos h1,List.getElem?_append_left (by(clear hp;omega)),List.getElem?_take,if_pos h1,Array.getElem?_toList]
 ·rw [if_neg h1,List.getElem?_append_right (by(clear hp;omega)),J]
  by_cases h2:i=p
  ·rw [if_pos h2,h2,Nat.sub_self]
   rfl
  ·rw [if_neg h2]
   obtain⟨n,hn⟩:∃ n,i - p=n + 1:=⟨i - p - 1,by(clear J hp;omega)⟩
   rw [hn,List.getElem?_cons_succ,List.getElem?_drop,Array.getElem?_toList]
   congr 1
   (clear h2 h1 J hp;omega)
structure TI (t : SetTable) (hs : List Int) : Prop where
 k : ∃ k, 3 <= k /\ k <= 13 /\ t.mask + 1 = 2 ^ k
 dm : t.dummies = #[]
 ris : kA t.place
 le : ∀ (i j : Nat), t.place[i]? = some j -> j <= t.mask
 sz : t.place.size = hs.length
 rch : ∀ (i : Nat) (h : Int) (j : Nat), hs[i]? = some h -> t.place[i]? = some j -> ∃ n, (way t.mask h n).j = j /\ ∀ m, m < n -> ∃ i' : Nat, t.place[i']? = some (way t.mask h m).j
theorem hole{xs:Array Nat}{M:Nat}(R:kA xs)(hl:∀(i j:Nat),xs[i]? =some j->j<=M)(hs:xs.size<=M):∃ j,j<=M/\∀ i:Nat,xs[i]? ≠some j:=by
 have key:∀ n,n<=xs.size->(∃ j,j<=M/\∀ i:Nat,xs[i]? ≠some j)\/∀ i,i < n->xs[i]? =some i:=fun n=>by
  induction n with
  | zero=>exact fun _=> .inr fun i h=>by(clear hs;omega)
  | succ n U=>
   intro hn
   rcases U (by(clear hs;omega)) with q | q
   ·exact .inl q
   ·have e:xs[n]? =some xs[n]:=Array.getElem?_eq_getElem (by(clear hs;omega))
    have ge:n<=xs[n]:=by
     cases n with
     | zero=>exact Nat.zero_le _
     | succ m=>
      have:=R m (m + 1) m _ (by(clear e hn hs;omega)) (q m (by omega)) e
      (clear e hs;omega)
    by_cases z:xs[n]=n
    ·refine .inr fun i h=>?_
     by_cases e2:i=n
     ·rw [e2,e,z]
     ·exact q i (by(clear z ge e hn hs;omega))
    ·refine .inl ⟨n,by(clear z ge e;omega),fun i J=>?_⟩
     rcases Nat.lt_trichotomy i n with h | h | h
     ·rw [q i h] at J
      have:=Option.some.inj J
      (clear z ge e hn hs;omega)
     ·rw [h,e] at J
      exact z (Option.some.inj J)
     ·have:=R n i _ n h e J
      (clear h J z e hs;omega)
 rcases key xs.size (Nat.le_refl _) with q | q
 ·exact q
 ·refine⟨xs.size,hs,fun i J=>?_⟩
  have h:=(Array.getElem?_eq_some_iff.mp J).1
  rw [q i h] at J
  have:=Option.some.inj J
  (clear hs;omega)
theorem yp{t:SetTable}{hs:List Int}(T:TI t hs)(hf:t.place.size<=t.mask)(h:Int):∃ N,N < 10 * turns t.mask/\(∀ i:Nat,t.place[i]? ≠some (way t.mask h N).j)/\∀ m,m < N->∃ i:Nat,t.place[i]? =some (way t.mask h m).j:=by
 obtain⟨k,_,_,hk⟩:=T.k
 obtain⟨j,J,he⟩:=hole T.ris T.le hf
 obtain⟨n,hn,en⟩:=BJ hk h J
 have key:∀ d,d<=n->(∃ N,N < d/\(∀ i:Nat,t.place[i]? ≠some (way t.mask h N).j)/\∀ m,m < N->∃ i:Nat,t.place[i]? =some (way t.mask h m).j)\/∀ m,m < d->∃ i:Nat,t.place[i]? =some (way t.mask h m).j:=fun d=>by
  induction d with
  | zero=>exact fun _=> .inr fun m hm=>by(clear en hn J hk hf;omega)
  | succ d ih=>
   intro hd
   rcases ih (by(clear en hn J hk hf;omega)) with ⟨N,h1,h2,U⟩ | q
   ·exact .inl ⟨N,by(clear hd en hn J hk hf;omega),h2,U⟩
   ·by_cases z:∃ i:Nat,t.place[i]? =some (way t.mask h d).j
    ·refine .inr fun m hm=>?_
     by_cases e:m=d
     ·rw [e];exact z
     ·exact q m (by(clear hd en hn J hk hf;omega))
    ·exact .inl ⟨d,by(clear z hd en hn J hk hf;omega),fun i e=>z ⟨i,e⟩,q⟩
 rcases key n (Nat.le_refl _) with ⟨N,h1,h2,U⟩ | q
 ·exact⟨N,by(clear en J hk hf;omega),h2,U⟩
 ·exact⟨n,hn,fun i e=>he i (by rw [en] at e;exact e),q⟩
theorem qB{t:SetTable}{hashAt:Nat->Int}{h:Int}:∀(fuel s N:Nat),s<=N->N < s + fuel->(∀ m,s<=m->m < N->∃ i,t.slot (way t.mask h m).j= .live i/\(hashAt i == h)=false)->
  (t.slot (way t.mask h N).j= .empty->probe.go t hashAt h fuel (way t.mask h s)=some (.empty (way t.mask h N).j none))/\
  ∀ i,t.slot (way t.mask h N).j= .live i->(hashAt i == h)=true->probe.go t hashAt h fuel (way t.mask h s)=some (.candidate (way t.mask h N).j i (way t.mask h (N + 1)))
 | 0,s,N,h1,h2,_=>by omega
 | fuel + 1,s,N,h1,h2,hm=>by
  by_cases e:s=N
  ·subst e
   refine⟨fun he=>?_,fun i he hi=>?_⟩
   ·unfold probe.go
    rw [he]
    dsimp only
    rw [qX]
   ·unfold probe.go
    rw [he]
    dsimp only
    rw [if_pos hi]
    rfl
  ·obtain⟨i,J,U⟩:=hm s (Nat.le_refl _) (by(clear h2;omega))
   have st:probe.go t hashAt h (fuel + 1) (way t.mask h s)=probe.go t hashAt h fuel (way t.mask h (s + 1)):=by
    show(match t.slot (way t.mask h s).j with | .empty=>_ | .dummy=>_ | .live i=>_)=_
    rw [J]
    dsimp only
    rw [if_neg (by rw [U];decide)]
    rfl
   rw [st]
   exact qB fuel (s + 1) N (by(clear h2;omega)) (by omega) fun m a b=>hm m (by omega) b
theorem TI.put {t:SetTable}{hs:List Int}(T:TI t hs){h:Int}{N:Nat}(he:∀ i:Nat,t.place[i]? ≠some (way t.mask h N).j)(hl:∀ m,m < N->∃ i:Nat,t.place[i]? =some (way t.mask h m).j)(hj:(way t.mask h N).j<=t.mask):
  TI (t.put (way t.mask h N).j).1 (hs.take (below t.place (way t.mask h N).j)++h::hs.drop (below t.place (way t.mask h N).j))/\(t.put (way t.mask h N).j).2=below t.place (way t.mask h N).j/\below t.place (way t.mask h N).j<=t.place.size:=by
 obtain⟨b0,b1,b2⟩:=mW (j:=(way t.mask h N).j) T.ris
 generalize hp:below t.place (way t.mask h N).j=p at b0 b1 b2
 have aa:(t.put (way t.mask h N).j).1.place=insertAt t.place p (way t.mask h N).j:=by rw [<-hp];rfl
 have J:(t.put (way t.mask h N).j).1.mask=t.mask:=rfl
 have U:p<=hs.length:=by rw [<-T.sz];exact b0
 have gh:∀ i:Nat,(hs.take p++h::hs.drop p)[i]? =if i < p then hs[i]? else if i=p then some h else hs[i - 1]? :=fun i=>by
  have l:(hs.take p).length=p:=by rw [List.length_take];(clear J b0 hp hj;omega)
  by_cases h1:i < p
  ·rw [if_pos h1,List.getElem?_append_left (by(clear U J b0 hp hj;omega)),List.getElem?_take,if_pos h1]
  ·rw [if_neg h1,List.getElem?_append_right (by(clear U J b0 hp hj;omega)),l]
   by_cases h2:i=p
   ·rw [if_pos h2,h2,Nat.sub_self];rfl
   ·rw [if_neg h2]
    obtain⟨n,hn⟩:∃ n,i - p=n + 1:=⟨i - p - 1,by(clear l U J b0 hp hj;omega)⟩
    rw [hn,List.getElem?_cons_succ,List.getElem?_drop]
    congr 1
    (clear h2 h1 l U J b0 hp hj;omega)
 have up:∀(i j:Nat),t.place[i]? =some j->∃ i':Nat,(insertAt t.place p (way t.mask h N).j)[i']? =some j:=fun i j e=>by
  by_cases h1:i < p
  ·exact⟨i,by rw [get_ins b0,if_pos h1];exact e⟩
  ·exact⟨i + 1,by rw [get_ins b0,if_neg (by(clear e U J b0 hp hj;omega)),if_neg (by omega)];simpa using e⟩
 refine⟨⟨T.k,?_,?_,?_,?_,?_⟩,hp,b0⟩
 ·show(if has t.dummies (way t.mask h N).j then _ else t.dummies)=#[]
  rw [vq T.dm]
  exact T.dm
 ·rw [aa]
  intro i j a b ae ea eb
  rw [get_ins b0] at ea eb
  by_cases i1:i < p
  ·rw [if_pos i1] at ea
   by_cases j1:j < p
   ·rw [if_pos j1] at eb
    exact T.ris i j a b ae ea eb
   ·rw [if_neg j1] at eb
    by_cases j2:j=p
    ·rw [if_pos j2] at eb
     have:=b1 i a i1 ea
     have:=Option.some.inj eb
     (clear j2 j1 i1 ea ae U J b0 hp hj;omega)
    ·rw [if_neg j2] at eb
     exact T.ris i (j - 1) a b (by(clear eb ea ae U J b0 hp hj;omega)) ea eb
  ·rw [if_neg i1] at ea
   rw [if_neg (show ¬ j < p by(clear eb ea U J b0 hp hj;omega)),if_neg (show ¬ j=p by omega)] at eb
   by_cases i2:i=p
   ·rw [if_pos i2] at ea
    have h1:=b2 (j - 1) b (by(clear i1 eb U J b0 hp hj;omega)) eb
    have h2:b≠(way t.mask h N).j:=fun z=>he (j - 1) (by rw [eb,z])
    have:=Option.some.inj ea
    (clear i2 i1 eb ae U J b0 hp hj;omega)
   ·rw [if_neg i2] at ea
    exact T.ris (i - 1) (j - 1) a b (by(clear eb ea U J b0 hp hj;omega)) ea eb
 ·rw [aa]
  intro i j e
  rw [get_ins b0] at e
  by_cases i1:i < p
  ·rw [if_pos i1] at e;exact T.le i j e
  ·rw [if_neg i1] at e
   by_cases i2:i=p
   ·rw [if_pos i2] at e
    have:=Option.some.inj e
    show j<=t.mask
    (clear i2 i1 U J b0 hp;omega)
   ·rw [if_neg i2] at e;exact T.le _ j e
 ·rw [aa]
  have:(insertAt t.place p (way t.mask h N).j).size=t.place.size + 1:=by
   rw [<-Array.length_toList,toList_insertAt,List.length_append,List.length_cons,List.length_take,List.length_drop,Array.length_toList]
   (clear U J b0 hp hj;omega)
  rw [this,T.sz,List.length_append,List.length_cons,List.length_take,List.length_drop]
  (clear U J b0 hp hj;omega)
 ·rw [aa]
  intro i h' j eh ej
  rw [gh] at eh
  rw [get_ins b0] at ej
  show ∃ n,(way t.mask h' n).j=j/\_
  by_cases i1:i < p
  ·rw [if_pos i1] at eh ej
   obtain⟨n,e1,e2⟩:=T.rch i h' j eh ej
   exact⟨n,e1,fun m hm=>let ⟨i',e⟩:=e2 m hm;up i' _ e⟩
  ·rw [if_neg i1] at eh ej
   by_cases i2:i=p
   ·rw [if_pos i2] at eh ej
    have:=Option.some.inj eh
    subst this
    exact⟨N,Option.some.inj ej,fun m hm=>let ⟨i',e⟩:=hl m hm;up i' _ e⟩
   ·rw [if_neg i2] at eh ej
    obtain⟨n,e1,e2⟩:=T.rch _ h' j eh ej
    exact⟨n,e1,fun m hm=>let ⟨i',e⟩:=e2 m hm;up i' _ e⟩
theorem qf(m:Nat)(h:Int):∀ n,(way m h n).j + (way m h n).more<=m
 | 0=>by
  show bits h % (m + 1) + (runEnd m (bits h % (m + 1)) - bits h % (m + 1))<=m
  have:=Nat.mod_lt (bits h) (show 0 < m + 1 by omega)
  unfold runEnd
  split<;>omega
 | n + 1=>by
  have J:=qf m h n
  show(gD m (way m h n)).j + (gD m (way m h n)).more<=m
  unfold gD
  split
  ·dsimp only;omega
  ·dsimp only
   have:=Nat.mod_lt ((way m h n).i * 5 + 1 + (way m h n).perturb / 32) (show 0 < m + 1 by(clear J;omega))
   show(leap m (way m h n).i (way m h n).perturb).1 + (runEnd m (leap m (way m h n).i (way m h n).perturb).1 - (leap m (way m h n).i (way m h n).perturb).1)<=m
   have e:(leap m (way m h n).i (way m h n).perturb).1=((way m h n).i * 5 + 1 + (way m h n).perturb / 32) % (m + 1):=rfl
   rw [e]
   unfold runEnd
   split<;>(clear e J;omega)
theorem yr(f m:Nat)(l:Bool):TI (fresh f m l) []:=⟨⟨3,by decide,by decide,rfl⟩,rfl,fun i j a b _ e=>by simp [fresh] at e,fun i j e=>by simp [fresh] at e,rfl,fun i h j e=>by simp at e⟩
noncomputable def mF(m:Nat)(h:Int)(b:Nat):Probe:={j:=(lp m h b).1,more:=runEnd m (lp m h b).1 - (lp m h b).1,i:=(lp m h b).1,perturb:=(lp m h b).2,dummy:=none}
theorem B6{m:Nat}{h:Int}{b n:Nat}(e:way m h n=mF m h b):way m h (n + (runEnd m (lp m h b).1 - (lp m h b).1) + 1)=mF m h (b + 1):=by
 show gD m (way m h (n + (runEnd m (lp m h b).1 - (lp m h b).1)))=_
 rw [nN (n:=n) _ (by rw [e];exact Nat.le_refl _),e]
 unfold gD mF
 rw [if_neg (by simp)]
 rfl
theorem B2(m i:Nat):i<=runEnd m i:=by unfold runEnd;split<;>omega
noncomputable abbrev js(owner:Array (Option Nat))(j:Nat):Prop:=∃ i,owner[j]? =some (some i)
theorem tZ{m:Nat}{owner:Array (Option Nat)}{h:Int}(hsz:owner.size=m + 1):∀(fuel b n:Nat),way m h n=mF m h b->(∀ q,q < n->js owner (way m h q).j)->(∃ b',b<=b'/\b' < b + fuel/\owner[(lp m h b').1]? =some none)->
  ∃ N,layClean.free m owner fuel (lp m h b).1 (lp m h b).2=some (way m h N).j/\owner[(way m h N).j]? =some none/\∀ q,q < N->js owner (way m h q).j
 | 0,b,n,_,_,⟨b',h1,h2,_⟩=>by(clear hsz;omega)
 | fuel + 1,b,n,e,hq,⟨b',h1,h2,U⟩=>by
  have run:∀ k,k<=runEnd m (lp m h b).1 - (lp m h b).1->(way m h (n + k)).j=(lp m h b).1 + k:=fun k hk=>by
   rw [nN (n:=n) k (by rw [e];exact hk),e]
   rfl
  have wl:∀ k,k<=runEnd m (lp m h b).1 - (lp m h b).1->(lp m h b).1 + k<=m:=fun k hk=>by
   have:=qf m h (n + k)
   rw [run k hk] at this
   (clear hk U h2 h1 hsz;omega)
  have cell:∀ k,k<=runEnd m (lp m h b).1 - (lp m h b).1->(owner.getD ((lp m h b).1 + k) (some 0)).isNone=false->js owner ((lp m h b).1 + k):=fun k hk hn=>by
   have hb:=wl k hk
   have eg:owner[(lp m h b).1 + k]? =some (owner.getD ((lp m h b).1 + k) (some 0)):=by
    rw [Array.getD_eq_getD_getElem?,Array.getElem?_eq_getElem (by(clear hk U h2 h1;omega))]
    rfl
   cases z:owner.getD ((lp m h b).1 + k) (some 0) with
   | none=>rw [z] at hn;cases hn
   | some i=>exact⟨i,by rw [eg,z]⟩
  have re:=B2 m (lp m h b).1
  unfold layClean.free
  cases hf:(List.range (runEnd m (lp m h b).1 + 1 - (lp m h b).1)).find? (fun k=>(owner.getD ((lp m h b).1 + k) (some 0)).isNone) with
  | some k=>
   obtain⟨p1,p2,p3⟩:=List.find?_range_eq_some.mp hf
   have hk:k<=runEnd m (lp m h b).1 - (lp m h b).1:=by have:=List.mem_range.mp p2;(clear re U h2 h1 hsz;omega)
   refine⟨n + k,by rw [run k hk],?_,fun q aa=>?_⟩
   ·rw [run k hk]
    have hb:=wl k hk
    rw [Array.getElem?_eq_getElem (by(clear hk re U h2 h1;omega))]
    rw [Array.getD_eq_getD_getElem?,Array.getElem?_eq_getElem (by(clear hk p1 re U h2 h1;omega))] at p1
    simp only [Option.getD_some] at p1
    rw [Option.isNone_iff_eq_none.mp p1]
   ·by_cases J:q < n
    ·exact hq q J
    ·obtain⟨d,rfl⟩:∃ d,q=n + d:=⟨q - n,by(clear aa hk re U h2 h1 hsz;omega)⟩
     rw [run d (by(clear J re U h2 h1 hsz;omega))]
     refine cell d (by(clear J re U h2 h1 hsz;omega)) ?_
     have:=p3 d (by(clear J hk re U h2 h1 hsz;omega))
     simpa using this
  | none=>
   have all:∀ k,k<=runEnd m (lp m h b).1 - (lp m h b).1->js owner ((lp m h b).1 + k):=fun k hk=>by
    refine cell k hk ?_
    have:=List.find?_eq_none.mp hf k (List.mem_range.mpr (by(clear U h2 h1 hsz;omega)))
    exact Bool.eq_false_iff.mpr this
   have ae:b'≠b:=fun z=>by
    subst z
    obtain⟨i,ei⟩:=all 0 (Nat.zero_le _)
    rw [Nat.add_zero,U] at ei
    cases ei
   exact tZ hsz fuel (b + 1) _ (B6 e) (fun q aa=>by
    by_cases J:q < n
    ·exact hq q J
    ·obtain⟨d,rfl⟩:∃ d,q=n + d:=⟨q - n,by(clear aa ae re U h2 h1 hsz;omega)⟩
     rw [run d (by(clear J ae re U h2 h1 hsz;omega))]
     exact all d (by(clear J ae re U h2 h1 hsz;omega))) ⟨b',by omega,by omega,U⟩
structure LI (m : Nat) (hs : List Int) (owner : Array (Option Nat)) (k : Nat) : Prop where
 sz : owner.size = m + 1
 cnt : owner.toList.countP (·.isNone) + k = m + 1
 lt : ∀ (j i : Nat), owner[j]? = some (some i) -> i < k
 ex : ∀ i, i < k -> ∃ j : Nat, owner[j]? = some (some i)
 inj : ∀ (j j' i : Nat), owner[j]? = some (some i) -> owner[j']? = some (some i) -> j = j'
 rch : ∀ (j i : Nat) (h : Int), owner[j]? = some (some i) -> hs[i]? = some h -> ∃ n, (way m h n).j = j /\ ∀ q, q < n -> js owner (way m h q).j
theorem LI.step {m k e:Nat}{hs:List Int}{owner:Array (Option Nat)}{h:Int}(L:LI m hs owner k)(he:m + 1=2 ^ e)(hk:k<=m)(hh:hs[k]? =some h):
  ∃ j,layClean.free m owner (turns m) (bits h % (m + 1)) (bits h)=some j/\LI m hs (owner.setIfInBounds j (some k)) (k + 1):=by
 have c:=L.cnt
 have pos:0 < owner.toList.countP (·.isNone):=by(clear hh he;omega)
 obtain⟨x,hx,hn⟩:=List.countP_pos_iff.mp pos
 obtain⟨j0,U,aa⟩:=List.getElem_of_mem hx
 have e0:owner[j0]? =some none:=by
  rw [<-Array.getElem?_toList,List.getElem?_eq_getElem U,aa,Option.isNone_iff_eq_none.mp hn]
 have J:j0 < m + 1:=by rw [Array.length_toList,L.sz] at U;exact U
 obtain⟨b,hb,eb⟩:=qv e (lp m h 13).1 j0 (by(clear e0 aa U pos c hh hk;omega))
 have ae:(lp m h (13 + b)).1=j0:=by rw [qO,he,eb]
 obtain⟨N,f1,f2,f3⟩:=tZ (h:=h) L.sz (turns m) 0 0 rfl (fun q hq=>by(clear ae eb hb J e0 aa U pos c hh hk he;omega)) ⟨13 + b,by omega,by unfold turns;omega,by rw [ae];exact e0⟩
 have hN:(way m h N).j < owner.size:=(Array.getElem?_eq_some_iff.mp f2).1
 refine⟨(way m h N).j,f1,?_⟩
 generalize hj:(way m h N).j=j at f1 f2 hN
 have get:∀ q:Nat,(owner.setIfInBounds j (some k))[q]? =if j=q then some (some k) else owner[q]? :=fun q=>by
  rw [Array.getElem?_setIfInBounds]
  by_cases z:j=q
  ·rw [if_pos z,if_pos z,if_pos (z ▸ hN)]
  ·rw [if_neg z,if_neg z]
 have af:∀ q,js owner q->js (owner.setIfInBounds j (some k)) q:=fun q ⟨i,ei⟩=>by
  by_cases z:j=q
  ·exact⟨k,by rw [get,if_pos z]⟩
  ·exact⟨i,by rw [get,if_neg z];exact ei⟩
 refine⟨by rw [Array.size_setIfInBounds];exact L.sz,?_,fun q i eq=>?_,fun i hi=>?_,fun q q' i e1 e2=>?_,fun q i h' e1 e2=>?_⟩
 ·rw [Array.toList_setIfInBounds,List.countP_set (by rw [Array.length_toList];exact hN)]
  have:(owner.toList[j]'(by rw [Array.length_toList];exact hN))=none:=by
   have:=f2
   rw [<-Array.getElem?_toList,List.getElem?_eq_getElem (by rw [Array.length_toList];exact hN)] at this
   exact Option.some.inj this
  rw [this]
  have z1:(if (none:Option Nat).isNone=true then 1 else 0)=1:=rfl
  have z2:(if (some k:Option Nat).isNone=true then 1 else 0)=0:=rfl
  rw [z1,z2]
  (clear z2 z1 f2 hj ae eb hb J e0 aa U hh hk he;omega)
 ·rw [get] at eq
  by_cases z:j=q
  ·rw [if_pos z] at eq
   cases eq
   (clear z hN f2 hj ae eb hb J e0 aa U pos c hh hk he;omega)
  ·rw [if_neg z] at eq
   have:=L.lt q i eq
   (clear z eq hN f2 hj ae eb hb J e0 aa U pos c hh hk he;omega)
 ·by_cases z:i=k
  ·exact⟨j,by rw [get,if_pos rfl,z]⟩
  ·obtain⟨q,eq⟩:=L.ex i (by(clear hN f2 hj ae eb hb J e0 aa U pos c hh hk he;omega))
   refine⟨q,?_⟩
   rw [get,if_neg (fun z'=>by rw [<-z',f2] at eq;cases eq)]
   exact eq
 ·rw [get] at e1 e2
  by_cases z1:j=q<;>by_cases z2:j=q'
  ·(clear e2 e1 hN f2 hj ae eb hb J e0 aa U pos c hh hk he;omega)
  ·rw [if_pos z1] at e1
   rw [if_neg z2] at e2
   cases e1
   have:=L.lt q' k e2
   (clear e2 z2 z1 hN f2 hj ae eb hb J e0 aa U pos c hh hk he;omega)
  ·rw [if_neg z1] at e1
   rw [if_pos z2] at e2
   cases e2
   have:=L.lt q k e1
   (clear e1 z2 z1 hN f2 hj ae eb hb J e0 aa U pos c hh hk he;omega)
  ·rw [if_neg z1] at e1
   rw [if_neg z2] at e2
   exact L.inj q q' i e1 e2
 ·rw [get] at e1
  by_cases z:j=q
  ·rw [if_pos z] at e1
   cases e1
   have:h'=h:=Option.some.inj (e2.symm.trans hh)
   subst this
   exact⟨N,hj.trans z,fun d hd=>af _ (f3 d hd)⟩
  ·rw [if_neg z] at e1
   obtain⟨n,a1,a2⟩:=L.rch q i h' e1 e2
   exact⟨n,a1,fun d hd=>af _ (a2 d hd)⟩
theorem rE{m e:Nat}{hs:List Int}(he:m + 1=2 ^ e)(hl:hs.length<=m):∀(l:List Int) (k:Nat) (owner:Array (Option Nat)),hs.drop k=l->k<=hs.length->LI m hs owner k->
  ∃ owner',(l.foldl (fun acc h=>do
   let (owner,k)<-acc
   let j<-layClean.free m owner (turns m) (bits h % (m + 1)) (bits h)
   pure (owner.setIfInBounds j (some k),k + 1)) (some (owner,k)))=some (owner',hs.length)/\LI m hs owner' hs.length
 | [],k,owner,hd,hk,L=>by
  have:k=hs.length:=by
   have:=congrArg List.length hd
   rw [List.length_drop] at this
   simp at this
   (clear hl he;omega)
  subst this
  exact⟨owner,rfl,L⟩
 | h::l,k,owner,hd,hk,L=>by
  have J:hs[k]? =some h:=by
   have:=congrArg (fun z=>z[0]?) hd
   simpa using this
  have U:k < hs.length:=(List.getElem?_eq_some_iff.mp J).1
  obtain⟨j,ej,L'⟩:=L.step he (by(clear J hk he;omega)) J
  have aa:hs.drop (k + 1)=l:=by
   rw [<-List.drop_drop,hd]
   rfl
  obtain⟨o',eo,Lo⟩:=rE he hl l (k + 1) _ aa U L'
  refine⟨o',?_,Lo⟩
  rw [List.foldl_cons]
  show l.foldl _ ((layClean.free m owner (turns m) (bits h % (m + 1)) (bits h)).bind fun j=>some (owner.setIfInBounds j (some k),k + 1))=_
  rw [ej]
  exact eo
theorem yM{m e:Nat}{hs:Array Int}(he:m + 1=2 ^ e)(hl:hs.size<=m):∃ owner,layClean m hs=some owner/\LI m hs.toList owner hs.size:=by
 have U:LI m hs.toList (Array.replicate (m + 1) none) 0:=by
  have g:∀ q:Nat,(Array.replicate (m + 1) (none:Option Nat))[q]? ≠some (some 0)/\∀ i,(Array.replicate (m + 1) (none:Option Nat))[q]? ≠some (some i):=fun q=>by
   rw [Array.getElem?_replicate]
   split<;>simp
  refine⟨by simp,by rw [Array.toList_replicate,List.countP_replicate];simp,fun j i ej=>absurd ej ((g j).2 i),fun i hi=>by(clear hl he;omega),fun j j' i J=>absurd J ((g j).2 i),fun j i h J=>absurd J ((g j).2 i)⟩
 obtain⟨o,eo,Lo⟩:=rE he (hs:=hs.toList) (by simpa using hl) hs.toList 0 _ rfl (Nat.zero_le _) U
 refine⟨o,?_,by simpa using Lo⟩
 unfold layClean
 rw [<-Array.foldl_toList,eo]
 rfl
noncomputable def fN(m:Nat)(owner:Array (Option Nat)):List (Nat×Nat):=(List.range (m + 1)).filterMap fun j=>(owner.getD j none).map (j,·)
theorem yy{m:Nat}{owner:Array (Option Nat)}(hz:owner.size=m + 1){j o:Nat}:(j,o)∈fN m owner↔owner[j]? =some (some o):=by
 unfold fN
 rw [List.mem_filterMap]
 constructor
 ·rintro⟨q,U,e⟩
  obtain⟨o',J,e2⟩:=Option.map_eq_some_iff.mp e
  cases e2
  have aa:=List.mem_range.mp U
  rw [Array.getD_eq_getD_getElem?,Array.getElem?_eq_getElem (by omega)] at J
  rw [Array.getElem?_eq_getElem (by omega)]
  exact congrArg some J
 ·intro e
  have hj:=(Array.getElem?_eq_some_iff.mp e).1
  refine⟨j,List.mem_range.mpr (by omega),?_⟩
  rw [Array.getD_eq_getD_getElem?,e]
  rfl
theorem zf(m:Nat)(owner:Array (Option Nat)):(fN m owner).Pairwise fun a b=>a.1 < b.1:=by
 unfold fN
 refine List.pairwise_filterMap.mpr (List.pairwise_lt_range.imp fun{a b} J x U y hy=>?_)
 obtain⟨_,_,rfl⟩:=Option.map_eq_some_iff.mp U
 obtain⟨_,_,rfl⟩:=Option.map_eq_some_iff.mp hy
 exact J
theorem BR{m e f v:Nat}{l p:Bool}{hs:Array Int}(he:m + 1=2 ^ e)(h3:3<=e)(h13:e<=13)(hl:hs.size<=m):
  ∃ t order,laid m f v l p hs=some (t,order)/\order.toList.Perm (List.range hs.size)/\t.mask=m/\t.led=l/\t.plain=p/\t.moves=v/\t.place.size=hs.size/\TI t (order.toList.filterMap fun i=>hs.toList[i]?):=by
 obtain⟨owner,eo,L⟩:=yM he hl
 have mem:=@yy m owner L.sz
 have rise:=zf m owner
 have nd:((fN m owner).map (·.2)).Nodup:=by
  unfold List.Nodup
  rw [List.pairwise_map]
  refine rise.imp_of_mem fun{a b} ha hb ah z=>?_
  have:=L.inj a.1 b.1 a.2 (mem.mp ha) (by have:=mem.mp hb;rw [<-z] at this;exact this)
  omega
 have pm:((fN m owner).map (·.2)).Perm (List.range hs.size):=(List.perm_ext_iff_of_nodup nd List.nodup_range).mpr fun i=>by
  rw [List.mem_range,List.mem_map]
  constructor
  ·rintro⟨⟨j,o⟩,hm,rfl⟩
   exact L.lt j o (mem.mp hm)
  ·intro hi
   obtain⟨j,J⟩:=L.ex i hi
   exact⟨(j,i),mem.mpr J,rfl⟩
 have aa:(fN m owner).length=hs.size:=by
  have:=pm.length_eq
  rw [List.length_map,List.length_range] at this
  exact this
 refine⟨⟨m,((fN m owner).map (·.1)).toArray,#[],f,l,v,p⟩,((fN m owner).map (·.2)).toArray,by unfold laid;rw [eo];rfl,pm,rfl,rfl,rfl,rfl,by show((fN m owner).map (·.1)).toArray.size=hs.size;rw [List.size_toArray,List.length_map,aa],?_⟩
 have gp:∀(i j:Nat),(((fN m owner).map (·.1)).toArray)[i]? =some j->∃ o,(fN m owner)[i]? =some (j,o):=fun i j J=>by
  rw [List.getElem?_toArray,List.getElem?_map] at J
  obtain⟨⟨a,b⟩,h1,h2⟩:=Option.map_eq_some_iff.mp J
  cases h2
  exact⟨b,h1⟩
 have back:∀ j:Nat,js owner j->∃ i:Nat,(((fN m owner).map (·.1)).toArray)[i]? =some j:=fun j ⟨o,af⟩=>by
  obtain⟨i,hi,ei⟩:=List.getElem_of_mem (mem.mpr af)
  exact⟨i,by rw [List.getElem?_toArray,List.getElem?_map,List.getElem?_eq_getElem hi,ei];rfl⟩
 have fm:∀(l:List (Nat×Nat)),(∀ x∈l,x.2 < hs.size)->(l.map (·.2)).filterMap (fun i=>hs.toList[i]?)=l.map fun x=>hs.toList[x.2]?.getD 0:=fun l=>by
  induction l with
  | nil=>intro _;rfl
  | cons x l ih=>
   intro hx
   have h0:=hx x (by simp)
   have e0:hs.toList[x.2]? =some (hs.toList[x.2]'(by simpa using h0)):=List.getElem?_eq_getElem (by simpa using h0)
   rw [List.map_cons,List.filterMap_cons,e0,List.map_cons,ih fun y hy=>hx y (by simp [hy]),e0]
   rfl
 have U:∀ x∈fN m owner,x.2 < hs.size:=fun x hx=>L.lt x.1 x.2 (mem.mp hx)
 refine⟨⟨e,h3,h13,he⟩,rfl,fun i j a b ag ea eb=>?_,fun i j J=>?_,?_,fun i h j eh J=>?_⟩
 ·obtain⟨o1,e1⟩:=gp i a ea
  obtain⟨o2,e2⟩:=gp j b eb
  obtain⟨l1,g1⟩:=List.getElem?_eq_some_iff.mp e1
  obtain⟨l2,g2⟩:=List.getElem?_eq_some_iff.mp e2
  have:=List.pairwise_iff_getElem.mp rise i j l1 l2 ag
  rw [g1,g2] at this
  exact this
 ·obtain⟨o,e1⟩:=gp i j J
  have:=(Array.getElem?_eq_some_iff.mp (mem.mp (List.mem_of_getElem? e1))).1
  show j<=m
  rw [L.sz] at this
  omega
 ·show((fN m owner).map (·.1)).toArray.size=(((fN m owner).map (·.2)).toArray.toList.filterMap fun i=>hs.toList[i]?).length
  rw [List.size_toArray,List.length_map,fm _ U,List.length_map]
 ·obtain⟨o,e1⟩:=gp i j J
  have ae:(((fN m owner).map (·.2)).filterMap fun i=>hs.toList[i]?)[i]? =some h:=eh
  rw [fm _ U,List.getElem?_map,e1] at ae
  have e2:hs.toList[o]? =some h:=by
   have ho:=U _ (List.mem_of_getElem? e1)
   have e0:hs.toList[o]? =some (hs.toList[o]'(by simpa using ho)):=List.getElem?_eq_getElem (by simpa using ho)
   have e3:hs.toList[o]?.getD 0=h:=Option.some.inj ae
   rw [e0] at e3 ⊢
   exact congrArg some e3
  obtain⟨n,a1,a2⟩:=L.rch j o h (mem.mp (List.mem_of_getElem? e1)) e2
  exact⟨n,a1,fun q hq=>back _ (a2 q hq)⟩
theorem tR{n:Nat}(hn:n < 2 ^ 13):∀(fuel a:Nat),a<=13->13 - a < fuel->∃ b,a<=b/\b<=13/\sizeAbove.go n fuel (2 ^ a)=2 ^ b/\n < 2 ^ b
 | 0,a,_,h=>by omega
 | fuel + 1,a,ha,hf=>by
  unfold sizeAbove.go
  by_cases h:2 ^ a<=n
  ·have J:a≠13:=fun z=>by subst z;omega
   obtain⟨b,h1,h2,U,h4⟩:=tR hn fuel (a + 1) (by omega) (by omega)
   refine⟨b,by omega,h2,?_,h4⟩
   rw [if_pos h,<-Nat.pow_succ]
   exact U
  ·exact⟨a,Nat.le_refl _,ha,by rw [if_neg h],by omega⟩
theorem BV{n:Nat}(hn:n < 2 ^ 13):∃ b,3<=b/\b<=13/\sizeAbove n=2 ^ b/\n < 2 ^ b:=tR hn 64 3 (by decide) (by decide)
end PySem.SetTable
namespace PySem
open SetTable
section
variable {prog : Program} {w : World} {K : Type} [DecidableEq K] {knd : KeyKind prog w K} {Z : List Addr} {A : Around} {E : Value -> Shared -> Prop} {s : Shared}
structure fc (knd : KeyKind prog w K) (h : Heap) (Z : List Addr) (es : Array (Int × Value)) (t : SetTable) (qs : List (List K)) : Prop where
 ti : TI t (es.toList.map (·.1))
 sz : es.size < t.mask
 len : qs.length = es.size
 en : ∀ (i : Nat) (e : Int × Value), es[i]? = some e -> ∃ p q, e.2 = .ref p /\ qs[i]? = some q /\ IsTupleKey knd h q p /\ e.1 = tupleKeyHash knd q /\ p ∈ Z
 nd : qs.Nodup
 pl : t.plain = true
theorem cls_val(n:Nat){v:Value}(h:carriedByValue v=true):ofAClassStatement n v=pure false:=by
 cases v with
 | ref a=>simp [carriedByValue] at h
 | _=>first | rfl | simp [ofAClassStatement] | (unfold ofAClassStatement;rfl)
theorem r9{q:List K}{p:Addr}{Q:Bool->Shared->Prop}(hp:IsTupleKey knd s.heap q p)(h:Q false s):wpAny (model prog w) A (ofAClassStatement 8 (.ref p)) Q E s:=by
 have hT:=hp.typeIs
 obtain⟨o,items,n,ho,_,hd,hi⟩:=hp
 unfold ofAClassStatement
 refine wpAny_bind (wpAny_typeOf hT ?_)
 dsimp only
 refine wpAny_bind (wpAny_pure ?_)
 show wpAny _ _ (seqItems? (.ref p) >>= _) _ _ s
 refine wpAny_bind (wpAny_seqItems ho hd ?_)
 dsimp only
 refine wpAny_bind ?_
 show wpAny _ _ (forIn items _ _) _ _ s
 rw [<-Array.forIn_toList]
 refine wpAny_forIn_list _ (fun rest r s'=>r.1=none/\s'=s/\∀ v∈rest,carriedByValue v=true) _ ?_ ?_ _ _ ⟨rfl,rfl,hi.byValue⟩
 ·rintro v rest r s' ⟨U,rfl,J⟩
  rw [cls_val _ (J v List.mem_cons_self)]
  refine wpAny_bind (wpAny_pure ?_)
  simp only [Bool.false_eq_true,if_false]
  exact wpAny_pure ⟨rfl,rfl,fun u aa=>J u (List.mem_cons_of_mem _ aa)⟩
 ·rintro⟨r1,r2⟩ s' ⟨U,rfl,_⟩
  simp only at U
  subst U
  exact wpAny_pure h
theorem AU{P:Value->Prop}(hv:∀(k:K) (v:Value),knd.is k v=true->P v){x:List K}{vs:List Value}(hx:ItemsAre knd x vs):∀ v∈vs,P v:=by
 induction hx with
 | nil=>intro v h;simp at h
 | @cons k U ks vs h1 _ J=>
  intro v h
  rcases List.mem_cons.mp h with rfl | h
  ·exact hv _ _ h1
  ·exact J v h
theorem yk(n:Nat){x:Value}(hx:plainKind x=true):hashByValue n x=pure true:=by
 cases n<;>cases x<;>simp_all [hashByValue,plainKind]
theorem Bh{q:List K}{p:Addr}{Q:Bool->Shared->Prop}(hp:IsTupleKey knd s.heap q p)(hv:∀(k:K) (v:Value),knd.is k v=true->plainKind v=true)(h:Q true s):wpAny (model prog w) A (hashByValue 8 (.ref p)) Q E s:=by
 have hT:=hp.typeIs
 obtain⟨o,items,n,ho,_,hd,hi⟩:=hp
 unfold hashByValue
 refine wpAny_bind (wpAny_specialOf hT F.slot_tuple_hash.lookup ?_)
 refine wpAny_bind (wpAny_seqItems ho hd ?_)
 dsimp only
 refine wpAny_bind ?_
 show wpAny _ _ (forIn items _ _) _ _ s
 rw [<-Array.forIn_toList]
 refine wpAny_forIn_list _ (fun rest r s'=>r.1=none/\s'=s/\∀ v∈rest,plainKind v=true) _ ?_ ?_ _ _ ⟨rfl,rfl,AU hv hi⟩
 ·rintro v rest r s' ⟨U,rfl,J⟩
  rw [yk _ (J v List.mem_cons_self)]
  refine wpAny_bind (wpAny_pure ?_)
  simp only [Bool.not_true,Bool.false_eq_true,if_false]
  exact wpAny_pure ⟨rfl,rfl,fun u aa=>J u (List.mem_cons_of_mem _ aa)⟩
 ·rintro⟨r1,r2⟩ s' ⟨U,rfl,_⟩
  simp only at U
  subst U
  exact wpAny_pure h
theorem xk{q:List K}{px:Addr}{Q:Bool->Shared->Prop}(hx:IsTupleKey knd s.heap q px)(vs:List Value)(hv:∀ v∈vs,∃ p q',v= .ref p/\IsTupleKey knd s.heap q' p)(h:Q false s):wpAny (model prog w) A (searchCouldBeSeen (.ref px) vs) Q E s:=by
 unfold searchCouldBeSeen
 refine wpAny_bind ?_
 refine wpAny_forIn_list _ (fun rest r s'=>r.1=none/\s'=s/\∀ v∈rest,∃ p q',v= .ref p/\IsTupleKey knd s.heap q' p) _ ?_ ?_ _ _ ⟨rfl,rfl,hv⟩
 ·rintro v rest r s' ⟨U,rfl,J⟩
  obtain⟨p,q',rfl,hp⟩:=J v List.mem_cons_self
  have nx:∀ u∈rest,∃ p q',u=Value.ref p/\IsTupleKey knd s'.heap q' p:=fun u aa=>J u (List.mem_cons_of_mem _ aa)
  dsimp only
  split
  ·exact wpAny_pure ⟨rfl,rfl,nx⟩
  ·refine wpAny_bind (wpAny_eqIsQuiet_tuple hx ?_)
   simp only [Bool.not_true,Bool.false_eq_true,if_false]
   refine wpAny_bind (wpAny_eqIsQuiet_tuple hp ?_)
   simp only [Bool.not_true,Bool.false_eq_true,if_false]
   refine wpAny_bind (r9 hx ?_)
   simp only [Bool.false_eq_true,if_false]
   refine wpAny_bind (r9 hp ?_)
   simp only [Bool.false_eq_true,if_false]
   exact wpAny_pure ⟨rfl,rfl,nx⟩
 ·rintro⟨r1,r2⟩ s' ⟨U,rfl,_⟩
  simp only at U
  subst U
  exact wpAny_pure h
theorem vk{P:Nat->Prop}(N:Nat):∀(d n:Nat),n<=N->N - n=d->(∀ m,n<=m->m < N->¬ P m)\/∃ M,n<=M/\M < N/\P M/\∀ m,n<=m->m < M->¬ P m
 | 0,n,h,e=> .inl fun m a b=>by(clear h;omega)
 | d + 1,n,h,e=>by
  by_cases z:P n
  ·exact .inr ⟨n,Nat.le_refl _,by(clear h;omega),z,fun m a b=>by omega⟩
  ·rcases vk N d (n + 1) (by(clear h;omega)) (by omega) with q | ⟨M,a,b,c,f⟩
   ·refine .inl fun m a b=>?_
    by_cases e:m=n
    ·rw [e];exact z
    ·exact q m (by(clear b h;omega)) b
   ·refine .inr ⟨M,by(clear b e h;omega),b,c,fun m U J=>?_⟩
    by_cases e:m=n
    ·rw [e];exact z
    ·exact f m (by(clear J b a h;omega)) J
theorem fc.fits {es:Array (Int×Value)}{t:SetTable}{qs:List (List K)}{h:Heap}(T:fc knd h Z es t qs):t.fits es.size=true:=by
 have h1:=T.ti.sz
 rw [List.length_map,Array.length_toList] at h1
 have h2:=T.sz
 have J:t.fill=t.place.size:=by unfold SetTable.fill;rw [T.ti.dm];rfl
 simp only [SetTable.fits,Bool.and_eq_true,beq_iff_eq,decide_eq_true_eq]
 exact⟨h1,by omega⟩
theorem fc.odd {es:Array (Int×Value)}{t:SetTable}{qs:List (List K)}{h:Heap}(T:fc knd h Z es t qs):t.gaveWay=false:=by
 obtain⟨k,U,_,e⟩:=T.ti.k
 obtain⟨J,rfl⟩:∃ J,k=J + 1:=⟨k - 1,by(clear e;omega)⟩
 rw [Nat.pow_succ] at e
 unfold SetTable.gaveWay
 rw [beq_eq_false_iff_ne]
 (clear U;omega)
theorem fc.mask_le {es:Array (Int×Value)}{t:SetTable}{qs:List (List K)}{h:Heap}(T:fc knd h Z es t qs):t.mask<=8191:=by
 obtain⟨k,U,J,e⟩:=T.ti.k
 have:2 ^ k<=2 ^ 13:=Nat.pow_le_pow_right (by decide) J
 have h4:(2:Nat) ^ 13=8192:=rfl
 (clear h4 J U;omega)
theorem rh{a px:Addr}{o:Obj}{es:Array (Int×Value)}{ep:Nat}{t:SetTable}{qs:List (List K)}{q:List K}{N:Nat}{Q:SetFound->Shared->Prop}(hu:A.units < cLine)
  (ho:s.heap.get? a=some o)(hd:o.data= .set es ep t)(T:fc knd s.heap Z es t qs)(hx:IsTupleKey knd s.heap q px)
  (h1:N < 10 * turns t.mask)(h2:∀ i:Nat,t.place[i]? ≠some (way t.mask (tupleKeyHash knd q) N).j)(h3:∀ m,m < N->∃ i:Nat,t.place[i]? =some (way t.mask (tupleKeyHash knd q) m).j)
  (hy:q∈qs->Q (.there none) s)(hn:q∉qs->Q (.free (way t.mask (tupleKeyHash knd q) N).j false) s):
  ∀(fuel n:Nat) (stand:Option Probe),stand.getD (t.probeStart (tupleKeyHash knd q))=way t.mask (tupleKeyHash knd q) n->n<=N->N - n < fuel->
   (∀ m,m < n->∀ i:Nat,t.place[i]? =some (way t.mask (tupleKeyHash knd q) m).j->qs[i]? ≠some q)->
   wpAny (model prog w) A (setSearchFrom a (.ref px) (tupleKeyHash knd q) true fuel stand) Q E s
 | 0,n,stand,_,_,hf,_=>by(clear h1 hu;omega)
 | fuel + 1,n,stand,hs,hle,hf,inv=>by
  have J:t.place.size=es.size:=by have:=T.ti.sz;rw [List.length_map,Array.length_toList] at this;exact this
  have at_:∀(i j:Nat),t.place[i]? =some j->∃ p U,es[i]? =some (tupleKeyHash knd U,.ref p)/\qs[i]? =some U/\IsTupleKey knd s.heap U p:=fun i j e=>by
   have hi:=(Array.getElem?_eq_some_iff.mp e).1
   obtain⟨p,U,e1,e2,e3,e4,_⟩:=T.en i _ (Array.getElem?_eq_getElem (by(clear e hf hle h1 hu;omega)))
   exact⟨p,U,by rw [Array.getElem?_eq_getElem (by(clear e4 e2 e1 e hf hle h1 hu;omega)),<-e1,<-e4],e2,e3⟩
  unfold setSearchFrom
  refine wpAny_bind (wpAny_setState_of ho hd T.fits ?_)
  dsimp only
  rw [T.odd]
  simp only [Bool.false_eq_true,if_false]
  rw [hs]
  rcases vk (P:=fun m=>∃ i:Nat,t.place[i]? =some (way t.mask (tupleKeyHash knd q) m).j/\((es[i]?.map (·.1)).getD 0 == tupleKeyHash knd q)=true) N _ n hle rfl with no | ⟨M,m1,m2,⟨i,pi,hi⟩,m4⟩
  ·have pg:=(qB (t:=t) (hashAt:=fun i=>(es[i]?.map (·.1)).getD 0) (h:=tupleKeyHash knd q) (10 * turns t.mask) n N hle (by(clear J hf hle hu;omega)) fun m a b=>by
    obtain⟨i,ei⟩:=h3 m b
    refine⟨i,kS T.ti.ris ei,?_⟩
    exact Bool.eq_false_iff.mpr fun z=>no m a b ⟨i,ei,z⟩).1 (zw T.ti.dm h2)
   have ag:q∉qs:=fun hq=>by
    obtain⟨i0,l0,g0⟩:=List.getElem_of_mem hq
    have l1:i0 < t.place.size:=by rw [J,<-T.len];exact l0
    have e0:t.place[i0]? =some t.place[i0]:=Array.getElem?_eq_getElem l1
    obtain⟨p,U,e1,e2,e3⟩:=at_ i0 _ e0
    have ah:U=q:=by
     rw [List.getElem?_eq_getElem l0,g0] at e2
     exact(Option.some.inj e2).symm
    subst ah
    have eh:(es.toList.map (·.1))[i0]? =some (tupleKeyHash knd U):=by rw [List.getElem?_map,Array.getElem?_toList,e1];rfl
    obtain⟨n0,aa,ak⟩:=T.ti.rch i0 _ _ eh e0
    have ln:n0 < N:=by
     rcases Nat.lt_trichotomy n0 N with z | z | z
     ·exact z
     ·rw [z] at aa;exact absurd (by rw [aa];exact e0) (h2 i0)
     ·obtain⟨i',e'⟩:=ak N z;exact absurd e' (h2 i')
    by_cases z:n0 < n
    ·exact inv n0 z i0 (by rw [aa];exact e0) (by rw [List.getElem?_eq_getElem l0,g0])
    ·exact no n0 (by(clear ln aa eh g0 pg e2 e1 e0 l1 l0 J hf hle h1 hu;omega)) ln ⟨i0,by rw [aa];exact e0,by rw [e1];exact beq_self_eq_true _⟩
   have ae:t.probe _ (tupleKeyHash knd q) (way t.mask (tupleKeyHash knd q) n)=some (.empty (way t.mask (tupleKeyHash knd q) N).j none):=pg
   erw [ae]
   exact wpAny_pure (hn ag)
  ·have pg:=(qB (t:=t) (hashAt:=fun i=>(es[i]?.map (·.1)).getD 0) (h:=tupleKeyHash knd q) (10 * turns t.mask) n M m1 (by(clear hi pi m1 J hf hle hu;omega)) fun m a b=>by
    obtain⟨i,ei⟩:=h3 m (by(clear a hi pi m1 J hf hle h1 hu;omega))
    refine⟨i,kS T.ti.ris ei,?_⟩
    exact Bool.eq_false_iff.mpr fun z=>m4 m a b ⟨i,ei,z⟩).2 i (kS T.ti.ris pi) hi
   have ae:t.probe _ (tupleKeyHash knd q) (way t.mask (tupleKeyHash knd q) n)=some (.candidate (way t.mask (tupleKeyHash knd q) M).j i (way t.mask (tupleKeyHash knd q) (M + 1))):=pg
   erw [ae]
   obtain⟨p,U,e1,e2,e3⟩:=at_ i _ pi
   dsimp only
   have rest:wpAny (model prog w) A (do
     let some (_,y):=es[i]? | unsupported "internal:set-entry"
     let equal<-holding [y] (eqBool y (.ref px))
     let (es',_,t')<-setState a
     if true && equal then return .there none
     let some same:=t'.sameMemory t.moves t.mask | unsupported "set.changed-during-lookup:is-the-new-block-at-the-old-address"
     let still<-match (if same then t'.slot (way t.mask (tupleKeyHash knd q) M).j else .empty) with
      | .live i'=>match es'[i']? with
       | some (_,y')=>do pure (if<-isSame y' y then some i' else none)
       | none=>pure none
      | _=>pure none
     match still with
     | none=>rule "set.search.anew";setSearchFrom a (.ref px) (tupleKeyHash knd q) true fuel none
     | some i'=>if equal then return .there (some i') else setSearchFrom a (.ref px) (tupleKeyHash knd q) true fuel (some (way t.mask (tupleKeyHash knd q) (M + 1)))) Q E s:=by
    rw [e1]
    dsimp only
    refine wpAny_bind (wpAny_holding (wpAny_eqBool_tuple hu e3 hx ?_))
    refine wpAny_bind (wpAny_setState_of ho hd T.fits ?_)
    dsimp only
    by_cases z:U=q
    ·rw [decide_eq_true z]
     simp only [Bool.and_self,if_true]
     exact wpAny_pure (hy (by rw [<-z];exact List.mem_of_getElem? e2))
    ·rw [decide_eq_false z]
     simp only [Bool.and_false,Bool.false_eq_true,if_false]
     have sm:t.sameMemory t.moves t.mask=some true:=by unfold SetTable.sameMemory;rw [if_pos (beq_self_eq_true _)]
     rw [sm]
     dsimp only
     rw [if_pos rfl,kS T.ti.ris pi]
     dsimp only
     rw [e1]
     dsimp only
     refine wpAny_bind (wpAny_isSame_ref_self (wpAny_bind (wpAny_pure ?_)))
     simp only [if_true]
     refine rh hu ho hd T hx h1 h2 h3 hy hn fuel (M + 1) _ rfl (by(clear e2 e1 ae pg hi pi m1 J hf hle h1 hu;omega)) (by omega) fun m hm i' af z'=>?_
     by_cases a1:m < n
     ·exact inv m a1 i' af z'
     ·by_cases a2:m=M
      ·subst a2
       have:i'=i:=by
        have s1:=kS T.ti.ris af
        rw [kS T.ti.ris pi] at s1
        injection s1 with s2
        exact s2.symm
       subst this
       rw [e2] at z'
       exact z (Option.some.inj z')
      ·obtain⟨p2,q2,f1,f2,f3⟩:=at_ i' _ af
       rw [f2] at z'
       have:=Option.some.inj z'
       subst this
       exact m4 m (by(clear af ae pg hi pi f2 f1 a2 hm e2 e1 m2 m1 J hf hle h1 hu;omega)) (by omega) ⟨i',af,by rw [f1];exact beq_self_eq_true _⟩
   by_cases l:t.led=true
   ·rw [l]
    exact wpAny_bind (wpAny_pure rest)
   ·rw [Bool.not_eq_true] at l
    rw [l]
    simp only [Bool.not_false,if_true]
    refine wpAny_bind (xk hx _ ?_ ?_)
    ·intro v hv
     obtain⟨e,he,rfl⟩:=List.mem_map.mp hv
     have ao:e∈es:=(Array.mem_filter.mp (Array.mem_toList_iff.mp he)).1
     obtain⟨k,hk,ek⟩:=Array.getElem_of_mem ao
     obtain⟨p,U,f1,_,f3,_⟩:=T.en k e (by rw [Array.getElem?_eq_getElem hk,ek])
     exact⟨p,U,f1,f3⟩
    ·exact rest
end
theorem jq{α:Type}{l:List α}{p:Nat}{x:α}(hp:p<=l.length)(i:Nat):(l.take p++x::l.drop p)[i]? =if i < p then l[i]? else if i=p then some x else l[i - 1]? :=by
 have e:(l.take p).length=p:=by rw [List.length_take];omega
 by_cases h1:i < p
 ·rw [if_pos h1,List.getElem?_append_left (by(clear hp;omega)),List.getElem?_take,if_pos h1]
 ·rw [if_neg h1,List.getElem?_append_right (by(clear hp;omega)),e]
  by_cases h2:i=p
  ·rw [if_pos h2,h2,Nat.sub_self];rfl
  ·rw [if_neg h2]
   obtain⟨n,hn⟩:∃ n,i - p=n + 1:=⟨i - p - 1,by(clear e hp;omega)⟩
   rw [hn,List.getElem?_cons_succ,List.getElem?_drop]
   congr 1
   (clear h2 h1 e hp;omega)
theorem ng{α:Type}{xs:List α}:∀(l:List Nat),(∀ i∈l,i < xs.length)->∀ i:Nat,(l.filterMap (xs[·]?))[i]? =l[i]?.bind (xs[·]?)
 | [],_,i=>rfl
 | a::l,h,i=>by
  have e:xs[a]? =some (xs[a]'(h a (by simp))):=List.getElem?_eq_getElem _
  rw [List.filterMap_cons,e]
  dsimp only
  cases i with
  | zero=>rw [List.getElem?_cons_zero,List.getElem?_cons_zero,Option.bind_some,e]
  | succ i=>rw [List.getElem?_cons_succ,List.getElem?_cons_succ];exact ng l (fun i hi=>h i (by simp [hi])) i
theorem tN{α:Type}(xs:List α):(List.range xs.length).filterMap (xs[·]?)=xs:=by
 refine List.ext_getElem? fun i=>?_
 rw [ng _ (fun i hi=>List.mem_range.mp hi)]
 by_cases h:i < xs.length
 ·rw [List.getElem?_range h];rfl
 ·rw [List.getElem?_eq_none (by rw [List.length_range];omega),List.getElem?_eq_none (by omega)];rfl
section
variable {prog : Program} {w : World} {K : Type} [DecidableEq K] {knd : KeyKind prog w K} {Z : List Addr} {A : Around} {E : Value -> Shared -> Prop} {s : Shared}
theorem oK{h h':Heap}{q:List K}{p a:Addr}{o:Obj}{es ep t}(x:IsTupleKey knd h q p)(ho:h.get? a=some o)(hd:o.data= .set es ep t)(hs:Heap.SameBut a h h'):IsTupleKey knd h' q p:=by
 obtain⟨o',items,n,U,hc,J,hi⟩:=x
 have aa:p≠a:=by
  rintro rfl
  obtain rfl:o'=o:=Option.some.inj (U.symm.trans ho)
  rw [hd] at J;exact nomatch J
 exact⟨o',items,n,(hs.2 p aa).trans U,hc,J,hi⟩
noncomputable def hJ(knd:KeyKind prog w K)(h:Heap)(a:Addr)(Z:List Addr)(led:Bool)(S:List (List K)):Prop:=
 ∃ o es ep t qs,h.get? a=some o/\o.ExactSet/\o.data= .set es ep t/\fc knd h Z es t qs/\es.size * 5 < t.mask * 3/\t.led=led/\qs.Perm S
theorem rL{h:Heap}{a:Addr}{o:Obj}{es:Array (Int×Value)}{ep:Nat}{t:SetTable}(ho:h.get? a=some o)(hd:o.data= .set es ep t)(es':Array (Int×Value))(t':SetTable):
  (h.update a (Obj.putSet es' t')).get? a=some {o with data:= .set es' (ep + 1) t'}:=by
 have:=Heap.get?_update_self (Obj.putSet es' t') ho (by rw [putSet_of es' t' hd];rfl)
 rw [putSet_of es' t' hd] at this;exact this
theorem fc.keep {h h':Heap}{es:Array (Int×Value)}{t:SetTable}{qs:List (List K)}(T:fc knd h Z es t qs)(k:∀ q p,IsTupleKey knd h q p->IsTupleKey knd h' q p):fc knd h' Z es t qs:=
 ⟨T.ti,T.sz,T.len,fun i e hi=>let ⟨p,q,a,b,c,d⟩:=T.en i e hi;⟨p,q,a,b,k _ _ c,d⟩,T.nd,T.pl⟩
theorem fc.ins {h:Heap}{es:Array (Int×Value)}{t:SetTable}{qs:List (List K)}{q:List K}{px:Addr}{N:Nat}(T:fc knd h Z es t qs)(hx:IsTupleKey knd h q px)(hxZ:px∈Z)(hq:q∉qs)(hz:es.size + 1 < t.mask)
  (h2:∀ i:Nat,t.place[i]? ≠some (way t.mask (tupleKeyHash knd q) N).j)(h3:∀ m,m < N->∃ i:Nat,t.place[i]? =some (way t.mask (tupleKeyHash knd q) m).j):
  ∃ qs',fc knd h Z (insertAt es (t.put (way t.mask (tupleKeyHash knd q) N).j).2 (tupleKeyHash knd q,.ref px)) (t.put (way t.mask (tupleKeyHash knd q) N).j).1 qs'/\qs'.Perm (qs++[q])/\(insertAt es (t.put (way t.mask (tupleKeyHash knd q) N).j).2 (tupleKeyHash knd q,.ref px)).size=es.size + 1:=by
 have J:t.place.size=es.size:=by have:=T.ti.sz;rw [List.length_map,Array.length_toList] at this;exact this
 obtain⟨T1,U,b2⟩:=T.ti.put h2 h3 (by have:=qf t.mask (tupleKeyHash knd q) N;(clear J hz;omega))
 generalize hp:below t.place (way t.mask (tupleKeyHash knd q) N).j=p at T1 U b2
 rw [U]
 have pe:p<=es.size:=by(clear U hp hz;omega)
 have pq:p<=qs.length:=by rw [T.len];exact pe
 have aa:=fun i=>get_ins (x:=(tupleKeyHash knd q,Value.ref px)) pe i
 have ae:=fun i=>jq (x:=q) pq i
 have lq:(qs.take p++q::qs.drop p).length=qs.length + 1:=by rw [List.length_append,List.length_cons,List.length_take,List.length_drop];(clear pq pe b2 U hp J hz;omega)
 have le:(insertAt es p (tupleKeyHash knd q,Value.ref px)).size=es.size + 1:=by
  have l1:(insertAt es p (tupleKeyHash knd q,Value.ref px))[es.size]? ≠none:=by
   rw [aa]
   split
   ·(clear lq pq b2 U hp J hz;omega)
   ·split
    ·exact fun z=>nomatch z
    ·rw [Array.getElem?_eq_getElem (by(clear lq pq pe b2 U hp J hz;omega))];exact fun z=>nomatch z
  have l2:(insertAt es p (tupleKeyHash knd q,Value.ref px))[es.size + 1]? =none:=by
   rw [aa,if_neg (by(clear l1 lq pq b2 U hp J hz;omega)),if_neg (by omega)]
   exact Array.getElem?_eq_none (by(clear l1 lq pq pe b2 U hp J hz;omega))
  have a1:es.size < (insertAt es p (tupleKeyHash knd q,Value.ref px)).size:=by
   by_cases z:es.size < (insertAt es p (tupleKeyHash knd q,Value.ref px)).size
   ·exact z
   ·exact absurd (Array.getElem?_eq_none (by(clear l2 l1 lq pq pe b2 U hp J hz;omega))) l1
  have a2:=Array.getElem?_eq_none_iff.mp l2
  (clear l2 l1 lq pq pe b2 U hp J hz;omega)
 refine⟨qs.take p++q::qs.drop p,⟨?_,by rw [le];exact hz,by rw [lq,T.len,le],fun i e hi=>?_,?_,T.pl⟩,?_,le⟩
 ·have:(insertAt es p (tupleKeyHash knd q,Value.ref px)).toList.map (·.1)=(es.toList.map (·.1)).take p++tupleKeyHash knd q::(es.toList.map (·.1)).drop p:=by
   refine List.ext_getElem? fun i=>?_
   rw [List.getElem?_map,Array.getElem?_toList,aa,jq (by rw [List.length_map,Array.length_toList];exact pe),List.getElem?_map,List.getElem?_map,Array.getElem?_toList,Array.getElem?_toList]
   split
   ·rfl
   ·split<;>rfl
  rw [this]
  exact T1
 ·rw [aa] at hi
  rw [ae]
  by_cases c1:i < p
  ·rw [if_pos c1] at hi ⊢;exact T.en i e hi
  ·rw [if_neg c1] at hi ⊢
   by_cases c2:i=p
   ·rw [if_pos c2] at hi ⊢
    have:=Option.some.inj hi
    subst this
    exact⟨px,q,rfl,rfl,hx,rfl,hxZ⟩
   ·rw [if_neg c2] at hi ⊢;exact T.en _ e hi
 ·have pm:(qs.take p++q::qs.drop p).Perm (q::qs):=by
   have:=List.perm_middle (a:=q) (l₁:=qs.take p) (l₂:=qs.drop p)
   rw [List.take_append_drop] at this
   exact this
  exact pm.nodup_iff.mpr (List.nodup_cons.mpr ⟨hq,T.nd⟩)
 ·have pm:(qs.take p++q::qs.drop p).Perm (q::qs):=by
   have:=List.perm_middle (a:=q) (l₁:=qs.take p) (l₂:=qs.drop p)
   rw [List.take_append_drop] at this
   exact this
  exact pm.trans (List.perm_append_comm (l₁:=[q]) (l₂:=qs))
theorem fc.anew {h:Heap}{es:Array (Int×Value)}{t:SetTable}{qs:List (List K)}(T:fc knd h Z es t qs)(h0:0 < es.size)(hz:4 * es.size < 2 ^ 13):
  ∃ t' order qs',t.relaid (es.map (·.1)) (grown es.size)=some (t',order)/\fc knd h Z (order.filterMap (es[·]?)) t' qs'/\(order.filterMap (es[·]?)).size=es.size/\es.size * 5 < t'.mask * 3/\t'.led=t.led/\qs'.Perm qs/\sizeAbove (grown es.size)<=8192:=by
 have eg:grown es.size=4 * es.size:=by
  have U:(2:Nat) ^ 13=8192:=rfl
  unfold grown
  rw [if_neg (by(clear U h0;omega))]
  (clear U hz h0;omega)
 rw [eg]
 obtain⟨b,b3,J,eb,lb⟩:=BV hz
 have hm:(2 ^ b - 1) + 1=2 ^ b:=by(clear eb J b3 eg hz h0;omega)
 obtain⟨t',order,e1,e2,e3,e4,e5,e6,e7,e8⟩:=BR (f:=t.finger) (v:=t.movedTo (sizeAbove (4 * es.size) - 1)) (l:=t.led) (p:=t.plain) (hs:=es.map (·.1)) hm b3 J (by rw [Array.size_map];(clear hm eb J b3 eg hz h0;omega))
 rw [Array.size_map] at e2 e7
 have lt:∀ i∈order.toList,i < es.size:=fun i hi=>List.mem_range.mp (e2.mem_iff.mp hi)
 have tl:(order.filterMap (es[·]?)).toList=order.toList.filterMap (es.toList[·]?):=by
  rw [Array.toList_filterMap]
  congr 1
  funext i
  rw [Array.getElem?_toList]
 have ge:∀ i:Nat,(order.filterMap (es[·]?))[i]? =order.toList[i]?.bind (es.toList[·]?):=fun i=>by
  rw [<-Array.getElem?_toList,tl,ng _ (by rw [Array.length_toList];exact lt)]
 have gq:∀ i:Nat,(order.toList.filterMap (qs[·]?))[i]? =order.toList[i]?.bind (qs[·]?):=fun i=>ng _ (by rw [T.len];exact lt) i
 have pq:(order.toList.filterMap (qs[·]?)).Perm qs:=by
  have:=e2.filterMap (qs[·]?)
  rw [<-T.len,tN] at this
  exact this
 have pe:(order.toList.filterMap (es.toList[·]?)).Perm es.toList:=by
  have:=e2.filterMap (es.toList[·]?)
  rw [<-Array.length_toList,tN] at this
  exact this
 have sz:(order.filterMap (es[·]?)).size=es.size:=by rw [<-Array.length_toList,tl,pe.length_eq,Array.length_toList]
 refine⟨t',order,order.toList.filterMap (qs[·]?),by unfold SetTable.relaid;rw [eb] at e1 ⊢;exact e1,⟨?_,by rw [sz,e3];(clear sz tl e7 e6 e3 hm eb J b3 eg hz;omega),by rw [pq.length_eq,sz,T.len],fun i e hi=>?_,pq.nodup_iff.mpr T.nd,by rw [e5];exact T.pl⟩,sz,by rw [e3];omega,e4,pq,?_⟩
 ·have:(order.filterMap (es[·]?)).toList.map (·.1)=order.toList.filterMap fun i=>(es.map (·.1)).toList[i]? :=by
   rw [tl,List.map_filterMap]
   congr 1
   funext i
   rw [Array.toList_map,List.getElem?_map]
  rw [this]
  exact e8
 ·rw [ge] at hi
  obtain⟨k,k1,k2⟩:=Option.bind_eq_some_iff.mp hi
  rw [Array.getElem?_toList] at k2
  obtain⟨p,q,f1,f2,f3,f4⟩:=T.en k e k2
  exact⟨p,q,f1,by rw [gq,k1];exact f2,f3,f4⟩
 ·rw [eb]
  exact Nat.pow_le_pow_right (by decide) J
theorem Bw{px:Addr}{es:Array (Int×Value)}:byScan (.ref px) es=false:=rfl
theorem zH:8192<=sizeLine:=by rw [sizeLine_eq];omega
theorem wJ{a px:Addr}{led:Bool}{S:List (List K)}{q:List K}{Q:Bool->Shared->Prop}(hu:A.units < cLine)(hv:∀(k:K) (v:Value),knd.is k v=true->plainKind v=true)
  (hS:hJ knd s.heap a Z led S)(hx:IsTupleKey knd s.heap q px)(hxZ:px∈Z)(hr:S.length < 2000)
  (h:∀ b h',Heap.SameBut a s.heap h'->hJ knd h' a Z led (if q∈S then S else S++[q])->Q b {s with heap:=h'}):
  wpAny (model prog w) A (setAddHashed a (.ref px) (tupleKeyHash knd q)) Q E s:=by
 obtain⟨o,es,ep,t,qs,U,hex,hd,T,hz,hl,hp⟩:=hS
 have ao:t.place.size=es.size:=by have:=T.ti.sz;rw [List.length_map,Array.length_toList] at this;exact this
 have ar:7<=t.mask:=by
  obtain⟨k,h3,_,e⟩:=T.ti.k
  have:2 ^ 3<=2 ^ k:=Nat.pow_le_pow_right (by decide) h3
  omega
 have nS:es.size=S.length:=by rw [<-T.len];exact hp.length_eq
 obtain⟨N,n1,n2,n3⟩:=yp T.ti (by rw [ao];exact Nat.le_of_lt T.sz) (tupleKeyHash knd q)
 have au:=T.mask_le
 unfold setAddHashed
 refine wpAny_holding ?_
 unfold setAddHashedIn
 refine wpAny_bind (wpAny_setState_of U hd T.fits ?_)
 dsimp only
 rw [Bw]
 simp only [Bool.false_eq_true,if_false]
 refine wpAny_bind ?_
 unfold setSearch
 refine rh hu U hd T hx n1 n2 n3 (fun hq=>?_) (fun hq=>?_) 100000 0 none rfl (Nat.zero_le _) (by unfold turns at n1;omega) fun m hm=>by omega
 ·refine wpAny_pure ?_
  have aa:q∈S:=hp.mem_iff.mp hq
  have:=h false s.heap (Heap.SameBut.refl a s.heap) (by rw [if_pos aa];exact⟨o,es,ep,t,qs,U,hex,hd,T,hz,hl,hp⟩)
  cases s;exact this
 ·have aa:q∉S:=fun z=>hq (hp.mem_iff.mpr z)
  rw [if_neg aa] at h
  refine wpAny_bind (wpAny_setState_of U hd T.fits ?_)
  dsimp only
  obtain⟨ag,T1,pm,le⟩:=T.ins hx hxZ hq (by omega) n2 n3
  have tp:(t.put (way t.mask (tupleKeyHash knd q) N).j).1.plain=true:=T.pl
  have tl:(t.put (way t.mask (tupleKeyHash knd q) N).j).1.led=led:=hl
  generalize av:(t.put (way t.mask (tupleKeyHash knd q) N).j).1=t1 at T1 tp tl
  generalize aw:insertAt es (t.put (way t.mask (tupleKeyHash knd q) N).j).2 (tupleKeyHash knd q,Value.ref px)=J at T1 le
  rw [if_pos tp]
  refine wpAny_bind (Bh hx hv ?_)
  simp only [if_true]
  have ax:(2:Nat) ^ 13=8192:=rfl
  have sl:=zH
  refine wpAny_bind (wpAny_storeSet_of U hd ?_ (by omega))
  have g1:=rL U hd J t1
  have ae:=Heap.SameBut.update s.heap a (Obj.putSet J t1)
  have af:=T1.keep fun q p x=>oK x U hd ae
  have pS:ag.Perm (S++[q]):=pm.trans (hp.append_right [q])
  by_cases full:t1.tooFull=true
  ·rw [full]
   simp only [Bool.not_false,Bool.and_self,if_true]
   refine wpAny_bind ?_
   unfold setRelay
   refine wpAny_bind (wpAny_setState_of g1 rfl af.fits ?_)
   dsimp only
   rw [<-le]
   obtain⟨t2,order,aq,r1,r2,r3,r4,r5,r6,r7⟩:=af.anew (by omega) (by omega)
   rw [if_neg (by omega)]
   refine wpAny_bind ?_
   show wpAny _ _ (do
    let some (t,order):=t1.relaid (J.map (·.1)) (grown J.size) | unsupported "internal:set-table-without-room"
    let ah:=order.filterMap (J[·]?)
    if ah.size != J.size then unsupported "internal:set-table-lost-an-element"
    pure (ah,t)) _ _ _
   rw [r1]
   dsimp only
   rw [if_neg (by rw [r3];simp)]
   refine wpAny_pure ?_
   dsimp only
   refine wpAny_storeSet_of g1 rfl ?_ (by omega)
   have g2:=rL g1 rfl (order.filterMap (J[·]?)) t2
   have ak:=Heap.SameBut.update (s.heap.update a (Obj.putSet J t1)) a (Obj.putSet (order.filterMap (J[·]?)) t2)
   refine wpAny_pure (h true _ (ae.trans ak) ⟨_,_,_,t2,aq,g2,hex,rfl,r2.keep fun q p x=>oK x g1 rfl ak,by rw [r3];exact r4,by rw [r5];exact tl,r6.trans pS⟩)
  ·rw [Bool.not_eq_true] at full
   rw [full]
   simp only [Bool.and_false,Bool.false_eq_true,if_false]
   have nf:J.size * 5 < t1.mask * 3:=by
    have hf:t1.fill=J.size:=by
     unfold SetTable.fill
     rw [T1.ti.dm]
     have:=T1.ti.sz
     rw [List.length_map,Array.length_toList] at this
     rw [this];rfl
    unfold SetTable.tooFull at full
    have:=of_decide_eq_false full
    rw [hf] at this
    omega
   refine wpAny_pure (h true _ ae ⟨_,J,_,t1,ag,g1,hex,rfl,af,nf,tl,pS⟩)
end
section
variable {K : Type} [DecidableEq K]
noncomputable def once(S:List (List K))(q:List K):List (List K):=if q∈S then S else S++[q]
noncomputable def fZ(val:Nat->List K)(i:Nat):List (List K):=((List.range i).map val).foldl once []
theorem qq(val:Nat->List K)(i:Nat):fZ val (i + 1)=once (fZ val i) (val i):=by
 unfold fZ;rw [List.range_succ,List.map_append,List.foldl_append];rfl
theorem qH(val:Nat->List K):∀ i (q:List K),q∈fZ val i↔∃ j,j < i/\val j=q
 | 0,q=>by
  constructor
  ·intro h;exact nomatch h
  ·rintro⟨j,h,_⟩;omega
 | i + 1,q=>by
  rw [qq]
  unfold once
  have J:=qH val i
  constructor
  ·intro h
   split at h
   ·obtain⟨j,a,b⟩:=(J q).mp h;exact⟨j,by omega,b⟩
   ·rcases List.mem_append.mp h with h | h
    ·obtain⟨j,a,b⟩:=(J q).mp h;exact⟨j,by omega,b⟩
    ·exact⟨i,by omega,(List.mem_singleton.mp h).symm⟩
  ·rintro⟨j,a,b⟩
   by_cases e:j=i
   ·subst e
    split
    ·rw [<-b];assumption
    ·rw [<-b];simp
   ·have:=(J q).mpr ⟨j,by omega,b⟩
    split
    ·exact this
    ·simp [this]
theorem tf(val:Nat->List K):∀ i,(fZ val i).Nodup
 | 0=>List.nodup_nil
 | i + 1=>by
  rw [qq]
  unfold once
  have J:=tf val i
  split
  ·exact J
  ·rename_i h
   refine List.nodup_append.mpr ⟨J,by simp,fun a ha b hb=>?_⟩
   rw [List.mem_singleton] at hb
   subst hb
   exact fun z=>h (z ▸ ha)
end
section
variable {prog : Program} {w : World} {K : Type} [DecidableEq K] {knd : KeyKind prog w K} {Z : List Addr} {A : Around} {R : Result -> Shared -> Prop} {I : Addr} {fp wr : List Addr} {G : Array GenState -> Array GenState -> Prop} {n : Nat} {P : Nat -> Value -> Prop} {St : Nat -> Shared -> Prop}
theorem hJ.keep {h h':Heap}{a:Addr}{led:Bool}{S:List (List K)}(T:hJ knd h a Z led S)(hs:∀ o,h.get? a=some o->h'.get? a=some o)(k:∀ q p,IsTupleKey knd h q p->IsTupleKey knd h' q p):hJ knd h' a Z led S:=
 let ⟨o,es,ep,t,qs,a1,a2,a3,a4,a5,a6,a7⟩:=T
 ⟨o,es,ep,t,qs,hs o a1,a2,a3,a4.keep k,a5,a6,a7⟩
theorem yZ(hu:A.in1.units < cLine)(hv:∀(k:K) (v:Value),knd.is k v=true->plainKind v=true)(W:WalksS prog w A.in1 I fp wr G n P St)(S:Addr)(hSf:S∉fp){led:Bool}(val:Nat->List K)(pt:Nat->Addr)
  (hval:∀ i v,P i v->v= .ref (pt i))(hb:∀ i,(fZ val i).length < 2000)(hZ:∀ i,i < n->pt i∈Z)(hw:∀ i s,St i s->∀ b∈wr,∀ q,¬ IsTupleKey knd s.heap q b):
  ∀(k i:Nat) (s:Shared),n - i=k->i<=n->St i s->(∀ j,j < n->IsTupleKey knd s.heap (val j) (pt j))->hJ knd s.heap S Z led (fZ val i)->
   (∀ s',Moved (S::wr) G s s'->hJ knd s'.heap S Z led (fZ val n)->R (.ok (.ret .none)) s')->
   codeAny (model prog w) A (.builtin "set.update.loop" ⟨[.ref S,.ref I],[]⟩) R s:=by
 have ak:S∉wr:=fun h=>hSf (W.sub _ h)
 have af:∀ b∈wr,b∈S::wr:=fun b hb=>List.mem_cons_of_mem _ hb
 have kk:∀{i:Nat} {s s':Shared},St i s->Moved wr G s s'->∀ q p,IsTupleKey knd s.heap q p->IsTupleKey knd s'.heap q p:=fun{i s s'} U hm q p x=>by
  have hp:p∉wr:=fun z=>hw i s U p z q x
  obtain⟨o,items,m,ho,r⟩:=x
  exact⟨o,items,m,hm.heap p o hp ho,r⟩
 intro k
 induction k with
 | zero=>
  intro i s hk hi U aa hS hR
  have av:i=n:=by omega
  subst av
  refine codeAny_builtin PyProof.Rows.F.entry_set_update_loop ?_
  rw [Around.under_plainId PyProof.Rows.F.plain_set_update_loop _]
  show wpAny _ A.in1 (pyNext (.ref I) >>= _) _ _ s
  refine wpAny_bind (W.done s _ _ U fun s' hm=>?_)
  show wpAny _ A.in1 (ret Value.none) _ _ s'
  exact wpAny_pure (hR s' (hm.mono af) (hS.keep (fun o e=>hm.heap S o ak e) (kk U hm)))
 | succ k ih=>
  intro i s hk hi U aa hS hR
  have ae:i < n:=by omega
  refine codeAny_builtin PyProof.Rows.F.entry_set_update_loop ?_
  rw [Around.under_plainId PyProof.Rows.F.plain_set_update_loop _]
  show wpAny _ A.in1 (pyNext (.ref I) >>= _) _ _ s
  refine wpAny_bind (W.item i s _ _ ae U fun v s' hP ao hm=>?_)
  obtain rfl:=hval i v hP
  have aq:=hS.keep (fun o e=>hm.heap S o ak e) (kk U hm)
  have J:∀ j,j < n->IsTupleKey knd s'.heap (val j) (pt j):=fun j hj=>kk U hm _ _ (aa j hj)
  show wpAny _ A.in1 (holding [Value.ref (pt i)] (setAdd S (.ref (pt i))) >>= _) _ _ s'
  refine wpAny_bind (wpAny_holding ?_)
  unfold setAdd
  refine wpAny_holding ?_
  refine wpAny_bind (wpAny_pyHash_tuple hu (J i ae) ?_)
  have ag:(fZ val i).length < 2000:=hb i
  refine wJ (s:={s' with toks:=s'.toks + ((val i).length + 1)}) hu hv aq (J i ae) (hZ i ae) ag fun b h' ah aw=>?_
  have ax:hJ knd h' S Z led (fZ val (i + 1)):=by rw [qq];exact aw
  have ay:=aq
  obtain⟨o,es,ep,t,qs,a1,a2,a3,_⟩:=ay
  refine wpAny_pure ⟨plainId_quiet PyProof.Rows.F.plain_set_update_loop _,ih (i + 1) _ (by omega) ae (W.frame _ s' h' (s'.toks + ((val i).length + 1)) ao (Nat.le_add_right _ _) fun b hb o e=>?_) (fun j hj=>oK (J j hj) a1 a3 ah) ax fun aA ar au=>?_⟩
  ·rw [ah.2 b (fun h:b=S=>hSf (by rw [<-h];exact hb))];exact e
  ·refine hR aA (Moved.trans W.gtrans ((hm.mono af).then_heap (Nat.le_add_right _ _) fun b o hb e=>?_) ar) au
   rw [ah.2 b (fun h:b=S=>hb (by rw [h];exact List.mem_cons_self))];exact e
end
section
variable {prog : Program} {w : World} {K : Type} [DecidableEq K] {knd : KeyKind prog w K} {Z : List Addr} {A : Around} {E : Value -> Shared -> Prop} {s : Shared}
noncomputable def i9(w:World):Bool:= !w.params.followText "set-order"
noncomputable abbrev ie(w:World):Obj:={cls:= .type "set",dict:=none,data:= .set #[] 0 (.fresh 0 0 (i9 w))}
theorem Bm(a:Value){Q₁:Value->Shared->Prop}(h:Q₁ (.ref s.heap.objs.size) {s with heap:=s.heap.push (ie w)}):
  codeAny (model prog w) A (.call (.builtin "set.__new__") ⟨[.type "set",a],[]⟩) (wants Q₁ E) s:=by
 refine codeAny_of_tree ?_
 show wpAny _ A.in1 (do checkBuiltinCall "set.__new__" ⟨[.type "set",a],[]⟩;again (.builtin "set.__new__" ⟨[.type "set",a],[]⟩)) _ _ s
 refine wpAny_bind (wpAny_of_eq (F.newCall_set_1 a) (wpAny_pure ⟨plainId_quiet F.plain_set_new _,codeAny_builtin F.entry_set_new ?_⟩))
 rw [Around.under_plainId F.plain_set_new _]
 unfold Builtin.«set.__new__» Builtin.Frozenset.newClass
 have J:=sub_set_self
 obtain⟨U,g,d,tk,os⟩:=s
 dsimp only
 wp_walk
 refine wpAny_askSetting (wpAny_pure ?_)
 dsimp only
 simp only [newObj]
 refine wpAny_bind (wpAny_alloc (wpAny_pure ?_))
 exact wpAny_pure h
theorem xF{h:Heap}{a:Addr}(ha:h.get? a=some (ie w)):hJ knd h a Z (i9 w) []:=
 ⟨_,#[],0,_,[],ha,⟨rfl,rfl,rfl⟩,rfl,⟨yr 0 0 (i9 w),by show 0 < 7;omega,rfl,fun i e hi=>by simp at hi,List.nodup_nil,rfl⟩,by show 0 * 5 < 7 * 3;omega,rfl,List.Perm.refl _⟩
theorem yX{l:Addr}{pts:List Addr}{qs:List (List K)}{Q:Value->Shared->Prop}(hu:A.units + 10 < cLine)(hv:∀(k:K) (v:Value),knd.is k v=true->plainKind v=true)
  (hh:A.handled=none)(hl:s.heap.IsList l (pts.map Value.ref).toArray)(hlen:qs.length=pts.length)(hq:∀ j,j < pts.length->IsTupleKey knd s.heap (qs.getD j []) (pts.getD j 0))(hb:∀ i,(fZ (fun i=>qs.getD i []) i).length < 2000)
  (h:∀(h':Heap) (tk:Nat),hJ knd h' s.heap.objs.size pts (i9 w) (fZ (fun i=>qs.getD i []) pts.length)->
   (∀ b o,b < s.heap.objs.size->s.heap.get? b=some o->h'.get? b=some o)->s.toks<=tk->Q (.ref s.heap.objs.size) {s with heap:=h',toks:=tk}):
  wpAny (model prog w) A (call (.type "set") [.ref l]) Q E s:=by
 obtain⟨c,tl,aP⟩:=F.called_set.mro
 have aD:=F.called_set.made
 have aQ:=F.called_set.sub
 refine wpAny_call (codeAny_of_tree ?_)
 show wpAny _ _ (callAny (.type "set") _) _ _ _
 refine wpAny_pure ⟨Code.quiet_builtin _ dkq,codeAny_builtin F.entry_type_call ?_⟩
 rw [Around.under_plain (weight_type_call_type "set" [.ref l] []) rfl]
 have h1:=F.called_set.notType
 have h2:=F.called_set.canCreate
 have aU:=F.typeCall_set_1 (.ref l)
 repeat (any_goals (first | assumption | wp_step))
 refine codeAny_mono (Bm (.ref l) (E:=E) (Q₁:=fun obj ae=>obj= .ref s.heap.objs.size/\ae={s with heap:=s.heap.push (ie w)}) ⟨rfl,rfl⟩) fun r ae hr=>?_
 cases r with
 | error e=>exact hr
 | ok fl=>
  cases fl with
  | ret obj=>
   obtain⟨rfl,rfl⟩:=hr
   have hS:(s.heap.push (ie w)).get? s.heap.objs.size=some (ie w):=Heap.get?_push_size _ rfl
   have hT:Shared.TypeIs {s with heap:=s.heap.push (ie w)} (.ref s.heap.objs.size) "set":=⟨_,hS,rfl⟩
   have aV:=F.called_set.init.lookup
   have aW:=F.called_set.init.bind (.ref s.heap.objs.size)
   repeat (any_goals (first | assumption | wp_step))
   refine codeAny_mono (codeAny_call_builtin (R:=wants (fun r af=>r= .none/\∃ h' tk,af={s with heap:=h',toks:=tk}/\hJ knd h' s.heap.objs.size pts (i9 w) (fZ (fun i=>qs.getD i []) pts.length)/\
     (∀ b o,b < s.heap.objs.size->s.heap.get? b=some o->h'.get? b=some o)/\s.toks<=tk) E) F.called_set.init.plain F.entry_set_init (check_set_init_1 hT ?_)) fun ao af J=>?_
   ·obtain⟨ol,aq,ar,nl,au⟩:=hl
    obtain⟨aR,ag,aE,aa⟩:=ol
    simp only at ar au
    subst ar;subst au
    have av:(s.heap.push (ie w)).get? l=some {cls:= .type "list",dict:=ag,data:= .seq (pts.map Value.ref).toArray nl,slots:=aa}:=Heap.get?_push_of_some _ aq
    have aS:=F.sub_list_set
    have aT:=F.sub_list_frozenset
    have aX:(Value.type "list" == Value.type "dict")=false:=by decide
    have aw:(s.heap.push (ie w)).IsList l (pts.map Value.ref).toArray:=⟨_,av,rfl,nl,rfl⟩
    unfold Builtin.«set.__init__» noKeywords Builtin.Frozenset.updateFrom
    generalize aF:pyIter=PI
    wp_walk
    subst aF
    refine wpAny_pyIter_list aw ?_
    refine wpAny_bind (wpAny_runValue ?_)
    have ax:l < s.heap.objs.size:=Heap.lt_size aq
    have aG:A.in1.in1.in1.handled=none:=by simp [hh]
    have ay:l≠(s.heap.push (ie w)).objs.size:=by
     rw [Heap.size_push];exact Nat.ne_of_lt (Nat.lt_succ_of_lt ax)
    have aH:s.heap.objs.size∉[(s.heap.push (ie w)).objs.size,l]:=by
     rw [Heap.size_push];simp only [List.mem_cons,List.mem_singleton,List.not_mem_nil,or_false,not_or]
     exact⟨Nat.ne_of_lt (Nat.lt_succ_self _),Nat.ne_of_gt ax⟩
    have aI:(pts.map Value.ref).toArray.size=pts.length:=by simp
    have W:=(Walks.list (prog:=prog) (w:=w) aG _ l ay (pts.map Value.ref).toArray).toS
    rw [aI] at W
    refine yZ (knd:=knd) (led:=i9 w) (by(show A.units + 1 + 1 + 1 < cLine;omega)) hv W s.heap.objs.size aH (fun i=>qs.getD i []) (fun i=>pts.getD i 0) (fun i v aJ=>?_) hb (fun i hi=>by rw [List.getD_eq_getElem?_getD,List.getElem?_eq_getElem hi];exact List.getElem_mem hi) (fun i s' aK b aA q z=>?_) (pts.length - 0) 0 _ (by omega) (Nat.zero_le _)
     ⟨⟨_,Heap.get?_push_size _ rfl,rfl,rfl⟩,(aw.push _)⟩ (fun j hj=>?_) (xF (Heap.get?_push_of_some _ hS)) ?hR
    case hR=>
     intro s' hm ah
     obtain⟨h',g',d',aB,aL⟩:=s'
     have eg:g'=s.gens:=hm.gens
     have ed:d'=s.drawn:=hm.drawn
     have eo:aL=s.os:=hm.os
     have et:s.toks<=aB:=hm.toks
     subst eg;subst ed;subst eo
     show wpAny _ _ _ _ _ _
     refine wpAny_pure ?_
     show wpAny _ _ (ret Value.none) _ _ _
     refine wpAny_pure ⟨rfl,h',aB,rfl,ah,fun b o hb e=>?_,et⟩
     have aM:b≠s.heap.objs.size:=Nat.ne_of_lt hb
     have aN:b≠(s.heap.push (ie w)).objs.size:=by
      rw [Heap.size_push];exact Nat.ne_of_lt (Nat.lt_succ_of_lt hb)
     exact hm.heap b o (by simp only [List.mem_cons,List.mem_singleton,List.not_mem_nil,or_false,not_or];exact⟨aM,aN⟩) (Heap.get?_push_of_some _ (Heap.get?_push_of_some _ e))
    ·have aC:(pts.map Value.ref).toArray[i]? =some v:=aJ
     rw [List.getElem?_toArray,List.getElem?_map] at aC
     obtain⟨p,e1,e2⟩:=Option.map_eq_some_iff.mp aC
     rw [<-e2,List.getD_eq_getElem?_getD,e1];rfl
    ·obtain⟨⟨oi,i1,i2,i3⟩,_⟩:=aK
     obtain⟨o',U,m',g1,g2,g3,g4⟩:=z
     rw [List.mem_singleton] at aA
     subst aA
     rw [i1] at g1
     cases g1
     rw [i2] at g2
     exact absurd g2 (by decide)
    ·obtain⟨o',U,m',g1,g2⟩:=hq j hj
     exact⟨o',U,m',Heap.get?_push_of_some _ (Heap.get?_push_of_some _ g1),g2⟩
   ·cases ao with
    | error e=>exact J
    | ok ak=>
     cases ak with
     | ret r=>
      obtain⟨rfl,h',tk,rfl,ah,aO,ht⟩:=J
      repeat (any_goals (first | assumption | wp_step))
      exact h _ _ ah aO ht
     | _=>exact J.elim
  | _=>exact hr.elim
end
end PySem
namespace PySem.F
theorem slot_seti_next:Slot "set_iterator" "__next__" "set_iterator.__next__":=
 .of (owner:="set_iterator") (n:="__next__") (by rw [typeLookup_type,builtinLookup_eq_fast];kernel_rfl) dkq dkq dkq
  (by first | exact .inl dkq | exact .inr dkq) (by rw [isSubtype_type];kernel_rfl)
theorem entry_seti_next:entryFor table "set_iterator.__next__"=some Builtin.«set_iterator.__next__»:=entryFor_of_fast (by kernel_rfl)
theorem uR:Manifest.owners.lookup (String.ofList ['r','o','t','a','r','e','t','i','_','t','e','s'].reverse)=some Manifest.sig_set_iterator:=by kernel_rfl
theorem args_seti_next(a:Value):argsOk "set_iterator.__next__" ⟨[a],[]⟩:=by
 unfold argsOk;rw [signature?_of (id:="set_iterator.__next__") (n:=['_','_','t','x','e','n','_','_']) (o:=['r','o','t','a','r','e','t','i','_','t','e','s']) (by kernel_rfl) uR];kernel_rfl
theorem entry_set_iter':entryFor table "set.__iter__"=some Builtin.«frozenset.__iter__»:=
 entryFor_alias (id':="frozenset.__iter__") (by kernel_rfl) rfl dkq (by kernel_rfl)
theorem slot_seti_iter:Slot "set_iterator" "__iter__" "set_iterator.__iter__":=
 .of (owner:="set_iterator") (n:="__iter__") (by rw [typeLookup_type,builtinLookup_eq_fast];kernel_rfl) dkq dkq dkq
  (by first | exact .inl dkq | exact .inr dkq) (by rw [isSubtype_type];kernel_rfl)
theorem entry_seti_iter:entryFor table "set_iterator.__iter__"=some Builtin.«dict_keyiterator.__iter__»:=
 entryFor_alias (id':="dict_keyiterator.__iter__") (by kernel_rfl) rfl dkq (by kernel_rfl)
theorem args_seti_iter(a:Value):argsOk "set_iterator.__iter__" ⟨[a],[]⟩:=by
 unfold argsOk;rw [signature?_of (id:="set_iterator.__iter__") (n:=['_','_','r','e','t','i','_','_']) (o:=['r','o','t','a','r','e','t','i','_','t','e','s']) (by kernel_rfl) uR];kernel_rfl
end PySem.F
namespace PySem
open SetTable
theorem vI{α:Type}(next:Nat->Nat):∀(fuel k:Nat) (left:List α) (out:Array α),left.length=fuel->(pickOrder.go next fuel k left out).toList.Perm (out.toList++left)
 | 0,k,left,out,h=>by
  have:left=[]:=List.eq_nil_of_length_eq_zero h
  subst this
  unfold pickOrder.go
  rw [List.append_nil]
 | fuel + 1,k,left,out,h=>by
  have J:next k % left.length < left.length:=Nat.mod_lt _ (by omega)
  unfold pickOrder.go
  rw [List.getElem?_eq_getElem J]
  dsimp only
  refine(vI next fuel (k + 1) _ _ (by rw [List.length_eraseIdx_of_lt J];omega)).trans ?_
  rw [Array.toList_push,List.append_assoc]
  refine List.Perm.append_left _ ?_
  have e1:left=left.take (next k % left.length)++left[next k % left.length]::left.drop (next k % left.length + 1):=by
   have:=List.take_append_drop (next k % left.length) left
   rw [List.drop_eq_getElem_cons J] at this
   exact this.symm
  rw [List.eraseIdx_eq_take_drop_succ]
  have U:(left.take (next k % left.length)++left[next k % left.length]::left.drop (next k % left.length + 1)).Perm (left[next k % left.length]::(left.take (next k % left.length)++left.drop (next k % left.length + 1))):=List.perm_middle
  rw [<-e1] at U
  exact U.symm
theorem AS{α:Type}(next:Nat->Nat)(xs:Array α):(pickOrder next xs).toList.Perm xs.toList:=by
 have:=vI next xs.size 0 xs.toList #[] Array.length_toList
 exact this
noncomputable def gB(w:World)(a:Addr)(ep:Nat)(es:Array (Int×Value)):Array (Int×Value):=if w.params.followText "set-order" then pickOrder (w.params.setOrder a ep) es else es
theorem uF(w:World)(a:Addr)(ep:Nat)(es:Array (Int×Value)):(gB w a ep es).toList.Perm es.toList:=by
 unfold gB;split
 ·exact AS _ _
 ·exact List.Perm.refl _
theorem nZ(w:World)(a:Addr)(ep:Nat)(es:Array (Int×Value)):(gB w a ep es).size=es.size:=by
 rw [<-Array.length_toList,(uF w a ep es).length_eq,Array.length_toList]
noncomputable def kC(h:Heap)(it a:Addr)(slot i n ep:Nat):Prop:=∃ o,h.get? it=some o/\o.cls= .type "set_iterator"/\o.data= .fields #[.int slot 0,.int i 0,.ref a,.int n 0,.int ep 0]
section
variable {prog : Program} {w : World} {K : Type} [DecidableEq K] {knd : KeyKind prog w K} {A : Around} {E : Value -> Shared -> Prop} {s : Shared}
noncomputable def Tab(w:World)(es:Array (Int×Value))(t:SetTable):Prop:=t.fits es.size=true/\TI t (es.toList.map (·.1))/\t.plain=true/\t.led=i9 w
noncomputable def StandsAt(w:World)(t:SetTable)(slot i:Nat):Prop:=w.params.followText "set-order"=false->below t.place slot=i
theorem tj{a:Addr}{slot i ep:Nat}{o:Obj}{es:Array (Int×Value)}{t:SetTable}{Q:Option (Value×Nat)->Shared->Prop}(ho:s.heap.get? a=some o)(hd:o.data= .set es ep t)(T:Tab w es t)(st:StandsAt w t slot i)
  (hs:∀ x slot',((gB w a ep es)[i]?).map (·.2)=some x->StandsAt w t slot' (i + 1)->Q (some (x,slot')) s)(hn:(gB w a ep es)[i]? =none->Q none s):
  wpAny (model prog w) A (setNext a slot i ep) Q E s:=by
 obtain⟨hf,ti,pl,hl⟩:=T
 unfold setNext
 refine wpAny_bind (wpAny_setState_of ho hd hf ?_)
 dsimp only
 unfold setsByText
 refine wpAny_bind (wpAny_bind (wpAny_askSetting (wpAny_pure ?_)))
 by_cases z:w.params.followText "set-order"=true
 ·show wpAny _ _ (if w.params.followText "set-order"=true then _ else _) _ _ s
  rw [if_pos z]
  rw [if_neg (by simp)]
  refine wpAny_bind ?_
  unfold setWalk setsByText
  refine wpAny_bind (wpAny_setState_of ho hd hf ?_)
  dsimp only
  refine wpAny_bind (wpAny_bind (wpAny_askSetting (wpAny_pure ?_)))
  show wpAny _ _ (if w.params.followText "set-order"=true then _ else _) _ _ s
  rw [if_pos z]
  refine wpAny_bind (wpAny_askSetting (wpAny_pure (wpAny_pure ?_)))
  have U:gB w a ep es=pickOrder (w.params.setOrder a ep) es:=by unfold gB;rw [if_pos z]
  show Q (((pickOrder (w.params.setOrder a ep) es)[i]?).map fun e=>(e.2,slot)) s
  rw [<-U]
  cases e:(gB w a ep es)[i]? with
  | none=>exact hn e
  | some x=>exact hs x.2 slot (by rw [e];rfl) fun y=>by rw [z] at y;cases y
 ·have z':w.params.followText "set-order"=false:=by simpa using z
  show wpAny _ _ (if w.params.followText "set-order"=true then _ else _) _ _ s
  rw [if_neg z]
  have aa:t.led=true:=by rw [hl];unfold i9;rw [z'];rfl
  have U:gB w a ep es=es:=by unfold gB;rw [if_neg z]
  have sp:=st z'
  have ae:t.place.size=es.size:=by have:=ti.sz;rw [List.length_map,Array.length_toList] at this;exact this
  show wpAny _ _ (if (!t.plain && decide (es.size > 1))=true then _ else _) _ _ s
  rw [pl]
  simp only [Bool.not_true,Bool.false_and,Bool.false_eq_true,if_false]
  refine wpAny_bind ?_
  show wpAny _ _ (if (!t.led && !es.isEmpty)=true then _ else _) _ _ s
  rw [aa]
  simp only [Bool.not_true,Bool.false_and,Bool.false_eq_true,if_false]
  refine wpAny_pure (wpAny_pure ?_)
  rw [sp]
  rw [U] at hs hn
  by_cases hi:i < es.size
  ·have J:es[i]? =some (es[i].1,es[i].2):=Array.getElem?_eq_getElem hi
   have e2:t.place[i]? =some (t.place[i]'(by omega)):=Array.getElem?_eq_getElem (by omega)
   rw [J,e2]
   refine hs es[i].2 _ (by rw [Array.getElem?_eq_getElem hi];rfl) fun _=>?_
   obtain⟨b0,b1,b2⟩:=mW (xs:=t.place) (j:=t.place[i]'(by omega) + 1) ti.ris
   have n1:¬ below t.place (t.place[i]'(by omega) + 1)<=i:=fun q=>by
    have:=b2 i _ q e2;omega
   have n2:¬ i + 1 < below t.place (t.place[i]'(by omega) + 1):=fun q=>by
    have h3:i + 1 < t.place.size:=by omega
    have e3:t.place[i + 1]? =some t.place[i + 1]:=Array.getElem?_eq_getElem h3
    have h4:=b1 (i + 1) _ q e3
    have h5:=ti.ris i (i + 1) _ _ (by omega) e2 e3
    omega
   omega
  ·have J:es[i]? =none:=Array.getElem?_eq_none (by omega)
   rw [J]
   exact hn J
end
section
variable {prog : Program} {w : World} {A : Around} {E : Value -> Shared -> Prop} {s : Shared}
theorem kC.typeIs {it a:Addr}{slot i n ep:Nat}(x:kC s.heap it a slot i n ep):s.TypeIs (.ref it) "set_iterator":=let ⟨o,ho,hc,_⟩:=x;⟨o,ho,hc⟩
theorem next_item{it a:Addr}{slot i ep:Nat}{o:Obj}{es:Array (Int×Value)}{t:SetTable}{Q:Option Value->Shared->Prop}(hit:kC s.heap it a slot i es.size ep)(ho:s.heap.get? a=some o)(hd:o.data= .set es ep t)(T:Tab w es t)(st:StandsAt w t slot i)(hi:i < es.size)(hne:a≠it)
  (hQ:∀ x slot' h',((gB w a ep es)[i]?).map (·.2)=some x->StandsAt w t slot' (i + 1)->kC h' it a slot' (i + 1) es.size ep->Heap.SameBut it s.heap h'->Q (some x) {s with heap:=h'}):
  wpAny (model prog w) A (pyNext (.ref it)) Q E s:=by
 obtain⟨oi,U,hc,J⟩:=id hit
 unfold pyNext
 refine wpAny_bind (wpAny_attempt (wpAny_callSpecial?_slot (name:=Str.ofString "__next__") hit.typeIs F.slot_seti_next
  (wpAny_call_entry F.slot_seti_next hit.typeIs F.entry_seti_next ?_ (F.args_seti_next _))))
 unfold Builtin.«set_iterator.__next__»
 refine wpAny_bind (m:=slotArgs "__next__" 0 _) (wpAny_pure ?_)
 refine wpAny_bind (wpAny_fieldsOf U J ?_)
 show wpAny _ _ (setEntries a >>= _) _ _ s
 refine wpAny_bind (wpAny_setEntries_of ho hd T.1 ?_)
 rw [if_neg (by simp)]
 show wpAny _ _ (setNext a (slot:Int).toNat (i:Int).toNat (ep:Int).toNat >>= _) _ _ s
 rw [Int.toNat_natCast,Int.toNat_natCast,Int.toNat_natCast]
 refine wpAny_bind (tj ho hd T st (fun x slot' hx aa=>?_) fun hn=>?_)
 ·dsimp only
  refine wpAny_bind (wpAny_setField U J (by simp) ?_)
  have h1:=Heap.get?_update_self (Obj.mapFields (·.setIfInBounds 0 (rawInt (slot':Nat)))) U (Obj.isFreed_of_fields (Obj.data_mapFields J _))
  refine wpAny_bind (wpAny_setField h1 (Obj.data_mapFields J _) (by simp) ?_)
  refine wpAny_pure ⟨x,rfl,wpAny_pure (hQ x slot' _ hx aa ?_ ((Heap.SameBut.update ..).trans (Heap.SameBut.update ..)))⟩
  refine⟨_,Heap.get?_update_self _ h1 (Obj.isFreed_of_fields (Obj.data_mapFields (Obj.data_mapFields J _) _)),(Obj.cls_mapFields ..).trans ((Obj.cls_mapFields ..).trans hc),?_⟩
  rw [Obj.data_mapFields (Obj.data_mapFields J _)]
  simp [rawInt]
 ·have:=nZ w a ep es
  rw [Array.getElem?_eq_none_iff] at hn
  omega
theorem next_end{it a:Addr}{slot ep:Nat}{o:Obj}{es:Array (Int×Value)}{t:SetTable}{Q:Option Value->Shared->Prop}(hh:A.handled=none)(hit:kC s.heap it a slot es.size es.size ep)(ho:s.heap.get? a=some o)(hd:o.data= .set es ep t)(T:Tab w es t)(st:StandsAt w t slot es.size)
  (hQ:∀ h',Heap.ExtBut it s.heap h'->Q none {s with heap:=h'}):wpAny (model prog w) A (pyNext (.ref it)) Q E s:=by
 obtain⟨oi,J,hc,U⟩:=id hit
 unfold pyNext
 refine wpAny_bind (wpAny_attempt (wpAny_callSpecial?_slot (name:=Str.ofString "__next__") hit.typeIs F.slot_seti_next
  (wpAny_call_entry F.slot_seti_next hit.typeIs F.entry_seti_next ?_ (F.args_seti_next _))))
 unfold Builtin.«set_iterator.__next__»
 refine wpAny_bind (m:=slotArgs "__next__" 0 _) (wpAny_pure ?_)
 refine wpAny_bind (wpAny_fieldsOf J U ?_)
 show wpAny _ _ (setEntries a >>= _) _ _ s
 refine wpAny_bind (wpAny_setEntries_of ho hd T.1 ?_)
 rw [if_neg (by simp)]
 show wpAny _ _ (setNext a (slot:Int).toNat (es.size:Int).toNat (ep:Int).toNat >>= _) _ _ s
 rw [Int.toNat_natCast,Int.toNat_natCast,Int.toNat_natCast]
 have oz:=nZ w a ep es
 refine wpAny_bind (tj ho hd T st (fun x aa hx ae=>?_) fun hn=>?_)
 ·rw [Array.getElem?_eq_none (by omega)] at hx
  cases hx
 ·dsimp only
  refine wpAny_bind (wpAny_setField J U (by simp) ?_)
  show wpAny _ _ (newExc (.type "StopIteration") [] >>= _) _ _ _
  refine wpAny_bind ?_
  simp only [newExc,newTuple]
  refine wpAny_bind (wpAny_newObj_type ?_ (by size_fits))
  refine wpAny_bind (m:=firstArgMember _ _) (wpAny_of_eq (a:=Value.none) (by first | rfl | (simp only [firstArgMember];rfl)) ?_)
  refine wpAny_newObj_type ?_ (by size_fits)
  simp only [raiseNew]
  refine wpAny_bind (wpAny_handled ?_)
  rw [show A.in1.handled=none from hh]
  refine wpAny_bind (wpAny_pure (wpAny_throw ?_))
  refine wpAny_bind (wpAny_isInstance (T:="StopIteration") (b:=true) ⟨_,Heap.get?_push_size _ rfl,rfl⟩ isSubtype_stop ?_)
  exact wpAny_pure (hQ _ (((Heap.SameBut.update ..).extBut.push _).push _))
noncomputable def rz(w:World)(I a:Addr)(es:Array (Int×Value))(ep:Nat)(t:SetTable)(i:Nat)(h:Heap):Prop:=∃ slot,kC h I a slot i es.size ep/\StandsAt w t slot i/\∃ o,h.get? a=some o/\o.data= .set es ep t
theorem Walks.set (hh:A.handled=none)(I a:Addr)(hne:a≠I){es:Array (Int×Value)}{ep:Nat}{t:SetTable}(T:Tab w es t):
  Walks prog w A I [I,a] [I] es.size (fun i v=>((gB w a ep es)[i]?).map (·.2)=some v) (rz w I a es ep t) where
 sub:=fun b hb=>by simp at hb;simp [hb]
 frame:=fun i h h' st hk=>by
  obtain⟨slot,⟨o,a1,a2,a3⟩,b,U,c1,c2⟩:=st
  exact⟨slot,⟨o,hk I (by simp) o a1,a2,a3⟩,b,U,hk a (by simp) U c1,c2⟩
 item:=fun i s Q E hi st hQ=>by
  obtain⟨slot,a1,b,U,c1,c2⟩:=st
  refine next_item a1 c1 c2 T b hi hne fun x J h' hx af aa ae=>?_
  exact hQ x h' s.toks hx ⟨J,aa,af,U,ae.extBut a U hne c1,c2⟩ fun b o hb e=>ae.extBut b o (fun h=>hb (by simp [h])) e
 done:=fun s Q E st hQ=>by
  obtain⟨slot,a1,b,U,c1,c2⟩:=st
  exact next_end hh a1 c1 c2 T b fun h' ag=>hQ h' s.toks fun b o hb e=>ag b o (fun h=>hb (by simp [h])) e
 self:=fun i s Q E st hQ=>by
  obtain⟨slot,a1,_⟩:=st
  refine wpAny_pyIter_slot a1.typeIs F.slot_seti_iter (wpAny_call_entry F.slot_seti_iter a1.typeIs F.entry_seti_iter ?_ (F.args_seti_iter _))
  show wpAny _ _ (ret (.ref I)) _ _ s
  exact wpAny_pure ⟨_,rfl,"set_iterator",_,a1.typeIs,F.slot_seti_next.lookup,hQ⟩
theorem xt{a:Addr}{o:Obj}{es:Array (Int×Value)}{ep:Nat}{t:SetTable}{Q:Value->Shared->Prop}(ho:s.heap.get? a=some o)(hc:o.cls= .type "set")(hd:o.data= .set es ep t)(T:Tab w es t)
  (hQ:Q (.ref s.heap.objs.size) {s with heap:=s.heap.push {cls:= .type "set_iterator",data:= .fields #[.int 0 0,.int 0 0,.ref a,.int es.size 0,.int ep 0]}}):
  wpAny (model prog w) A (pyIter (.ref a)) Q E s:=by
 have J:s.TypeIs (.ref a) "set":=⟨o,ho,hc⟩
 refine wpAny_pyIter_slot J F.slot_set_iter (wpAny_call_entry F.slot_set_iter J F.entry_set_iter' ?_ (F.args_set_iter_1 _))
 unfold Builtin.«frozenset.__iter__» Builtin.Frozenset.slot0 slotArgs
 simp only [List.isEmpty_nil,Bool.not_true,Bool.false_eq_true,↓reduceIte,bind_assoc,List.length_nil,bne_self_eq_false]
 unfold Builtin.Frozenset.addrOf Builtin.Frozenset.sizeOf
 refine wpAny_bind (wpAny_pure ?_)
 try dsimp only
 refine wpAny_bind (wpAny_pure ?_)
 refine wpAny_bind (wpAny_bind (wpAny_setEntries_of ho hd T.1 (wpAny_pure ?_)))
 unfold setDrawn setsByText
 refine wpAny_bind (wpAny_bind (wpAny_setState_of ho hd T.1 ?_))
 dsimp only
 refine wpAny_bind (wpAny_bind (wpAny_askSetting (wpAny_pure (wpAny_pure ?_))))
 show wpAny _ _ (if (!(w.params.followText "set-order") && (!t.plain && decide (es.size > 1)))=true then _ else _) _ _ s
 rw [T.2.2.1,if_neg (by simp)]
 refine wpAny_bind (wpAny_pure ?_)
 refine wpAny_bind (wpAny_setEpoch_of ho hd T.1 ?_)
 exact wpAny_bind (wpAny_newObj_type (wpAny_pure ⟨_,rfl,"set_iterator",_,⟨_,Heap.get?_push_size _ rfl,rfl⟩,F.slot_seti_next.lookup,hQ⟩))
theorem AZ{a:Addr}{o:Obj}{es:Array (Int×Value)}{ep:Nat}{t:SetTable}{Q:List Value->Shared->Prop}(hh:A.handled=none)(ho:s.heap.get? a=some o)(hc:o.cls= .type "set")(hd:o.data= .set es ep t)(T:Tab w es t)
  (hQ:∀ s' (acc:Array Value),(∀ b o,s.heap.get? b=some o->s'.heap.get? b=some o)->s'.gens=s.gens->s'.drawn=s.drawn->s'.os=s.os->s.toks<=s'.toks->s.heap.objs.size<=s'.heap.objs.size->acc.toList=(gB w a ep es).toList.map (·.2)->Q acc.toList s')(hn:es.size<=sizeLine):
  wpAny (model prog w) A (collect (.ref a)) Q E s:=by
 unfold collect
 refine wpAny_bind (wpAny_runValue (codeAny_builtin F.entry_proto_collect ?_))
 rw [Around.under_plainId F.plain_proto_collect _]
 show wpAny _ A.in1 (newList [] >>= fun l=>again (.builtin "list.__iadd__" ⟨[l,.ref a],[]⟩)) _ _ s
 refine wpAny_bind (wpAny_newObj_type ?_)
 refine wpAny_pure ⟨plainId_quiet F.plain_list_iadd _,codeAny_builtin F.entry_list_iadd ?_⟩
 rw [Around.under_plainId F.plain_list_iadd _]
 show wpAny _ A.in1 (Builtin.List.listExtendWith (.ref s.heap.objs.size) (.ref a) (.ref s.heap.objs.size)) _ _ _
 unfold Builtin.List.listExtendWith
 have alt:=Heap.lt_size ho
 generalize hH:s.heap.push {cls:= .type "list",data:= .seq ([]:List Value).toArray}=H
 have J:H.objs.size=s.heap.objs.size + 1:=by rw [<-hH,Heap.size_push]
 have U:H.get? a=some o:=by rw [<-hH];exact Heap.get?_push_of_some _ ho
 have ar:H.get? s.heap.objs.size=some {cls:= .type "list",data:= .seq ([]:List Value).toArray}:=by rw [<-hH];exact Heap.get?_push_size _ rfl
 have hT:Shared.TypeIs {s with heap:=H} (.ref a) "set":=⟨o,U,hc⟩
 refine wpAny_bind (wpAny_typeOf hT ?_)
 have h1:Builtin.List.listSameRef (.ref s.heap.objs.size) (.ref a)=false:=by
  simp only [Builtin.List.listSameRef,beq_eq_false_iff_ne];exact Nat.ne_of_gt alt
 have h2:(Value.type "set" == Value.type "list")=false:=by decide
 have h3:(Value.type "set" == Value.type "tuple")=false:=by decide
 simp only [h1,h2,h3,Bool.or_false,Bool.false_eq_true,if_false]
 refine wpAny_bind (xt (s:={s with heap:=H}) U hc hd T ?_)
 refine wpAny_bind (wpAny_holding ?_)
 unfold Builtin.List.listLengthHint
 have ae:Shared.TypeIs {s with heap:=H.push {cls:= .type "set_iterator",data:= .fields #[.int 0 0,.int 0 0,.ref a,.int es.size 0,.int ep 0]}} (.ref a) "set":=⟨o,Heap.get?_push_of_some _ U,hc⟩
 refine wpAny_bind (wpAny_specialOf ae F.slot_set_len.lookup ?_)
 wp_delta
 refine wpAny_bind (wpAny_isInstance (b:=true) ae (by rw [isSubtype_type];kernel_rfl) ?_)
 show wpAny _ A.in1 (typeOf (Value.ref a) >>= _) _ _ _
 refine wpAny_bind (wpAny_typeOf ae ?_)
 refine wpAny_pure ?_
 rw [if_pos (by decide)]
 refine wpAny_bind (wpAny_rule ?_)
 refine wpAny_bind ?_
 generalize hI:H.push {cls:= .type "set_iterator",data:= .fields #[.int 0 0,.int 0 0,.ref a,.int es.size 0,.int ep 0]}=H1
 have ah:H1.get? s.heap.objs.size=some {cls:= .type "list",data:= .seq ([]:List Value).toArray}:=by rw [<-hI];exact Heap.get?_push_of_some _ ar
 have au:H1.get? H.objs.size=some {cls:= .type "set_iterator",data:= .fields #[.int 0 0,.int 0 0,.ref a,.int es.size 0,.int ep 0]}:=by rw [<-hI];exact Heap.get?_push_size _ rfl
 have av:H1.get? a=some o:=by rw [<-hI];exact Heap.get?_push_of_some _ U
 show wpAny _ A.in1 (updateSeq s.heap.objs.size (·.push .none) >>= fun _=>updateSeq s.heap.objs.size (·.pop)) _ _ _
 refine wpAny_bind (wpAny_updateSeq ah rfl ?_)
 have ak:=Heap.get?_update_self (Obj.mapSeq (·.push Value.none)) ah rfl
 refine wpAny_updateSeq (hz:=by seq_fits) ak rfl ?_
 have aw:=Heap.get?_update_self (Obj.mapSeq (·.pop)) ak rfl
 have af:∀ b o,b≠s.heap.objs.size->H1.get? b=some o->((H1.update s.heap.objs.size (Obj.mapSeq (·.push Value.none))).update s.heap.objs.size (Obj.mapSeq (·.pop))).get? b=some o:=
  fun b o hb e=>(Heap.get?_update_other _ _ (Ne.symm hb)).trans ((Heap.get?_update_other _ _ (Ne.symm hb)).trans e)
 have ax:a≠H.objs.size:=by rw [J];exact Nat.ne_of_lt (Nat.lt_succ_of_lt alt)
 have ay:s.heap.objs.size∉[H.objs.size,a]:=by
  rw [J];simp only [List.mem_cons,List.mem_singleton,List.not_mem_nil,or_false,not_or]
  exact⟨Nat.ne_of_lt (Nat.lt_succ_self _),Nat.ne_of_gt alt⟩
 have W:=(Walks.set (prog:=prog) (A:=A.in1) (w:=w) (by simpa using hh) H.objs.size a ax (ep:=ep) T).toS
 have dE:rz w H.objs.size a es ep t 0 ((H1.update s.heap.objs.size (Obj.mapSeq (·.push Value.none))).update s.heap.objs.size (Obj.mapSeq (·.pop))):=by
  refine⟨0,⟨_,af _ _ (by rw [J];exact Nat.succ_ne_self _) au,rfl,rfl⟩,fun _=>?_,o,af _ _ (Nat.ne_of_lt alt) av,hd⟩
  obtain⟨b0,b1,b2⟩:=mW (xs:=t.place) (j:=0) T.2.1.ris
  by_cases z:below t.place 0=0
  ·exact z
  ·have hz:0 < t.place.size:=by omega
   have:=b1 0 _ (by omega) (Array.getElem?_eq_getElem hz)
   omega
 refine wpAny_pure ⟨plainId_quiet F.plain_extend_loop _,codeAny_extend_loopS W hn _ ay _ es.size 0 _ _ _ rfl (Nat.zero_le _) dE aw (ItemsOf.nil _) fun s' aa c' hm ao aq=>?_⟩
 show wpAny _ A (load s.heap.objs.size >>= _) _ _ s'
 refine wpAny_bind (wpAny_load ao ?_)
 refine wpAny_pure (hQ s' aa (fun b ob e=>hm.heap b ob (fun hb=>?_) (af b ob (Nat.ne_of_lt (Heap.lt_size e)) (by rw [<-hI];exact Heap.get?_push_of_some _ (by rw [<-hH];exact Heap.get?_push_of_some _ e)))) hm.gens hm.drawn hm.os hm.toks (Nat.le_of_lt (Heap.lt_size ao)) ?_)
 ·have ag:=Heap.lt_size e
  rcases List.mem_cons.mp hb with h | h
  ·exact absurd ag (h ▸ Nat.lt_irrefl _)
  ·rw [List.mem_singleton.mp h,J] at ag;exact absurd ag (Nat.not_lt.mpr (Nat.le_succ _))
 ·refine List.ext_getElem? fun j=>?_
  obtain⟨c1,c2⟩:=aq
  have oz:=nZ w a ep es
  rw [List.getElem?_map,Array.getElem?_toList,Array.getElem?_toList]
  by_cases hj:j < aa.size
  ·rw [Array.getElem?_eq_getElem hj]
   exact(c2 j _ (Array.getElem?_eq_getElem hj)).symm
  ·rw [Array.getElem?_eq_none (by omega),Array.getElem?_eq_none (by omega)];rfl
end
end PySem
namespace TS
open PySem PySem.W PyProof.Rows
noncomputable def jl:Bool->Keyed->Array Keyed->Nat->Nat->Nat->StateT SortSt Sem (Option Nat):=sortPriv% PySem.Builtin.gallop
theorem wU(left:Bool)(key:Keyed)(arr:Array Keyed)(base n hint:Nat):jl left key arr base n hint=(do
 let beyond (i:Nat):StateT SortSt Sem (Option Bool):=do
  let x<-elem' arr (base + i)
  if left then lt' x key else return (<-lt' key x).map (!·)
 let mut lastofs:=0
 let mut ofs:=1
 let mut lo:=0
 let mut hi:=0
 let some right<-beyond hint | return none
 if right then
  let maxofs:=n - hint
  for _ in [0:n] do
   if ofs ≥ maxofs then break
   let some more<-beyond (hint + ofs) | return none
   if !more then break
   lastofs:=ofs
   ofs:=2 * ofs + 1
  lo:=hint + lastofs + 1
  hi:=hint + min ofs maxofs
 else
  let maxofs:=hint + 1
  for _ in [0:n] do
   if ofs ≥ maxofs then break
   let some found<-beyond (hint - ofs) | return none
   if found then break
   lastofs:=ofs
   ofs:=2 * ofs + 1
  lo:=hint + 1 - min ofs maxofs
  hi:=hint - lastofs
 for _ in [0:n] do
  if lo ≥ hi then break
  let m:=lo + (hi - lo) / 2
  let some more<-beyond m | return none
  if more then lo:=m + 1 else hi:=m
 return some hi):=rfl
section
variable {prog : Program} {w : World} {A : Around} {E : Value -> Shared -> Prop} {s : Shared} {κ : SortKind} {a₀ : Array Keyed} {rk : Keyed -> Nat}
noncomputable def Rk(prog:Program)(w:World)(A:Around)(s:Shared)(κ:SortKind)(a₀:Array Keyed)(rk:Keyed->Nat):Prop:=
 ∀ x y,x∈a₀->y∈a₀->wpAny (model prog w) A (keyLt' κ x.1 y.1) (fun b s'=>b=decide (rk x < rk y)/\s'=s) (fun _ _=>False) s
theorem lu(R:Rk prog w A s κ a₀ rk){x y:Keyed}{st:SortSt}{Q:Option Bool->SortSt->Prop}(hk:kindOf st=κ)(hx:x∈a₀)(hy:y∈a₀)(h:Q (some (decide (rk x < rk y))) st):wpS (model prog w) A E s (lt' x y) Q st:=by
 rw [lt'_eq]
 refine wpS_bind (wpS_get ?_)
 rw [hk]
 refine wpS_bind (wpS_lift (wpAny_attempt (wpAny_mono (R x y hx hy) (fun b s' hb=>?_) fun _ _ e=>e.elim)))
 obtain⟨rfl,rfl⟩:=hb
 exact⟨rfl,wpS_pure h⟩
theorem dM{xs:Array Keyed}{i:Nat}{st:SortSt}{Q:Keyed->SortSt->Prop}{x:Keyed}(hi:xs[i]? =some x)(h:Q x st):wpS (model prog w) A E s (elem' xs i) Q st:=by
 rw [elem'_eq,hi]
 exact wpS_pure h
noncomputable def fJ(rk:Keyed->Nat)(left:Bool)(key x:Keyed):Bool:=if left then decide (rk x < rk key) else decide (rk x<=rk key)
theorem yI(R:Rk prog w A s κ a₀ rk){left:Bool}{key x:Keyed}{arr:Array Keyed}{i:Nat}{st:SortSt}{Q:Option Bool->SortSt->Prop}(hk:kindOf st=κ)(hkey:key∈a₀)(hi:arr[i]? =some x)(hx:x∈a₀)(h:Q (some (fJ rk left key x)) st):
  wpS (model prog w) A E s (do
   let x<-elem' arr i
   if left then lt' x key else return (<-lt' key x).map (!·)) Q st:=by
 refine wpS_bind (dM hi ?_)
 cases left with
 | true=>exact lu R hk hx hkey h
 | false=>
  simp only [Bool.false_eq_true,if_false]
  refine wpS_bind (lu R hk hkey hx (wpS_pure ?_))
  have e:fJ rk false key x= !decide (rk key < rk x):=by
   unfold fJ
   rw [if_neg (by decide)]
   by_cases z:rk key < rk x
   ·rw [decide_eq_true z,decide_eq_false (by omega)];rfl
   ·rw [decide_eq_false z,decide_eq_true (by omega)];rfl
  rw [e] at h
  exact h
theorem jo(R:Rk prog w A s κ a₀ rk){left:Bool}{key:Keyed}{arr:Array Keyed}{base n hint:Nat}{st:SortSt}{Q:Option Nat->SortSt->Prop}(B:Nat->Bool)(hk:kindOf st=κ)(hkey:key∈a₀)
  (hx:∀ i,i < n->∃ x,arr[base + i]? =some x/\x∈a₀/\fJ rk left key x=B i)(mono:∀ i j,i<=j->j < n->B j=true->B i=true)(hh:hint < n)
  (h:∀ k,k<=n->(∀ i,i < k->B i=true)->(∀ i,k<=i->i < n->B i=false)->Q (some k) st):wpS (model prog w) A E s (jl left key arr base n hint) Q st:=by
 rw [wU]
 have bq:∀{i:Nat} {Q:Option Bool->SortSt->Prop},i < n->Q (some (B i)) st->wpS (model prog w) A E s (do
   let x<-elem' arr (base + i)
   if left then lt' x key else return (<-lt' key x).map (!·)) Q st:=fun{i Q} hi hq=>by
  obtain⟨x,e1,e2,e3⟩:=hx i hi
  rw [<-e3] at hq
  exact yI R hk hkey e1 e2 hq
 have aa:∀ i j,i<=j->j < n->B i=false->B j=false:=fun i j a b c=>by
  cases z:B j with
  | false=>rfl
  | true=>rw [mono i j a b z] at c;cases c
 refine wpS_bind (bq hh ?_)
 cases hb:B hint with
 | true=>
  dsimp only
  rw [if_pos rfl]
  refine wpS_bind (wpS_mono (wpS_forRange (Q:=fun c U=>U=st/\∃ lst J:Nat,c=(none,lst,J)/\(hint + lst + 1)<=(hint + min J (n - hint))/\(hint + min J (n - hint))<=n/\(∀ i,i < (hint + lst + 1)->B i=true)/\(∀ i,(hint + min J (n - hint))<=i->i < n->B i=false)) (I:=fun x c U=>U=st/\∃ lst J:Nat,c=(none,lst,J)/\lst < J/\x + 1<=J/\lst < n - hint/\B (hint + lst)=true) ?_ ?_ ⟨rfl,0,1,rfl,by omega,by omega,by omega,hb⟩) ?_)
  ·rintro x c U _ ag ⟨rfl,lst,J,rfl,g1,g2,g3,g4⟩
   dsimp only
   by_cases z:J ≥ n - hint
   ·rw [if_pos z]
    exact wpS_pure ⟨rfl,lst,J,rfl,by omega,by omega,(fun i hi=>mono i _ (by omega) (by omega) g4),(fun i a b=>by omega)⟩
   ·rw [if_neg z]
    refine wpS_bind (bq (by omega) ?_)
    dsimp only
    cases hc:B (hint + J) with
    | true=>
     simp only [Bool.not_true,Bool.false_eq_true,if_false]
     exact wpS_pure ⟨rfl,_,_,rfl,by omega,by omega,by omega,hc⟩
    | false=>
     simp only [Bool.not_false,if_true]
     exact wpS_pure ⟨rfl,lst,J,rfl,by omega,by omega,(fun i hi=>mono i _ (by omega) (by omega) g4),(fun i a b=>aa _ i (by omega) b hc)⟩
  ·rintro c U ⟨rfl,lst,J,rfl,g1,g2,g3,g4⟩
   exact⟨rfl,lst,J,rfl,by omega,by omega,(fun i hi=>mono i _ (by omega) (by omega) g4),(fun i a b=>by omega)⟩
  rintro c U ⟨rfl,lst,J,rfl,f1,f2,f3,f4⟩
  dsimp only
  refine wpS_bind (wpS_forRange (I:=fun x c ae=>ae=U/\∃ lo hi:Nat,c=(none,lo,hi)/\lo<=hi/\hi - lo + x<=n/\hi<=n/\(∀ i,i < lo->B i=true)/\(∀ i,hi<=i->i < n->B i=false)) ?_ ?_ ⟨rfl,(hint + lst + 1),(hint + min J (n - hint)),rfl,f1,by omega,f2,f3,f4⟩)
  ·rintro x c U _ ag ⟨rfl,lo,hi,rfl,g1,g2,g3,g4,g5⟩
   dsimp only
   by_cases z:lo ≥ hi
   ·rw [if_pos z]
    exact wpS_pure (wpS_pure (h hi g3 (fun i af=>g4 i (by omega)) g5))
   ·rw [if_neg z]
    refine wpS_bind (bq (by omega) ?_)
    dsimp only
    cases hb:B (lo + (hi - lo) / 2) with
    | true=>
     rw [if_pos rfl]
     exact wpS_pure ⟨rfl,_,_,rfl,by omega,by omega,g3,fun i af=>mono i _ (by omega) (by omega) hb,g5⟩
    | false=>
     rw [if_neg (by decide)]
     exact wpS_pure ⟨rfl,_,_,rfl,by omega,by omega,by omega,g4,fun i a b=>aa _ i a b hb⟩
  ·rintro c U ⟨rfl,lo,hi,rfl,g1,g2,g3,g4,g5⟩
   exact wpS_pure (h hi g3 (fun i af=>g4 i (by omega)) g5)
 | false=>
  dsimp only
  rw [if_neg (by decide)]
  refine wpS_bind (wpS_mono (wpS_forRange (Q:=fun c U=>U=st/\∃ lst J:Nat,c=(none,lst,J)/\(hint + 1 - min J (hint + 1))<=(hint - lst)/\(hint - lst)<=n/\(∀ i,i < (hint + 1 - min J (hint + 1))->B i=true)/\(∀ i,(hint - lst)<=i->i < n->B i=false)) (I:=fun x c U=>U=st/\∃ lst J:Nat,c=(none,lst,J)/\lst < J/\x + 1<=J/\lst < hint + 1/\B (hint - lst)=false) ?_ ?_ ⟨rfl,0,1,rfl,by omega,by omega,by omega,hb⟩) ?_)
  ·rintro x c U _ ag ⟨rfl,lst,J,rfl,g1,g2,g3,g4⟩
   dsimp only
   by_cases z:J ≥ hint + 1
   ·rw [if_pos z]
    exact wpS_pure ⟨rfl,lst,J,rfl,by omega,by omega,(fun i hi=>by omega),(fun i a b=>aa _ i a b g4)⟩
   ·rw [if_neg z]
    refine wpS_bind (bq (by omega) ?_)
    dsimp only
    cases hc:B (hint - J) with
    | true=>
     rw [if_pos rfl]
     exact wpS_pure ⟨rfl,lst,J,rfl,by omega,by omega,(fun i hi=>mono i _ (by omega) (by omega) hc),(fun i a b=>aa _ i a b g4)⟩
    | false=>
     rw [if_neg (by decide)]
     exact wpS_pure ⟨rfl,_,_,rfl,by omega,by omega,by omega,hc⟩
  ·rintro c U ⟨rfl,lst,J,rfl,g1,g2,g3,g4⟩
   exact⟨rfl,lst,J,rfl,by omega,by omega,(fun i hi=>by omega),(fun i a b=>aa _ i a b g4)⟩
  rintro c U ⟨rfl,lst,J,rfl,f1,f2,f3,f4⟩
  dsimp only
  refine wpS_bind (wpS_forRange (I:=fun x c ae=>ae=U/\∃ lo hi:Nat,c=(none,lo,hi)/\lo<=hi/\hi - lo + x<=n/\hi<=n/\(∀ i,i < lo->B i=true)/\(∀ i,hi<=i->i < n->B i=false)) ?_ ?_ ⟨rfl,(hint + 1 - min J (hint + 1)),(hint - lst),rfl,f1,by omega,f2,f3,f4⟩)
  ·rintro x c U _ ag ⟨rfl,lo,hi,rfl,g1,g2,g3,g4,g5⟩
   dsimp only
   by_cases z:lo ≥ hi
   ·rw [if_pos z]
    exact wpS_pure (wpS_pure (h hi g3 (fun i af=>g4 i (by omega)) g5))
   ·rw [if_neg z]
    refine wpS_bind (bq (by omega) ?_)
    dsimp only
    cases hb:B (lo + (hi - lo) / 2) with
    | true=>
     rw [if_pos rfl]
     exact wpS_pure ⟨rfl,_,_,rfl,by omega,by omega,g3,fun i af=>mono i _ (by omega) (by omega) hb,g5⟩
    | false=>
     rw [if_neg (by decide)]
     exact wpS_pure ⟨rfl,_,_,rfl,by omega,by omega,by omega,g4,fun i a b=>aa _ i a b hb⟩
  ·rintro c U ⟨rfl,lo,hi,rfl,g1,g2,g3,g4,g5⟩
   exact wpS_pure (h hi g3 (fun i af=>g4 i (by omega)) g5)
end
noncomputable def qQ:Array Keyed->Array Keyed->StateT SortSt Sem (Array Keyed):=sortPriv% PySem.Builtin.mergeLo
noncomputable def oN:Array Keyed->Array Keyed->StateT SortSt Sem (Array Keyed):=sortPriv% PySem.Builtin.mergeHi
noncomputable abbrev setG(st:SortSt)(g:Nat):SortSt:=SortSt.mk' (kindOf st) (arrOf st) (pendingOf st) g (failedOf st)
theorem wz(a b:Array Keyed):qQ a b=(do
 rule "list.sort.merge-lo"
 let total:=a.size + b.size
 let done (out:Array Keyed) (ia ib:Nat):=out++a.extract ia a.size++b.extract ib b.size
 let lastOfA (out:Array Keyed) (ia ib:Nat):=out++b.extract ib b.size++a.extract ia a.size
 let mut out:Array Keyed:=#[<-elem' b 0]
 let mut ia:=0
 let mut ib:=1
 if ib == b.size then return done out ia ib
 if ia + 1 == a.size then return lastOfA out ia ib
 let mut minGallop:=gallopOf (<-get)
 for _ in [0:total] do
  let mut acount:=0
  let mut bcount:=0
  for _ in [0:total] do
   let some bWins<-lt' (<-elem' b ib) (<-elem' a ia) | return done out ia ib
   if bWins then
    out:=out.push (<-elem' b ib);ib:=ib + 1;bcount:=bcount + 1;acount:=0
    if ib == b.size then return done out ia ib
    if bcount ≥ minGallop then break
   else
    out:=out.push (<-elem' a ia);ia:=ia + 1;acount:=acount + 1;bcount:=0
    if ia + 1 == a.size then return lastOfA out ia ib
    if acount ≥ minGallop then break
  rule "list.sort.gallop"
  minGallop:=minGallop + 1
  for _ in [0:total] do
   if minGallop > 1 then minGallop:=minGallop - 1
   modify fun st=>setG st minGallop
   let some k<-jl false (<-elem' b ib) a ia (a.size - ia) 0 | return done out ia ib
   acount:=k
   if k > 0 then
    out:=out++a.extract ia (ia + k);ia:=ia + k
    if ia + 1 == a.size then return lastOfA out ia ib
    if ia == a.size then return done out ia ib
   out:=out.push (<-elem' b ib);ib:=ib + 1
   if ib == b.size then return done out ia ib
   let some k<-jl true (<-elem' a ia) b ib (b.size - ib) 0 | return done out ia ib
   bcount:=k
   if k > 0 then
    out:=out++b.extract ib (ib + k);ib:=ib + k
    if ib == b.size then return done out ia ib
   out:=out.push (<-elem' a ia);ia:=ia + 1
   if ia + 1 == a.size then return lastOfA out ia ib
   if acount < 7 && bcount < 7 then break
  minGallop:=minGallop + 1
  modify fun st=>setG st minGallop
 unsupported "internal:list.sort.merge-bound"):=rfl
noncomputable abbrev Sr(rk:Keyed->Nat)(l:List Keyed):Prop:=l.Pairwise fun x y=>rk x<=rk y
theorem pQ(a:Array Keyed)(i k:Nat):(a.extract i (i + k)).toList=(a.toList.drop i).take k:=by
 rw [Array.toList_extract,List.extract_eq_drop_take,Nat.add_sub_cancel_left]
theorem nu(a:Array Keyed)(i:Nat):(a.extract i a.size).toList=a.toList.drop i:=by
 rw [Array.toList_extract,List.extract_eq_drop_take]
 exact List.take_of_length_le (by rw [List.length_drop,Array.length_toList];exact Nat.le_refl _)
theorem nG(a:Array Keyed)(k:Nat):(a.extract 0 k).toList=a.toList.take k:=by
 rw [Array.toList_extract,List.extract_eq_drop_take];rfl
theorem gM{rk:Keyed->Nat}{l:List Keyed}(S:Sr rk l){i:Nat}{x:Keyed}(hi:l[i]? =some x):∀ y∈l.drop i,rk x<=rk y:=fun y U=>by
 obtain⟨k,hk,J⟩:=List.getElem_of_mem U
 rw [List.getElem_drop] at J
 obtain⟨hl,ex⟩:=List.getElem?_eq_some_iff.mp hi
 by_cases z:k=0
 ·subst z
  have:x=y:=by rw [<-ex,<-J];rfl
  rw [this];exact Nat.le_refl _
 ·have:=List.pairwise_iff_getElem.mp S i (i + k) hl (by rw [List.length_drop] at hk;omega) (by omega)
  rw [ex,J] at this
  exact this
theorem qx{rk:Keyed->Nat}{l:List Keyed}(S:Sr rk l){i:Nat}{x:Keyed}(hi:l[i]? =some x):∀ y∈l.take (i + 1),rk y<=rk x:=fun y U=>by
 obtain⟨k,hk,J⟩:=List.getElem_of_mem U
 rw [List.getElem_take] at J
 rw [List.length_take] at hk
 obtain⟨hl,ex⟩:=List.getElem?_eq_some_iff.mp hi
 by_cases z:k=i
 ·subst z
  rw [<-ex,<-J];exact Nat.le_refl _
 ·have:=List.pairwise_iff_getElem.mp S k i (by omega) hl (by omega)
  rw [ex,J] at this
  exact this
structure Inv (rk : Keyed -> Nat) (a b : List Keyed) (ia ib : Nat) (out : List Keyed) : Prop where
 pm : out.Perm (a.take ia ++ b.take ib)
 so : Sr rk out
 lo : ∀ x ∈ out, ∀ y ∈ a.drop ia ++ b.drop ib, rk x <= rk y
section
variable {rk : Keyed -> Nat} {a b out : List Keyed} {ia ib : Nat}
theorem Inv.takeA (I:Inv rk a b ia ib out)(Sa:Sr rk a){x:Keyed}(hx:a[ia]? =some x)(hb:∀ y∈b.drop ib,rk x<=rk y):Inv rk a b (ia + 1) ib (out++[x]):=by
 obtain⟨hl,ex⟩:=List.getElem?_eq_some_iff.mp hx
 have et:a.take (ia + 1)=a.take ia++[x]:=by rw [List.take_succ,hx];rfl
 have J:a.drop ia=x::a.drop (ia + 1):=by rw [<-ex];exact List.drop_eq_getElem_cons hl
 refine⟨?_,?_,fun u hu y hy=>?_⟩
 ·rw [et,List.append_assoc]
  have h1:(out++[x]).Perm ((a.take ia++b.take ib)++[x]):=I.pm.append_right [x]
  refine h1.trans ?_
  rw [List.append_assoc]
  exact(List.perm_append_comm (l₁:=b.take ib) (l₂:=[x])).append_left _
 ·refine List.pairwise_append.mpr ⟨I.so,List.pairwise_singleton _ _,fun u hu v U=>?_⟩
  rw [List.mem_singleton] at U
  rw [U]
  exact I.lo u hu x (by rw [J];simp)
 ·rcases List.mem_append.mp hy with hy | hy
  ·rcases List.mem_append.mp hu with hu | hu
   ·exact I.lo u hu y (by rw [J];simp [hy])
   ·rw [List.mem_singleton] at hu
    rw [hu]
    exact gM Sa hx y (by rw [J];simp [hy])
  ·rcases List.mem_append.mp hu with hu | hu
   ·exact I.lo u hu y (by simp [hy])
   ·rw [List.mem_singleton] at hu
    rw [hu]
    exact hb y hy
theorem Inv.swap (I:Inv rk a b ia ib out):Inv rk b a ib ia out:=⟨I.pm.trans List.perm_append_comm,I.so,fun x U y J=>I.lo x U y (by rw [List.mem_append] at J ⊢;exact J.symm)⟩
theorem Inv.takeB (I:Inv rk a b ia ib out)(Sb:Sr rk b){x:Keyed}(hx:b[ib]? =some x)(hb:∀ y∈a.drop ia,rk x<=rk y):Inv rk a b ia (ib + 1) (out++[x]):=(I.swap.takeA Sb hx hb).swap
theorem Inv.manyA (Sa:Sr rk a):∀(k:Nat) {ia:Nat} {out:List Keyed},Inv rk a b ia ib out->ia + k<=a.length->(∀ i x,i < k->a[ia + i]? =some x->∀ y∈b.drop ib,rk x<=rk y)->Inv rk a b (ia + k) ib (out++(a.drop ia).take k)
 | 0,ia,out,I,_,_=>by simpa using I
 | k + 1,ia,out,I,hk,h=>by
  have J:ia < a.length:=by omega
  have h1:=I.takeA Sa (List.getElem?_eq_getElem J) (h 0 _ (by omega) (List.getElem?_eq_getElem J))
  have h2:=Inv.manyA Sa k h1 (by omega) fun i x hi U=>h (i + 1) x (by omega) (by rw [<-U];congr 1;omega)
  have e:(a.drop ia).take (k + 1)=a[ia]::(a.drop (ia + 1)).take k:=by rw [List.drop_eq_getElem_cons J,List.take_succ_cons]
  rw [e]
  rw [List.append_assoc] at h2
  have e2:ia + 1 + k=ia + (k + 1):=by omega
  rw [e2] at h2
  exact h2
theorem Inv.manyB (Sb:Sr rk b)(k:Nat)(I:Inv rk a b ia ib out)(hk:ib + k<=b.length)(h:∀ i x,i < k->b[ib + i]? =some x->∀ y∈a.drop ia,rk x<=rk y):Inv rk a b ia (ib + k) (out++(b.drop ib).take k):=(I.swap.manyA Sb k hk h).swap
noncomputable def fu(rk:Keyed->Nat)(a b r:List Keyed):Prop:=r.Perm (a++b)/\Sr rk r
theorem Inv.ends (I:Inv rk a b ia ib out)(Sa:Sr rk a)(Sb:Sr rk b)(h:∀ x∈a.drop ia,∀ y∈b.drop ib,rk x<=rk y):fu rk a b (out++a.drop ia++b.drop ib):=by
 refine⟨?_,?_⟩
 ·rw [List.append_assoc]
  refine(I.pm.append_right _).trans ?_
  have h1:((a.take ia++b.take ib)++(a.drop ia++b.drop ib)).Perm ((a.take ia++a.drop ia)++(b.take ib++b.drop ib)):=by
   rw [List.append_assoc,List.append_assoc]
   refine List.Perm.append_left _ ?_
   rw [<-List.append_assoc,<-List.append_assoc]
   exact List.Perm.append_right _ List.perm_append_comm
  rw [List.take_append_drop,List.take_append_drop] at h1
  exact h1
 ·rw [List.append_assoc]
  refine List.pairwise_append.mpr ⟨I.so,List.pairwise_append.mpr ⟨Sa.sublist (List.drop_sublist _ _),Sb.sublist (List.drop_sublist _ _),h⟩,I.lo⟩
theorem fu.swap {r:List Keyed}(J:fu rk b a r):fu rk a b r:=⟨J.1.trans List.perm_append_comm,J.2⟩
theorem Al{x:Keyed}(hx:b[0]? =some x)(Sb:Sr rk b)(ha:∀ y∈a,rk x<=rk y):Inv rk a b 0 1 [x]:=by
 have J:Inv rk a b 0 0 []:=⟨by simp,List.Pairwise.nil,fun x hx=>by simp at hx⟩
 exact J.takeB Sb hx ha
end
section
variable {prog : Program} {w : World} {A : Around} {E : Value -> Shared -> Prop} {s : Shared} {κ : SortKind} {a₀ : Array Keyed} {rk : Keyed -> Nat}
noncomputable def lW(rk:Keyed->Nat)(a b:Array Keyed)(t:Nat)(out:Array Keyed)(ia ib:Nat):Prop:=Inv rk a.toList b.toList ia ib out.toList/\ia + 1 < a.size/\ib < b.size/\t<=ia + ib
theorem dO{a:Array Keyed}{i:Nat}{x:Keyed}(h:a[i]? =some x):a.toList[i]? =some x:=by rw [Array.getElem?_toList];exact h
theorem gG{key x:Keyed}:fJ rk false key x=true↔rk x<=rk key:=by unfold fJ;simp
theorem fG{key x:Keyed}:fJ rk true key x=true↔rk x < rk key:=by unfold fJ;simp
theorem nJ{key x:Keyed}(h:fJ rk false key x=false):rk key < rk x:=by
 have:¬ rk x<=rk key:=fun z=>by rw [gG.mpr z] at h;cases h
 omega
theorem j9{key x:Keyed}(h:fJ rk true key x=false):rk key<=rk x:=by
 have:¬ rk x < rk key:=fun z=>by rw [fG.mpr z] at h;cases h
 omega
theorem mU{a:Array Keyed}(S:Sr rk a.toList){i j:Nat}(hij:i<=j)(hj:j < a.size):rk (a[i]!)<=rk (a[j]!):=by
 rw [getElem!_pos a i (by omega),getElem!_pos a j hj]
 by_cases e:i=j
 ·subst e;exact Nat.le_refl _
 ·exact List.pairwise_iff_getElem.mp S i j (by simp;(clear e;omega)) (by simp;omega) (by omega)
theorem yd(R:Rk prog w A s κ a₀ rk){a b:Array Keyed}{st:SortSt}{Q:Array Keyed->SortSt->Prop}(hk:kindOf st=κ)(ma:∀ x∈a,x∈a₀)(mb:∀ x∈b,x∈a₀)(Sa:Sr rk a.toList)(Sb:Sr rk b.toList)
  (na:0 < a.size)(nb:0 < b.size)(h0:∀ x,b[0]? =some x->∀ y∈a.toList,rk x<=rk y)(hl:∀ x,a[a.size - 1]? =some x->∀ y∈b.toList,rk y<=rk x)
  (h:∀(r:Array Keyed) (g:Nat),fu rk a.toList b.toList r.toList->Q r (setG st g)):wpS (model prog w) A E s (qQ a b) Q st:=by
 rw [wz]
 have sel:setG st (gallopOf st)=st:=rfl
 have aq:∀{i:Nat} {x:Keyed},a[i]? =some x->x∈a₀:=fun{i x} e=>ma x (Array.mem_of_getElem? e)
 have ar:∀{i:Nat} {x:Keyed},b[i]? =some x->x∈a₀:=fun{i x} e=>mb x (Array.mem_of_getElem? e)
 have fa:∀{i:Nat},i < a.size->a[i]? =some (a[i]!):=fun{i} hi=>by rw [Array.getElem?_eq_getElem hi,getElem!_pos a i hi]
 have fb:∀{i:Nat},i < b.size->b[i]? =some (b[i]!):=fun{i} hi=>by rw [Array.getElem?_eq_getElem hi,getElem!_pos b i hi]
 have ga:∀{i j:Nat},i<=j->j < a.size->rk (a[i]!)<=rk (a[j]!):=fun h1 h2=>mU Sa h1 h2
 have gb:∀{i j:Nat},i<=j->j < b.size->rk (b[i]!)<=rk (b[j]!):=fun h1 h2=>mU Sb h1 h2
 have Done:∀{out:Array Keyed} {ia ib:Nat},Inv rk a.toList b.toList ia ib out.toList->ib=b.size\/ia=a.size->fu rk a.toList b.toList (out++a.extract ia a.size++b.extract ib b.size).toList:=fun{out ia ib} I e=>by
  rw [Array.toList_append,Array.toList_append,nu,nu]
  refine I.ends Sa Sb fun x hx y hy=>?_
  rcases e with e | e
  ·rw [e,List.drop_of_length_le (by simp)] at hy;simp at hy
  ·rw [e,List.drop_of_length_le (by simp)] at hx;simp at hx
 have Last:∀{out:Array Keyed} {ia ib:Nat},Inv rk a.toList b.toList ia ib out.toList->ia + 1=a.size->fu rk a.toList b.toList (out++b.extract ib b.size++a.extract ia a.size).toList:=fun{out ia ib} I e=>by
  rw [Array.toList_append,Array.toList_append,nu,nu]
  refine(I.swap.ends Sb Sa fun x hx y hy=>?_).swap
  have e1:a.size - 1=ia:=by(clear nb na;omega)
  have aw:ia < a.toList.length:=by simp;(clear e1 nb na;omega)
  rw [List.drop_eq_getElem_cons aw,List.drop_of_length_le (by simp;(clear e nb na;omega)),List.mem_singleton] at hy
  have:=hl a.toList[ia] (by rw [e1,<-Array.getElem?_toList];exact List.getElem?_eq_getElem aw) x (List.mem_of_mem_drop hx)
  rw [hy];exact this
 refine wpS_bind (wpS_lift (wpAny_rule ⟨rfl,?_⟩))
 dsimp only
 refine wpS_bind (dM (fb nb) ?_)
 have I1:Inv rk a.toList b.toList 0 1 (#[b[0]!]:Array Keyed).toList:=Al (dO (fb nb)) Sb fun y hy=>h0 _ (fb nb) y hy
 by_cases e1:(1 == b.size)=true
 ·rw [if_pos e1]
  exact wpS_pure (sel ▸ h _ (gallopOf st) (Done I1 (.inl (beq_iff_eq.mp e1))))
 ·rw [if_neg e1]
  by_cases e2:(0 + 1 == a.size)=true
  ·rw [if_pos e2]
   exact wpS_pure (sel ▸ h _ (gallopOf st) (Last I1 (by have:=beq_iff_eq.mp e2;(clear nb na;omega))))
  ·rw [if_neg e2]
   have U:¬ 1=b.size:=fun z=>e1 (beq_iff_eq.mpr z)
   have aa:¬ 0 + 1=a.size:=fun z=>e2 (beq_iff_eq.mpr z)
   refine wpS_bind (wpS_get ?_)
   refine wpS_bind (wpS_mono (wpS_forRange
    (I:=fun x c ah=>∃ out ia ib mg g,c=(none,out,ia,ib,mg)/\ah=setG st g/\lW rk a b x out ia ib)
    (Q:=fun c ah=>∃ r g,c.1=some r/\ah=setG st g/\fu rk a.toList b.toList r.toList) ?step ?fin ⟨_,_,_,_,gallopOf st,rfl,sel.symm,I1,by(clear U nb;omega),by omega,by omega⟩) ?post)
   case post=>
    rintro⟨c1,c2⟩ ah ⟨r,g,rfl,rfl,J⟩
    exact wpS_pure (h r g J)
   case fin=>
    rintro c ah ⟨out,ia,ib,mg,g,rfl,rfl,m1,m2,m3,m4⟩
    (clear aa U nb na;omega)
   case step=>
    rintro x c ah _ hx ⟨out,ia,ib,mg,g,rfl,rfl,M⟩
    dsimp only
    refine wpS_bind (wpS_mono (wpS_forRange
     (I:=fun y c ah=>∃ out ia ib ac bc,c=(none,out,ia,ib,ac,bc)/\ah=setG st g/\lW rk a b (x + y) out ia ib)
     (Q:=fun c ah=>ah=setG st g/\((∃ r,c.1=some r/\fu rk a.toList b.toList r.toList)\/∃ out ia ib ac bc,c=(none,out,ia,ib,ac,bc)/\lW rk a b (x + 1) out ia ib)) ?s1 ?f1 ⟨_,_,_,_,_,rfl,rfl,M⟩) ?p1)
    case f1=>
     rintro c ah ⟨out,ia,ib,ac,bc,rfl,rfl,m1,m2,m3,m4⟩
     exact⟨rfl,.inr ⟨_,_,_,_,_,rfl,m1,m2,m3,by(clear m2 hx aa U nb na;omega)⟩⟩
    case s1=>
     rintro y c ah _ hy ⟨out,ia,ib,ac,bc,rfl,rfl,m1,m2,m3,m4⟩
     dsimp only
     refine wpS_bind (dM (fb m3) (wpS_bind (dM (fa (by(clear m4 m3 hy hx aa U nb na;omega))) (wpS_bind (lu R hk (ar (fb m3)) (aq (fa (by omega))) ?_)))))
     dsimp only
     by_cases z:rk (b[ib]!) < rk (a[ia]!)
     ·rw [decide_eq_true z,if_pos rfl]
      refine wpS_bind (dM (fb m3) ?_)
      have I2:=m1.takeB Sb (dO (fb m3)) fun y hy=>Nat.le_trans (Nat.le_of_lt z) (gM Sa (dO (fa (by(clear z m4 m3 hx aa U nb na;omega)))) y hy)
      rw [<-Array.toList_push] at I2
      split
      ·rename_i e
       exact wpS_pure ⟨rfl,.inl ⟨_,rfl,Done I2 (.inl (beq_iff_eq.mp e))⟩⟩
      ·rename_i e
       have e':¬ ib + 1=b.size:=fun z=>e (beq_iff_eq.mpr z)
       split
       ·exact wpS_pure ⟨rfl,.inr ⟨_,_,_,_,_,rfl,I2,m2,by(clear z m4 m2 hy hx aa U nb na;omega),by omega⟩⟩
       ·exact wpS_pure ⟨_,_,_,_,_,rfl,rfl,I2,m2,by(clear z m4 m2 hy hx aa U nb na;omega),by omega⟩
     ·rw [decide_eq_false z,if_neg (by decide)]
      refine wpS_bind (dM (fa (by(clear z m4 m3 hy hx aa U nb na;omega))) ?_)
      have I2:=m1.takeA Sa (dO (fa (by(clear z m4 m3 hy hx aa U nb na;omega)))) fun y hy=>Nat.le_trans (Nat.not_lt.mp z) (gM Sb (dO (fb m3)) y hy)
      rw [<-Array.toList_push] at I2
      split
      ·rename_i e
       exact wpS_pure ⟨rfl,.inl ⟨_,rfl,Last I2 (beq_iff_eq.mp e)⟩⟩
      ·rename_i e
       have e':¬ ia + 1 + 1=a.size:=fun z=>e (beq_iff_eq.mpr z)
       split
       ·exact wpS_pure ⟨rfl,.inr ⟨_,_,_,_,_,rfl,I2,by(clear z m4 m3 hy hx aa U nb na;omega),m3,by omega⟩⟩
       ·exact wpS_pure ⟨_,_,_,_,_,rfl,rfl,I2,by(clear z m4 m3 hy hx aa U nb na;omega),m3,by omega⟩
    case p1=>
     rintro c ah ⟨rfl,h1⟩
     rcases h1 with ⟨r,e,J⟩ | ⟨out,ia,ib,ac,bc,rfl,M1⟩
     ·rw [e]
      exact wpS_pure ⟨r,g,rfl,rfl,J⟩
     ·dsimp only
      refine wpS_bind (wpS_lift (wpAny_rule ⟨rfl,?_⟩))
      refine wpS_bind (wpS_mono (wpS_forRange
       (I:=fun y c ah=>∃ out ia ib mg ac bc g,c=(none,out,ia,ib,mg,ac,bc)/\ah=setG st g/\lW rk a b (x + 1) out ia ib)
       (Q:=fun c ah=>∃ g,ah=setG st g/\((∃ r,c.1=some r/\fu rk a.toList b.toList r.toList)\/∃ out ia ib mg ac bc,c=(none,out,ia,ib,mg,ac,bc)/\lW rk a b (x + 1) out ia ib)) ?s2 ?f2 ⟨_,_,_,_,_,_,g,rfl,rfl,M1⟩) ?p2)
      case f2=>
       rintro c ah ⟨out,ia,ib,mg,ac,bc,g,rfl,rfl,M2⟩
       exact⟨g,rfl,.inr ⟨_,_,_,_,_,_,rfl,M2⟩⟩
      case p2=>
       rintro c ah ⟨g',rfl,h1⟩
       rcases h1 with ⟨r,e,J⟩ | ⟨out,ia,ib,mg,ac,bc,rfl,M2⟩
       ·rw [e]
        exact wpS_pure ⟨r,g',rfl,rfl,J⟩
       ·dsimp only
        exact wpS_bind (wpS_modify (wpS_pure ⟨_,_,_,_,_,rfl,rfl,M2⟩))
      case s2=>
       rintro y c ah _ hy ⟨out,ia,ib,mg,ac,bc,g',rfl,rfl,m1,m2,m3,m4⟩
       dsimp only
       by_cases zg:mg > 1
       rw [if_pos zg]
       rotate_left
       rw [if_neg zg]
       all_goals
        refine wpS_bind (wpS_modify ?_)
        refine wpS_bind (dM (fb m3) ?_)
        refine wpS_bind (jo R (fun i=>fJ rk false (b[ib]!) (a[ia + i]!)) hk (ar (fb m3)) (fun i hi=>⟨_,fa (by(clear zg m4 m3 m2 hy hx aa U nb na;omega)),aq (fa (by omega)),rfl⟩) (fun i j e1 e2 e3=>gG.mpr (Nat.le_trans (ga (by omega) (by omega)) (gG.mp e3))) (by omega) fun k k1 k2 k3=>?_)
        dsimp only
        have IA:=m1.manyA Sa k (by rw [Array.length_toList];(clear zg m4 m3 hy hx aa U nb na;omega)) fun i x hi hx y hy=>by
         rw [Array.getElem?_toList,fa (by(clear hx zg m4 m3 m2 aa U nb na;omega))] at hx
         cases hx
         exact Nat.le_trans (gG.mp (k2 i hi)) (gM Sb (dO (fb m3)) y hy)
        rw [<-pQ,<-Array.toList_append] at IA
        by_cases zk:k > 0
        ·rw [if_pos zk]
         by_cases q1:(ia + k + 1 == a.size)=true
         ·rw [if_pos q1]
          exact wpS_pure ⟨_,rfl,.inl ⟨_,rfl,Last IA (beq_iff_eq.mp q1)⟩⟩
         ·rw [if_neg q1]
          have ak:¬ ia + k + 1=a.size:=fun z=>q1 (beq_iff_eq.mpr z)
          by_cases q2:(ia + k == a.size)=true
          ·rw [if_pos q2]
           exact wpS_pure ⟨_,rfl,.inl ⟨_,rfl,Done IA (.inr (beq_iff_eq.mp q2))⟩⟩
          ·rw [if_neg q2]
           have au:¬ ia + k=a.size:=fun z=>q2 (beq_iff_eq.mpr z)
           have ae:=nJ (k3 k (by(clear au ak zk k1 zg m4 m3 m2 hy hx aa U nb na;omega)) (by omega))
           refine wpS_bind (dM (fb m3) ?_)
           have I3:=IA.takeB Sb (dO (fb m3)) fun y hy=>Nat.le_trans (Nat.le_of_lt ae) (gM Sa (dO (fa (by(clear ae ak zg m4 m3 m2 hx aa U nb na;omega):ia + k < a.size))) y hy)
           rw [<-Array.toList_push] at I3
           by_cases q3:(ib + 1 == b.size)=true
           ·rw [if_pos q3]
            exact wpS_pure ⟨_,rfl,.inl ⟨_,rfl,Done I3 (.inl (beq_iff_eq.mp q3))⟩⟩
           ·rw [if_neg q3]
            have af:¬ ib + 1=b.size:=fun z=>q3 (beq_iff_eq.mpr z)
            refine wpS_bind (dM (fa (by(clear af ae ak zg m4 m3 m2 hy hx aa U nb na;omega):ia + k < a.size)) ?_)
            refine wpS_bind (jo R (fun i=>fJ rk true (a[ia + k]!) (b[ib + 1 + i]!)) hk (aq (fa (by(clear af ae ak zg m4 m3 m2 hy hx aa U nb na;omega):ia + k < a.size))) (fun i hi=>⟨_,fb (by omega),ar (fb (by omega)),rfl⟩) (fun i j e1 e2 e3=>fG.mpr (Nat.lt_of_le_of_lt (gb (by omega) (by omega)) (fG.mp e3))) (by omega) fun k' j1 j2 j3=>?_)
            dsimp only
            have IB:=I3.manyB Sb k' (by rw [Array.length_toList];(clear af ae au ak zk k1 zg m4 m2 hy hx aa U nb na;omega)) fun i x hi hx y hy=>by
             rw [Array.getElem?_toList,fb (by(clear hx af ae au ak zk k1 zg m4 m3 m2 aa U nb na;omega))] at hx
             cases hx
             exact Nat.le_trans (Nat.le_of_lt (fG.mp (j2 i hi))) (gM Sa (dO (fa (by(clear hi j1 af ae ak zg m4 m3 m2 hx aa U nb na;omega):ia + k < a.size))) y hy)
            rw [<-pQ,<-Array.toList_append] at IB
            by_cases ag:k' > 0
            ·rw [if_pos ag]
             by_cases q4:(ib + 1 + k' == b.size)=true
             ·rw [if_pos q4]
              exact wpS_pure ⟨_,rfl,.inl ⟨_,rfl,Done IB (.inl (beq_iff_eq.mp q4))⟩⟩
             ·rw [if_neg q4]
              have ao:¬ ib + 1 + k'=b.size:=fun z=>q4 (beq_iff_eq.mpr z)
              refine wpS_bind (dM (fa (by(clear ao ag j1 af ae ak zg m4 m3 m2 hy hx aa U nb na;omega):ia + k < a.size)) ?_)
              have I4:=IB.takeA Sa (dO (fa (by(clear ao ag j1 af ae ak zg m4 m3 m2 hy hx aa U nb na;omega):ia + k < a.size))) fun y hy=>Nat.le_trans (by have z4:=j9 (j3 k' (by omega) (by omega));exact z4) (gM Sb (dO (fb (by omega:ib + 1 + k' < b.size))) y hy)
              rw [<-Array.toList_push] at I4
              by_cases q5:(ia + k + 1 + 1 == a.size)=true
              ·rw [if_pos q5]
               exact wpS_pure ⟨_,rfl,.inl ⟨_,rfl,Last I4 (beq_iff_eq.mp q5)⟩⟩
              ·rw [if_neg q5]
               have av:¬ ia + k + 1 + 1=a.size:=fun z=>q5 (beq_iff_eq.mpr z)
               by_cases q6:(decide (k < 7) && decide (k' < 7))=true
               ·rw [if_pos q6]
                exact wpS_pure ⟨_,rfl,.inr ⟨_,_,_,_,_,_,rfl,I4,by(clear q6 ao ag j1 af ae zg m4 m3 m2 hy hx aa U nb na;omega),by omega,by omega⟩⟩
               ·rw [if_neg q6]
                exact wpS_pure ⟨_,_,_,_,_,_,_,rfl,rfl,I4,by(clear q6 ao ag j1 af ae zg m4 m3 m2 hy hx aa U nb na;omega),by omega,by omega⟩
            ·rw [if_neg ag]
             have z0:k'=0:=by(clear j1 af ae au ak zk k1 zg m4 m3 m2 hy hx aa U nb na;omega)
             subst z0
             refine wpS_bind (dM (fa (by(clear ag j1 af ae ak zg m4 m3 m2 hy hx aa U nb na;omega):ia + k < a.size)) ?_)
             have I4:=I3.takeA Sa (dO (fa (by(clear ag j1 af ae ak zg m4 m3 m2 hy hx aa U nb na;omega):ia + k < a.size))) fun y hy=>Nat.le_trans (by have z4:=j9 (j3 0 (by omega) (by omega));exact z4) (gM Sb (dO (fb (by omega:ib + 1 < b.size))) y hy)
             rw [<-Array.toList_push] at I4
             by_cases q5:(ia + k + 1 + 1 == a.size)=true
             ·rw [if_pos q5]
              exact wpS_pure ⟨_,rfl,.inl ⟨_,rfl,Last I4 (beq_iff_eq.mp q5)⟩⟩
             ·rw [if_neg q5]
              have av:¬ ia + k + 1 + 1=a.size:=fun z=>q5 (beq_iff_eq.mpr z)
              by_cases q6:(decide (k < 7) && decide (0 < 7))=true
              ·rw [if_pos q6]
               exact wpS_pure ⟨_,rfl,.inr ⟨_,_,_,_,_,_,rfl,I4,by(clear q6 ag j1 af ae zg m4 m3 m2 hy hx aa U nb na;omega),by omega,by omega⟩⟩
              ·rw [if_neg q6]
               exact wpS_pure ⟨_,_,_,_,_,_,_,rfl,rfl,I4,by(clear q6 ag j1 af ae zg m4 m3 m2 hy hx aa U nb na;omega),by omega,by omega⟩
        ·rw [if_neg zk]
         have z0:k=0:=by(clear k1 zg m4 m3 m2 hy hx aa U nb na;omega)
         subst z0
         have ae:=nJ (k3 0 (by(clear zk k1 zg m4 m3 m2 hy hx aa U nb na;omega)) (by omega))
         refine wpS_bind (dM (fb m3) ?_)
         have I3:=m1.takeB Sb (dO (fb m3)) fun y hy=>Nat.le_trans (Nat.le_of_lt ae) (gM Sa (dO (fa (by(clear ae zk k1 zg m4 m3 hx aa U nb na;omega):ia < a.size))) y hy)
         rw [<-Array.toList_push] at I3
         by_cases q3:(ib + 1 == b.size)=true
         ·rw [if_pos q3]
          exact wpS_pure ⟨_,rfl,.inl ⟨_,rfl,Done I3 (.inl (beq_iff_eq.mp q3))⟩⟩
         ·rw [if_neg q3]
          have af:¬ ib + 1=b.size:=fun z=>q3 (beq_iff_eq.mpr z)
          refine wpS_bind (dM (fa (by(clear af ae zk k1 zg m4 m3 hy hx aa U nb na;omega):ia < a.size)) ?_)
          refine wpS_bind (jo R (fun i=>fJ rk true (a[ia]!) (b[ib + 1 + i]!)) hk (aq (fa (by(clear af ae zk k1 zg m4 m3 hy hx aa U nb na;omega):ia < a.size))) (fun i hi=>⟨_,fb (by omega),ar (fb (by omega)),rfl⟩) (fun i j e1 e2 e3=>fG.mpr (Nat.lt_of_le_of_lt (gb (by omega) (by omega)) (fG.mp e3))) (by omega) fun k' j1 j2 j3=>?_)
          dsimp only
          have IB:=I3.manyB Sb k' (by rw [Array.length_toList];(clear af ae zk k1 zg m4 m2 hy hx aa U nb na;omega)) fun i x hi hx y hy=>by
           rw [Array.getElem?_toList,fb (by(clear hx af ae zk k1 zg m4 m3 m2 aa U nb na;omega))] at hx
           cases hx
           exact Nat.le_trans (Nat.le_of_lt (fG.mp (j2 i hi))) (gM Sa (dO (fa (by(clear hi j1 af ae zk k1 zg m4 m3 hx aa U nb na;omega):ia < a.size))) y hy)
          rw [<-pQ,<-Array.toList_append] at IB
          by_cases ag:k' > 0
          ·rw [if_pos ag]
           by_cases q4:(ib + 1 + k' == b.size)=true
           ·rw [if_pos q4]
            exact wpS_pure ⟨_,rfl,.inl ⟨_,rfl,Done IB (.inl (beq_iff_eq.mp q4))⟩⟩
           ·rw [if_neg q4]
            have ao:¬ ib + 1 + k'=b.size:=fun z=>q4 (beq_iff_eq.mpr z)
            refine wpS_bind (dM (fa (by(clear ao ag j1 af ae zk k1 zg m4 m3 hy hx aa U nb na;omega):ia < a.size)) ?_)
            have I4:=IB.takeA Sa (dO (fa (by(clear ao ag j1 af ae zk k1 zg m4 m3 hy hx aa U nb na;omega):ia < a.size))) fun y hy=>Nat.le_trans (by have z4:=j9 (j3 k' (by omega) (by omega));exact z4) (gM Sb (dO (fb (by omega:ib + 1 + k' < b.size))) y hy)
            rw [<-Array.toList_push] at I4
            by_cases q5:(ia + 1 + 1 == a.size)=true
            ·rw [if_pos q5]
             exact wpS_pure ⟨_,rfl,.inl ⟨_,rfl,Last I4 (beq_iff_eq.mp q5)⟩⟩
            ·rw [if_neg q5]
             have av:¬ ia + 1 + 1=a.size:=fun z=>q5 (beq_iff_eq.mpr z)
             by_cases q6:(decide (0 < 7) && decide (k' < 7))=true
             ·rw [if_pos q6]
              exact wpS_pure ⟨_,rfl,.inr ⟨_,_,_,_,_,_,rfl,I4,by(clear q6 ao ag j1 af ae zk k1 zg m4 m3 hy hx aa U nb na;omega),by omega,by omega⟩⟩
             ·rw [if_neg q6]
              exact wpS_pure ⟨_,_,_,_,_,_,_,rfl,rfl,I4,by(clear q6 ao ag j1 af ae zk k1 zg m4 m3 hy hx aa U nb na;omega),by omega,by omega⟩
          ·rw [if_neg ag]
           have z0:k'=0:=by(clear j1 af ae zk k1 zg m4 m3 m2 hy hx aa U nb na;omega)
           subst z0
           refine wpS_bind (dM (fa (by(clear ag j1 af ae zk k1 zg m4 m3 hy hx aa U nb na;omega):ia < a.size)) ?_)
           have I4:=I3.takeA Sa (dO (fa (by(clear ag j1 af ae zk k1 zg m4 m3 hy hx aa U nb na;omega):ia < a.size))) fun y hy=>Nat.le_trans (by have z4:=j9 (j3 0 (by omega) (by omega));exact z4) (gM Sb (dO (fb (by omega:ib + 1 < b.size))) y hy)
           rw [<-Array.toList_push] at I4
           by_cases q5:(ia + 1 + 1 == a.size)=true
           ·rw [if_pos q5]
            exact wpS_pure ⟨_,rfl,.inl ⟨_,rfl,Last I4 (beq_iff_eq.mp q5)⟩⟩
           ·rw [if_neg q5]
            have av:¬ ia + 1 + 1=a.size:=fun z=>q5 (beq_iff_eq.mpr z)
            by_cases q6:(decide (0 < 7) && decide (0 < 7))=true
            ·rw [if_pos q6]
             exact wpS_pure ⟨_,rfl,.inr ⟨_,_,_,_,_,_,rfl,I4,by(clear q6 ag j1 af ae zk k1 zg m4 m3 hy hx aa U nb na;omega),by omega,by omega⟩⟩
            ·rw [if_neg q6]
             exact wpS_pure ⟨_,_,_,_,_,_,_,rfl,rfl,I4,by(clear q6 ag j1 af ae zk k1 zg m4 m3 hy hx aa U nb na;omega),by omega,by omega⟩
end
theorem wI(a b:Array Keyed):oN a b=(do
 rule "list.sort.merge-hi"
 let total:=a.size + b.size
 let done (out:Array Keyed) (na nb:Nat):=a.extract 0 na++b.extract 0 nb++out.reverse
 let firstOfB (out:Array Keyed) (na nb:Nat):=b.extract 0 nb++a.extract 0 na++out.reverse
 let mut na:=a.size - 1
 let mut nb:=b.size
 let mut out:Array Keyed:=#[<-elem' a na]
 if na == 0 then return done out na nb
 if nb == 1 then return firstOfB out na nb
 let mut minGallop:=gallopOf (<-get)
 for _ in [0:total] do
  let mut acount:=0
  let mut bcount:=0
  for _ in [0:total] do
   let some aWins<-lt' (<-elem' b (nb - 1)) (<-elem' a (na - 1)) | return done out na nb
   if aWins then
    na:=na - 1;out:=out.push (<-elem' a na);acount:=acount + 1;bcount:=0
    if na == 0 then return done out na nb
    if acount ≥ minGallop then break
   else
    nb:=nb - 1;out:=out.push (<-elem' b nb);bcount:=bcount + 1;acount:=0
    if nb == 1 then return firstOfB out na nb
    if bcount ≥ minGallop then break
  rule "list.sort.gallop"
  minGallop:=minGallop + 1
  for _ in [0:total] do
   if minGallop > 1 then minGallop:=minGallop - 1
   modify fun st=>setG st minGallop
   let some at_<-jl false (<-elem' b (nb - 1)) a 0 na (na - 1) | return done out na nb
   let k:=na - at_
   acount:=k
   if k > 0 then
    out:=out++(a.extract at_ na).reverse;na:=at_
    if na == 0 then return done out na nb
   nb:=nb - 1;out:=out.push (<-elem' b nb)
   if nb == 1 then return firstOfB out na nb
   let some at_<-jl true (<-elem' a (na - 1)) b 0 nb (nb - 1) | return done out na nb
   let k:=nb - at_
   bcount:=k
   if k > 0 then
    out:=out++(b.extract at_ nb).reverse;nb:=at_
    if nb == 1 then return firstOfB out na nb
    if nb == 0 then return done out na nb
   na:=na - 1;out:=out.push (<-elem' a na)
   if na == 0 then return done out na nb
   if acount < 7 && bcount < 7 then break
  minGallop:=minGallop + 1
  modify fun st=>setG st minGallop
 unsupported "internal:list.sort.merge-bound"):=rfl
structure Top (rk : Keyed -> Nat) (a b : List Keyed) (na nb : Nat) (out : List Keyed) : Prop where
 pm : out.Perm (a.drop na ++ b.drop nb)
 so : out.Pairwise fun x y => rk y <= rk x
 hi : ∀ x ∈ out, ∀ y ∈ a.take na ++ b.take nb, rk y <= rk x
section
variable {rk : Keyed -> Nat} {a b out : List Keyed} {na nb : Nat}
theorem Top.takeA (I:Top rk a b (na + 1) nb out)(Sa:Sr rk a){x:Keyed}(hx:a[na]? =some x)(hb:∀ y∈b.take nb,rk y<=rk x):Top rk a b na nb (out++[x]):=by
 obtain⟨hl,ex⟩:=List.getElem?_eq_some_iff.mp hx
 have J:a.take (na + 1)=a.take na++[x]:=by rw [List.take_succ,hx];rfl
 have ed:a.drop na=x::a.drop (na + 1):=by rw [<-ex];exact List.drop_eq_getElem_cons hl
 refine⟨?_,?_,fun u hu y hy=>?_⟩
 ·rw [ed]
  have h1:(out++[x]).Perm ((a.drop (na + 1)++b.drop nb)++[x]):=I.pm.append_right [x]
  exact h1.trans (List.perm_append_comm (l₂:=[x]))
 ·refine List.pairwise_append.mpr ⟨I.so,List.pairwise_singleton _ _,fun u hu v U=>?_⟩
  rw [List.mem_singleton] at U
  rw [U]
  exact I.hi u hu x (by rw [J];simp)
 ·rcases List.mem_append.mp hy with hy | hy
  ·rcases List.mem_append.mp hu with hu | hu
   ·exact I.hi u hu y (by rw [J];simp [hy])
   ·rw [List.mem_singleton] at hu
    rw [hu]
    exact qx Sa hx y (by rw [J];simp [hy])
  ·rcases List.mem_append.mp hu with hu | hu
   ·exact I.hi u hu y (by simp [hy])
   ·rw [List.mem_singleton] at hu
    rw [hu]
    exact hb y hy
theorem Top.swap (I:Top rk a b na nb out):Top rk b a nb na out:=⟨I.pm.trans List.perm_append_comm,I.so,fun x U y J=>I.hi x U y (by rw [List.mem_append] at J ⊢;exact J.symm)⟩
theorem Top.takeB (I:Top rk a b na (nb + 1) out)(Sb:Sr rk b){x:Keyed}(hx:b[nb]? =some x)(hb:∀ y∈a.take na,rk y<=rk x):Top rk a b na nb (out++[x]):=(I.swap.takeA Sb hx hb).swap
theorem Top.manyA (Sa:Sr rk a){at_:Nat}:∀(k:Nat) {out:List Keyed},Top rk a b (at_ + k) nb out->at_ + k<=a.length->(∀ i x,at_<=i->i < at_ + k->a[i]? =some x->∀ y∈b.take nb,rk y<=rk x)->Top rk a b at_ nb (out++((a.drop at_).take k).reverse)
 | 0,out,I,_,_=>by simpa using I
 | k + 1,out,I,hk,h=>by
  have J:at_ + k < a.length:=by omega
  have h1:=Top.takeA I Sa (List.getElem?_eq_getElem J) (h _ _ (by omega) (by omega) (List.getElem?_eq_getElem J))
  have h2:=Top.manyA Sa k h1 (by omega) fun i x U h4 hx=>h i x U (by omega) hx
  have e:(a.drop at_).take (k + 1)=(a.drop at_).take k++[a[at_ + k]]:=by
   rw [List.take_succ,List.getElem?_drop,List.getElem?_eq_getElem J];rfl
  rw [e,List.reverse_append]
  rw [List.append_assoc] at h2
  exact h2
theorem Top.manyB (Sb:Sr rk b){at_:Nat}(k:Nat)(I:Top rk a b na (at_ + k) out)(hk:at_ + k<=b.length)(h:∀ i x,at_<=i->i < at_ + k->b[i]? =some x->∀ y∈a.take na,rk y<=rk x):Top rk a b na at_ (out++((b.drop at_).take k).reverse):=(I.swap.manyA Sb k hk h).swap
theorem Top.ends (I:Top rk a b na nb out)(Sa:Sr rk a)(Sb:Sr rk b)(h:∀ x∈a.take na,∀ y∈b.take nb,rk x<=rk y):fu rk a b (a.take na++b.take nb++out.reverse):=by
 refine⟨?_,?_⟩
 ·have h0:out.reverse.Perm (a.drop na++b.drop nb):=(List.reverse_perm out).trans I.pm
  refine(h0.append_left _).trans ?_
  have h1:((a.take na++b.take nb)++(a.drop na++b.drop nb)).Perm ((a.take na++a.drop na)++(b.take nb++b.drop nb)):=by
   rw [List.append_assoc,List.append_assoc]
   refine List.Perm.append_left _ ?_
   rw [<-List.append_assoc,<-List.append_assoc]
   exact List.Perm.append_right _ List.perm_append_comm
  rw [List.take_append_drop,List.take_append_drop] at h1
  exact h1
 ·refine List.pairwise_append.mpr ⟨List.pairwise_append.mpr ⟨Sa.sublist (List.take_sublist _ _),Sb.sublist (List.take_sublist _ _),h⟩,List.pairwise_reverse.mpr I.so,fun x J y U=>I.hi y (List.mem_reverse.mp U) x J⟩
theorem Cc{x:Keyed}{n m:Nat}(hn:a.length=n + 1)(hm:b.length=m)(hx:a[n]? =some x)(Sa:Sr rk a)(hb:∀ y∈b,rk y<=rk x):Top rk a b n m [x]:=by
 have J:Top rk a b (n + 1) m []:=⟨by rw [<-hn,<-hm];simp,List.Pairwise.nil,fun x hx=>by simp at hx⟩
 exact J.takeA Sa hx fun y U=>hb y (List.mem_of_mem_take U)
end
section
variable {prog : Program} {w : World} {A : Around} {E : Value -> Shared -> Prop} {s : Shared} {κ : SortKind} {a₀ : Array Keyed} {rk : Keyed -> Nat}
noncomputable def lU(rk:Keyed->Nat)(a b:Array Keyed)(t:Nat)(out:Array Keyed)(na nb:Nat):Prop:=Top rk a.toList b.toList na nb out.toList/\0 < na/\na<=a.size/\1 < nb/\nb<=b.size/\na + nb + t<=a.size + b.size
theorem qG(a:Array Keyed){i j:Nat}(h:i<=j):(a.extract i j).toList=(a.toList.drop i).take (j - i):=by
 rw [Array.toList_extract,List.extract_eq_drop_take]
theorem Top.cast {a b:List Keyed}{na nb na' nb':Nat}{out:List Keyed}(I:Top rk a b na nb out)(e1:na=na')(e2:nb=nb'):Top rk a b na' nb' out:=by subst e1;subst e2;exact I
theorem Br(R:Rk prog w A s κ a₀ rk){a b:Array Keyed}{st:SortSt}{Q:Array Keyed->SortSt->Prop}(hk:kindOf st=κ)(ma:∀ x∈a,x∈a₀)(mb:∀ x∈b,x∈a₀)(Sa:Sr rk a.toList)(Sb:Sr rk b.toList)
  (na0:0 < a.size)(nb0:0 < b.size)(h0:∀ x,b[0]? =some x->∀ y∈a.toList,rk x<=rk y)(hl:∀ x,a[a.size - 1]? =some x->∀ y∈b.toList,rk y<=rk x)
  (h:∀(r:Array Keyed) (g:Nat),fu rk a.toList b.toList r.toList->Q r (setG st g)):wpS (model prog w) A E s (oN a b) Q st:=by
 rw [wI]
 have sel:setG st (gallopOf st)=st:=rfl
 have ak:∀{i:Nat} {x:Keyed},a[i]? =some x->x∈a₀:=fun{i x} e=>ma x (Array.mem_of_getElem? e)
 have ao:∀{i:Nat} {x:Keyed},b[i]? =some x->x∈a₀:=fun{i x} e=>mb x (Array.mem_of_getElem? e)
 have fa:∀{i:Nat},i < a.size->a[i]? =some (a[i]!):=fun{i} hi=>by rw [Array.getElem?_eq_getElem hi,getElem!_pos a i hi]
 have fb:∀{i:Nat},i < b.size->b[i]? =some (b[i]!):=fun{i} hi=>by rw [Array.getElem?_eq_getElem hi,getElem!_pos b i hi]
 have ga:∀{i j:Nat},i<=j->j < a.size->rk (a[i]!)<=rk (a[j]!):=fun h1 h2=>mU Sa h1 h2
 have gb:∀{i j:Nat},i<=j->j < b.size->rk (b[i]!)<=rk (b[j]!):=fun h1 h2=>mU Sb h1 h2
 have ae:∀{n:Nat} {y:Keyed},0 < n->n<=a.size->y∈a.toList.take n->rk y<=rk (a[n - 1]!):=fun{n y} h1 h2 hy=>qx Sa (dO (fa (i:=n - 1) (by omega))) y (by rw [show n - 1 + 1=n by omega];exact hy)
 have aa:∀{n:Nat} {y:Keyed},0 < n->n<=b.size->y∈b.toList.take n->rk y<=rk (b[n - 1]!):=fun{n y} h1 h2 hy=>qx Sb (dO (fb (i:=n - 1) (by omega))) y (by rw [show n - 1 + 1=n by omega];exact hy)
 have Done:∀{out:Array Keyed} {na nb:Nat},Top rk a.toList b.toList na nb out.toList->na=0\/nb=0->fu rk a.toList b.toList (a.extract 0 na++b.extract 0 nb++out.reverse).toList:=fun{out na nb} I e=>by
  rw [Array.toList_append,Array.toList_append,nG,nG,Array.toList_reverse]
  refine I.ends Sa Sb fun x hx y hy=>?_
  rcases e with e | e
  ·rw [e] at hx;simp at hx
  ·rw [e] at hy;simp at hy
 have af:∀{out:Array Keyed} {na nb:Nat},Top rk a.toList b.toList na nb out.toList->nb=1->fu rk a.toList b.toList (b.extract 0 nb++a.extract 0 na++out.reverse).toList:=fun{out na nb} I e=>by
  rw [Array.toList_append,Array.toList_append,nG,nG,Array.toList_reverse]
  refine(I.swap.ends Sb Sa fun x hx y hy=>?_).swap
  rw [e] at hx
  have e1:b.toList.take 1=[b[0]!]:=by
   rw [show(1:Nat)=0 + 1 from rfl,List.take_succ,dO (fb nb0)];rfl
  rw [e1,List.mem_singleton] at hx
  rw [hx]
  exact h0 _ (fb nb0) y (List.mem_of_mem_take hy)
 refine wpS_bind (wpS_lift (wpAny_rule ⟨rfl,?_⟩))
 dsimp only
 refine wpS_bind (dM (fa (by omega:a.size - 1 < a.size)) ?_)
 have I1:Top rk a.toList b.toList (a.size - 1) b.size (#[a[a.size - 1]!]:Array Keyed).toList:=Cc (by rw [Array.length_toList];omega) Array.length_toList (dO (fa (by omega))) Sa fun y hy=>hl _ (fa (by omega)) y hy
 by_cases e1:(a.size - 1 == 0)=true
 ·rw [if_pos e1]
  exact wpS_pure (sel ▸ h _ (gallopOf st) (Done I1 (.inl (beq_iff_eq.mp e1))))
 ·rw [if_neg e1]
  by_cases e2:(b.size == 1)=true
  ·rw [if_pos e2]
   exact wpS_pure (sel ▸ h _ (gallopOf st) (af I1 (beq_iff_eq.mp e2)))
  ·rw [if_neg e2]
   have aw:¬ a.size - 1=0:=fun z=>e1 (beq_iff_eq.mpr z)
   have ax:¬ b.size=1:=fun z=>e2 (beq_iff_eq.mpr z)
   refine wpS_bind (wpS_get ?_)
   refine wpS_bind (wpS_mono (wpS_forRange
    (I:=fun x c U=>∃ na nb out mg g,c=(none,na,nb,out,mg)/\U=setG st g/\lU rk a b x out na nb)
    (Q:=fun c U=>∃ r g,c.1=some r/\U=setG st g/\fu rk a.toList b.toList r.toList) ?step ?fin ⟨_,_,_,_,gallopOf st,rfl,sel.symm,I1,by omega,by omega,by omega,by omega,by omega⟩) ?post)
   case post=>
    rintro⟨c1,c2⟩ U ⟨r,g,rfl,rfl,J⟩
    exact wpS_pure (h r g J)
   case fin=>
    rintro c U ⟨na,nb,out,mg,g,rfl,rfl,m1,m2,m3,m4,m5,m6⟩
    omega
   case step=>
    rintro x c U _ hx ⟨na,nb,out,mg,g,rfl,rfl,M⟩
    dsimp only
    refine wpS_bind (wpS_mono (wpS_forRange
     (I:=fun y c U=>∃ na nb out ac bc,c=(none,na,nb,out,ac,bc)/\U=setG st g/\lU rk a b (x + y) out na nb)
     (Q:=fun c U=>U=setG st g/\((∃ r,c.1=some r/\fu rk a.toList b.toList r.toList)\/∃ na nb out ac bc,c=(none,na,nb,out,ac,bc)/\lU rk a b (x + 1) out na nb)) ?s1 ?f1 ⟨_,_,_,_,_,rfl,rfl,M⟩) ?p1)
    case f1=>
     rintro c U ⟨na,nb,out,ac,bc,rfl,rfl,m1,m2,m3,m4,m5,m6⟩
     exact⟨rfl,.inr ⟨_,_,_,_,_,rfl,m1,m2,m3,m4,m5,by omega⟩⟩
    case s1=>
     rintro y c U _ hy ⟨na,nb,out,ac,bc,rfl,rfl,m1,m2,m3,m4,m5,m6⟩
     dsimp only
     refine wpS_bind (dM (fb (by omega:nb - 1 < b.size)) (wpS_bind (dM (fa (by omega:na - 1 < a.size)) (wpS_bind (lu R hk (ao (fb (by omega:nb - 1 < b.size))) (ak (fa (by omega:na - 1 < a.size))) ?_)))))
     dsimp only
     by_cases z:rk (b[nb - 1]!) < rk (a[na - 1]!)
     ·rw [decide_eq_true z,if_pos rfl]
      refine wpS_bind (dM (fa (by omega:na - 1 < a.size)) ?_)
      have I2:=(m1.cast (na':=na - 1 + 1) (by omega) rfl).takeA Sa (dO (fa (by omega:na - 1 < a.size))) fun y hy=>Nat.le_trans (aa (by omega) m5 hy) (Nat.le_of_lt z)
      rw [<-Array.toList_push] at I2
      by_cases e:(na - 1 == 0)=true
      ·rw [if_pos e]
       exact wpS_pure ⟨rfl,.inl ⟨_,rfl,Done I2 (.inl (beq_iff_eq.mp e))⟩⟩
      ·rw [if_neg e]
       have e':¬ na - 1=0:=fun z=>e (beq_iff_eq.mpr z)
       split
       ·exact wpS_pure ⟨rfl,.inr ⟨_,_,_,_,_,rfl,I2,by omega,by omega,m4,m5,by omega⟩⟩
       ·exact wpS_pure ⟨_,_,_,_,_,rfl,rfl,I2,by omega,by omega,m4,m5,by omega⟩
     ·rw [decide_eq_false z,if_neg (by decide)]
      refine wpS_bind (dM (fb (by omega:nb - 1 < b.size)) ?_)
      have I2:=(m1.cast (nb':=nb - 1 + 1) rfl (by omega)).takeB Sb (dO (fb (by omega:nb - 1 < b.size))) fun y hy=>Nat.le_trans (ae m2 m3 hy) (Nat.not_lt.mp z)
      rw [<-Array.toList_push] at I2
      by_cases e:(nb - 1 == 1)=true
      ·rw [if_pos e]
       exact wpS_pure ⟨rfl,.inl ⟨_,rfl,af I2 (beq_iff_eq.mp e)⟩⟩
      ·rw [if_neg e]
       have e':¬ nb - 1=1:=fun z=>e (beq_iff_eq.mpr z)
       split
       ·exact wpS_pure ⟨rfl,.inr ⟨_,_,_,_,_,rfl,I2,m2,m3,by omega,by omega,by omega⟩⟩
       ·exact wpS_pure ⟨_,_,_,_,_,rfl,rfl,I2,m2,m3,by omega,by omega,by omega⟩
    case p1=>
     rintro c U ⟨rfl,h1⟩
     rcases h1 with ⟨r,e,J⟩ | ⟨na,nb,out,ac,bc,rfl,M1⟩
     ·rw [e]
      exact wpS_pure ⟨r,g,rfl,rfl,J⟩
     ·dsimp only
      refine wpS_bind (wpS_lift (wpAny_rule ⟨rfl,?_⟩))
      refine wpS_bind (wpS_mono (wpS_forRange
       (I:=fun y c U=>∃ na nb out mg ac bc g,c=(none,na,nb,out,mg,ac,bc)/\U=setG st g/\lU rk a b (x + 1) out na nb)
       (Q:=fun c U=>∃ g,U=setG st g/\((∃ r,c.1=some r/\fu rk a.toList b.toList r.toList)\/∃ na nb out mg ac bc,c=(none,na,nb,out,mg,ac,bc)/\lU rk a b (x + 1) out na nb)) ?s2 ?f2 ⟨_,_,_,_,_,_,g,rfl,rfl,M1⟩) ?p2)
      case f2=>
       rintro c U ⟨na,nb,out,mg,ac,bc,g,rfl,rfl,M2⟩
       exact⟨g,rfl,.inr ⟨_,_,_,_,_,_,rfl,M2⟩⟩
      case p2=>
       rintro c U ⟨g',rfl,h1⟩
       rcases h1 with ⟨r,e,J⟩ | ⟨na,nb,out,mg,ac,bc,rfl,M2⟩
       ·rw [e]
        exact wpS_pure ⟨r,g',rfl,rfl,J⟩
       ·dsimp only
        exact wpS_bind (wpS_modify (wpS_pure ⟨_,_,_,_,_,rfl,rfl,M2⟩))
      case s2=>
       rintro y c U _ hy ⟨na,nb,out,mg,ac,bc,g',rfl,rfl,m1,m2,m3,m4,m5,m6⟩
       dsimp only
       by_cases zg:mg > 1
       rw [if_pos zg]
       rotate_left
       rw [if_neg zg]
       all_goals
        refine wpS_bind (wpS_modify ?_)
        refine wpS_bind (dM (fb (by omega:nb - 1 < b.size)) ?_)
        refine wpS_bind (jo R (fun i=>fJ rk false (b[nb - 1]!) (a[i]!)) hk (ao (fb (by omega:nb - 1 < b.size))) (fun i hi=>⟨_,by rw [Nat.zero_add];exact fa (by omega),ak (fa (by omega)),rfl⟩) (fun i j e1 e2 e3=>gG.mpr (Nat.le_trans (ga (by omega) (by omega)) (gG.mp e3))) (by omega) fun k k1 k2 k3=>?_)
        dsimp only
        have IA:=(m1.cast (na':=k + (na - k)) (by omega) rfl).manyA Sa (na - k) (by rw [Array.length_toList];omega) fun i x h1 h2 hx y hy=>by
         rw [Array.getElem?_toList,fa (by omega)] at hx
         cases hx
         exact Nat.le_trans (aa (by omega) m5 hy) (Nat.le_of_lt (nJ (k3 i h1 (by omega))))
        rw [<-qG a (by omega),<-Array.toList_reverse,<-Array.toList_append] at IA
        by_cases zk:na - k > 0
        ·rw [if_pos zk]
         by_cases q2:(k == 0)=true
         ·rw [if_pos q2]
          exact wpS_pure ⟨_,rfl,.inl ⟨_,rfl,Done IA (.inl (beq_iff_eq.mp q2))⟩⟩
         ·rw [if_neg q2]
          have ay:¬ k=0:=fun z=>q2 (beq_iff_eq.mpr z)
          have ag:0 < k:=by omega
          refine wpS_bind (dM (fb (by omega:nb - 1 < b.size)) ?_)
          have I3:=(IA.cast (nb':=nb - 1 + 1) rfl (by omega)).takeB Sb (dO (fb (by omega:nb - 1 < b.size))) fun y hy=>Nat.le_trans (ae ag (by omega) hy) (gG.mp (k2 (k - 1) (by omega)))
          rw [<-Array.toList_push] at I3
          by_cases q3:(nb - 1 == 1)=true
          ·rw [if_pos q3]
           exact wpS_pure ⟨_,rfl,.inl ⟨_,rfl,af I3 (beq_iff_eq.mp q3)⟩⟩
          ·rw [if_neg q3]
           have ar:¬ nb - 1=1:=fun z=>q3 (beq_iff_eq.mpr z)
           refine wpS_bind (dM (fa (by omega:k - 1 < a.size)) ?_)
           refine wpS_bind (jo R (fun i=>fJ rk true (a[k - 1]!) (b[i]!)) hk (ak (fa (by omega:k - 1 < a.size))) (fun i hi=>⟨_,by rw [Nat.zero_add];exact fb (by omega),ao (fb (by omega)),rfl⟩) (fun i j e1 e2 e3=>fG.mpr (Nat.lt_of_le_of_lt (gb (by omega) (by omega)) (fG.mp e3))) (by omega) fun k' j1 j2 j3=>?_)
           dsimp only
           have IB:=(I3.cast (nb':=k' + (nb - 1 - k')) rfl (by omega)).manyB Sb (nb - 1 - k') (by rw [Array.length_toList];omega) fun i x h1 h2 hx y hy=>by
            rw [Array.getElem?_toList,fb (by omega)] at hx
            cases hx
            exact Nat.le_trans (ae ag (by omega) hy) (j9 (j3 i h1 (by omega)))
           rw [<-qG b (by omega),<-Array.toList_reverse,<-Array.toList_append] at IB
           by_cases ah:nb - 1 - k' > 0
           ·rw [if_pos ah]
            by_cases q4:(k' == 1)=true
            ·rw [if_pos q4]
             exact wpS_pure ⟨_,rfl,.inl ⟨_,rfl,af IB (beq_iff_eq.mp q4)⟩⟩
            ·rw [if_neg q4]
             have au:¬ k'=1:=fun z=>q4 (beq_iff_eq.mpr z)
             by_cases q7:(k' == 0)=true
             ·rw [if_pos q7]
              exact wpS_pure ⟨_,rfl,.inl ⟨_,rfl,Done IB (.inr (beq_iff_eq.mp q7))⟩⟩
             ·rw [if_neg q7]
              have av:¬ k'=0:=fun z=>q7 (beq_iff_eq.mpr z)
              refine wpS_bind (dM (fa (by omega:k - 1 < a.size)) ?_)
              have I4:=(IB.cast (na':=k - 1 + 1) (by omega) rfl).takeA Sa (dO (fa (by omega:k - 1 < a.size))) fun y hy=>Nat.le_trans (aa (by omega) (by omega) hy) (Nat.le_of_lt (fG.mp (j2 (k' - 1) (by omega))))
              rw [<-Array.toList_push] at I4
              by_cases q5:(k - 1 == 0)=true
              ·rw [if_pos q5]
               exact wpS_pure ⟨_,rfl,.inl ⟨_,rfl,Done I4 (.inl (beq_iff_eq.mp q5))⟩⟩
              ·rw [if_neg q5]
               have aq:¬ k - 1=0:=fun z=>q5 (beq_iff_eq.mpr z)
               by_cases q6:(decide (na - k < 7) && decide (nb - 1 - k' < 7))=true
               ·rw [if_pos q6]
                exact wpS_pure ⟨_,rfl,.inr ⟨_,_,_,_,_,_,rfl,I4,by omega,by omega,by omega,by omega,by omega⟩⟩
               ·rw [if_neg q6]
                exact wpS_pure ⟨_,_,_,_,_,_,_,rfl,rfl,I4,by omega,by omega,by omega,by omega,by omega⟩
           ·rw [if_neg ah]
            refine wpS_bind (dM (fa (by omega:k - 1 < a.size)) ?_)
            have I4:=(I3.cast (na':=k - 1 + 1) (by omega) rfl).takeA Sa (dO (fa (by omega:k - 1 < a.size))) fun y hy=>Nat.le_trans (aa (by omega) (by omega) hy) (Nat.le_of_lt (fG.mp (j2 ((nb - 1) - 1) (by omega))))
            rw [<-Array.toList_push] at I4
            by_cases q5:(k - 1 == 0)=true
            ·rw [if_pos q5]
             exact wpS_pure ⟨_,rfl,.inl ⟨_,rfl,Done I4 (.inl (beq_iff_eq.mp q5))⟩⟩
            ·rw [if_neg q5]
             have aq:¬ k - 1=0:=fun z=>q5 (beq_iff_eq.mpr z)
             by_cases q6:(decide (na - k < 7) && decide (nb - 1 - k' < 7))=true
             ·rw [if_pos q6]
              exact wpS_pure ⟨_,rfl,.inr ⟨_,_,_,_,_,_,rfl,I4,by omega,by omega,by omega,by omega,by omega⟩⟩
             ·rw [if_neg q6]
              exact wpS_pure ⟨_,_,_,_,_,_,_,rfl,rfl,I4,by omega,by omega,by omega,by omega,by omega⟩
        ·rw [if_neg zk]
         have ag:0 < na:=m2
         refine wpS_bind (dM (fb (by omega:nb - 1 < b.size)) ?_)
         have I3:=(m1.cast (nb':=nb - 1 + 1) rfl (by omega)).takeB Sb (dO (fb (by omega:nb - 1 < b.size))) fun y hy=>Nat.le_trans (ae ag (by omega) hy) (gG.mp (k2 (na - 1) (by omega)))
         rw [<-Array.toList_push] at I3
         by_cases q3:(nb - 1 == 1)=true
         ·rw [if_pos q3]
          exact wpS_pure ⟨_,rfl,.inl ⟨_,rfl,af I3 (beq_iff_eq.mp q3)⟩⟩
         ·rw [if_neg q3]
          have ar:¬ nb - 1=1:=fun z=>q3 (beq_iff_eq.mpr z)
          refine wpS_bind (dM (fa (by omega:na - 1 < a.size)) ?_)
          refine wpS_bind (jo R (fun i=>fJ rk true (a[na - 1]!) (b[i]!)) hk (ak (fa (by omega:na - 1 < a.size))) (fun i hi=>⟨_,by rw [Nat.zero_add];exact fb (by omega),ao (fb (by omega)),rfl⟩) (fun i j e1 e2 e3=>fG.mpr (Nat.lt_of_le_of_lt (gb (by omega) (by omega)) (fG.mp e3))) (by omega) fun k' j1 j2 j3=>?_)
          dsimp only
          have IB:=(I3.cast (nb':=k' + (nb - 1 - k')) rfl (by omega)).manyB Sb (nb - 1 - k') (by rw [Array.length_toList];omega) fun i x h1 h2 hx y hy=>by
           rw [Array.getElem?_toList,fb (by omega)] at hx
           cases hx
           exact Nat.le_trans (ae ag (by omega) hy) (j9 (j3 i h1 (by omega)))
          rw [<-qG b (by omega),<-Array.toList_reverse,<-Array.toList_append] at IB
          by_cases ah:nb - 1 - k' > 0
          ·rw [if_pos ah]
           by_cases q4:(k' == 1)=true
           ·rw [if_pos q4]
            exact wpS_pure ⟨_,rfl,.inl ⟨_,rfl,af IB (beq_iff_eq.mp q4)⟩⟩
           ·rw [if_neg q4]
            have au:¬ k'=1:=fun z=>q4 (beq_iff_eq.mpr z)
            by_cases q7:(k' == 0)=true
            ·rw [if_pos q7]
             exact wpS_pure ⟨_,rfl,.inl ⟨_,rfl,Done IB (.inr (beq_iff_eq.mp q7))⟩⟩
            ·rw [if_neg q7]
             have av:¬ k'=0:=fun z=>q7 (beq_iff_eq.mpr z)
             refine wpS_bind (dM (fa (by omega:na - 1 < a.size)) ?_)
             have I4:=(IB.cast (na':=na - 1 + 1) (by omega) rfl).takeA Sa (dO (fa (by omega:na - 1 < a.size))) fun y hy=>Nat.le_trans (aa (by omega) (by omega) hy) (Nat.le_of_lt (fG.mp (j2 (k' - 1) (by omega))))
             rw [<-Array.toList_push] at I4
             by_cases q5:(na - 1 == 0)=true
             ·rw [if_pos q5]
              exact wpS_pure ⟨_,rfl,.inl ⟨_,rfl,Done I4 (.inl (beq_iff_eq.mp q5))⟩⟩
             ·rw [if_neg q5]
              have aq:¬ na - 1=0:=fun z=>q5 (beq_iff_eq.mpr z)
              by_cases q6:(decide (na - k < 7) && decide (nb - 1 - k' < 7))=true
              ·rw [if_pos q6]
               exact wpS_pure ⟨_,rfl,.inr ⟨_,_,_,_,_,_,rfl,I4,by omega,by omega,by omega,by omega,by omega⟩⟩
              ·rw [if_neg q6]
               exact wpS_pure ⟨_,_,_,_,_,_,_,rfl,rfl,I4,by omega,by omega,by omega,by omega,by omega⟩
          ·rw [if_neg ah]
           refine wpS_bind (dM (fa (by omega:na - 1 < a.size)) ?_)
           have I4:=(I3.cast (na':=na - 1 + 1) (by omega) rfl).takeA Sa (dO (fa (by omega:na - 1 < a.size))) fun y hy=>Nat.le_trans (aa (by omega) (by omega) hy) (Nat.le_of_lt (fG.mp (j2 ((nb - 1) - 1) (by omega))))
           rw [<-Array.toList_push] at I4
           by_cases q5:(na - 1 == 0)=true
           ·rw [if_pos q5]
            exact wpS_pure ⟨_,rfl,.inl ⟨_,rfl,Done I4 (.inl (beq_iff_eq.mp q5))⟩⟩
           ·rw [if_neg q5]
            have aq:¬ na - 1=0:=fun z=>q5 (beq_iff_eq.mpr z)
            by_cases q6:(decide (na - k < 7) && decide (nb - 1 - k' < 7))=true
            ·rw [if_pos q6]
             exact wpS_pure ⟨_,rfl,.inr ⟨_,_,_,_,_,_,rfl,I4,by omega,by omega,by omega,by omega,by omega⟩⟩
            ·rw [if_neg q6]
             exact wpS_pure ⟨_,_,_,_,_,_,_,rfl,rfl,I4,by omega,by omega,by omega,by omega,by omega⟩
end
noncomputable def Chain(rk:Keyed->Nat)(l:List Keyed):Nat->List (Nat×Nat×Nat)->Nat->Prop
 | s,[],e=>s=e
 | s,r::P,e=>r.1=s/\0 < r.2.1/\Sr rk ((l.drop s).take r.2.1)/\Chain rk l (s + r.2.1) P e
theorem Chain.split {rk:Keyed->Nat}{l:List Keyed}:∀{A B:List (Nat×Nat×Nat)} {s e:Nat},Chain rk l s (A++B) e->∃ m,Chain rk l s A m/\Chain rk l m B e
 | [],B,s,e,h=>⟨s,rfl,h⟩
 | r::A,B,s,e,h=>by
  obtain⟨h1,h2,J,U⟩:=h
  obtain⟨m,a,b⟩:=Chain.split U
  exact⟨m,⟨h1,h2,J,a⟩,b⟩
theorem Chain.join {rk:Keyed->Nat}{l:List Keyed}:∀{A B:List (Nat×Nat×Nat)} {s m e:Nat},Chain rk l s A m->Chain rk l m B e->Chain rk l s (A++B) e
 | [],B,s,m,e,h,k=>by cases h;exact k
 | r::A,B,s,m,e,h,k=>⟨h.1,h.2.1,h.2.2.1,Chain.join h.2.2.2 k⟩
theorem Chain.le {rk:Keyed->Nat}{l:List Keyed}:∀{A:List (Nat×Nat×Nat)} {s m:Nat},Chain rk l s A m->s + A.length<=m
 | [],s,m,h=>by cases h;exact Nat.le_refl _
 | r::A,s,m,h=>by
  have:=Chain.le h.2.2.2
  have:=h.2.1
  rw [List.length_cons]
  omega
theorem tG{l:List Keyed}{s n m:Nat}(h:s + n<=m):(l.drop s).take n=((l.take m).drop s).take n:=by
 rw [List.drop_take,List.take_take,Nat.min_eq_left (by omega)]
theorem Chain.keepL {rk:Keyed->Nat}{l l':List Keyed}:∀{A:List (Nat×Nat×Nat)} {s m:Nat},Chain rk l s A m->l'.take m=l.take m->Chain rk l' s A m
 | [],s,m,h,e=>h
 | r::A,s,m,h,e=>by
  have:=Chain.le h.2.2.2
  exact⟨h.1,h.2.1,by rw [tG (m:=m) (by omega),e,<-tG (by omega)];exact h.2.2.1,Chain.keepL h.2.2.2 e⟩
theorem Chain.keepR {rk:Keyed->Nat}{l l':List Keyed}:∀{A:List (Nat×Nat×Nat)} {s m:Nat},Chain rk l s A m->l'.drop s=l.drop s->Chain rk l' s A m
 | [],s,m,h,e=>h
 | r::A,s,m,h,e=>⟨h.1,h.2.1,by rw [e];exact h.2.2.1,Chain.keepR h.2.2.2 (by rw [<-List.drop_drop,<-List.drop_drop,e])⟩
theorem rP:∀(r:List Keyed) (o n:Nat) (arr:Array Keyed),o + n + r.length<=arr.size->
  ((r.zipIdx n).foldl (fun a (x:Keyed×Nat)=>a.setIfInBounds (o + x.2) x.1) arr).toList=arr.toList.take (o + n)++r++arr.toList.drop (o + n + r.length)
 | [],o,n,arr,h=>by simp
 | p::r,o,n,arr,h=>by
  rw [List.length_cons] at h
  rw [List.zipIdx_cons,List.foldl_cons]
  have hs:(arr.setIfInBounds (o + n) p).size=arr.size:=Array.size_setIfInBounds
  rw [rP r o (n + 1) _ (by rw [hs];omega),Array.toList_setIfInBounds]
  have J:o + n < arr.toList.length:=by simp;omega
  have U:(arr.toList.set (o + n) p).take (o + (n + 1))=arr.toList.take (o + n)++[p]:=by
   rw [show o + (n + 1)=o + n + 1 by omega,List.take_succ,List.take_set_of_le (Nat.le_refl _),List.getElem?_set_self J]
   rfl
  have e2:(arr.toList.set (o + n) p).drop (o + (n + 1) + r.length)=arr.toList.drop (o + n + (p::r).length):=by
   rw [List.drop_set_of_lt (by omega),List.length_cons]
   congr 1
   omega
  rw [U,e2]
  simp
theorem wj(i:Nat):mergeAt' i=(do
 let s<-get
 let (some (sa,na,power),some (sb,nb,_)):=((pendingOf s)[i]?,(pendingOf s)[i + 1]?) | unsupported "internal:list.sort.pending"
 set (setPending s (((pendingOf s).setIfInBounds i (sa,na + nb,power)).eraseIdxIfInBounds (i + 1)))
 let some k<-jl false (<-elem' (arrOf s) sb) (arrOf s) sa na 0 | return false
 let (sa,na):=(sa + k,na - k)
 if na == 0 then return true
 let some nb<-jl true (<-elem' (arrOf s) (sa + na - 1)) (arrOf s) sb nb (nb - 1) | return false
 if nb == 0 then return true
 let x:=(arrOf s).extract sa sb
 let y:=(arrOf s).extract sb (sb + nb)
 let merged<-if na<=nb then qQ x y else oN x y
 modify fun s=>setArr s (merged.toList.zipIdx.foldl (fun a (p,j)=>a.setIfInBounds (sa + j) p) (arrOf s))
 return (failedOf (<-get)).isNone):=rfl
theorem parts{l:List Keyed}{sa na nb k n':Nat}(h:sa + na + nb<=l.length)(hk:k<=na)(hn:n'<=nb):
  ∃ P X1 X2 Y1 Y2 T,l=P++(X1++(X2++(Y1++(Y2++T))))/\P.length=sa/\X1.length=k/\X2.length=na - k/\Y1.length=n'/\Y2.length=nb - n':=by
 refine⟨l.take sa,(l.drop sa).take k,(l.drop (sa + k)).take (na - k),(l.drop (sa + na)).take n',(l.drop (sa + na + n')).take (nb - n'),l.drop (sa + na + nb),?_,?_,?_,?_,?_,?_⟩
 ·have s1:(l.drop (sa + na + n')).take (nb - n')++l.drop (sa + na + nb)=l.drop (sa + na + n'):=by
   have:=List.take_append_drop (nb - n') (l.drop (sa + na + n'))
   rw [List.drop_drop,show sa + na + n' + (nb - n')=sa + na + nb by omega] at this
   exact this
  have s2:(l.drop (sa + na)).take n'++l.drop (sa + na + n')=l.drop (sa + na):=by
   have:=List.take_append_drop n' (l.drop (sa + na))
   rw [List.drop_drop] at this
   exact this
  have s3:(l.drop (sa + k)).take (na - k)++l.drop (sa + na)=l.drop (sa + k):=by
   have:=List.take_append_drop (na - k) (l.drop (sa + k))
   rw [List.drop_drop,show sa + k + (na - k)=sa + na by omega] at this
   exact this
  have s4:(l.drop sa).take k++l.drop (sa + k)=l.drop sa:=by
   have:=List.take_append_drop k (l.drop sa)
   rw [List.drop_drop] at this
   exact this
  rw [s1,s2,s3,s4,List.take_append_drop]
 all_goals (rw [List.length_take];try rw [List.length_drop]);omega
theorem iD{A B:List Keyed}{n:Nat}(h:A.length=n):(A++B).drop n=B:=by rw [<-h];exact List.drop_left
theorem iI{A B:List Keyed}{n:Nat}(h:A.length=n):(A++B).take n=A:=by rw [<-h];exact List.take_left
section
variable {rk : Keyed -> Nat}
theorem BU{X1 X2 Y1 Y2 m:List Keyed}(SX:Sr rk (X1++X2))(SY:Sr rk (Y1++Y2))(J:fu rk X2 Y1 m)(h1:∀ x∈X1,∀ y∈Y1,rk x<=rk y)(h2:∀ x∈X1++X2,∀ y∈Y2,rk x<=rk y):Sr rk (X1++(m++Y2)):=by
 obtain⟨a1,a2,a3⟩:=List.pairwise_append.mp SX
 obtain⟨b1,b2,b3⟩:=List.pairwise_append.mp SY
 have mm:∀ x∈m,x∈X2\/x∈Y1:=fun x U=>List.mem_append.mp (J.1.mem_iff.mp U)
 refine List.pairwise_append.mpr ⟨a1,List.pairwise_append.mpr ⟨J.2,b2,fun x U y hy=>?_⟩,fun x U y hy=>?_⟩
 ·rcases mm x U with z | z
  ·exact h2 x (by simp [z]) y hy
  ·exact b3 x z y hy
 ·rcases List.mem_append.mp hy with hy | hy
  ·rcases mm y hy with z | z
   ·exact a3 x U y z
   ·exact h1 x U y z
  ·exact h2 x (by simp [U]) y hy
theorem seg_at{arr:Array Keyed}{s n:Nat}(S:Sr rk ((arr.toList.drop s).take n))(hn:s + n<=arr.size){i j:Nat}(hij:i<=j)(hj:j < n):rk (arr[s + i]!)<=rk (arr[s + j]!):=by
 by_cases e:i=j
 ·subst e;exact Nat.le_refl _
 ·have J:((arr.toList.drop s).take n).length=n:=by rw [List.length_take,List.length_drop,Array.length_toList];omega
  have:=List.pairwise_iff_getElem.mp S i j (by omega) (by omega) (by omega)
  rw [List.getElem_take,List.getElem_take,List.getElem_drop,List.getElem_drop,Array.getElem_toList,Array.getElem_toList] at this
  rw [getElem!_pos arr (s + i) (by omega),getElem!_pos arr (s + j) (by omega)]
  exact this
theorem kJ{arr:Array Keyed}{P X R:List Keyed}{s:Nat}(e:arr.toList=P++(X++R))(hP:P.length=s){x:Keyed}(hx:x∈X):∃ i,i < X.length/\arr[s + i]! =x:=by
 obtain⟨i,hi,J⟩:=List.getElem_of_mem hx
 refine⟨i,hi,?_⟩
 have h1:arr.toList[s + i]? =some x:=by
  rw [e,List.getElem?_append_right (by omega),hP,Nat.add_sub_cancel_left,List.getElem?_append_left hi,List.getElem?_eq_getElem hi,J]
 rw [Array.getElem?_toList] at h1
 rw [getElem!_def,h1]
theorem zm{prog:Program}{w:World}{A:Around}{E:Value->Shared->Prop}{s:Shared}{st st':SortSt}{Q:PUnit->SortSt->Prop}(h:Q ⟨⟩ st'):wpS (model prog w) A E s (set st':StateT SortSt Sem PUnit) Q st:=by
 unfold wpS;rw [StateT.run_set];exact wpAny_pure ⟨rfl,h⟩
theorem AV{P:Array (Nat×Nat×Nat)}{A B:List (Nat×Nat×Nat)}{r1 r2 x:Nat×Nat×Nat}{i:Nat}(h:P.toList=A++r1::r2::B)(hi:A.length=i):((P.setIfInBounds i x).eraseIdxIfInBounds (i + 1)).toList=A++x::B:=by
 subst hi
 have h1:(P.setIfInBounds A.length x).toList=A++x::r2::B:=by
  rw [Array.toList_setIfInBounds,h,List.set_append_right _ _ (Nat.le_refl _),Nat.sub_self]
  rfl
 have hs:A.length + 1 < (P.setIfInBounds A.length x).size:=by
  rw [<-Array.length_toList,h1,List.length_append,List.length_cons,List.length_cons];omega
 rw [Array.eraseIdxIfInBounds,dif_pos hs,Array.toList_eraseIdx,h1,List.eraseIdx_append_of_length_le (by omega),Nat.add_sub_cancel_left]
 rfl
end
section
variable {prog : Program} {w : World} {A : Around} {E : Value -> Shared -> Prop} {s : Shared} {κ : SortKind} {a₀ : Array Keyed} {rk : Keyed -> Nat}
theorem Bu(R:Rk prog w A s κ a₀ rk){st:SortSt}{i sa na p sb nb q e:Nat}{U V:List (Nat×Nat×Nat)}{Q:Bool->SortSt->Prop}(hk:kindOf st=κ)(hf:failedOf st=none)(hp:(arrOf st).toList.Perm a₀.toList)
  (hP:(pendingOf st).toList=U++(sa,na,p)::(sb,nb,q)::V)(hi:U.length=i)(C:Chain rk (arrOf st).toList 0 (U++(sa,na,p)::(sb,nb,q)::V) e)(he:e<=(arrOf st).size)
  (h:∀ st':SortSt,kindOf st'=κ->failedOf st'=none->(arrOf st').toList.Perm a₀.toList->(pendingOf st').toList=U++(sa,na + nb,p)::V->Chain rk (arrOf st').toList 0 (U++(sa,na + nb,p)::V) e->(arrOf st').toList.drop e=(arrOf st).toList.drop e->Q true st'):
  wpS (model prog w) A E s (mergeAt' i) Q st:=by
 obtain⟨m0,C0,C1⟩:=C.split
 obtain⟨z1,aa,S1,C2⟩:=C1
 obtain⟨z2,ae,S2,C3⟩:=C2
 dsimp only at z1 aa S1 z2 ae S2 C3
 subst z1
 subst z2
 have af:=C3.le
 have p1:(pendingOf st)[i]? =some (sa,na,p):=by rw [<-Array.getElem?_toList,hP,List.getElem?_append_right (by(clear af ae aa he;omega)),hi,Nat.sub_self];rfl
 have p2:(pendingOf st)[i + 1]? =some (sa + na,nb,q):=by rw [<-Array.getElem?_toList,hP,List.getElem?_append_right (by(clear p1 af ae aa he;omega)),hi,Nat.add_sub_cancel_left];rfl
 generalize ea:arrOf st=arr at hp C C0 S1 S2 C3 he
 have f:∀{j:Nat},j < arr.size->arr[j]? =some (arr[j]!):=fun{j} hj=>by rw [Array.getElem?_eq_getElem hj,getElem!_pos arr j hj]
 have ao:∀{j:Nat} {x:Keyed},arr[j]? =some x->x∈a₀:=fun{j x} e=>by
  have h1:x∈arr.toList:=Array.mem_toList_iff.mpr (Array.mem_of_getElem? e)
  exact Array.mem_toList_iff.mp (hp.mem_iff.mp h1)
 rw [wj]
 refine wpS_bind (wpS_get ?_)
 rw [p1,p2,ea]
 dsimp only
 have ep:=AV (x:=(sa,na + nb,p)) hP hi
 refine wpS_bind (zm ?_)
 refine wpS_bind (dM (f (by(clear p2 p1 aa hi;omega):sa + na < arr.size)) ?_)
 have ends:∀(st':SortSt) (k n':Nat) (P X1 X2 Y1 Y2 T m:List Keyed),k<=na->n'<=nb->arr.toList=P++(X1++(X2++(Y1++(Y2++T))))->P.length=sa->X1.length=k->X2.length=na - k->Y1.length=n'->Y2.length=nb - n'->
   fu rk X2 Y1 m->(∀ x∈X1,∀ y∈Y1,rk x<=rk y)->(∀ x∈X1++X2,∀ y∈Y2,rk x<=rk y)->kindOf st'=κ->failedOf st'=none->(pendingOf st').toList=U++(sa,na + nb,p)::V->(arrOf st').toList=P++(X1++(m++(Y2++T)))->Q true st':=fun st' k n' P X1 X2 Y1 Y2 T m ax ar e0 l1 l2 l3 l4 l5 J h1 h2 k1 k2 k3 k4=>by
  have lm:m.length=X2.length + Y1.length:=by rw [J.1.length_eq,List.length_append]
  have eX:(arr.toList.drop sa).take na=X1++X2:=by
   rw [e0,iD l1,<-List.append_assoc];exact iI (by rw [List.length_append];(clear lm l5 l4 l1 ar he p2 p1 af ae aa hi;omega))
  have eY:(arr.toList.drop (sa + na)).take nb=Y1++Y2:=by
   have:P++(X1++(X2++(Y1++(Y2++T))))=(P++(X1++X2))++((Y1++Y2)++T):=by simp
   rw [e0,this,iD (by rw [List.length_append,List.length_append];(clear lm l5 l4 ar he p2 p1 af ae aa hi;omega))]
   exact iI (by rw [List.length_append];(clear lm l3 l2 l1 ax he p2 p1 af ae aa hi;omega))
  have sx:Sr rk (X1++X2):=by rw [<-eX];exact S1
  have sy:Sr rk (Y1++Y2):=by rw [<-eY];exact S2
  have sm:=BU sx sy J h1 h2
  have pm:(arrOf st').toList.Perm arr.toList:=by
   rw [k4,e0]
   refine List.Perm.append_left _ (List.Perm.append_left _ ?_)
   have:X2++(Y1++(Y2++T))=(X2++Y1)++(Y2++T):=by simp
   rw [this]
   exact J.1.append_right _
  have dr:(arrOf st').toList.drop (sa + na + nb)=arr.toList.drop (sa + na + nb):=by
   have t1:P++(X1++(m++(Y2++T)))=(P++(X1++(m++Y2)))++T:=by simp
   have t2:P++(X1++(X2++(Y1++(Y2++T))))=(P++(X1++(X2++(Y1++Y2))))++T:=by simp
   rw [k4,e0,t1,t2,iD (by simp only [List.length_append];(clear he p2 p1 af ae aa hi;omega)),iD (by simp only [List.length_append];omega)]
  have dd:∀ l:List Keyed,l.drop e=(l.drop (sa + na + nb)).drop (e - (sa + na + nb)):=fun l=>by
   rw [List.drop_drop];congr 1;(clear lm l5 l4 l3 l2 l1 ar ax he p2 p1 ae aa hi;omega)
  refine h st' k1 k2 (pm.trans hp) k3 ?_ (by rw [ea,dd (arrOf st').toList,dd arr.toList,dr])
  refine(C0.keepL ?_).join ⟨rfl,by show 0 < na + nb;(clear lm l5 l4 l3 l2 l1 ar ax he p2 p1 af aa hi;omega),?_,?_⟩
  ·rw [k4,e0,iI l1,iI l1]
  ·show Sr rk (((arrOf st').toList.drop sa).take (na + nb))
   have:X1++(m++(Y2++T))=(X1++(m++Y2))++T:=by simp
   rw [k4,iD l1,this,iI (by rw [List.length_append,List.length_append];(clear l1 he p2 p1 af ae aa hi;omega))]
   exact sm
  ·show Chain rk (arrOf st').toList (sa + (na + nb)) V e
   rw [<-Nat.add_assoc]
   exact C3.keepR dr
 refine wpS_bind (jo R (fun j=>fJ rk false (arr[sa + na]!) (arr[sa + j]!)) hk (ao (f (by(clear p2 p1 aa hi;omega)))) (fun j hj=>⟨_,f (by omega),ao (f (by omega)),rfl⟩) (fun i j e1 e2 e3=>gG.mpr (Nat.le_trans (seg_at S1 (by omega) e1 e2) (gG.mp e3))) aa fun k k1 k2 k3=>?_)
 dsimp only
 by_cases q1:(na - k == 0)=true
 ·rw [if_pos q1]
  have ag:=beq_iff_eq.mp q1
  obtain⟨P,X1,X2,Y1,Y2,T,e0,l1,l2,l3,l4,l5⟩:=parts (l:=arr.toList) (sa:=sa) (na:=na) (nb:=nb) (k:=k) (n':=0) (by rw [Array.length_toList];(clear ag k1 p2 p1 ae aa hi;omega)) k1 (by omega)
  have x2:X2=[]:=List.eq_nil_of_length_eq_zero (by(clear l5 l4 l2 l1 k1 he p2 p1 af ae aa hi;omega))
  have y1:Y1=[]:=List.eq_nil_of_length_eq_zero (by(clear l5 l3 l2 l1 ag k1 he p2 p1 af ae aa hi;omega))
  subst x2
  subst y1
  refine wpS_pure (ends _ k 0 P X1 [] [] Y2 T [] k1 (by(clear l4 l3 l5 l2 l1 ag k1 he p2 p1 af ae aa hi;omega)) e0 l1 l2 l3 l4 l5 ⟨List.Perm.refl _,List.Pairwise.nil⟩ (fun x hx y hy=>nomatch hy) (fun x hx y hy=>?_) hk hf ep ?_)
  ·rw [List.append_nil] at hx
   obtain⟨i1,h1,r1⟩:=kJ e0 l1 hx
   have e1:arr.toList=(P++X1)++(Y2++T):=by rw [e0];simp
   obtain⟨i2,h2,r2⟩:=kJ (s:=sa + na) e1 (by rw [List.length_append];(clear r1 h1 l5 ag he p2 p1 af ae aa hi;omega)) hy
   have g1:=gG.mp (k2 i1 (by(clear r2 h2 r1 l4 l3 l5 l1 ag k1 he p2 p1 af ae aa hi;omega)))
   have g2:=seg_at S2 (by(clear g1 r2 h2 r1 h1 l4 l3 l5 l2 l1 ag k1 p2 p1 ae aa hi;omega)) (Nat.zero_le i2) (by omega:i2 < nb)
   rw [r1] at g1
   rw [r2] at g2
   exact Nat.le_trans g1 g2
  ·show(arrOf st).toList=_
   rw [ea,e0];rfl
 ·rw [if_neg q1]
  have ag:¬ na - k=0:=fun z=>q1 (beq_iff_eq.mpr z)
  refine wpS_bind (dM (f (by(clear k1 p2 p1 ae aa hi;omega):sa + k + (na - k) - 1 < arr.size)) ?_)
  refine wpS_bind (jo R (fun j=>fJ rk true (arr[sa + k + (na - k) - 1]!) (arr[sa + na + j]!)) hk (ao (f (by(clear k1 p2 p1 ae aa hi;omega):sa + k + (na - k) - 1 < arr.size))) (fun j hj=>⟨_,f (by omega),ao (f (by omega)),rfl⟩) (fun i j e1 e2 e3=>fG.mpr (Nat.lt_of_le_of_lt (seg_at S2 (by omega) e1 e2) (fG.mp e3))) (by omega) fun n' j1 j2 j3=>?_)
  dsimp only
  obtain⟨P,X1,X2,Y1,Y2,T,e0,l1,l2,l3,l4,l5⟩:=parts (l:=arr.toList) (sa:=sa) (na:=na) (nb:=nb) (k:=k) (n':=n') (by rw [Array.length_toList];(clear j1 ag k1 p2 p1 ae aa hi;omega)) k1 j1
  have eB:arr.toList=(P++X1)++(X2++(Y1++(Y2++T))):=by rw [e0];simp
  have eC:arr.toList=(P++(X1++X2))++(Y1++(Y2++T)):=by rw [e0];simp
  have eD:arr.toList=(P++(X1++(X2++Y1)))++(Y2++T):=by rw [e0];simp
  have au:∀ x∈X1,∃ i,i < k/\arr[sa + i]! =x:=fun x hx=>by rw [<-l2];exact kJ e0 l1 hx
  have av:∀ x∈X2,∃ i,k<=i/\i < na/\arr[sa + i]! =x:=fun x hx=>by
   obtain⟨i,a,b⟩:=kJ (s:=sa + k) eB (by rw [List.length_append];(clear l5 l4 l3 j1 ag k1 he p2 p1 af ae aa hi;omega)) hx
   exact⟨k + i,by(clear b a l5 l4 l3 l2 l1 j1 ag k1 he p2 p1 af ae aa hi;omega),by omega,by rw [<-b];congr 1;omega⟩
  have aw:∀ x∈Y1,∃ i,i < n'/\arr[sa + na + i]! =x:=fun x hx=>by
   obtain⟨i,a,b⟩:=kJ (s:=sa + na) eC (by simp only [List.length_append];(clear l5 l4 j1 k1 he p2 p1 af ae aa hi;omega)) hx
   exact⟨i,by(clear b l5 l3 l2 l1 j1 ag k1 he p2 p1 af ae aa hi;omega),b⟩
  have aB:∀ x∈Y2,∃ i,n'<=i/\i < nb/\arr[sa + na + i]! =x:=fun x hx=>by
   obtain⟨i,a,b⟩:=kJ (s:=sa + na + n') eD (by simp only [List.length_append];(clear l5 j1 k1 he p2 p1 af ae aa hi;omega)) hx
   exact⟨n' + i,by(clear b a l5 l4 l3 l2 l1 j1 ag k1 he p2 p1 af ae aa hi;omega),by omega,by rw [<-b];congr 1;omega⟩
  have hA:∀ x∈X1,∀ y∈Y1,rk x<=rk y:=fun x hx y hy=>by
   obtain⟨i1,a1,rfl⟩:=au x hx
   obtain⟨i2,a2,rfl⟩:=aw y hy
   exact Nat.le_trans (gG.mp (k2 i1 a1)) (seg_at S2 (by(clear a2 a1 l5 l4 l3 l2 l1 j1 ag k1 p2 p1 ae aa hi;omega)) (Nat.zero_le i2) (by omega:i2 < nb))
  have ay:∀ x∈X1++X2,rk x<=rk (arr[sa + k + (na - k) - 1]!):=fun x hx=>by
   have e9:sa + k + (na - k) - 1=sa + (na - 1):=by(clear l5 l4 l3 l2 l1 j1 k1 he p2 p1 af ae aa hi;omega)
   rw [e9]
   rcases List.mem_append.mp hx with hx | hx
   ·obtain⟨i1,a1,rfl⟩:=au x hx
    exact seg_at S1 (by(clear a1 e9 l5 l4 l3 l2 l1 j1 ag k1 p2 p1 ae aa hi;omega)) (by omega:i1<=na - 1) (by omega)
   ·obtain⟨i1,a0,a1,rfl⟩:=av x hx
    exact seg_at S1 (by(clear a1 a0 e9 l5 l4 l3 l2 l1 j1 ag k1 p2 p1 ae aa hi;omega)) (by omega:i1<=na - 1) (by omega)
  have hB:∀ x∈X1++X2,∀ y∈Y2,rk x<=rk y:=fun x hx y hy=>by
   obtain⟨i2,a1,a2,rfl⟩:=aB y hy
   exact Nat.le_trans (ay x hx) (j9 (j3 i2 a1 a2))
  have aA:Sr rk X2:=by
   have:(arr.toList.drop sa).take na=X1++X2:=by
    rw [e0,iD l1,<-List.append_assoc];exact iI (by rw [List.length_append];(clear l5 l4 l1 j1 k1 he p2 p1 af ae aa hi;omega))
   rw [this] at S1
   exact(List.pairwise_append.mp S1).2.1
  have aC:Sr rk Y1:=by
   have:(arr.toList.drop (sa + na)).take nb=Y1++Y2:=by
    rw [eC,iD (by simp only [List.length_append];(clear l5 l4 j1 k1 he p2 p1 af ae aa hi;omega)),<-List.append_assoc];exact iI (by rw [List.length_append];omega)
   rw [this] at S2
   exact(List.pairwise_append.mp S2).1
  by_cases q2:(n' == 0)=true
  ·rw [if_pos q2]
   have ah:=beq_iff_eq.mp q2
   have y1:Y1=[]:=List.eq_nil_of_length_eq_zero (by(clear l5 l3 l2 l1 j1 ag k1 he p2 p1 af ae aa hi;omega))
   subst y1
   refine wpS_pure (ends _ k n' P X1 X2 [] Y2 T X2 k1 j1 e0 l1 l2 l3 l4 l5 ⟨by rw [List.append_nil],aA⟩ hA hB hk hf ep ?_)
   show(arrOf st).toList=_
   rw [ea,e0];rfl
  ·rw [if_neg q2]
   have ah:¬ n'=0:=fun z=>q2 (beq_iff_eq.mpr z)
   have x1:(arr.extract (sa + k) (sa + na)).toList=X2:=by
    rw [Array.toList_extract,List.extract_eq_drop_take,eB,iD (by rw [List.length_append];(clear ah l5 l4 l3 j1 ag k1 he p2 p1 af ae aa hi;omega))]
    exact iI (by(clear ah l5 l4 l2 l1 j1 ag k1 he p2 p1 af ae aa hi;omega))
   have y1:(arr.extract (sa + na) (sa + na + n')).toList=Y1:=by
    rw [Array.toList_extract,List.extract_eq_drop_take,eC,iD (by simp only [List.length_append];(clear ah l5 l4 j1 k1 he p2 p1 af ae aa hi;omega))]
    exact iI (by(clear ah l5 l3 l2 l1 j1 ag k1 he p2 p1 af ae aa hi;omega))
   generalize aF:arr.extract (sa + k) (sa + na)=xa at x1
   generalize aG:arr.extract (sa + na) (sa + na + n')=ya at y1
   have aq:xa.size=na - k:=by rw [<-Array.length_toList,x1];exact l3
   have ak:ya.size=n':=by rw [<-Array.length_toList,y1];exact l4
   have gx:∀(j:Nat) (x:Keyed),xa[j]? =some x->x=arr[sa + k + j]! :=fun j x hx=>by
    have hj:=(Array.getElem?_eq_some_iff.mp hx).1
    rw [<-Array.getElem?_toList,x1] at hx
    have:arr.toList[sa + k + j]? =some x:=by
     rw [eB,List.getElem?_append_right (by rw [List.length_append];(clear hj hx ak aq ah l5 l4 l3 j1 ag k1 he p2 p1 af ae aa hi;omega)),List.length_append,show sa + k + j - (P.length + X1.length)=j by omega,List.getElem?_append_left (by omega)]
     exact hx
    rw [Array.getElem?_toList] at this
    rw [getElem!_def,this]
   have gy:∀(j:Nat) (x:Keyed),ya[j]? =some x->x=arr[sa + na + j]! :=fun j x hx=>by
    have hj:=(Array.getElem?_eq_some_iff.mp hx).1
    rw [<-Array.getElem?_toList,y1] at hx
    have:arr.toList[sa + na + j]? =some x:=by
     rw [eC,List.getElem?_append_right (by simp only [List.length_append];(clear hj hx ak aq ah l5 l4 j1 k1 he p2 p1 af ae aa hi;omega)),show sa + na + j - (P++(X1++X2)).length=j by simp only [List.length_append];omega,List.getElem?_append_left (by omega)]
     exact hx
    rw [Array.getElem?_toList] at this
    rw [getElem!_def,this]
   have mx:∀ x∈xa,x∈a₀:=fun x hx=>by
    obtain⟨j,hj,ej⟩:=Array.getElem_of_mem hx
    have:=gx j x (by rw [Array.getElem?_eq_getElem hj,ej])
    rw [this]
    exact ao (f (by(clear ej ak ah l5 l4 l3 l2 l1 j1 ag k1 p2 p1 ae aa hi;omega)))
   have my:∀ x∈ya,x∈a₀:=fun x hx=>by
    obtain⟨j,hj,ej⟩:=Array.getElem_of_mem hx
    have:=gy j x (by rw [Array.getElem?_eq_getElem hj,ej])
    rw [this]
    exact ao (f (by(clear ej aq ah l5 l4 l3 l2 l1 ag k1 p2 p1 ae aa hi;omega)))
   have aD:∀ x,ya[0]? =some x->∀ y∈xa.toList,rk x<=rk y:=fun x hx y hy=>by
    have r1:=gy 0 x hx
    rw [x1] at hy
    obtain⟨i1,a0,a1,r2⟩:=av y hy
    have:=nJ (k3 i1 a0 a1)
    rw [r2] at this
    rw [r1]
    exact Nat.le_of_lt this
   have aE:∀ x,xa[xa.size - 1]? =some x->∀ y∈ya.toList,rk y<=rk x:=fun x hx y hy=>by
    have r1:=gx _ x hx
    rw [y1] at hy
    obtain⟨i2,a2,r2⟩:=aw y hy
    have:=fG.mp (j2 i2 a2)
    rw [r2] at this
    rw [r1,show sa + k + (xa.size - 1)=sa + k + (na - k) - 1 by(clear r2 a2 r1 hx ak ah l5 l4 l3 l2 l1 j1 k1 he p2 p1 af ae aa hi;omega)]
    exact Nat.le_of_lt this
   have last:∀(r:Array Keyed) (g:Nat),fu rk xa.toList ya.toList r.toList->wpS (model prog w) A E s (do
     modify fun s=>setArr s (r.toList.zipIdx.foldl (fun a (x:Keyed×Nat)=>a.setIfInBounds (sa + k + x.2) x.1) (arrOf s))
     return (failedOf (<-get)).isNone) Q (setG (setPending st (((pendingOf st).setIfInBounds i (sa,na + nb,p)).eraseIdxIfInBounds (i + 1))) g):=fun r g J=>by
    rw [x1,y1] at J
    have lr:r.toList.length=na - k + n':=by rw [J.1.length_eq,List.length_append,l3,l4]
    refine wpS_bind (wpS_modify (wpS_bind (wpS_get ?_)))
    have fn:failedOf st=none:=hf
    show wpS _ _ _ _ (pure (failedOf st).isNone) _ _
    rw [fn]
    refine wpS_pure (ends _ k n' P X1 X2 Y1 Y2 T r.toList k1 j1 e0 l1 l2 l3 l4 l5 J hA hB hk hf ep ?_)
    show((r.toList.zipIdx 0).foldl (fun a (x:Keyed×Nat)=>a.setIfInBounds (sa + k + x.2) x.1) (arrOf st)).toList=_
    rw [ea,rP _ _ _ _ (by(clear ak aq ah l5 l4 l3 l2 l1 k1 p2 p1 ae aa hi;omega)),Nat.add_zero]
    have t1:arr.toList.take (sa + k)=P++X1:=by rw [eB];exact iI (by rw [List.length_append];(clear lr ak aq ah l5 l4 l3 j1 ag k1 he p2 p1 af ae aa hi;omega))
    have t2:arr.toList.drop (sa + k + r.toList.length)=Y2++T:=by rw [eD];exact iD (by simp only [List.length_append];(clear ak aq ah l5 j1 ag k1 he p2 p1 af ae aa hi;omega))
    rw [t1,t2]
    simp
   by_cases q3:na - k<=n'
   ·rw [if_pos q3]
    exact wpS_bind <| yd R hk mx my (by rw [x1];exact aA) (by rw [y1];exact aC) (by(clear q3 ak ah l5 l4 l3 l2 l1 j1 k1 he p2 p1 af ae aa hi;omega)) (by omega) aD aE fun r g J=>last r g J
   ·rw [if_neg q3]
    exact wpS_bind <| Br R hk mx my (by rw [x1];exact aA) (by rw [y1];exact aC) (by(clear ak ah l5 l4 l3 l2 l1 j1 ag k1 he p2 p1 af ae aa hi;omega)) (by omega) aD aE fun r g J=>last r g J
end
section
variable {rk : Keyed -> Nat}
noncomputable def at'(rk:Keyed->Nat)(xs:Array Keyed)(i:Nat):Nat:=rk (xs[i]!)
theorem lQ{xs ys:Array Keyed}{i j:Nat}(h:xs[i]? =ys[j]?):at' rk xs i=at' rk ys j:=by unfold at';rw [getElem!_def,getElem!_def,h]
noncomputable def Up(rk:Keyed->Nat)(xs:Array Keyed)(lo e:Nat):Prop:=∀ i j,lo<=i->i<=j->j < e->at' rk xs i<=at' rk xs j
noncomputable def Dn(rk:Keyed->Nat)(xs:Array Keyed)(lo e:Nat):Prop:=∀ i j,lo<=i->i<=j->j < e->at' rk xs j<=at' rk xs i
theorem iT{xs:Array Keyed}{i j:Nat}(hj:j<=xs.size)(k:Nat):at' rk (mirror xs i j ((j - i) / 2)) k=if i<=k/\k < j then at' rk xs (i + j - 1 - k) else at' rk xs k:=by
 have e:=getElem?_mirror_all (i:=i) hj k
 by_cases z:i<=k/\k < j
 ·rw [if_pos z] at e ⊢;exact lQ e
 ·rw [if_neg z] at e ⊢;exact lQ e
theorem rG{xs:Array Keyed}{src d:Nat}(hs:src < xs.size)(hd:d<=src)(k:Nat):at' rk (bubble xs src d) k=if k=src - d then at' rk xs src else if src - d < k/\k<=src then at' rk xs (k - 1) else at' rk xs k:=by
 have e:=getElem?_bubble hs d hd k
 by_cases z:k=src - d
 ·rw [if_pos z] at e ⊢;exact lQ e
 ·rw [if_neg z] at e ⊢
  by_cases J:src - d < k/\k<=src
  ·rw [if_pos J] at e ⊢;exact lQ e
  ·rw [if_neg J] at e ⊢;exact lQ e
theorem mi{xs:Array Keyed}{i j:Nat}(hj:j<=xs.size)(h:∀ k,i<=k->k < j->at' rk xs k=at' rk xs (j - 1))(k:Nat):at' rk (mirror xs i j ((j - i) / 2)) k=at' rk xs k:=by
 rw [iT hj]
 split
 ·rw [h _ (by omega) (by omega),h k (by omega) (by omega)]
 ·rfl
theorem uL{xs:Array Keyed}{lo n:Nat}(h:Up rk xs lo (lo + n))(hn:lo + n<=xs.size):Sr rk ((xs.toList.drop lo).take n):=by
 refine List.pairwise_iff_getElem.mpr fun i j hi J U=>?_
 rw [List.length_take,List.length_drop,Array.length_toList] at hi J
 rw [List.getElem_take,List.getElem_take,List.getElem_drop,List.getElem_drop,Array.getElem_toList,Array.getElem_toList]
 have:=h (lo + i) (lo + j) (by omega) (by omega) (by omega)
 unfold at' at this
 rw [getElem!_pos xs (lo + i) (by omega),getElem!_pos xs (lo + j) (by omega)] at this
 exact this
end
structure Ok (κ : SortKind) (a₀ : Array Keyed) (lo : Nat) (dE st : SortSt) : Prop where
 kd : kindOf st = κ
 fl : failedOf st = none
 pm : (arrOf st).toList.Perm a₀.toList
 pd : pendingOf st = pendingOf dE
 fr : (arrOf st).toList.take lo = (arrOf dE).toList.take lo
section
variable {κ : SortKind} {a₀ : Array Keyed} {lo : Nat} {dE st : SortSt}
theorem Ok.size (O:Ok κ a₀ lo dE st):(arrOf st).size=a₀.size:=by rw [<-Array.length_toList,O.pm.length_eq,Array.length_toList]
theorem Ok.set (O:Ok κ a₀ lo dE st){xs:Array Keyed}(hp:xs.Perm (arrOf st))(hf:∀ i:Nat,i < lo->xs[i]? =(arrOf st)[i]?):Ok κ a₀ lo dE (setArr st xs):=by
 refine⟨O.kd,O.fl,(Array.perm_iff_toList_perm.mp hp).trans O.pm,O.pd,?_⟩
 show xs.toList.take lo=_
 rw [<-O.fr]
 refine List.ext_getElem? fun i=>?_
 rw [List.getElem?_take,List.getElem?_take]
 split
 ·rw [Array.getElem?_toList,Array.getElem?_toList];exact hf i (by assumption)
 ·rfl
variable {prog : Program} {w : World} {A : Around} {E : Value -> Shared -> Prop} {s : Shared} {rk : Keyed -> Nat}
theorem g7(R:Rk prog w A s κ a₀ rk)(O:Ok κ a₀ lo dE st){i j:Nat}{Q:Option Bool->SortSt->Prop}(hi:i < a₀.size)(hj:j < a₀.size)(h:Q (some (decide (at' rk (arrOf st) i < at' rk (arrOf st) j))) st):wpS (model prog w) A E s (ltAt' i j) Q st:=by
 have hz:=O.size
 have f:∀{j:Nat},j < a₀.size->(arrOf st)[j]? =some ((arrOf st)[j]!):=fun{j} hj=>by rw [Array.getElem?_eq_getElem (by omega),getElem!_pos (arrOf st) j (by omega)]
 have J:∀{j:Nat} {x:Keyed},(arrOf st)[j]? =some x->x∈a₀:=fun{j x} e=>Array.mem_toList_iff.mp (O.pm.mem_iff.mp (Array.mem_toList_iff.mpr (Array.mem_of_getElem? e)))
 rw [ltAt'_eq]
 refine wpS_bind (wpS_get ?_)
 exact wpS_bind (dM (f hi) (wpS_bind (dM (f hj) (lu R O.kd (J (f hi)) (J (f hj)) h))))
theorem iO(O:Ok κ a₀ lo dE st){i j:Nat}{Q:Unit->SortSt->Prop}(hi:lo<=i)(hj:j<=a₀.size)(h:Ok κ a₀ lo dE (setArr st (mirror (arrOf st) i j ((j - i) / 2)))->Q () (setArr st (mirror (arrOf st) i j ((j - i) / 2)))):wpS (model prog w) A E s (reverseSlice' i j) Q st:=by
 rw [reverseSlice'_eq]
 refine wpS_modify (h (O.set (mirror_perm _ _ _ _) fun k hk=>?_))
 rw [getElem?_mirror_all (by rw [O.size];exact hj),if_neg (by omega)]
theorem B4(R:Rk prog w A s κ a₀ rk)(O:Ok κ a₀ lo dE st){n ok:Nat}{Q:Bool->SortSt->Prop}(hn:lo + n<=a₀.size)(h1:1<=ok)(hok:ok<=n)(S:Up rk (arrOf st) lo (lo + ok))
  (h:∀ st',Ok κ a₀ lo dE st'->Up rk (arrOf st') lo (lo + n)->Q true st'):wpS (model prog w) A E s (binarySort' lo n ok) Q st:=by
 rw [binarySort'_eq]
 refine wpS_bind (wpS_mono (wpS_forRange (I:=fun k c st'=>c=(none,())/\Ok κ a₀ lo dE st'/\Up rk (arrOf st') lo (lo + min k n)) (Q:=fun c st'=>c=(none,())/\Ok κ a₀ lo dE st'/\Up rk (arrOf st') lo (lo + n)) ?step ?fin ?init) ?post)
 case post=>
  rintro c st' ⟨rfl,O',U⟩
  exact wpS_pure (h st' O' U)
 case init=>
  rw [show min (max ok 1) n=ok by omega]
  exact⟨rfl,O,S⟩
 case fin=>
  rintro c st' ⟨hc,O',U⟩
  rw [show min (max (max ok 1) n) n=n by omega] at U
  exact⟨hc,O',U⟩
 case step=>
  rintro k c st' ae af ⟨rfl,O',U⟩
  rw [show min k n=k by omega] at U
  refine wpS_bind (wpS_mono (wpS_forRange
   (I:=fun x c J=>J=st'/\∃ l r,c=(none,l,r)/\l<=r/\r<=k/\r - l<=k - x/\(∀ i,lo<=i->i < lo + l->at' rk (arrOf st') i<=at' rk (arrOf st') (lo + k))/\(∀ i,lo + r<=i->i < lo + k->at' rk (arrOf st') (lo + k)<=at' rk (arrOf st') i))
   (Q:=fun c J=>J=st'/\∃ l r,c=(none,l,r)/\l<=k/\(∀ i,lo<=i->i < lo + l->at' rk (arrOf st') i<=at' rk (arrOf st') (lo + k))/\(∀ i,lo + l<=i->i < lo + k->at' rk (arrOf st') (lo + k)<=at' rk (arrOf st') i)) ?is ?if_ ⟨rfl,0,k,rfl,by omega,by omega,by omega,fun i a b=>by omega,fun i a b=>by omega⟩) ?ip)
  case if_=>
   rintro c J ⟨rfl,l,r,rfl,g1,g2,g3,g4,g5⟩
   have e:l=r:=by omega
   subst e
   exact⟨rfl,l,l,rfl,g2,g4,g5⟩
  case is=>
   rintro x c J _ hx ⟨rfl,l,r,rfl,g1,g2,g3,g4,g5⟩
   dsimp only
   by_cases z:l ≥ r
   ·rw [if_pos z]
    have e:l=r:=by omega
    subst e
    exact wpS_pure ⟨rfl,l,l,rfl,g2,g4,g5⟩
   ·rw [if_neg z]
    refine wpS_bind (g7 R O' (by omega) (by omega) ?_)
    dsimp only
    by_cases q:at' rk (arrOf J) (lo + k) < at' rk (arrOf J) (lo + (l + r) / 2)
    ·rw [decide_eq_true q,if_pos rfl]
     exact wpS_pure ⟨rfl,l,(l + r) / 2,rfl,by omega,by omega,by omega,g4,fun i a b=>Nat.le_trans (Nat.le_of_lt q) (U _ _ (by omega) a b)⟩
    ·rw [decide_eq_false q,if_neg (by decide)]
     exact wpS_pure ⟨rfl,(l + r) / 2 + 1,r,rfl,by omega,by omega,by omega,fun i a b=>Nat.le_trans (U i (lo + (l + r) / 2) a (by omega) (by omega)) (Nat.not_lt.mp q),g5⟩
  case ip=>
   rintro c J ⟨rfl,l,r,rfl,g1,g4,g5⟩
   have hz:=O'.size
   have hs:lo + k < (arrOf J).size:=by omega
   show wpS _ _ _ _ (do moveDown' (lo + k) (lo + l);pure (ForInStep.yield (none,()))) _ _
   rw [moveDown'_eq]
   refine wpS_bind (wpS_modify (wpS_pure ⟨rfl,O'.set (bubble_perm _ _ _) fun i hi=>?_,?_⟩))
   ·rw [getElem?_bubble hs _ (by omega),if_neg (by omega),if_neg (by omega)]
   ·rw [show min (k + 1) n=k + 1 by omega]
    intro i j hi aa hj
    show at' rk (bubble (arrOf J) (lo + k) (lo + k - (lo + l))) i<=at' rk (bubble (arrOf J) (lo + k) (lo + k - (lo + l))) j
    rw [rG hs (by omega),rG hs (by omega)]
    have e:lo + k - (lo + k - (lo + l))=lo + l:=by omega
    rw [e]
    by_cases i1:i=lo + l
    ·rw [if_pos i1]
     by_cases j1:j=lo + l
     ·rw [if_pos j1];exact Nat.le_refl _
     ·rw [if_neg j1,if_pos (by omega)]
      exact g5 _ (by omega) (by omega)
    ·rw [if_neg i1]
     by_cases i2:lo + l < i/\i<=lo + k
     ·rw [if_pos i2,if_neg (by omega),if_pos (by omega)]
      exact U _ _ (by omega) (by omega) (by omega)
     ·rw [if_neg i2]
      by_cases j1:j=lo + l
      ·rw [if_pos j1]
       exact g4 i hi (by omega)
      ·rw [if_neg j1]
       by_cases j2:lo + l < j/\j<=lo + k
       ·rw [if_pos j2]
        exact U _ _ hi (by omega) (by omega)
       ·rw [if_neg j2]
        exact U _ _ hi aa (by omega)
end
section
variable {κ : SortKind} {a₀ : Array Keyed} {lo : Nat} {dE st : SortSt} {prog : Program} {w : World} {A : Around} {E : Value -> Shared -> Prop} {s : Shared} {rk : Keyed -> Nat}
theorem la{xs:Array Keyed}{lo e:Nat}(h:Up rk xs lo e)(hl:lo < e)(hn:at' rk xs (e - 1)<=at' rk xs e):Up rk xs lo (e + 1):=fun i j hi J U=>by
 by_cases z:j < e
 ·exact h i j hi J z
 ·have ej:j=e:=by(clear J hi hn hl;omega)
  subst ej
  by_cases y:i=j
  ·subst y;exact Nat.le_refl _
  ·exact Nat.le_trans (h i (j - 1) hi (by(clear z U hn hl hi;omega)) (by omega)) hn
theorem jt{xs:Array Keyed}{lo e:Nat}(h:Dn rk xs lo e)(hl:lo < e)(hn:at' rk xs e<=at' rk xs (e - 1)):Dn rk xs lo (e + 1):=fun i j hi J U=>by
 by_cases z:j < e
 ·exact h i j hi J z
 ·have ej:j=e:=by(clear J hi hn hl;omega)
  subst ej
  by_cases y:i=j
  ·subst y;exact Nat.le_refl _
  ·exact Nat.le_trans hn (h i (j - 1) hi (by(clear z U hn hl hi;omega)) (by omega))
theorem xh(R:Rk prog w A s κ a₀ rk)(O:Ok κ a₀ lo dE st){nrem:Nat}{Q:Option Nat->SortSt->Prop}(hn:lo + nrem=a₀.size)(h1:1<=nrem)
  (h:∀ n st',Ok κ a₀ lo dE st'->1<=n->n<=nrem->Up rk (arrOf st') lo (lo + n)->Q (some n) st'):wpS (model prog w) A E s (countRun' lo nrem) Q st:=by
 rw [countRun'_eq]
 refine wpS_bind (wpS_mono (wpS_forRange (I:=fun x c st'=>st'=st/\c=(none,x)/\Up rk (arrOf st) lo (lo + x))
  (Q:=fun c st'=>st'=st/\∃ x,c=(none,x)/\1<=x/\x<=nrem/\Up rk (arrOf st) lo (lo + x)/\(x=nrem\/at' rk (arrOf st) (lo + x) < at' rk (arrOf st) (lo + x - 1))) ?s1 ?f1 ⟨rfl,rfl,fun i j a b c=>by
   have e:i=j:=by(clear h1 hn;omega)
   subst e;exact Nat.le_refl _⟩) ?p1)
 case f1=>
  rintro c st' ⟨rfl,rfl,S⟩
  rw [show max 1 nrem=nrem by(clear hn;omega)] at S ⊢
  exact⟨rfl,nrem,rfl,h1,Nat.le_refl _,S,.inl rfl⟩
 case s1=>
  rintro x c st' ar au ⟨rfl,rfl,S⟩
  dsimp only
  refine wpS_bind (g7 R O (by(clear ar h1;omega)) (by omega) ?_)
  dsimp only
  by_cases q:at' rk (arrOf st') (lo + x) < at' rk (arrOf st') (lo + x - 1)
  ·rw [decide_eq_true q,if_pos rfl]
   exact wpS_pure ⟨rfl,x,rfl,ar,by(clear q ar h1 hn;omega),S,.inr q⟩
  ·rw [decide_eq_false q,if_neg (by decide)]
   exact wpS_pure ⟨rfl,rfl,la (e:=lo + x) S (Nat.lt_add_of_pos_right (by(clear q au h1 hn;omega))) (Nat.not_lt.mp q)⟩
 case p1=>
  rintro c st' ⟨rfl,x,rfl,x1,x2,S,J⟩
  dsimp only
  by_cases e:(x == nrem)=true
  ·rw [if_pos e]
   exact wpS_pure (h x _ O x1 x2 S)
  ·rw [if_neg e]
   have e':¬ x=nrem:=fun z=>e (beq_iff_eq.mpr z)
   have lt:=J.resolve_left e'
   by_cases g:x > 1
   rw [if_pos g]
   rotate_left
   rw [if_neg g]
   rotate_left
   ·refine wpS_bind (g7 R O (by(clear lt e' J x1 h1;omega)) (by omega) ?_)
    dsimp only
    by_cases q:at' rk (arrOf st') lo < at' rk (arrOf st') (lo + x - 1)
    ·rw [decide_eq_true q,if_pos rfl]
     exact wpS_pure (h x _ O x1 x2 S)
    ·rw [decide_eq_false q,if_neg (by decide)]
     have hz:=O.size
     have all:∀ k,lo<=k->k < lo + x->at' rk (arrOf st') k=at' rk (arrOf st') (lo + x - 1):=fun k a b=>by
      have h1:=S lo k (Nat.le_refl _) a b
      have h2:=S k (lo + x - 1) a (by(clear h1 a hz q g lt e' J x2 x1 hn;omega)) (by omega)
      (clear b a hz g lt e' J x2 x1 hn;omega)
     refine wpS_bind (iO O (Nat.le_refl _) (by(clear hz q g lt e' J x1 h1;omega)) fun O1=>?_)
     have D:Dn rk (arrOf (setArr st' (mirror (arrOf st') lo (lo + x) ((lo + x - lo) / 2)))) lo (lo + x + 1):=by
      have same:=mi (rk:=rk) (xs:=arrOf st') (i:=lo) (j:=lo + x) (by(clear q g lt e' J x1 h1;omega)) all
      refine jt (fun i j a b c=>?_) (by(clear hz q lt e' J x2 x1 h1 hn;omega)) ?_
      ·show at' rk (mirror (arrOf st') lo (lo + x) ((lo + x - lo) / 2)) j<=at' rk (mirror (arrOf st') lo (lo + x) ((lo + x - lo) / 2)) i
       rw [same,same,all i a (by(clear a hz q g lt e' J x2 x1 h1 hn;omega)),all j (by omega) c];exact Nat.le_refl _
      ·show at' rk (mirror (arrOf st') lo (lo + x) ((lo + x - lo) / 2)) (lo + x)<=at' rk (mirror (arrOf st') lo (lo + x) ((lo + x - lo) / 2)) (lo + x - 1)
       rw [same,same];exact Nat.le_of_lt lt
     generalize setArr st' (mirror (arrOf st') lo (lo + x) ((lo + x - lo) / 2))=av at O1 D ⊢
     refine wpS_bind (wpS_lift (wpAny_rule ⟨rfl,?_⟩))
     refine wpS_bind (wpS_mono (wpS_forRange
      (I:=fun y c aa=>∃ nq,c=(none,y,nq)/\Ok κ a₀ lo dE aa/\Dn rk (arrOf aa) lo (lo + y)/\nq + 1<=y/\∀ k,lo + y - (nq + 1)<=k->k < lo + y->at' rk (arrOf aa) k=at' rk (arrOf aa) (lo + y - 1))
      (Q:=fun c aa=>∃ y nq,c=(none,y,nq)/\1<=y/\y<=nrem/\Ok κ a₀ lo dE aa/\Dn rk (arrOf aa) lo (lo + y)/\nq + 1<=y/\∀ k,lo + y - (nq + 1)<=k->k < lo + y->at' rk (arrOf aa) k=at' rk (arrOf aa) (lo + y - 1)) ?_ ?_ ⟨0,rfl,O1,D,by(clear hz q g lt e' J x2 x1 h1 hn;omega),fun k a b=>by congr 1;omega⟩) ?_)
     ·rintro y c aa hy ak ⟨nq,rfl,O2,D2,n2,eq2⟩
      have ae:=O2.size
      dsimp only
      refine wpS_bind (g7 R O2 (by(clear ae n2 hy hz q g lt e' J x2 x1 h1;omega)) (by omega) ?_)
      dsimp only
      by_cases q:at' rk (arrOf aa) (lo + y) < at' rk (arrOf aa) (lo + y - 1)
      ·rw [decide_eq_true q,if_pos rfl]
       by_cases z:nq > 0
       ·rw [if_pos z]
        refine wpS_bind (iO O2 (by(clear z q ae ak hy hz g lt e' J x2 x1 h1 hn;omega)) (by omega) fun O3=>wpS_pure ⟨0,rfl,O3,?_,by omega,fun k a b=>by congr 1;omega⟩)
        have same:=mi (rk:=rk) (xs:=arrOf aa) (i:=lo + y - (nq + 1)) (j:=lo + y) (by(clear z q n2 hy hz g lt e' J x2 x1 h1;omega)) eq2
        refine jt (e:=lo + y) (fun i j a b c=>?_) (by(clear z q ae ak hy hz g lt e' J x2 x1 h1 hn;omega)) ?_
        ·show at' rk (mirror (arrOf aa) (lo + y - (nq + 1)) (lo + y) ((lo + y - (lo + y - (nq + 1))) / 2)) j<=at' rk (mirror (arrOf aa) (lo + y - (nq + 1)) (lo + y) ((lo + y - (lo + y - (nq + 1))) / 2)) i
         rw [same,same];exact D2 i j a b c
        ·show at' rk (mirror (arrOf aa) (lo + y - (nq + 1)) (lo + y) ((lo + y - (lo + y - (nq + 1))) / 2)) (lo + y)<=at' rk (mirror (arrOf aa) (lo + y - (nq + 1)) (lo + y) ((lo + y - (lo + y - (nq + 1))) / 2)) (lo + y - 1)
         rw [same,same];exact Nat.le_of_lt q
       ·rw [if_neg z]
        exact wpS_pure ⟨0,rfl,O2,jt (e:=lo + y) D2 (Nat.lt_add_of_pos_right (by(clear z q ae ak hy hz g lt e' J x2 x1 h1 hn;omega))) (Nat.le_of_lt q),by omega,fun k a b=>by congr 1;omega⟩
      ·rw [decide_eq_false q,if_neg (by decide)]
       refine wpS_bind (g7 R O2 (by(clear q ae n2 hy hz g lt e' J x2 x1 h1;omega)) (by omega) ?_)
       dsimp only
       by_cases q2:at' rk (arrOf aa) (lo + y - 1) < at' rk (arrOf aa) (lo + y)
       ·rw [decide_eq_true q2,if_pos rfl]
        exact wpS_pure ⟨y,nq,rfl,by(clear q2 q ae ak hy hz g lt e' J x2 x1 h1 hn;omega),by omega,O2,D2,n2,eq2⟩
       ·rw [decide_eq_false q2,if_neg (by decide)]
        have eqv:at' rk (arrOf aa) (lo + y)=at' rk (arrOf aa) (lo + y - 1):=by(clear ae n2 ak hy hz g lt e' J x2 x1 h1 hn;omega)
        refine wpS_pure ⟨nq + 1,rfl,O2,jt (e:=lo + y) D2 (Nat.lt_add_of_pos_right (by(clear eqv q2 q ae ak hy hz g lt e' J x2 x1 h1 hn;omega))) (Nat.le_of_eq eqv),by omega,fun k a b=>?_⟩
        have e1:lo + (y + 1) - 1=lo + y:=by(clear b a eqv q2 q ae n2 ak hy hz g lt e' J x2 x1 h1 hn;omega)
        rw [e1]
        by_cases ky:k=lo + y
        ·rw [ky]
        ·rw [eqv]
         exact eq2 k (by(clear ky e1 b eqv q2 q ae n2 ak hy hz g lt e' J x2 x1 h1 hn;omega)) (by omega)
     ·rintro c aa ⟨nq,rfl,O2,D2,n2,eq2⟩
      rw [show max (x + 1) nrem=nrem by(clear n2 hz q g lt J x1 h1 hn;omega)] at D2 n2 eq2 ⊢
      exact⟨nrem,nq,rfl,h1,Nat.le_refl _,O2,D2,n2,eq2⟩
     ·rintro c aa ⟨y,nq,rfl,y1,y2,O2,D2,n2,eq2⟩
      have ae:=O2.size
      dsimp only
      by_cases z:nq > 0
      ·rw [if_pos z]
       refine wpS_bind (iO O2 (by(clear z ae y2 y1 hz q g lt e' J x2 x1 h1 hn;omega)) (by omega) fun O3=>?_)
       have D3:Dn rk (arrOf (setArr aa (mirror (arrOf aa) (lo + y - (nq + 1)) (lo + y) ((lo + y - (lo + y - (nq + 1))) / 2)))) lo (lo + y):=fun i j a b c=>by
        have same:=mi (rk:=rk) (xs:=arrOf aa) (i:=lo + y - (nq + 1)) (j:=lo + y) (by(clear c b a z n2 y1 hz q g lt e' J x2 x1 h1;omega)) eq2
        show at' rk (mirror (arrOf aa) (lo + y - (nq + 1)) (lo + y) ((lo + y - (lo + y - (nq + 1))) / 2)) j<=at' rk (mirror (arrOf aa) (lo + y - (nq + 1)) (lo + y) ((lo + y - (lo + y - (nq + 1))) / 2)) i
        rw [same,same];exact D2 i j a b c
       generalize setArr aa (mirror (arrOf aa) (lo + y - (nq + 1)) (lo + y) ((lo + y - (lo + y - (nq + 1))) / 2))=af at O3 D3 ⊢
       have ag:=O3.size
       refine wpS_bind (iO O3 (Nat.le_refl _) (by(clear ag z ae n2 y1 hz q g lt e' J x2 x1 h1;omega)) fun O4=>?_)
       have U4:Up rk (arrOf (setArr af (mirror (arrOf af) lo (lo + y) ((lo + y - lo) / 2)))) lo (lo + y):=fun i j a b c=>by
        show at' rk (mirror (arrOf af) lo (lo + y) ((lo + y - lo) / 2)) i<=at' rk (mirror (arrOf af) lo (lo + y) ((lo + y - lo) / 2)) j
        rw [iT (by(clear c b a z ae n2 y1 hz q g lt e' J x2 x1 h1;omega)),iT (by omega),if_pos (by omega),if_pos (by omega)]
        exact D3 _ _ (by(clear b a ag z ae n2 y2 y1 hz q g lt e' J x2 x1 h1 hn;omega)) (by omega) (by omega)
       generalize setArr af (mirror (arrOf af) lo (lo + y) ((lo + y - lo) / 2))=ah at O4 U4 ⊢
       refine wpS_bind (wpS_mono (wpS_forRange (I:=fun z c st'=>st'=ah/\c=(none,z)/\Up rk (arrOf ah) lo (lo + z)) (Q:=fun c st'=>st'=ah/\∃ z,c=(none,z)/\1<=z/\z<=nrem/\Up rk (arrOf ah) lo (lo + z)) ?_ ?_ ⟨rfl,rfl,U4⟩) ?_)
       ·rintro z c st' aq ao ⟨rfl,rfl,U⟩
        dsimp only
        refine wpS_bind (g7 R O4 (by(clear aq ag ae n2 y2 y1 hz q g lt e' J x2 x1 h1;omega)) (by omega) ?_)
        dsimp only
        by_cases q:at' rk (arrOf st') (lo + z) < at' rk (arrOf st') (lo + z - 1)
        ·rw [decide_eq_true q,if_pos rfl]
         exact wpS_pure ⟨rfl,z,rfl,by(clear q ao ag ae y2 y1 hz g lt e' J x2 x1 h1 hn;omega),by omega,U⟩
        ·rw [decide_eq_false q,if_neg (by decide)]
         exact wpS_pure ⟨rfl,rfl,la (e:=lo + z) U (Nat.lt_add_of_pos_right (by(clear q ao ag ae y2 y1 hz g lt e' J x2 x1 h1 hn;omega))) (Nat.not_lt.mp q)⟩
       ·rintro c st' ⟨rfl,rfl,U⟩
        rw [show max y nrem=nrem by(clear ag z ae n2 y1 hz q g lt e' J x2 x1 h1 hn;omega)] at U ⊢
        exact⟨rfl,nrem,rfl,h1,Nat.le_refl _,U⟩
       ·rintro c st' ⟨rfl,z,rfl,z1,z2,U⟩
        exact wpS_pure (h z _ O4 z1 z2 U)
      ·rw [if_neg z]
       have O3:=O2
       have D3:=D2
       generalize aa=af at O3 D3 ⊢
       have ag:=O3.size
       refine wpS_bind (iO O3 (Nat.le_refl _) (by(clear ag z ae n2 y1 hz q g lt e' J x2 x1 h1;omega)) fun O4=>?_)
       have U4:Up rk (arrOf (setArr af (mirror (arrOf af) lo (lo + y) ((lo + y - lo) / 2)))) lo (lo + y):=fun i j a b c=>by
        show at' rk (mirror (arrOf af) lo (lo + y) ((lo + y - lo) / 2)) i<=at' rk (mirror (arrOf af) lo (lo + y) ((lo + y - lo) / 2)) j
        rw [iT (by(clear c b a z ae n2 y1 hz q g lt e' J x2 x1 h1;omega)),iT (by omega),if_pos (by omega),if_pos (by omega)]
        exact D3 _ _ (by(clear b a ag z ae n2 y2 y1 hz q g lt e' J x2 x1 h1 hn;omega)) (by omega) (by omega)
       generalize setArr af (mirror (arrOf af) lo (lo + y) ((lo + y - lo) / 2))=ah at O4 U4 ⊢
       refine wpS_bind (wpS_mono (wpS_forRange (I:=fun z c st'=>st'=ah/\c=(none,z)/\Up rk (arrOf ah) lo (lo + z)) (Q:=fun c st'=>st'=ah/\∃ z,c=(none,z)/\1<=z/\z<=nrem/\Up rk (arrOf ah) lo (lo + z)) ?_ ?_ ⟨rfl,rfl,U4⟩) ?_)
       ·rintro z c st' aq ao ⟨rfl,rfl,U⟩
        dsimp only
        refine wpS_bind (g7 R O4 (by(clear aq ag ae n2 y2 y1 hz q g lt e' J x2 x1 h1;omega)) (by omega) ?_)
        dsimp only
        by_cases q:at' rk (arrOf st') (lo + z) < at' rk (arrOf st') (lo + z - 1)
        ·rw [decide_eq_true q,if_pos rfl]
         exact wpS_pure ⟨rfl,z,rfl,by(clear q ao ag ae y2 y1 hz g lt e' J x2 x1 h1 hn;omega),by omega,U⟩
        ·rw [decide_eq_false q,if_neg (by decide)]
         exact wpS_pure ⟨rfl,rfl,la (e:=lo + z) U (Nat.lt_add_of_pos_right (by(clear q ao ag ae y2 y1 hz g lt e' J x2 x1 h1 hn;omega))) (Nat.not_lt.mp q)⟩
       ·rintro c st' ⟨rfl,rfl,U⟩
        rw [show max y nrem=nrem by(clear ag z ae n2 y1 hz q g lt e' J x2 x1 h1 hn;omega)] at U ⊢
        exact⟨rfl,nrem,rfl,h1,Nat.le_refl _,U⟩
       ·rintro c st' ⟨rfl,z,rfl,z1,z2,U⟩
        exact wpS_pure (h z _ O4 z1 z2 U)
   ·have O1:=O
    have D:Dn rk (arrOf st') lo (lo + x + 1):=jt (fun i j a b c=>by
     have e:i=j:=by(clear lt e' J x2 x1 h1 hn;omega)
     subst e;exact Nat.le_refl _) (by(clear g lt e' J x2 h1 hn;omega)) (Nat.le_of_lt lt)
    generalize st'=av at O1 D ⊢
    refine wpS_bind (wpS_lift (wpAny_rule ⟨rfl,?_⟩))
    refine wpS_bind (wpS_mono (wpS_forRange
     (I:=fun y c aa=>∃ nq,c=(none,y,nq)/\Ok κ a₀ lo dE aa/\Dn rk (arrOf aa) lo (lo + y)/\nq + 1<=y/\∀ k,lo + y - (nq + 1)<=k->k < lo + y->at' rk (arrOf aa) k=at' rk (arrOf aa) (lo + y - 1))
     (Q:=fun c aa=>∃ y nq,c=(none,y,nq)/\1<=y/\y<=nrem/\Ok κ a₀ lo dE aa/\Dn rk (arrOf aa) lo (lo + y)/\nq + 1<=y/\∀ k,lo + y - (nq + 1)<=k->k < lo + y->at' rk (arrOf aa) k=at' rk (arrOf aa) (lo + y - 1)) ?_ ?_ ⟨0,rfl,O1,D,by(clear g lt e' J x2 x1 h1 hn;omega),fun k a b=>by congr 1;omega⟩) ?_)
    ·rintro y c aa hy ak ⟨nq,rfl,O2,D2,n2,eq2⟩
     have ae:=O2.size
     dsimp only
     refine wpS_bind (g7 R O2 (by(clear ae n2 hy g lt e' J x2 x1 h1;omega)) (by omega) ?_)
     dsimp only
     by_cases q:at' rk (arrOf aa) (lo + y) < at' rk (arrOf aa) (lo + y - 1)
     ·rw [decide_eq_true q,if_pos rfl]
      by_cases z:nq > 0
      ·rw [if_pos z]
       refine wpS_bind (iO O2 (by(clear z q ae ak hy g lt e' J x2 x1 h1 hn;omega)) (by omega) fun O3=>wpS_pure ⟨0,rfl,O3,?_,by omega,fun k a b=>by congr 1;omega⟩)
       have same:=mi (rk:=rk) (xs:=arrOf aa) (i:=lo + y - (nq + 1)) (j:=lo + y) (by(clear z q n2 hy g lt e' J x2 x1 h1;omega)) eq2
       refine jt (e:=lo + y) (fun i j a b c=>?_) (by(clear z q ae ak hy g lt e' J x2 x1 h1 hn;omega)) ?_
       ·show at' rk (mirror (arrOf aa) (lo + y - (nq + 1)) (lo + y) ((lo + y - (lo + y - (nq + 1))) / 2)) j<=at' rk (mirror (arrOf aa) (lo + y - (nq + 1)) (lo + y) ((lo + y - (lo + y - (nq + 1))) / 2)) i
        rw [same,same];exact D2 i j a b c
       ·show at' rk (mirror (arrOf aa) (lo + y - (nq + 1)) (lo + y) ((lo + y - (lo + y - (nq + 1))) / 2)) (lo + y)<=at' rk (mirror (arrOf aa) (lo + y - (nq + 1)) (lo + y) ((lo + y - (lo + y - (nq + 1))) / 2)) (lo + y - 1)
        rw [same,same];exact Nat.le_of_lt q
      ·rw [if_neg z]
       exact wpS_pure ⟨0,rfl,O2,jt (e:=lo + y) D2 (Nat.lt_add_of_pos_right (by(clear z q ae ak hy g lt e' J x2 x1 h1 hn;omega))) (Nat.le_of_lt q),by omega,fun k a b=>by congr 1;omega⟩
     ·rw [decide_eq_false q,if_neg (by decide)]
      refine wpS_bind (g7 R O2 (by(clear q ae n2 hy g lt e' J x2 x1 h1;omega)) (by omega) ?_)
      dsimp only
      by_cases q2:at' rk (arrOf aa) (lo + y - 1) < at' rk (arrOf aa) (lo + y)
      ·rw [decide_eq_true q2,if_pos rfl]
       exact wpS_pure ⟨y,nq,rfl,by(clear q2 q ae ak hy g lt e' J x2 x1 h1 hn;omega),by omega,O2,D2,n2,eq2⟩
      ·rw [decide_eq_false q2,if_neg (by decide)]
       have eqv:at' rk (arrOf aa) (lo + y)=at' rk (arrOf aa) (lo + y - 1):=by(clear ae n2 ak hy g lt e' J x2 x1 h1 hn;omega)
       refine wpS_pure ⟨nq + 1,rfl,O2,jt (e:=lo + y) D2 (Nat.lt_add_of_pos_right (by(clear eqv q2 q ae ak hy g lt e' J x2 x1 h1 hn;omega))) (Nat.le_of_eq eqv),by omega,fun k a b=>?_⟩
       have e1:lo + (y + 1) - 1=lo + y:=by(clear b a eqv q2 q ae n2 ak hy g lt e' J x2 x1 h1 hn;omega)
       rw [e1]
       by_cases ky:k=lo + y
       ·rw [ky]
       ·rw [eqv]
        exact eq2 k (by(clear ky e1 b eqv q2 q ae n2 ak hy g lt e' J x2 x1 h1 hn;omega)) (by omega)
    ·rintro c aa ⟨nq,rfl,O2,D2,n2,eq2⟩
     rw [show max (x + 1) nrem=nrem by(clear lt J x1 h1 hn;omega)] at D2 n2 eq2 ⊢
     exact⟨nrem,nq,rfl,h1,Nat.le_refl _,O2,D2,n2,eq2⟩
    ·rintro c aa ⟨y,nq,rfl,y1,y2,O2,D2,n2,eq2⟩
     have ae:=O2.size
     dsimp only
     by_cases z:nq > 0
     ·rw [if_pos z]
      refine wpS_bind (iO O2 (by(clear z ae y2 y1 g lt e' J x2 x1 h1 hn;omega)) (by omega) fun O3=>?_)
      have D3:Dn rk (arrOf (setArr aa (mirror (arrOf aa) (lo + y - (nq + 1)) (lo + y) ((lo + y - (lo + y - (nq + 1))) / 2)))) lo (lo + y):=fun i j a b c=>by
       have same:=mi (rk:=rk) (xs:=arrOf aa) (i:=lo + y - (nq + 1)) (j:=lo + y) (by(clear c b a z n2 y1 g lt e' J x2 x1 h1;omega)) eq2
       show at' rk (mirror (arrOf aa) (lo + y - (nq + 1)) (lo + y) ((lo + y - (lo + y - (nq + 1))) / 2)) j<=at' rk (mirror (arrOf aa) (lo + y - (nq + 1)) (lo + y) ((lo + y - (lo + y - (nq + 1))) / 2)) i
       rw [same,same];exact D2 i j a b c
      generalize setArr aa (mirror (arrOf aa) (lo + y - (nq + 1)) (lo + y) ((lo + y - (lo + y - (nq + 1))) / 2))=af at O3 D3 ⊢
      have ag:=O3.size
      refine wpS_bind (iO O3 (Nat.le_refl _) (by(clear ag z ae n2 y1 g lt e' J x2 x1 h1;omega)) fun O4=>?_)
      have U4:Up rk (arrOf (setArr af (mirror (arrOf af) lo (lo + y) ((lo + y - lo) / 2)))) lo (lo + y):=fun i j a b c=>by
       show at' rk (mirror (arrOf af) lo (lo + y) ((lo + y - lo) / 2)) i<=at' rk (mirror (arrOf af) lo (lo + y) ((lo + y - lo) / 2)) j
       rw [iT (by(clear c b a z ae n2 y1 g lt e' J x2 x1 h1;omega)),iT (by omega),if_pos (by omega),if_pos (by omega)]
       exact D3 _ _ (by(clear b a ag z ae n2 y2 y1 g lt e' J x2 x1 h1 hn;omega)) (by omega) (by omega)
      generalize setArr af (mirror (arrOf af) lo (lo + y) ((lo + y - lo) / 2))=ah at O4 U4 ⊢
      refine wpS_bind (wpS_mono (wpS_forRange (I:=fun z c st'=>st'=ah/\c=(none,z)/\Up rk (arrOf ah) lo (lo + z)) (Q:=fun c st'=>st'=ah/\∃ z,c=(none,z)/\1<=z/\z<=nrem/\Up rk (arrOf ah) lo (lo + z)) ?_ ?_ ⟨rfl,rfl,U4⟩) ?_)
      ·rintro z c st' aq ao ⟨rfl,rfl,U⟩
       dsimp only
       refine wpS_bind (g7 R O4 (by(clear aq ag ae n2 y2 y1 g lt e' J x2 x1 h1;omega)) (by omega) ?_)
       dsimp only
       by_cases q:at' rk (arrOf st') (lo + z) < at' rk (arrOf st') (lo + z - 1)
       ·rw [decide_eq_true q,if_pos rfl]
        exact wpS_pure ⟨rfl,z,rfl,by(clear q ao ag ae y2 y1 g lt e' J x2 x1 h1 hn;omega),by omega,U⟩
       ·rw [decide_eq_false q,if_neg (by decide)]
        exact wpS_pure ⟨rfl,rfl,la (e:=lo + z) U (Nat.lt_add_of_pos_right (by(clear q ao ag ae y2 y1 g lt e' J x2 x1 h1 hn;omega))) (Nat.not_lt.mp q)⟩
      ·rintro c st' ⟨rfl,rfl,U⟩
       rw [show max y nrem=nrem by(clear ag z ae n2 y1 g lt e' J x2 x1 h1 hn;omega)] at U ⊢
       exact⟨rfl,nrem,rfl,h1,Nat.le_refl _,U⟩
      ·rintro c st' ⟨rfl,z,rfl,z1,z2,U⟩
       exact wpS_pure (h z _ O4 z1 z2 U)
     ·rw [if_neg z]
      have O3:=O2
      have D3:=D2
      generalize aa=af at O3 D3 ⊢
      have ag:=O3.size
      refine wpS_bind (iO O3 (Nat.le_refl _) (by(clear ag z ae n2 y1 g lt e' J x2 x1 h1;omega)) fun O4=>?_)
      have U4:Up rk (arrOf (setArr af (mirror (arrOf af) lo (lo + y) ((lo + y - lo) / 2)))) lo (lo + y):=fun i j a b c=>by
       show at' rk (mirror (arrOf af) lo (lo + y) ((lo + y - lo) / 2)) i<=at' rk (mirror (arrOf af) lo (lo + y) ((lo + y - lo) / 2)) j
       rw [iT (by(clear c b a z ae n2 y1 g lt e' J x2 x1 h1;omega)),iT (by omega),if_pos (by omega),if_pos (by omega)]
       exact D3 _ _ (by(clear b a ag z ae n2 y2 y1 g lt e' J x2 x1 h1 hn;omega)) (by omega) (by omega)
      generalize setArr af (mirror (arrOf af) lo (lo + y) ((lo + y - lo) / 2))=ah at O4 U4 ⊢
      refine wpS_bind (wpS_mono (wpS_forRange (I:=fun z c st'=>st'=ah/\c=(none,z)/\Up rk (arrOf ah) lo (lo + z)) (Q:=fun c st'=>st'=ah/\∃ z,c=(none,z)/\1<=z/\z<=nrem/\Up rk (arrOf ah) lo (lo + z)) ?_ ?_ ⟨rfl,rfl,U4⟩) ?_)
      ·rintro z c st' aq ao ⟨rfl,rfl,U⟩
       dsimp only
       refine wpS_bind (g7 R O4 (by(clear aq ag ae n2 y2 y1 g lt e' J x2 x1 h1;omega)) (by omega) ?_)
       dsimp only
       by_cases q:at' rk (arrOf st') (lo + z) < at' rk (arrOf st') (lo + z - 1)
       ·rw [decide_eq_true q,if_pos rfl]
        exact wpS_pure ⟨rfl,z,rfl,by(clear q ao ag ae y2 y1 g lt e' J x2 x1 h1 hn;omega),by omega,U⟩
       ·rw [decide_eq_false q,if_neg (by decide)]
        exact wpS_pure ⟨rfl,rfl,la (e:=lo + z) U (Nat.lt_add_of_pos_right (by(clear q ao ag ae y2 y1 g lt e' J x2 x1 h1 hn;omega))) (Nat.not_lt.mp q)⟩
      ·rintro c st' ⟨rfl,rfl,U⟩
       rw [show max y nrem=nrem by(clear ag z ae n2 y1 g lt e' J x2 x1 h1 hn;omega)] at U ⊢
       exact⟨rfl,nrem,rfl,h1,Nat.le_refl _,U⟩
      ·rintro c st' ⟨rfl,z,rfl,z1,z2,U⟩
       exact wpS_pure (h z _ O4 z1 z2 U)
end
theorem BY{α:Type}{L:List α}{i:Nat}(h:i + 1 < L.length):∃ U r1 r2 V,L=U++r1::r2::V/\U.length=i:=by
 refine⟨L.take i,L[i],L[i + 1],L.drop (i + 2),?_,by rw [List.length_take];omega⟩
 have J:L.drop i=L[i]::L.drop (i + 1):=List.drop_eq_getElem_cons (by omega)
 have e2:L.drop (i + 1)=L[i + 1]::L.drop (i + 2):=List.drop_eq_getElem_cons h
 rw [<-e2,<-J,List.take_append_drop]
theorem Chain.same {rk:Keyed->Nat}{l:List Keyed}:∀{P P':List (Nat×Nat×Nat)} {s e:Nat},Chain rk l s P e->P'.map (fun r=>(r.1,r.2.1))=P.map (fun r=>(r.1,r.2.1))->Chain rk l s P' e
 | [],[],s,e,h,_=>h
 | [],r::P',s,e,h,k=>by simp at k
 | r::P,[],s,e,h,k=>by simp at k
 | r::P,r'::P',s,e,h,k=>by
  rw [List.map_cons,List.map_cons,List.cons.injEq,Prod.mk.injEq] at k
  obtain⟨⟨k1,k2⟩,k3⟩:=k
  obtain⟨h1,h2,J,U⟩:=h
  exact⟨k1.trans h1,by rw [k2];exact h2,by rw [k2];exact J,by rw [k2];exact Chain.same U k3⟩
theorem vf(P:Array (Nat×Nat×Nat))(i:Nat)(f:Nat×Nat×Nat->Nat×Nat×Nat)(hf:∀ r,((f r).1,(f r).2.1)=(r.1,r.2.1)):(P.modify i f).toList.map (fun r=>(r.1,r.2.1))=P.toList.map (fun r=>(r.1,r.2.1)):=by
 refine List.ext_getElem? fun j=>?_
 rw [List.getElem?_map,List.getElem?_map,Array.getElem?_toList,Array.getElem?_toList,Array.getElem?_modify]
 split
 ·cases P[j]? with
  | none=>rfl
  | some r=>exact congrArg some (hf r)
 ·rfl
theorem ite_le{c:Prop} [Decidable c] (m:Nat):(if c then m - 1 else m)<=m:=by split<;>omega
structure Gd (κ : SortKind) (a₀ : Array Keyed) (rk : Keyed -> Nat) (e : Nat) (st : SortSt) : Prop where
 kd : kindOf st = κ
 fl : failedOf st = none
 pm : (arrOf st).toList.Perm a₀.toList
 ch : Chain rk (arrOf st).toList 0 (pendingOf st).toList e
 le : e <= a₀.size
section
variable {κ : SortKind} {a₀ : Array Keyed} {prog : Program} {w : World} {A : Around} {E : Value -> Shared -> Prop} {s : Shared} {rk : Keyed -> Nat} {st : SortSt}
theorem Gd.size {e:Nat}(G:Gd κ a₀ rk e st):(arrOf st).size=a₀.size:=by rw [<-Array.length_toList,G.pm.length_eq,Array.length_toList]
theorem Gd.merge (R:Rk prog w A s κ a₀ rk){e i:Nat}{Q:Bool->SortSt->Prop}(G:Gd κ a₀ rk e st)(hi:i + 1 < (pendingOf st).size)
  (h:∀ st',Gd κ a₀ rk e st'->(pendingOf st').size + 1=(pendingOf st).size->(arrOf st').toList.drop e=(arrOf st).toList.drop e->Q true st'):wpS (model prog w) A E s (mergeAt' i) Q st:=by
 obtain⟨U,⟨sa,na,p⟩,⟨sb,nb,q⟩,V,J,e2⟩:=BY (L:=(pendingOf st).toList) (by rw [Array.length_toList];exact hi)
 have C:=G.ch
 rw [J] at C
 refine Bu R G.kd G.fl G.pm J e2 C (by rw [G.size];exact G.le) fun st' k1 k2 k3 k4 k5 k6=>h st' ⟨k1,k2,k3,by rw [k4];exact k5,G.le⟩ ?_ k6
 rw [<-Array.length_toList,k4,<-Array.length_toList,J]
 simp only [List.length_append,List.length_cons]
 omega
theorem BF(R:Rk prog w A s κ a₀ rk){Q:Unit->SortSt->Prop}(h2:2<=a₀.size)(hk:kindOf st=κ)(hf:failedOf st=none)(hp:(arrOf st).toList.Perm a₀.toList)(hP:pendingOf st=#[])
  (h:∀ st',failedOf st'=none->(arrOf st').toList.Perm a₀.toList->Sr rk (arrOf st').toList->Q () st'):wpS (model prog w) A E s sortRuns' Q st:=by
 rw [sortRuns'_eq]
 refine wpS_bind (wpS_get ?_)
 have hz:(arrOf st).size=a₀.size:=by rw [<-Array.length_toList,hp.length_eq,Array.length_toList]
 rw [hz]
 dsimp only
 refine wpS_bind (wpS_mono (wpS_forRange (I:=fun x c st'=>∃ lo,c=(none,lo)/\x<=lo/\Gd κ a₀ rk lo st') (Q:=fun c st'=>c=(none,a₀.size)/\Gd κ a₀ rk a₀.size st') ?step ?fin ⟨0,rfl,Nat.le_refl _,hk,hf,hp,by rw [hP];rfl,Nat.zero_le _⟩) ?post)
 case fin=>
  rintro c st' ⟨lo,rfl,hx,G⟩
  have:=G.le
  have e:lo=a₀.size:=by omega
  subst e
  exact⟨rfl,G⟩
 case step=>
  rintro x c U _ hx ⟨lo,rfl,ao,G⟩
  dsimp only
  have ag:=G.le
  by_cases z:lo ≥ a₀.size
  ·rw [if_pos z]
   have e:lo=a₀.size:=by omega
   subst e
   exact wpS_pure ⟨rfl,G⟩
  ·rw [if_neg z]
   have O:Ok κ a₀ lo U U:=⟨G.kd,G.fl,G.pm,rfl,rfl⟩
   refine wpS_bind (xh R O (by omega) (by omega) fun n af O2 n1 n2 U2=>?_)
   dsimp only
   have chain:∀{ae:SortSt},Ok κ a₀ lo U ae->Gd κ a₀ rk lo ae:=fun{ae} O3=>⟨O3.kd,O3.fl,O3.pm,by rw [O3.pd];exact G.ch.keepL O3.fr,ag⟩
   have aa:∀(J:SortSt) (n:Nat),Gd κ a₀ rk lo J->1<=n->lo + n<=a₀.size->Sr rk (((arrOf J).toList.drop lo).take n)->∃ ah,((none:Option Unit),lo + n)=(none,ah)/\x + 1<=ah/\Gd κ a₀ rk ah (setPending J ((pendingOf J).push (lo,n,0))):=fun J n G4 n1 n2 S4=>
    ⟨lo + n,rfl,by omega,G4.kd,G4.fl,G4.pm,by
     show Chain rk (arrOf J).toList 0 ((pendingOf J).push (lo,n,0)).toList (lo + n)
     rw [Array.toList_push]
     exact G4.ch.join ⟨rfl,n1,S4,rfl⟩,n2⟩
   by_cases q0:n < minRun' a₀.size a₀.size 0
   ·rw [if_pos q0]
    refine wpS_bind (wpS_lift (wpAny_rule ⟨rfl,?_⟩))
    refine wpS_bind (B4 R O2 (by omega) n1 (by omega) U2 fun ae O3 U3=>?_)
    simp only [Bool.not_true,Bool.false_eq_true,if_false]
    have G3:=chain O3
    have S3:=uL U3 (by rw [O3.size];omega)
    refine wpS_bind (wpS_get ?_)
    cases hb:(pendingOf ae).back? with
    | none=>
     dsimp only
     exact wpS_bind (wpS_modify (wpS_pure (aa ae (min (a₀.size - lo) (minRun' a₀.size a₀.size 0)) G3 (by omega) (by omega) S3)))
    | some r=>
     obtain⟨s1,m1,o1⟩:=r
     dsimp only
     refine wpS_bind (wpS_mono (wpS_forRange (I:=fun _ c J=>c=(none,())/\Gd κ a₀ rk lo J/\(arrOf J).toList.drop lo=(arrOf ae).toList.drop lo) (Q:=fun c J=>c=(none,())/\Gd κ a₀ rk lo J/\(arrOf J).toList.drop lo=(arrOf ae).toList.drop lo) ?_ (fun c J hh=>hh) ⟨rfl,G3,rfl⟩) ?_)
     ·rintro y c J _ _ ⟨rfl,G4,d4⟩
      refine wpS_bind (wpS_get ?_)
      by_cases q:(pendingOf J).size > 1
      ·have eq:(pendingOf J)[(pendingOf J).size - 2]? =some (pendingOf J)[(pendingOf J).size - 2]:=Array.getElem?_eq_getElem (by omega)
       rw [if_pos q,eq]
       dsimp only
       by_cases q2:((pendingOf J)[(pendingOf J).size - 2]).2.2<=power' a₀.size (2 * s1 + m1) (2 * s1 + m1 + m1 + (min (a₀.size - lo) (minRun' a₀.size a₀.size 0))) a₀.size
       ·rw [if_pos q2]
        exact wpS_pure ⟨rfl,G4,d4⟩
       ·rw [if_neg q2]
        refine wpS_bind (G4.merge R (by omega) fun ak G5 _ d5=>?_)
        simp only [Bool.not_true,Bool.false_eq_true,if_false]
        exact wpS_pure ⟨rfl,G5,d5.trans d4⟩
      ·rw [if_neg q]
       exact wpS_pure ⟨rfl,G4,d4⟩
     ·rintro c J ⟨rfl,G4,d4⟩
      refine wpS_bind (wpS_modify ?_)
      refine wpS_bind (wpS_modify (wpS_pure (aa (setPending J _) (min (a₀.size - lo) (minRun' a₀.size a₀.size 0)) ⟨G4.kd,G4.fl,G4.pm,G4.ch.same (vf _ _ _ fun r=>rfl),ag⟩ (by omega) (by omega) ?_)))
      show Sr rk (((arrOf J).toList.drop lo).take (min (a₀.size - lo) (minRun' a₀.size a₀.size 0)))
      rw [d4]
      exact S3
   ·rw [if_neg q0]
    have G3:=chain O2
    have S3:=uL U2 (by rw [O2.size];omega)
    refine wpS_bind (wpS_get ?_)
    cases hb:(pendingOf af).back? with
    | none=>
     dsimp only
     exact wpS_bind (wpS_modify (wpS_pure (aa af (n) G3 (by omega) (by omega) S3)))
    | some r=>
     obtain⟨s1,m1,o1⟩:=r
     dsimp only
     refine wpS_bind (wpS_mono (wpS_forRange (I:=fun _ c J=>c=(none,())/\Gd κ a₀ rk lo J/\(arrOf J).toList.drop lo=(arrOf af).toList.drop lo) (Q:=fun c J=>c=(none,())/\Gd κ a₀ rk lo J/\(arrOf J).toList.drop lo=(arrOf af).toList.drop lo) ?_ (fun c J hh=>hh) ⟨rfl,G3,rfl⟩) ?_)
     ·rintro y c J _ _ ⟨rfl,G4,d4⟩
      refine wpS_bind (wpS_get ?_)
      by_cases q:(pendingOf J).size > 1
      ·have eq:(pendingOf J)[(pendingOf J).size - 2]? =some (pendingOf J)[(pendingOf J).size - 2]:=Array.getElem?_eq_getElem (by omega)
       rw [if_pos q,eq]
       dsimp only
       by_cases q2:((pendingOf J)[(pendingOf J).size - 2]).2.2<=power' a₀.size (2 * s1 + m1) (2 * s1 + m1 + m1 + (n)) a₀.size
       ·rw [if_pos q2]
        exact wpS_pure ⟨rfl,G4,d4⟩
       ·rw [if_neg q2]
        refine wpS_bind (G4.merge R (by omega) fun ak G5 _ d5=>?_)
        simp only [Bool.not_true,Bool.false_eq_true,if_false]
        exact wpS_pure ⟨rfl,G5,d5.trans d4⟩
      ·rw [if_neg q]
       exact wpS_pure ⟨rfl,G4,d4⟩
     ·rintro c J ⟨rfl,G4,d4⟩
      refine wpS_bind (wpS_modify ?_)
      refine wpS_bind (wpS_modify (wpS_pure (aa (setPending J _) (n) ⟨G4.kd,G4.fl,G4.pm,G4.ch.same (vf _ _ _ fun r=>rfl),ag⟩ (by omega) (by omega) ?_)))
      show Sr rk (((arrOf J).toList.drop lo).take (n))
      rw [d4]
      exact S3
 case post=>
  rintro c st' ⟨rfl,G⟩
  dsimp only
  have gl:=G.ch.le
  rw [Nat.zero_add,Array.length_toList] at gl
  refine wpS_bind (wpS_mono (wpS_forRange (I:=fun x c U=>c=(none,())/\Gd κ a₀ rk a₀.size U/\(pendingOf U).size + x<=a₀.size) (Q:=fun c U=>c=(none,())/\Gd κ a₀ rk a₀.size U/\(pendingOf U).size<=1) ?_ ?_ ⟨rfl,G,gl⟩) ?_)
  ·rintro x c U _ hx ⟨rfl,G1,l1⟩
   refine wpS_bind (wpS_get ?_)
   by_cases z:(pendingOf U).size<=1
   ·rw [if_pos z]
    exact wpS_pure ⟨rfl,G1,z⟩
   ·rw [if_neg z]
    refine wpS_bind (G1.merge R ?_ fun af G2 l2 _=>?_)
    ·exact Nat.lt_of_le_of_lt (Nat.succ_le_succ (ite_le _)) (by omega:(pendingOf U).size - 2 + 1 < (pendingOf U).size)
    ·simp only [Bool.not_true,Bool.false_eq_true,if_false]
     exact wpS_pure ⟨rfl,G2,by omega⟩
  ·rintro c U ⟨rfl,G1,l1⟩
   rw [show max 0 a₀.size=a₀.size by omega] at l1
   exact⟨rfl,G1,by omega⟩
  ·rintro c U ⟨rfl,G1,l1⟩
   refine wpS_pure (h U G1.fl G1.pm ?_)
   have C:=G1.ch
   rw [<-Array.length_toList] at l1
   have aq:=G1.size
   match hL:(pendingOf U).toList,C,l1 with
   | [],C,_=>
    have:0=a₀.size:=C
    omega
   | [r],C,_=>
    obtain⟨c1,c2,c3,c4⟩:=C
    have e4:0 + r.2.1=a₀.size:=c4
    rw [List.drop_zero,List.take_of_length_le (by rw [Array.length_toList];omega)] at c3
    exact c3
   | _::_::_,_,l=>simp at l
end
end TS
namespace ST
open PySem PySem.W PyProof.Rows
section
variable {α β : Type} (N : Nat) (key : Nat -> Nat)
variable {N key}
end
end ST
namespace L2
open PySem PySem.Spec PyProof.Rows PySem.W
section
variable {prog : Program} {w : World} {A : Around} {E : Value -> Shared -> Prop} {s : Shared}
noncomputable def Kept(s s':Shared)(a:Addr):Prop:=∀ b o,b≠a->s.heap.get? b=some o->s'.heap.get? b=some o
noncomputable def rank(r:Nat×Nat):Nat:=r.1 * 1000 + r.2
theorem zh{x y:Addr}{ox oy:Obj}{n k:Nat}{r q:Nat×Nat}{t1 t2 t3 t4:Tok}{Q:Bool->Shared->Prop}(hx:s.heap.get? x=some ox)(dx:ox.data= .seq #[.int r.1 t1,.int r.2 t2] n)(hy:s.heap.get? y=some oy)(dy:oy.data= .seq #[.int q.1 t3,.int q.2 t4] k)
  (hr:r.2 < 1000)(hq:q.2 < 1000)(h:Q (decide (rank r < rank q)) s):wpAny (model prog w) A (keyLt' (tuples' true) (.ref x) (.ref y)) Q E s:=by
 unfold rank at h
 refine kat_lt hx dx hy dy (kat_cons (wpAny_eqBool_int ?_))
 by_cases e:r.1=q.1
 ·have J:(((r.1:Nat):Int) == ((q.1:Nat):Int))=true:=by rw [e];exact beq_self_eq_true _
  rw [J]
  refine kat_yes (kat_cons (wpAny_eqBool_int ?_))
  by_cases f:r.2=q.2
  ·have f1:(((r.2:Nat):Int) == ((q.2:Nat):Int))=true:=by rw [f];exact beq_self_eq_true _
   rw [f1]
   rw [decide_eq_false (by(clear hq hr;omega))] at h
   exact kat_yes (kat_nil h)
  ·have f1:(((r.2:Nat):Int) == ((q.2:Nat):Int))=false:=beq_eq_false_iff_ne.mpr (by(clear e hq hr;omega))
   rw [f1]
   refine kat_no (kat_one _ _ (lt_int ?_))
   have U:decide (((r.2:Nat):Int) < ((q.2:Nat):Int))=decide (r.1 * 1000 + r.2 < q.1 * 1000 + q.2):=decide_eq_decide.mpr (by(clear f hq hr;omega))
   rw [U]
   exact h
 ·have J:(((r.1:Nat):Int) == ((q.1:Nat):Int))=false:=beq_eq_false_iff_ne.mpr (by(clear hq hr;omega))
  rw [J]
  refine kat_no (oneLt_int ?_)
  have U:decide (((r.1:Nat):Int) < ((q.1:Nat):Int))=decide (r.1 * 1000 + r.2 < q.1 * 1000 + q.2):=decide_eq_decide.mpr (by omega)
  rw [U]
  exact h
end
noncomputable abbrev fg(H:Hp)(q:Addr)(r:Nat×Nat):Prop:=H q=some (.tup [.int (r.1:Int),.int (r.2:Int)])
theorem vD:∀{qs:List Addr} {us:List Value},Vals (qs.map V.ref) us->us=qs.map Value.ref
 | [],us,r=>by rw [List.map_nil] at r;cases r;rfl
 | q::qs,us,r=>by
  rw [List.map_cons] at r
  cases r with
  | cons J U=>
   cases J
   rw [vD U]
   rfl
theorem vj:∀(qs:List Addr),Vals (qs.map V.ref) (qs.map Value.ref)
 | []=> .nil
 | q::qs=> .cons rfl (vj qs)
noncomputable def gC(h:Heap)(q:Addr)(r:Nat×Nat):Prop:=∃ o n t1 t2,h.get? q=some o/\o.cls= .type "tuple"/\o.data= .seq #[.int r.1 t1,.int r.2 t2] n
section
variable {X : Cx}
theorem qE{pins:List (Addr×Obj)}{σ:St}{H:Hp}{s:Shared}(I:Inv X pins σ H s){q:Addr}{r:Nat×Nat}(h:fg H q r):gC s.heap q r:=by
 obtain⟨J,U,⟨o,e,c,n,d⟩,_⟩:=I.tuple (cq.of h)
 obtain⟨u1,u2,rfl,⟨t1,rfl⟩,t2,rfl⟩:=U.two
 exact⟨o,n,t1,t2,e,c,d⟩
theorem sj{h:Heap}:∀{qs:List Addr} {rs:List (Nat×Nat)},Paired (gC h) qs rs->∃ fs,KatTups h (qs.map Value.ref) fs/\fs.length=rs.length/\∀ v∈fs,∃ i t,v=Value.int i t
 | _,_,.nil=>⟨[],trivial,rfl,fun v J=>nomatch J⟩
 | _,_,.cons r t=>by
  obtain⟨fs,a,b,c⟩:=sj t
  obtain⟨o,n,t1,t2,e,k,d⟩:=r
  exact⟨_::fs,KatTups.cons e k d rfl a,by rw [List.length_cons,List.length_cons,b],List.forall_mem_cons.mpr ⟨⟨_,t1,rfl⟩,c⟩⟩
theorem vy{α β:Type}{F:α->β->Prop}{l:List α}{m:List β}(h:Paired F l m){i:Nat}(hi:i < l.length)(d:α)(d':β):F (l.getD i d) (m.getD i d'):=by
 induction h generalizing i with
 | nil=>simp at hi
 | cons r _ J=>
  cases i with
  | zero=>exact r
  | succ i=>exact J (by simpa using hi)
end
section
variable {prog : Program} {w : World} {A : Around} {E : Value -> Shared -> Prop} {s : Shared}
theorem wL{a:Addr}{vs:List Value}{n:Nat}{R:PySem.Fin->Shared->Prop}{rk:Value->Nat}(ho:s.heap.get? a=some (seqObj "list" vs.toArray n))(hl:vs.length<=sizeLine)
  (hq:∀ s':Shared,Kept s s' a->(∀(Q:SortKind->Shared->Prop),0 < vs.length->Q (tuples' true) s'->wpAny (model prog w) A (keyKind' vs.toArray) Q (fun _ _=>False) s')/\
   ∀ x y,x∈vs->y∈vs->∀(C:Bool->Shared->Prop),C (decide (rk x < rk y)) s'->wpAny (model prog w) A (keyLt' (tuples' true) x y) C (fun _ _=>False) s')
  (hR:∀ us:List Value,us.Perm vs->us.Pairwise (fun x y=>rk x<=rk y)->R (.done (.ret .none)) {s with heap:=sortedHeap s.heap a vs us.toArray}):
  wpAny (model prog w) A (Builtin.«list.sort» ⟨[.ref a],[]⟩) R E s:=by
 have alt:=Heap.lt_size ho
 obtain⟨ep,o1⟩:∃ ep,(s.heap.update a (Obj.mapSeq fun _=>(#[]:Array Value))).get? a=some (seqObj "list" #[] ep):=⟨_,get?_update_seq ho fun _=>#[]⟩
 have o2:(((s.heap.update a (Obj.mapSeq fun _=>(#[]:Array Value))).push (seqObj "tuple" vs.toArray 0)).push (seqObj "list" #[] 0)).get? a=some (seqObj "list" #[] ep):=Heap.get?_push_of_some _ (Heap.get?_push_of_some _ o1)
 have kp:Kept s {s with heap:=((s.heap.update a (Obj.mapSeq fun _=>(#[]:Array Value))).push (seqObj "tuple" vs.toArray 0)).push (seqObj "list" #[] 0)} a:=fun b o hb e=>
  Heap.get?_push_of_some _ (Heap.get?_push_of_some _ (by rw [Heap.get?_update_ne _ _ _ _ hb];exact e))
 rw [list_sort_plain]
 refine wpAny_bind (listItems_at ho rfl (wpAny_bind (listUpdate_at ho rfl ?_ (by rw [List.size_toArray];omega) (Nat.zero_le _))))
 refine wpAny_bind (seqEpoch_at o1 rfl (wpAny_bind (wpAny_newTuple ?_ (by show vs.length<=_;omega))))
 refine wpAny_bind (wpAny_newList (wpAny_holding ?_) (Nat.zero_le _))
 generalize aa:({s with heap:=((s.heap.update a (Obj.mapSeq fun _=>(#[]:Array Value))).push (seqObj "tuple" vs.toArray 0)).push (seqObj "list" #[] 0)}:Shared)=s' at kp
 have fin:∀(st:SortSt) (us:List Value),us.Perm vs->us.Pairwise (fun x y=>rk x<=rk y)->(arrOf st).map (·.2)=us.toArray->failedOf st=none->
   wpAny (model prog w) A (do
    let touched:=(<-seqEpoch a) != ep
    Builtin.List.listUpdate (.ref a) fun _=>(arrOf st).map (·.2)
    if let some e:=failedOf st then rule "list.sort.comparison-raised";throw e
    if touched then rule "list.sort.modified";raiseError "ValueError" "list modified during sort"
    ret .none) R E s':=fun st us h1 h2 h3 h4=>by
  subst aa
  refine wpAny_bind (seqEpoch_at o2 rfl (wpAny_bind (listUpdate_at o2 rfl ?_ (Nat.zero_le _) ?_)))
  ·rw [h4,h3]
   simp only [bne_self_eq_false,Bool.false_eq_true,if_false]
   exact wpAny_pure (hR us h1 h2)
  ·rw [h3,List.size_toArray,h1.length_eq]
   omega
 obtain⟨hK,hC⟩:=hq s' kp
 have zl:(vs.toArray.zip vs.toArray).toList=vs.zip vs:=by simp
 by_cases h2:vs.toArray.size < 2
 ·dsimp only
  rw [if_pos h2,if_pos h2]
  refine wpAny_bind (wpAny_pure ?_)
  rw [StateT.run_pure]
  refine wpAny_bind (wpAny_pure ?_)
  rw [List.size_toArray] at h2
  have e1:(arrOf (SortSt.mk' general' (vs.toArray.zip vs.toArray) #[] 7 none)).map (·.2)=vs.toArray:=by
   show(vs.toArray.zip vs.toArray).map (·.2)=_
   match vs,h2 with
   | [],_=>simp
   | [v],_=>simp
  have ae:vs.Pairwise (fun x y=>rk x<=rk y):=by
   match vs,h2 with
   | [],_=>exact List.Pairwise.nil
   | [v],_=>exact List.pairwise_singleton _ _
  exact fin _ vs (List.Perm.refl _) ae e1 rfl
 ·dsimp only
  rw [if_neg h2,if_neg h2]
  rw [List.size_toArray] at h2
  refine wpAny_bind (wpAny_mono (hK (fun κ U=>κ=tuples' true/\U=s') (by omega) ⟨rfl,rfl⟩) ?_ fun _ _ x=>x.elim)
  rintro κ U ⟨rfl,rfl⟩
  have mz:∀ x:Keyed,x∈vs.toArray.zip vs.toArray->x.1=x.2/\x.1∈vs:=fun x hx=>by
   have:x∈vs.zip vs:=by rw [<-zl];exact Array.mem_toList_iff.mpr hx
   exact mem_zip_self this
  have Rr:TS.Rk prog w A U (tuples' true) (vs.toArray.zip vs.toArray) (fun x=>rk x.1):=fun x y hx hy=>hC x.1 y.1 (mz x hx).2 (mz y hy).2 _ ⟨rfl,rfl⟩
  have run:=TS.BF (E:=E) (st:=SortSt.mk' (tuples' true) (vs.toArray.zip vs.toArray) #[] 7 none) (Q:=fun _ J=>failedOf J=none/\(arrOf J).toList.Perm (vs.toArray.zip vs.toArray).toList/\TS.Sr (fun x=>rk x.1) (arrOf J).toList) Rr (by rw [<-Array.length_toList,zl,List.length_zip];omega) rfl rfl (List.Perm.refl _) rfl fun J h1 h2 h3=>⟨h1,h2,h3⟩
  refine wpAny_bind (wpAny_mono run ?_ fun _ _ e=>e)
  rintro⟨⟨⟩,J⟩ s3 ⟨rfl,b1,b2,b3⟩
  have pm:((arrOf J).toList.map (·.2)).Perm vs:=by
   have:=b2.map (·.2)
   rw [zl] at this
   have e:(vs.zip vs).map (·.2)=vs:=by rw [List.map_snd_zip (Nat.le_refl _)]
   rw [e] at this
   exact this
  refine fin J ((arrOf J).toList.map (·.2)) pm ?_ ?_ b1
  ·rw [List.pairwise_map]
   refine b3.imp_of_mem fun{x y} hx hy af=>?_
   have m1:=mz x (Array.mem_toList_iff.mp (b2.mem_iff.mp hx))
   have m2:=mz y (Array.mem_toList_iff.mp (b2.mem_iff.mp hy))
   rw [<-m1.1,<-m2.1]
   exact af
  ·apply Array.toList_inj.mp
   simp
noncomputable def zL(r:Addr->Nat×Nat):Value->Nat
 | .ref p=>rank (r p)
 | _=>0
theorem gC.keep {h h':Heap}{p:Addr}{q:Nat×Nat}(x:gC h p q)(k:∀ b o,h.get? b=some o->h'.get? b=some o):gC h' p q:=
 let ⟨o,n,t1,t2,a,b,c⟩:=x;⟨o,n,t1,t2,k _ _ a,b,c⟩
theorem yK{a:Addr}{o:Obj}{es:Array (Int×Value)}{ep:Nat}{t:SetTable}{Q:Value->Shared->Prop}(hh:A.handled=none)(ho:s.heap.get? a=some o)(hc:o.cls= .type "set")(hd:o.data= .set es ep t)(T:Tab w es t)
  (r:Addr->Nat×Nat)(pts:List Addr)(hp:es.toList.map (·.2)=pts.map Value.ref)(hr:∀ p∈pts,gC s.heap p (r p)/\(r p).2 < 1000)(hn:es.size < 10000)
  (h:∀(s':Shared) (us:List Addr) (L c:Nat),(∀ b o,s.heap.get? b=some o->s'.heap.get? b=some o)->s'.gens=s.gens->s'.drawn=s.drawn->s'.os=s.os->s.toks<=s'.toks->us.Perm pts->us.Pairwise (fun x y=>rank (r x)<=rank (r y))->
   s'.heap.get? L=some (seqObj "list" (us.map Value.ref).toArray c)->s.heap.objs.size<=L->Q (.ref L) s'):
  wpAny (model prog w) A (call (.builtin "sorted") [.ref a]) Q E s:=by
 have line:(sizeLine:Nat)=16777216:=sizeLine_eq
 refine Calls.call_function_entry kind_sorted plain_sorted entry_sorted (args_sorted1 _) (show wpAny _ _ (Builtin.«sorted» _) _ _ _ from ?_)
 unfold Builtin.«sorted»
 refine wpAny_bind (m:=checkCount "sorted" 1 1 _) (wpAny_pure (wpAny_bind (AZ (by simpa using hh) ho hc hd T (fun s1 acc k1 g1 d1 o1 t1 z1 ea=>?_) (by omega))))
 have op:acc.toList.Perm (pts.map Value.ref):=by
  rw [ea,<-hp];exact(uF w a ep es).map _
 obtain⟨ps,af,U⟩:∃ ps:List Addr,acc.toList=ps.map Value.ref/\ps.Perm pts:=by
  have aa:∀ v∈acc.toList,∃ p,v=Value.ref p:=fun v hv=>by
   obtain⟨p,_,e⟩:=List.mem_map.mp (op.mem_iff.mp hv)
   exact⟨p,e.symm⟩
  have ex:∀ l:List Value,(∀ v∈l,∃ p,v=Value.ref p)->∃ ps:List Addr,l=ps.map Value.ref:=fun l=>by
   induction l with
   | nil=>exact fun _=>⟨[],rfl⟩
   | cons v l ih=>
    intro hv
    obtain⟨p,rfl⟩:=hv v (by simp)
    obtain⟨ps,rfl⟩:=ih fun u hu=>hv u (by simp [hu])
    exact⟨p::ps,rfl⟩
  obtain⟨ps,e⟩:=ex _ aa
  refine⟨ps,e,?_⟩
  rw [e] at op
  have:=op.map (fun v=>match v with | Value.ref p=>p | _=>0)
  simpa [List.map_map,Function.comp_def] using this
 have pl:acc.toList.length=es.size:=by rw [ea,List.length_map,Array.length_toList,nZ]
 refine wpAny_bind (wpAny_newList ?_ (by omega))
 rw [af]
 have pz:ps.length=es.size:=by rw [af,List.length_map] at pl;exact pl
 have oL:(s1.heap.push (seqObj "list" (ps.map Value.ref).toArray 0)).get? s1.heap.objs.size=some (seqObj "list" (ps.map Value.ref).toArray 0):=Heap.get?_push_size _ rfl
 have ah:∀ p∈ps,gC (s1.heap.push (seqObj "list" (ps.map Value.ref).toArray 0)) p (r p):=fun p J=>(hr p (U.mem_iff.mp J)).1.keep fun b o e=>Heap.get?_push_of_some _ (k1 b o e)
 have ak:∀ p∈ps,p≠s1.heap.objs.size:=fun p J=>by
  obtain⟨o',n',aq,ar,e,_⟩:=(hr p (U.mem_iff.mp J)).1
  exact Nat.ne_of_lt (Heap.lt_size (k1 _ _ e))
 refine wpAny_bind (wpAny_holding (wpAny_call_entry slot_list_sort ⟨_,oL,rfl⟩ entry_list_sort (wL (rk:=zL r) oL (by rw [List.length_map];omega) (fun s' kp=>?_) fun us h1 h2=>⟨_,rfl,?_⟩) (args_list_sort _)))
 ·have ae:∀ p∈ps,gC s'.heap p (r p):=fun p J=>by
   obtain⟨o',n',u1,u2,e,b,c⟩:=ah p J
   exact⟨o',n',u1,u2,kp _ _ (ak p J) e,b,c⟩
  have po:Paired (gC s'.heap) ps (ps.map r):=by
   have:∀ l:List Addr,(∀ p∈l,gC s'.heap p (r p))->Paired (gC s'.heap) l (l.map r):=fun l=>by
    induction l with
    | nil=>exact fun _=> .nil
    | cons p l ih=>exact fun hl=> .cons (hl p (by simp)) (ih fun q hq=>hl q (by simp [hq]))
   exact this ps ae
  obtain⟨fs,c1,c2,c3⟩:=sj po
  refine⟨fun Q' h0 hQ=>kat_kind (T:= .type "int") c1 (by rw [c2,List.length_map];rw [List.length_map] at h0;exact h0) (fun v hv=>?_) (by decide) hQ,fun x y hx hy C hC=>?_⟩
  ·obtain⟨i,u,rfl⟩:=c3 v hv
   exact Looks.now
  ·obtain⟨p,J,rfl⟩:=List.mem_map.mp hx
   obtain⟨q,ag,rfl⟩:=List.mem_map.mp hy
   obtain⟨au,av,u1,u2,e1,_,f1⟩:=ae p J
   obtain⟨aw,ax,u3,u4,e2,_,f2⟩:=ae q ag
   exact zh e1 f1 e2 f2 (hr p (U.mem_iff.mp J)).2 (hr q (U.mem_iff.mp ag)).2 hC
 ·obtain⟨ws,ew,pw⟩:∃ ws:List Addr,us=ws.map Value.ref/\ws.Perm ps:=by
   have aa:∀ v∈us,∃ p,v=Value.ref p:=fun v hv=>by
    obtain⟨p,_,e⟩:=List.mem_map.mp (h1.mem_iff.mp hv)
    exact⟨p,e.symm⟩
   have ex:∀ l:List Value,(∀ v∈l,∃ p,v=Value.ref p)->∃ ps:List Addr,l=ps.map Value.ref:=fun l=>by
    induction l with
    | nil=>exact fun _=>⟨[],rfl⟩
    | cons v l ih=>
     intro hv
     obtain⟨p,rfl⟩:=hv v (by simp)
     obtain⟨ps,rfl⟩:=ih fun u hu=>hv u (by simp [hu])
     exact⟨p::ps,rfl⟩
   obtain⟨ws,e⟩:=ex _ aa
   refine⟨ws,e,?_⟩
   rw [e] at h1
   have:=h1.map (fun v=>match v with | Value.ref p=>p | _=>0)
   simpa [List.map_map,Function.comp_def] using this
  subst ew
  obtain⟨c,ao⟩:=sortedHeap_at (out:=(ws.map Value.ref).toArray) oL
  refine wpAny_pure ⟨_,rfl,h _ ws s1.heap.objs.size c (fun b o e=>?_) g1 d1 o1 t1 (pw.trans U) ?_ ao ?_⟩
  ·have e1:=k1 b o e
   have lt:=Heap.lt_size e1
   show(sortedHeap _ _ _ _).get? b=some o
   rw [sortedHeap_old (Nat.ne_of_lt lt) (by rw [size_push'];exact Nat.lt_succ_of_lt lt)]
   exact Heap.get?_push_of_some _ e1
  ·rw [List.pairwise_map] at h2
   exact h2
  ·exact z1
end
theorem yg{prog:Program}{w:World}(k:Int)(v:Value)(h:(intKind prog w).is k v=true):plainKind v=true:=by
 obtain⟨t,rfl⟩:=Value.isInt_shape h;rfl
theorem sv{prog:Program}{w:World}{h:Heap}{p:Addr}{r:Nat×Nat}(x:gC h p r):IsTupleKey (intKind prog w) h [(r.1:Int),(r.2:Int)] p:=by
 obtain⟨o,n,t1,t2,a,b,c⟩:=x
 exact⟨o,_,n,a,b,c,.cons (intKind_is _ _ _ _) (.cons (intKind_is _ _ _ _) .nil)⟩
theorem om{α:Type} [DecidableEq α]:∀{l m:List α},l.Nodup->l ⊆ m->l.length<=m.length
 | [],m,_,_=>Nat.zero_le _
 | a::l,m,h,k=>by
  obtain⟨h1,h2⟩:=List.nodup_cons.mp h
  have ha:a∈m:=k List.mem_cons_self
  have:=om (m:=m.erase a) h2 fun x J=>(List.mem_erase_of_ne (fun z:x=a=>h1 (by rw [<-z];exact J))).mpr (k (List.mem_cons_of_mem _ J))
  rw [List.length_erase_of_mem ha] at this
  have:=List.length_pos_of_mem ha
  rw [List.length_cons]
  omega
noncomputable def pairAt(H:Hp)(p:Addr):Nat×Nat:=match H p with
 | some (.tup [.int a,.int b])=>(a.toNat,b.toNat)
 | _=>(0,0)
theorem yW{H:Hp}{p:Addr}{r:Nat×Nat}(h:fg H p r):pairAt H p=r:=by unfold pairAt;rw [h];rfl
noncomputable def refOf:Value->Addr
 | .ref p=>p
 | _=>0
section
variable {X : Cx}
theorem yO{pins:List (Addr×Obj)}{σ:St}{H:Hp}{s:Shared}{l:Addr}{ps:List Addr}{rs:List (Nat×Nat)}{Q:VK}(hh:X.A.handled=none)(hu:X.A.units + 10 < cLine)(I:Inv X pins σ H s)(hL:H l=some (.lst (ps.map V.ref)))(pr:Paired (fg H) ps rs)(hb:∀ r∈rs,r.2 < 1000)(U:List (Nat×Nat))(hU:∀ r∈rs,r∈U)(hn:U.length < 1900)
  (h:∀(L:Addr) (us:List Addr) (ws:List (Nat×Nat)),H L=none->Paired (fg H) us ws->ws.Pairwise (fun a b=>rank a < rank b)->(∀ x,x∈ws↔x∈rs)->Q (.ref L) (upd H L (.lst (us.map V.ref)))):
  wpAny (model X.prog X.w) X.A (call (.type "set") [.ref l]) (fun v s1=>wpAny (model X.prog X.w) X.A (call (.builtin "sorted") [v]) (EP X pins σ Q) X.xe s1) X.xe s:=by
 have aa:=Gn.Paired.len pr
 obtain⟨aB,r',pl,_⟩:=I.list (cm.of hL)
 have ei:=vD r'
 subst ei
 have po:Paired (gC s.heap) ps rs:=Gn.Paired.imp2 pr fun _ _ h=>qE I h
 have room:∀ i,(fZ (fun i=>(rs.map fun r=>[(r.1:Int),(r.2:Int)]).getD i []) i).length < 2000:=fun i=>by
  have sub:fZ (fun i=>(rs.map fun r=>[(r.1:Int),(r.2:Int)]).getD i []) i ⊆ []::U.map (fun r=>[(r.1:Int),(r.2:Int)]):=fun q hq=>by
   obtain⟨j,_,e⟩:=(qH _ i q).mp hq
   by_cases hj:j < rs.length
   ·rw [List.getD_eq_getElem?_getD,List.getElem?_map,List.getElem?_eq_getElem hj] at e
    refine List.mem_cons_of_mem _ (List.mem_map.mpr ⟨rs[j],hU _ (List.getElem_mem hj),e⟩)
   ·rw [List.getD_eq_getElem?_getD,List.getElem?_eq_none (by rw [List.length_map];(clear e aa hn hu;omega))] at e
    rw [<-e];exact List.mem_cons_self
  have:=om (tf _ i) sub
  rw [List.length_cons,List.length_map] at this
  (clear aa hu;omega)
 refine yX (knd:=intKind X.prog X.w) (pts:=ps) (qs:=rs.map fun r=>[(r.1:Int),(r.2:Int)]) hu yg hh pl.isList (by rw [List.length_map];(clear hn hu;omega)) (fun j hj=>?_) room fun h' tk TS k1 ht=>?_
 ·have:=vy po hj 0 (0,0)
  have e:(rs.map fun r=>[(r.1:Int),(r.2:Int)]).getD j []=[((rs.getD j (0,0)).1:Int),((rs.getD j (0,0)).2:Int)]:=by
   rw [List.getD_eq_getElem?_getD,List.getElem?_map,List.getElem?_eq_getElem (by(clear hn hu;omega)),List.getD_eq_getElem?_getD,List.getElem?_eq_getElem (by omega)];rfl
  rw [e]
  exact sv this
 ·obtain⟨o,es,ep,t,qs,a1,a2,a3,T,a5,a6,a7⟩:=TS
  have kk:∀ b o,s.heap.get? b=some o->h'.get? b=some o:=fun b o e=>k1 b o (Heap.lt_size e) e
  have ah:∀ p∈ps,fg H p (pairAt H p)/\pairAt H p∈rs:=fun p hp=>by
   obtain⟨j,hj,ej⟩:=List.getElem_of_mem hp
   have:=vy pr hj 0 (0,0)
   have e1:ps.getD j 0=p:=by rw [List.getD_eq_getElem?_getD,List.getElem?_eq_getElem hj,ej];rfl
   have e2:rs.getD j (0,0)∈rs:=by rw [List.getD_eq_getElem?_getD,List.getElem?_eq_getElem (by(clear e1 ej a5 ht hn hu;omega))];exact List.getElem_mem _
   rw [e1] at this
   rw [yW this]
   exact⟨this,e2⟩
  have el:∀(i:Nat) (e:Int×Value),es[i]? =some e->e.2= .ref (refOf e.2)/\refOf e.2∈ps/\qs[i]? =some [((pairAt H (refOf e.2)).1:Int),((pairAt H (refOf e.2)).2:Int)]:=fun i e he=>by
   obtain⟨p,q',e1,e2,e3,e4,e5⟩:=T.en i e he
   have er:refOf e.2=p:=by rw [e1];rfl
   have kp:=sv (prog:=X.prog) (w:=X.w) ((qE I (ah p e5).1).keep kk)
   rw [er]
   refine⟨e1,e5,?_⟩
   rw [e2,e3.inj kp]
  have eqs:qs=(es.toList.map fun e=>refOf e.2).map fun p=>[((pairAt H p).1:Int),((pairAt H p).2:Int)]:=by
   refine List.ext_getElem? fun i=>?_
   have et:es.toList[i]? =es[i]? :=Array.getElem?_toList
   rw [List.getElem?_map,List.getElem?_map,et]
   by_cases hi:i < es.size
   ·rw [Array.getElem?_eq_getElem hi]
    exact(el i _ (Array.getElem?_eq_getElem hi)).2.2
   ·rw [Array.getElem?_eq_none (by(clear et a5 ht aa hn hu;omega)),List.getElem?_eq_none (by rw [T.len];omega)];rfl
  have mem:∀ e∈es.toList,e.2= .ref (refOf e.2)/\refOf e.2∈ps:=fun e he=>by
   obtain⟨i,hi,ei⟩:=List.getElem_of_mem he
   have:=el i e (by rw [<-Array.getElem?_toList,List.getElem?_eq_getElem hi,ei])
   exact⟨this.1,this.2.1⟩
  have ak:∀ p∈es.toList.map (fun e=>refOf e.2),p∈ps:=fun p hp=>by
   obtain⟨e,he,rfl⟩:=List.mem_map.mp hp
   exact(mem e he).2
  have ae:s.heap.objs.size < h'.objs.size:=Heap.lt_size a1
  have ag:es.size < 10000:=by
   have:=a7.length_eq
   have:=room ps.length
   have:=T.len
   (clear ae a5 ht aa hn hu;omega)
  have ar:((es.toList.map fun e=>refOf e.2).map (pairAt H)).Nodup:=by
   have h1:=T.nd
   rw [eqs,show(fun p=>[((pairAt H p).1:Int),((pairAt H p).2:Int)])=(fun r:Nat×Nat=>[(r.1:Int),(r.2:Int)]) ∘ pairAt H from rfl,<-List.map_map] at h1
   exact List.Pairwise.of_map _ (fun a b ao z=>ao (by rw [z])) h1
  refine yK (s:={s with heap:=h',toks:=tk}) hh a1 a2.1 a3 ⟨T.fits,T.ti,T.pl,a6⟩ (pairAt H) (es.toList.map fun e=>refOf e.2) (by
   rw [List.map_map];exact List.map_congr_left fun e he=>(mem e he).1) (fun p hp=>⟨(qE I (ah p (ak p hp)).1).keep kk,hb _ (ah p (ak p hp)).2⟩) ag fun s' us L c k2 g2 d2 o2 t2 pm au av af=>?_
  have J:s.heap.objs.size<=L:=Nat.le_trans (Nat.le_of_lt ae) af
  have aw:s'={s with heap:=s'.heap,toks:=s'.toks}:=by
   obtain⟨x1,x2,x3,x4,x5⟩:=s'
   dsimp only at g2 d2 o2
   subst g2;subst d2;subst o2;rfl
  have aq:∀ p∈us,p∈ps:=fun p hp=>ak p (pm.mem_iff.mp hp)
  have ul:us.length=es.size:=by rw [pm.length_eq,List.length_map,Array.length_toList]
  have line:(sizeLine:Nat)=16777216:=sizeLine_eq
  have I':=I.laid (t':=s'.toks) (h':=s'.heap) (a:=L) (o:= .lst (us.map V.ref)) (fun b u e=>k2 b u (kk b u e)) J (show dP X.prog X.w _ s'.heap _ (.lst (us.map V.ref)) from⟨by rw [List.length_map,ul];(clear ul J af t2 ae a5 ht aa hn hu;omega),_,c,vj _,av⟩)
  rw [<-aw] at I'
  refine⟨.ref L,_,I',rfl,h L us (us.map (pairAt H)) (I.hok.fresh J) ?_ ?_ fun x=>?_⟩
  ·have:∀ l:List Addr,(∀ p∈l,p∈ps)->Paired (fg H) l (l.map (pairAt H)):=fun l=>by
    induction l with
    | nil=>exact fun _=> .nil
    | cons p l ih=>exact fun hl=> .cons (ah p (hl p (by simp))).1 (ih fun q hq=>hl q (by simp [hq]))
   exact this us aq
  ·have nd:(us.map (pairAt H)).Nodup:=(pm.map (pairAt H)).nodup_iff.mpr ar
   have le:(us.map (pairAt H)).Pairwise (fun a b=>rank a<=rank b):=List.pairwise_map.mpr au
   refine(le.and nd).imp_of_mem fun{a b} ha ax ao=>?_
   obtain⟨pa,ay,rfl⟩:=List.mem_map.mp ha
   obtain⟨pb,aA,rfl⟩:=List.mem_map.mp ax
   have b1:=hb _ (ah pa (aq pa ay)).2
   have b2:=hb _ (ah pb (aq pb aA)).2
   rcases Nat.lt_or_ge (rank (pairAt H pa)) (rank (pairAt H pb)) with z | z
   ·exact z
   ·refine absurd ?_ ao.2
    have:=ao.1
    unfold rank at this z
    exact Prod.ext (by(clear ao line ul J af t2 ag ae a5 ht aa hn hu;omega)) (by omega)
  ·have m1:x∈us.map (pairAt H)↔x∈(es.toList.map fun e=>refOf e.2).map (pairAt H):=(pm.map (pairAt H)).mem_iff
   rw [m1]
   have m2:x∈(es.toList.map fun e=>refOf e.2).map (pairAt H)↔[(x.1:Int),(x.2:Int)]∈qs:=by
    rw [eqs]
    constructor
    ·intro hx
     obtain⟨p,hp,rfl⟩:=List.mem_map.mp hx
     exact List.mem_map.mpr ⟨p,hp,rfl⟩
    ·intro hx
     obtain⟨p,hp,e⟩:=List.mem_map.mp hx
     refine List.mem_map.mpr ⟨p,hp,?_⟩
     simp only [List.cons.injEq,and_true] at e
     exact Prod.ext (by(clear line ul J af t2 ag ae a5 ht aa hn hu;omega)) (by omega)
   rw [m2,a7.mem_iff,qH]
   constructor
   ·rintro⟨j,hj,e⟩
    rw [List.getD_eq_getElem?_getD,List.getElem?_map,List.getElem?_eq_getElem (by(clear e line ul J af t2 ag ae a5 ht hn hu;omega))] at e
    have e':[((rs[j]'(by(clear e line ul J af t2 ag ae a5 ht hn hu;omega))).1:Int),((rs[j]'(by omega)).2:Int)]=[(x.1:Int),(x.2:Int)]:=e
    simp only [List.cons.injEq,and_true] at e'
    have:rs[j]'(by(clear e' e line ul J af t2 ag ae a5 ht hn hu;omega))=x:=Prod.ext (by omega) (by omega)
    rw [<-this];exact List.getElem_mem _
   ·intro hx
    obtain⟨j,hj,ej⟩:=List.getElem_of_mem hx
    refine⟨j,by(clear ej line ul J af t2 ag ae a5 ht hn hu;omega),?_⟩
    rw [List.getD_eq_getElem?_getD,List.getElem?_map,List.getElem?_eq_getElem hj,ej];rfl
end
section
variable {X : Cx} {e : Expr} {te : TE} {p1 p2 q1 q2 : Pos} {k : Nat}
noncomputable def AO(te:TE):TE:=fun σ H Q=>te σ H fun x H1=>∃(l:Addr) (ps:List Addr) (rs:List (Nat×Nat)),x= .ref l/\H1 l=some (.lst (ps.map V.ref))/\Paired (fg H1) ps rs/\(∀ r∈rs,r.2 < 1000)/\(∃ U:List (Nat×Nat),(∀ r∈rs,r∈U)/\U.length < 1900)/\
 ∀(L:Addr) (us:List Addr) (ws:List (Nat×Nat)),H1 L=none->Paired (fg H1) us ws->ws.Pairwise (fun a b=>rank a < rank b)->(∀ x,x∈ws↔x∈rs)->Q (.ref L) (upd H1 L (.lst (us.map V.ref)))
theorem p6(hr:dW k X.A)(hg1:Gl X "sorted")(hm1:X.mg "sorted"=none)(hg2:Gl X "set")(hm2:X.mg "set"=none)(ha:PE X e te)
  (hs:starEach [e] X.env=[(false,eval e X.env)]:=by rfl):
  PE X (.Call (.Name "sorted" p1) [.Call (.Name "set" p2) [e] [] q2] [] q1) (AO te):=by
 intro pins s σ H Q I h
 refine wpAny_Call_Name_kw (iM (u:= .builtin "sorted") I hg1 hm1 rfl ?_ (by decide) (by decide))
 refine PyProof.Rows.callWith_builtin1 ?_ rfl rfl
 show wpAny _ _ (spliced ((false,eval (.Call (.Name "set" p2) [e] [] q2) X.env)::[])) _ _ s
 refine Calls.spliced_cons ?_
 refine wpAny_Call_Name_kw (iM (u:= .type "set") I hg2 hm2 rfl ?_ (by decide) (by decide))
 refine PyProof.Rows.callWith_type1 ?_ (by rw [hs];rfl) rfl
 rw [hs]
 show wpAny _ _ (spliced ((false,eval e X.env)::[])) _ _ s
 refine Calls.spliced_cons (cF (ha pins s σ H _ I h) fun u s1 ⟨x,H1,J,r1,l,ps,rs,e1,e2,e3,e4,⟨U,u1,u2⟩,e6⟩=>?_)
 subst e1
 cases r1
 refine Calls.spliced_nil ?_
 refine cF (yO hr.hd (by have:=hr.un;omega) J e2 e3 e4 U u1 u2 e6) fun v s2 hv=>?_
 exact Calls.spliced_nil hv
end
end L2
namespace K14
open PySem L2 PyProof.Rows PySem.Spec Gn K01
noncomputable def top(i:Nat):Stmt:=PySem.Challenge.pw_findhall_k14_spans_and_holds.main.body.getD i (.Pass ⟨0,0,0,0⟩)
noncomputable abbrev lx:Stmt:=top 6
noncomputable abbrev ku:Stmt:=top 7
noncomputable abbrev lz:Stmt:=top 10
noncomputable abbrev i8:Stmt:=top 18
noncomputable abbrev jW:Stmt:=top 19
noncomputable abbrev jK:Stmt:=top 20
noncomputable abbrev du:Stmt:=top 21
noncomputable abbrev cW:Stmt:=top 22
noncomputable abbrev cS:Stmt:=top 23
noncomputable abbrev cR:Stmt:=top 24
noncomputable abbrev cN:Stmt:=top 25
noncomputable abbrev cB:Stmt:=top 26
noncomputable abbrev cE:Stmt:=top 27
noncomputable abbrev cO:Stmt:=top 28
noncomputable abbrev k8:Stmt:=top 29
noncomputable abbrev kD:Stmt:=top 30
noncomputable abbrev kM:Stmt:=top 31
noncomputable abbrev lL:Stmt:=top 32
noncomputable abbrev lg:Stmt:=top 33
noncomputable abbrev jZ:Stmt:=top 34
noncomputable abbrev lj:Stmt:=top 35
noncomputable abbrev iq:Stmt:=top 37
noncomputable abbrev jv:Stmt:=top 38
noncomputable abbrev jA:Stmt:=top 39
noncomputable abbrev jc:Stmt:=top 40
noncomputable abbrev kB:Stmt:=top 41
noncomputable abbrev lF:Stmt:=top 42
noncomputable abbrev jM:Stmt:=top 43
noncomputable abbrev jk:Stmt:=top 44
noncomputable abbrev kG:Stmt:=top 45
noncomputable abbrev kb:Stmt:=top 46
noncomputable abbrev kX:Stmt:=top 47
noncomputable abbrev jQ:Stmt:=top 48
noncomputable abbrev iu:Stmt:=top 49
structure Txt (mg : Str -> Option Value) : Prop where
 isi : mg "isinstance" = none
 int : mg "int" = none
 bool : mg "bool" = none
 str : mg "str" = none
 list : mg "list" = none
 tuple : mg "tuple" = none
 len : mg "len" = none
 all : mg "all" = none
 range : mg "range" = none
 zip : mg "zip" = none
 sum : mg "sum" = none
 enum : mg "enumerate" = none
 max : mg "max" = none
 min : mg "min" = none
 sorted : mg "sorted" = none
 set : mg "set" = none
 cSmall : ∃ t, mg "SMALL_SIGNS" = some (.str "abcdefghijklmnopqrstuvwxyz0123456789" t)
 cWord : ∃ t, mg "MOST_WORD_SIGNS" = some (.int 2000 t)
 cLR : ∃ t, mg "LEAST_IN_ROW" = some (.int 2 t)
 cMR : ∃ t, mg "MOST_IN_ROW" = some (.int 8 t)
 cFar : ∃ t, mg "MOST_FAR" = some (.int 20 t)
 cDeep : ∃ t, mg "MOST_DEEP" = some (.int 8 t)
 cAll : ∃ t, mg "MOST_IN_ALL" = some (.int 40 t)
section
variable {P : Program} {w : World} {K : PySem.W.Frag} {mg : Str -> Option Value} {base : Heap}
noncomputable def sr(K:W.Frag):Sp:=fun vs H Q _=>∃ x,vs=[x]/\Known K H x/\Q (.bl (oV x && !qY x)) H
theorem vZ:dD ["thing"] ["thing"] (cv lx):=⟨rfl,rfl,rfl,dkq,rfl,dkq,dkq⟩
seal cV PS PE PT PA PG PI dj de in
theorem BA{f:Addr}{fd:FuncData}(D:Df K mg "is_whole" lx f fd)(T:Txt mg):cu P w K mg base cC 1 f fd ["thing"] (sr K):=by
 refine D.F.ok vZ (fun vs H Q E h=>?_) (fun cdv A outer s H vs Q E U h=>?_)
 ·obtain⟨x,rfl,_⟩:=h
  rfl
 ·obtain⟨x,rfl,⟨n,J⟩,k⟩:=h
  refine⟨_,cz (cI (ni (dF iC rfl T.isi gY (cf (pv 0) (cf (h7 (v:= .ty "int") rfl T.int oP rfl) cg)))
   (jD (pT (dF iC rfl T.isi gY (cf (pv 0) (cf (h7 (v:= .ty "bool") rfl T.bool oG rfl) cg))))))),?_⟩
  refine⟨_,rfl,x,.ty "int",_,_,rfl,J,.inl ⟨_,rfl,uB J⟩,_,rfl,?_⟩
  cases hi:oV x with
  | false=>
   rw [hi] at k
   exact cY k
  | true=>
   rw [hi] at k
   refine cJ ?_
   exact⟨_,rfl,x,.ty "bool",_,_,rfl,J,.inl ⟨_,rfl,uE J⟩,_,rfl,k⟩
theorem str_len(z:Str):z.cps.toList.length=z.length:=by simp [Str.length]
theorem Ah{z:Str}{i c:Nat}(h:z.cps[i]? =some c):z.cps.toList[i]? =some c:=by simpa using h
theorem zS:(["sign"]:List Str).Nodup:=dkq
theorem Bo{x:V}{m:Nat}(h:mI x=false):gU m x=false:=by cases x<;>first | rfl | cases h
theorem isStr{x:V}(h:mI x=true):∃ z,x= .str z:=by cases x<;>first | exact⟨_,rfl⟩ | cases h
noncomputable def qW(K:W.Frag):Sp:=fun vs H Q _=>∃(x:V) (m:Nat),vs=[x,.int m]/\Known K H x/\nA x/\∀ H',ck H H'->Q (.bl (gU m x)) H'
theorem B0:dD ["thing","most"] ["thing","most"] (cv ku):=⟨rfl,rfl,rfl,dkq,rfl,dkq,dkq⟩
theorem xn{f g:Nat->Bool}(h:∀ c,c < 128->f c=g c)(hf:∀ c,f c=true->c < 128)(hg:∀ c,g c=true->c < 128)(c:Nat):f c=g c:=by
 by_cases J:c < 128
 ·exact h c J
 ·cases ef:f c with
  | true=>exact absurd (hf c ef) J
  | false=>
   cases eg:g c with
   | true=>exact absurd (hg c eg) J
   | false=>rfl
theorem x6{l:List Nat}(h:l.all (fun x=>decide (x < 128))=true)(c:Nat)(e:decide (c∈l)=true):c < 128:=of_decide_eq_true (List.all_eq_true.mp h c (of_decide_eq_true e))
noncomputable abbrev yA:Str:=Str.ofString "abcdefghijklmnopqrstuvwxyz0123456789"
theorem xv:∀ c:Nat,decide (c∈yA.cps.toList)=fA c:=xn dkq (x6 dkq) fun c h=>rm h
theorem yx(c:Nat):(!(Builtin.Str.occurrences (Str.ofString "abcdefghijklmnopqrstuvwxyz0123456789") ⟨#[c]⟩ 0 (Str.ofString "abcdefghijklmnopqrstuvwxyz0123456789").length 1).isEmpty)=fA c:=by
 rw [PySem.StrLaws.found_one]
 exact xv c
seal cV PS PE PT PA PG PI dj de in
theorem xr{f:Addr}{fd:FuncData}(D:Df K mg "is_small_row" ku f fd)(T:Txt mg):cu P w K mg base cC 1 f fd ["thing","most"] (qW K):=by
 obtain⟨tc,U⟩:=T.cSmall
 refine D.F.ok B0 (fun vs H Q E h=>?_) (fun cdv A outer s H vs Q E hr h=>?_)
 ·obtain⟨x,m,rfl,_⟩:=h
  rfl
 ·obtain⟨x,m,rfl,⟨n,aa⟩,ae,k⟩:=h
  refine⟨_,cD (dC (PW.pt (fX (gs (fT (dF iC rfl T.isi gY (cf (pv 0) (cf (h7 (v:= .ty "str") rfl T.str tL rfl) cg)))))
    (fX (cZ lX (dF mV rfl T.len eZ (cf (pv 0) cg)) cj (cX _))
    (h9 (cZ iN (dF mV rfl T.len eZ (cf (pv 0) cg)) (pv 1) (cX _)))))) (cz (cI ju)) dz)
   (cz (cI (dF (A2 rfl) rfl T.all xp (cf (gP (own:=1) (caps:=[]) (N:=["sign"]) (N0:=["thing","most"]) (sc0:=cv ku) rfl (xD (pv 0))
    (fun _ _ _=>dU (i:=0) zS rfl (Or.inl rfl)) (fun _ _ _=>iU)
    (fun _ _ _=>iJ yc (pv 0) (iF (v:= .str (Str.ofString "abcdefghijklmnopqrstuvwxyz0123456789")) rfl U ⟨_,rfl⟩) rfl) (fW (by decide)) rfl rfl
    dkq rfl dkq dkq rfl dkq) cg)))),?_⟩
  refine⟨_,rfl,x,.ty "str",_,_,rfl,aa,.inl ⟨_,rfl,xA aa⟩,_,rfl,?_⟩
  have kH:=k H (ck.refl H)
  cases hx:mI x with
  | false=>
   rw [Bo hx] at kH
   exact cJ (cJ kH)
  | true=>
   obtain⟨z,rfl⟩:=isStr hx
   have hz:=ae z rfl
   have hl:(sizeLine:Nat)=16777216:=sizeLine_eq
   have J:gU m (.str z)=(decide (1<=z.length) && decide (z.length<=m) && z.cps.toList.all fA):=rfl
   refine cY ?_
   refine⟨_,rfl,z,rfl,by(clear J hx U;omega),_,_,rfl,rfl,_,rfl,?_⟩
   by_cases h1:(z.length:Int) < 1
   ·rw [decide_eq_true h1]
    rw [J,decide_eq_false (by(clear J hl hz hx U;omega)),Bool.false_and,Bool.false_and] at kH
    exact cJ (cJ kH)
   ·rw [decide_eq_false h1]
    refine cY ⟨_,rfl,z,rfl,by(clear h1 J hx U;omega),_,rfl,_,_,rfl,rfl,_,rfl,?_⟩
    by_cases hlen:(m:Int) < (z.length:Int)
    ·rw [decide_eq_true hlen]
     rw [J,decide_eq_false (show ¬ z.length<=m by(clear h1 J hl hz hx U;omega)),Bool.and_false,Bool.false_and] at kH
     exact cJ kH
    ·rw [decide_eq_false hlen]
     refine cY ?_
     have sz:z.cps.size=z.length:=rfl
     refine⟨_,rfl,z,rfl,Bs (x:=z) (fun i ys H'=>ck H H'/\ys=((z.cps.toList.take i).map fun c=>V.bl (fA c))) (by(clear hlen h1 J hx U;omega)) ⟨ck.refl H,rfl⟩ ?_ ?_⟩
     ·rintro i c ys H' N hc ⟨sm,rfl⟩ hN
      refine g1 ?_
      refine⟨_,rfl,_,_,rfl,rfl,hN _ _ ⟨sm,?_⟩⟩
      rw [yx,List.take_add_one,Ah hc,List.map_append]
      rfl
     ·rintro ys H' ⟨sm,rfl⟩ _ p hp
      refine⟨p,z.cps.toList.map fA,rfl,cm.of (by rw [cx,List.take_of_length_le (by simp)];simp),?_⟩
      have:=k (upd H' p (.lst ((z.cps.toList.take z.cps.size).map fun c=>V.bl (fA c)))) (ck.upd sm hp)
      have e:gU m (.str z)=(z.cps.toList.map fA).all id:=by
       rw [J,decide_eq_true (by(clear hp sz hlen J hl hz hx U;omega)),decide_eq_true (by(clear hp sz h1 J hl hz hx U;omega)),Bool.true_and,Bool.true_and,List.all_map]
       rfl
      rw [e] at this
      exact this
noncomputable def tU(K:W.Frag)(m:Nat):Sp:=fun vs H Q _=>∃ x,vs=[x]/\Known K H x/\nA x/\∀ H',ck H H'->Q (.bl (gU m x)) H'
theorem ye:dD ["thing"] ["thing"] (cv lz):=⟨rfl,rfl,rfl,dkq,rfl,dkq,dkq⟩
seal cV PS PE PT PA PG PI dj de in
theorem wD{f fr:Addr}{fd fdr:FuncData}(D:Df K mg "is_word" lz f fd)(DR:Df K mg "is_small_row" ku fr fdr)(T:Txt mg):cu P w K mg base cC 2 f fd ["thing"] (tU K 2000):=by
 obtain⟨tc,U⟩:=T.cWord
 have GR:cu P w K mg base cC 1 fr fdr ["thing","most"] (qW K):=xr DR T
 have bR:=DR.F.binds (ps:=["thing","most"]) fun _ _ _ _ _ _ us hl=>eT (fun _ _=>rfl) us hl
 refine D.F.ok ye (fun vs H Q E h=>?_) (fun cdv A outer s H vs Q E hr h=>?_)
 ·obtain⟨x,rfl,_⟩:=h
  rfl
 ·obtain⟨x,rfl,hk,J,k⟩:=h
  refine⟨_,cz (cI (cT GR hr rfl DR.m DR.F.kp bR .nil cH (cf (pv 0) (cf (iF (v:= .int 2000) rfl U ⟨_,rfl⟩) cg)))),?_⟩
  exact⟨_,rfl,x,2000,rfl,hk,J,k⟩
noncomputable def kN:Sp:=fun vs H Q _=>∃ n k:Int,vs=[.int n,.int k]/\0<=k/\k<=1000000/\∀ r:Int,0<=r->r < 2147483629->Q (.int r) H
theorem uH:dD ["_law_number_here","_law_k"] ["_law_number_here","_law_k"] (cv iq):=⟨rfl,rfl,rfl,dkq,rfl,dkq,dkq⟩
seal cV PS PE PT PA PG PI dj de in
theorem md{f:Addr}{fd:FuncData}(D:Df K mg "_law_mixed" iq f fd):cu P w K mg base cC 1 f fd ["_law_number_here","_law_k"] kN:=by
 refine D.F.ok uH (fun vs H Q E h=>?_) (fun cdv A outer s H vs Q E hr h=>?_)
 ·obtain⟨n,k,rfl,_⟩:=h
  rfl
 ·obtain⟨n,k,rfl,h0,h1,kk⟩:=h
  refine⟨_,cD (dB (i:=0) uH.nd rfl (Or.inl rfl) (cy dG (cy j4 (cy eA (cy eA (cy dG (pv 0) cj) (cy j4 (cy j4 cj (pv 1)) (pv 1))) (cy j4 cj (pv 1))) cj) cj))
   (cz (cI (cy dG (cy j4 (pv 0) (cy eA cj (cy j4 cj (pv 1)))) cj))),?_⟩
  refine⟨_,rfl,_,_,rfl,rfl,(by show(0:Int) < 2147483647;decide),_,rfl,_,_,rfl,rfl,.inl ⟨by decide,by decide⟩,_,rfl,_,_,rfl,rfl,.inr ⟨by(clear h1;omega),by(clear h0;omega)⟩,_,_,rfl,rfl,_,rfl,_,_,rfl,rfl,.inl ⟨by decide,by decide⟩,_,_,rfl,rfl,
   _,_,rfl,rfl,.inr ⟨by decide,by decide⟩,_,_,rfl,rfl,(by show(0:Int) < 2147483647;decide),?_⟩
  have J:=Int.emod_nonneg ((n % 2147483647 + 7919 * k * k + 31 * k) * 48271) (show(2147483647:Int)≠0 by decide)
  have U:=Int.emod_lt_of_pos ((n % 2147483647 + 7919 * k * k + 31 * k) * 48271) (show(0:Int) < 2147483647 by decide)
  refine⟨_,rfl,_,rfl,_,_,rfl,rfl,.inl ⟨by decide,by decide⟩,_,_,rfl,rfl,_,_,rfl,rfl,.inl ⟨by(clear U J h1 h0;omega),by(clear U J h1 h0;omega)⟩,_,_,rfl,rfl,(by show(0:Int) < 2147483629;decide),?_⟩
  exact kk _ (Int.emod_nonneg _ (by decide)) (Int.emod_lt_of_pos _ (by decide))
noncomputable def nM(K:W.Frag):Sp:=fun vs H Q _=>∃(a:Addr) (ns:List Int) (k:Nat),vs=[.ref a,.int k]/\cm K H a (ns.map V.int)/\ns.length<=63/\k<=1000/\∀(r:Int) H',0<=r->r < 2147483629->ck H H'->Q (.int r) H'
theorem xZ:dD ["_law_script","_law_k"] ["_law_script","_law_k"] (cv jv):=⟨rfl,rfl,rfl,dkq,rfl,dkq,dkq⟩
seal cV PS PE PT PA PG PI dj de in
theorem oM{f fm:Addr}{fd fdm:FuncData}(D:Df K mg "_law_number" jv f fd)(DM:Df K mg "_law_mixed" iq fm fdm)(T:Txt mg):cu P w K mg base cC 2 f fd ["_law_script","_law_k"] (nM K):=by
 have GM:cu P w K mg base cC 1 fm fdm ["_law_number_here","_law_k"] kN:=md DM
 have bM:=DM.F.binds (ps:=["_law_number_here","_law_k"]) fun _ _ _ _ _ _ us U=>eT (fun _ _=>rfl) us U
 refine D.F.ok xZ (fun vs H Q E h=>?_) (fun cdv A outer s H vs Q E hr h=>?_)
 ·obtain⟨a,ns,k,rfl,_⟩:=h
  rfl
 ·obtain⟨a,ns,k,rfl,hS,U,hk,kk⟩:=h
  refine⟨_,cD (dC (cZ (kf hr.units100) (pv 0) (dR cg) (cX _)) (cz (cI (cT GM hr rfl DM.m DM.F.kp bM .nil cH (cf cj (cf (pv 1) cg))))) dz)
   (cz (cI (cT GM hr rfl DM.m DM.F.kp bM .nil cH (cf (cQ gI (pv 0) (cy dG (pv 1) (dF fO rfl T.len eZ (cf (pv 0) cg))) (fun _ _=>rfl)) (cf (pv 1) cg))))),?_⟩
  refine⟨_,rfl,Nat.zero_le _,fun p hp=>?_⟩
  have sm:ck H (upd H p (.lst [])):=cG hp
  refine⟨.list (ns.map .int),.list [],.lst (sm.seq hS) (uU ns),.lst (cm.of cx) .nil,lay_ints ns,rfl,Nat.le_trans (Nat.min_le_right _ _) (by decide),_,rfl,?_⟩
  cases ns with
  | nil=>
   refine cJ ?_
   exact⟨_,rfl,17,k,rfl,by(clear U hp hk;omega),by(clear U hp;omega),fun r r0 r1=>kk r _ r0 r1 sm⟩
  | cons n ns=>
   refine cY ?_
   have hn:(0:Int) < (((n::ns).map V.int).length:Nat):=by simp
   refine⟨_,rfl,_,rfl,_,rfl,_,_,rfl,.inl (sm.seq hS),_,_,rfl,rfl,hn,?_⟩
   have J:k % (n::ns).length < (n::ns).length:=Nat.mod_lt _ (by simp)
   have ei:((k:Nat):Int) % ((((n::ns).map V.int).length:Nat):Int)=((k % (n::ns).length:Nat):Int):=by rw [List.length_map];(clear J hn U hp hk;omega)
   refine⟨a,_,_,.int ((n::ns)[k % (n::ns).length]),rfl,rfl,sm.seq hS,?_,_,rfl,_,k,rfl,by(clear ei J hn U hp hk;omega),by(clear ei J hn U hp;omega),fun r r0 r1=>kk r _ r0 r1 sm⟩
   rw [ei]
   exact cA (by rw [List.getElem?_map,List.getElem?_eq_getElem J];rfl)
noncomputable def codes(x:Str):List Nat:=x.cps.toList
theorem uV(a b:List Nat):(⟨a.toArray⟩:Str)++⟨b.toArray⟩=⟨(a++b).toArray⟩:=by
 show(⟨a.toArray++b.toArray⟩:Str)=_
 simp
theorem pH(a:List Nat):(⟨a.toArray⟩:Str).length=a.length:=by simp [Str.length]
theorem vV:Str.ofString ""=⟨([]:List Nat).toArray⟩:=rfl
theorem sO:∀ cs:List Nat,PySem.Str.join (Str.ofString "") (cs.map fun c=>(⟨#[c]⟩:Str))=⟨cs.toArray⟩
 | []=>rfl
 | [c]=>rfl
 | c::d::r=>by
  show(⟨[c].toArray⟩:Str)++Str.ofString ""++PySem.Str.join (Str.ofString "") ((d::r).map fun c=>(⟨#[c]⟩:Str))=_
  rw [sO (d::r),vV,uV,uV]
  rfl
theorem join_eq(cs:List Nat):Txt.join (Str.ofString "") (cs.map fun c=>(⟨#[c]⟩:Str))=⟨cs.toArray⟩:=by
 show Builtin.Str.glued _ _=_
 rw [StrLaws.glued_eq_join]
 exact sO cs
theorem Bj(cs:List Nat):((cs.map fun c=>(⟨#[c]⟩:Str)).map (·.length)).sum=cs.length:=by
 induction cs with
 | nil=>rfl
 | cons c r J=>rw [List.map_cons,List.map_cons,List.sum_cons,J,List.length_cons];show 1 + _=_;(clear J;omega)
theorem zG{z:Str}{l u:Option Int}{c:Nat}(h:c∈(Txt.slice z l u).cps.toList):c∈z.cps.toList:=by
 unfold Txt.slice at h
 split at h
 ·exact h
 ·have h':c∈(Builtin.Str.strSliceIndices l u 1 z.length).filterMap (z.cps[·]?):=by simpa using h
  obtain⟨i,_,e⟩:=List.mem_filterMap.mp h'
  have:=Array.mem_of_getElem? e
  simpa using this
theorem nC{p:Nat->Bool}{z:Str}(l u:Option Int)(h:z.cps.toList.all p=true):(Txt.slice z l u).cps.toList.all p=true:=
 List.all_eq_true.mpr fun c J=>List.all_eq_true.mp h c (zG J)
theorem vK{p:Nat->Bool}{a b:Str}(ha:a.cps.toList.all p=true)(hb:b.cps.toList.all p=true):(a++b).cps.toList.all p=true:=by
 rw [PySem.Str.cps_append,Array.toList_append,List.all_append,ha,hb]
 rfl
theorem sP{p:Nat->Bool}{l:List Nat}(h:l.all p=true){i:Nat}(hi:i < l.length):p l[i]=true:=List.all_eq_true.mp h _ (List.getElem_mem hi)
noncomputable def Wm(z:Str):Prop:=z.length<=13/\z.cps.toList.all fA=true/\1<=z.length
noncomputable def uX:Sp:=fun vs H Q _=>∃ n:Int,vs=[.int n]/\∀ a H' (ws:List Str),ck H H'->H' a=some (.lst (ws.map V.str))->ws.length=5->(∀ z∈ws,Wm z)->Q (.ref a) H'
theorem iQ:dD ["_law_number_here","_law_signs","_law_rest","_law_k","_law_size","_law_at","_law_found","_law_sign"] ["_law_number_here"] (cv jA):=⟨rfl,rfl,rfl,dkq,rfl,dkq,dkq⟩
theorem wQ:(["_law_j","_law_signs","_law_number_here"]:List Str).Nodup:=dkq
theorem y8:(["_law_k","_law_rest"]:List Str).Nodup:=dkq
seal cV PS PE PT PA PG PI dj de in
theorem wx{f fm:Addr}{fd fdm:FuncData}(D:Df K mg "_law_menu" jA f fd)(DM:Df K mg "_law_mixed" iq fm fdm)(T:Txt mg):cu P w K mg base cC 2 f fd ["_law_number_here"] uX:=by
 have GM:cu P w K mg base cC 1 fm fdm ["_law_number_here","_law_k"] kN:=md DM
 have bM:=DM.F.binds (ps:=["_law_number_here","_law_k"]) fun _ _ _ _ _ _ us hl=>eT (fun _ _=>rfl) us hl
 refine D.F.ok iQ (fun vs H Q E h=>?_) (fun cdv A outer s H vs Q E hr h=>?_)
 ·obtain⟨n,rfl,_⟩:=h
  rfl
 ·obtain⟨n,rfl,kk⟩:=h
  have hl:(sizeLine:Nat)=16777216:=sizeLine_eq
  refine⟨_,cD (dB (i:=1) iQ.nd rfl (Or.inr rfl) dw)
   (cD (qM (cZ dQ (cy dG (pv 0) cj) cj (cX _)) (cz (dB (i:=1) iQ.nd rfl (Or.inr rfl) dw)) dz)
   (cD (dB (i:=2) iQ.nd rfl (Or.inr rfl) (gj F.plainAttrs_str F.slot_str_join F.type_str_join Cm dw (cf (gP (own:=1) (caps:=[1,0]) (N:=["_law_j","_law_signs","_law_number_here"])
     (N0:=["_law_number_here","_law_signs","_law_rest","_law_k","_law_size","_law_at","_law_found","_law_sign"]) (sc0:=cv jA) rfl
    (iP rfl T.range (cf cj cg)) (fun _ _ _=>dU (i:=0) wQ rfl (Or.inl rfl)) (fun _ _ _=>iU)
    (fun _ _ _=>cQ rj (pv 1) (cy dG (cT GM hr rfl DM.m DM.F.kp bM .nil cH (cf (pv 2) (cf (cy eA cj (pv 0)) cg))) cj) (fun _ _=>rfl)) (fW (by decide)) rfl rfl
    dkq rfl dkq dkq rfl dkq) cg)))
   (cD (dC (cZ dQ (cy dG (cy eL (pv 0) cj) cj) cj (cX _))
    (cz (cI (gP (own:=1) (caps:=[2]) (N:=["_law_k","_law_rest"])
     (N0:=["_law_number_here","_law_signs","_law_rest","_law_k","_law_size","_law_at","_law_found","_law_sign"]) (sc0:=cv jA) rfl
     (iP rfl T.range (cf cj cg)) (fun _ _ _=>dU (i:=0) y8 rfl (Or.inl rfl)) (fun _ _ _=>iU)
     (fun _ _ _=>jg lI (pv 1) lh (hV (cy eA (pv 0) cj))) (fW (by decide)) rfl rfl
     dkq rfl dkq dkq rfl dkq))) dz)
   (cD (dB (i:=4) iQ.nd rfl (Or.inl rfl) (cy dG (cy eL (pv 0) cj) cj))
   (cD (dB (i:=5) iQ.nd rfl (Or.inl rfl) (cy dG (cy eL (pv 0) cj) (cy eA (pv 4) cj)))
   (cD (dB (i:=6) iQ.nd rfl (Or.inl rfl) (dR cg))
   (cD (gN PassesOwn.never rfl (iP rfl T.range (cf cj cg)) (dU (i:=3) iQ.nd rfl (Or.inl rfl))
    (cD (dB (i:=7) iQ.nd rfl (Or.inl rfl) (cQ rj (pv 1) (cy dG (cy eA (cy eL (pv 0) cj) (cy j4 cj (pv 3))) cj) (fun _ _=>rfl)))
    (cz (g9 (gj F.plainAttrs_list F.slot_list_append F.type_list_append jr (pv 6)
     (cf (cy uQ (cy uQ (jg lI (pv 2) lh (hV (pv 5))) (pv 7)) (jg lI (pv 2) (hV (pv 5)) (hV (pv 4)))) cg))))))
   (cz (cI (pv 6)))))))))),?_⟩
  refine⟨fun au H'=>H'=H/\∃ S:Str,S.cps.toList.all fA=true/\S.length=26/\au=[some (.int n),some (.str S),none,none,none,none,none,none],?_,?_⟩
  ·refine⟨_,rfl,_,_,rfl,rfl,(by show(0:Int) < 3;decide),rfl,_,rfl,?_⟩
   refine ik (fun _=>?_) (fun _=>?_)
   ·exact⟨rfl,Str.ofString "0a1b2c3d4e5f6g7h8i9jklmnop",dkq,dkq,rfl⟩
   ·exact⟨rfl,Str.ofString "abcdefghijklmnopqrstuvwxyz",dkq,dkq,rfl⟩
  ·rintro au H' ⟨rfl,S,hS,J,rfl⟩
   have U:(codes S).length=26:=by unfold codes;rw [str_len];exact J
   refine⟨rfl,6,rfl,by decide,by decide,lK (fun i ys H1=>H1=H'/\∃ cs:List Nat,cs.length=i/\cs.all fA=true/\ys=cs.map fun c=>V.str ⟨#[c]⟩) (by rw [hl];decide) ⟨rfl,[],rfl,rfl,rfl⟩ ?_ ?_⟩
   ·rintro i ys H1 N hi ⟨rfl,cs,hc,hok,rfl⟩ hN
    have aq:i < 6:=hi
    refine g1 ?_
    refine⟨_,rfl,_,rfl,_,rfl,_,_,rfl,rfl,_,_,rfl,by(clear aq hok hc hi U J hS hl;omega),by(clear aq hok hc U J hS hl;omega),fun r r0 r1=>?_⟩
    refine⟨_,_,rfl,rfl,(by show(0:Int) < 26;decide),?_⟩
    obtain⟨j,hj,ae⟩:=gX (r:=r) (n:=26) (by decide)
    have ag:j < (codes S).length:=by(clear ae r1 r0 aq hok hc hi J hS hl;omega)
    refine⟨S,_,(codes S)[j],rfl,rfl,by(clear ag ae hj r1 r0 aq hok hc hi U hS;omega),?_,hN _ _ ⟨rfl,cs++[(codes S)[j]],by simp [hc],by rw [List.all_append,hok];simp [sP (p:=fA) (l:=codes S) hS ag],by rw [List.map_append];rfl⟩⟩
    rw [<-hj]
    exact cA (List.getElem?_eq_getElem ag)
   ·rintro ys H1 ⟨rfl,cs,hc,hok,rfl⟩ _ p hp
    have aa:cs.length=6:=hc
    refine⟨_,p,cs.map fun c=>(⟨#[c]⟩:Str),rfl,rfl,cm.of (by rw [cx,List.map_map];rfl),?_,?_⟩
    ·rw [Bj,List.length_map]
     show cs.length + cs.length * 0<=_
     (clear aa hp hok U J hS hl;omega)
    rw [join_eq]
    have sm:ck H1 (upd H1 p (.lst (cs.map fun c=>V.str ⟨#[c]⟩))):=cG hp
    generalize hG:upd H1 p (.lst (cs.map fun c=>V.str ⟨#[c]⟩))=H2 at sm
    have hR:(⟨cs.toArray⟩:Str).cps.toList.all fA=true:=by simpa using hok
    have ak:(⟨cs.toArray⟩:Str).length=6:=by rw [pH];exact aa
    generalize (⟨cs.toArray⟩:Str)=R at hR ak
    refine⟨_,rfl,_,_,rfl,rfl,⟨by decide,by decide⟩,_,_,rfl,rfl,(by show(0:Int) < 3;decide),rfl,_,rfl,?_⟩
    refine ik (fun _=>?_) (fun _=>?_)
    ·refine⟨5,rfl,by decide,by decide,lK (fun i ys H3=>H3=H2/\∃ ws:List Str,ws.length=i/\(∀ z∈ws,Wm z)/\ys=ws.map V.str) (by rw [hl];decide) ⟨rfl,[],rfl,fun z hz=>by simp at hz,rfl⟩ ?_ ?_⟩
     ·rintro i ys H3 N hi ⟨rfl,ws,hw,af,rfl⟩ hN
      refine g1 ?_
      refine⟨_,rfl,_,rfl,_,_,rfl,rfl,_,rfl,R,rfl,by(clear hw hG hi hR aa hp hok hc U J hS;omega),hN _ _ ⟨rfl,ws++[Txt.slice R none (some ((0:Int) + i + 1))],by simp [hw],fun z hz=>?_,by rw [List.map_append];rfl⟩⟩
      rcases List.mem_append.mp hz with q | q
      ·exact af z q
      ·have e:z=Txt.slice R none (some ((0:Int) + i + 1)):=by simpa using q
       rw [e]
       have:=Txt.slice_le R none (some ((0:Int) + i + 1))
       exact⟨by(clear e hw hG hi hR aa hp hok hc U J hS hl;omega),nC _ _ hR,by
        have ah:i < 5:=hi
        have l6:(R.cps.toList.length:Int)=R.length:=by simp [Str.length]
        have e1:Txt.slice R none (some ((0:Int) + i + 1))=_:=PySem.StrLaws.sliceText_to ⟨by omega,by omega⟩
        have l7:R.cps.toList.length=6:=by omega
        rw [e1,pH,List.length_take,List.length_drop,l7]
        omega⟩
     ·rintro ys H3 ⟨rfl,ws,hw,af,rfl⟩ _ q hq
      exact kk q _ ws (sm.trans (cG hq)) cx hw af
    ·refine⟨_,rfl,_,_,rfl,rfl,⟨by decide,by decide⟩,_,_,rfl,rfl,(by show(0:Int) < 5;decide),?_⟩
     have s0:=Int.emod_nonneg (n / 9) (show(5:Int)≠0 by decide)
     refine⟨_,rfl,_,_,rfl,rfl,⟨by decide,by decide⟩,_,rfl,_,_,rfl,rfl,_,_,rfl,rfl,(by show(0:Int) < n / 9 % 5 + 1;(clear s0 ak hR hG aa hp hok hc U J hS hl;omega)),?_⟩
     refine⟨Nat.zero_le _,fun a ha=>?_⟩
     refine⟨5,rfl,by decide,by decide,jF (fun i σ H3=>∃(ws:List Str) (v3 v7:Option V),σ=[some (.int n),some (.str S),some (.str R),v3,some (.int (n / 9 % 5)),some (.int (n / 45 % (n / 9 % 5 + 1))),some (.ref a),v7]/\ck H1 H3/\H3 a=some (.lst (ws.map V.str))/\ws.length=i/\∀ z∈ws,Wm z) ?_ ?_ ?_⟩
     ·exact⟨[],none,none,rfl,sm.trans (cG ha),cx,rfl,fun z hz=>by simp at hz⟩
     ·rintro i σ H3 hi ⟨ws,v3,v7,rfl,ar,hA,hw,af⟩
      have ah:i < 5:=hi
      refine⟨_,rfl,_,rfl,_,_,rfl,rfl,⟨by decide,by decide⟩,_,rfl,_,_,rfl,rfl,.inl ⟨by decide,by decide⟩,_,_,rfl,rfl,_,_,rfl,rfl,(by show(0:Int) < 26;decide),?_⟩
      obtain⟨j,hj,ae⟩:=gX (r:=n / 225 + 5 * (0 + (i:Int))) (n:=26) (by decide)
      have ag:j < (codes S).length:=by(clear ae ah hw hA hi ha s0 ak hR hG aa hp hok hc J hS hl;omega)
      refine⟨S,_,(codes S)[j],rfl,rfl,by(clear ag ae hj ah hw hA hi ha s0 ak hR hG aa hp hok hc U hS;omega),by rw [<-hj];exact cA (List.getElem?_eq_getElem ag),?_⟩
      have l1:=Txt.slice_le R none (some (n / 45 % (n / 9 % 5 + 1)))
      have l2:=Txt.slice_le R (some (n / 45 % (n / 9 % 5 + 1))) (some (n / 9 % 5))
      have ao:(⟨#[(codes S)[j]]⟩:Str).length=1:=rfl
      refine⟨_,rfl,.inl ⟨rfl,_,cm.of hA⟩,_,rfl,_,rfl,_,rfl,R,rfl,by(clear ao l2 l1 ag ae hj ah hw hA hi ha s0 hR hG aa hp hok hc U J hS;omega),_,rfl,_,_,rfl,rfl,by(clear l2 ae hj ah hw hA hi ha s0 hR hG aa hp hok hc U J hS;omega),_,rfl,_,rfl,_,rfl,_,rfl,_,rfl,R,rfl,by(clear ao l2 l1 ag ae hj ah hw hA hi ha s0 hR hG aa hp hok hc U J hS;omega),_,_,rfl,rfl,by rw [PySem.Str.length_append];(clear ae hj ah hw hA hi ha s0 hR hG aa hp hok hc U J hS;omega),?_⟩
      have av:a≠a->False:=fun z=>z rfl
      refine⟨a,_,_,rfl,rfl,hA,by simp;(clear ao l2 l1 ag ae hj ah hA ha s0 ak hR hG aa hp hok hc U J hS;omega),?_⟩
      refine⟨ws++[Txt.slice R none (some (n / 45 % (n / 9 % 5 + 1)))++⟨#[(codes S)[j]]⟩++Txt.slice R (some (n / 45 % (n / 9 % 5 + 1))) (some (n / 9 % 5))],_,_,rfl,fun b u e=>?_,by rw [cx,List.map_append];rfl,by simp [hw],fun z hz=>?_⟩
      ·have hb:b≠a:=fun z=>by subst z;rw [sm.free ha] at e;cases e
       rw [cK hb];exact ar b u e
      ·rcases List.mem_append.mp hz with q | q
       ·exact af z q
       ·have e:z=Txt.slice R none (some (n / 45 % (n / 9 % 5 + 1)))++⟨#[(codes S)[j]]⟩++Txt.slice R (some (n / 45 % (n / 9 % 5 + 1))) (some (n / 9 % 5)):=by simpa using q
        rw [e]
        refine⟨by rw [PySem.Str.length_append,PySem.Str.length_append];(clear e ae hj ah hw hA hi ha s0 hR hG aa hp hok hc U J hS hl;omega),vK (vK (nC _ _ hR) ?_) (nC _ _ hR),by rw [PySem.Str.length_append,PySem.Str.length_append];omega⟩
        simp [sP (p:=fA) (l:=codes S) hS ag]
     ·rintro σ H3 ⟨ws,v3,v7,rfl,ar,hA,hw,af⟩
      exact⟨_,rfl,kk a H3 ws ar hA hw af⟩
end
inductive At where
 | word (z : Str) | start (z : Str) | row (zs : List Str) | near (a b : At) (n : Int) | both (a b : At) | either (a b : At) | no (a : At)
inductive Kn where
 | w | s | r | n | b | e | o
 deriving DecidableEq
noncomputable def At.kn:At->Kn
 | .word _=> .w | .start _=> .s | .row _=> .r | .near _ _ _=> .n | .both _ _=> .b | .either _ _=> .e | .no _=> .o
noncomputable def At.dep:At->Nat
 | .near a b _=>max a.dep b.dep + 1 | .both a b=>max a.dep b.dep + 1 | .either a b=>max a.dep b.dep + 1 | .no a=>a.dep + 1 | _=>0
noncomputable def At.told:At->PyData
 | .word z=> .tuple [.str "word",.str z]
 | .start z=> .tuple [.str "start",.str z]
 | .row zs=> .tuple [.str "row",.tuple (zs.map .str)]
 | .near a b n=> .tuple [.str "near",a.told,b.told,.int n]
 | .both a b=> .tuple [.str "both",a.told,b.told]
 | .either a b=> .tuple [.str "either",a.told,b.told]
 | .no a=> .tuple [.str "not",a.told]
noncomputable def At.kids:At->List At
 | .near a b _=>[a,b] | .both a b=>[a,b] | .either a b=>[a,b] | .no a=>[a] | _=>[]
noncomputable def At.many:At->Nat
 | .near a b _=>1 + (a.many + b.many) | .both a b=>1 + (a.many + b.many) | .either a b=>1 + (a.many + b.many) | .no a=>1 + a.many | _=>1
mutual
inductive cM (l : Bool) (H : Hp) : V -> PyData -> Prop
 | non : cM l H .non .none
 | bl (b : Bool) : cM l H (.bl b) (.bool b)
 | int (i : Int) : cM l H (.int i) (.int i)
 | str (x : Str) : cM l H (.str x) (.str x)
 | lst {a : Addr} {xs : List V} {ds : List PyData} : l = true -> H a = some (.lst xs) -> c9 l H xs ds -> cM l H (.ref a) (.list ds)
 | tup {a : Addr} {xs : List V} {ds : List PyData} : H a = some (.tup xs) -> c9 l H xs ds -> cM l H (.ref a) (.tuple ds)
inductive c9 (l : Bool) (H : Hp) : List V -> List PyData -> Prop
 | nil : c9 l H [] []
 | cons {x : V} {xs : List V} {d : PyData} {ds : List PyData} : cM l H x d -> c9 l H xs ds -> c9 l H (x :: xs) (d :: ds)
end
noncomputable def gw(H H':Hp):Prop:=(∀ b C dx fs,H b=some (.ins C dx fs)->H' b=some (.ins C dx fs))/\∀ b xs,H b=some (.tup xs)->H' b=some (.tup xs)
theorem gw.of {H H':Hp}(s:ck H H'):gw H H':=⟨fun _ _ _ _ e=>s _ _ e,fun _ _ e=>s _ _ e⟩
mutual
theorem cM.same {l : Bool} {H H' : Hp} (s : ck H H') : ∀ {x : V} {d : PyData}, cM l H x d -> cM l H' x d
 | _, _, .non => .non
 | _, _, .bl b => .bl b
 | _, _, .int i => .int i
 | _, _, .str x => .str x
 | _, _, .lst e h r => .lst e (s _ _ h) (c9.same s r)
 | _, _, .tup h r => .tup (s _ _ h) (c9.same s r)
theorem c9.same {l : Bool} {H H' : Hp} (s : ck H H') : ∀ {xs : List V} {ds : List PyData}, c9 l H xs ds -> c9 l H' xs ds
 | _, _, .nil => .nil
 | _, _, .cons h r => .cons (cM.same s h) (c9.same s r)
end
mutual
theorem cM.keep {H H' : Hp} (s : gw H H') : ∀ {x : V} {d : PyData}, cM false H x d -> cM false H' x d
 | _, _, .non => .non
 | _, _, .bl b => .bl b
 | _, _, .int i => .int i
 | _, _, .str x => .str x
 | _, _, .lst e h r => by cases e
 | _, _, .tup h r => .tup (s.2 _ _ h) (c9.keep s r)
theorem c9.keep {H H' : Hp} (s : gw H H') : ∀ {xs : List V} {ds : List PyData}, c9 false H xs ds -> c9 false H' xs ds
 | _, _, .nil => .nil
 | _, _, .cons h r => .cons (cM.keep s h) (c9.keep s r)
end
mutual
theorem cM.any {l : Bool} {H : Hp} : ∀ {x : V} {d : PyData}, cM false H x d -> cM l H x d
 | _, _, .non => .non
 | _, _, .bl b => .bl b
 | _, _, .int i => .int i
 | _, _, .str x => .str x
 | _, _, .lst e h r => by cases e
 | _, _, .tup h r => .tup h (c9.any r)
theorem c9.any {l : Bool} {H : Hp} : ∀ {xs : List V} {ds : List PyData}, c9 false H xs ds -> c9 l H xs ds
 | _, _, .nil => .nil
 | _, _, .cons h r => .cons (cM.any h) (c9.any r)
end
theorem c9.len {l:Bool}{H:Hp}:∀{xs:List V} {ds:List PyData},c9 l H xs ds->xs.length=ds.length
 | _,_,.nil=>rfl
 | _,_,.cons _ r=>by simp [c9.len r]
theorem c9.strs {l:Bool}{H:Hp}:∀(zs:List Str),c9 l H (zs.map V.str) (zs.map PyData.str)
 | []=> .nil
 | z::zs=> .cons (.str z) (c9.strs zs)
noncomputable def pJ:PyData->String
 | .none=>"NoneType" | .bool _=>"bool" | .int _=>"int" | .str _=>"str" | .list _=>"list" | .tuple _=>"tuple" | .dict _=>"dict"
theorem cM.ty {l:Bool}{K:W.Frag}{H:Hp}{x:V}{d:PyData}(h:cM l H x d):fB K H x (.type (pJ d)):=by
 cases h with
 | non=>exact .non
 | bl b=>exact .bl b
 | int i=>exact .int i
 | str z=>exact .str z
 | lst e h r=>exact .lst h
 | tup h r=>exact .tup h
theorem cM.known {l:Bool}{K:W.Frag}{H:Hp}{x:V}{d:PyData}(h:cM l H x d):Known K H x:=⟨_,h.ty⟩
noncomputable abbrev oQ(z:Str):List (Str×V):=eJ "word" (.str z) []
noncomputable abbrev pV(p:Addr):List (Str×V):=eJ "side_by_side" (.ref p) []
noncomputable abbrev f1(p:Addr):List (Str×V):=eJ "one" (.ref p) []
noncomputable abbrev f2(p q:Addr):List (Str×V):=eJ "other" (.ref q) (f1 p)
noncomputable abbrev f3(p q:Addr)(n:Int):List (Str×V):=eJ "far" (.int n) (f2 p q)
noncomputable def dI(C:Kn->Addr)(H:Hp):Addr->At->Prop
 | a,.word z=>∃ dx,H a=some (.ins (C .w) dx (oQ z))
 | a,.start z=>∃ dx,H a=some (.ins (C .s) dx (oQ z))
 | a,.row zs=>∃ dx p,H a=some (.ins (C .r) dx (pV p))/\H p=some (.tup (zs.map V.str))
 | a,.near x y n=>∃ dx p q,H a=some (.ins (C .n) dx (f3 p q n))/\dI C H p x/\dI C H q y
 | a,.both x y=>∃ dx p q,H a=some (.ins (C .b) dx (f2 p q))/\dI C H p x/\dI C H q y
 | a,.either x y=>∃ dx p q,H a=some (.ins (C .e) dx (f2 p q))/\dI C H p x/\dI C H q y
 | a,.no x=>∃ dx p,H a=some (.ins (C .o) dx (f1 p))/\dI C H p x
theorem dI.keep {C:Kn->Addr}{H H':Hp}(s:gw H H'):∀{t:At} {a:Addr},dI C H a t->dI C H' a t
 | .word _,_,⟨dx,h⟩=>⟨dx,s.1 _ _ _ _ h⟩
 | .start _,_,⟨dx,h⟩=>⟨dx,s.1 _ _ _ _ h⟩
 | .row _,_,⟨dx,p,h,J⟩=>⟨dx,p,s.1 _ _ _ _ h,s.2 _ _ J⟩
 | .near _ _ _,_,⟨dx,p,q,h,J,U⟩=>⟨dx,p,q,s.1 _ _ _ _ h,dI.keep s J,dI.keep s U⟩
 | .both _ _,_,⟨dx,p,q,h,J,U⟩=>⟨dx,p,q,s.1 _ _ _ _ h,dI.keep s J,dI.keep s U⟩
 | .either _ _,_,⟨dx,p,q,h,J,U⟩=>⟨dx,p,q,s.1 _ _ _ _ h,dI.keep s J,dI.keep s U⟩
 | .no _,_,⟨dx,p,h,J⟩=>⟨dx,p,s.1 _ _ _ _ h,dI.keep s J⟩
theorem dI.same {C:Kn->Addr}{H H':Hp}(s:ck H H'){t:At}{a:Addr}(h:dI C H a t):dI C H' a t:=h.keep (gw.of s)
noncomputable def jB(m:Str):Prop:=m≠"word"/\m≠"side_by_side"/\m≠"one"/\m≠"other"/\m≠"far"
theorem rg:jB "kids":=by unfold jB;decide +kernel
theorem dI.ob {C:Kn->Addr}{H:Hp}:∀{t:At} {a:Addr},dI C H a t->∃ dx fs,H a=some (.ins (C t.kn) dx fs)/\∀ m,jB m->fs.lookup m=none
 | .word _,_,⟨dx,h⟩=>⟨dx,_,h,fun m n=>by rw [eR,if_neg n.1];rfl⟩
 | .start _,_,⟨dx,h⟩=>⟨dx,_,h,fun m n=>by rw [eR,if_neg n.1];rfl⟩
 | .row _,_,⟨dx,p,h,J⟩=>⟨dx,_,h,fun m n=>by rw [eR,if_neg n.2.1];rfl⟩
 | .near _ _ _,_,⟨dx,p,q,h,_⟩=>⟨dx,_,h,fun m n=>by rw [eR,if_neg n.2.2.2.2,eR,if_neg n.2.2.2.1,eR,if_neg n.2.2.1];rfl⟩
 | .both _ _,_,⟨dx,p,q,h,_⟩=>⟨dx,_,h,fun m n=>by rw [eR,if_neg n.2.2.2.1,eR,if_neg n.2.2.1];rfl⟩
 | .either _ _,_,⟨dx,p,q,h,_⟩=>⟨dx,_,h,fun m n=>by rw [eR,if_neg n.2.2.2.1,eR,if_neg n.2.2.1];rfl⟩
 | .no _,_,⟨dx,p,h,_⟩=>⟨dx,_,h,fun m n=>by rw [eR,if_neg n.2.2.1];rfl⟩
theorem rQ(z:Str):(oQ z).lookup ("word":Str)=some (.str z):=by rw [eR,if_pos rfl]
theorem uO(p:Addr):(pV p).lookup ("side_by_side":Str)=some (.ref p):=by rw [eR,if_pos rfl]
theorem ur(p:Addr):(f1 p).lookup ("one":Str)=some (.ref p):=by rw [eR,if_pos rfl]
theorem zO:¬ ("one":Str)="other":=dkq
theorem Ba:¬ ("one":Str)="far":=dkq
theorem yi:¬ ("other":Str)="far":=dkq
theorem j6(p q:Addr):(f2 p q).lookup ("one":Str)=some (.ref p):=by rw [eR,if_neg zO,eR,if_pos rfl]
theorem jY(p q:Addr):(f2 p q).lookup ("other":Str)=some (.ref q):=by rw [eR,if_pos rfl]
theorem sX(p q:Addr)(n:Int):(f3 p q n).lookup ("one":Str)=some (.ref p):=by rw [eR,if_neg Ba];exact j6 p q
theorem rK(p q:Addr)(n:Int):(f3 p q n).lookup ("other":Str)=some (.ref q):=by rw [eR,if_neg yi];exact jY p q
theorem uC(p q:Addr)(n:Int):(f3 p q n).lookup ("far":Str)=some (.int n):=by rw [eR,if_pos rfl]
noncomputable def wC:Kn->Stmt
 | .w=>cW | .s=>cS | .r=>cR | .n=>cN | .b=>cB | .e=>cE | .o=>cO
noncomputable def uk(i:Kn):Stmt:=inClass (wC i) 0
noncomputable def jV:Kn->Stmt
 | .n=>inClass cN 3 | .b=>inClass cB 3 | .e=>inClass cE 3 | .o=>inClass cO 3 | _=>inClass du 0
noncomputable def yb:Kn->Str
 | .w=>"Word.__init__" | .s=>"Start.__init__" | .r=>"Row.__init__" | .n=>"Near.__init__" | .b=>"Both.__init__" | .e=>"Either.__init__" | .o=>"Not.__init__"
noncomputable def km:Kn->Str
 | .n=>"Near.kids" | .b=>"Both.kids" | .e=>"Either.kids" | .o=>"Not.kids" | _=>"Ask.kids"
noncomputable def qJ:Kn->List Str
 | .w=>["self","word"] | .s=>["self","word"] | .r=>["self","words"] | .n=>["self","one","other","far"] | .b=>["self","one","other"] | .e=>["self","one","other"] | .o=>["self","one"]
structure Cs (K : W.Frag) (C : Kn -> Addr) : Prop where
 ic : ∀ i, vn K (C i)
 nW : ∀ i, gZ K (C i) "word"
 nR : ∀ i, gZ K (C i) "side_by_side"
 n1 : ∀ i, gZ K (C i) "one"
 n2 : ∀ i, gZ K (C i) "other"
 n3 : ∀ i, gZ K (C i) "far"
theorem Cs.cl {K:W.Frag}{C:Kn->Addr}(c:Cs K C)(i:Kn):gL K (C i):=(c.ic i).cl
structure Mt (K : W.Frag) (C : Kn -> Addr) (m : Str) (q : Kn -> Str) (st : Kn -> Stmt) (f : Kn -> Addr) (fd : Kn -> FuncData) : Prop where
 F : ∀ i, ix K m (q i) (st i) (f i) (fd i)
 M : ∀ i, Meth K (C i) m (f i)
section
variable {P : Program} {w : World} {K : PySem.W.Frag} {mg : Str -> Option Value} {base : Heap} {C f : Kn -> Addr} {fd : Kn -> FuncData}
theorem eU:2<=sizeLine:=by rw [sizeLine_eq];decide
theorem kI:3<=sizeLine:=by rw [sizeLine_eq];decide
theorem BS:4<=sizeLine:=by rw [sizeLine_eq];decide
noncomputable def kg(Ci:Addr)(fl:Str):Sp:=fun vs H Q _=>∃(x dx:Addr) (v:V),vs=[.ref x,v]/\H x=some (.ins Ci dx [])/\Q .non (upd H x (.ins Ci dx (eJ fl v [])))
noncomputable def tO(Ci:Addr):Sp:=fun vs H Q _=>∃(x dx l:Addr) (xs:List V),vs=[.ref x,.ref l]/\H x=some (.ins Ci dx [])/\H l=some (.lst xs)/\∀ p,H p=none->Q .non (upd (upd H p (.tup xs)) x (.ins Ci dx (pV p)))
noncomputable def mX(Ci:Addr):Sp:=fun vs H Q _=>∃(x dx p q:Addr),vs=[.ref x,.ref p,.ref q]/\H x=some (.ins Ci dx [])/\Q .non (upd H x (.ins Ci dx (f2 p q)))
noncomputable def u9(Ci:Addr):Sp:=fun vs H Q _=>∃(x dx p q:Addr) (n:Int),vs=[.ref x,.ref p,.ref q,.int n]/\H x=some (.ins Ci dx [])/\Q .non (upd H x (.ins Ci dx (f3 p q n)))
theorem jE(i:Kn):dD (qJ i) (qJ i) (cv (uk i)):=by
 cases i<;>exact⟨rfl,rfl,rfl,dkq,rfl,dkq,dkq⟩
structure In (K : W.Frag) (C : Kn -> Addr) (f : Kn -> Addr) (fd : Kn -> FuncData) : Prop where
 F : ∀ i, ix K "__init__" (yb i) (uk i) (f i) (fd i)
 M : ∀ i, L2.Mk K (C i) (f i)
theorem In.bi (I:In K C f fd)(i:Kn):Binds K (fd i) (qJ i) []:=by
 cases i with
 | w=>exact(I.F _).binds (ps:=["self","word"]) fun _ _ _ _ _ _ us J=>match us,J with | [_,_],_=>rfl
 | s=>exact(I.F _).binds (ps:=["self","word"]) fun _ _ _ _ _ _ us J=>match us,J with | [_,_],_=>rfl
 | r=>exact(I.F _).binds (ps:=["self","words"]) fun _ _ _ _ _ _ us J=>match us,J with | [_,_],_=>rfl
 | n=>exact(I.F _).binds (ps:=["self","one","other","far"]) fun _ _ _ _ _ _ us J=>match us,J with | [_,_,_,_],_=>rfl
 | b=>exact(I.F _).binds (ps:=["self","one","other"]) fun _ _ _ _ _ _ us J=>match us,J with | [_,_,_],_=>rfl
 | e=>exact(I.F _).binds (ps:=["self","one","other"]) fun _ _ _ _ _ _ us J=>match us,J with | [_,_,_],_=>rfl
 | o=>exact(I.F _).binds (ps:=["self","one"]) fun _ _ _ _ _ _ us J=>match us,J with | [_,_],_=>rfl
theorem jL:(0:Nat) < 1000:=by decide
theorem p5{v:V}{g:Str}:(eJ g v []).length < 1000:=by show 1 < 1000;decide
seal cV PS PE PT PA PG PI dj de in
theorem zD(Cl:Cs K C)(I:In K C f fd):cu P w K mg base cC 1 (f .w) (fd .w) ["self","word"] (kg (C .w) "word"):=by
 refine(I.F .w).ok (jE .w) (fun vs H Q E h=>?_) (fun cdv A outer s H vs Q E U h=>?_)
 ·obtain⟨x,dx,v,rfl,_⟩:=h
  rfl
 ·obtain⟨x,dx,v,rfl,J,k⟩:=h
  exact⟨_,cz (ig (pv 0) (pv 1) rfl),_,rfl,_,rfl,x,C .w,dx,[],rfl,J,Cl.cl _,Cl.nW _,jL,k⟩
seal cV PS PE PT PA PG PI dj de in
theorem zT(Cl:Cs K C)(I:In K C f fd):cu P w K mg base cC 1 (f .s) (fd .s) ["self","word"] (kg (C .s) "word"):=by
 refine(I.F .s).ok (jE .s) (fun vs H Q E h=>?_) (fun cdv A outer s H vs Q E U h=>?_)
 ·obtain⟨x,dx,v,rfl,_⟩:=h
  rfl
 ·obtain⟨x,dx,v,rfl,J,k⟩:=h
  exact⟨_,cz (ig (pv 0) (pv 1) rfl),_,rfl,_,rfl,x,C .s,dx,[],rfl,J,Cl.cl _,Cl.nW _,jL,k⟩
seal cV PS PE PT PA PG PI dj de in
theorem wc(Cl:Cs K C)(I:In K C f fd):cu P w K mg base cC 1 (f .o) (fd .o) ["self","one"] (kg (C .o) "one"):=by
 refine(I.F .o).ok (jE .o) (fun vs H Q E h=>?_) (fun cdv A outer s H vs Q E U h=>?_)
 ·obtain⟨x,dx,v,rfl,_⟩:=h
  rfl
 ·obtain⟨x,dx,v,rfl,J,k⟩:=h
  exact⟨_,cz (ig (pv 0) (pv 1) rfl),_,rfl,_,rfl,x,C .o,dx,[],rfl,J,Cl.cl _,Cl.n1 _,jL,k⟩
seal cV PS PE PT PA PG PI dj de in
theorem v9(Cl:Cs K C)(I:In K C f fd)(T:Txt mg):cu P w K mg base cC 1 (f .r) (fd .r) ["self","words"] (tO (C .r)):=by
 refine(I.F .r).ok (jE .r) (fun vs H Q E h=>?_) (fun cdv A outer s H vs Q E hr h=>?_)
 ·obtain⟨x,dx,l,xs,rfl,_⟩:=h
  rfl
 ·obtain⟨x,dx,l,xs,rfl,U,hl,k⟩:=h
  refine⟨_,cz (ig (pv 0) (jy p7 rfl T.tuple kz (cf (pv 1) cg)) rfl),?_⟩
  refine⟨_,rfl,l,xs,rfl,.inl ⟨cm.of hl,fun p J=>?_⟩⟩
  exact⟨_,rfl,x,C .r,dx,[],rfl,cG J _ _ U,Cl.cl _,Cl.nR _,jL,k p J⟩
seal cV PS PE PT PA PG PI dj de in
theorem wk(Cl:Cs K C)(I:In K C f fd):cu P w K mg base cC 1 (f .b) (fd .b) ["self","one","other"] (mX (C .b)):=by
 refine(I.F .b).ok (jE .b) (fun vs H Q E h=>?_) (fun cdv A outer s H vs Q E U h=>?_)
 ·obtain⟨x,dx,p,q,rfl,_⟩:=h
  rfl
 ·obtain⟨x,dx,p,q,rfl,J,k⟩:=h
  refine⟨_,cD (ig (pv 0) (pv 1) rfl) (cz (ig (pv 0) (pv 2) rfl)),_,rfl,_,rfl,x,C .b,dx,[],rfl,J,Cl.cl _,Cl.n1 _,jL,_,rfl,_,rfl,x,C .b,dx,_,rfl,cx,Cl.cl _,Cl.n2 _,p5,?_⟩
  show Q .non (upd (upd H x _) x _)
  rw [lO]
  exact k
seal cV PS PE PT PA PG PI dj de in
theorem zQ(Cl:Cs K C)(I:In K C f fd):cu P w K mg base cC 1 (f .e) (fd .e) ["self","one","other"] (mX (C .e)):=by
 refine(I.F .e).ok (jE .e) (fun vs H Q E h=>?_) (fun cdv A outer s H vs Q E U h=>?_)
 ·obtain⟨x,dx,p,q,rfl,_⟩:=h
  rfl
 ·obtain⟨x,dx,p,q,rfl,J,k⟩:=h
  refine⟨_,cD (ig (pv 0) (pv 1) rfl) (cz (ig (pv 0) (pv 2) rfl)),_,rfl,_,rfl,x,C .e,dx,[],rfl,J,Cl.cl _,Cl.n1 _,jL,_,rfl,_,rfl,x,C .e,dx,_,rfl,cx,Cl.cl _,Cl.n2 _,p5,?_⟩
  show Q .non (upd (upd H x _) x _)
  rw [lO]
  exact k
theorem Bb{p q:Addr}:(f2 p q).length < 1000:=by
 have:=qR "other" (.ref q) (f1 p)
 show(eJ "other" (.ref q) (f1 p)).length < 1000
 have h:(f1 p).length=1:=rfl
 omega
seal cV PS PE PT PA PG PI dj de in
theorem wt(Cl:Cs K C)(I:In K C f fd):cu P w K mg base cC 1 (f .n) (fd .n) ["self","one","other","far"] (u9 (C .n)):=by
 refine(I.F .n).ok (jE .n) (fun vs H Q E h=>?_) (fun cdv A outer s H vs Q E U h=>?_)
 ·obtain⟨x,dx,p,q,n,rfl,_⟩:=h
  rfl
 ·obtain⟨x,dx,p,q,n,rfl,J,k⟩:=h
  refine⟨_,cD (ig (pv 0) (pv 1) rfl) (cD (ig (pv 0) (pv 2) rfl) (cz (ig (pv 0) (pv 3) rfl))),_,rfl,_,rfl,x,C .n,dx,[],rfl,J,Cl.cl _,Cl.n1 _,jL,
   _,rfl,_,rfl,x,C .n,dx,_,rfl,cx,Cl.cl _,Cl.n2 _,p5,_,rfl,_,rfl,x,C .n,dx,_,rfl,cx,Cl.cl _,Cl.n3 _,Bb,?_⟩
  show Q .non (upd (upd (upd H x _) x _) x _)
  rw [lO,lO]
  exact k
noncomputable abbrev jx(C:Kn->Addr)(H:Hp)(xs:List V)(ts:List At):Prop:=Paired (fun(v:V) (t:At)=>∃ p,v= .ref p/\dI C H p t) xs ts
theorem jx.keep {H H':Hp}(s:gw H H'){xs:List V}{ts:List At}(h:jx C H xs ts):jx C H' xs ts:=Gn.Paired.imp2 h fun _ _ ⟨p,e,a⟩=>⟨p,e,a.keep s⟩
theorem jx.same {H H':Hp}(s:ck H H'){xs:List V}{ts:List At}(h:jx C H xs ts):jx C H' xs ts:=h.keep (gw.of s)
noncomputable def pC(C:Kn->Addr)(i:Kn):Sp:=fun vs H Q _=>∃(a:Addr) (t:At),vs=[.ref a]/\dI C H a t/\t.kn=i/\∀ l xs,H l=none->jx C H xs t.kids->Q (.ref l) (upd H l (.lst xs))
theorem BM(i:Kn):dD ["self"] ["self"] (cv (jV i)):=by
 cases i<;>exact⟨rfl,rfl,rfl,dkq,rfl,dkq,dkq⟩
theorem sh(M:Mt K C "kids" km jV f fd)(i:Kn):Binds K (fd i) ["self"] []:=by
 cases i<;>exact(M.F _).binds (ps:=["self"]) fun _ _ _ _ _ _ us J=>match us,J with | [_],_=>rfl
theorem eW:0<=sizeLine:=Nat.zero_le _
theorem dH:1<=sizeLine:=by rw [sizeLine_eq];decide
seal cV PS PE PT PA PG PI dj de in
theorem rS(Cl:Cs K C)(M:Mt K C "kids" km jV f fd)(i:Kn):cu P w K mg base cC 1 (f i) (fd i) ["self"] (pC C i):=by
 refine(M.F i).ok (BM i) (fun vs H Q E h=>?_) (fun cdv A outer s H vs Q E hr h=>?_)
 ·obtain⟨a,t,rfl,_⟩:=h
  rfl
 ·obtain⟨a,t,rfl,hA,rfl,k⟩:=h
  cases t with
  | word z=>exact⟨_,cz (cI (dR cg)),eW,fun l J=>k l [] J .nil⟩
  | start z=>exact⟨_,cz (cI (dR cg)),eW,fun l J=>k l [] J .nil⟩
  | row zs=>exact⟨_,cz (cI (dR cg)),eW,fun l J=>k l [] J .nil⟩
  | near x y m=>
   obtain⟨dx,p,q,U,hp,hq⟩:=hA
   exact⟨_,cz (cI (dR (cf (eK (pv 0) rfl) (cf (eK (pv 0) rfl) cg)))),_,rfl,a,C .n,dx,_,_,rfl,U,Cl.cl _,Cl.n1 _,sX p q m,_,rfl,a,C .n,dx,_,_,rfl,U,Cl.cl _,Cl.n2 _,rK p q m,eU,
    fun l J=>k l [.ref p,.ref q] J (.cons ⟨p,rfl,hp⟩ (.cons ⟨q,rfl,hq⟩ .nil))⟩
  | both x y=>
   obtain⟨dx,p,q,U,hp,hq⟩:=hA
   exact⟨_,cz (cI (dR (cf (eK (pv 0) rfl) (cf (eK (pv 0) rfl) cg)))),_,rfl,a,C .b,dx,_,_,rfl,U,Cl.cl _,Cl.n1 _,j6 p q,_,rfl,a,C .b,dx,_,_,rfl,U,Cl.cl _,Cl.n2 _,jY p q,eU,
    fun l J=>k l [.ref p,.ref q] J (.cons ⟨p,rfl,hp⟩ (.cons ⟨q,rfl,hq⟩ .nil))⟩
  | either x y=>
   obtain⟨dx,p,q,U,hp,hq⟩:=hA
   exact⟨_,cz (cI (dR (cf (eK (pv 0) rfl) (cf (eK (pv 0) rfl) cg)))),_,rfl,a,C .e,dx,_,_,rfl,U,Cl.cl _,Cl.n1 _,j6 p q,_,rfl,a,C .e,dx,_,_,rfl,U,Cl.cl _,Cl.n2 _,jY p q,eU,
    fun l J=>k l [.ref p,.ref q] J (.cons ⟨p,rfl,hp⟩ (.cons ⟨q,rfl,hq⟩ .nil))⟩
  | no x=>
   obtain⟨dx,p,U,hp⟩:=hA
   exact⟨_,cz (cI (dR (cf (eK (pv 0) rfl) cg))),_,rfl,a,C .o,dx,_,_,rfl,U,Cl.cl _,Cl.n1 _,ur p,dH,fun l J=>k l [.ref p] J (.cons ⟨p,rfl,hp⟩ .nil)⟩
end
section
variable {P : Program} {w : World} {K : PySem.W.Frag} {mg : Str -> Option Value} {base : Heap} {C : Kn -> Addr} {CB d : Addr}
noncomputable def qm(K:W.Frag)(CB:Addr):Sp:=fun vs H Q E=>∃ x,vs=[x]/\Known K H x/\nA x/\(gU 2000 x=true->∀ H',ck H H'->Q x H')/\(gU 2000 x=false->∀ H',ck H H'->E (.ref CB) none H')
theorem vU:dD ["thing"] ["thing"] (cv kD):=⟨rfl,rfl,rfl,dkq,rfl,dkq,dkq⟩
seal cV PS PE PT PA PG PI dj de in
theorem w4{f ft:Addr}{fd fdt:FuncData}(D:Df K mg "asked_word" kD f fd)(DT:Df K mg "is_word" lz ft fdt)(X:Ex K mg "BadAsk" CB)(GT:cu P w K mg base cC 2 ft fdt ["thing"] (tU K 2000)):
  cu P w K mg base (dg P w) 3 f fd ["thing"] (qm K CB):=by
 have U:=f9 (p:="thing") DT.F fun _ _ _ _ _ _ _=>rfl
 refine D.F.ok1 vU (fun vs H Q E h=>?_) (fun cdv A outer s H vs Q E hr h=>?_)
 ·obtain⟨x,rfl,_⟩:=h
  rfl
 ·obtain⟨x,rfl,hk,J,k1,k2⟩:=h
  refine⟨_,cD (dC (gs (fT (cT GT hr rfl DT.m DT.F.kp U .nil cH (cf (pv 0) cg)))) (cz (jn rfl X.q F.excBase_ValueError dkq F.excBase_ValueError rfl X.m (cf dw cg) iV)) dz)
   (cz (cI (pv 0))),?_⟩
  refine⟨_,rfl,x,rfl,hk,J,fun H' sm=>⟨_,rfl,?_⟩⟩
  cases hx:gU 2000 x with
  | false=>exact cJ ⟨dH,k2 hx H' sm⟩
  | true=>exact cY ⟨_,rfl,k1 hx H' sm⟩
noncomputable def eS:List (Key×V):=[(.inr "word",.int 2),(.inr "start",.int 2),(.inr "row",.int 2),(.inr "near",.int 4),(.inr "both",.int 3),(.inr "either",.int 3),(.inr "not",.int 2)]
noncomputable def fQ:PyData->Option Str
 | .tuple (.str z::ds)=>if df eS (.inr z)=some (.int ((ds.length + 1:Nat):Int)) then some z else none
 | _=>none
theorem xM(k:Key):df eS k=none\/∃ i,df eS k=some (.int i):=by
 cases h:df eS k with
 | none=>exact .inl rfl
 | some v=>
  refine .inr ?_
  unfold df eS at h
  simp only [List.find?_cons,List.find?_nil] at h
  repeat' split at h
  all_goals first | (simp at h;exact⟨_,by rw [<-h]⟩) | (simp at h)
noncomputable def Ax:PyData->Bool
 | .tuple _=>true
 | _=>false
noncomputable def wG:PyData->Bool
 | .str _=>true
 | _=>false
theorem uz(d:PyData):W.kitOne K (.type (pJ d)) (.type "tuple")=some (Ax d):=by
 cases d<;>kernel_rfl
theorem BB(d:PyData):W.kitOne K (.type (pJ d)) (.type "str")=some (wG d):=by
 cases d<;>kernel_rfl
end
section
variable {P : Program} {w : World} {K : PySem.W.Frag} {mg : Str -> Option Value} {base : Heap} {CB d : Addr}
noncomputable def rB(CB:Addr):Sp:=fun vs H Q E=>∃ x dd,vs=[x]/\cM true H x dd/\(∀ z,fQ dd=some z->Q (.str z) H)/\(fQ dd=none->E (.ref CB) none H)
theorem AJ:dD ["told"] ["told"] (cv k8):=⟨rfl,rfl,rfl,dkq,rfl,dkq,dkq⟩
seal cV PS PE PT PA PG PI dj de in
theorem yn{f:Addr}{fd:FuncData}(D:Df K mg "need_name" k8 f fd)(T:Txt mg)(X:Ex K mg "BadAsk" CB)(hd:mg "TOLD_LENGTHS"=some (.ref d))(KD':KD P w K d eS):cu P w K mg base (dg P w) 1 f fd ["told"] (rB CB):=by
 refine D.F.ok1 AJ (fun vs H Q E h=>?_) (fun cdv A outer s H vs Q E hr h=>?_)
 ·obtain⟨x,dd,rfl,_⟩:=h
  rfl
 ·obtain⟨x,dd,rfl,hp,k1,k2⟩:=h
  refine⟨_,cD (dC (PW.pt (fX (gs (fT (dF iC rfl T.isi gY (cf (pv 0) (cf (h7 (v:= .ty "tuple") rfl T.tuple kz rfl) cg)))))
    (fX (cZ dQ (dF fO rfl T.len eZ (cf (pv 0) cg)) cj (cX _))
    (h9 (gs (fT (dF iC rfl T.isi gY (cf (cQ dn (pv 0) cj (fun _ _=>rfl)) (cf (h7 (v:= .ty "str") rfl T.str tL rfl) cg)))))))))
    (cz (jn rfl X.q F.excBase_ValueError dkq F.excBase_ValueError rfl X.m (cf dw cg) iV)) dz)
   (cD (dC (cZ mT (BI rfl hd KD' (cQ dn (pv 0) cj (fun _ _=>rfl)) ⟨rfl,rfl,rfl,rfl⟩) (dF fO rfl T.len eZ (cf (pv 0) cg)) (cX _))
    (cz (jn rfl X.q F.excBase_ValueError dkq F.excBase_ValueError rfl X.m (cf dw cg) iV)) dz)
   (cz (cI (cQ dn (pv 0) cj (fun _ _=>rfl))))),?_⟩
  refine⟨_,rfl,x,.ty "tuple",_,_,rfl,hp.ty,.inl ⟨_,rfl,uz dd⟩,_,rfl,?_⟩
  cases hp with
  | tup ha hs=>
   rename_i a xs ds
   have hl:=hs.len
   refine cY ⟨_,rfl,a,xs,rfl,.inr (cq.of ha),rfl,_,rfl,?_⟩
   cases hs with
   | nil=>exact cJ (cJ ⟨dH,k2 rfl⟩)
   | cons h0 aa=>
    rename_i y ys e es
    have ae:decide (V.int ((y::ys).length:Nat)=V.int 0)=false:=decide_eq_false (fun z=>by simp at z;omega)
    rw [ae]
    refine cY ⟨_,rfl,a,_,0,y,rfl,rfl,cq.of ha,cA (j:=0) rfl,y,.ty "str",_,_,rfl,h0.ty,.inl ⟨_,rfl,BB e⟩,_,rfl,?_⟩
    cases h0 with
    | str z=>
     refine cY ⟨_,rfl,a,_,0,.str z,rfl,rfl,cq.of ha,cA (j:=0) rfl,.inr z,rfl,_,rfl,a,_,rfl,.inr (cq.of ha),?_⟩
     have nm:fQ (.tuple (.str z::es))=if df eS (.inr z)=some (.int ((es.length + 1:Nat):Int)) then some z else none:=rfl
     have U:ys.length=es.length:=aa.len
     have fin:∀ v:V,(df eS (.inr z)).getD .non=v->(oW v (.int ((V.str z::ys).length:Nat))=true)->(df eS (.inr z)=some (.int ((es.length + 1:Nat):Int))↔v= .int ((V.str z::ys).length:Nat))->True:=fun _ _ _ _=>trivial
     rcases xM (.inr z) with q | ⟨i,q⟩
     ·rw [q]
      refine⟨rfl,_,rfl,cJ ⟨dH,k2 ?_⟩⟩
      rw [nm,if_neg (by rw [q];intro J;cases J)]
     ·rw [q]
      refine⟨rfl,_,rfl,?_⟩
      by_cases hi:i=((es.length + 1:Nat):Int)
      ·have e1:(!decide (V.int i=V.int (((V.str z::ys).length:Nat):Int)))=false:=by
        rw [decide_eq_true (by rw [hi,List.length_cons,U])]
        rfl
       show if (!decide (V.int i=V.int (((V.str z::ys).length:Nat):Int)))=true then _ else _
       rw [e1]
       exact cY ⟨_,rfl,a,_,0,.str z,rfl,rfl,cq.of ha,cA (j:=0) rfl,k1 z (by rw [nm,if_pos (by rw [q,hi])])⟩
      ·have e1:(!decide (V.int i=V.int (((V.str z::ys).length:Nat):Int)))=true:=by
        rw [decide_eq_false (fun J=>hi (by have:=V.int.inj J;rw [this,List.length_cons,U]))]
        rfl
       show if (!decide (V.int i=V.int (((V.str z::ys).length:Nat):Int)))=true then _ else _
       rw [e1]
       exact cJ ⟨dH,k2 (by rw [nm,if_neg (fun J=>hi (by rw [q] at J;exact V.int.inj (Option.some.inj J)))])⟩
    | non=>exact cJ ⟨dH,k2 rfl⟩
    | bl b=>exact cJ ⟨dH,k2 rfl⟩
    | int i=>exact cJ ⟨dH,k2 rfl⟩
    | lst _ _ _=>exact cJ ⟨dH,k2 rfl⟩
    | tup _ _=>exact cJ ⟨dH,k2 rfl⟩
  | non=>exact cJ (cJ ⟨dH,k2 rfl⟩)
  | bl b=>exact cJ (cJ ⟨dH,k2 rfl⟩)
  | int i=>exact cJ (cJ ⟨dH,k2 rfl⟩)
  | str z=>exact cJ (cJ ⟨dH,k2 rfl⟩)
  | lst _ _ _=>exact cJ (cJ ⟨dH,k2 rfl⟩)
end
end K14
namespace L2
theorem ck.upf {H H':Hp}{a:PySem.Addr}{o:HO}(s:ck H H')(h:H' a=none):ck H (upd H' a o):=Gn.ck.upd s h
end L2
namespace K14
open PySem L2 PyProof.Rows PySem.Spec Gn K01
mutual
noncomputable def jT : PyData -> Prop
 | .str z => z.length <= 5000
 | .tuple ds => lY ds
 | .list ds => lY ds
 | _ => True
noncomputable def lY : List PyData -> Prop
 | [] => True
 | d :: ds => jT d /\ lY ds
end
theorem vE:∀{ds:List PyData} {i:Nat} {d:PyData},lY ds->ds[i]? =some d->jT d
 | _::_,0,_,h,e=>by
  simp at e
  rw [<-e]
  exact h.1
 | _::ds,i + 1,_,h,e=>vE (ds:=ds) (i:=i) h.2 (by simpa using e)
theorem cM.fit {l:Bool}{H:Hp}{x:V}{d:PyData}(h:cM l H x d)(f:jT d):nA x:=by
 intro z e
 subst e
 cases h with
 | str _=>exact f
theorem c9.get {l:Bool}{H:Hp}:∀{xs:List V} {ds:List PyData} {i:Nat} {x:V},c9 l H xs ds->xs[i]? =some x->∃ d,ds[i]? =some d/\cM l H x d
 | _,_,0,_,.cons h _,e=>by
  simp at e
  exact⟨_,rfl,e ▸ h⟩
 | _,_,i + 1,_,.cons _ r,e=>by
  obtain⟨d,J,U⟩:=c9.get (i:=i) r (by simpa using e)
  exact⟨d,by simpa using J,U⟩
 | _,_,0,_,.nil,e=>by simp at e
 | _,_,i + 1,_,.nil,e=>by simp at e
noncomputable def wd:PyData->Option Str
 | .str z=>if gU 2000 (.str z)=true then some z else none
 | _=>none
theorem pO{l:Bool}{H:Hp}{x:V}{d:PyData}(h:cM l H x d):(gU 2000 x=true->∃ z,x= .str z/\wd d=some z)/\(gU 2000 x=false->wd d=none):=by
 cases h with
 | str z=>exact⟨fun e=>⟨z,rfl,if_pos e⟩,fun e=>if_neg (by rw [e];decide)⟩
 | non=>exact⟨fun e=>(by cases e),fun _=>rfl⟩
 | bl b=>exact⟨fun e=>(by cases e),fun _=>rfl⟩
 | int i=>exact⟨fun e=>(by cases e),fun _=>rfl⟩
 | lst _ _ _=>exact⟨fun e=>(by cases e),fun _=>rfl⟩
 | tup _ _=>exact⟨fun e=>(by cases e),fun _=>rfl⟩
noncomputable def fM:List PyData->Option (List Str)
 | []=>some []
 | d::ds=>match wd d with
  | none=>none
  | some z=>(fM ds).map (z:: ·)
theorem sJ:∀{ds:List PyData} {zs:List Str} {d:PyData} {z:Str},fM ds=some zs->wd d=some z->fM (ds++[d])=some (zs++[z])
 | [],zs,d,z,h,e=>by
  cases h
  show(match wd d with | none=>none | some z=>(fM []).map (z:: ·))=_
  rw [e]
  rfl
 | a::ds,zs,d,z,h,e=>by
  have h':(match wd a with | none=>none | some z=>(fM ds).map (z:: ·))=some zs:=h
  show(match wd a with | none=>none | some z=>(fM (ds++[d])).map (z:: ·))=_
  cases ha:wd a with
  | none=>rw [ha] at h';cases h'
  | some y=>
   rw [ha] at h'
   cases hz:fM ds with
   | none=>rw [hz] at h';cases h'
   | some ys=>
    rw [hz] at h'
    have J:y::ys=zs:=by simpa using h'
    subst J
    show(fM (ds++[d])).map (y:: ·)=_
    rw [sJ hz e]
    rfl
theorem rN:∀{ds:List PyData} {i:Nat} {d:PyData},ds[i]? =some d->wd d=none->fM ds=none
 | a::ds,0,d,h,e=>by
  have:a=d:=by simpa using h
  subst this
  show(match wd a with | none=>none | some z=>(fM ds).map (z:: ·))=_
  rw [e]
 | a::ds,i + 1,d,h,e=>by
  show(match wd a with | none=>none | some z=>(fM ds).map (z:: ·))=_
  rw [rN (ds:=ds) (i:=i) (by simpa using h) e]
  cases wd a<;>rfl
noncomputable def rowOf:PyData->Option (List Str)
 | .tuple ds=>if 2<=ds.length/\ds.length<=8 then fM ds else none
 | _=>none
noncomputable def eN:Kn->Bool
 | .w=>true | .s=>true | .r=>true | _=>false
noncomputable def nQ:PyData->Option Int
 | .int n=>if 0<=n/\n<=20 then some n else none
 | _=>none
noncomputable def gQ(a b:At)(d:PyData):Option Int:=if (eN a.kn && eN b.kn)=true then nQ d else none
section
variable {P : Program} {w : World} {K : PySem.W.Frag} {mg : Str -> Option Value} {base : Heap} {C fi : Kn -> Addr} {fdi : Kn -> FuncData} {CB : Addr}
noncomputable def sH(C:Kn->Addr)(CB:Addr):Sp:=fun vs H Q E=>∃ x dd,vs=[x]/\cM true H x dd/\jT dd/\(∀ zs,rowOf dd=some zs->∀ a H',ck H H'->dI C H' a (.row zs)->Q (.ref a) H')/\(rowOf dd=none->∀ H',ck H H'->E (.ref CB) none H')
theorem zV:dD ["thing"] ["thing"] (cv kM):=⟨rfl,rfl,rfl,dkq,rfl,dkq,dkq⟩
theorem xI:(["word"]:List Str).Nodup:=dkq
seal cV PS PE PT PA PG PI dj de in
theorem zU{f fa:Addr}{fd fda:FuncData}(D:Df K mg "asked_row" kM f fd)(DA:Df K mg "asked_word" kD fa fda)(T:Txt mg)(Cl:Cs K C)(I:In K C fi fdi)(hR:mg "Row"=some (.ref (C .r)))(X:Ex K mg "BadAsk" CB)
  (GA:cu P w K mg base (dg P w) 3 fa fda ["thing"] (qm K CB)):cu P w K mg base (dg P w) 4 f fd ["thing"] (sH C CB):=by
 obtain⟨t1,c1⟩:=T.cLR
 obtain⟨t2,c2⟩:=T.cMR
 have bA:=f9 (p:="thing") DA.F fun _ _ _ _ _ _ _=>rfl
 have GI:cu P w K mg base cC 2 (fi .r) (fdi .r) ["self","words"] (tO (C .r)):=(v9 Cl I T).mono (by decide)
 refine D.F.ok1 zV (fun vs H Q E h=>?_) (fun cdv A outer s H vs Q E hr h=>?_)
 ·obtain⟨x,dd,rfl,_⟩:=h
  rfl
 ·obtain⟨x,dd,rfl,hp,hf,k1,k2⟩:=h
  have hz:(sizeLine:Nat)=16777216:=sizeLine_eq
  refine⟨_,cD (dC (PW.pt (fX (gs (fT (dF iC rfl T.isi gY (cf (pv 0) (cf (h7 (v:= .ty "tuple") rfl T.tuple kz rfl) cg)))))
    (fX (cZ lX (dF fO rfl T.len eZ (cf (pv 0) cg)) (iF (v:= .int 2) rfl c1 ⟨_,rfl⟩) (cX _))
    (h9 (cZ iN (dF fO rfl T.len eZ (cf (pv 0) cg)) (iF (v:= .int 8) rfl c2 ⟨_,rfl⟩) (cX _))))))
    (cz (jn rfl X.q F.excBase_ValueError dkq F.excBase_ValueError rfl X.m (cf dw cg) iV)) dz)
   (cz (cI (jI (I.M .r) GI hr rfl hR (I.bi .r) .nil cH (cf (vP (own:=1) (caps:=[]) (N:=["word"]) (N0:=["thing"]) (sc0:=cv kM) rfl (p0 (pv 0))
    (fun _ _ _=>dU (i:=0) xI rfl (Or.inl rfl)) (fun _ _ _=>iU) rfl rfl rfl AL
    (fun _ _ _ _ hp=>cT GA hr rfl DA.m DA.F.kp bA .nil hp (cf (pv 0) cg)) (fW (by decide)) rfl rfl
    dkq rfl dkq dkq rfl dkq) cg)))),?_⟩
  refine⟨_,rfl,x,.ty "tuple",_,_,rfl,hp.ty,.inl ⟨_,rfl,uz dd⟩,_,rfl,?_⟩
  cases hp with
  | tup ha hs=>
   rename_i a xs ds
   have hl:=hs.len
   refine cY ⟨_,rfl,a,xs,rfl,.inr (cq.of ha),_,_,rfl,rfl,_,rfl,?_⟩
   have rv:rowOf (.tuple ds)=if 2<=ds.length/\ds.length<=8 then fM ds else none:=rfl
   by_cases h1:((xs.length:Nat):Int) < 2
   ·rw [decide_eq_true h1]
    exact cJ (cJ ⟨dH,k2 (by rw [rv,if_neg (by omega)]) H (ck.refl H)⟩)
   ·rw [decide_eq_false h1]
    refine cY ⟨_,rfl,a,xs,rfl,.inr (cq.of ha),_,_,rfl,rfl,_,rfl,?_⟩
    by_cases h2:(8:Int) < ((xs.length:Nat):Int)
    ·rw [decide_eq_true h2]
     exact cJ ⟨dH,k2 (by rw [rv,if_neg (by omega)]) H (ck.refl H)⟩
    ·rw [decide_eq_false h2]
     rw [if_pos (by omega)] at rv
     refine cY ⟨_,rfl,a,rfl,⟨_,cq.of ha⟩,?_⟩
     refine rq (xs:=xs) (fun i ys H'=>ck H H'/\∃ zs,fM (ds.take i)=some zs/\ys=zs.map V.str) (by omega) (fun i ys H' ⟨sm,_⟩=>cq.of (sm _ _ ha)) ⟨ck.refl H,[],rfl,rfl⟩ ?_ ?_
     ·rintro i y ys H' N hy ⟨sm,zs,J,rfl⟩ hN
      obtain⟨d,hd,U⟩:=hs.get hy
      have hw:=pO U
      refine g1 ?_
      refine⟨_,rfl,y,rfl,(U.same sm).known,U.fit (vE hf hd),fun e H2 s2=>?_,fun e H2 s2=>k2 (by rw [rv];exact rN hd (hw.2 e)) H2 (sm.trans s2)⟩
      obtain⟨z,rfl,e2⟩:=hw.1 e
      refine hN _ _ ⟨sm.trans s2,zs++[z],?_,by rw [List.map_append];rfl⟩
      rw [List.take_add_one,hd]
      exact sJ J e2
     ·rintro ys H' ⟨sm,zs,J,rfl⟩ _ p hp b dx hb aa ah
      rw [hl,List.take_length] at J
      have s1:ck H (upd H' p (.lst (zs.map V.str))):=sm.upf hp
      generalize ag:upd H' p (.lst (zs.map V.str))=H1 at s1 hb aa
      have ae:H1 p=some (.lst (zs.map V.str)):=by rw [<-ag];exact cx
      have pb:p≠b:=dA ae hb
      have pd:p≠dx:=dA ae aa
      refine⟨b,dx,p,_,rfl,cx,by rw [cK pb,cK pd];exact ae,fun q hq=>⟨rfl,k1 zs (by rw [rv,J]) b _ ?_ ?_⟩⟩
      ·intro c u hc
       have af:=s1 _ _ hc
       have cb:c≠b:=dA af hb
       have cd:c≠dx:=dA af aa
       have e2:(upd (upd H1 dx (.own b)) b (.ins (C .r) dx [])) c=some u:=by rw [cK cb,cK cd];exact af
       rw [cK cb,cK (dA e2 hq)]
       exact e2
      ·have qb:q≠b:=fun z=>by rw [z,cx] at hq;cases hq
       exact⟨dx,q,cx,by rw [cK qb];exact cx⟩
  | non=>exact cJ (cJ ⟨dH,k2 rfl H (ck.refl H)⟩)
  | bl b=>exact cJ (cJ ⟨dH,k2 rfl H (ck.refl H)⟩)
  | int i=>exact cJ (cJ ⟨dH,k2 rfl H (ck.refl H)⟩)
  | str z=>exact cJ (cJ ⟨dH,k2 rfl H (ck.refl H)⟩)
  | lst _ _ _=>exact cJ (cJ ⟨dH,k2 rfl H (ck.refl H)⟩)
noncomputable def tY(C:Kn->Addr)(CB:Addr):Sp:=fun vs H Q E=>∃(p q:Addr) (x:V) (J U:At) (d:PyData),vs=[.ref p,.ref q,x]/\dI C H p J/\dI C H q U/\cM true H x d/\
 (∀ n,gQ J U d=some n->∀ a H',ck H H'->dI C H' a (.near J U n)->Q (.ref a) H')/\(gQ J U d=none->∀ H',ck H H'->E (.ref CB) none H')
theorem vw:dD ["one","other","far","ask"] ["one","other","far"] (cv lL):=⟨rfl,rfl,rfl,dkq,rfl,dkq,dkq⟩
theorem ko{H1:Hp}{b dx:Addr}{o o' o'':HO}(hb:H1 b=none)(hdx:H1 dx=none):ck H1 (upd (upd (upd H1 dx o) b o') b o''):=by
 rw [lO]
 exact Bc (ck.refl _) hb hdx
seal cV PS PE PT PA PG PI dj de in
theorem yY{f ft:Addr}{fd fdt:FuncData}(D:Df K mg "asked_near" lL f fd)(DT:Df K mg "is_whole" lx ft fdt)(T:Txt mg)(Cl:Cs K C)(I:In K C fi fdi)(hW:mg "Word"=some (.ref (C .w)))(hS:mg "Start"=some (.ref (C .s)))(hR:mg "Row"=some (.ref (C .r)))(hN:mg "Near"=some (.ref (C .n)))(X:Ex K mg "BadAsk" CB)
  (hK:∀ i,W.kitAny K (.ref (C i)) ([C .w,C .s,C .r].map Value.ref)=some (eN i)):cu P w K mg base (dg P w) 3 f fd ["one","other","far"] (tY C CB):=by
 obtain⟨t1,c1⟩:=T.cFar
 have GT:cu P w K mg base cC 2 ft fdt ["thing"] (sr K):=(BA DT T).mono (by decide)
 have bT:=f9 (p:="thing") DT.F fun _ _ _ _ _ _ _=>rfl
 have GI:cu P w K mg base cC 1 (fi .n) (fdi .n) ["self","one","other","far"] (u9 (C .n)):=wt Cl I
 refine D.F.ok1 vw (fun vs H Q E h=>?_) (fun cdv A outer s H vs Q E hr h=>?_)
 ·obtain⟨p,q,x,tp,tq,d,rfl,_⟩:=h
  rfl
 ·obtain⟨p,q,x,tp,tq,d,rfl,hp,hq,hx,k1,k2⟩:=h
  have nv:gQ tp tq d=if (eN tp.kn && eN tq.kn)=true then nQ d else none:=rfl
  refine⟨_,cD (gN PassesOwn.leaving rfl (p0 (fF (cf (pv 0) (cf (pv 1) cg)))) (dU (i:=3) vw.nd rfl (Or.inl rfl))
    (cz (dC (gs (fT (dF wW rfl T.isi gY (cf (pv 3) (cf (fF (cf (iF (v:= .ref (C .w)) rfl hW rfl) (cf (iF (v:= .ref (C .s)) rfl hS rfl) (cf (iF (v:= .ref (C .r)) rfl hR rfl) cg)))) cg)))))
     (cz (jn rfl X.q F.excBase_ValueError dkq F.excBase_ValueError rfl X.m (cf dw cg) iV)) dz)))
   (cD (dC (PW.pt (fX (gs (fT (cT GT hr rfl DT.m DT.F.kp bT .nil cH (cf (pv 2) cg))))
    (fX (cZ lX (pv 2) cj (cX _))
    (h9 (cZ iN (pv 2) (iF (v:= .int 20) rfl c1 ⟨_,rfl⟩) (cX _))))))
    (cz (jn rfl X.q F.excBase_ValueError dkq F.excBase_ValueError rfl X.m (cf dw cg) iV)) dz)
   (cz (cI (jI (I.M .n) GI hr rfl hN (I.bi .n) .nil cH (cf (pv 0) (cf (pv 1) (cf (pv 2) cg))))))),?_⟩
  refine⟨_,rfl,_,rfl,eU,fun tt aa=>?_⟩
  refine⟨tt,rfl,⟨_,cq.of cx⟩,?_⟩
  refine yN (xs:=[.ref p,.ref q]) (fun i σ H'=>∃ o3,σ=[some (.ref p),some (.ref q),some x,o3]/\ck H H'/\H' tt=some (.tup [.ref p,.ref q])/\(0 < i->eN tp.kn=true)/\(1 < i->eN tq.kn=true)) ?_ ?_ ?_ ?_
  ·exact⟨none,rfl,cG aa,cx,fun z=>absurd z (by decide),fun z=>absurd z (by decide)⟩
  ·rintro i σ H' _ ⟨o3,rfl,_,e,_⟩
   exact cq.of e
  ·rintro i y σ H' hy ⟨o3,rfl,sm,e,l1,l2⟩
   match i,hy with
   | 0,hy=>
    have ey:V.ref p=y:=by simpa using hy
    subst ey
    obtain⟨dp,fp,ep,_⟩:=(hp.same sm).ob
    refine⟨_,rfl,kI,fun c U=>⟨p,C tp.kn,dp,fp,c,[C .w,C .s,C .r],_,rfl,by rw [cK (dA ep U)];exact ep,Cl.ic _,cx,hK _,_,rfl,?_⟩⟩
    cases hl:eN tp.kn with
    | false=>exact cJ ⟨dH,k2 (by rw [nv,hl];rfl) _ (sm.upf U)⟩
    | true=>exact cY ⟨_,rfl,sm.upf U,by rw [cK (dA e U)];exact e,fun _=>rfl,fun z=>absurd z (by decide)⟩
   | 1,hy=>
    have ey:V.ref q=y:=by simpa using hy
    subst ey
    obtain⟨dp,fp,ep,_⟩:=(hq.same sm).ob
    refine⟨_,rfl,kI,fun c U=>⟨q,C tq.kn,dp,fp,c,[C .w,C .s,C .r],_,rfl,by rw [cK (dA ep U)];exact ep,Cl.ic _,cx,hK _,_,rfl,?_⟩⟩
    cases hl:eN tq.kn with
    | false=>exact cJ ⟨dH,k2 (by rw [nv,hl,Bool.and_false];rfl) _ (sm.upf U)⟩
    | true=>exact cY ⟨_,rfl,sm.upf U,by rw [cK (dA e U)];exact e,fun _=>l1 (by decide),fun _=>rfl⟩
   | i + 2,hy=>simp at hy
  ·rintro σ H' ⟨o3,rfl,sm,e,l1,l2⟩
   have L1:=l1 (by show 0 < 2;decide)
   have L2:=l2 (by show 1 < 2;decide)
   rw [L1,L2] at nv
   have J:gQ tp tq d=nQ d:=nv
   refine⟨_,rfl,x,rfl,(hx.same sm).known,_,rfl,?_⟩
   cases hx with
   | int n=>
    refine cY ⟨_,rfl,_,_,rfl,rfl,_,rfl,?_⟩
    have fv:nQ (.int n)=if 0<=n/\n<=20 then some n else none:=rfl
    by_cases h1:n < 0
    ·rw [decide_eq_true h1]
     exact cJ (cJ ⟨dH,k2 (by rw [J,fv,if_neg (by omega)]) H' sm⟩)
    ·rw [decide_eq_false h1]
     refine cY ⟨_,rfl,_,_,rfl,rfl,_,rfl,?_⟩
     by_cases h2:20 < n
     ·rw [decide_eq_true h2]
      exact cJ ⟨dH,k2 (by rw [J,fv,if_neg (by omega)]) H' sm⟩
     ·rw [decide_eq_false h2]
      refine cY ⟨_,rfl,_,rfl,_,rfl,fun b dx hb ae af=>⟨b,dx,p,q,n,rfl,cx,rfl,?_⟩⟩
      have s2:=ko (o:= .own b) (o':= .ins (C .n) dx []) (o'':= .ins (C .n) dx (f3 p q n)) hb ae
      exact k1 n (by rw [J,fv,if_pos (by omega)]) b _ (sm.trans s2) ⟨dx,p,q,cx,hp.same (sm.trans s2),hq.same (sm.trans s2)⟩
   | non=>exact cJ (cJ ⟨dH,k2 J H' sm⟩)
   | bl b=>exact cJ (cJ ⟨dH,k2 J H' sm⟩)
   | str z=>exact cJ (cJ ⟨dH,k2 J H' sm⟩)
   | lst _ _ _=>exact cJ (cJ ⟨dH,k2 J H' sm⟩)
   | tup _ _=>exact cJ (cJ ⟨dH,k2 J H' sm⟩)
end
noncomputable def arg(d:PyData)(i:Nat):PyData:=match d with
 | .tuple ds=>ds.getD i .none
 | _=> .none
noncomputable def cU:Nat->PyData->Option At
 | 0,_=>none
 | n + 1,d=>match fQ d with
  | none=>none
  | some z=>
   if z="word" then (wd (arg d 1)).map .word
   else if z="start" then (wd (arg d 1)).map .start
   else if z="row" then (rowOf (arg d 1)).map .row
   else match cU n (arg d 1) with
    | none=>none
    | some a=>
     if z="not" then some (.no a)
     else match cU n (arg d 2) with
      | none=>none
      | some b=>if z="near" then (gQ a b (arg d 3)).map (.near a b) else if z="both" then some (.both a b) else some (.either a b)
theorem Bk{kvs:List (Key×V)}{k:Key}{v:V}(h:df kvs k=some v):(k,v)∈kvs:=by
 unfold df at h
 obtain⟨J,e,q⟩:=Option.map_eq_some_iff.mp h
 have h1:=List.mem_of_find?_eq_some e
 have h2:J.1=k:=of_decide_eq_true (by simpa using List.find?_some e)
 rw [<-h2,<-q]
 exact h1
theorem tu{d:PyData}{z:Str}(h:fQ d=some z):∃ ds,d= .tuple (.str z::ds)/\
  ((z="word"/\ds.length=1)\/(z="start"/\ds.length=1)\/(z="row"/\ds.length=1)\/(z="near"/\ds.length=3)\/(z="both"/\ds.length=2)\/(z="either"/\ds.length=2)\/(z="not"/\ds.length=1)):=by
 unfold fQ at h
 split at h
 ·rename_i y ds
  split at h
  ·rename_i q
   have ez:y=z:=by simpa using h
   subst ez
   refine⟨ds,rfl,?_⟩
   have m:=Bk q
   unfold eS at m
   simp only [List.mem_cons,List.not_mem_nil,or_false,Prod.mk.injEq] at m
   rcases m with ⟨U,e2⟩ | ⟨U,e2⟩ | ⟨U,e2⟩ | ⟨U,e2⟩ | ⟨U,e2⟩ | ⟨U,e2⟩ | ⟨U,e2⟩
   all_goals
    have J:=Sum.inr.inj U
    have aa:=V.int.inj e2
   ·exact .inl ⟨J,by omega⟩
   ·exact .inr (.inl ⟨J,by omega⟩)
   ·exact .inr (.inr (.inl ⟨J,by omega⟩))
   ·exact .inr (.inr (.inr (.inl ⟨J,by omega⟩)))
   ·exact .inr (.inr (.inr (.inr (.inl ⟨J,by omega⟩))))
   ·exact .inr (.inr (.inr (.inr (.inr (.inl ⟨J,by omega⟩)))))
   ·exact .inr (.inr (.inr (.inr (.inr (.inr ⟨J,by omega⟩)))))
  ·cases h
 ·cases h
section
variable {n : Nat} {d : PyData}
theorem sG(h:fQ d=none):cU (n + 1) d=none:=by
 unfold cU
 rw [h]
theorem oO(h:fQ d=some "word"):cU (n + 1) d=(wd (arg d 1)).map .word:=by
 rw [cU,h]
 show(if _ then _ else _)=_
 rw [if_pos rfl]
theorem pI(h:fQ d=some "start"):cU (n + 1) d=(wd (arg d 1)).map .start:=by
 rw [cU,h]
 show(if _ then _ else _)=_
 rw [if_neg dkq,if_pos rfl]
theorem p9(h:fQ d=some "row"):cU (n + 1) d=(rowOf (arg d 1)).map .row:=by
 rw [cU,h]
 show(if _ then _ else _)=_
 rw [if_neg dkq,if_neg dkq,if_pos rfl]
theorem pR(h:fQ d=some "not"):cU (n + 1) d=(cU n (arg d 1)).map .no:=by
 rw [cU,h]
 show(if _ then _ else _)=_
 rw [if_neg dkq,if_neg dkq,if_neg dkq]
 cases cU n (arg d 1) with
 | none=>rfl
 | some a=>
  show(if _ then _ else _)=_
  rw [if_pos rfl]
  rfl
noncomputable def two(n:Nat)(d:PyData)(k:At->At->Option At):Option At:=(cU n (arg d 1)).bind fun a=>(cU n (arg d 2)).bind fun b=>k a b
theorem qr(h:fQ d=some "near"):cU (n + 1) d=two n d fun a b=>(gQ a b (arg d 3)).map (.near a b):=by
 rw [cU,h]
 show(if _ then _ else _)=_
 unfold two
 rw [if_neg dkq,if_neg dkq,if_neg dkq]
 cases cU n (arg d 1) with
 | none=>rfl
 | some a=>
  show(if _ then _ else _)=_
  rw [if_neg dkq]
  cases cU n (arg d 2) with
  | none=>rfl
  | some b=>
   show(if _ then _ else _)=_
   rw [if_pos rfl]
   rfl
theorem pD(h:fQ d=some "both"):cU (n + 1) d=two n d fun a b=>some (.both a b):=by
 rw [cU,h]
 show(if _ then _ else _)=_
 unfold two
 rw [if_neg dkq,if_neg dkq,if_neg dkq]
 cases cU n (arg d 1) with
 | none=>rfl
 | some a=>
  show(if _ then _ else _)=_
  rw [if_neg dkq]
  cases cU n (arg d 2) with
  | none=>rfl
  | some b=>
   show(if _ then _ else _)=_
   rw [if_neg dkq,if_pos rfl]
   rfl
theorem pE(h:fQ d=some "either"):cU (n + 1) d=two n d fun a b=>some (.either a b):=by
 rw [cU,h]
 show(if _ then _ else _)=_
 unfold two
 rw [if_neg dkq,if_neg dkq,if_neg dkq]
 cases cU n (arg d 1) with
 | none=>rfl
 | some a=>
  show(if _ then _ else _)=_
  rw [if_neg dkq]
  cases cU n (arg d 2) with
  | none=>rfl
  | some b=>
   show(if _ then _ else _)=_
   rw [if_neg dkq,if_neg dkq]
   rfl
theorem pZ{k:At->At->Option At}(h:cU n (arg d 1)=none):two n d k=none:=by unfold two;rw [h];rfl
theorem qF{k:At->At->Option At}{a:At}(h:cU n (arg d 1)=some a)(h2:cU n (arg d 2)=none):two n d k=none:=by unfold two;rw [h];show(cU n (arg d 2)).bind _=_;rw [h2];rfl
theorem pY{k:At->At->Option At}{a b:At}(h:cU n (arg d 1)=some a)(h2:cU n (arg d 2)=some b):two n d k=k a b:=by unfold two;rw [h];show(cU n (arg d 2)).bind _=_;rw [h2];rfl
end
theorem gm{a b:Str}{A B:Prop}(h:a=b)(k:A):if decide (V.str a=V.str b)=true then A else B:=by rw [h,decide_eq_true rfl];exact cJ k
theorem c8{a b:Str}{A B:Prop}(h:¬ a=b)(k:B):if decide (V.str a=V.str b)=true then A else B:=by rw [decide_eq_false (fun e=>h (V.str.inj e))];exact cY k
section
variable {l : Bool} {H : Hp} {x : V}
theorem cM.t2 {a b:PyData}(h:cM l H x (.tuple [a,b])):∃ p x0 x1,x= .ref p/\H p=some (.tup [x0,x1])/\cM l H x0 a/\cM l H x1 b:=by
 cases h with
 | tup ha hs=>
  cases hs with
  | cons h0 hs=>cases hs with
   | cons h1 hs=>cases hs with
    | nil=>exact⟨_,_,_,rfl,ha,h0,h1⟩
theorem cM.t3 {a b c:PyData}(h:cM l H x (.tuple [a,b,c])):∃ p x0 x1 x2,x= .ref p/\H p=some (.tup [x0,x1,x2])/\cM l H x0 a/\cM l H x1 b/\cM l H x2 c:=by
 cases h with
 | tup ha hs=>
  cases hs with
  | cons h0 hs=>cases hs with
   | cons h1 hs=>cases hs with
    | cons h2 hs=>cases hs with
     | nil=>exact⟨_,_,_,_,rfl,ha,h0,h1,h2⟩
theorem cM.t4 {a b c d:PyData}(h:cM l H x (.tuple [a,b,c,d])):∃ p x0 x1 x2 x3,x= .ref p/\H p=some (.tup [x0,x1,x2,x3])/\cM l H x0 a/\cM l H x1 b/\cM l H x2 c/\cM l H x3 d:=by
 cases h with
 | tup ha hs=>
  cases hs with
  | cons h0 hs=>cases hs with
   | cons h1 hs=>cases hs with
    | cons h2 hs=>cases hs with
     | cons J hs=>cases hs with
      | nil=>exact⟨_,_,_,_,_,rfl,ha,h0,h1,h2,J⟩
end
structure Nm (mg : Str -> Option Value) (C : Kn -> Addr) : Prop where
 w : mg "Word" = some (.ref (C .w))
 s : mg "Start" = some (.ref (C .s))
 r : mg "Row" = some (.ref (C .r))
 n : mg "Near" = some (.ref (C .n))
 b : mg "Both" = some (.ref (C .b))
 e : mg "Either" = some (.ref (C .e))
 o : mg "Not" = some (.ref (C .o))
section
variable {P : Program} {w : World} {K : PySem.W.Frag} {mg : Str -> Option Value} {base : Heap} {C fi : Kn -> Addr} {fdi : Kn -> FuncData} {CB : Addr}
noncomputable def ny(C:Kn->Addr)(CB:Addr)(n:Nat):Sp:=fun vs H Q E=>∃(x:V) (k:Int) (dd:PyData),vs=[x,.int k]/\k=(n:Int)/\cM true H x dd/\jT dd/\
 (∀ t,cU n dd=some t->∀ a H',ck H H'->dI C H' a t->Q (.ref a) H')/\(cU n dd=none->∀ H',ck H H'->E (.ref CB) none H')
noncomputable def Bz(C:Kn->Addr)(CB:Addr):Nat->Sp
 | 0=>fun _ _ _ _=>False
 | n + 1=>ny C CB n
theorem lP{CX:fR}{k:Nat}{f:Addr}{fd:FuncData}{ps:List Str}:cu P w K mg base CX k f fd ps (fun _ _ _ _=>False):=⟨fun _ _ _ _ h=>h.elim,fun _ _ _ _ _ _ _ _ _ _ _ _ _ h=>h.elim⟩
theorem mv:dD ["told","deep","name","one","other"] ["told","deep"] (cv lg):=⟨rfl,rfl,rfl,dkq,rfl,dkq,dkq⟩
seal cV PS PE PT PA PG PI dj de in
theorem uA{f fn fa fr fe:Addr}{fd fdn fda fdr fde:FuncData}(D:Df K mg "ask_within" lg f fd)(DN:Df K mg "need_name" k8 fn fdn)(DA:Df K mg "asked_word" kD fa fda)(DR:Df K mg "asked_row" kM fr fdr)(DE:Df K mg "asked_near" lL fe fde)
  (Cl:Cs K C)(I:In K C fi fdi)(NM:Nm mg C)(X:Ex K mg "BadAsk" CB)
  (GN:cu P w K mg base (dg P w) 1 fn fdn ["told"] (rB CB))(GA:cu P w K mg base (dg P w) 3 fa fda ["thing"] (qm K CB))(GR:cu P w K mg base (dg P w) 4 fr fdr ["thing"] (sH C CB))
  (GE:cu P w K mg base (dg P w) 3 fe fde ["one","other","far"] (tY C CB))(n:Nat)(GW:cu P w K mg base (dg P w) (n + 4) f fd ["told","deep"] (Bz C CB n)):
  cu P w K mg base (dg P w) (n + 5) f fd ["told","deep"] (ny C CB n):=by
 have bN:=f9 (p:="told") DN.F fun _ _ _ _ _ _ _=>rfl
 have bA:=f9 (p:="thing") DA.F fun _ _ _ _ _ _ _=>rfl
 have bR:=f9 (p:="thing") DR.F fun _ _ _ _ _ _ _=>rfl
 have bE:=DE.F.binds (ps:=["one","other","far"]) fun _ _ _ _ _ _ us hl=>match us,hl with | [_,_,_],_=>rfl
 have bW:=D.F.binds (ps:=["told","deep"]) fun _ _ _ _ _ _ us hl=>eT (fun _ _=>rfl) us hl
 have ao:=GN.mono (show 1<=n + 4 by omega)
 have ah:=GA.mono (show 3<=n + 4 by omega)
 have aq:=GR.mono (show 4<=n + 4 by omega)
 have ar:=GE.mono (show 3<=n + 4 by omega)
 have Gw:cu P w K mg base cC (n + 3) (fi .w) (fdi .w) ["self","word"] (kg (C .w) "word"):=(zD Cl I).mono (by omega)
 have Gs:cu P w K mg base cC (n + 3) (fi .s) (fdi .s) ["self","word"] (kg (C .s) "word"):=(zT Cl I).mono (by omega)
 have Go:cu P w K mg base cC (n + 3) (fi .o) (fdi .o) ["self","one"] (kg (C .o) "one"):=(wc Cl I).mono (by omega)
 have Gb:cu P w K mg base cC (n + 3) (fi .b) (fdi .b) ["self","one","other"] (mX (C .b)):=(wk Cl I).mono (by omega)
 have Ge:cu P w K mg base cC (n + 3) (fi .e) (fdi .e) ["self","one","other"] (mX (C .e)):=(zQ Cl I).mono (by omega)
 refine D.F.ok1 mv (fun vs H Q E h=>?_) (fun cdv A outer s H vs Q E hr h=>?_)
 ·obtain⟨x,k,dd,rfl,_⟩:=h
  rfl
 ·obtain⟨x,k,dd,rfl,rfl,hp,hf,k1,k2⟩:=h
  refine⟨_,cD (dC (cZ dQ (pv 1) cj (cX _)) (cz (jn rfl X.q F.excBase_ValueError dkq F.excBase_ValueError rfl X.m (cf dw cg) iV)) dz)
   (cD (dB (i:=2) mv.nd rfl (Or.inl rfl) (cT ao hr rfl DN.m DN.F.kp bN .nil (je (E':=E) (fun _ _ _ h=>h)) (cf (pv 0) cg)))
   (cD (dC (cZ dQ (pv 2) dw (cX _)) (cz (cI (jI (I.M .w) Gw hr rfl NM.w (I.bi .w) .nil cH (cf (cT ah hr rfl DA.m DA.F.kp bA .nil (je (E':=E) (fun _ _ _ h=>h)) (cf (cQ dn (pv 0) cj (fun _ _=>rfl)) cg)) cg)))) dz)
   (cD (dC (cZ dQ (pv 2) dw (cX _)) (cz (cI (jI (I.M .s) Gs hr rfl NM.s (I.bi .s) .nil cH (cf (cT ah hr rfl DA.m DA.F.kp bA .nil (je (E':=E) (fun _ _ _ h=>h)) (cf (cQ dn (pv 0) cj (fun _ _=>rfl)) cg)) cg)))) dz)
   (cD (dC (cZ dQ (pv 2) dw (cX _)) (cz (cI (cT aq hr rfl DR.m DR.F.kp bR .nil (je (E':=E) (fun _ _ _ h=>h)) (cf (cQ dn (pv 0) cj (fun _ _=>rfl)) cg)))) dz)
   (cD (dB (i:=3) mv.nd rfl (Or.inl rfl) (cT GW hr rfl D.m D.F.kp bW .nil (je (E':=E) (fun _ _ _ h=>h)) (cf (cQ dn (pv 0) cj (fun _ _=>rfl)) (cf (cy iy (pv 1) cj) cg))))
   (cD (dC (cZ dQ (pv 2) dw (cX _)) (cz (cI (jI (I.M .o) Go hr rfl NM.o (I.bi .o) .nil cH (cf (pv 3) cg)))) dz)
   (cD (dB (i:=4) mv.nd rfl (Or.inl rfl) (cT GW hr rfl D.m D.F.kp bW .nil (je (E':=E) (fun _ _ _ h=>h)) (cf (cQ dn (pv 0) cj (fun _ _=>rfl)) (cf (cy iy (pv 1) cj) cg))))
   (cD (dC (cZ dQ (pv 2) dw (cX _)) (cz (cI (cT ar hr rfl DE.m DE.F.kp bE .nil (je (E':=E) (fun _ _ _ h=>h)) (cf (pv 3) (cf (pv 4) (cf (cQ dn (pv 0) cj (fun _ _=>rfl)) cg)))))) dz)
   (cz (cI (qj (cZ dQ (pv 2) dw (cX _)) (jI (I.M .b) Gb hr rfl NM.b (I.bi .b) .nil cH (cf (pv 3) (cf (pv 4) cg))) (jI (I.M .e) Ge hr rfl NM.e (I.bi .e) .nil cH (cf (pv 3) (cf (pv 4) cg)))))))))))))),?_⟩
  refine⟨_,rfl,rfl,_,rfl,?_⟩
  cases n with
  | zero=>exact cJ ⟨dH,k2 rfl H (ck.refl H)⟩
  | succ n=>
   have af:decide (V.int ((n + 1:Nat):Int)=V.int 0)=false:=decide_eq_false (fun z=>by have:=V.int.inj z;omega)
   rw [af]
   refine cY ⟨_,rfl,x,dd,rfl,hp,fun z hz=>?_,fun e=>k2 (sG e) H (ck.refl H)⟩
   obtain⟨ds,rfl,hc⟩:=tu hz
   rcases hc with ⟨rfl,hd⟩ | ⟨rfl,hd⟩ | ⟨rfl,hd⟩ | ⟨rfl,hd⟩ | ⟨rfl,hd⟩ | ⟨rfl,hd⟩ | ⟨rfl,hd⟩
   ·match ds,hd with
    | [d1],_=>
     obtain⟨p,x0,U,rfl,ha,_,h1⟩:=hp.t2
     have hw:=pO h1
     have J:cU (n + 1) (.tuple [.str "word",d1])=(wd d1).map .word:=oO hz
     refine⟨_,rfl,rfl,_,rfl,gm rfl ⟨_,rfl,p,_,1,U,rfl,rfl,cq.of ha,cA (j:=1) rfl,U,rfl,h1.known,h1.fit hf.2.1,fun e H2 s2=>?_,fun e H2 s2=>k2 (by rw [J,hw.2 e];rfl) H2 s2⟩⟩
     obtain⟨zz,rfl,e2⟩:=hw.1 e
     intro b dx hb aa af
     exact⟨b,dx,_,rfl,cx,rfl,k1 (.word zz) (by rw [J,e2];rfl) b _ (s2.trans (ko hb aa)) ⟨dx,cx⟩⟩
   ·match ds,hd with
    | [d1],_=>
     obtain⟨p,x0,U,rfl,ha,_,h1⟩:=hp.t2
     have hw:=pO h1
     have J:cU (n + 1) (.tuple [.str "start",d1])=(wd d1).map .start:=pI hz
     refine⟨_,rfl,rfl,_,rfl,c8 dkq ⟨_,rfl,rfl,_,rfl,gm rfl ⟨_,rfl,p,_,1,U,rfl,rfl,cq.of ha,cA (j:=1) rfl,U,rfl,h1.known,h1.fit hf.2.1,fun e H2 s2=>?_,fun e H2 s2=>k2 (by rw [J,hw.2 e];rfl) H2 s2⟩⟩⟩
     obtain⟨zz,rfl,e2⟩:=hw.1 e
     intro b dx hb aa af
     exact⟨b,dx,_,rfl,cx,rfl,k1 (.start zz) (by rw [J,e2];rfl) b _ (s2.trans (ko hb aa)) ⟨dx,cx⟩⟩
   ·match ds,hd with
    | [d1],_=>
     obtain⟨p,x0,U,rfl,ha,_,h1⟩:=hp.t2
     have J:cU (n + 1) (.tuple [.str "row",d1])=(rowOf d1).map .row:=p9 hz
     exact⟨_,rfl,rfl,_,rfl,c8 dkq ⟨_,rfl,rfl,_,rfl,c8 dkq ⟨_,rfl,rfl,_,rfl,gm rfl ⟨_,rfl,p,_,1,U,rfl,rfl,cq.of ha,cA (j:=1) rfl,U,d1,rfl,h1,hf.2.1,
      fun zs e a H2 s2 hA=>k1 (.row zs) (by rw [J,e];rfl) a H2 s2 hA,fun e H2 s2=>k2 (by rw [J,e];rfl) H2 s2⟩⟩⟩⟩
   ·match ds,hd with
    | [d1,d2,d3],_=>
     obtain⟨p,x0,U,x2,x3,rfl,ha,_,h1,h2,h3⟩:=hp.t4
     have J:=qr (n:=n) hz
     refine⟨_,rfl,rfl,_,rfl,c8 dkq ⟨_,rfl,rfl,_,rfl,c8 dkq ⟨_,rfl,rfl,_,rfl,c8 dkq ⟨_,rfl,p,_,1,U,rfl,rfl,cq.of ha,cA (j:=1) rfl,_,rfl,_,_,rfl,rfl,
      U,_,d1,rfl,by omega,h1,hf.2.1,fun t1 e1 a1 H1 s1 ae=>?_,fun e1 H1 s1=>k2 (by rw [J];exact pZ e1) H1 s1⟩⟩⟩⟩
     refine⟨_,rfl,rfl,_,rfl,c8 dkq ⟨_,rfl,p,_,2,x2,rfl,rfl,cq.of (s1 _ _ ha),cA (j:=2) rfl,_,rfl,_,_,rfl,rfl,
      x2,_,d2,rfl,by omega,h2.same s1,hf.2.2.1,fun t2 e2 a2 H2 s2 ag=>?_,fun e2 H2 s2=>k2 (by rw [J];exact qF e1 e2) H2 (s1.trans s2)⟩⟩
     have ak:=J.trans (pY e1 e2)
     exact⟨_,rfl,rfl,_,rfl,gm rfl ⟨_,rfl,_,rfl,_,rfl,p,_,3,x3,rfl,rfl,cq.of (s2 _ _ (s1 _ _ ha)),cA (j:=3) rfl,a1,a2,x3,t1,t2,d3,rfl,ae.same s2,ag,(h3.same s1).same s2,
      fun m e a H3 s3 hA=>k1 (.near t1 t2 m) (by rw [ak];show(gQ t1 t2 d3).map _=_;rw [e];rfl) a H3 ((s1.trans s2).trans s3) hA,fun e H3 s3=>k2 (by rw [ak];show(gQ t1 t2 d3).map _=_;rw [e];rfl) H3 ((s1.trans s2).trans s3)⟩⟩
   ·match ds,hd with
    | [d1,d2],_=>
     obtain⟨p,x0,U,x2,rfl,ha,_,h1,h2⟩:=hp.t3
     have J:=pD (n:=n) hz
     refine⟨_,rfl,rfl,_,rfl,c8 dkq ⟨_,rfl,rfl,_,rfl,c8 dkq ⟨_,rfl,rfl,_,rfl,c8 dkq ⟨_,rfl,p,_,1,U,rfl,rfl,cq.of ha,cA (j:=1) rfl,_,rfl,_,_,rfl,rfl,
      U,_,d1,rfl,by omega,h1,hf.2.1,fun t1 e1 a1 H1 s1 ae=>?_,fun e1 H1 s1=>k2 (by rw [J];exact pZ e1) H1 s1⟩⟩⟩⟩
     refine⟨_,rfl,rfl,_,rfl,c8 dkq ⟨_,rfl,p,_,2,x2,rfl,rfl,cq.of (s1 _ _ ha),cA (j:=2) rfl,_,rfl,_,_,rfl,rfl,
      x2,_,d2,rfl,by omega,h2.same s1,hf.2.2.1,fun t2 e2 a2 H2 s2 ag=>?_,fun e2 H2 s2=>k2 (by rw [J];exact qF e1 e2) H2 (s1.trans s2)⟩⟩
     refine⟨_,rfl,rfl,_,rfl,c8 dkq ⟨_,rfl,rfl,_,rfl,gm rfl ⟨_,rfl,_,rfl,fun b dx hb aa af=>⟨b,dx,a1,a2,rfl,cx,rfl,?_⟩⟩⟩⟩
     have s3:=ko (o:= .own b) (o':= .ins (C .b) dx []) (o'':= .ins (C .b) dx (f2 a1 a2)) hb aa
     exact k1 (.both t1 t2) (J.trans (pY e1 e2)) b _ ((s1.trans s2).trans s3) ⟨dx,a1,a2,cx,ae.same (s2.trans s3),ag.same s3⟩
   ·match ds,hd with
    | [d1,d2],_=>
     obtain⟨p,x0,U,x2,rfl,ha,_,h1,h2⟩:=hp.t3
     have J:=pE (n:=n) hz
     refine⟨_,rfl,rfl,_,rfl,c8 dkq ⟨_,rfl,rfl,_,rfl,c8 dkq ⟨_,rfl,rfl,_,rfl,c8 dkq ⟨_,rfl,p,_,1,U,rfl,rfl,cq.of ha,cA (j:=1) rfl,_,rfl,_,_,rfl,rfl,
      U,_,d1,rfl,by omega,h1,hf.2.1,fun t1 e1 a1 H1 s1 ae=>?_,fun e1 H1 s1=>k2 (by rw [J];exact pZ e1) H1 s1⟩⟩⟩⟩
     refine⟨_,rfl,rfl,_,rfl,c8 dkq ⟨_,rfl,p,_,2,x2,rfl,rfl,cq.of (s1 _ _ ha),cA (j:=2) rfl,_,rfl,_,_,rfl,rfl,
      x2,_,d2,rfl,by omega,h2.same s1,hf.2.2.1,fun t2 e2 a2 H2 s2 ag=>?_,fun e2 H2 s2=>k2 (by rw [J];exact qF e1 e2) H2 (s1.trans s2)⟩⟩
     refine⟨_,rfl,rfl,_,rfl,c8 dkq ⟨_,rfl,rfl,_,rfl,c8 dkq ⟨_,rfl,_,rfl,fun b dx hb aa af=>⟨b,dx,a1,a2,rfl,cx,rfl,?_⟩⟩⟩⟩
     have s3:=ko (o:= .own b) (o':= .ins (C .e) dx []) (o'':= .ins (C .e) dx (f2 a1 a2)) hb aa
     exact k1 (.either t1 t2) (J.trans (pY e1 e2)) b _ ((s1.trans s2).trans s3) ⟨dx,a1,a2,cx,ae.same (s2.trans s3),ag.same s3⟩
   ·match ds,hd with
    | [d1],_=>
     obtain⟨p,x0,U,rfl,ha,_,h1⟩:=hp.t2
     have J:cU (n + 1) (.tuple [.str "not",d1])=(cU n d1).map .no:=pR hz
     refine⟨_,rfl,rfl,_,rfl,c8 dkq ⟨_,rfl,rfl,_,rfl,c8 dkq ⟨_,rfl,rfl,_,rfl,c8 dkq ⟨_,rfl,p,_,1,U,rfl,rfl,cq.of ha,cA (j:=1) rfl,_,rfl,_,_,rfl,rfl,
      U,_,d1,rfl,by omega,h1,hf.2.1,fun t1 e1 a1 H1 s1 ae=>?_,fun e1 H1 s1=>k2 (by rw [J,e1];rfl) H1 s1⟩⟩⟩⟩
     refine⟨_,rfl,rfl,_,rfl,gm rfl ⟨_,rfl,fun b dx hb aa af=>⟨b,dx,.ref a1,rfl,cx,rfl,?_⟩⟩⟩
     have s3:=ko (o:= .own b) (o':= .ins (C .o) dx []) (o'':= .ins (C .o) dx (f1 a1)) hb aa
     exact k1 (.no t1) (by rw [J,e1];rfl) b _ (s1.trans s3) ⟨dx,a1,cx,ae.same s3⟩
end
theorem At.kids_dep:∀{t k:At},k∈t.kids->k.dep + 1<=t.dep
 | .near a b _,k,h=>by
  show k.dep + 1<=max a.dep b.dep + 1
  have h':k=a\/k=b:=by simpa [At.kids] using h
  rcases h' with rfl | rfl<;>omega
 | .both a b,k,h=>by
  show k.dep + 1<=max a.dep b.dep + 1
  have h':k=a\/k=b:=by simpa [At.kids] using h
  rcases h' with rfl | rfl<;>omega
 | .either a b,k,h=>by
  show k.dep + 1<=max a.dep b.dep + 1
  have h':k=a\/k=b:=by simpa [At.kids] using h
  rcases h' with rfl | rfl<;>omega
 | .no a,k,h=>by
  show k.dep + 1<=a.dep + 1
  have h':k=a:=by simpa [At.kids] using h
  rw [h']
  omega
 | .word _,k,h=>by simp [At.kids] at h
 | .start _,k,h=>by simp [At.kids] at h
 | .row _,k,h=>by simp [At.kids] at h
theorem At.many_kids:∀ t:At,t.many=1 + (t.kids.map At.many).sum
 | .near a b _=>by show 1 + (a.many + b.many)=1 + (a.many + (b.many + 0));omega
 | .both a b=>by show 1 + (a.many + b.many)=1 + (a.many + (b.many + 0));omega
 | .either a b=>by show 1 + (a.many + b.many)=1 + (a.many + (b.many + 0));omega
 | .no a=>by show 1 + a.many=1 + (a.many + 0);omega
 | .word _=>rfl
 | .start _=>rfl
 | .row _=>rfl
theorem tM{x:Nat}:∀{l:List Nat},x∈l->x<=l.sum
 | y::l,h=>by
  rw [List.sum_cons]
  rcases List.mem_cons.mp h with rfl | h
  ·omega
  ·have:=tM h
   omega
theorem At.kids_many {t k:At}(h:k∈t.kids):k.many<=t.many:=by
 have:=tM (List.mem_map.mpr ⟨k,h,rfl⟩:k.many∈t.kids.map At.many)
 rw [At.many_kids t]
 omega
theorem At.kids_len (t:At):t.kids.length<=2:=by cases t<;>simp [At.kids]
theorem oJ{a b x y:Nat}(h1:x + 1<=2 ^ (a + 1))(h2:y + 1<=2 ^ (b + 1)):1 + (x + y) + 1<=2 ^ (max a b + 1 + 1):=by
 rw [Nat.pow_succ]
 have J:2 ^ (a + 1)<=2 ^ (max a b + 1):=Nat.pow_le_pow_right (by decide) (by omega)
 have U:2 ^ (b + 1)<=2 ^ (max a b + 1):=Nat.pow_le_pow_right (by decide) (by omega)
 omega
theorem At.many_pow:∀ t:At,t.many + 1<=2 ^ (t.dep + 1)
 | .near a b _=>oJ (At.many_pow a) (At.many_pow b)
 | .both a b=>oJ (At.many_pow a) (At.many_pow b)
 | .either a b=>oJ (At.many_pow a) (At.many_pow b)
 | .no a=>by
  have:=At.many_pow a
  show 1 + a.many + 1<=2 ^ (a.dep + 1 + 1)
  rw [Nat.pow_succ]
  have h1:=Nat.one_le_two_pow (n:=a.dep + 1)
  omega
 | .word _=>Nat.le_refl _
 | .start _=>Nat.le_refl _
 | .row _=>Nat.le_refl _
theorem oS{n:Nat}{d:PyData}{k:At->At->Option At}{t:At}(h:two n d k=some t):∃ a b,cU n (arg d 1)=some a/\cU n (arg d 2)=some b/\k a b=some t:=by
 unfold two at h
 cases ha:cU n (arg d 1) with
 | none=>rw [ha] at h;cases h
 | some a=>
  rw [ha] at h
  have h':(cU n (arg d 2)).bind (fun b=>k a b)=some t:=h
  cases hb:cU n (arg d 2) with
  | none=>rw [hb] at h';cases h'
  | some b=>
   rw [hb] at h'
   exact⟨a,b,rfl,rfl,h'⟩
theorem jd:∀{n:Nat} {d:PyData} {t:At},cU n d=some t->t.dep + 1<=n
 | 0,_,_,h=>by cases h
 | n + 1,d,t,h=>by
  cases hz:fQ d with
  | none=>rw [sG hz] at h;cases h
  | some z=>
   obtain⟨ds,_,hc⟩:=tu hz
   rcases hc with ⟨rfl,_⟩ | ⟨rfl,_⟩ | ⟨rfl,_⟩ | ⟨rfl,_⟩ | ⟨rfl,_⟩ | ⟨rfl,_⟩ | ⟨rfl,_⟩
   ·rw [oO hz] at h
    obtain⟨y,_,rfl⟩:=Option.map_eq_some_iff.mp h
    exact Nat.succ_le_succ (Nat.zero_le _)
   ·rw [pI hz] at h
    obtain⟨y,_,rfl⟩:=Option.map_eq_some_iff.mp h
    exact Nat.succ_le_succ (Nat.zero_le _)
   ·rw [p9 hz] at h
    obtain⟨y,_,rfl⟩:=Option.map_eq_some_iff.mp h
    exact Nat.succ_le_succ (Nat.zero_le _)
   ·rw [qr hz] at h
    obtain⟨a,b,h1,h2,J⟩:=oS h
    obtain⟨y,_,rfl⟩:=Option.map_eq_some_iff.mp J
    have U:=jd h1
    have d2:=jd h2
    show max a.dep b.dep + 1 + 1<=n + 1
    omega
   ·rw [pD hz] at h
    obtain⟨a,b,h1,h2,J⟩:=oS h
    cases J
    have U:=jd h1
    have d2:=jd h2
    show max a.dep b.dep + 1 + 1<=n + 1
    omega
   ·rw [pE hz] at h
    obtain⟨a,b,h1,h2,J⟩:=oS h
    cases J
    have U:=jd h1
    have d2:=jd h2
    show max a.dep b.dep + 1 + 1<=n + 1
    omega
   ·rw [pR hz] at h
    obtain⟨a,h1,rfl⟩:=Option.map_eq_some_iff.mp h
    have U:=jd h1
    show a.dep + 1 + 1<=n + 1
    omega
noncomputable def ofD(d:PyData):Option At:=(cU 8 d).bind fun t=>if t.many<=40 then some t else none
section
variable {P : Program} {w : World} {K : PySem.W.Frag} {mg : Str -> Option Value} {base : Heap} {C fi fk : Kn -> Addr} {fdi fdk : Kn -> FuncData} {CB : Addr}
theorem yz:bootBuiltins "sum"=some (.builtin "sum"):=dkq
noncomputable def nU(C:Kn->Addr)(n:Nat):Sp:=fun vs H Q _=>∃(a:Addr) (t:At),vs=[.ref a]/\dI C H a t/\t.dep<=n/\t.many<=100000/\∀ H',ck H H'->Q (.int ((t.many:Nat):Int)) H'
noncomputable def AH(C:Kn->Addr):Nat->Sp
 | 0=>fun _ _ _ _=>False
 | n + 1=>nU C n
theorem wa:dD ["ask"] ["ask"] (cv jZ):=⟨rfl,rfl,rfl,dkq,rfl,dkq,dkq⟩
theorem yo:(["kid"]:List Str).Nodup:=dkq
theorem jw{α β:Type}{F:α->β->Prop}:∀{l:List α} {m:List β},Paired F l m->∀{i:Nat} {a:α},l[i]? =some a->∃ b,m[i]? =some b/\F a b
 | _,_,.cons r t,0,a,e=>by
  simp at e
  exact⟨_,rfl,e ▸ r⟩
 | _,_,.cons r t,i + 1,a,e=>by
  obtain⟨b,J,U⟩:=jw t (i:=i) (by simpa using e)
  exact⟨b,by simpa using J,U⟩
 | _,_,.nil,0,a,e=>by simp at e
 | _,_,.nil,i + 1,a,e=>by simp at e
seal cV PS PE PT PA PG PI dj de in
theorem rH{f:Addr}{fd:FuncData}(D:Df K mg "many_in" jZ f fd)(T:Txt mg)(Cl:Cs K C)(M:Mt K C "kids" km jV fk fdk)(n:Nat)(GM:cu P w K mg base cC (n + 1) f fd ["ask"] (AH C n)):cu P w K mg base cC (n + 2) f fd ["ask"] (nU C n):=by
 have bM:=f9 (p:="ask") D.F fun _ _ _ _ _ _ _=>rfl
 have GK:∀ i,cu P w K mg base cC (n + 1) (fk i) (fdk i) ["self"] (pC C i):=fun i=>(rS Cl M i).mono (by omega)
 have hz:(sizeLine:Nat)=16777216:=sizeLine_eq
 refine D.F.ok wa (fun vs H Q E h=>?_) (fun cdv A outer s H vs Q E hr h=>?_)
 ·obtain⟨a,t,rfl,_⟩:=h
  rfl
 ·obtain⟨a,t,rfl,hA,hd,hm,k⟩:=h
  refine⟨_,cz (cI (cy eA cj (dF (wg rfl) rfl T.sum yz (cf (gP (own:=1) (caps:=[]) (N:=["kid"]) (N0:=["ask"]) (sc0:=cv jZ) rfl
    (jh (rJ (pv 0) Cl.cl M.M GK hr (sh M) cH)) (fun _ _ _=>dU (i:=0) yo rfl (Or.inl rfl)) (fun _ _ _=>iU)
    (fun _ _ _=>cT GM hr rfl D.m D.F.kp bM .nil cH (cf (pv 0) cg)) (fW (by decide)) rfl rfl
    dkq rfl dkq dkq rfl dkq) cg)))),?_⟩
  obtain⟨dp,fp,ep,lp⟩:=hA.ob
  refine⟨_,rfl,t.kn,a,dp,fp,rfl,ep,lp _ rg,a,t,rfl,hA,rfl,fun l xs hl hK=>?_⟩
  have kl:=t.kids_len
  have xl:=Gn.Paired.len hK
  refine⟨l,rfl,⟨_,cm.of cx⟩,oI (xs:=xs) (fun i ys H'=>ck H H'/\H' l=some (.lst xs)/\ys=(t.kids.take i).map fun k=>V.int ((k.many:Nat):Int)) (by omega) (fun i ys H' ⟨_,e,_⟩=>cm.of e) ⟨cG hl,cx,rfl⟩ ?_ ?_⟩
  ·rintro i y ys H' N hy ⟨sm,el,rfl⟩ hN
   obtain⟨kd,J,p,rfl,hp⟩:=jw hK hy
   have U:=List.mem_of_getElem? J
   have d1:=At.kids_dep U
   have m1:=At.kids_many U
   refine g1 ?_
   match n,GM,hd with
   | 0,_,hd=>omega
   | n + 1,_,hd=>
    refine⟨_,rfl,p,kd,rfl,hp.same sm,by omega,by omega,fun H2 s2=>hN _ _ ⟨sm.trans s2,s2 _ _ el,?_⟩⟩
    rw [List.take_add_one,J,List.map_append]
    rfl
  ·rintro ys H' ⟨sm,el,rfl⟩ _ p hp
   have mk:=t.many_kids
   have e1:(t.kids.take xs.length).map (fun k=>V.int ((k.many:Nat):Int))=(t.kids.map At.many).map fun(n:Nat)=>V.int (n:Int):=by
    rw [xl,List.take_length,List.map_map]
    rfl
   refine⟨p,t.kids.map At.many,rfl,cm.of (by rw [cx,e1]),by omega,_,_,rfl,rfl,?_⟩
   have:=k _ (sm.upf (o:= .lst ((t.kids.take xs.length).map fun k=>V.int ((k.many:Nat):Int))) hp)
   rw [mk] at this
   exact this
theorem rZ{f:Addr}{fd:FuncData}(D:Df K mg "many_in" jZ f fd)(T:Txt mg)(Cl:Cs K C)(M:Mt K C "kids" km jV fk fdk):∀ n:Nat,cu P w K mg base cC (n + 2) f fd ["ask"] (nU C n)
 | 0=>rH D T Cl M 0 lP
 | n + 1=>rH D T Cl M (n + 1) (rZ D T Cl M n)
noncomputable def tE(C:Kn->Addr)(CB:Addr):Sp:=fun vs H Q E=>∃(x:V) (dd:PyData),vs=[x]/\cM true H x dd/\jT dd/\
 (∀ t,ofD dd=some t->∀ a H',ck H H'->dI C H' a t->Q (.ref a) H')/\(ofD dd=none->∀ H',ck H H'->E (.ref CB) none H')
theorem sN:dD ["told","ask"] ["told"] (cv lj):=⟨rfl,rfl,rfl,dkq,rfl,dkq,dkq⟩
seal cV PS PE PT PA PG PI dj de in
theorem A4{f fw fm:Addr}{fd fdw fdm:FuncData}(D:Df K mg "ask_of" lj f fd)(DW:Df K mg "ask_within" lg fw fdw)(DM:Df K mg "many_in" jZ fm fdm)(T:Txt mg)(X:Ex K mg "BadAsk" CB)
  (GW:cu P w K mg base (dg P w) 13 fw fdw ["told","deep"] (ny C CB 8))(GM:cu P w K mg base cC 9 fm fdm ["ask"] (nU C 7)):cu P w K mg base (dg P w) 14 f fd ["told"] (tE C CB):=by
 obtain⟨t1,c1⟩:=T.cDeep
 obtain⟨t2,c2⟩:=T.cAll
 have bW:=DW.F.binds (ps:=["told","deep"]) fun _ _ _ _ _ _ us hl=>eT (fun _ _=>rfl) us hl
 have bM:=f9 (p:="ask") DM.F fun _ _ _ _ _ _ _=>rfl
 have J:=GM.mono (show 9<=13 by decide)
 refine D.F.ok1 sN (fun vs H Q E h=>?_) (fun cdv A outer s H vs Q E U h=>?_)
 ·obtain⟨x,dd,rfl,_⟩:=h
  rfl
 ·obtain⟨x,dd,rfl,hp,hf,k1,k2⟩:=h
  refine⟨_,cD (dB (i:=1) sN.nd rfl (Or.inl rfl) (cT GW U rfl DW.m DW.F.kp bW .nil (je (E':=E) (fun _ _ _ h=>h)) (cf (pv 0) (cf (iF (v:= .int 8) rfl c1 ⟨_,rfl⟩) cg))))
   (cD (dC (cZ iN (cT J U rfl DM.m DM.F.kp bM .nil cH (cf (pv 1) cg)) (iF (v:= .int 40) rfl c2 ⟨_,rfl⟩) (cX _)) (cz (jn rfl X.q F.excBase_ValueError dkq F.excBase_ValueError rfl X.m (cf dw cg) iV)) dz)
   (cz (cI (pv 1)))),?_⟩
  refine⟨_,rfl,x,8,dd,rfl,rfl,hp,hf,fun t ht a H1 s1 hA=>?_,fun e H1 s1=>k2 (by unfold ofD;rw [e];rfl) H1 s1⟩
  have dp:=jd ht
  have mp:=t.many_pow
  have aa:(2:Nat) ^ (t.dep + 1)<=2 ^ 8:=Nat.pow_le_pow_right (by decide) (by omega)
  have m8:(2:Nat) ^ 8=256:=rfl
  have ov:ofD dd=if t.many<=40 then some t else none:=by unfold ofD;rw [ht];rfl
  refine⟨_,rfl,a,t,rfl,hA,by omega,by omega,fun H2 s2=>⟨_,_,rfl,rfl,_,rfl,?_⟩⟩
  by_cases hm:(40:Int) < ((t.many:Nat):Int)
  ·rw [decide_eq_true hm]
   exact cJ ⟨dH,k2 (by rw [ov,if_neg (by omega)]) H2 (s1.trans s2)⟩
  ·rw [decide_eq_false hm]
   exact cY ⟨_,rfl,k1 t (by rw [ov,if_pos (by omega)]) a H2 (s1.trans s2) (hA.same s2)⟩
end
noncomputable abbrev Wd(z:Str):Prop:=gU 2000 (.str z)=true
noncomputable def Gd:At->Prop
 | .word z=>Wd z
 | .start z=>Wd z
 | .row zs=>2<=zs.length/\zs.length<=8/\∀ z∈zs,Wd z
 | .near a b n=>(eN a.kn=true/\eN b.kn=true)/\(0<=n/\n<=20)/\Gd a/\Gd b
 | .both a b=>Gd a/\Gd b
 | .either a b=>Gd a/\Gd b
 | .no a=>Gd a
theorem At.lf_dep {t:At}(h:eN t.kn=true):t.dep=0:=by cases t<;>first | rfl | cases h
noncomputable def At.nm:At->Str
 | .word _=>"word" | .start _=>"start" | .row _=>"row" | .near _ _ _=>"near" | .both _ _=>"both" | .either _ _=>"either" | .no _=>"not"
theorem Bd:df eS (.inr "word")=some (.int 2):=dkq
theorem zc:df eS (.inr "start")=some (.int 2):=dkq
theorem xQ:df eS (.inr "row")=some (.int 2):=dkq
theorem Av:df eS (.inr "near")=some (.int 4):=dkq
theorem zY:df eS (.inr "both")=some (.int 3):=dkq
theorem zx:df eS (.inr "either")=some (.int 3):=dkq
theorem zI:df eS (.inr "not")=some (.int 2):=dkq
theorem jP{z:Str}{ds:List PyData}(h:df eS (.inr z)=some (.int ((ds.length + 1:Nat):Int))):fQ (.tuple (.str z::ds))=some z:=by
 show(if df eS (.inr z)=some (.int ((ds.length + 1:Nat):Int)) then some z else none)=_
 rw [if_pos h]
theorem j5:∀ t:At,fQ t.told=some t.nm
 | .word z=>jP Bd
 | .start z=>jP zc
 | .row zs=>jP xQ
 | .near a b n=>jP Av
 | .both a b=>jP zY
 | .either a b=>jP zx
 | .no a=>jP zI
theorem ow{z:Str}(h:Wd z):wd (.str z)=some z:=if_pos h
theorem uN:∀{zs:List Str},(∀ z∈zs,Wd z)->fM (zs.map .str)=some zs
 | [],_=>rfl
 | z::zs,h=>by
  show(match wd (.str z) with | none=>none | some z=>(fM (zs.map .str)).map (z:: ·))=_
  rw [ow (h z (by simp)),uN fun y J=>h y (by simp [J])]
  rfl
theorem jf:∀(n:Nat) (t:At),Gd t->cU n t.told=if t.dep < n then some t else none
 | 0,t,_=>by rw [if_neg (by omega)];rfl
 | n + 1,.word z,h=>by
  rw [oO (j5 (.word z)),if_pos (show(At.word z).dep < n + 1 from Nat.succ_pos n)]
  show(wd (.str z)).map _=_
  rw [ow h]
  rfl
 | n + 1,.start z,h=>by
  rw [pI (j5 (.start z)),if_pos (show(At.start z).dep < n + 1 from Nat.succ_pos n)]
  show(wd (.str z)).map _=_
  rw [ow h]
  rfl
 | n + 1,.row zs,h=>by
  rw [p9 (j5 (.row zs)),if_pos (show(At.row zs).dep < n + 1 from Nat.succ_pos n)]
  show(if 2<=(zs.map PyData.str).length/\(zs.map PyData.str).length<=8 then fM (zs.map .str) else none).map _=_
  rw [List.length_map,if_pos ⟨h.1,h.2.1⟩,uN h.2.2]
  rfl
 | n + 1,.no a,h=>by
  rw [pR (j5 (.no a))]
  show(cU n a.told).map _=_
  rw [jf n a h]
  by_cases q:a.dep < n
  ·rw [if_pos q,if_pos (show(At.no a).dep < n + 1 by show a.dep + 1 < n + 1;omega)]
   rfl
  ·rw [if_neg q,if_neg (show ¬ (At.no a).dep < n + 1 by show ¬ a.dep + 1 < n + 1;omega)]
   rfl
 | n + 1,.both a b,h=>by
  rw [pD (j5 (.both a b))]
  show((cU n a.told).bind fun a=>(cU n b.told).bind fun b=>some (At.both a b))=_
  rw [jf n a h.1,jf n b h.2]
  by_cases q:a.dep < n
  ·by_cases q2:b.dep < n
   ·rw [if_pos q,if_pos q2,if_pos (show(At.both a b).dep < n + 1 by show max a.dep b.dep + 1 < n + 1;omega)]
    rfl
   ·rw [if_pos q,if_neg q2,if_neg (show ¬ (At.both a b).dep < n + 1 by show ¬ max a.dep b.dep + 1 < n + 1;omega)]
    rfl
  ·rw [if_neg q,if_neg (show ¬ (At.both a b).dep < n + 1 by show ¬ max a.dep b.dep + 1 < n + 1;omega)]
   rfl
 | n + 1,.either a b,h=>by
  rw [pE (j5 (.either a b))]
  show((cU n a.told).bind fun a=>(cU n b.told).bind fun b=>some (At.either a b))=_
  rw [jf n a h.1,jf n b h.2]
  by_cases q:a.dep < n
  ·by_cases q2:b.dep < n
   ·rw [if_pos q,if_pos q2,if_pos (show(At.either a b).dep < n + 1 by show max a.dep b.dep + 1 < n + 1;omega)]
    rfl
   ·rw [if_pos q,if_neg q2,if_neg (show ¬ (At.either a b).dep < n + 1 by show ¬ max a.dep b.dep + 1 < n + 1;omega)]
    rfl
  ·rw [if_neg q,if_neg (show ¬ (At.either a b).dep < n + 1 by show ¬ max a.dep b.dep + 1 < n + 1;omega)]
   rfl
 | n + 1,.near a b m,h=>by
  obtain⟨⟨l1,l2⟩,hm,g1,g2⟩:=h
  rw [qr (j5 (.near a b m))]
  show((cU n a.told).bind fun a=>(cU n b.told).bind fun b=>(gQ a b (.int m)).map (At.near a b))=_
  rw [jf n a g1,jf n b g2]
  have J:=At.lf_dep l1
  have U:=At.lf_dep l2
  by_cases q:0 < n
  ·rw [if_pos (by omega),if_pos (by omega),if_pos (show(At.near a b m).dep < n + 1 by show max a.dep b.dep + 1 < n + 1;omega)]
   show(gQ a b (.int m)).map _=_
   have e:gQ a b (.int m)=some m:=by
    unfold gQ
    rw [l1,l2,if_pos (show(true && true)=true from rfl)]
    show(if 0<=m/\m<=20 then some m else none)=_
    rw [if_pos hm]
   rw [e]
   rfl
  ·rw [if_neg (by omega),if_neg (show ¬ (At.near a b m).dep < n + 1 by show ¬ max a.dep b.dep + 1 < n + 1;omega)]
   rfl
theorem Cf{t:At}(h:Gd t):ofD t.told=if t.dep<=7/\t.many<=40 then some t else none:=by
 unfold ofD
 rw [jf 8 t h]
 by_cases q:t.dep < 8
 ·rw [if_pos q]
  show(if t.many<=40 then some t else none)=_
  by_cases q2:t.many<=40
  ·rw [if_pos q2,if_pos ⟨by omega,q2⟩]
  ·rw [if_neg q2,if_neg (fun z=>q2 z.2)]
 ·rw [if_neg q,if_neg (fun z=>q (by omega))]
  rfl
theorem lV{z:Str}(h:Wd z):z.length<=5000:=by
 have h':(decide (1<=z.length) && decide (z.length<=2000) && z.cps.toList.all fA)=true:=h
 simp at h'
 omega
theorem ui:∀{zs:List Str},(∀ z∈zs,Wd z)->lY (zs.map .str)
 | [],_=>trivial
 | z::zs,h=>⟨lV (h z (by simp)),ui fun y J=>h y (by simp [J])⟩
theorem ja:∀{t:At},Gd t->jT t.told
 | .word z,h=>⟨by show(4:Nat)<=5000;decide,lV h,trivial⟩
 | .start z,h=>⟨by show(5:Nat)<=5000;decide,lV h,trivial⟩
 | .row zs,h=>⟨by show(3:Nat)<=5000;decide,ui h.2.2,trivial⟩
 | .near a b n,h=>⟨by show(4:Nat)<=5000;decide,ja h.2.2.1,ja h.2.2.2,trivial,trivial⟩
 | .both a b,h=>⟨by show(4:Nat)<=5000;decide,ja h.1,ja h.2,trivial⟩
 | .either a b,h=>⟨by show(6:Nat)<=5000;decide,ja h.1,ja h.2,trivial⟩
 | .no a,h=>⟨by show(3:Nat)<=5000;decide,ja h,trivial⟩
theorem mP{z:Str}(h:Wm z):Wd z:=by
 show(decide (1<=z.length) && decide (z.length<=2000) && z.cps.toList.all fA)=true
 rw [decide_eq_true h.2.2,decide_eq_true (by have:=h.1;omega),h.2.1]
 rfl
theorem vY{z:Str}{k:Int}(h:Wm z)(h1:1<=k)(h2:k<=z.length):Wm (Txt.slice z none (some k)):=by
 have J:(z.cps.toList.length:Int)=z.length:=by simp [Str.length]
 have U:Txt.slice z none (some k)=_:=PySem.StrLaws.sliceText_to ⟨by(clear J h2;omega),by omega⟩
 have l:=Txt.slice_le z none (some k)
 refine⟨by have:=h.1;(clear J h2 h1;omega),nC _ _ h.2.1,?_⟩
 rw [U,pH,List.length_take,List.length_drop]
 (clear l;omega)
theorem BL:Wm "and":=⟨dkq,dkq,dkq⟩
theorem An:Wm "or":=⟨dkq,dkq,dkq⟩
theorem wN:Wm "not":=⟨dkq,dkq,dkq⟩
section
variable {P : Program} {w : World} {K : PySem.W.Frag} {mg : Str -> Option Value} {base : Heap}
noncomputable def gE(H:Hp)(a:Addr)(ws:List Str):Prop:=H a=some (.lst (ws.map V.str))/\ws.length=5/\∀ z∈ws,Wm z
noncomputable def uf:TE:=fun σ H Q=>∃(n:Int) (a:Addr) (ws:List Str) (o:Option V) (m:Nat),σ=[some (.int n),some (.ref a),o,some (.int ((m:Nat):Int))]/\gE H a ws/\2<=m/\m<=8/\
 ∀ x (zs:List Str) H',ck H H'->zs.length=m->(∀ z∈zs,Wd z)->cM false H' x (.tuple [.str "row",.tuple (zs.map .str)])->Q x H'
noncomputable def rY:Sp:=fun vs H Q _=>∃(n:Int) (a:Addr) (ws:List Str),vs=[.int n,.ref a]/\gE H a ws/\∀ x t H',ck H H'->cM false H' x t.told->eN t.kn=true->Gd t->Q x H'
theorem nk:dD ["_law_number_here","_law_menu_here","_law_word","_law_size"] ["_law_number_here","_law_menu_here"] (cv jc):=⟨rfl,rfl,rfl,dkq,rfl,dkq,dkq⟩
theorem xy:(["_law_k","_law_menu_here","_law_number_here"]:List Str).Nodup:=dkq
theorem gE.at {H:Hp}{a:Addr}{ws:List Str}(h:gE H a ws){j:Nat}(hj:j < 5):∃ z,Wm z/\(ws.map V.str)[j]? =some (.str z):=by
 have J:j < ws.length:=by rw [h.2.1];exact hj
 exact⟨ws[j],h.2.2 _ (List.getElem_mem J),by rw [List.getElem?_map,List.getElem?_eq_getElem J];rfl⟩
seal cV PS PE PT PA PG PI dj de in
theorem AG{f fm:Addr}{fd fdm:FuncData}(D:Df K mg "_law_plain" jc f fd)(DM:Df K mg "_law_mixed" iq fm fdm)(T:Txt mg):cu P w K mg base cC 2 f fd ["_law_number_here","_law_menu_here"] rY:=by
 have GM:cu P w K mg base cC 1 fm fdm ["_law_number_here","_law_k"] kN:=md DM
 have bM:=DM.F.binds (ps:=["_law_number_here","_law_k"]) fun _ _ _ _ _ _ us hl=>eT (fun _ _=>rfl) us hl
 refine D.F.ok nk (fun vs H Q E h=>?_) (fun cdv A outer s H vs Q E hr h=>?_)
 ·obtain⟨n,a,ws,rfl,_⟩:=h
  rfl
 ·obtain⟨n,a,ws,rfl,hM,kk⟩:=h
  have hl:(sizeLine:Nat)=16777216:=sizeLine_eq
  refine⟨_,cD (dB (i:=2) nk.nd rfl (Or.inl rfl) (cQ gI (pv 1) (cy dG (cy eL (pv 0) cj) cj) (fun _ _=>rfl)))
   (cD (qM (cZ dQ (cy dG (cy eL (pv 0) cj) cj) cj (cX _)) (cz (dB (i:=2) nk.nd rfl (Or.inl rfl) (cQ gI (dR (cf dw (cf dw (cf dw cg)))) (cy dG (cy eL (pv 0) cj) cj) (fun _ _=>rfl)))) dz)
   (cD (dC (cZ dQ (cy dG (pv 0) cj) cj (cX _)) (cz (cI (fF (cf dw (cf (pv 2) cg))))) dz)
   (cD (dC (cZ dQ (cy dG (pv 0) cj) cj (cX _)) (cz (cI (fF (cf dw (cf (jg lI (pv 2) lh (hV (cy eA cj (cy dG (cy eL (pv 0) cj) (dF mV rfl T.len eZ (cf (pv 2) cg)))))) cg))))) dz)
   (cD (dB (i:=3) nk.nd rfl (Or.inl rfl) (cy eA cj (cy dG (cy eL (pv 0) cj) (cQ gI (dR (cf cj (cf cj cg))) (jy zu rfl T.int oP (cf (iJ dQ (cy dG (cy eL (pv 0) cj) cj) cj rfl) cg)) (fun _ _=>rfl)))))
   (cz (cI (PE.imp (t':=uf) (fF (cf dw (cf (jy p7 rfl T.tuple kz (cf (gP (own:=1) (caps:=[1,0]) (N:=["_law_k","_law_menu_here","_law_number_here"])
     (N0:=["_law_number_here","_law_menu_here","_law_word","_law_size"]) (sc0:=cv jc) rfl (iP rfl T.range (cf (pv 3) cg)) (fun _ _ _=>dU (i:=0) xy rfl (Or.inl rfl)) (fun _ _ _=>iU)
     (fun _ _ _=>cQ (qg (K:=K) rfl) (pv 1) (cy dG (cT GM hr rfl DM.m DM.F.kp bM .nil cH (cf (pv 2) (cf (cy eA cj (pv 0)) cg))) cj) (fun _ _=>rfl)) (fW (by decide)) rfl rfl
     dkq rfl dkq dkq rfl dkq) cg)) cg))) ?mR))))))),?_⟩
  rotate_left
  refine⟨_,rfl,_,rfl,_,_,rfl,rfl,⟨by decide,by decide⟩,_,_,rfl,rfl,(by show(0:Int) < 5;decide),?_⟩
  obtain⟨j,hj,U⟩:=gX (r:=n / 3) (n:=5) (by decide)
  obtain⟨z0,af,J⟩:=hM.at (j:=j) (by(clear hj hl;omega))
  refine⟨a,_,_,.str z0,rfl,rfl,cm.of hM.1,by rw [<-hj];exact cA J,?_⟩
  refine⟨fun ah H'=>ck H H'/\∃ z:Str,Wm z/\ah=[some (.int n),some (.ref a),some (.str z),none],?_,?_⟩
  ·refine⟨_,rfl,_,_,rfl,rfl,⟨by decide,by decide⟩,_,_,rfl,rfl,(by show(0:Int) < 6;decide),rfl,_,rfl,?_⟩
   refine ik (fun _=>?_) (fun _=>⟨ck.refl H,z0,af,rfl⟩)
   refine⟨kI,fun p hp=>⟨_,rfl,_,_,rfl,rfl,⟨by decide,by decide⟩,_,_,rfl,rfl,(by show(0:Int) < 3;decide),?_⟩⟩
   obtain⟨i,hi,ak⟩:=gX (r:=n / 90) (n:=3) (by decide)
   have sm:ck H (upd H p (.lst [.str "and",.str "or",.str "not"])):=cG hp
   match i,ak,hi with
   | 0,_,hi=>exact⟨p,_,_,.str "and",rfl,rfl,cm.of cx,by rw [<-hi];exact cA rfl,sm,"and",BL,rfl⟩
   | 1,_,hi=>exact⟨p,_,_,.str "or",rfl,rfl,cm.of cx,by rw [<-hi];exact cA rfl,sm,"or",An,rfl⟩
   | 2,_,hi=>exact⟨p,_,_,.str "not",rfl,rfl,cm.of cx,by rw [<-hi];exact cA rfl,sm,"not",wN,rfl⟩
   | i + 3,h,_=>(clear h ak hi J U hj hl;omega)
  ·rintro ah H1 ⟨s1,z,hz,rfl⟩
   have ao:gE H1 a ws:=⟨s1 _ _ hM.1,hM.2⟩
   refine⟨_,rfl,_,_,rfl,rfl,(by show(0:Int) < 3;decide),rfl,_,rfl,?_⟩
   refine ik (fun _=>?_) (fun _=>?_)
   ·exact⟨_,rfl,eU,fun p hp=>kk _ (.word z) _ (s1.upf hp) (.tup cx (.cons (.str _) (.cons (.str _) .nil))) rfl (mP hz)⟩
   refine⟨_,rfl,_,_,rfl,rfl,(by show(0:Int) < 3;decide),rfl,_,rfl,?_⟩
   refine ik (fun _=>?_) (fun _=>?_)
   ·have z1:=hz.2.2
    have ag:=hz.1
    refine⟨_,rfl,_,rfl,_,_,rfl,rfl,⟨by decide,by decide⟩,_,rfl,z,rfl,by(clear z1 J U hj;omega),_,_,rfl,rfl,(by show(0:Int) < ((z.length:Nat):Int);omega),_,_,rfl,rfl,_,rfl,z,rfl,by omega,eU,fun p hp=>?_⟩
    have e0:=Int.emod_nonneg (n / 15) (show((z.length:Nat):Int)≠0 by(clear ag J U hj hl;omega))
    have e1:=Int.emod_lt_of_pos (n / 15) (show(0:Int) < ((z.length:Nat):Int) by(clear e0 ag J U hj hl;omega))
    exact kk _ (.start _) _ (s1.upf hp) (.tup cx (.cons (.str _) (.cons (.str _) .nil))) rfl (mP (vY hz (by(clear e1 ag z1 J U hj hl;omega)) (by omega)))
   refine⟨_,rfl,_,_,rfl,rfl,⟨by decide,by decide⟩,eU,fun p hp=>?_⟩
   have s2:ck H1 (upd H1 p (.lst [.int 2,.int 7])):=cG hp
   refine⟨_,rfl,_,_,rfl,rfl,⟨by decide,by decide⟩,_,_,rfl,rfl,(by show(0:Int) < 4;decide),rfl,.inr ⟨_,rfl,?_⟩⟩
   have fin:∀ k:Int,0 < k->k<=7->∀ H2,ck H1 H2->uf [some (.int n),some (.ref a),some (.str z),some (.int (2 + n / 15 % k))] H2 Q:=fun k k0 k7 H2 s3=>by
    have e0:=Int.emod_nonneg (n / 15) (show k≠0 by(clear k7 J U hj hl;omega))
    have e1:=Int.emod_lt_of_pos (n / 15) k0
    obtain⟨m,hm⟩:=Int.eq_ofNat_of_zero_le (show 0<=2 + n / 15 % k by(clear e1 k7 k0 J U hj hl;omega))
    rw [hm]
    refine⟨n,a,ws,_,m,rfl,⟨s3 _ _ ao.1,ao.2⟩,by(clear e1 k7 k0 J U hj hl;omega),by omega,fun x zs H' s4 aa ae hx=>?_⟩
    exact kk x (.row zs) H' ((s1.trans s3).trans s4) hx rfl ⟨by(clear e1 k7 k0 J U hj hl;omega),by omega,ae⟩
   generalize decide (V.int (n / 105 % 4)=V.int 1)=b
   cases b with
   | false=>exact⟨p,_,0,.int 2,rfl,rfl,cm.of cx,cA (j:=0) rfl,_,_,rfl,rfl,(by show(0:Int) < 2;decide),_,_,rfl,rfl,fin 2 (by decide) (by decide) _ s2⟩
   | true=>exact⟨p,_,1,.int 7,rfl,rfl,cm.of cx,cA (j:=1) rfl,_,_,rfl,rfl,(by show(0:Int) < 7;decide),_,_,rfl,rfl,fin 7 (by decide) (by decide) _ s2⟩
  case mR=>
   rintro σ H Q ⟨n,a,ws,o,m,rfl,hM,m2,m8,k⟩
   refine⟨_,rfl,m,rfl,by(clear m8 m2 hl;omega),by omega,?_⟩
   refine lK (fun i ys H'=>H'=H/\∃ zs:List Str,zs.length=i/\(∀ z∈zs,Wd z)/\ys=zs.map V.str) (by rw [hl];(clear m2 hl;omega)) ⟨rfl,[],rfl,fun z hz=>by simp at hz,rfl⟩ ?_ ?_
   ·rintro i ys H' N hi ⟨rfl,zs,aa,ae,rfl⟩ hN
    have aq:i < m:=by(clear aa m8 m2 hl;omega)
    refine g1 ?_
    refine⟨_,rfl,_,rfl,_,rfl,_,_,rfl,rfl,_,_,rfl,by(clear aq aa hi m8 m2 hl;omega),by omega,fun r r0 r1=>?_⟩
    obtain⟨j,hj,U⟩:=gX (r:=r) (n:=5) (by decide)
    obtain⟨z0,af,J⟩:=hM.at (j:=j) (by(clear hj r1 r0 aq aa hi m8 m2 hl;omega))
    refine⟨_,_,rfl,rfl,(by show(0:Int) < 5;decide),a,_,_,.str z0,rfl,rfl,cm.of hM.1,by rw [<-hj];exact cA J,hN _ _ ⟨rfl,zs++[z0],by simp [aa],fun z hz=>?_,by rw [List.map_append];rfl⟩⟩
    rcases List.mem_append.mp hz with q | q
    ·exact ae z q
    ·have e:z=z0:=by simpa using q
     rw [e]
     exact mP af
   ·rintro ys H' ⟨rfl,zs,aa,ae,rfl⟩ _ p hp
    refine⟨p,_,rfl,.inl ⟨cm.of cx,fun q hq=>?_⟩⟩
    refine⟨eU,fun t ht=>?_⟩
    exact k _ zs _ (((cG hp).upf hq).upf ht) (by(clear m8 m2 hl;omega)) ae (.tup cx (.cons (.str _) (.cons (.tup (cG ht _ _ cx) (c9.strs zs)) .nil)))
end
noncomputable def SX(c:Addr)(H H':Hp):Prop:=∀ b o,b≠c->H b=some o->H' b=some o
theorem A1{H:Hp}{c:Addr}{o:HO}:SX c H (upd H c o):=fun b u hb e=>by rw [cK hb];exact e
theorem SX.same {c:Addr}{H H1 H2:Hp}(s:SX c H H1)(t:ck H1 H2):SX c H H2:=fun b o hb e=>t _ _ (s b o hb e)
theorem SX.trans {c:Addr}{H H1 H2:Hp}(s:SX c H H1)(t:SX c H1 H2):SX c H H2:=fun b o hb e=>t _ _ hb (s b o hb e)
theorem SX.of {c:Addr}{H H1:Hp}(s:ck H H1):SX c H H1:=fun b o _ e=>s _ _ e
theorem SX.base {c:Addr}{B H H1:Hp}(s:SX c H H1)(t:ck B H)(n:B c=none):ck B H1:=fun b o e=>s b o (dA e n) (t _ _ e)
theorem SX.keep {c:Addr}{H H1:Hp}{xs:List V}(s:SX c H H1)(h:H c=some (.lst xs)):gw H H1:=
 ⟨fun b C dx fs e=>s b _ (jH e h (by intro z;cases z)) e,fun b ys e=>s b _ (jH e h (by intro z;cases z)) e⟩
theorem PT.imp {X:Cx}{e:Expr}{t t':TT}(h:PT X e t)(i:∀ σ H Q,t' σ H Q->t σ H Q):PT X e t':=fun pins s σ H Q I q=>h pins s σ H Q I (i σ H Q q)
theorem At.lf_many {t:At}(h:eN t.kn=true):t.many=1:=by cases t<;>first | rfl | cases h
section
variable {P : Program} {w : World} {K : PySem.W.Frag} {mg : Str -> Option Value} {base : Heap}
noncomputable def nt(K:W.Frag)(n:Nat):Sp:=fun vs H Q _=>∃(sc c U:Addr) (ns:List Int) (ws:List Str) (a:Nat) (k:Int) (B:Hp),vs=[.ref sc,.ref c,.int k,.ref U]/\k=(n:Int)/\1<=n/\ck B H/\B c=none/\cm K B sc (ns.map V.int)/\ns.length<=63/\gE B U ws/\
 H c=some (.lst [.int ((a:Nat):Int)])/\a + 2 ^ n<=900/\
 ∀ x t (J:Nat) H',SX c H H'->H' c=some (.lst [.int ((J:Nat):Int)])->cM false H' x t.told->Gd t->t.dep + 1<=n->J + 1<=a + 2 ^ n->t.many + 2 * min a 16<=1 + 2 * min J 16->Q x H'
noncomputable def spT(K:W.Frag):Nat->Sp
 | 0=>fun _ _ _ _=>False
 | n + 1=>nt K n
noncomputable def Az:TT:=fun σ H Q=>∃(c:Addr) (k a r:Int),σ[1]? =some (some (.ref c))/\σ[2]? =some (some (.int k))/\σ[4]? =some (some (.int r))/\H c=some (.lst [.int a])/\Q (decide (k < 2\/16 < a\/r % 9 < 2)) H
theorem nI:dD ["_law_script","_law_at","_law_deep","_law_menu_here","_law_number_here","_law_far","_law_one"] ["_law_script","_law_at","_law_deep","_law_menu_here"] (cv kB):=⟨rfl,rfl,rfl,dkq,rfl,dkq,dkq⟩
seal cV PS PE PT PA PG PI dj de in
theorem rW{f fm fn fp:Addr}{fd fdm fdn fdp:FuncData}(D:Df K mg "_law_tree" kB f fd)(DM:Df K mg "_law_mixed" iq fm fdm)(DN:Df K mg "_law_number" jv fn fdn)(DP:Df K mg "_law_plain" jc fp fdp)(T:Txt mg)(n:Nat)
  (GT:cu P w K mg base cC (n + 2) f fd ["_law_script","_law_at","_law_deep","_law_menu_here"] (spT K n)):cu P w K mg base cC (n + 3) f fd ["_law_script","_law_at","_law_deep","_law_menu_here"] (nt K n):=by
 have GM:cu P w K mg base cC (n + 2) fm fdm ["_law_number_here","_law_k"] kN:=(md DM).mono (by omega)
 have bM:=DM.F.binds (ps:=["_law_number_here","_law_k"]) fun _ _ _ _ _ _ us hl=>eT (fun _ _=>rfl) us hl
 have GN:cu P w K mg base cC (n + 2) fn fdn ["_law_script","_law_k"] (nM K):=(oM DN DM T).mono (by omega)
 have bN:=DN.F.binds (ps:=["_law_script","_law_k"]) fun _ _ _ _ _ _ us hl=>eT (fun _ _=>rfl) us hl
 have GP:cu P w K mg base cC (n + 2) fp fdp ["_law_number_here","_law_menu_here"] rY:=(AG DP DM T).mono (by omega)
 have bP:=DP.F.binds (ps:=["_law_number_here","_law_menu_here"]) fun _ _ _ _ _ _ us hl=>eT (fun _ _=>rfl) us hl
 have bT:=D.F.binds (ps:=["_law_script","_law_at","_law_deep","_law_menu_here"]) fun _ _ _ _ _ _ us hl=>match us,hl with | [_,_,_,_],_=>rfl
 refine D.F.ok nI (fun vs H Q E h=>?_) (fun cdv A outer s H vs Q E hr h=>?_)
 ·obtain⟨sc,c,me,ns,ws,a,k,B,rfl,_⟩:=h
  rfl
 ·obtain⟨sc,c,me,ns,ws,a,k,B,rfl,rfl,hn,sB,nB,hS,hlen,hM,hc,ha,kk⟩:=h
  refine⟨_,cD (zp (cy eA (cQ gI (pv 1) cj (fun _ _=>rfl)) cj) (xG (pv 1) cj set_list))
   (cD (dB (i:=4) nI.nd rfl (Or.inl rfl) (cT GN hr rfl DN.m DN.F.kp bN .nil cH (cf (pv 0) (cf (cQ gI (pv 1) cj (fun _ _=>rfl)) cg))))
   (cD (dC (PT.imp (t':=Az) (PW.pt (fX (cZ lX (pv 2) cj (cX _)) (fX (cZ iN (cQ gI (pv 1) cj (fun _ _=>rfl)) cj (cX _)) (h9 (cZ lX (cy dG (pv 4) cj) cj (cX _)))))) ?mC)
    (cz (cI (cT GP hr rfl DP.m DP.F.kp bP .nil cH (cf (cy eL (pv 4) cj) (cf (pv 3) cg))))) dz)
   (cD (dC (cZ dQ (cy dG (pv 4) cj) cj (cX _))
    (cD (dB (i:=5) nI.nd rfl (Or.inl rfl) (cy dG (cy eL (pv 4) cj) (cQ gI (dR (cf cj (cf cj cg))) (cy dG (cy eL (pv 4) cj) cj) (fun _ _=>rfl))))
    (cz (cI (fF (cf dw (cf (cT GP hr rfl DP.m DP.F.kp bP .nil cH (cf (cy eL (pv 4) cj) (cf (pv 3) cg)))
     (cf (cT GP hr rfl DP.m DP.F.kp bP .nil cH (cf (cT GM hr rfl DM.m DM.F.kp bM .nil cH (cf (pv 4) (cf cj cg))) (cf (pv 3) cg))) (cf (pv 5) cg)))))))) dz)
   (cD (dC (cZ dQ (cy dG (pv 4) cj) cj (cX _))
    (cz (cI (fF (cf dw (cf (cT GT hr rfl D.m D.F.kp bT .nil cH (cf (pv 0) (cf (pv 1) (cf (cy iy (pv 2) cj) (cf (pv 3) cg))))) cg))))) dz)
   (cD (dB (i:=6) nI.nd rfl (Or.inl rfl) (cT GT hr rfl D.m D.F.kp bT .nil cH (cf (pv 0) (cf (pv 1) (cf (cy iy (pv 2) cj) (cf (pv 3) cg))))))
   (cz (cI (fF (cf (cQ gI (dR (cf dw (cf dw cg))) (cy dG (pv 4) cj) (fun _ _=>rfl)) (cf (pv 6)
    (cf (cT GT hr rfl D.m D.F.kp bT .nil cH (cf (pv 0) (cf (pv 1) (cf (cy iy (pv 2) cj) (cf (pv 3) cg))))) cg))))))))))),?_⟩
  rotate_left
  ·have p2:1<=2 ^ n:=Nat.one_le_two_pow
   refine⟨_,rfl,c,_,0,_,rfl,rfl,cm.of hc,cA (j:=0) rfl,_,_,rfl,rfl,?_⟩
   refine⟨_,rfl,c,_,_,0,rfl,rfl,hc,rfl,?_⟩
   have x1:SX c H (upd H c (.lst [.int (((a + 1:Nat)):Int)])):=A1
   have b1:=x1.base sB nB
   refine⟨_,rfl,_,rfl,c,_,0,_,rfl,rfl,cm.of cx,cA (j:=0) rfl,sc,ns,a + 1,rfl,b1.seq hS,hlen,by omega,fun r H2 r0 r1 s2=>?_⟩
   have U:H2 c=some (.lst [.int (((a + 1:Nat)):Int)]):=s2 _ _ cx
   have x2:=x1.same s2
   have b2:=x2.base sB nB
   have menu:∀{H3:Hp},ck B H3->gE H3 me ws:=fun s=>⟨s _ _ hM.1,hM.2⟩
   refine⟨c,_,_,r,rfl,rfl,rfl,U,?_⟩
   by_cases cut:((n:Nat):Int) < 2\/(16:Int) < ((a + 1:Nat):Int)\/r % 9 < 2
   ·rw [decide_eq_true cut]
    refine cJ ⟨_,rfl,_,_,rfl,rfl,⟨by decide,by decide⟩,_,rfl,_,me,ws,rfl,menu b2,fun x t H3 s3 hx lk gd=>?_⟩
    have hd:=At.lf_dep lk
    have hm:=At.lf_many lk
    have pn:2<=2 ^ n:=by
     have:2 ^ 1<=2 ^ n:=Nat.pow_le_pow_right (by decide) hn
     simpa using this
    exact kk x t (a + 1) H3 (x2.same s3) (s3 _ _ U) hx gd (by omega) (by omega) (by omega)
   rw [decide_eq_false cut]
   obtain⟨m,rfl⟩:∃ m,n=m + 1:=⟨n - 1,by omega⟩
   have aa:1<=m:=by omega
   have pe:2 ^ (m + 1)=2 ^ m + 2 ^ m:=by rw [Nat.pow_succ];omega
   have pm:2<=2 ^ m:=by
    have:2 ^ 1<=2 ^ m:=Nat.pow_le_pow_right (by decide) aa
    simpa using this
   refine cY ⟨_,rfl,_,_,rfl,rfl,(by show(0:Int) < 9;decide),rfl,_,rfl,?_⟩
   refine ik (fun _=>?_) (fun _=>?_)
   ·refine⟨_,rfl,_,_,rfl,rfl,⟨by decide,by decide⟩,eU,fun p hp=>⟨_,rfl,_,_,rfl,rfl,⟨by decide,by decide⟩,_,_,rfl,rfl,(by show(0:Int) < 2;decide),?_⟩⟩
    have s3:ck H2 (upd H2 p (.lst [.int 3,.int 21])):=cG hp
    obtain⟨i,hi,af⟩:=gX (r:=r / 9) (n:=2) (by decide)
    obtain⟨q,hq,aq,eq⟩:∃ q:Int,0 < q/\q<=21/\([V.int 3,V.int 21])[i]? =some (V.int q):=by
     match i,af with
     | 0,_=>exact⟨3,by decide,by decide,rfl⟩
     | 1,_=>exact⟨21,by decide,by decide,rfl⟩
     | i + 2,h=>omega
    refine⟨p,_,_,.int q,rfl,rfl,cm.of cx,by rw [<-hi];exact cA eq,_,_,rfl,rfl,hq,?_⟩
    have f0:=Int.emod_nonneg (r / 18) (show q≠0 by omega)
    have f1:=Int.emod_lt_of_pos (r / 18) hq
    refine⟨_,rfl,_,_,rfl,rfl,⟨by decide,by decide⟩,_,rfl,_,me,ws,rfl,menu (b2.trans s3),fun x1 t1 H4 s4 ag l1 g1=>?_⟩
    refine⟨_,rfl,_,5,rfl,by decide,by decide,fun r2 _ _=>⟨_,rfl,_,me,ws,rfl,menu ((b2.trans s3).trans s4),fun ar t2 H5 s5 ah l2 g2=>?_⟩⟩
    refine⟨_,rfl,BS,fun u J=>?_⟩
    have d1:=At.lf_dep l1
    have d2:=At.lf_dep l2
    have m1:=At.lf_many l1
    have m2:=At.lf_many l2
    refine kk _ (.near t1 t2 (r / 18 % q)) (a + 1) _ ((((x2.same s3).same s4).same s5).same (cG J)) (cG J _ _ (s5 _ _ (s4 _ _ (s3 _ _ U)))) ?_ ⟨⟨l1,l2⟩,⟨f0,by omega⟩,g1,g2⟩ (by show max t1.dep t2.dep + 1 + 1<=m + 1;omega) (by omega) (by show 1 + (t1.many + t2.many) + 2 * min a 16<=1 + 2 * min (a + 1) 16;omega)
    exact .tup cx (.cons (.str _) (.cons ((ag.same s5).same (cG J)) (.cons (ah.same (cG J)) (.cons (.int _) .nil))))
   refine⟨_,rfl,_,_,rfl,rfl,(by show(0:Int) < 9;decide),rfl,_,rfl,?_⟩
   refine ik (fun _=>?_) (fun _=>?_)
   ·refine⟨_,rfl,_,rfl,_,rfl,_,_,rfl,rfl,_,rfl,sc,c,me,ns,ws,a + 1,_,B,rfl,by omega,aa,b2,nB,hS,hlen,hM,U,by omega,fun x t a' H3 x3 ae hx gd hd h1 h2=>?_⟩
    refine⟨eU,fun u J=>?_⟩
    exact kk _ (.no t) a' _ ((x2.trans x3).same (cG J)) (cG J _ _ ae) (.tup cx (.cons (.str _) (.cons (hx.same (cG J)) .nil))) gd (by show t.dep + 1 + 1<=m + 1;omega) (by omega) (by show 1 + t.many + 2 * min a 16<=1 + 2 * min a' 16;omega)
   refine⟨_,rfl,_,rfl,_,rfl,_,_,rfl,rfl,_,rfl,sc,c,me,ns,ws,a + 1,_,B,rfl,by omega,aa,b2,nB,hS,hlen,hM,U,by omega,fun x t a' H3 x3 ae hx gd hd h1 h2=>?_⟩
   have b3:=x3.base b2 nB
   refine⟨eU,fun p hp=>⟨_,rfl,_,_,rfl,rfl,(by show(0:Int) < 2;decide),?_⟩⟩
   obtain⟨i,hi,af⟩:=gX (r:=r) (n:=2) (by decide)
   obtain⟨nm,cc,c1,c2,c3,c4,eq⟩:∃(nm:Str) (cc:At->At->At),(∀ a b,(cc a b).told= .tuple [.str nm,a.told,b.told])/\(∀ a b,(cc a b).dep=max a.dep b.dep + 1)/\(∀ a b,(cc a b).many=1 + (a.many + b.many))/\(∀ a b,Gd a->Gd b->Gd (cc a b))/\([V.str "both",V.str "either"])[i]? =some (V.str nm):=by
    match i,af with
    | 0,_=>exact⟨"both",.both,fun _ _=>rfl,fun _ _=>rfl,fun _ _=>rfl,fun _ _ h1 h2=>⟨h1,h2⟩,rfl⟩
    | 1,_=>exact⟨"either",.either,fun _ _=>rfl,fun _ _=>rfl,fun _ _=>rfl,fun _ _ h1 h2=>⟨h1,h2⟩,rfl⟩
    | i + 2,h=>omega
   have s4:ck H3 (upd H3 p (.lst [.str "both",.str "either"])):=cG hp
   refine⟨p,_,_,.str nm,rfl,rfl,cm.of cx,by rw [<-hi];exact cA eq,_,rfl,?_⟩
   refine⟨_,rfl,_,rfl,_,rfl,_,_,rfl,rfl,_,rfl,sc,c,me,ns,ws,a',_,B,rfl,by omega,aa,b3.trans s4,nB,hS,hlen,hM,s4 _ _ ae,by omega,fun y t2 a2 H5 x5 ak hy ao hd2 h3 h4=>?_⟩
   refine⟨kI,fun u J=>?_⟩
   have ky:cM false (upd H5 u (.tup [.str nm,x,y])) x t.told:=((hx.same s4).keep (x5.keep (s4 _ _ ae))).same (cG J)
   exact kk _ (cc t t2) a2 _ ((((x2.trans x3).same s4).trans x5).same (cG J)) (cG J _ _ ak) (by rw [c1];exact .tup cx (.cons (.str _) (.cons ky (.cons (hy.same (cG J)) .nil)))) (c4 _ _ gd ao) (by rw [c2];omega) (by omega) (by rw [c3];omega)
  case mC=>
   rintro σ H Q ⟨c,k,a,r,e1,e2,e4,hc,q⟩
   refine⟨_,e2,_,_,rfl,rfl,_,rfl,?_⟩
   by_cases h1:k < 2
   ·rw [decide_eq_true h1]
    rw [decide_eq_true (.inl h1)] at q
    exact cJ q
   ·rw [decide_eq_false h1]
    refine cY ⟨_,e1,c,_,0,_,rfl,rfl,cm.of hc,cA (j:=0) rfl,_,_,rfl,rfl,_,rfl,?_⟩
    by_cases h2:16 < a
    ·rw [decide_eq_true h2]
     rw [decide_eq_true (.inr (.inl h2))] at q
     exact cJ q
    ·rw [decide_eq_false h2]
     refine cY ⟨_,e4,_,_,rfl,rfl,(by show(0:Int) < 9;decide),_,_,rfl,rfl,_,rfl,?_⟩
     have:decide (k < 2\/16 < a\/r % 9 < 2)=decide (r % 9 < 2):=by simp [h1,h2]
     rw [this] at q
     exact q
theorem sR{f fm fn fp:Addr}{fd fdm fdn fdp:FuncData}(D:Df K mg "_law_tree" kB f fd)(DM:Df K mg "_law_mixed" iq fm fdm)(DN:Df K mg "_law_number" jv fn fdn)(DP:Df K mg "_law_plain" jc fp fdp)(T:Txt mg):
  ∀ n:Nat,cu P w K mg base cC (n + 3) f fd ["_law_script","_law_at","_law_deep","_law_menu_here"] (nt K n)
 | 0=>rW D DM DN DP T 0 lP
 | n + 1=>rW D DM DN DP T (n + 1) (sR D DM DN DP T n)
end
noncomputable def At.rest:At->List PyData
 | .word z=>[.str z] | .start z=>[.str z] | .row zs=>[.tuple (zs.map .str)] | .near a b n=>[a.told,b.told,.int n] | .both a b=>[a.told,b.told] | .either a b=>[a.told,b.told] | .no a=>[a.told]
theorem At.told_eq (t:At):t.told= .tuple (.str t.nm::t.rest):=by cases t<;>rfl
theorem cM.t0 {l:Bool}{H:Hp}{x:V}{z:Str}{ds:List PyData}(h:cM l H x (.tuple (.str z::ds))):∃ p xs,x= .ref p/\H p=some (.tup (.str z::xs))/\c9 l H xs ds:=by
 cases h with
 | tup ha hs=>cases hs with
  | cons h0 hs=>cases h0 with
   | str _=>exact⟨_,_,rfl,ha,hs⟩
theorem gK{b:Bool}{A B:Prop}(h:b=false)(q:B):if b=true then A else B:=by rw [h];exact cY q
theorem iA{b:Bool}{A B:Prop}(h:b=true)(q:A):if b=true then A else B:=by rw [h];exact cJ q
theorem c9.one {l:Bool}{H:Hp}{xs:List V}{a:PyData}(h:c9 l H xs [a]):∃ x,xs=[x]/\cM l H x a:=by
 cases h with
 | cons h0 hs=>cases hs with
  | nil=>exact⟨_,rfl,h0⟩
theorem c9.two {l:Bool}{H:Hp}{xs:List V}{a b:PyData}(h:c9 l H xs [a,b]):∃ x y,xs=[x,y]/\cM l H x a/\cM l H y b:=by
 cases h with
 | cons h0 hs=>cases hs with
  | cons h1 hs=>cases hs with
   | nil=>exact⟨_,_,rfl,h0,h1⟩
theorem c9.three {l:Bool}{H:Hp}{xs:List V}{a b c:PyData}(h:c9 l H xs [a,b,c]):∃ x y z,xs=[x,y,z]/\cM l H x a/\cM l H y b/\cM l H z c:=by
 cases h with
 | cons h0 hs=>cases hs with
  | cons h1 hs=>cases hs with
   | cons h2 hs=>cases hs with
    | nil=>exact⟨_,_,_,rfl,h0,h1,h2⟩
noncomputable def At.isTwo:At->Bool
 | .near _ _ _=>true | .both _ _=>true | .either _ _=>true | _=>false
theorem xY(t:At):eO (.str t.nm) [.str "both",.str "either",.str "near"]=t.isTwo:=by
 cases t with
 | word z=>exact(show eO (V.str "word") [.str "both",.str "either",.str "near"]=false from dkq)
 | start z=>exact(show eO (V.str "start") [.str "both",.str "either",.str "near"]=false from dkq)
 | row z=>exact(show eO (V.str "row") [.str "both",.str "either",.str "near"]=false from dkq)
 | near a b n=>exact(show eO (V.str "near") [.str "both",.str "either",.str "near"]=true from dkq)
 | both a b=>exact(show eO (V.str "both") [.str "both",.str "either",.str "near"]=true from dkq)
 | either a b=>exact(show eO (V.str "either") [.str "both",.str "either",.str "near"]=true from dkq)
 | no a=>exact(show eO (V.str "not") [.str "both",.str "either",.str "near"]=false from dkq)
section
variable {P : Program} {w : World} {K : PySem.W.Frag} {mg : Str -> Option Value} {base : Heap}
noncomputable def t8:Sp:=fun vs H Q _=>∃(x:V) (t:At),vs=[x]/\cM false H x t.told/\∀ l xs H',ck H H'->H l=none->H' l=some (.lst xs)->c9 false H' xs (t.kids.map At.told)->Q (.ref l) H'
theorem Aq:dD ["_law_told"] ["_law_told"] (cv lF):=⟨rfl,rfl,rfl,dkq,rfl,dkq,dkq⟩
seal cV PS PE PT PA PG PI dj de in
theorem BW{f:Addr}{fd:FuncData}(D:Df K mg "_law_kids" lF f fd):cu P w K mg base cC 1 f fd ["_law_told"] t8:=by
 refine D.F.ok Aq (fun vs H Q E h=>?_) (fun cdv A outer s H vs Q E hr h=>?_)
 ·obtain⟨x,t,rfl,_⟩:=h
  rfl
 ·obtain⟨x,t,rfl,hp,k⟩:=h
  refine⟨_,cD (dC (cZ uG (cQ dn (pv 0) cj (fun _ _=>rfl)) (fF (cf dw (cf dw (cf dw cg)))) (by with_unfolding_all rfl)) (cz (cI (dR (cf (cQ dn (pv 0) cj (fun _ _=>rfl)) (cf (cQ dn (pv 0) cj (fun _ _=>rfl)) cg))))) dz)
   (cz (cI (qj (cZ dQ (cQ dn (pv 0) cj (fun _ _=>rfl)) dw (cX _)) (dR (cf (cQ dn (pv 0) cj (fun _ _=>rfl)) cg)) (dR cg)))),?_⟩
  obtain⟨p,xs,rfl,ha,hs⟩:=(t.told_eq ▸ hp).t0
  refine⟨_,rfl,p,_,0,_,rfl,rfl,cq.of ha,cA (j:=0) rfl,kI,fun q hq=>⟨q,_,rfl,.inr (cq.of cx),rfl,rfl,_,rfl,?_⟩⟩
  have s1:ck H (upd H q (.tup [.str "both",.str "either",.str "near"])):=cG hq
  have e:=xY t
  have U:=s1 _ _ ha
  have two:∀ a b,t.rest.take 2=[a,b]->t.kids.map At.told=[a,b]->∃ x1 x2,xs[0]? =some x1/\xs[1]? =some x2/\c9 false H [x1,x2] (t.kids.map At.told):=fun a b e1 e2=>by
   have h2:∀{xs:List V} {ds:List PyData},c9 false H xs ds->ds.take 2=[a,b]->∃ x1 x2,xs[0]? =some x1/\xs[1]? =some x2/\c9 false H [x1,x2] [a,b]:=fun hs e=>by
    cases hs with
    | nil=>simp at e
    | cons h0 hs=>cases hs with
     | nil=>simp at e
     | cons h1 hs=>
      simp at e
      obtain⟨rfl,rfl⟩:=e
      exact⟨_,_,rfl,rfl,.cons h0 (.cons h1 .nil)⟩
   rw [e2]
   exact h2 hs e1
  have ht:t.isTwo=true->∃ a b,t.rest.take 2=[a,b]/\t.kids.map At.told=[a,b]:=fun h=>by
   cases t with
   | near a b n=>exact⟨_,_,rfl,rfl⟩
   | both a b=>exact⟨_,_,rfl,rfl⟩
   | either a b=>exact⟨_,_,rfl,rfl⟩
   | word z=>cases h
   | start z=>cases h
   | row z=>cases h
   | no a=>cases h
  cases hq2:t.isTwo with
  | true=>
   obtain⟨a,b,e1,e2⟩:=ht hq2
   obtain⟨x1,x2,g1,g2,hk⟩:=two a b e1 e2
   exact iA (b:=eO (.str t.nm) [.str "both",.str "either",.str "near"]) (e.trans hq2)
    ⟨_,rfl,p,_,1,x1,rfl,rfl,cq.of U,cA (j:=1) (by simpa using g1),_,rfl,p,_,2,x2,rfl,rfl,cq.of U,cA (j:=2) (by simpa using g2),eU,fun l J=>k l _ _ (s1.upf J) (ck.free s1 J) cx (c9.same (s1.upf J) hk)⟩
  | false=>
  refine gK (b:=eO (.str t.nm) [.str "both",.str "either",.str "near"]) (e.trans hq2) ?_
  cases t with
  | near a b n=>cases hq2
  | both a b=>cases hq2
  | either a b=>cases hq2
  | no a=>
   obtain⟨x1,rfl,h1⟩:=c9.one hs
   exact⟨_,rfl,p,_,0,_,rfl,rfl,cq.of U,cA (j:=0) rfl,rfl,_,rfl,gm rfl ⟨_,rfl,p,_,1,x1,rfl,rfl,cq.of U,cA (j:=1) rfl,dH,fun l J=>k l _ _ (s1.upf J) (ck.free s1 J) cx (c9.same (s1.upf J) (.cons h1 .nil))⟩⟩
  | word z=>exact⟨_,rfl,p,_,0,_,rfl,rfl,cq.of U,cA (j:=0) rfl,rfl,_,rfl,c8 (a:="word") dkq ⟨eW,fun l J=>k l _ _ (s1.upf J) (ck.free s1 J) cx .nil⟩⟩
  | start z=>exact⟨_,rfl,p,_,0,_,rfl,rfl,cq.of U,cA (j:=0) rfl,rfl,_,rfl,c8 (a:="start") dkq ⟨eW,fun l J=>k l _ _ (s1.upf J) (ck.free s1 J) cx .nil⟩⟩
  | row z=>exact⟨_,rfl,p,_,0,_,rfl,rfl,cq.of U,cA (j:=0) rfl,rfl,_,rfl,c8 (a:="row") dkq ⟨eW,fun l J=>k l _ _ (s1.upf J) (ck.free s1 J) cx .nil⟩⟩
end
open PySem L2 PyProof.Rows PySem.Spec Gn K01 SPN BK BN
theorem mD{z:Str}(h:Wd z):PyData.strOk z=true:=by
 have h':(decide (1<=z.length) && decide (z.length<=2000) && z.cps.toList.all fA)=true:=h
 rw [Bool.and_eq_true] at h'
 unfold PyData.strOk
 rw [<-Array.all_toList]
 refine List.all_eq_true.mpr fun c J=>?_
 have:=rm (List.all_eq_true.mp h'.2 c J)
 exact decide_eq_true (by(clear h';omega))
noncomputable def Ow(z:Str):Prop:=z.length<=10000/\PyData.strOk z=true
theorem pP{z:Str}(h:Wm z):Ow z:=⟨by have:=h.1;omega,mD (mP h)⟩
noncomputable def eH:At->List Str->Nat->Bool
 | .word z,ws,i=>decide (ws[i]? =some z)
 | .start z,ws,i=>match ws[i]? with
  | some y=>Txt.startswith y z
  | none=>false
 | .row zs,ws,i=>decide ((ws.drop i).take zs.length=zs)
 | _,_,_=>false
noncomputable def j8:At->Nat
 | .row zs=>zs.length - 1
 | _=>0
noncomputable def iE(t:At)(ws:List Str):List (Nat×Nat):=eQ (eH t ws) (j8 t) (ws.length - j8 t)
noncomputable def eE:At->List Str->Nat×Nat->Prop
 | .near a b n,ws,r=>∃ p q,eE a ws p/\eE b ws q/\iH p q n.toNat r
 | .both a b,ws,r=>eE a ws r\/eE b ws r
 | .either a b,ws,r=>eE a ws r\/eE b ws r
 | .no _,_,_=>False
 | .word z,ws,r=>r∈iE (.word z) ws
 | .start z,ws,r=>r∈iE (.start z) ws
 | .row zs,ws,r=>r∈iE (.row zs) ws
noncomputable def jG:At->List Str->Prop
 | .both a b,ws=>jG a ws/\jG b ws
 | .either a b,ws=>jG a ws\/jG b ws
 | .no a,ws=>¬ jG a ws
 | .near a b n,ws=>∃ r,eE (.near a b n) ws r
 | .word z,ws=>∃ r,eE (.word z) ws r
 | .start z,ws=>∃ r,eE (.start z) ws r
 | .row zs,ws=>∃ r,eE (.row zs) ws r
theorem vi{t:At}{ws:List Str}{r:Nat×Nat}(h:eN t.kn=true):eE t ws r↔r∈iE t ws:=by
 cases t with
 | word z=>exact Iff.rfl
 | start z=>exact Iff.rfl
 | row zs=>exact Iff.rfl
 | near a b n=>cases h
 | both a b=>cases h
 | either a b=>cases h
 | no a=>cases h
theorem mf{t:At}(g:Gd t)(h:eN t.kn=true):j8 t<=7:=by
 cases t with
 | row zs=>
  have:=g.2.1
  show zs.length - 1<=7
  omega
 | word z=>exact Nat.zero_le _
 | start z=>exact Nat.zero_le _
 | near a b n=>cases h
 | both a b=>cases h
 | either a b=>cases h
 | no a=>cases h
theorem lM{t:At}{ws:List Str}{r:Nat×Nat}(h:eN t.kn=true)(i:eE t ws r):r.2=r.1 + j8 t/\r.2 < ws.length:=by
 obtain⟨h1,_,J⟩:=uT.mp ((vi h).mp i)
 exact⟨J,by omega⟩
theorem iB:∀{t:At} {ws:List Str} {r:Nat×Nat},Gd t->eE t ws r->r.1<=r.2/\r.2 < ws.length/\r.2<=r.1 + 35
 | .word z,ws,r,g,h=>by
  obtain⟨a,b⟩:=lM (t:= .word z) rfl h
  have:=mf (t:= .word z) g rfl
  omega
 | .start z,ws,r,g,h=>by
  obtain⟨a,b⟩:=lM (t:= .start z) rfl h
  have:=mf (t:= .start z) g rfl
  omega
 | .row z,ws,r,g,h=>by
  obtain⟨a,b⟩:=lM (t:= .row z) rfl h
  have:=mf (t:= .row z) g rfl
  omega
 | .near a b n,ws,r,g,h=>by
  obtain⟨p,q,U,hq,hn⟩:=h
  obtain⟨⟨l1,l2⟩,⟨J,aa⟩,g1,g2⟩:=g
  obtain⟨a1,a2⟩:=lM l1 U
  obtain⟨b1,b2⟩:=lM l2 hq
  have k1:=mf g1 l1
  have k2:=mf g2 l2
  rcases hn with ⟨z1,z2,e⟩ | ⟨z1,z2,e⟩
  ·rw [e]
   simp only
   (clear a2 J;omega)
  ·rw [e]
   simp only
   (clear b2 J;omega)
 | .both a b,ws,r,g,h=>h.elim (fun z=>iB g.1 z) fun z=>iB g.2 z
 | .either a b,ws,r,g,h=>h.elim (fun z=>iB g.1 z) fun z=>iB g.2 z
 | .no a,ws,r,g,h=>(show False from h).elim
structure fE (t : At) (ws : List Str) (rs : List (Nat × Nat)) : Prop where
 up : rs.Pairwise (fun a b => rank a < rank b)
 mem : ∀ r, r ∈ rs ↔ eE t ws r
theorem fE.uniq {t:At}{ws:List Str}{rs rs':List (Nat×Nat)}(a:fE t ws rs)(b:fE t ws rs'):rs=rs':=uK a.up b.up fun x=>(a.mem x).trans (b.mem x).symm
theorem fE.leaf {t:At}{ws:List Str}(h:eN t.kn=true):fE t ws (iE t ws):=⟨qa _ _ _,fun r=>(vi h).symm⟩
theorem fE.U {t:At}{ws:List Str}{rs:List (Nat×Nat)}(a:fE t ws rs)(g:Gd t)(hw:ws.length<=64):∀ r∈rs,r∈SPN.U 64/\r.1<=r.2/\r.2 < 1000:=fun r hr=>by
 obtain⟨h1,h2,J⟩:=iB g ((a.mem r).mp hr)
 exact⟨qy h1 (by(clear J h1;omega)) J,h1,by omega⟩
theorem yH{rs:List (Nat×Nat)}(h:rs.Pairwise (fun a b=>rank a < rank b)):rs.Nodup:=h.imp fun{a b} J z=>by rw [z] at J;omega
theorem fE.len {t:At}{ws:List Str}{rs:List (Nat×Nat)}(a:fE t ws rs)(g:Gd t)(hw:ws.length<=64):rs.length<=1674:=by
 have:=om (m:=SPN.U 64) (yH a.up) fun r J=>(a.U g hw r J).1
 rw [sZ] at this
 exact this
theorem fE.lenL {t:At}{ws:List Str}{rs:List (Nat×Nat)}(a:fE t ws rs)(h:eN t.kn=true)(hw:ws.length<=64):rs.length<=64:=by
 rw [a.uniq (fE.leaf h)]
 have:=pG (eH t ws) (j8 t) (ws.length - j8 t)
 unfold iE
 omega
noncomputable def fU(H:Hp)(l:Addr)(rs:List (Nat×Nat)):Prop:=∃ ps:List Addr,H l=some (.lst (ps.map V.ref))/\Paired (fg H) ps rs
theorem fV{H H':Hp}(s:ck H H'){ps:List Addr}{rs:List (Nat×Nat)}(h:Paired (fg H) ps rs):Paired (fg H') ps rs:=Gn.Paired.imp2 h fun _ _ e=>s _ _ e
theorem fU.same {H H':Hp}(s:ck H H'){l:Addr}{rs:List (Nat×Nat)}(h:fU H l rs):fU H' l rs:=by
 obtain⟨ps,a,b⟩:=h
 exact⟨ps,s _ _ a,fV s b⟩
theorem qp{K:W.Frag}{H:Hp}:∀{ps:List Addr} {rs:List (Nat×Nat)},Paired (fg H) ps rs->gA K H (ps.map V.ref) (fH rs)
 | _,_,.nil=> .nil
 | _,_,.cons h t=> .cons (.tup (cq.of h) (.cons (.int _) (.cons (.int _) .nil))) (qp t)
theorem fU.dt {K:W.Frag}{H:Hp}{l:Addr}{rs:List (Nat×Nat)}(h:fU H l rs):f7 K H (.ref l) (.list (fH rs)):=by
 obtain⟨ps,a,b⟩:=h
 exact .lst (cm.of a) (qp b)
theorem pA{α β:Type}{F:α->β->Prop}:∀{l:List α} {m:List β} {l2:List α} {m2:List β},Paired F l m->Paired F l2 m2->Paired F (l++l2) (m++m2)
 | _,_,_,_,.nil,h=>h
 | _,_,_,_,.cons r t,h=> .cons r (pA t h)
structure Gr (B H : Hp) (fo : Addr) (xs : List V) (rs : List (Nat × Nat)) : Prop where
 sm : ck B H
 fo : H fo = some (.lst xs)
 us : ∃ us : List Addr, xs = us.map V.ref /\ Paired (fg H) us rs
theorem Gr.same {B H H':Hp}{fo:Addr}{xs:List V}{rs:List (Nat×Nat)}(g:Gr B H fo xs rs)(s:ck H H'):Gr B H' fo xs rs:=by
 obtain⟨us,e,p⟩:=g.us
 exact⟨g.sm.trans s,s _ _ g.fo,us,e,fV s p⟩
theorem Gr.len {B H:Hp}{fo:Addr}{xs:List V}{rs:List (Nat×Nat)}(g:Gr B H fo xs rs):xs.length=rs.length:=by
 obtain⟨us,rfl,p⟩:=g.us
 rw [List.length_map]
 exact Gn.Paired.len p
theorem Gr.app {B H:Hp}{fo tq:Addr}{xs:List V}{rs:List (Nat×Nat)}{a b:Int}{r:Nat×Nat}(g:Gr B H fo xs rs)(hB:B fo=none)(ht:H tq=none)(ea:a=(r.1:Int))(eb:b=(r.2:Int)):
  Gr B (upd (upd H tq (.tup [.int a,.int b])) fo (.lst (xs++[.ref tq]))) fo (xs++[.ref tq]) (rs++[r]):=by
 subst ea eb
 obtain⟨us,rfl,p⟩:=g.us
 have hn:tq≠fo:=Ne.symm (dA g.fo ht)
 refine⟨fun b u e=>?_,cx,us++[tq],by rw [List.map_append];rfl,Gn.Paired.app (Gn.Paired.imp2 p fun x y e=>?_) ?_⟩
 ·rw [cK (dA e hB)]
  exact cG ht _ _ (g.sm _ _ e)
 ·show upd _ _ _ x=_
  rw [cK (jH e g.fo (by intro z;cases z))]
  exact cG ht _ _ e
 ·show upd _ _ _ tq=_
  rw [cK hn]
  exact cx
theorem Gr.spl {B H:Hp}{fo:Addr}{xs:List V}{rs:List (Nat×Nat)}(g:Gr B H fo xs rs):fU H fo rs:=by
 obtain⟨us,rfl,p⟩:=g.us
 exact⟨us,g.fo,p⟩
theorem Gr.new {B:Hp}{fo:Addr}(h:B fo=none):Gr B (upd B fo (.lst [])) fo [] []:=⟨cG h,cx,[],rfl,.nil⟩
theorem yC:(["last","begin"]:List Str).Nodup:=dkq
section
variable {P : Program} {w : World} {K : PySem.W.Frag} {mg : Str -> Option Value} {base : Heap}
noncomputable def m7:Sp:=fun vs H Q _=>∃(l:Addr) (rs:List (Nat×Nat)),vs=[.ref l]/\fU H l rs/\(∀ r∈rs,r∈SPN.U 64/\r.2 < 1000)/\
 ∀ L ws H',ck H H'->H L=none->fU H' L ws->ws.Pairwise (fun a b=>rank a < rank b)->(∀ x,x∈ws↔x∈rs)->Q (.ref L) H'
theorem xO:dD ["spans"] ["spans"] (cv i8):=⟨rfl,rfl,rfl,dkq,rfl,dkq,dkq⟩
theorem nY:(SPN.U 64).length < 1900:=by rw [sZ];decide
seal cV PS PE PT PA PG PI dj de in
theorem qo{f:Addr}{fd:FuncData}(D:Df K mg "each_once" i8 f fd)(T:Txt mg):cu P w K mg base cC 1 f fd ["spans"] m7:=by
 refine D.F.ok xO (fun vs H Q E h=>?_) (fun cdv A outer s H vs Q E J h=>?_)
 ·obtain⟨l,rs,rfl,_⟩:=h
  rfl
 ·obtain⟨l,rs,rfl,⟨ps,hl,hp⟩,hU,k⟩:=h
  refine⟨_,cz (cI (p6 J rfl T.sorted rfl T.set (pv 0))),?_⟩
  exact⟨_,rfl,l,ps,rs,rfl,hl,hp,fun r J=>(hU r J).2,⟨SPN.U 64,fun r J=>(hU r J).1,nY⟩,fun L us ws hL hu up me=>k L ws _ (cG hL) hL ⟨us,cx,fV (cG hL) hu⟩ up me⟩
noncomputable def eP(b:Nat)(rs:List (Nat×Nat)):List Nat:=(rs.filter fun r=>decide (r.1=b)).map (·.2)
theorem tV(b:Nat)(rs:List (Nat×Nat))(r:Nat×Nat):eP b (rs++[r])=eP b rs++(if r.1=b then [r.2] else []):=by
 unfold eP
 rw [List.filter_append,List.map_append]
 congr 1
 by_cases h:r.1=b
 ·rw [if_pos h]
  simp [h]
 ·rw [if_neg h]
  simp [h]
theorem vo{b:Nat}{rs:List (Nat×Nat)}{e:Nat}:e∈eP b rs↔(b,e)∈rs:=by
 unfold eP
 rw [List.mem_map]
 constructor
 ·rintro⟨r,J,rfl⟩
  obtain⟨h1,h2⟩:=List.mem_filter.mp J
  have:=of_decide_eq_true h2
  rw [<-this]
  exact h1
 ·intro h
  exact⟨(b,e),List.mem_filter.mpr ⟨h,decide_eq_true rfl⟩,rfl⟩
theorem rR(b:Nat)(rs:List (Nat×Nat)):(eP b rs).length<=rs.length:=by
 unfold eP
 rw [List.length_map]
 exact List.length_filter_le _ _
theorem uv{b:Nat}{rs:List (Nat×Nat)}(h:¬ ∃ r∈rs,r.1=b):eP b rs=[]:=by
 unfold eP
 rw [List.filter_eq_nil_iff.mpr fun r J=>by rw [decide_eq_true_eq];exact fun z=>h ⟨r,J,z⟩]
 rfl
noncomputable def il(ns:List Nat):List V:=ns.map fun(n:Nat)=>V.int (n:Int)
noncomputable def FE(rs:List (Nat×Nat)):Hp->Addr->Nat->Prop:=fun H a b=>H a=some (.lst (il (eP b rs)))
noncomputable def tm:Sp:=fun vs H Q _=>∃(l:Addr) (rs:List (Nat×Nat)),vs=[.ref l]/\fU H l rs/\rs.length<=1000/\
 ∀ d es H',ck H H'->H d=none->DN H H' d es (FE rs)->(∀ b,b∈es.map (·.1)↔∃ r∈rs,r.1=b)->Q (.ref d) H'
theorem mS:dD ["spans","ends","begin","end"] ["spans"] (cv jW):=⟨rfl,rfl,rfl,dkq,rfl,dkq,dkq⟩
theorem lG{ps:List Addr}{i:Nat}{x:V}(h:(ps.map V.ref)[i]? =some x):∃ p,ps[i]? =some p/\x= .ref p:=by
 rw [List.getElem?_map] at h
 cases hp:ps[i]? with
 | none=>rw [hp] at h;cases h
 | some c=>rw [hp] at h;exact⟨c,rfl,(Option.some.inj h).symm⟩
seal cV PS PE PT PA PG PI dj de in
theorem wZ{f:Addr}{fd:FuncData}(D:Df K mg "ends_by_begin" jW f fd):cu P w K mg base cC 1 f fd ["spans"] tm:=by
 refine D.F.ok mS (fun vs H Q E h=>?_) (fun cdv A outer s H vs Q E hr h=>?_)
 ·obtain⟨l,rs,rfl,_⟩:=h
  rfl
 ·obtain⟨l,rs,rfl,⟨ps,hL,hP⟩,hlen,k⟩:=h
  have hl:(sizeLine:Nat)=16777216:=sizeLine_eq
  have pl:=Gn.Paired.len hP
  refine⟨_,cD (dB (i:=1) mS.nd rfl (Or.inl rfl) A6)
   (cD (gN PassesOwn.never rfl (jh (pv 0)) (kT (n:=2) rfl (gF (dU (i:=2) mS.nd rfl (Or.inl rfl)) (gF (dU (i:=3) mS.nd rfl (Or.inl rfl)) kj)))
    (cz (g9 (gj F.plainAttrs_list F.slot_list_append F.type_list_append jr
     (PE.imp (t':=tw 1 2) (gj F.plainAttrs_dict F.slot_dict_setdefault F.type_dict_setdefault Bt (pv 1) (cf (pv 2) (cf (dR cg) cg))) fun _ _ _=>w9) (cf (pv 3) cg)))))
   (cz (cI (pv 1)))),?_⟩
  intro d hd
  refine⟨_,rfl,l,rfl,⟨_,cm.of (cG hd _ _ hL)⟩,?_⟩
  refine lZ (xs:=ps.map V.ref) (fun i σ H'=>∃(es:Ek) (o2 o3:Option V),σ=[some (.ref l),some (.ref d),o2,o3]/\ck H H'/\DN H H' d es (FE (rs.take i))/\es.length<=i/\(∀ b,b∈es.map (·.1)↔∃ r∈rs.take i,r.1=b)) ?_ ?_ ?_ ?_
  ·exact⟨[],none,none,rfl,cG hd,⟨cx,List.nodup_nil,List.nodup_nil,(fun e he=>nomatch he),(fun e he=>nomatch he)⟩,Nat.le_refl _,fun x=>by simp⟩
  ·rintro i σ H' _ ⟨es,o2,o3,_,sm,_⟩
   exact cm.of (sm _ _ hL)
  ·rintro i x σ H1 hx ⟨es,o2,o3,rfl,ag,hD,ah,J⟩
   obtain⟨p,hp,rfl⟩:=lG hx
   obtain⟨r,U,ay⟩:=jw hP hp
   have ar:H1 p=some (.tup [.int (r.1:Int),.int (r.2:Int)]):=ag _ _ ay
   have au:=(List.getElem?_eq_some_iff.mp U).1
   refine⟨p,_,rfl,cq.of ar,rfl,_,_,rfl,_,_,rfl,rfl,?_⟩
   have e1:rs.take (i + 1)=rs.take i++[r]:=take_snoc U
   have ak:∀ u:Nat,u≠r.1->eP u (rs.take (i + 1))=eP u (rs.take i):=fun u hu=>by
    rw [e1,tV,if_neg (fun q=>hu q.symm),List.append_nil]
   have ao:eP r.1 (rs.take (i + 1))=eP r.1 (rs.take i)++[r.2]:=by
    rw [e1,tV,if_pos rfl]
   refine⟨H,d,es,r.1,FE (rs.take i),rfl,rfl,hD,by(clear U hx hp pl hl;omega),fun z hz=>ag.free hz,fun e he=>⟨_,hD.f e he⟩,?_,?_,?_⟩
   ·intro G b y l' sb hb hf
    exact sb _ _ hf fun q=>by rw [q,hD.d] at hb;cases hb
   ·intro G z hn hz
    show G z=_
    rw [hz,uv fun q=>hn ((J r.1).mpr q)]
    rfl
   ·rintro p' av H2 sb aa ae aw ⟨l',ax⟩
    have af:H2 p'=some (.lst (il (eP r.1 (rs.take i)))):=aa.f _ ae
    have ll:=rR r.1 (rs.take i)
    have lt:=List.length_take_le i rs
    refine⟨.inl ⟨rfl,_,cm.of af⟩,_,rfl,p',_,_,rfl,rfl,af,(by unfold il;rw [List.length_map];(clear U hx hp ah pl;omega)),?_⟩
    have aq:d≠p':=fun q=>by rw [<-q,aa.d] at ax;cases ax
    refine⟨av,_,_,rfl,fun b u q=>?_,aa.put ae (by rw [cK aq];exact aa.d) (fun e he n1 n2 hf=>?_) ?_,?_,fun x=>?_⟩
    ·rw [cK (dA q (aa.n _ ae))]
     exact sb.new ag hd _ _ q
    ·show upd H2 p' _ e.2=_
     rw [cK n2,ak e.1 n1]
     exact hf
    ·show upd H2 p' _ p'=_
     rw [cx,ao]
     unfold il
     rw [List.map_append]
     rfl
    ·rcases aw with rfl | ⟨_,rfl,_⟩
     ·(clear aq lt ll au U hx hp pl hl hlen;omega)
     ·rw [List.length_append]
      show es.length + 1<=i + 1
      (clear aq lt ll au U hx hp pl hl hlen;omega)
    ·have hm:x∈av.map (·.1)↔x∈es.map (·.1)\/x=r.1:=by
      rcases aw with rfl | ⟨_,rfl,_⟩
      ·exact⟨.inl,fun q=>q.elim id fun z=>by rw [z];exact List.mem_map.mpr ⟨_,ae,rfl⟩⟩
      ·rw [List.map_append,List.mem_append]
       show(_\/x∈[r.1])↔_
       rw [List.mem_singleton]
     rw [hm,J,e1]
     constructor
     ·rintro(⟨y,hy,e⟩ | rfl)
      ·exact⟨y,List.mem_append_left _ hy,e⟩
      ·exact⟨r,List.mem_append_right _ (List.mem_singleton.mpr rfl),rfl⟩
     ·rintro⟨y,hy,e⟩
      rcases List.mem_append.mp hy with hy | hy
      ·exact .inl ⟨y,hy,e⟩
      ·rw [List.mem_singleton.mp hy] at e
       exact .inr e.symm
  ·rintro σ H' ⟨es,o2,o3,rfl,sm,hD,ah,J⟩
   have e:(ps.map V.ref).length=rs.length:=by rw [List.length_map,pl]
   rw [e] at hD ah J
   rw [List.take_length] at hD J
   exact⟨_,rfl,k d es H' sm hd hD J⟩
noncomputable def pX(n:Nat)(p q r:Nat×Nat):Prop:=p.2 < q.1/\q.1<=p.2 + n + 1/\r=(p.1,q.2)
noncomputable def ua:Sp:=fun vs H Q _=>∃(a b:Addr) (n:Nat) (J U:List (Nat×Nat)),vs=[.ref a,.ref b,.int ((n:Nat):Int)]/\n<=20/\fU H a J/\fU H b U/\J.length<=64/\U.length<=64/\(∀ r∈J,r.2 < 1000)/\
 ∀ L rs H',ck H H'->H L=none->fU H' L rs->rs.length<=100000->(∀ r,r∈rs↔∃ p∈J,∃ q∈U,pX n p q r)->Q (.ref L) H'
theorem ki:dD ["ones","others","far","ends","found","begin","end","next_begin"] ["ones","others","far"] (cv jK):=⟨rfl,rfl,rfl,dkq,rfl,dkq,dkq⟩
seal cV PS PE PT PA PG PI dj de in
theorem BC{f fe:Addr}{fd fde:FuncData}(D:Df K mg "spans_led_on" jK f fd)(DE:Df K mg "ends_by_begin" jW fe fde)(T:Txt mg):cu P w K mg base cC 2 f fd ["ones","others","far"] ua:=by
 have GE:cu P w K mg base cC 1 fe fde ["spans"] tm:=wZ DE
 have bE:=f9 (p:="spans") DE.F fun _ _ _ _ _ _ _=>rfl
 refine D.F.ok ki (fun vs H Q E h=>?_) (fun cdv A outer s H vs Q E hr h=>?_)
 ·obtain⟨a,b,n,ay,af,rfl,_⟩:=h
  rfl
 ·obtain⟨a,b,n,ay,af,rfl,hn,hA,hB,l1,l2,b1,k⟩:=h
  have hl:(sizeLine:Nat)=16777216:=sizeLine_eq
  have hu:=AD hr
  refine⟨_,cD (dB (i:=3) ki.nd rfl (Or.inl rfl) (cT GE hr rfl DE.m DE.F.kp bE .nil cH (cf (pv 1) cg)))
   (cD (dB (i:=4) ki.nd rfl (Or.inl rfl) (dR cg))
   (cD (gN PassesOwn.never rfl (jh (pv 0)) (kT (n:=2) rfl (gF (dU (i:=5) ki.nd rfl (Or.inr rfl)) (gF (dU (i:=6) ki.nd rfl (Or.inl rfl)) kj)))
    (cz (gN PassesOwn.never rfl (yh rfl T.range (cf (cy eA (pv 6) cj) (cf (cy eA (cy eA (pv 6) (pv 2)) cj) cg))) (dU (i:=7) ki.nd rfl (Or.inl rfl))
     (cz (g9 (gj F.plainAttrs_list F.slot_list_extend F.type_list_extend Bx (pv 4) (cf
      (gP (own:=1) (caps:=[5]) (N:=["last","begin"]) (N0:=["ones","others","far","ends","found","begin","end","next_begin"]) (sc0:=cv jK) rfl
       (jh (gj F.plainAttrs_dict F.slot_dict_get F.type_dict_get (yE hu) (pv 3) (cf (pv 7) (cf (dR cg) cg))))
       (fun _ _ _=>dU (i:=0) yC rfl (Or.inl rfl)) (fun _ _ _=>iU) (fun _ _ _=>fF (cf (pv 1) (cf (pv 0) cg))) (fW (by decide)) rfl rfl
       dkq rfl dkq dkq rfl dkq) cg)))))))
   (cz (cI (pv 4))))),?_⟩
  refine⟨_,rfl,b,af,rfl,hB,by(clear hu hl l1 hn;omega),fun d es H1 s1 hd hD aL=>?_⟩
  refine⟨eW,fun fo aA=>?_⟩
  obtain⟨ps,aG,aH⟩:=hA.same s1
  have pl:=Gn.Paired.len aH
  have aM:H fo=none:=s1.free aA
  refine⟨_,rfl,a,rfl,⟨_,cm.of (cG aA _ _ aG)⟩,?_⟩
  refine lZ (xs:=ps.map V.ref) (fun i σ H'=>∃(qs:List Addr) (fs:List (Nat×Nat)) (o5 o6 o7:Option V),σ=[some (.ref a),some (.ref b),some (.int ((n:Nat):Int)),some (.ref d),some (.ref fo),o5,o6,o7]/\ck H1 H'/\H' fo=some (.lst (qs.map V.ref))/\Paired (fg H') qs fs/\fs.length<=i * 1400/\
   ∀ r,r∈fs↔∃ p∈ay.take i,∃ q∈af,pX n p q r) ?_ ?_ ?_ ?_
  ·exact⟨[],[],none,none,none,rfl,cG aA,cx,.nil,Nat.zero_le _,fun r=>⟨(fun z=>nomatch z),fun⟨p,hp,_⟩=>by simp at hp⟩⟩
  ·rintro i σ H' _ ⟨qs,fs,o5,o6,o7,_,sm,_⟩
   exact cm.of (sm _ _ aG)
  ·rintro i x σ H2 hx ⟨qs,fs,o5,o6,o7,rfl,s2,aD,aE,aa,aq⟩
   obtain⟨pa,ae,rfl⟩:=lG hx
   obtain⟨p,U,aN⟩:=jw aH ae
   have ah:=(List.getElem?_eq_some_iff.mp U).1
   have J:=b1 p (List.mem_of_getElem? U)
   refine⟨pa,_,rfl,cq.of (s2 _ _ aN),rfl,_,_,rfl,_,_,rfl,rfl,?_⟩
   refine⟨_,rfl,_,_,rfl,rfl,_,rfl,_,rfl,_,_,rfl,rfl,_,_,rfl,rfl,_,_,rfl,by(clear ah U hx ae aa pl hu hl l2 l1;omega),?_⟩
   have ak:(((p.2:Nat):Int) + ((n:Nat):Int) + 2 - (((p.2:Nat):Int) + 1)).toNat=n + 1:=by(clear J ah U hx ae aa pl hu hl l2 l1 hn;omega)
   rw [ak]
   refine jF (fun j σ H'=>∃(qs:List Addr) (fs:List (Nat×Nat)) (o7:Option V),σ=[some (.ref a),some (.ref b),some (.int ((n:Nat):Int)),some (.ref d),some (.ref fo),some (.int ((p.1:Nat):Int)),some (.int ((p.2:Nat):Int)),o7]/\ck H1 H'/\H' fo=some (.lst (qs.map V.ref))/\Paired (fg H') qs fs/\fs.length<=i * 1400 + j * 64/\
    ∀ r,r∈fs↔(∃ p∈ay.take i,∃ q∈af,pX n p q r)\/∃ q∈af,p.2 < q.1/\q.1<=p.2 + j/\r=(p.1,q.2)) ?_ ?_ ?_
   ·exact⟨qs,fs,_,rfl,s2,aD,aE,by(clear ak J ah U hx ae pl hu hl l2 l1 hn;omega),fun r=>(aq r).trans ⟨.inl,fun z=>z.elim id fun⟨q,_,h1,h2,_⟩=>by omega⟩⟩
   ·rintro j σ H3 hj ⟨qs,fs,o7,rfl,s3,ar,aB,ag,au⟩
    have aI:=s3 _ _ hD.d
    refine⟨_,rfl,.inl ⟨rfl,_,cm.of ar⟩,_,rfl,sV aI,_,rfl,eW,fun z hz=>?_⟩
    have s4:ck H3 (upd H3 z (.lst [])):=cG hz
    have aJ:upd H3 z (.lst []) z=some (.lst []):=cx
    generalize upd H3 z (.lst [])=H4 at s4 aJ ⊢
    have aO:(V.int (((p.2:Nat):Int) + 1 + ((j:Nat):Int)))=kV (ky (p.2 + 1 + j)):=by
     show V.int _=V.int _
     congr 1
    refine⟨d,_,.ref z,df (eG es) (ky (p.2 + 1 + j)),rfl,rfl,?_,?_⟩
    ·show kP H4 d (V.int (((p.2:Nat):Int) + 1 + ((j:Nat):Int))) _
     rw [aO]
     exact kP.k (k:=ky (p.2 + 1 + j)) (s4 _ _ aI)
    obtain⟨c,hc,aK⟩:∃ c,(df (eG es) (ky (p.2 + 1 + j))).getD (.ref z)=V.ref c/\H4 c=some (.lst (il (eP (p.2 + 1 + j) af))):=by
     by_cases av:(p.2 + 1 + j)∈es.map (·.1)
     ·obtain⟨c,e1,e2⟩:=sk av
      exact⟨c,by rw [e1];rfl,s4 _ _ (s3 _ _ (hD.f _ e2))⟩
     ·exact⟨z,by rw [sY av];rfl,by rw [aJ,uv fun q=>av ((aL _).mpr q)];rfl⟩
    rw [hc]
    have ll:=rR (p.2 + 1 + j) af
    have ao:(il (eP (p.2 + 1 + j) af)).length=(eP (p.2 + 1 + j) af).length:=List.length_map _
    refine⟨c,rfl,⟨_,cm.of aK⟩,oI (xs:=il (eP (p.2 + 1 + j) af)) (fun i ys H'=>ck H4 H'/\∃ us:List Addr,ys=us.map V.ref/\Paired (fg H') us (((eP (p.2 + 1 + j) af).take i).map fun e=>(p.1,e))) (by(clear ag hj ak J ah U hx ae aa pl hu l1 hn;omega)) (fun i ys H' ⟨sm,_⟩=>cm.of (sm _ _ aK)) ⟨ck.refl _,[],rfl,.nil⟩ ?_ ?_⟩
    ·rintro i' y ys H5 N hy ⟨s5,us,rfl,aw⟩ hN
     unfold il at hy
     rw [List.getElem?_map] at hy
     cases he:(eP (p.2 + 1 + j) af)[i']? with
     | none=>rw [he] at hy;cases hy
     | some e=>
      rw [he] at hy
      have ey:V.int ((e:Nat):Int)=y:=Option.some.inj hy
      subst ey
      refine g1 ⟨_,rfl,_,rfl,eU,fun q hq=>hN _ _ ⟨s5.upf hq,us++[q],by rw [List.map_append];rfl,?_⟩⟩
      rw [take_snoc he,List.map_append]
      exact Gn.Paired.app (fV (cG hq) aw) cx
    ·rintro ys H5 ⟨s5,us,rfl,aw⟩ _ q hq
     rw [ao,List.take_length] at aw
     have aC:=(s4.trans s5).upf (o:= .lst (us.map V.ref)) hq
     have aF:=aC _ _ ar
     have ul:=Gn.Paired.len aw
     rw [List.length_map] at ul
     have ql:=Gn.Paired.len aB
     refine⟨fo,q,_,_,rfl,rfl,aF,cx,by rw [List.length_map,List.length_map];(clear ao ak J U hx ae aa pl hu;omega),?_⟩
     have ax:fo≠q:=dA (s5 _ _ (s4 _ _ ar)) hq
     have s6:∀ b o,b≠fo->upd H5 q (.lst (us.map V.ref)) b=some o->upd (upd H5 q (.lst (us.map V.ref))) fo (.lst (qs.map V.ref++us.map V.ref)) b=some o:=fun b o hb e=>by rw [cK hb];exact e
     refine⟨qs++us,fs++(eP (p.2 + 1 + j) af).map (fun e=>(p.1,e)),_,rfl,fun b u e=>?_,by rw [cx,List.map_append],?_,?_,fun r=>?_⟩
     ·rw [cK (dA e aA)]
      exact aC _ _ (s3 _ _ e)
     ·refine pA (Gn.Paired.imp2 aB fun x y e=>?_) (Gn.Paired.imp2 aw fun x y e=>?_)
      ·exact s6 _ _ (jH (aC _ _ e) aF (by intro z;cases z)) (aC _ _ e)
      ·have e':=cG (o:= .lst (us.map V.ref)) hq _ _ e
       exact s6 _ _ (jH e' aF (by intro z;cases z)) e'
     ·rw [List.length_append,List.length_map]
      have:(j + 1) * 64=j * 64 + 64:=by(clear ax ql ul ao ll ag hj ak J ah U hx ae aa pl hu hl l2 l1 hn;omega)
      (clear ax ql ul ao hj ak J ah U hx ae aa pl hu hl l1 hn;omega)
     ·rw [List.mem_append,au,or_assoc]
      refine or_congr Iff.rfl ?_
      constructor
      ·rintro(⟨q',h0,h1,h2,h3⟩ | h)
       ·exact⟨q',h0,h1,by(clear h1 ax ql ul ao ll ag hj ak J ah U hx ae aa pl hu hl l2 l1 hn;omega),h3⟩
       ·obtain⟨e,he,rfl⟩:=List.mem_map.mp h
        exact⟨_,vo.mp he,by simp only;(clear ax ql ul ao ll ag hj ak J ah U hx ae aa pl hu hl l2 l1 hn;omega),by simp only;omega,rfl⟩
      ·rintro⟨q',h0,h1,h2,h3⟩
       by_cases aP:q'.1<=p.2 + j
       ·exact .inl ⟨q',h0,h1,aP,h3⟩
       ·have e:q'.1=p.2 + 1 + j:=by(clear h1 ax ql ul ao ll ag hj ak J ah U hx ae aa pl hu hl l2 l1 hn;omega)
        refine .inr (List.mem_map.mpr ⟨q'.2,vo.mpr ?_,h3.symm⟩)
        rw [<-e]
        exact h0
   ·rintro σ H3 ⟨qs,fs,o7,rfl,s3,ar,aB,ag,au⟩
    refine⟨qs,fs,_,_,_,rfl,s3,ar,aB,by(clear ak J ah U hx ae aa pl hu hl l2 l1;omega),fun r=>?_⟩
    rw [au,take_snoc U]
    constructor
    ·rintro(⟨p',h1,h2⟩ | ⟨q,h0,h1,h2,h3⟩)
     ·exact⟨p',List.mem_append_left _ h1,h2⟩
     ·exact⟨p,List.mem_append_right _ (List.mem_singleton.mpr rfl),q,h0,h1,by(clear h1 ag ak J ah U hx ae aa pl hu hl l2 l1 hn;omega),h3⟩
    ·rintro⟨p',h1,q,h0,h2,h3,h4⟩
     rcases List.mem_append.mp h1 with h1 | h1
     ·exact .inl ⟨p',h1,q,h0,h2,h3,h4⟩
     ·rw [List.mem_singleton.mp h1] at h2 h3 h4
      exact .inr ⟨q,h0,h2,by(clear h2 ag ak J ah U hx ae aa pl hu hl l2 l1 hn;omega),h4⟩
  ·rintro σ H2 ⟨qs,fs,o5,o6,o7,rfl,s2,aD,aE,aa,aq⟩
   have e:(ps.map V.ref).length=ay.length:=by rw [List.length_map,pl]
   rw [e] at aa aq
   rw [List.take_length] at aq
   exact⟨_,rfl,k fo fs H2 (s1.trans s2) aM ⟨qs,aD,aE⟩ (by(clear e pl hu hl l2 hn;omega)) aq⟩
end
noncomputable def eM:Kn->Stmt
 | .w=>inClass cW 3 | .s=>inClass cS 3 | .r=>inClass cR 3 | .n=>inClass cN 4 | .b=>inClass cB 6 | .e=>inClass cE 6 | .o=>inClass cO 6
noncomputable def kQ:Kn->Stmt
 | .b=>inClass cB 5 | .e=>inClass cE 5 | .o=>inClass cO 5 | _=>inClass du 2
noncomputable def gu:Kn->Str
 | .w=>"Word.spans" | .s=>"Start.spans" | .r=>"Row.spans" | .n=>"Near.spans" | .b=>"Both.spans" | .e=>"Either.spans" | .o=>"Not.spans"
noncomputable def mj:Kn->Str
 | .b=>"Both.holds" | .e=>"Either.holds" | .o=>"Not.holds" | _=>"Ask.holds"
theorem gJ:jB "spans":=by unfold jB;decide +kernel
theorem kF:jB "holds":=by unfold jB;decide +kernel
theorem q9{X:Cx}{K:W.Frag}{e:Expr}{f:Str}{pos:Pos}{ta:TE}(h:X.K=K)(he:PE X e ta)(hb:attributeBase e f X.env (eval e X.env)=eval e X.env):PE X (.Attribute e f pos) (ud K ta f):=by subst h;exact eK he hb
theorem mH:(["place","word","self"]:List Str).Nodup:=dkq
section
variable {P : Program} {w : World} {K : PySem.W.Frag} {mg : Str -> Option Value} {base : Heap} {C f : Kn -> Addr} {fd : Kn -> FuncData}
noncomputable def gc(C:Kn->Addr)(n:Nat)(i:Kn):Sp:=fun vs H Q _=>∃(a l:Addr) (t:At) (ws:List Str),vs=[.ref a,.ref l]/\dI C H a t/\Gd t/\t.dep<=n/\t.kn=i/\H l=some (.lst (ws.map V.str))/\ws.length<=64/\(∀ z∈ws,Ow z)/\
 ∀ L rs H',ck H H'->H L=none->fU H' L rs->fE t ws rs->Q (.ref L) H'
theorem gT(M:Mt K C "spans" gu eM f fd)(i:Kn):Binds K (fd i) ["self","words"] []:=by
 cases i<;>exact(M.F _).binds (ps:=["self","words"]) fun _ _ _ _ _ _ us J=>eT (fun _ _=>rfl) us J
theorem Cr:dD ["self","words"] ["self","words"] (cv (eM .w)):=⟨rfl,rfl,rfl,dkq,rfl,dkq,dkq⟩
theorem BG:dD ["self","words"] ["self","words"] (cv (eM .s)):=⟨rfl,rfl,rfl,dkq,rfl,dkq,dkq⟩
theorem nF:dD ["self","words","size","found","begin"] ["self","words"] (cv (eM .r)):=⟨rfl,rfl,rfl,dkq,rfl,dkq,dkq⟩
theorem pj:dD ["self","words","ones","others"] ["self","words"] (cv (eM .n)):=⟨rfl,rfl,rfl,dkq,rfl,dkq,dkq⟩
theorem ze:dD ["self","words"] ["self","words"] (cv (eM .b)):=⟨rfl,rfl,rfl,dkq,rfl,dkq,dkq⟩
theorem AR:dD ["self","words"] ["self","words"] (cv (eM .e)):=⟨rfl,rfl,rfl,dkq,rfl,dkq,dkq⟩
theorem Cn:dD ["self","words"] ["self","words"] (cv (eM .o)):=⟨rfl,rfl,rfl,dkq,rfl,dkq,dkq⟩
seal cV PS PE PT PA PG PI dj de in
theorem yJ(Cl:Cs K C)(M:Mt K C "spans" gu eM f fd)(T:Txt mg)(n:Nat):cu P w K mg base cC 1 (f .w) (fd .w) ["self","words"] (gc C n .w):=by
 refine(M.F .w).ok Cr (fun vs H Q E h=>?_) (fun cdv A outer s H vs Q E hr h=>?_)
 ·obtain⟨a,l,t,ws,rfl,_⟩:=h
  rfl
 ·obtain⟨a,l,t,ws,rfl,hA,g,hd,hk,hl,hw,ah,k⟩:=h
  have hz:(sizeLine:Nat)=16777216:=sizeLine_eq
  cases t with
  | word z=>
   obtain⟨dx,hx⟩:=hA
   refine⟨_,cz (cI (gP (own:=2) (caps:=[0]) (N:=["place","word","self"]) (N0:=["self","words"]) (sc0:=cv (eM .w)) rfl (vz rfl T.enum (cf (pv 1) cg))
    (fun _ _ _=>kT (n:=2) rfl (gF (dU (i:=0) mH rfl (Or.inl rfl)) (gF (dU (i:=1) mH rfl (Or.inl rfl)) kj)))
    (fun _ _ _=>mE (cZ dQ (pv 1) (q9 (K:=K) rfl (pv 2) rfl) (cX _)))
    (fun _ _ _=>fF (cf (pv 0) (cf (pv 0) cg))) (qI (kr (fW (by decide)) (kr (fW (by decide)) pK))) rfl rfl
    dkq rfl dkq dkq rfl dkq)),?_⟩
   have aa:(ws.map V.str).length=ws.length:=List.length_map _
   refine⟨_,rfl,l,ws.map V.str,rfl,hl,sQ (xs:=ws.map V.str) (fun i ys H'=>ck H H'/\∃ us:List Addr,ys=us.map V.ref/\Paired (fg H') us (eQ (eH (.word z) ws) 0 i)) (by rw [aa];(clear aa hd;omega)) (fun i ys H' ⟨sm,_⟩=>sm _ _ hl) ⟨ck.refl _,[],rfl,.nil⟩ ?_ ?_⟩
   ·rintro i x ys H1 tt N af ⟨s1,us,rfl,J⟩ ag hN
    obtain⟨y,hy,rfl⟩:=rT af
    have s2:ck H1 (upd H1 tt (.tup [.int i,.str y])):=cG ag
    refine⟨tt,_,rfl,cq.of cx,rfl,_,_,rfl,_,_,rfl,rfl,?_⟩
    generalize upd H1 tt (.tup [.int i,.str y])=H2 at s2 ⊢
    have ae:=s1.trans s2
    refine⟨_,rfl,_,rfl,a,C .w,dx,_,_,rfl,ae _ _ hx,Cl.cl _,Cl.nW _,rQ z,rfl,_,rfl,?_⟩
    have e:decide (V.str y=V.str z)=eH (.word z) ws i:=by
     show _=decide (ws[i]? =some z)
     rw [hy]
     exact decide_eq_decide.mpr ⟨fun q=>by rw [V.str.inj q],fun q=>by rw [Option.some.inj q]⟩
    cases U:eH (.word z) ws i with
    | true=>
     rw [e,U]
     refine cJ ⟨_,rfl,_,rfl,eU,fun q hq=>hN _ _ ⟨ae.upf hq,us++[q],by rw [List.map_append];rfl,?_⟩⟩
     rw [j7 U]
     exact Gn.Paired.app (fV (s2.upf hq) J) cx
    | false=>
     rw [e,U]
     refine cY (hN _ _ ⟨ae,us,rfl,?_⟩)
     rw [jJ U]
     exact fV s2 J
   ·rintro ys H1 ⟨s1,us,rfl,J⟩ _ p U
    rw [aa] at J
    exact k p (iE (.word z) ws) _ (s1.upf U) (s1.free U) ⟨us,cx,fV (cG U) J⟩ (fE.leaf rfl)
  | _=>cases hk
seal cV PS PE PT PA PG PI dj de in
theorem zW(Cl:Cs K C)(M:Mt K C "spans" gu eM f fd)(T:Txt mg)(n:Nat):cu P w K mg base cC 1 (f .s) (fd .s) ["self","words"] (gc C n .s):=by
 refine(M.F .s).ok BG (fun vs H Q E h=>?_) (fun cdv A outer s H vs Q E hr h=>?_)
 ·obtain⟨a,l,t,ws,rfl,_⟩:=h
  rfl
 ·obtain⟨a,l,t,ws,rfl,hA,g,hd,hk,hl,hw,ah,k⟩:=h
  have hz:(sizeLine:Nat)=16777216:=sizeLine_eq
  cases t with
  | start z=>
   obtain⟨dx,hx⟩:=hA
   refine⟨_,cz (cI (gP (own:=2) (caps:=[0]) (N:=["place","word","self"]) (N0:=["self","words"]) (sc0:=cv (eM .s)) rfl (vz rfl T.enum (cf (pv 1) cg))
    (fun _ _ _=>kT (n:=2) rfl (gF (dU (i:=0) mH rfl (Or.inl rfl)) (gF (dU (i:=1) mH rfl (Or.inl rfl)) kj)))
    (fun _ _ _=>mE (fT (wB (K:=K) rfl F.plainAttrs_str F.slot_str_startswith F.type_str_startswith zo (pv 1) (cf (q9 (K:=K) rfl (pv 2) rfl) cg))))
    (fun _ _ _=>fF (cf (pv 0) (cf (pv 0) cg))) (qI (kr (fW (by decide)) (kr (fW (by decide)) pK))) rfl rfl
    dkq rfl dkq dkq rfl dkq)),?_⟩
   have aa:(ws.map V.str).length=ws.length:=List.length_map _
   refine⟨_,rfl,l,ws.map V.str,rfl,hl,sQ (xs:=ws.map V.str) (fun i ys H'=>ck H H'/\∃ us:List Addr,ys=us.map V.ref/\Paired (fg H') us (eQ (eH (.start z) ws) 0 i)) (by rw [aa];(clear aa hd;omega)) (fun i ys H' ⟨sm,_⟩=>sm _ _ hl) ⟨ck.refl _,[],rfl,.nil⟩ ?_ ?_⟩
   ·rintro i x ys H1 tt N af ⟨s1,us,rfl,J⟩ ag hN
    obtain⟨y,hy,rfl⟩:=rT af
    have s2:ck H1 (upd H1 tt (.tup [.int i,.str y])):=cG ag
    refine⟨tt,_,rfl,cq.of cx,rfl,_,_,rfl,_,_,rfl,rfl,?_⟩
    generalize upd H1 tt (.tup [.int i,.str y])=H2 at s2 ⊢
    have ae:=s1.trans s2
    refine⟨_,rfl,rfl,_,rfl,a,C .s,dx,_,_,rfl,ae _ _ hx,Cl.cl _,Cl.nW _,rQ z,y,z,rfl,rfl,_,rfl,?_⟩
    have e:Txt.startswith y z=eH (.start z) ws i:=by
     show _=(match ws[i]? with | some y=>Txt.startswith y z | none=>false)
     rw [hy]
    cases U:eH (.start z) ws i with
    | true=>
     rw [e,U]
     refine cJ ⟨_,rfl,_,rfl,eU,fun q hq=>hN _ _ ⟨ae.upf hq,us++[q],by rw [List.map_append];rfl,?_⟩⟩
     rw [j7 U]
     exact Gn.Paired.app (fV (s2.upf hq) J) cx
    | false=>
     rw [e,U]
     refine cY (hN _ _ ⟨ae,us,rfl,?_⟩)
     rw [jJ U]
     exact fV s2 J
   ·rintro ys H1 ⟨s1,us,rfl,J⟩ _ p U
    rw [aa] at J
    exact k p (iE (.start z) ws) _ (s1.upf U) (s1.free U) ⟨us,cx,fV (cG U) J⟩ (fE.leaf rfl)
  | _=>cases hk
theorem vd{ws zs:List Str}{i:Nat}(h:i < ws.length - (zs.length - 1))(h1:1<=zs.length):i + zs.length<=ws.length:=by(clear h1;omega)
seal cV PS PE PT PA PG PI dj de in
theorem Aj(Cl:Cs K C)(M:Mt K C "spans" gu eM f fd)(T:Txt mg)(n:Nat):cu P w K mg base cC 1 (f .r) (fd .r) ["self","words"] (gc C n .r):=by
 refine(M.F .r).ok nF (fun vs H Q E h=>?_) (fun cdv A outer s H vs Q E hr h=>?_)
 ·obtain⟨a,l,t,ws,rfl,_⟩:=h
  rfl
 ·obtain⟨a,l,t,ws,rfl,hA,g,hd,hk,hl,hw,ak,k⟩:=h
  have hz:(sizeLine:Nat)=16777216:=sizeLine_eq
  cases t with
  | row zs=>
   obtain⟨dx,q0,hx,af⟩:=hA
   obtain⟨g2,g8,g3⟩:=g
   refine⟨_,cD (dB (i:=2) nF.nd rfl (Or.inl rfl) (dF fO rfl T.len eZ (cf (eK (pv 0) rfl) cg)))
    (cD (dB (i:=3) nF.nd rfl (Or.inl rfl) (dR cg))
    (cD (gN PassesOwn.never rfl (iP rfl T.range (cf (cy eA (cy iy (dF fO rfl T.len eZ (cf (pv 1) cg)) (pv 2)) cj) cg)) (dU (i:=4) nF.nd rfl (Or.inl rfl))
     (cz (dC (cZ (kf hr.units100) (jy p7 rfl T.tuple kz (cf (jg qh (pv 1) (hV (pv 4)) (hV (cy eA (pv 4) (pv 2)))) cg)) (eK (pv 0) rfl) (cX _))
      (cz (g9 (gj F.plainAttrs_list F.slot_list_append F.type_list_append jr (pv 3) (cf (fF (cf (pv 4) (cf (cy iy (cy eA (pv 4) (pv 2)) cj) cg))) cg)))) dz)))
    (cz (cI (pv 3))))),?_⟩
   refine⟨_,rfl,a,C .r,dx,_,_,rfl,hx,Cl.cl _,Cl.nR _,uO q0,q0,_,rfl,.inr (cq.of af),?_⟩
   refine⟨eW,fun fo aa=>?_⟩
   have zl:(zs.map V.str).length=zs.length:=List.length_map _
   have J:(ws.map V.str).length=ws.length:=List.length_map _
   refine⟨_,rfl,l,_,rfl,.inl (cm.of (cG aa _ _ hl)),_,rfl,_,_,rfl,rfl,_,_,rfl,rfl,_,rfl,by rw [J,zl];(clear J zl g2 hd hz hw;omega),by rw [J,zl];omega,?_⟩
   have ej:(((ws.map V.str).length:Int) - ((zs.map V.str).length:Int) + 1).toNat=ws.length - (zs.length - 1):=by rw [J,zl];(clear J zl g8 hd hz hw;omega)
   rw [ej]
   refine jF (fun j σ H'=>∃(xs:List V) (o4:Option V),σ=[some (.ref a),some (.ref l),some (.int ((zs.map V.str).length:Nat)),some (.ref fo),o4]/\Gr H H' fo xs (eQ (eH (.row zs) ws) (zs.length - 1) j)) ?_ ?_ ?_
   ·exact⟨[],none,rfl,Gr.new aa⟩
   ·rintro j σ H1 hj ⟨xs,o4,rfl,gr⟩
    have ae:=vd hj (by(clear hj g8 g2 hd hz hw;omega))
    have s1:=gr.sm
    refine⟨_,rfl,_,rfl,_,rfl,_,rfl,_,rfl,_,_,rfl,rfl,_,rfl,l,_,rfl,cm.of (s1 _ _ hl),fun p hp=>?_⟩
    have ec:dZ (ws.map V.str) (some (0 + (j:Int))) (some (0 + (j:Int) + (((zs.map V.str).length:Nat):Int)))=((ws.drop j).take zs.length).map V.str:=by
     rw [og j zs.length (by(clear ae hj ej J zl g8 g2 hd hz hw;omega)) (by rw [zl];omega) (by rw [J];exact ae),List.map_take,List.map_drop]
    refine⟨p,((ws.drop j).take zs.length).map V.str,rfl,.inl ⟨cm.of (cx.trans (congrArg (fun x=>some (HO.lst x)) ec)),fun q hq=>?_⟩⟩
    have s2:=(cG (o:= .lst (dZ (ws.map V.str) (some (0 + (j:Int))) (some (0 + (j:Int) + (((zs.map V.str).length:Nat):Int))))) hp).upf (o:= .tup (((ws.drop j).take zs.length).map V.str)) hq
    have eq2:upd (upd H1 p (.lst (dZ (ws.map V.str) (some (0 + (j:Int))) (some (0 + (j:Int) + (((zs.map V.str).length:Nat):Int)))))) q (.tup (((ws.drop j).take zs.length).map V.str)) q=some (.tup (((ws.drop j).take zs.length).map V.str)):=cx
    have U:=gr.same s2
    generalize upd (upd H1 p (.lst (dZ (ws.map V.str) (some (0 + (j:Int))) (some (0 + (j:Int) + (((zs.map V.str).length:Nat):Int)))))) q (.tup (((ws.drop j).take zs.length).map V.str))=H2 at s2 eq2 U ⊢
    have ag:=U.sm
    refine⟨_,rfl,a,C .r,dx,_,_,rfl,ag _ _ hx,Cl.cl _,Cl.nR _,uO q0,.tuple (((ws.drop j).take zs.length).map .str),.tuple (zs.map .str),.tup (cq.of eq2) (iK _),.tup (cq.of (ag _ _ af)) (iK zs),uM (fun y hy=>(ak y (List.mem_of_mem_drop (List.mem_of_mem_take hy))).2),uM (fun y hy=>mD (g3 y hy)),?_,_,rfl,?_⟩
    ·show min (PyData.depthAll _ + 1) (PyData.depthAll _ + 1)<=100
     rw [kq,kq]
     decide
    have e:PyData.eqv (.tuple (((ws.drop j).take zs.length).map .str)) (.tuple (zs.map .str))=eH (.row zs) ws j:=zK _ _
    rw [e]
    have xl:=U.len
    have ao:=pG (eH (.row zs) ws) (zs.length - 1) j
    cases hp':eH (.row zs) ws j with
    | true=>
     refine cJ ⟨_,rfl,.inl ⟨rfl,_,cm.of U.fo⟩,_,rfl,_,rfl,_,rfl,_,_,rfl,rfl,_,_,rfl,rfl,eU,fun tq ah=>?_⟩
     refine⟨fo,xs,_,rfl,rfl,cG ah _ _ U.fo,by(clear hj ej J zl g8 g2 hd;omega),?_⟩
     refine⟨xs++[.ref tq],_,rfl,?_⟩
     rw [j7 hp']
     exact U.app aa ah (by simp) (by simp;(clear ao xl ae hj g8 g2 hd hz hw;omega))
    | false=>
     refine cY ⟨xs,_,rfl,?_⟩
     rw [jJ hp']
     exact U
   ·rintro σ H1 ⟨xs,o4,rfl,gr⟩
    exact⟨_,rfl,k fo (iE (.row zs) ws) H1 gr.sm aa gr.spl (fE.leaf rfl)⟩
  | _=>cases hk
theorem lA{H:Hp}{l1 l2 p:Addr}{rs1 rs2:List (Nat×Nat)}{ps1 ps2:List Addr}(h1:Paired (fg H) ps1 rs1)(h2:Paired (fg H) ps2 rs2)(hp:H p=none):fU (upd H p (.lst (ps1.map V.ref++ps2.map V.ref))) p (rs1++rs2):=
 ⟨ps1++ps2,by rw [cx,List.map_append],pA (fV (cG hp) h1) (fV (cG hp) h2)⟩
seal cV PS PE PT PA PG PI dj de in
theorem y3{fo:Addr}{fdo:FuncData}(Cl:Cs K C)(M:Mt K C "spans" gu eM f fd)(DO:Df K mg "each_once" i8 fo fdo)(T:Txt mg)(n:Nat)(IH:0 < n->∀ i,cu P w K mg base cC (n + 3) (f i) (fd i) ["self","words"] (gc C (n - 1) i)):cu P w K mg base cC (n + 4) (f .b) (fd .b) ["self","words"] (gc C n .b):=by
 have GO:cu P w K mg base cC (n + 3) fo fdo ["spans"] m7:=(qo DO T).mono (by omega)
 have bO:=f9 (p:="spans") DO.F fun _ _ _ _ _ _ _=>rfl
 refine(M.F .b).ok ze (fun vs H Q E h=>?_) (fun cdv A outer s H vs Q E hr h=>?_)
 ·obtain⟨a,l,t,ws,rfl,_⟩:=h
  rfl
 ·obtain⟨a,l,t,ws,rfl,hA,g,hd,hk,hl,hw,J,k⟩:=h
  have hz:(sizeLine:Nat)=16777216:=sizeLine_eq
  cases t with
  | both x y=>
   obtain⟨dx,p,q,hx,hp,hq⟩:=hA
   have ae:max x.dep y.dep + 1<=n:=hd
   have hn:0 < n:=by(clear hd hz hw;omega)
   refine⟨_,cz (cI (cT GO hr rfl DO.m DO.F.kp bO .nil cH (cf (cy m9 (fI (eK (pv 0) rfl) Cl.cl M.M (IH hn) hr (gT M) cH (cf (pv 1) cg)) (fI (eK (pv 0) rfl) Cl.cl M.M (IH hn) hr (gT M) cH (cf (pv 1) cg))) cg))),?_⟩
   obtain⟨dp,fp,ep,lp⟩:=hp.ob
   refine⟨_,rfl,a,C .b,dx,_,_,rfl,hx,Cl.cl _,Cl.n1 _,j6 p q,x.kn,p,dp,fp,rfl,ep,lp _ gJ,_,rfl,p,l,x,ws,rfl,hp,g.1,by(clear hn hd hz hw;omega),rfl,hl,hw,J,fun L1 af H1 s1 n1 e1 S1=>?_⟩
   obtain⟨dq,fq,eq,lq⟩:=(hq.same s1).ob
   refine⟨_,rfl,a,C .b,dx,_,_,rfl,s1 _ _ hx,Cl.cl _,Cl.n2 _,jY p q,y.kn,q,dq,fq,rfl,eq,lq _ gJ,_,rfl,q,l,y,ws,rfl,hq.same s1,g.2,by(clear hn hd hz hw;omega),rfl,s1 _ _ hl,hw,J,fun L2 ag H2 s2 n2 e2 S2=>?_⟩
   have t1:=S1.len g.1 hw
   have t2:=S2.len g.2 hw
   obtain⟨ah,h1,p1⟩:=e1.same s2
   obtain⟨ak,h2,p2⟩:=e2
   have q1:=Gn.Paired.len p1
   have q2:=Gn.Paired.len p2
   refine⟨L1,L2,_,_,rfl,rfl,h1,h2,by rw [List.length_map,List.length_map];(clear hn ae hd hw;omega),fun L hL=>?_⟩
   refine⟨L,af++ag,rfl,lA (l1:=L1) (l2:=L2) p1 p2 hL,fun r hr=>?_,fun L' rs H' s' nL e' up me=>?_⟩
   ·rcases List.mem_append.mp hr with hr | hr
    ·exact⟨(S1.U g.1 hw r hr).1,(S1.U g.1 hw r hr).2.2⟩
    ·exact⟨(S2.U g.2 hw r hr).1,(S2.U g.2 hw r hr).2.2⟩
   ·have aa:=(s1.trans s2).upf (o:= .lst (ah.map V.ref++ak.map V.ref)) hL
    refine k L' rs H' (aa.trans s') (aa.free nL) e' ⟨up,fun r=>?_⟩
    rw [me,List.mem_append,S1.mem,S2.mem]
    exact Iff.rfl
  | _=>cases hk
seal cV PS PE PT PA PG PI dj de in
theorem zt{fo:Addr}{fdo:FuncData}(Cl:Cs K C)(M:Mt K C "spans" gu eM f fd)(DO:Df K mg "each_once" i8 fo fdo)(T:Txt mg)(n:Nat)(IH:0 < n->∀ i,cu P w K mg base cC (n + 3) (f i) (fd i) ["self","words"] (gc C (n - 1) i)):cu P w K mg base cC (n + 4) (f .e) (fd .e) ["self","words"] (gc C n .e):=by
 have GO:cu P w K mg base cC (n + 3) fo fdo ["spans"] m7:=(qo DO T).mono (by omega)
 have bO:=f9 (p:="spans") DO.F fun _ _ _ _ _ _ _=>rfl
 refine(M.F .e).ok AR (fun vs H Q E h=>?_) (fun cdv A outer s H vs Q E hr h=>?_)
 ·obtain⟨a,l,t,ws,rfl,_⟩:=h
  rfl
 ·obtain⟨a,l,t,ws,rfl,hA,g,hd,hk,hl,hw,J,k⟩:=h
  have hz:(sizeLine:Nat)=16777216:=sizeLine_eq
  cases t with
  | either x y=>
   obtain⟨dx,p,q,hx,hp,hq⟩:=hA
   have ae:max x.dep y.dep + 1<=n:=hd
   have hn:0 < n:=by(clear hd hz hw;omega)
   refine⟨_,cz (cI (cT GO hr rfl DO.m DO.F.kp bO .nil cH (cf (cy m9 (fI (eK (pv 0) rfl) Cl.cl M.M (IH hn) hr (gT M) cH (cf (pv 1) cg)) (fI (eK (pv 0) rfl) Cl.cl M.M (IH hn) hr (gT M) cH (cf (pv 1) cg))) cg))),?_⟩
   obtain⟨dp,fp,ep,lp⟩:=hp.ob
   refine⟨_,rfl,a,C .e,dx,_,_,rfl,hx,Cl.cl _,Cl.n1 _,j6 p q,x.kn,p,dp,fp,rfl,ep,lp _ gJ,_,rfl,p,l,x,ws,rfl,hp,g.1,by(clear hn hd hz hw;omega),rfl,hl,hw,J,fun L1 af H1 s1 n1 e1 S1=>?_⟩
   obtain⟨dq,fq,eq,lq⟩:=(hq.same s1).ob
   refine⟨_,rfl,a,C .e,dx,_,_,rfl,s1 _ _ hx,Cl.cl _,Cl.n2 _,jY p q,y.kn,q,dq,fq,rfl,eq,lq _ gJ,_,rfl,q,l,y,ws,rfl,hq.same s1,g.2,by(clear hn hd hz hw;omega),rfl,s1 _ _ hl,hw,J,fun L2 ag H2 s2 n2 e2 S2=>?_⟩
   have t1:=S1.len g.1 hw
   have t2:=S2.len g.2 hw
   obtain⟨ah,h1,p1⟩:=e1.same s2
   obtain⟨ak,h2,p2⟩:=e2
   have q1:=Gn.Paired.len p1
   have q2:=Gn.Paired.len p2
   refine⟨L1,L2,_,_,rfl,rfl,h1,h2,by rw [List.length_map,List.length_map];(clear hn ae hd hw;omega),fun L hL=>?_⟩
   refine⟨L,af++ag,rfl,lA (l1:=L1) (l2:=L2) p1 p2 hL,fun r hr=>?_,fun L' rs H' s' nL e' up me=>?_⟩
   ·rcases List.mem_append.mp hr with hr | hr
    ·exact⟨(S1.U g.1 hw r hr).1,(S1.U g.1 hw r hr).2.2⟩
    ·exact⟨(S2.U g.2 hw r hr).1,(S2.U g.2 hw r hr).2.2⟩
   ·have aa:=(s1.trans s2).upf (o:= .lst (ah.map V.ref++ak.map V.ref)) hL
    refine k L' rs H' (aa.trans s') (aa.free nL) e' ⟨up,fun r=>?_⟩
    rw [me,List.mem_append,S1.mem,S2.mem]
    exact Iff.rfl
  | _=>cases hk
seal cV PS PE PT PA PG PI dj de in
theorem A0(M:Mt K C "spans" gu eM f fd)(n:Nat):cu P w K mg base cC 1 (f .o) (fd .o) ["self","words"] (gc C n .o):=by
 refine(M.F .o).ok Cn (fun vs H Q E h=>?_) (fun cdv A outer s H vs Q E hr h=>?_)
 ·obtain⟨a,l,t,ws,rfl,_⟩:=h
  rfl
 ·obtain⟨a,l,t,ws,rfl,hA,g,hd,hk,hl,hw,U,k⟩:=h
  cases t with
  | no x=>exact⟨_,cz (cI (dR cg)),eW,fun L J=>k L [] _ (cG J) J ⟨[],cx,.nil⟩ ⟨List.Pairwise.nil,fun r=>⟨(fun z=>nomatch z),fun z=>(show False from z).elim⟩⟩⟩
  | _=>cases hk
seal cV PS PE PT PA PG PI dj de in
theorem xT{fo fe fl:Addr}{fdo fde fdl:FuncData}(Cl:Cs K C)(M:Mt K C "spans" gu eM f fd)(DO:Df K mg "each_once" i8 fo fdo)(DE:Df K mg "ends_by_begin" jW fe fde)(DL:Df K mg "spans_led_on" jK fl fdl)(T:Txt mg)(n:Nat)
  (IH:0 < n->∀ i,cu P w K mg base cC (n + 3) (f i) (fd i) ["self","words"] (gc C (n - 1) i)):cu P w K mg base cC (n + 4) (f .n) (fd .n) ["self","words"] (gc C n .n):=by
 have GO:cu P w K mg base cC (n + 3) fo fdo ["spans"] m7:=(qo DO T).mono (by omega)
 have bO:=f9 (p:="spans") DO.F fun _ _ _ _ _ _ _=>rfl
 have GL:cu P w K mg base cC (n + 3) fl fdl ["ones","others","far"] ua:=(BC DL DE T).mono (by omega)
 have bL:=DL.F.binds (ps:=["ones","others","far"]) fun _ _ _ _ _ _ us hl=>vB (fun _ _ _=>rfl) us hl
 refine(M.F .n).ok pj (fun vs H Q E h=>?_) (fun cdv A outer s H vs Q E J h=>?_)
 ·obtain⟨a,l,t,ws,rfl,_⟩:=h
  rfl
 ·obtain⟨a,l,t,ws,rfl,hA,g,hd,hk,hl,hw,af,k⟩:=h
  have hz:(sizeLine:Nat)=16777216:=sizeLine_eq
  cases t with
  | near x y m=>
   obtain⟨dx,p,q,hx,hp,hq⟩:=hA
   have gg:=g
   obtain⟨⟨l1,l2⟩,⟨m0,aa⟩,g1,g2⟩:=g
   obtain⟨mm,rfl⟩:=Int.eq_ofNat_of_zero_le m0
   have ae:max x.dep y.dep + 1<=n:=hd
   have hn:0 < n:=by(clear aa m0 hd hz hw;omega)
   refine⟨_,cD (dB (i:=2) pj.nd rfl (Or.inl rfl) (fI (eK (pv 0) rfl) Cl.cl M.M (IH hn) J (gT M) cH (cf (pv 1) cg)))
    (cD (dB (i:=3) pj.nd rfl (Or.inl rfl) (fI (eK (pv 0) rfl) Cl.cl M.M (IH hn) J (gT M) cH (cf (pv 1) cg)))
    (cz (cI (cT GO J rfl DO.m DO.F.kp bO .nil cH (cf (cy m9 (cT GL J rfl DL.m DL.F.kp bL .nil cH (cf (pv 2) (cf (pv 3) (cf (eK (pv 0) rfl) cg)))) (cT GL J rfl DL.m DL.F.kp bL .nil cH (cf (pv 3) (cf (pv 2) (cf (eK (pv 0) rfl) cg))))) cg))))),?_⟩
   obtain⟨dp,fp,ep,lp⟩:=hp.ob
   refine⟨_,rfl,a,C .n,dx,_,_,rfl,hx,Cl.cl _,Cl.n1 _,sX p q _,x.kn,p,dp,fp,rfl,ep,lp _ gJ,_,rfl,p,l,x,ws,rfl,hp,g1,by(clear hn aa m0 hd hz hw;omega),rfl,hl,hw,af,fun L1 ag H1 s1 n1 e1 S1=>?_⟩
   obtain⟨dq,fq,eq,lq⟩:=(hq.same s1).ob
   refine⟨_,rfl,a,C .n,dx,_,_,rfl,s1 _ _ hx,Cl.cl _,Cl.n2 _,rK p q _,y.kn,q,dq,fq,rfl,eq,lq _ gJ,_,rfl,q,l,y,ws,rfl,hq.same s1,g2,by(clear hn aa m0 hd hz hw;omega),rfl,s1 _ _ hl,hw,af,fun L2 ah H2 s2 n2 e2 S2=>?_⟩
   have ak:=s1.trans s2
   have t1:=S1.lenL l1 hw
   have t2:=S2.lenL l2 hw
   refine⟨_,rfl,_,rfl,_,rfl,a,C .n,dx,_,_,rfl,ak _ _ hx,Cl.cl _,Cl.n3 _,uC p q _,L1,L2,mm,ag,ah,rfl,by(clear t2 t1 hn ae m0 hd hz hw;omega),e1.same s2,e2,t1,t2,fun r J=>(S1.U g1 hw r J).2.2,fun L3 ao H3 s3 n3 e3 t3 av=>?_⟩
   have aq:=ak.trans s3
   refine⟨_,rfl,_,rfl,_,rfl,a,C .n,dx,_,_,rfl,aq _ _ hx,Cl.cl _,Cl.n3 _,uC p q _,L2,L1,mm,ah,ag,rfl,by(clear t3 t2 t1 hn ae m0 hd hz hw;omega),e2.same s3,(e1.same s2).same s3,t2,t1,fun r J=>(S2.U g2 hw r J).2.2,fun L4 ar H4 s4 n4 e4 t4 aw=>?_⟩
   have ax:=aq.trans s4
   obtain⟨ay,h3,p3⟩:=e3.same s4
   obtain⟨aA,h4,p4⟩:=e4
   have q3:=Gn.Paired.len p3
   have q4:=Gn.Paired.len p4
   have mem:∀ r,r∈ao++ar↔eE (.near x y ((mm:Nat):Int)) ws r:=fun r=>by
    rw [List.mem_append,av,aw]
    have em:(((mm:Nat):Int)).toNat=mm:=Int.toNat_natCast mm
    show _↔∃ p q,eE x ws p/\eE y ws q/\iH p q (((mm:Nat):Int)).toNat r
    rw [em]
    constructor
    ·rintro(⟨u,hu,v,hv,h⟩ | ⟨v,hv,u,hu,h⟩)
     ·exact⟨u,v,(S1.mem u).mp hu,(S2.mem v).mp hv,.inl h⟩
     ·exact⟨u,v,(S1.mem u).mp hu,(S2.mem v).mp hv,.inr h⟩
    ·rintro⟨u,v,hu,hv,h | h⟩
     ·exact .inl ⟨u,(S1.mem u).mpr hu,v,(S2.mem v).mpr hv,h⟩
     ·exact .inr ⟨v,(S2.mem v).mpr hv,u,(S1.mem u).mpr hu,h⟩
   refine⟨L3,L4,_,_,rfl,rfl,h3,h4,by rw [List.length_map,List.length_map];(clear t2 t1 hn ae aa m0 hd hw;omega),fun L hL=>?_⟩
   refine⟨L,ao++ar,rfl,lA (l1:=L3) (l2:=L4) p3 p4 hL,fun r J=>?_,fun L' rs H' s' nL e' up me=>?_⟩
   ·obtain⟨b1,b2,b3⟩:=iB gg ((mem r).mp J)
    exact⟨qy b1 (by(clear b3 b1 q4 q3 t4 t3 t2 t1 hn ae aa m0 hd hz;omega)) b3,by omega⟩
   ·have au:=ax.upf (o:= .lst (ay.map V.ref++aA.map V.ref)) hL
    exact k L' rs H' (au.trans s') (au.free nL) e' ⟨up,fun r=>(me r).trans (mem r)⟩
  | _=>cases hk
structure mQ (K : W.Frag) (mg : Str -> Option Value) (fo fe fl : Addr) (fdo fde fdl : FuncData) : Prop where
 o : Df K mg "each_once" i8 fo fdo
 e : Df K mg "ends_by_begin" jW fe fde
 l : Df K mg "spans_led_on" jK fl fdl
theorem vJ{fo fe fl:Addr}{fdo fde fdl:FuncData}(Cl:Cs K C)(M:Mt K C "spans" gu eM f fd)(F:mQ K mg fo fe fl fdo fde fdl)(T:Txt mg)(n:Nat)
  (IH:0 < n->∀ i,cu P w K mg base cC (n + 3) (f i) (fd i) ["self","words"] (gc C (n - 1) i))(i:Kn):cu P w K mg base cC (n + 4) (f i) (fd i) ["self","words"] (gc C n i):=by
 cases i with
 | w=>exact(yJ Cl M T n).mono (by omega)
 | s=>exact(zW Cl M T n).mono (by omega)
 | r=>exact(Aj Cl M T n).mono (by omega)
 | n=>exact xT Cl M F.o F.e F.l T n IH
 | b=>exact y3 Cl M F.o T n IH
 | e=>exact zt Cl M F.o T n IH
 | o=>exact(A0 M n).mono (by omega)
theorem mY{fo fe fl:Addr}{fdo fde fdl:FuncData}(Cl:Cs K C)(M:Mt K C "spans" gu eM f fd)(F:mQ K mg fo fe fl fdo fde fdl)(T:Txt mg):∀(n:Nat) (i:Kn),cu P w K mg base cC (n + 4) (f i) (fd i) ["self","words"] (gc C n i)
 | 0=>vJ Cl M F T 0 fun h=>absurd h (Nat.lt_irrefl _)
 | n + 1=>vJ Cl M F T (n + 1) fun _=>mY Cl M F T n
noncomputable def nX(C:Kn->Addr)(n:Nat)(i:Kn):Sp:=fun vs H Q _=>∃(a l:Addr) (t:At) (ws:List Str),vs=[.ref a,.ref l]/\dI C H a t/\Gd t/\t.dep<=n/\t.kn=i/\H l=some (.lst (ws.map V.str))/\ws.length<=64/\(∀ z∈ws,Ow z)/\
 ∀ b H',ck H H'->(b=true↔jG t ws)->Q (.bl b) H'
theorem Ab(i:Kn):dD ["self","words"] ["self","words"] (cv (kQ i)):=by
 cases i<;>exact⟨rfl,rfl,rfl,dkq,rfl,dkq,dkq⟩
theorem ke{g:Kn->Addr}{gd:Kn->FuncData}(M:Mt K C "holds" mj kQ g gd)(i:Kn):Binds K (gd i) ["self","words"] []:=by
 cases i<;>exact(M.F _).binds (ps:=["self","words"]) fun _ _ _ _ _ _ us J=>eT (fun _ _=>rfl) us J
seal cV PS PE PT PA PG PI dj de in
theorem rO{g:Kn->Addr}{gd:Kn->FuncData}(Cl:Cs K C)(M:Mt K C "holds" mj kQ g gd)(MS:Mt K C "spans" gu eM f fd)(T:Txt mg)(n:Nat)(GS:∀ i,cu P w K mg base cC (n + 4) (f i) (fd i) ["self","words"] (gc C n i))
  (IH:0 < n->∀ i,cu P w K mg base cC (n + 4) (g i) (gd i) ["self","words"] (nX C (n - 1) i))(i:Kn):cu P w K mg base cC (n + 5) (g i) (gd i) ["self","words"] (nX C n i):=by
 refine(M.F i).ok (Ab i) (fun vs H Q E h=>?_) (fun cdv A outer s H vs Q E hr h=>?_)
 ·obtain⟨a,l,t,ws,rfl,_⟩:=h
  rfl
 ·obtain⟨a,l,t,ws,rfl,hA,gg,hd,rfl,hl,hw,J,k⟩:=h
  have fin:∀(ps:List Addr) (rs:List (Nat×Nat)),ps.length=rs.length->fE t ws rs->(decide ((0:Int) < (((ps.map V.ref).length:Nat):Int))=true↔∃ r,eE t ws r):=fun ps rs e S=>by
   rw [List.length_map,e,decide_eq_true_eq]
   constructor
   ·intro h
    cases rs with
    | nil=>simp at h
    | cons r rs=>exact⟨r,(S.mem r).mp List.mem_cons_self⟩
   ·rintro⟨r,h⟩
    have:=List.length_pos_of_mem ((S.mem r).mpr h)
    (clear e hw hd;omega)
  cases t with
  | word z=>
   refine⟨_,cz (cI (iJ iN (dF fO rfl T.len eZ (cf (fI (pv 0) Cl.cl MS.M GS hr (gT MS) cH (cf (pv 1) cg)) cg)) cj (cX _))),?_⟩
   obtain⟨dp,fp,ep,lp⟩:=hA.ob
   refine⟨_,rfl,_,a,dp,fp,rfl,ep,lp _ gJ,_,rfl,a,l,_,ws,rfl,hA,gg,hd,rfl,hl,hw,J,fun L1 U H1 s1 n1 e1 S1=>?_⟩
   obtain⟨aa,h1,p1⟩:=e1
   exact⟨L1,_,rfl,.inl (cm.of h1),_,_,rfl,rfl,k _ H1 s1 (fin aa U (Gn.Paired.len p1) S1)⟩
  | start z=>
   refine⟨_,cz (cI (iJ iN (dF fO rfl T.len eZ (cf (fI (pv 0) Cl.cl MS.M GS hr (gT MS) cH (cf (pv 1) cg)) cg)) cj (cX _))),?_⟩
   obtain⟨dp,fp,ep,lp⟩:=hA.ob
   refine⟨_,rfl,_,a,dp,fp,rfl,ep,lp _ gJ,_,rfl,a,l,_,ws,rfl,hA,gg,hd,rfl,hl,hw,J,fun L1 U H1 s1 n1 e1 S1=>?_⟩
   obtain⟨aa,h1,p1⟩:=e1
   exact⟨L1,_,rfl,.inl (cm.of h1),_,_,rfl,rfl,k _ H1 s1 (fin aa U (Gn.Paired.len p1) S1)⟩
  | row zs=>
   refine⟨_,cz (cI (iJ iN (dF fO rfl T.len eZ (cf (fI (pv 0) Cl.cl MS.M GS hr (gT MS) cH (cf (pv 1) cg)) cg)) cj (cX _))),?_⟩
   obtain⟨dp,fp,ep,lp⟩:=hA.ob
   refine⟨_,rfl,_,a,dp,fp,rfl,ep,lp _ gJ,_,rfl,a,l,_,ws,rfl,hA,gg,hd,rfl,hl,hw,J,fun L1 U H1 s1 n1 e1 S1=>?_⟩
   obtain⟨aa,h1,p1⟩:=e1
   exact⟨L1,_,rfl,.inl (cm.of h1),_,_,rfl,rfl,k _ H1 s1 (fin aa U (Gn.Paired.len p1) S1)⟩
  | near x y m=>
   refine⟨_,cz (cI (iJ iN (dF fO rfl T.len eZ (cf (fI (pv 0) Cl.cl MS.M GS hr (gT MS) cH (cf (pv 1) cg)) cg)) cj (cX _))),?_⟩
   obtain⟨dp,fp,ep,lp⟩:=hA.ob
   refine⟨_,rfl,_,a,dp,fp,rfl,ep,lp _ gJ,_,rfl,a,l,_,ws,rfl,hA,gg,hd,rfl,hl,hw,J,fun L1 U H1 s1 n1 e1 S1=>?_⟩
   obtain⟨aa,h1,p1⟩:=e1
   exact⟨L1,_,rfl,.inl (cm.of h1),_,_,rfl,rfl,k _ H1 s1 (fin aa U (Gn.Paired.len p1) S1)⟩
  | both x y=>
   obtain⟨dx,p,q,hx,hp,hq⟩:=hA
   have ae:max x.dep y.dep + 1<=n:=hd
   have hn:0 < n:=by(clear hd hw;omega)
   refine⟨_,cz (cI (ni (fI (eK (pv 0) rfl) Cl.cl M.M (IH hn) hr (ke M) cH (cf (pv 1) cg)) (jD (fI (eK (pv 0) rfl) Cl.cl M.M (IH hn) hr (ke M) cH (cf (pv 1) cg))))),?_⟩
   obtain⟨dp,fp,ep,lp⟩:=hp.ob
   refine⟨_,rfl,a,C .b,dx,_,_,rfl,hx,Cl.cl _,Cl.n1 _,j6 p q,x.kn,p,dp,fp,rfl,ep,lp _ kF,_,rfl,p,l,x,ws,rfl,hp,gg.1,by(clear hn hd hw;omega),rfl,hl,hw,J,fun b1 H1 s1 i1=>?_⟩
   cases b1 with
   | false=>exact⟨_,rfl,cY (k false H1 s1 ⟨(fun z=>by cases z),fun z=>by have:=i1.mpr z.1;cases this⟩)⟩
   | true=>
    obtain⟨dq,fq,eq,lq⟩:=(hq.same s1).ob
    refine⟨_,rfl,cJ ⟨_,rfl,a,C .b,dx,_,_,rfl,s1 _ _ hx,Cl.cl _,Cl.n2 _,jY p q,y.kn,q,dq,fq,rfl,eq,lq _ kF,_,rfl,q,l,y,ws,rfl,hq.same s1,gg.2,by(clear hn hd hw;omega),rfl,s1 _ _ hl,hw,J,fun b2 H2 s2 i2=>?_⟩⟩
    exact k b2 H2 (s1.trans s2) ⟨fun z=>⟨i1.mp rfl,i2.mp z⟩,fun z=>i2.mpr z.2⟩
  | either x y=>
   obtain⟨dx,p,q,hx,hp,hq⟩:=hA
   have ae:max x.dep y.dep + 1<=n:=hd
   have hn:0 < n:=by(clear hd hw;omega)
   refine⟨_,cz (cI (qL (fI (eK (pv 0) rfl) Cl.cl M.M (IH hn) hr (ke M) cH (cf (pv 1) cg)) (jD (fI (eK (pv 0) rfl) Cl.cl M.M (IH hn) hr (ke M) cH (cf (pv 1) cg))))),?_⟩
   obtain⟨dp,fp,ep,lp⟩:=hp.ob
   refine⟨_,rfl,a,C .e,dx,_,_,rfl,hx,Cl.cl _,Cl.n1 _,j6 p q,x.kn,p,dp,fp,rfl,ep,lp _ kF,_,rfl,p,l,x,ws,rfl,hp,gg.1,by(clear hn hd hw;omega),rfl,hl,hw,J,fun b1 H1 s1 i1=>?_⟩
   cases b1 with
   | true=>exact⟨_,rfl,cJ (k true H1 s1 ⟨fun _=> .inl (i1.mp rfl),fun _=>rfl⟩)⟩
   | false=>
    obtain⟨dq,fq,eq,lq⟩:=(hq.same s1).ob
    refine⟨_,rfl,cY ⟨_,rfl,a,C .e,dx,_,_,rfl,s1 _ _ hx,Cl.cl _,Cl.n2 _,jY p q,y.kn,q,dq,fq,rfl,eq,lq _ kF,_,rfl,q,l,y,ws,rfl,hq.same s1,gg.2,by(clear hn hd hw;omega),rfl,s1 _ _ hl,hw,J,fun b2 H2 s2 i2=>?_⟩⟩
    exact k b2 H2 (s1.trans s2) ⟨fun z=> .inr (i2.mp z),fun z=>z.elim (fun z=>by have:=i1.mpr z;cases this) fun z=>i2.mpr z⟩
  | no x=>
   obtain⟨dx,p,hx,hp⟩:=hA
   have ae:x.dep + 1<=n:=hd
   have hn:0 < n:=by(clear hd hw;omega)
   refine⟨_,cz (cI (pT (fI (eK (pv 0) rfl) Cl.cl M.M (IH hn) hr (ke M) cH (cf (pv 1) cg)))),?_⟩
   obtain⟨dp,fp,ep,lp⟩:=hp.ob
   refine⟨_,rfl,a,C .o,dx,_,_,rfl,hx,Cl.cl _,Cl.n1 _,ur p,x.kn,p,dp,fp,rfl,ep,lp _ kF,_,rfl,p,l,x,ws,rfl,hp,gg,by(clear hn hd hw;omega),rfl,hl,hw,J,fun b1 H1 s1 i1=>⟨_,rfl,k _ H1 s1 ?_⟩⟩
   cases b1 with
   | true=>exact⟨(fun z=>by cases z),fun z=>absurd (i1.mp rfl) z⟩
   | false=>exact⟨(fun _ z=>by have:=i1.mpr z;cases this),fun _=>rfl⟩
theorem vb{g:Kn->Addr}{gd:Kn->FuncData}{fo fe fl:Addr}{fdo fde fdl:FuncData}(Cl:Cs K C)(M:Mt K C "holds" mj kQ g gd)(MS:Mt K C "spans" gu eM f fd)(F:mQ K mg fo fe fl fdo fde fdl)(T:Txt mg):∀(n:Nat) (i:Kn),cu P w K mg base cC (n + 5) (g i) (gd i) ["self","words"] (nX C n i)
 | 0=>rO Cl M MS T 0 (mY Cl MS F T 0) fun h=>absurd h (Nat.lt_irrefl _)
 | n + 1=>rO Cl M MS T (n + 1) (mY Cl MS F T (n + 1)) fun _=>vb Cl M MS F T n
end
theorem z5(t:At):eO (.str t.nm) [.str "word",.str "start",.str "row"]=eN t.kn:=by
 cases t with
 | word z=>exact(show eO (V.str "word") [.str "word",.str "start",.str "row"]=true from dkq)
 | start z=>exact(show eO (V.str "start") [.str "word",.str "start",.str "row"]=true from dkq)
 | row z=>exact(show eO (V.str "row") [.str "word",.str "start",.str "row"]=true from dkq)
 | near a b n=>exact(show eO (V.str "near") [.str "word",.str "start",.str "row"]=false from dkq)
 | both a b=>exact(show eO (V.str "both") [.str "word",.str "start",.str "row"]=false from dkq)
 | either a b=>exact(show eO (V.str "either") [.str "word",.str "start",.str "row"]=false from dkq)
 | no a=>exact(show eO (V.str "not") [.str "word",.str "start",.str "row"]=false from dkq)
theorem t9:bootBuiltins "max"=some (.builtin "max"):=dkq
theorem rM:bootBuiltins "min"=some (.builtin "min"):=dkq
theorem qV{ws:List Str}{i:Nat}{y:Str}(h:ws[i]? =some y):(ws.drop i).take 1=[y]:=by
 have hi:=(List.getElem?_eq_some_iff.mp h)
 obtain⟨h1,h2⟩:=hi
 rw [List.drop_eq_getElem_cons h1,h2]
 rfl
theorem uq{l:Bool}{H:Hp}:∀{xs:List V} {zs:List Str},c9 l H xs (zs.map .str)->xs=zs.map V.str
 | _,[],.nil=>rfl
 | _,_::_,.cons h t=>by
  cases h
  rw [uq t]
  rfl
section
variable {P : Program} {w : World} {K : PySem.W.Frag} {mg : Str -> Option Value} {base : Heap}
noncomputable def tI:Sp:=fun vs H Q _=>∃(x:V) (l:Addr) (t:At) (ws:List Str),vs=[x,.ref l]/\cM false H x t.told/\eN t.kn=true/\Gd t/\H l=some (.lst (ws.map V.str))/\ws.length<=64/\(∀ z∈ws,Ow z)/\
 ∀ L H',ck H H'->H L=none->fU H' L (iE t ws)->Q (.ref L) H'
theorem kW:dD ["_law_told","_law_words","_law_found","_law_size","_law_place","_law_here"] ["_law_told","_law_words"] (cv jM):=⟨rfl,rfl,rfl,dkq,rfl,dkq,dkq⟩
seal cV PS PE PT PA PG PI dj de in
theorem xH{f:Addr}{fd:FuncData}(D:Df K mg "_law_plain_spans" jM f fd)(T:Txt mg):cu P w K mg base cC 1 f fd ["_law_told","_law_words"] tI:=by
 refine D.F.ok kW (fun vs H Q E h=>?_) (fun cdv A outer s H vs Q E hr h=>?_)
 ·obtain⟨x,l,t,ws,rfl,_⟩:=h
  rfl
 ·obtain⟨x,l,t,ws,rfl,hp,hk,gd,hl,hw,av,k⟩:=h
  have hz:(sizeLine:Nat)=16777216:=sizeLine_eq
  have J:(ws.map V.str).length=ws.length:=List.length_map _
  refine⟨_,cD (dB (i:=2) kW.nd rfl (Or.inl rfl) (dR cg))
   (cD (dB (i:=3) kW.nd rfl (Or.inl rfl) (qj (cZ dQ (cQ dn (pv 0) cj (fun _ _=>rfl)) dw (cX _)) (dF fO rfl T.len eZ (cf (cQ dn (pv 0) cj (fun _ _=>rfl)) cg)) cj))
   (cD (gN PassesOwn.never rfl (iP rfl T.range (cf (cy eA (cy iy (dF fO rfl T.len eZ (cf (pv 1) cg)) (pv 3)) cj) cg)) (dU (i:=4) kW.nd rfl (Or.inl rfl))
    (cD (dB (i:=5) kW.nd rfl (Or.inl rfl) (jg qh (pv 1) (hV (pv 4)) (hV (cy eA (pv 4) (pv 3)))))
    (cD (dC (PW.pt (fX (PW.pt (kY (cZ dQ (cQ dn (pv 0) cj (fun _ _=>rfl)) dw (cX _)) (k9 (cZ (kf hr.units100) (pv 5) (dR (cf (cQ dn (pv 0) cj (fun _ _=>rfl)) cg)) (cX _)))))
      (h9 (PW.pt (kY (cZ dQ (cQ dn (pv 0) cj (fun _ _=>rfl)) dw (cX _)) (k9 (cZ dQ (jg lI (cQ gI (pv 5) cj (fun _ _=>rfl)) lh (hV (dF mV rfl T.len eZ (cf (cQ dn (pv 0) cj (fun _ _=>rfl)) cg)))) (cQ dn (pv 0) cj (fun _ _=>rfl)) (cX _))))))))
     (cz (g9 (gj F.plainAttrs_list F.slot_list_append F.type_list_append jr (pv 2) (cf (fF (cf (pv 4) (cf (pv 4) cg))) cg)))) dz)
    (cz (dC (PW.pt (kY (cZ dQ (cQ dn (pv 0) cj (fun _ _=>rfl)) dw (cX _)) (k9 (cZ (kf hr.units100) (pv 5) (jy qt rfl T.list mJ (cf (cQ dn (pv 0) cj (fun _ _=>rfl)) cg)) (cX _)))))
     (cz (g9 (gj F.plainAttrs_list F.slot_list_append F.type_list_append jr (pv 2) (cf (fF (cf (pv 4) (cf (cy iy (cy eA (pv 4) (pv 3)) cj) cg))) cg)))) dz)))))
   (cz (cI (pv 2))))),?_⟩
  refine⟨eW,fun fo af=>?_⟩
  have s0:ck H (upd H fo (.lst [])):=cG af
  have slt:∀ j,(eQ (eH t ws) (j8 t) j).length<=j:=pG _ _
  cases t with
  | near a b n=>cases hk
  | both a b=>cases hk
  | either a b=>cases hk
  | no a=>cases hk
  | word z=>
   obtain⟨p,x0,x1,rfl,ha,h0,h1⟩:=hp.t2
   cases h0
   cases h1
   have zl:=lV gd
   refine⟨_,rfl,p,_,0,_,rfl,rfl,cq.of (s0 _ _ ha),cA (j:=0) rfl,rfl,_,rfl,c8 (a:="word") dkq ?_⟩
   refine⟨_,rfl,l,_,rfl,.inl (cm.of (s0 _ _ hl)),_,rfl,_,_,rfl,rfl,_,_,rfl,rfl,_,rfl,by rw [J];(clear zl J hz hw;omega),by rw [J];omega,?_⟩
   have ej:(((ws.map V.str).length:Int) - 1 + 1).toNat=ws.length:=by rw [J];(clear zl J hz hw;omega)
   rw [ej]
   refine jF (fun j σ H'=>∃(xs:List V) (o4 o5:Option V),σ=[some (.ref p),some (.ref l),some (.ref fo),some (.int 1),o4,o5]/\Gr H H' fo xs (eQ (eH (.word z) ws) 0 j)) ?_ ?_ ?_
   ·exact⟨[],none,none,rfl,Gr.new af⟩
   ·rintro j σ H1 hj ⟨xs,o4,o5,rfl,gr⟩
    have s1:=gr.sm
    have hy:=List.getElem?_eq_getElem hj
    generalize ao:ws[j]=y at hy
    obtain⟨ak,ax⟩:=av y (List.mem_of_getElem? hy)
    refine⟨_,rfl,_,rfl,_,rfl,_,rfl,_,rfl,_,_,rfl,rfl,_,rfl,l,_,rfl,cm.of (s1 _ _ hl),fun ph aq=>?_⟩
    have ec:dZ (ws.map V.str) (some (0 + (j:Int))) (some (0 + (j:Int) + 1))=[V.str y]:=by
     rw [og j 1 (by(clear ak hy ao hj ej zl J hz hw;omega)) (by omega) (by rw [J];omega),<-List.map_drop,<-List.map_take,qV hy]
     rfl
    have s2:ck H1 (upd H1 ph (.lst (dZ (ws.map V.str) (some (0 + (j:Int))) (some (0 + (j:Int) + 1))))):=cG aq
    have eh:upd H1 ph (.lst (dZ (ws.map V.str) (some (0 + (j:Int))) (some (0 + (j:Int) + 1)))) ph=some (.lst [V.str y]):=cx.trans (congrArg (fun x=>some (HO.lst x)) ec)
    have U:=gr.same s2
    generalize upd H1 ph (.lst (dZ (ws.map V.str) (some (0 + (j:Int))) (some (0 + (j:Int) + 1))))=H2 at s2 eh U ⊢
    have xl:=U.len
    have ar:(eQ (eH (.word z) ws) 0 j).length<=j:=slt j
    have aa:=U.sm _ _ ha
    refine⟨_,rfl,p,_,0,_,rfl,rfl,cq.of aa,cA (j:=0) rfl,rfl,_,rfl,gm rfl ⟨_,rfl,_,rfl,p,_,1,_,rfl,rfl,cq.of aa,cA (j:=1) rfl,dH,fun q hq=>?_⟩⟩
    have s3:ck H2 (upd H2 q (.lst [.str z])):=cG hq
    have eq3:upd H2 q (.lst [.str z]) q=some (.lst [.str z]):=cx
    have ae:=U.same s3
    generalize upd H2 q (.lst [.str z])=H3 at s3 eq3 ae ⊢
    refine⟨.list ([y].map .str),.list ([z].map .str),.lst (cm.of (s3 _ _ eh)) (iK [y]),.lst (cm.of eq3) (iK [z]),iY (fun n hn=>by rw [List.mem_singleton.mp hn];exact ax),iY (fun n hn=>by rw [List.mem_singleton.mp hn];exact mD gd),(by show min (max 0 0 + 1) (max 0 0 + 1)<=100;decide),_,rfl,?_⟩
    have e:PyData.eqv (.list ([y].map .str)) (.list ([z].map .str))=eH (.word z) ws j:=by
     rw [sM]
     show _=decide (ws[j]? =some z)
     rw [hy]
     exact decide_eq_decide.mpr ⟨fun q=>by rw [(List.cons.inj q).1],fun q=>by rw [Option.some.inj q]⟩
    cases hb:eH (.word z) ws j with
    | true=>
     refine iA (b:=PyData.eqv (.list ([y].map .str)) (.list ([z].map .str))) (e.trans hb) (cJ ⟨_,rfl,.inl ⟨rfl,_,cm.of ae.fo⟩,_,rfl,_,rfl,eU,fun tq ah=>?_⟩)
     refine⟨fo,xs,_,rfl,rfl,cG ah _ _ ae.fo,by(clear ak hy ao ej zl J;omega),?_⟩
     have ag:=ae.app (r:=(j,j + 0)) (a:=0 + (j:Int)) (b:=0 + (j:Int)) af ah (by simp) (by simp)
     rw [<-j7 hb] at ag
     generalize upd (upd H3 tq (.tup [.int (0 + (j:Int)),.int (0 + (j:Int))])) fo (.lst (xs++[.ref tq]))=H4 at ag ⊢
     refine⟨_,rfl,p,_,0,_,rfl,rfl,cq.of (ag.sm _ _ ha),cA (j:=0) rfl,rfl,_,rfl,c8 (a:="word") dkq (cY ?_)⟩
     exact⟨_,_,_,rfl,ag⟩
    | false=>
     refine gK (b:=PyData.eqv (.list ([y].map .str)) (.list ([z].map .str))) (e.trans hb) ?_
     have ay:=s3 _ _ aa
     refine⟨_,rfl,p,_,0,_,rfl,rfl,cq.of ay,cA (j:=0) rfl,rfl,_,rfl,c8 (a:="word") dkq (cY ?_)⟩
     refine⟨_,rfl,p,_,0,_,rfl,rfl,cq.of ay,cA (j:=0) rfl,rfl,_,rfl,c8 (a:="word") dkq (cY ?_)⟩
     rw [<-jJ hb] at ae
     exact⟨_,_,_,rfl,ae⟩
   ·rintro σ H1 ⟨xs,o4,o5,rfl,gr⟩
    exact⟨_,rfl,k fo H1 gr.sm af gr.spl⟩
  | start z=>
   obtain⟨p,x0,x1,rfl,ha,h0,h1⟩:=hp.t2
   cases h0
   cases h1
   have zl:=lV gd
   refine⟨_,rfl,p,_,0,_,rfl,rfl,cq.of (s0 _ _ ha),cA (j:=0) rfl,rfl,_,rfl,c8 (a:="start") dkq ?_⟩
   refine⟨_,rfl,l,_,rfl,.inl (cm.of (s0 _ _ hl)),_,rfl,_,_,rfl,rfl,_,_,rfl,rfl,_,rfl,by rw [J];(clear zl J hz hw;omega),by rw [J];omega,?_⟩
   have ej:(((ws.map V.str).length:Int) - 1 + 1).toNat=ws.length:=by rw [J];(clear zl J hz hw;omega)
   rw [ej]
   refine jF (fun j σ H'=>∃(xs:List V) (o4 o5:Option V),σ=[some (.ref p),some (.ref l),some (.ref fo),some (.int 1),o4,o5]/\Gr H H' fo xs (eQ (eH (.start z) ws) 0 j)) ?_ ?_ ?_
   ·exact⟨[],none,none,rfl,Gr.new af⟩
   ·rintro j σ H1 hj ⟨xs,o4,o5,rfl,gr⟩
    have s1:=gr.sm
    have hy:=List.getElem?_eq_getElem hj
    generalize ao:ws[j]=y at hy
    obtain⟨ak,ax⟩:=av y (List.mem_of_getElem? hy)
    refine⟨_,rfl,_,rfl,_,rfl,_,rfl,_,rfl,_,_,rfl,rfl,_,rfl,l,_,rfl,cm.of (s1 _ _ hl),fun ph aq=>?_⟩
    have ec:dZ (ws.map V.str) (some (0 + (j:Int))) (some (0 + (j:Int) + 1))=[V.str y]:=by
     rw [og j 1 (by(clear ak hy ao hj ej zl J hz hw;omega)) (by omega) (by rw [J];omega),<-List.map_drop,<-List.map_take,qV hy]
     rfl
    have s2:ck H1 (upd H1 ph (.lst (dZ (ws.map V.str) (some (0 + (j:Int))) (some (0 + (j:Int) + 1))))):=cG aq
    have eh:upd H1 ph (.lst (dZ (ws.map V.str) (some (0 + (j:Int))) (some (0 + (j:Int) + 1)))) ph=some (.lst [V.str y]):=cx.trans (congrArg (fun x=>some (HO.lst x)) ec)
    have U:=gr.same s2
    generalize upd H1 ph (.lst (dZ (ws.map V.str) (some (0 + (j:Int))) (some (0 + (j:Int) + 1))))=H2 at s2 eh U ⊢
    have xl:=U.len
    have ar:(eQ (eH (.start z) ws) 0 j).length<=j:=slt j
    have aa:=U.sm _ _ ha
    refine⟨_,rfl,p,_,0,_,rfl,rfl,cq.of aa,cA (j:=0) rfl,rfl,_,rfl,c8 (a:="start") dkq (cY ?_)⟩
    refine⟨_,rfl,p,_,0,_,rfl,rfl,cq.of aa,cA (j:=0) rfl,rfl,_,rfl,gm rfl ⟨_,rfl,ph,_,0,_,rfl,rfl,cm.of eh,cA (j:=0) rfl,_,rfl,p,_,1,_,rfl,rfl,cq.of aa,cA (j:=1) rfl,z,rfl,by(clear ar xl ak hy ao hj ej J hw;omega),_,rfl,y,rfl,by omega,_,rfl,p,_,1,_,rfl,rfl,cq.of aa,cA (j:=1) rfl,rfl,_,rfl,?_⟩⟩
    have e:decide (V.str (Txt.slice y none (some ((z.length:Nat):Int)))=V.str z)=eH (.start z) ws j:=by
     rw [<-xW y z ak]
     show _=(match ws[j]? with | some y=>Txt.startswith y z | none=>false)
     rw [hy]
    cases hb:eH (.start z) ws j with
    | true=>
     refine iA (b:=decide (V.str (Txt.slice y none (some ((z.length:Nat):Int)))=V.str z)) (e.trans hb) ⟨_,rfl,.inl ⟨rfl,_,cm.of U.fo⟩,_,rfl,_,rfl,eU,fun tq ah=>?_⟩
     refine⟨fo,xs,_,rfl,rfl,cG ah _ _ U.fo,by(clear ak hy ao ej zl J;omega),?_⟩
     have ag:=U.app (r:=(j,j + 0)) (a:=0 + (j:Int)) (b:=0 + (j:Int)) af ah (by simp) (by simp)
     rw [<-j7 hb] at ag
     generalize upd (upd H2 tq (.tup [.int (0 + (j:Int)),.int (0 + (j:Int))])) fo (.lst (xs++[.ref tq]))=H4 at ag ⊢
     refine⟨_,rfl,p,_,0,_,rfl,rfl,cq.of (ag.sm _ _ ha),cA (j:=0) rfl,rfl,_,rfl,c8 (a:="start") dkq (cY ?_)⟩
     exact⟨_,_,_,rfl,ag⟩
    | false=>
     refine gK (b:=decide (V.str (Txt.slice y none (some ((z.length:Nat):Int)))=V.str z)) (e.trans hb) ?_
     refine⟨_,rfl,p,_,0,_,rfl,rfl,cq.of aa,cA (j:=0) rfl,rfl,_,rfl,c8 (a:="start") dkq (cY ?_)⟩
     rw [<-jJ hb] at U
     exact⟨_,_,_,rfl,U⟩
   ·rintro σ H1 ⟨xs,o4,o5,rfl,gr⟩
    exact⟨_,rfl,k fo H1 gr.sm af gr.spl⟩
  | row zs=>
   obtain⟨p,x0,x1,rfl,ha,h0,h1⟩:=hp.t2
   cases h0
   have g2:2<=zs.length:=gd.1
   have g8:zs.length<=8:=gd.2.1
   obtain⟨pr,rfl,au⟩:∃ pr,x1= .ref pr/\H pr=some (.tup (zs.map V.str)):=by
    cases h1 with
    | tup au hs=>exact⟨_,rfl,by rw [au,uq hs]⟩
   have zl:(zs.map V.str).length=zs.length:=List.length_map _
   refine⟨_,rfl,p,_,0,_,rfl,rfl,cq.of (s0 _ _ ha),cA (j:=0) rfl,rfl,_,rfl,gm rfl ⟨_,rfl,p,_,1,_,rfl,rfl,cq.of (s0 _ _ ha),cA (j:=1) rfl,pr,_,rfl,.inr (cq.of (s0 _ _ au)),?_⟩⟩
   refine⟨_,rfl,l,_,rfl,.inl (cm.of (s0 _ _ hl)),_,rfl,_,_,rfl,rfl,_,_,rfl,rfl,_,rfl,by rw [J,zl];(clear zl g2 J hz hw;omega),by rw [J,zl];omega,?_⟩
   have ej:(((ws.map V.str).length:Int) - ((zs.map V.str).length:Int) + 1).toNat=ws.length - (zs.length - 1):=by rw [J,zl];(clear zl g8 J hz hw;omega)
   rw [ej]
   refine jF (fun j σ H'=>∃(xs:List V) (o4 o5:Option V),σ=[some (.ref p),some (.ref l),some (.ref fo),some (.int (((zs.map V.str).length:Nat):Int)),o4,o5]/\Gr H H' fo xs (eQ (eH (.row zs) ws) (zs.length - 1) j)) ?_ ?_ ?_
   ·exact⟨[],none,none,rfl,Gr.new af⟩
   ·rintro j σ H1 hj ⟨xs,o4,o5,rfl,gr⟩
    have aw:=vd hj (by(clear hj ej zl g8 J hz hw;omega))
    have s1:=gr.sm
    refine⟨_,rfl,_,rfl,_,rfl,_,rfl,_,rfl,_,_,rfl,rfl,_,rfl,l,_,rfl,cm.of (s1 _ _ hl),fun ph aq=>?_⟩
    have ec:dZ (ws.map V.str) (some (0 + (j:Int))) (some (0 + (j:Int) + (((zs.map V.str).length:Nat):Int)))=((ws.drop j).take zs.length).map V.str:=by
     rw [og j zs.length (by(clear aw hj ej zl g8 g2 J hz hw;omega)) (by rw [zl];omega) (by rw [J];exact aw),List.map_take,List.map_drop]
    have s2:ck H1 (upd H1 ph (.lst (dZ (ws.map V.str) (some (0 + (j:Int))) (some (0 + (j:Int) + (((zs.map V.str).length:Nat):Int)))))):=cG aq
    have eh:upd H1 ph (.lst (dZ (ws.map V.str) (some (0 + (j:Int))) (some (0 + (j:Int) + (((zs.map V.str).length:Nat):Int))))) ph=some (.lst (((ws.drop j).take zs.length).map V.str)):=cx.trans (congrArg (fun x=>some (HO.lst x)) ec)
    have U:=gr.same s2
    generalize upd H1 ph (.lst (dZ (ws.map V.str) (some (0 + (j:Int))) (some (0 + (j:Int) + (((zs.map V.str).length:Nat):Int)))))=H2 at s2 eh U ⊢
    have xl:=U.len
    have ar:(eQ (eH (.row zs) ws) (zs.length - 1) j).length<=j:=slt j
    have aa:=U.sm _ _ ha
    refine⟨_,rfl,p,_,0,_,rfl,rfl,cq.of aa,cA (j:=0) rfl,rfl,_,rfl,c8 (a:="row") dkq (cY ?_)⟩
    refine⟨_,rfl,p,_,0,_,rfl,rfl,cq.of aa,cA (j:=0) rfl,rfl,_,rfl,c8 (a:="row") dkq (cY ?_)⟩
    refine⟨_,rfl,p,_,0,_,rfl,rfl,cq.of aa,cA (j:=0) rfl,rfl,_,rfl,gm rfl ⟨_,rfl,_,rfl,p,_,1,_,rfl,rfl,cq.of aa,cA (j:=1) rfl,pr,_,rfl,.inr (cq.of (U.sm _ _ au)),fun q hq=>?_⟩⟩
    have s3:ck H2 (upd H2 q (.lst (zs.map V.str))):=cG hq
    have eq3:upd H2 q (.lst (zs.map V.str)) q=some (.lst (zs.map V.str)):=cx
    have ae:=U.same s3
    generalize upd H2 q (.lst (zs.map V.str))=H3 at s3 eq3 ae ⊢
    refine⟨.list (((ws.drop j).take zs.length).map .str),.list (zs.map .str),.lst (cm.of (s3 _ _ eh)) (iK _),.lst (cm.of eq3) (iK zs),iY (fun y hy=>(av y (List.mem_of_mem_drop (List.mem_of_mem_take hy))).2),iY (fun y hy=>mD (gd.2.2 y hy)),?_,_,rfl,?_⟩
    ·show min (PyData.depthAll _ + 1) (PyData.depthAll _ + 1)<=100
     rw [kq,kq]
     decide
    have e:PyData.eqv (.list (((ws.drop j).take zs.length).map .str)) (.list (zs.map .str))=eH (.row zs) ws j:=sM _ _
    cases hb:eH (.row zs) ws j with
    | true=>
     refine iA (b:=PyData.eqv (.list (((ws.drop j).take zs.length).map .str)) (.list (zs.map .str))) (e.trans hb) ⟨_,rfl,.inl ⟨rfl,_,cm.of ae.fo⟩,_,rfl,_,rfl,_,rfl,_,_,rfl,rfl,_,_,rfl,rfl,eU,fun tq ah=>?_⟩
     refine⟨fo,xs,_,rfl,rfl,cG ah _ _ ae.fo,by(clear hj ej zl g8 g2 J;omega),?_⟩
     refine⟨xs++[.ref tq],_,_,rfl,?_⟩
     rw [j7 hb]
     exact ae.app af ah (by simp) (by simp;(clear ar xl aw hj ej zl g8 J hz hw;omega))
    | false=>
     refine gK (b:=PyData.eqv (.list (((ws.drop j).take zs.length).map .str)) (.list (zs.map .str))) (e.trans hb) ⟨xs,_,_,rfl,?_⟩
     rw [jJ hb]
     exact ae
   ·rintro σ H1 ⟨xs,o4,o5,rfl,gr⟩
    exact⟨_,rfl,k fo H1 gr.sm af gr.spl⟩
noncomputable def kZ(n:Nat):Sp:=fun vs H Q _=>∃(x:V) (l:Addr) (t:At) (ws:List Str),vs=[x,.ref l]/\cM false H x t.told/\Gd t/\t.dep<=n/\H l=some (.lst (ws.map V.str))/\ws.length<=64/\(∀ z∈ws,Ow z)/\
 ∀ L rs H',ck H H'->H L=none->fU H' L rs->fE t ws rs->Q (.ref L) H'
noncomputable def Ck(n:Nat):Sp:=match n with
 | 0=>fun _ _ _ _=>False
 | n + 1=>kZ n
theorem kU:dD ["_law_told","_law_words","_law_ones","_law_others","_law_found","_law_one","_law_other","_law_between"] ["_law_told","_law_words"] (cv jk):=⟨rfl,rfl,rfl,dkq,rfl,dkq,dkq⟩
noncomputable def pL(rs1 rs2:List (Nat×Nat))(n:Nat)(r:Nat×Nat):Prop:=∃ p∈rs1,∃ q∈rs2,iH p q n r
seal cV PS PE PT PA PG PI dj de in
theorem sI{f fp:Addr}{fd fdp:FuncData}(D:Df K mg "_law_spans" jk f fd)(DP:Df K mg "_law_plain_spans" jM fp fdp)(T:Txt mg)(n:Nat)(GL:cu P w K mg base cC (n + 1) f fd ["_law_told","_law_words"] (Ck n)):cu P w K mg base cC (n + 2) f fd ["_law_told","_law_words"] (kZ n):=by
 have GP:cu P w K mg base cC (n + 1) fp fdp ["_law_told","_law_words"] tI:=(xH DP T).mono (by omega)
 have bP:=DP.F.binds (ps:=["_law_told","_law_words"]) fun _ _ _ _ _ _ us hl=>eT (fun _ _=>rfl) us hl
 have bL:=D.F.binds (ps:=["_law_told","_law_words"]) fun _ _ _ _ _ _ us hl=>eT (fun _ _=>rfl) us hl
 refine D.F.ok kU (fun vs H Q E h=>?_) (fun cdv A outer s H vs Q E hr h=>?_)
 ·obtain⟨x,l,t,ws,rfl,_⟩:=h
  rfl
 ·obtain⟨x,l,t,ws,rfl,hp,gd,hd,hl,hw,au,k⟩:=h
  have hz:(sizeLine:Nat)=16777216:=sizeLine_eq
  refine⟨_,cD (dC (cZ uG (cQ dn (pv 0) cj (fun _ _=>rfl)) (fF (cf dw (cf dw (cf dw cg)))) (by with_unfolding_all rfl)) (cz (cI (cT GP hr rfl DP.m DP.F.kp bP .nil cH (cf (pv 0) (cf (pv 1) cg))))) dz)
   (cD (dC (cZ dQ (cQ dn (pv 0) cj (fun _ _=>rfl)) dw (cX _)) (cz (cI (dR cg))) dz)
   (cD (A8 (i:=2) (j:=3) rfl kU.nd rfl rfl (by decide) rfl rfl (cf (cT GL hr rfl D.m D.F.kp bL .nil cH (cf (cQ dn (pv 0) cj (fun _ _=>rfl)) (cf (pv 1) cg))) (cf (cT GL hr rfl D.m D.F.kp bL .nil cH (cf (cQ dn (pv 0) cj (fun _ _=>rfl)) (cf (pv 1) cg))) cg)) rfl)
   (cD (dC (cZ mT (cQ dn (pv 0) cj (fun _ _=>rfl)) dw (cX _)) (cz (cI (p6 hr rfl T.sorted rfl T.set (cy m9 (pv 2) (pv 3))))) dz)
   (cD (dB (i:=4) kU.nd rfl (Or.inl rfl) (dR cg))
   (cD (gN PassesOwn.never rfl (jh (pv 2)) (dU (i:=5) kU.nd rfl (Or.inl rfl))
    (cz (gN PassesOwn.never rfl (jh (pv 3)) (dU (i:=6) kU.nd rfl (Or.inl rfl))
     (cD (dB (i:=7) kU.nd rfl (Or.inl rfl) (cy iy (cy iy (dF (uI rfl) rfl T.max t9 (cf (cQ dn (pv 5) cj (fun _ _=>rfl)) (cf (cQ dn (pv 6) cj (fun _ _=>rfl)) cg))) (dF (ue rfl) rfl T.min rM (cf (cQ dn (pv 5) cj (fun _ _=>rfl)) (cf (cQ dn (pv 6) cj (fun _ _=>rfl)) cg)))) cj))
     (cz (dC (Af vh vh cj (pv 7) (cQ dn (pv 0) cj (fun _ _=>rfl)))
      (cz (g9 (gj F.plainAttrs_list F.slot_list_append F.type_list_append jr (pv 4) (cf (fF (cf (dF (ue rfl) rfl T.min rM (cf (cQ dn (pv 5) cj (fun _ _=>rfl)) (cf (cQ dn (pv 6) cj (fun _ _=>rfl)) cg))) (cf (dF (uI rfl) rfl T.max t9 (cf (cQ dn (pv 5) cj (fun _ _=>rfl)) (cf (cQ dn (pv 6) cj (fun _ _=>rfl)) cg))) cg))) cg)))) dz))))))
   (cz (cI (p6 hr rfl T.sorted rfl T.set (pv 4))))))))),?_⟩
  obtain⟨p,xs,rfl,ha,hs⟩:=(t.told_eq ▸ hp).t0
  refine⟨_,rfl,p,_,0,_,rfl,rfl,cq.of ha,cA (j:=0) rfl,kI,fun q hq=>⟨q,_,rfl,.inr (cq.of cx),rfl,rfl,_,rfl,?_⟩⟩
  have s1:ck H (upd H q (.tup [.str "word",.str "start",.str "row"])):=cG hq
  generalize upd H q (.tup [.str "word",.str "start",.str "row"])=H1 at s1 ⊢
  have e3:=z5 t
  cases hk:eN t.kn with
  | true=>
   refine iA (b:=eO (.str t.nm) [.str "word",.str "start",.str "row"]) (e3.trans hk) ⟨_,rfl,_,rfl,.ref p,l,t,ws,rfl,hp.same s1,hk,gd,s1 _ _ hl,hw,au,fun L H' s' nL e'=>?_⟩
   exact k L _ H' (s1.trans s') (s1.free nL) e' (fE.leaf hk)
  | false=>
  refine gK (b:=eO (.str t.nm) [.str "word",.str "start",.str "row"]) (e3.trans hk) ?_
  have av:=s1 _ _ ha
  cases t with
  | word z=>cases hk
  | start z=>cases hk
  | row z=>cases hk
  | no a=>
   refine⟨_,rfl,p,_,0,_,rfl,rfl,cq.of av,cA (j:=0) rfl,rfl,_,rfl,gm rfl ⟨eW,fun L hL=>?_⟩⟩
   exact k L [] _ (s1.upf hL) (s1.free hL) ⟨[],cx,.nil⟩ ⟨List.Pairwise.nil,fun r=>⟨(fun z=>nomatch z),fun z=>(show False from z).elim⟩⟩
  | both a b=>
   obtain⟨x1,x2,rfl,h1,h2⟩:=c9.two hs
   refine⟨_,rfl,p,_,0,_,rfl,rfl,cq.of av,cA (j:=0) rfl,rfl,_,rfl,c8 (a:="both") dkq ?_⟩
   match n,GL,hd with
   | 0,_,hd=>exact absurd hd (by show ¬ max a.dep b.dep + 1<=0;(clear hd hz hw;omega))
   | n + 1,_,hd=>
   have aa:max a.dep b.dep + 1<=n + 1:=hd
   refine⟨_,rfl,p,_,1,_,rfl,rfl,cq.of av,cA (j:=1) rfl,_,rfl,x1,l,a,ws,rfl,h1.same s1,gd.1,by(clear hd hz hw;omega),s1 _ _ hl,hw,au,fun L1 ao H2 s2 n2 e1 S1=>?_⟩
   have J:=s1.trans s2
   refine⟨_,rfl,p,_,2,_,rfl,rfl,cq.of (J _ _ ha),cA (j:=2) rfl,_,rfl,x2,l,b,ws,rfl,h2.same J,gd.2,by(clear hd hz hw;omega),J _ _ hl,hw,au,fun L2 ag H3 s3 n3 e2 S2=>⟨_,_,rfl,?_⟩⟩
   have aq:=J.trans s3
   have ay:=aq _ _ ha
   refine⟨_,rfl,p,_,0,_,rfl,rfl,cq.of ay,cA (j:=0) rfl,rfl,_,rfl,?_⟩
   refine iA (b:= !decide (V.str "both"=V.str "near")) dkq ?_
   have t1:=S1.len gd.1 hw
   have t2:=S2.len gd.2 hw
   obtain⟨aA,f1,p1⟩:=e1.same s3
   obtain⟨aB,f2,p2⟩:=e2
   have q1:=Gn.Paired.len p1
   have q2:=Gn.Paired.len p2
   refine⟨_,rfl,_,rfl,L1,L2,_,_,rfl,rfl,f1,f2,by rw [List.length_map,List.length_map];(clear aa hd hw;omega),fun L hL=>?_⟩
   obtain⟨ps,aC,aD⟩:=lA (l1:=L1) (l2:=L2) p1 p2 hL
   refine⟨L,ps,ao++ag,rfl,aC,aD,fun r hr=>?_,⟨SPN.U 64,fun r hr=>?_,nY⟩,fun L' us rs nL aE up me=>?_⟩
   ·rcases List.mem_append.mp hr with hr | hr
    ·exact(S1.U gd.1 hw r hr).2.2
    ·exact(S2.U gd.2 hw r hr).2.2
   ·rcases List.mem_append.mp hr with hr | hr
    ·exact(S1.U gd.1 hw r hr).1
    ·exact(S2.U gd.2 hw r hr).1
   ·have ar:=aq.upf (o:= .lst (aA.map V.ref++aB.map V.ref)) hL
    refine k L' rs _ (ar.upf nL) (ar.free nL) ⟨us,cx,fV (cG nL) aE⟩ ⟨up,fun r=>?_⟩
    rw [me,List.mem_append,S1.mem,S2.mem]
    exact Iff.rfl
  | either a b=>
   obtain⟨x1,x2,rfl,h1,h2⟩:=c9.two hs
   refine⟨_,rfl,p,_,0,_,rfl,rfl,cq.of av,cA (j:=0) rfl,rfl,_,rfl,c8 (a:="either") dkq ?_⟩
   match n,GL,hd with
   | 0,_,hd=>exact absurd hd (by show ¬ max a.dep b.dep + 1<=0;(clear hd hz hw;omega))
   | n + 1,_,hd=>
   have aa:max a.dep b.dep + 1<=n + 1:=hd
   refine⟨_,rfl,p,_,1,_,rfl,rfl,cq.of av,cA (j:=1) rfl,_,rfl,x1,l,a,ws,rfl,h1.same s1,gd.1,by(clear hd hz hw;omega),s1 _ _ hl,hw,au,fun L1 ao H2 s2 n2 e1 S1=>?_⟩
   have J:=s1.trans s2
   refine⟨_,rfl,p,_,2,_,rfl,rfl,cq.of (J _ _ ha),cA (j:=2) rfl,_,rfl,x2,l,b,ws,rfl,h2.same J,gd.2,by(clear hd hz hw;omega),J _ _ hl,hw,au,fun L2 ag H3 s3 n3 e2 S2=>⟨_,_,rfl,?_⟩⟩
   have aq:=J.trans s3
   have ay:=aq _ _ ha
   refine⟨_,rfl,p,_,0,_,rfl,rfl,cq.of ay,cA (j:=0) rfl,rfl,_,rfl,?_⟩
   refine iA (b:= !decide (V.str "either"=V.str "near")) dkq ?_
   have t1:=S1.len gd.1 hw
   have t2:=S2.len gd.2 hw
   obtain⟨aA,f1,p1⟩:=e1.same s3
   obtain⟨aB,f2,p2⟩:=e2
   have q1:=Gn.Paired.len p1
   have q2:=Gn.Paired.len p2
   refine⟨_,rfl,_,rfl,L1,L2,_,_,rfl,rfl,f1,f2,by rw [List.length_map,List.length_map];(clear aa hd hw;omega),fun L hL=>?_⟩
   obtain⟨ps,aC,aD⟩:=lA (l1:=L1) (l2:=L2) p1 p2 hL
   refine⟨L,ps,ao++ag,rfl,aC,aD,fun r hr=>?_,⟨SPN.U 64,fun r hr=>?_,nY⟩,fun L' us rs nL aE up me=>?_⟩
   ·rcases List.mem_append.mp hr with hr | hr
    ·exact(S1.U gd.1 hw r hr).2.2
    ·exact(S2.U gd.2 hw r hr).2.2
   ·rcases List.mem_append.mp hr with hr | hr
    ·exact(S1.U gd.1 hw r hr).1
    ·exact(S2.U gd.2 hw r hr).1
   ·have ar:=aq.upf (o:= .lst (aA.map V.ref++aB.map V.ref)) hL
    refine k L' rs _ (ar.upf nL) (ar.free nL) ⟨us,cx,fV (cG nL) aE⟩ ⟨up,fun r=>?_⟩
    rw [me,List.mem_append,S1.mem,S2.mem]
    exact Iff.rfl
  | near a b m=>
   obtain⟨x1,x2,x3,rfl,h1,h2,h3⟩:=c9.three hs
   cases h3
   have gg:=gd
   obtain⟨⟨l1,l2⟩,⟨m0,ae⟩,g1,g2⟩:=gd
   obtain⟨mm,rfl⟩:=Int.eq_ofNat_of_zero_le m0
   refine⟨_,rfl,p,_,0,_,rfl,rfl,cq.of av,cA (j:=0) rfl,rfl,_,rfl,c8 (a:="near") dkq ?_⟩
   match n,GL,hd with
   | 0,_,hd=>exact absurd hd (by show ¬ max a.dep b.dep + 1<=0;(clear hd ae m0 hz hw;omega))
   | n + 1,_,hd=>
   have aa:max a.dep b.dep + 1<=n + 1:=hd
   refine⟨_,rfl,p,_,1,_,rfl,rfl,cq.of av,cA (j:=1) rfl,_,rfl,x1,l,a,ws,rfl,h1.same s1,g1,by(clear hd ae m0 hz hw;omega),s1 _ _ hl,hw,au,fun L1 ao H2 s2 n2 e1 S1=>?_⟩
   have J:=s1.trans s2
   refine⟨_,rfl,p,_,2,_,rfl,rfl,cq.of (J _ _ ha),cA (j:=2) rfl,_,rfl,x2,l,b,ws,rfl,h2.same J,g2,by(clear hd ae m0 hz hw;omega),J _ _ hl,hw,au,fun L2 ag H3 s3 n3 e2 S2=>⟨_,_,rfl,?_⟩⟩
   have aq:=J.trans s3
   have ay:=aq _ _ ha
   refine⟨_,rfl,p,_,0,_,rfl,rfl,cq.of ay,cA (j:=0) rfl,rfl,_,rfl,?_⟩
   refine gK (b:= !decide (V.str "near"=V.str "near")) dkq ?_
   have t1:=S1.lenL l1 hw
   have t2:=S2.lenL l2 hw
   obtain⟨aA,f1,p1⟩:=e1.same s3
   obtain⟨aB,f2,p2⟩:=e2
   have q1:=Gn.Paired.len p1
   have q2:=Gn.Paired.len p2
   have em:(((mm:Nat):Int)).toNat=mm:=Int.toNat_natCast mm
   refine⟨eW,fun fo aG=>?_⟩
   refine⟨_,rfl,L1,rfl,⟨_,cm.of (cG aG _ _ f1)⟩,?_⟩
   refine lZ (xs:=aA.map V.ref) (fun i σ H'=>∃(xs:List V) (fs:List (Nat×Nat)) (o5 o6 o7:Option V),σ=[some (.ref p),some (.ref l),some (.ref L1),some (.ref L2),some (.ref fo),o5,o6,o7]/\Gr H3 H' fo xs fs/\fs.length<=i * 64/\∀ r,r∈fs↔pL (ao.take i) ag mm r) ?_ ?_ ?_ ?_
   ·exact⟨[],[],none,none,none,rfl,Gr.new aG,Nat.zero_le _,fun r=>⟨(fun z=>nomatch z),fun⟨p,hp,_⟩=>by simp at hp⟩⟩
   ·rintro i σ H' _ ⟨xs,fs,o5,o6,o7,_,gr,_⟩
    exact cm.of (gr.sm _ _ f1)
   ·rintro i x σ H4 hx ⟨xs,fs,o5,o6,o7,rfl,gr,ah,af⟩
    obtain⟨pa,aw,rfl⟩:=lG hx
    obtain⟨u,ak,aM⟩:=jw p1 aw
    have hu:=iB g1 ((S1.mem u).mp (List.mem_of_getElem? ak))
    refine⟨_,rfl,L2,rfl,⟨_,cm.of (gr.sm _ _ f2)⟩,?_⟩
    refine lZ (xs:=aB.map V.ref) (fun j σ H'=>∃(xs:List V) (fs:List (Nat×Nat)) (o6 o7:Option V),σ=[some (.ref p),some (.ref l),some (.ref L1),some (.ref L2),some (.ref fo),some (.ref pa),o6,o7]/\Gr H3 H' fo xs fs/\fs.length<=i * 64 + j/\∀ r,r∈fs↔pL (ao.take i) ag mm r\/∃ q∈ag.take j,iH u q mm r) ?_ ?_ ?_ ?_
    ·exact⟨xs,fs,_,_,rfl,gr,by(clear hu ak hx aw em q2 q1 t2 t1 aa hd ae m0 hz hw;omega),fun r=>(af r).trans ⟨.inl,fun z=>z.elim id fun⟨q,hq,_⟩=>by simp at hq⟩⟩
    ·rintro j σ H' _ ⟨xs,fs,o6,o7,_,gr,_⟩
     exact cm.of (gr.sm _ _ f2)
    ·rintro j x σ H5 hx ⟨xs,fs,o6,o7,rfl,gr,ah,af⟩
     obtain⟨pb,aF,rfl⟩:=lG hx
     obtain⟨v,ax,aN⟩:=jw p2 aF
     have hv:=iB g2 ((S2.mem v).mp (List.mem_of_getElem? ax))
     have aH:=(List.getElem?_eq_some_iff.mp ax).1
     have aI:=(List.getElem?_eq_some_iff.mp ak).1
     have A5:=gr.sm _ _ aM
     have B5:=gr.sm _ _ aN
     have P5:=gr.sm _ _ ay
     have xl:=gr.len
     refine⟨_,rfl,pa,_,0,_,rfl,rfl,cq.of A5,cA (j:=0) rfl,_,rfl,pb,_,0,_,rfl,rfl,cq.of B5,cA (j:=0) rfl,_,_,rfl,_,rfl,pa,_,1,_,rfl,rfl,cq.of A5,cA (j:=1) rfl,_,rfl,pb,_,1,_,rfl,rfl,cq.of B5,cA (j:=1) rfl,_,_,rfl,_,_,rfl,rfl,_,_,rfl,rfl,?_⟩
     have done:∀(H6:Hp) (aJ:List V) (fs':List (Nat×Nat)) (aK:Option V),Gr H3 H6 fo aJ fs'->fs'.length<=fs.length + 1->(∀ r,r∈fs'↔r∈fs\/iH u v mm r)->
       ∃(xs:List V) (fs:List (Nat×Nat)) (o6 o7:Option V),([some (.ref p),some (.ref l),some (.ref L1),some (.ref L2),some (.ref fo),some (.ref pa),some (.ref pb),aK]:List (Option V))=[some (.ref p),some (.ref l),some (.ref L1),some (.ref L2),some (.ref fo),some (.ref pa),o6,o7]/\Gr H3 H6 fo xs fs/\fs.length<=i * 64 + (j + 1)/\∀ r,r∈fs↔pL (ao.take i) ag mm r\/∃ q∈ag.take (j + 1),iH u q mm r:=fun H6 aJ fs' aK g6 h6 m6=>by
      refine⟨aJ,fs',_,_,rfl,g6,by(clear xl aI aH hv ax hx aF hu ak aw em q2 q1 t2 t1 aa hd ae m0 hz hw;omega),fun r=>?_⟩
      rw [m6,af,take_snoc ax,or_assoc]
      refine or_congr Iff.rfl ⟨?_,?_⟩
      ·rintro(⟨q,h0,h1⟩ | h)
       ·exact⟨q,List.mem_append_left _ h0,h1⟩
       ·exact⟨v,List.mem_append_right _ (List.mem_singleton.mpr rfl),h⟩
      ·rintro⟨q,h0,h1⟩
       rcases List.mem_append.mp h0 with h0 | h0
       ·exact .inl ⟨q,h0,h1⟩
       ·rw [List.mem_singleton.mp h0] at h1
        exact .inr h1
     refine⟨_,rfl,_,_,rfl,rfl,_,rfl,?_⟩
     by_cases c1:0<=mx (u.1:Int) (v.1:Int) - mn (u.2:Int) (v.2:Int) - 1
     ·refine iA (b:=decide (0<=mx (u.1:Int) (v.1:Int) - mn (u.2:Int) (v.2:Int) - 1)) (decide_eq_true c1) ⟨_,rfl,p,_,3,_,rfl,rfl,cq.of P5,cA (j:=3) rfl,_,_,rfl,rfl,_,rfl,?_⟩
      by_cases c2:mx (u.1:Int) (v.1:Int) - mn (u.2:Int) (v.2:Int) - 1<=((mm:Nat):Int)
      ·refine iA (b:=decide (mx (u.1:Int) (v.1:Int) - mn (u.2:Int) (v.2:Int) - 1<=((mm:Nat):Int))) (decide_eq_true c2) ?_
       obtain⟨r,r1,r2,r3⟩:=Cg hu.1 hv.1 ⟨c1,c2⟩
       refine⟨_,rfl,.inl ⟨rfl,_,cm.of gr.fo⟩,_,rfl,pa,_,0,_,rfl,rfl,cq.of A5,cA (j:=0) rfl,_,rfl,pb,_,0,_,rfl,rfl,cq.of B5,cA (j:=0) rfl,_,_,rfl,_,rfl,pa,_,1,_,rfl,rfl,cq.of A5,cA (j:=1) rfl,_,rfl,pb,_,1,_,rfl,rfl,cq.of B5,cA (j:=1) rfl,_,_,rfl,eU,fun tq aL=>?_⟩
       refine⟨fo,xs,_,rfl,rfl,cG aL _ _ gr.fo,by(clear r2 r1 c2 c1 hv ax hx aF hu ak aw em q2 q1 aa hd ae m0 hw;omega),?_⟩
       refine done _ _ _ _ (gr.app (r:=r) aG aL r1 r2) (by rw [List.length_append];exact Nat.le_refl _) fun x=>?_
       rw [List.mem_append,List.mem_singleton,r3]
      ·refine gK (b:=decide (mx (u.1:Int) (v.1:Int) - mn (u.2:Int) (v.2:Int) - 1<=((mm:Nat):Int))) (decide_eq_false c2) ?_
       exact done _ _ _ _ gr (by(clear c2 c1 xl aI aH hv ax hx aF ah hu ak aw em q2 q1 t2 t1 aa hd ae m0 hz hw;omega)) fun x=>⟨.inl,fun z=>z.elim id fun z=>absurd z (vH hu.1 hv.1 (fun q=>c2 q.2) x)⟩
     ·refine gK (b:=decide (0<=mx (u.1:Int) (v.1:Int) - mn (u.2:Int) (v.2:Int) - 1)) (decide_eq_false c1) ⟨_,rfl,cY ?_⟩
      exact done _ _ _ _ gr (by(clear c1 xl aI aH hv ax hx aF ah hu ak aw em q2 q1 t2 t1 aa hd ae m0 hz hw;omega)) fun x=>⟨.inl,fun z=>z.elim id fun z=>absurd z (vH hu.1 hv.1 (fun q=>c1 q.1) x)⟩
    ·rintro σ H5 ⟨xs,fs,o6,o7,rfl,gr,ah,af⟩
     have e:(aB.map V.ref).length=ag.length:=by rw [List.length_map,q2]
     rw [e] at ah af
     rw [List.take_length] at af
     refine⟨xs,fs,_,_,_,rfl,gr,by(clear e hu ak hx aw em q2 q1 t1 aa hd ae m0 hz hw;omega),fun r=>?_⟩
     rw [af,take_snoc ak]
     constructor
     ·rintro(⟨p',h1,h2⟩ | ⟨q,h0,h1⟩)
      ·exact⟨p',List.mem_append_left _ h1,h2⟩
      ·exact⟨u,List.mem_append_right _ (List.mem_singleton.mpr rfl),q,h0,h1⟩
     ·rintro⟨p',h1,q,h0,h2⟩
      rcases List.mem_append.mp h1 with h1 | h1
      ·exact .inl ⟨p',h1,q,h0,h2⟩
      ·rw [List.mem_singleton.mp h1] at h2
       exact .inr ⟨q,h0,h2⟩
   ·rintro σ H4 ⟨xs,fs,o5,o6,o7,rfl,gr,ah,af⟩
    have e:(aA.map V.ref).length=ao.length:=by rw [List.length_map,q1]
    rw [e] at ah af
    rw [List.take_length] at af
    have mem:∀ r,r∈fs↔eE (.near a b ((mm:Nat):Int)) ws r:=fun r=>by
     rw [af]
     show _↔∃ p q,eE a ws p/\eE b ws q/\iH p q (((mm:Nat):Int)).toNat r
     rw [em]
     constructor
     ·rintro⟨u,hu,v,hv,h⟩
      exact⟨u,v,(S1.mem u).mp hu,(S2.mem v).mp hv,h⟩
     ·rintro⟨u,v,hu,hv,h⟩
      exact⟨u,(S1.mem u).mpr hu,v,(S2.mem v).mpr hv,h⟩
    obtain⟨ps,aC,aD⟩:=gr.spl
    have ar:=aq.trans gr.sm
    refine⟨_,rfl,fo,ps,fs,rfl,aC,aD,fun r hr=>?_,⟨SPN.U 64,fun r hr=>?_,nY⟩,fun L' us rs nL aE up me=>?_⟩
    ·obtain⟨b1,b2,b3⟩:=iB gg ((mem r).mp hr)
     (clear b3 b1 e ah em q2 q1 t2 t1 aa hd ae m0 hz;omega)
    ·obtain⟨b1,b2,b3⟩:=iB gg ((mem r).mp hr)
     exact qy b1 (by(clear b3 b1 e ah em q2 q1 t2 t1 aa hd ae m0 hz;omega)) b3
    ·exact k L' rs _ (ar.upf nL) (ar.free nL) ⟨us,cx,fV (cG nL) aE⟩ ⟨up,fun r=>(me r).trans (mem r)⟩
theorem nV{f fp:Addr}{fd fdp:FuncData}(D:Df K mg "_law_spans" jk f fd)(DP:Df K mg "_law_plain_spans" jM fp fdp)(T:Txt mg):∀ n:Nat,cu P w K mg base cC (n + 2) f fd ["_law_told","_law_words"] (kZ n)
 | 0=>sI D DP T 0 lP
 | n + 1=>sI D DP T (n + 1) (nV D DP T n)
end
theorem nh(rs:List (Nat×Nat)):PyData.eqv (.list (fH rs)) (.list [])=rs.isEmpty:=by cases rs<;>rfl
theorem xK{a b:Bool}{p:Prop}(h1:a=true↔p)(h2:b=true↔p):a=b:=by
 cases a<;>cases b
 ·rfl
 ·exact(h1.mpr (h2.mp rfl)).symm ▸ rfl
 ·exact(h2.mpr (h1.mp rfl)).symm ▸ rfl
 ·rfl
section
variable {P : Program} {w : World} {K : PySem.W.Frag} {mg : Str -> Option Value} {base : Heap}
noncomputable def mO(n:Nat):Sp:=fun vs H Q _=>∃(x:V) (l:Addr) (t:At) (ws:List Str),vs=[x,.ref l]/\cM false H x t.told/\Gd t/\t.dep<=n/\H l=some (.lst (ws.map V.str))/\ws.length<=64/\(∀ z∈ws,Ow z)/\
 ∀ b H',ck H H'->(b=true↔jG t ws)->Q (.bl b) H'
noncomputable def zq(n:Nat):Sp:=match n with
 | 0=>fun _ _ _ _=>False
 | n + 1=>mO n
theorem yS:dD ["_law_told","_law_words"] ["_law_told","_law_words"] (cv kG):=⟨rfl,rfl,rfl,dkq,rfl,dkq,dkq⟩
seal cV PS PE PT PA PG PI dj de in
theorem tX{f fs:Addr}{fd fds:FuncData}(D:Df K mg "_law_holds" kG f fd)(DS:Df K mg "_law_spans" jk fs fds)(n:Nat)(GS:cu P w K mg base cC (n + 2) fs fds ["_law_told","_law_words"] (kZ n))(GL:cu P w K mg base cC (n + 2) f fd ["_law_told","_law_words"] (zq n)):cu P w K mg base cC (n + 3) f fd ["_law_told","_law_words"] (mO n):=by
 have bS:=DS.F.binds (ps:=["_law_told","_law_words"]) fun _ _ _ _ _ _ us hl=>eT (fun _ _=>rfl) us hl
 have bL:=D.F.binds (ps:=["_law_told","_law_words"]) fun _ _ _ _ _ _ us hl=>eT (fun _ _=>rfl) us hl
 refine D.F.ok yS (fun vs H Q E h=>?_) (fun cdv A outer s H vs Q E U h=>?_)
 ·obtain⟨x,l,t,ws,rfl,_⟩:=h
  rfl
 ·obtain⟨x,l,t,ws,rfl,hp,gd,hd,hl,hw,J,k⟩:=h
  refine⟨_,cD (dC (cZ dQ (cQ dn (pv 0) cj (fun _ _=>rfl)) dw (cX _)) (cz (cI (pT (cT GL U rfl D.m D.F.kp bL .nil cH (cf (cQ dn (pv 0) cj (fun _ _=>rfl)) (cf (pv 1) cg)))))) dz)
   (cD (dC (cZ dQ (cQ dn (pv 0) cj (fun _ _=>rfl)) dw (cX _)) (cz (cI (ni (cT GL U rfl D.m D.F.kp bL .nil cH (cf (cQ dn (pv 0) cj (fun _ _=>rfl)) (cf (pv 1) cg))) (jD (cT GL U rfl D.m D.F.kp bL .nil cH (cf (cQ dn (pv 0) cj (fun _ _=>rfl)) (cf (pv 1) cg))))))) dz)
   (cD (dC (cZ dQ (cQ dn (pv 0) cj (fun _ _=>rfl)) dw (cX _)) (cz (cI (qL (cT GL U rfl D.m D.F.kp bL .nil cH (cf (cQ dn (pv 0) cj (fun _ _=>rfl)) (cf (pv 1) cg))) (jD (cT GL U rfl D.m D.F.kp bL .nil cH (cf (cQ dn (pv 0) cj (fun _ _=>rfl)) (cf (pv 1) cg))))))) dz)
   (cz (cI (iJ (lN U.units100) (cT GS U rfl DS.m DS.F.kp bS .nil cH (cf (pv 0) (cf (pv 1) cg))) (dR cg) rfl))))),?_⟩
  obtain⟨p,xs,rfl,ha,hs⟩:=(t.told_eq ▸ hp).t0
  cases t with
  | word z=>
   refine⟨_,rfl,p,_,0,_,rfl,rfl,cq.of ha,cA (j:=0) rfl,rfl,_,rfl,c8 (a:="word") dkq (?_)⟩
   refine⟨_,rfl,p,_,0,_,rfl,rfl,cq.of ha,cA (j:=0) rfl,rfl,_,rfl,c8 (a:="word") dkq (?_)⟩
   refine⟨_,rfl,p,_,0,_,rfl,rfl,cq.of ha,cA (j:=0) rfl,rfl,_,rfl,c8 (a:="word") dkq (?_)⟩
   refine⟨_,rfl,_,rfl,.ref p,l,_,ws,rfl,hp,gd,hd,hl,hw,J,fun L rs H1 s1 nL e1 S=>⟨eW,fun q hq=>?_⟩⟩
   have ee:=e1.same (cG (o:= .lst []) hq)
   refine⟨.list (fH rs),.list [],ee.dt,.lst (cm.of cx) .nil,iw rs,rfl,Nat.le_trans (Nat.min_le_right _ _) (by decide),?_⟩
   refine k _ _ (s1.upf hq) ?_
   rw [nh]
   show(!rs.isEmpty)=true↔∃ r,eE _ ws r
   constructor
   ·intro z
    cases rs with
    | nil=>cases z
    | cons r rs=>exact⟨r,(S.mem r).mp List.mem_cons_self⟩
   ·rintro⟨r,U⟩
    have:=(S.mem r).mpr U
    cases rs with
    | nil=>cases this
    | cons _ _=>rfl
  | start z=>
   refine⟨_,rfl,p,_,0,_,rfl,rfl,cq.of ha,cA (j:=0) rfl,rfl,_,rfl,c8 (a:="start") dkq (?_)⟩
   refine⟨_,rfl,p,_,0,_,rfl,rfl,cq.of ha,cA (j:=0) rfl,rfl,_,rfl,c8 (a:="start") dkq (?_)⟩
   refine⟨_,rfl,p,_,0,_,rfl,rfl,cq.of ha,cA (j:=0) rfl,rfl,_,rfl,c8 (a:="start") dkq (?_)⟩
   refine⟨_,rfl,_,rfl,.ref p,l,_,ws,rfl,hp,gd,hd,hl,hw,J,fun L rs H1 s1 nL e1 S=>⟨eW,fun q hq=>?_⟩⟩
   have ee:=e1.same (cG (o:= .lst []) hq)
   refine⟨.list (fH rs),.list [],ee.dt,.lst (cm.of cx) .nil,iw rs,rfl,Nat.le_trans (Nat.min_le_right _ _) (by decide),?_⟩
   refine k _ _ (s1.upf hq) ?_
   rw [nh]
   show(!rs.isEmpty)=true↔∃ r,eE _ ws r
   constructor
   ·intro z
    cases rs with
    | nil=>cases z
    | cons r rs=>exact⟨r,(S.mem r).mp List.mem_cons_self⟩
   ·rintro⟨r,U⟩
    have:=(S.mem r).mpr U
    cases rs with
    | nil=>cases this
    | cons _ _=>rfl
  | row z=>
   refine⟨_,rfl,p,_,0,_,rfl,rfl,cq.of ha,cA (j:=0) rfl,rfl,_,rfl,c8 (a:="row") dkq (?_)⟩
   refine⟨_,rfl,p,_,0,_,rfl,rfl,cq.of ha,cA (j:=0) rfl,rfl,_,rfl,c8 (a:="row") dkq (?_)⟩
   refine⟨_,rfl,p,_,0,_,rfl,rfl,cq.of ha,cA (j:=0) rfl,rfl,_,rfl,c8 (a:="row") dkq (?_)⟩
   refine⟨_,rfl,_,rfl,.ref p,l,_,ws,rfl,hp,gd,hd,hl,hw,J,fun L rs H1 s1 nL e1 S=>⟨eW,fun q hq=>?_⟩⟩
   have ee:=e1.same (cG (o:= .lst []) hq)
   refine⟨.list (fH rs),.list [],ee.dt,.lst (cm.of cx) .nil,iw rs,rfl,Nat.le_trans (Nat.min_le_right _ _) (by decide),?_⟩
   refine k _ _ (s1.upf hq) ?_
   rw [nh]
   show(!rs.isEmpty)=true↔∃ r,eE _ ws r
   constructor
   ·intro z
    cases rs with
    | nil=>cases z
    | cons r rs=>exact⟨r,(S.mem r).mp List.mem_cons_self⟩
   ·rintro⟨r,U⟩
    have:=(S.mem r).mpr U
    cases rs with
    | nil=>cases this
    | cons _ _=>rfl
  | near a b m=>
   refine⟨_,rfl,p,_,0,_,rfl,rfl,cq.of ha,cA (j:=0) rfl,rfl,_,rfl,c8 (a:="near") dkq (?_)⟩
   refine⟨_,rfl,p,_,0,_,rfl,rfl,cq.of ha,cA (j:=0) rfl,rfl,_,rfl,c8 (a:="near") dkq (?_)⟩
   refine⟨_,rfl,p,_,0,_,rfl,rfl,cq.of ha,cA (j:=0) rfl,rfl,_,rfl,c8 (a:="near") dkq (?_)⟩
   refine⟨_,rfl,_,rfl,.ref p,l,_,ws,rfl,hp,gd,hd,hl,hw,J,fun L rs H1 s1 nL e1 S=>⟨eW,fun q hq=>?_⟩⟩
   have ee:=e1.same (cG (o:= .lst []) hq)
   refine⟨.list (fH rs),.list [],ee.dt,.lst (cm.of cx) .nil,iw rs,rfl,Nat.le_trans (Nat.min_le_right _ _) (by decide),?_⟩
   refine k _ _ (s1.upf hq) ?_
   rw [nh]
   show(!rs.isEmpty)=true↔∃ r,eE _ ws r
   constructor
   ·intro z
    cases rs with
    | nil=>cases z
    | cons r rs=>exact⟨r,(S.mem r).mp List.mem_cons_self⟩
   ·rintro⟨r,U⟩
    have:=(S.mem r).mpr U
    cases rs with
    | nil=>cases this
    | cons _ _=>rfl
  | no a=>
   obtain⟨x1,rfl,h1⟩:=c9.one hs
   match n,GL,hd with
   | 0,_,hd=>exact absurd hd (by show ¬ a.dep + 1<=0;omega)
   | n + 1,_,hd=>
   have aa:a.dep + 1<=n + 1:=hd
   refine⟨_,rfl,p,_,0,_,rfl,rfl,cq.of ha,cA (j:=0) rfl,rfl,_,rfl,gm rfl ⟨_,rfl,p,_,1,_,rfl,rfl,cq.of ha,cA (j:=1) rfl,_,rfl,x1,l,a,ws,rfl,h1,gd,by omega,hl,hw,J,fun b1 H1 s1 i1=>⟨_,rfl,k _ H1 s1 ?_⟩⟩⟩
   cases b1 with
   | true=>exact⟨(fun z=>by cases z),fun z=>absurd (i1.mp rfl) z⟩
   | false=>exact⟨(fun _ z=>by have:=i1.mpr z;cases this),fun _=>rfl⟩
  | both a b=>
   obtain⟨x1,x2,rfl,h1,h2⟩:=c9.two hs
   match n,GL,hd with
   | 0,_,hd=>exact absurd hd (by show ¬ max a.dep b.dep + 1<=0;omega)
   | n + 1,_,hd=>
   have aa:max a.dep b.dep + 1<=n + 1:=hd
   refine⟨_,rfl,p,_,0,_,rfl,rfl,cq.of ha,cA (j:=0) rfl,rfl,_,rfl,c8 (a:="both") dkq (?_)⟩
   refine⟨_,rfl,p,_,0,_,rfl,rfl,cq.of ha,cA (j:=0) rfl,rfl,_,rfl,gm rfl ⟨_,rfl,p,_,1,_,rfl,rfl,cq.of ha,cA (j:=1) rfl,_,rfl,x1,l,a,ws,rfl,h1,gd.1,by omega,hl,hw,J,fun b1 H1 s1 i1=>?_⟩⟩
   cases b1 with
   | false=>exact⟨_,rfl,cY (k false H1 s1 ⟨(fun z=>by cases z),fun z=>by have:=i1.mpr z.1;cases this⟩)⟩
   | true=>
    refine⟨_,rfl,cJ ⟨_,rfl,p,_,2,_,rfl,rfl,cq.of (s1 _ _ ha),cA (j:=2) rfl,_,rfl,x2,l,b,ws,rfl,h2.same s1,gd.2,by omega,s1 _ _ hl,hw,J,fun b2 H2 s2 i2=>?_⟩⟩
    exact k b2 H2 (s1.trans s2) ⟨fun z=>⟨i1.mp rfl,i2.mp z⟩,fun z=>i2.mpr z.2⟩
  | either a b=>
   obtain⟨x1,x2,rfl,h1,h2⟩:=c9.two hs
   match n,GL,hd with
   | 0,_,hd=>exact absurd hd (by show ¬ max a.dep b.dep + 1<=0;omega)
   | n + 1,_,hd=>
   have aa:max a.dep b.dep + 1<=n + 1:=hd
   refine⟨_,rfl,p,_,0,_,rfl,rfl,cq.of ha,cA (j:=0) rfl,rfl,_,rfl,c8 (a:="either") dkq (?_)⟩
   refine⟨_,rfl,p,_,0,_,rfl,rfl,cq.of ha,cA (j:=0) rfl,rfl,_,rfl,c8 (a:="either") dkq (?_)⟩
   refine⟨_,rfl,p,_,0,_,rfl,rfl,cq.of ha,cA (j:=0) rfl,rfl,_,rfl,gm rfl ⟨_,rfl,p,_,1,_,rfl,rfl,cq.of ha,cA (j:=1) rfl,_,rfl,x1,l,a,ws,rfl,h1,gd.1,by omega,hl,hw,J,fun b1 H1 s1 i1=>?_⟩⟩
   cases b1 with
   | true=>exact⟨_,rfl,cJ (k true H1 s1 ⟨fun _=> .inl (i1.mp rfl),fun _=>rfl⟩)⟩
   | false=>
    refine⟨_,rfl,cY ⟨_,rfl,p,_,2,_,rfl,rfl,cq.of (s1 _ _ ha),cA (j:=2) rfl,_,rfl,x2,l,b,ws,rfl,h2.same s1,gd.2,by omega,s1 _ _ hl,hw,J,fun b2 H2 s2 i2=>?_⟩⟩
    exact k b2 H2 (s1.trans s2) ⟨fun z=> .inr (i2.mp z),fun z=>z.elim (fun z=>by have:=i1.mpr z;cases this) fun z=>i2.mpr z⟩
theorem sD{f fs fp:Addr}{fd fds fdp:FuncData}(D:Df K mg "_law_holds" kG f fd)(DS:Df K mg "_law_spans" jk fs fds)(DP:Df K mg "_law_plain_spans" jM fp fdp)(T:Txt mg):∀ n:Nat,cu P w K mg base cC (n + 3) f fd ["_law_told","_law_words"] (mO n)
 | 0=>tX D DS 0 (nV DS DP T 0) lP
 | n + 1=>tX D DS (n + 1) (nV DS DP T (n + 1)) (sD D DS DP T n)
noncomputable def eV(H:Hp)(h l:Addr)(hs:List V):Prop:=∀ v∈hs,∃(p a b:Addr) (xs:List V),v= .ref p/\H p=some (.tup [.ref a,.ref b])/\H a=some (.lst xs)/\H b=some (.lst xs)/\a≠h/\b≠h/\a≠l/\b≠l/\∀ u∈xs,∃ q,u=V.ref q
theorem eV.sx {H H':Hp}{h l:Addr}{hs ys:List V}(s:SX h H H')(e:H h=some (.lst ys))(o:eV H h l hs):eV H' h l hs:=fun v U=>by
 obtain⟨p,a,b,xs,e1,J,e3,e4,n1,n2,r⟩:=o v U
 exact⟨p,a,b,xs,e1,s _ _ (jH J e (by intro z;cases z)) J,s _ _ n1 e3,s _ _ n2 e4,n1,n2,r⟩
theorem eV.wr {H:Hp}{h l:Addr}{hs ys zs:List V}(e:H l=some (.lst ys))(o:eV H h l hs):eV (upd H l (.lst zs)) h l hs:=fun v hv=>by
 obtain⟨p,a,b,xs,e1,J,e3,e4,n1,n2,n3,U,r⟩:=o v hv
 exact⟨p,a,b,xs,e1,by rw [cK (jH J e (by intro z;cases z))];exact J,by rw [cK n3];exact e3,by rw [cK U];exact e4,n1,n2,n3,U,r⟩
theorem eV.app {H:Hp}{h l:Addr}{hs ys:List V}(o:eV H h l hs)(o2:eV H h l ys):eV H h l (hs++ys):=fun v J=>(List.mem_append.mp J).elim (o v) (o2 v)
variable {C f fh : Kn -> Addr} {fd fdh : Kn -> FuncData}
noncomputable def sg(C:Kn->Addr)(n:Nat):Sp:=fun vs H Q _=>∃(a l h:Addr) (x:V) (t:At) (ws:List Str) (hs:List V),vs=[.ref a,x,.ref l,.ref h]/\dI C H a t/\cM false H x t.told/\Gd t/\t.dep<=n/\H l=some (.lst (ws.map V.str))/\ws.length<=64/\(∀ z∈ws,Ow z)/\
 H h=some (.lst hs)/\h≠l/\eV H h l hs/\hs.length<=1000/\∀ J H',SX h H H'->H' h=some (.lst J)->eV H' h l J->J.length<=hs.length + 1->Q (.bl true) H'
theorem qD:dD ["_law_ask","_law_told","_law_words","_law_held","_law_found","_law_span"] ["_law_ask","_law_told","_law_words","_law_held"] (cv kb):=⟨rfl,rfl,rfl,dkq,rfl,dkq,dkq⟩
theorem wo:(["_law_place"]:List Str).Nodup:=dkq
theorem vg(rs:List (Nat×Nat)):min (PyData.list (fH rs)).depth (PyData.list (fH rs)).depth<=100:=by
 have:=um rs
 show min (PyData.depthAll _ + 1) (PyData.depthAll _ + 1)<=100
 omega
seal cV PS PE PT PA PG PI dj de in
theorem zM{fr fl:Addr}{fdr fdl:FuncData}(D:Df K mg "_law_spans_right" kb fr fdr)(DL:Df K mg "_law_spans" jk fl fdl)(Cl:Cs K C)(MS:Mt K C "spans" gu eM f fd)(T:Txt mg)(n:Nat)(GS:∀ i,cu P w K mg base cC (n + 4) (f i) (fd i) ["self","words"] (gc C n i))(GL:cu P w K mg base cC (n + 4) fl fdl ["_law_told","_law_words"] (kZ n)):
  cu P w K mg base cC (n + 5) fr fdr ["_law_ask","_law_told","_law_words","_law_held"] (sg C n):=by
 have bL:=DL.F.binds (ps:=["_law_told","_law_words"]) fun _ _ _ _ _ _ us hl=>eT (fun _ _=>rfl) us hl
 refine D.F.ok qD (fun vs H Q E h=>?_) (fun cdv A outer s H vs Q E hr h=>?_)
 ·obtain⟨a,l,h,x,t,ws,hs,rfl,_⟩:=h
  rfl
 ·obtain⟨a,l,h,x,t,ws,hs,rfl,hA,hp,gd,hd,hl,hw,ag,hh,aD,ho,aQ,kk⟩:=h
  have hz:(sizeLine:Nat)=16777216:=sizeLine_eq
  refine⟨_,cD (dB (i:=4) qD.nd rfl (Or.inl rfl) (fI (pv 0) Cl.cl MS.M GS hr (gT MS) cH (cf (pv 2) cg)))
   (cD (dC (PW.pt (fX (gs (fT (dF iC rfl T.isi gY (cf (pv 4) (cf (h7 (v:= .ty "list") rfl T.list mJ rfl) cg))))) (h9 (cZ (lN hr.units100) (pv 4) (cT GL hr rfl DL.m DL.F.kp bL .nil cH (cf (pv 1) (cf (pv 2) cg))) (cX _))))) (cz (cI ju)) dz)
   (cD (gN PassesOwn.never rfl (jh (pv 4)) (dU (i:=5) qD.nd rfl (Or.inl rfl))
    (cD (dC (PW.pt (fX (gs (fT (dF iC rfl T.isi gY (cf (pv 5) (cf (h7 (v:= .ty "tuple") rfl T.tuple kz rfl) cg))))) (h9 (cZ mT (dF fO rfl T.len eZ (cf (pv 5) cg)) cj (cX _))))) (cz (cI ju)) dz)
    (cz (dC (cZ (lN hr.units100) (gP (own:=1) (caps:=[]) (N:=["_law_place"]) (N0:=["_law_ask","_law_told","_law_words","_law_held","_law_found","_law_span"]) (sc0:=cv kb) rfl (p0 (pv 5)) (fun _ _ _=>dU (i:=0) wo rfl (Or.inl rfl))
      (fun _ _ _=>mE (PW.pt (fX (fT (dF (uW (K:=K) rfl) rfl T.isi gY (cf (pv 0) (cf (h7 (v:= .ty "bool") rfl T.bool oG rfl) cg)))) (h9 (gs (fT (dF (uW (K:=K) rfl) rfl T.isi gY (cf (pv 0) (cf (h7 (v:= .ty "int") rfl T.int oP rfl) cg)))))))))
      (fun _ _ _=>pv 0) (fW (by decide)) rfl rfl dkq rfl dkq dkq rfl dkq) (dR cg) (cX _)) (cz (cI ju)) dz))))
   (cD (g9 (gj F.plainAttrs_list F.slot_list_append F.type_list_append jr (pv 4) (cf (fF (cf cj (cf cj cg))) cg)))
   (cD (g9 (gj F.plainAttrs_list F.slot_list_append F.type_list_append jr (pv 3) (cf (fF (cf (pv 4) (cf (jy qt rfl T.list mJ (cf (pv 4) cg)) cg))) cg)))
   (cz (cI (iJ (kf hr.units100) (fI (pv 0) Cl.cl MS.M GS hr (gT MS) cH (cf (pv 2) cg)) (cT GL hr rfl DL.m DL.F.kp bL .nil cH (cf (pv 1) (cf (pv 2) cg))) rfl))))))),?_⟩
  obtain⟨dp,fp,ep,lp⟩:=hA.ob
  refine⟨_,rfl,t.kn,a,dp,fp,rfl,ep,lp _ gJ,_,rfl,a,l,t,ws,rfl,hA,gd,hd,rfl,hl,hw,ag,fun J af H1 s1 n1 e1 S1=>?_⟩
  obtain⟨U,f1,p1⟩:=e1
  refine⟨_,rfl,.ref J,.ty "list",_,_,rfl,.lst f1,.inl ⟨_,rfl,Bv⟩,_,rfl,cY ⟨_,rfl,_,rfl,_,rfl,x,l,t,ws,rfl,hp.same s1,gd,hd,s1 _ _ hl,hw,ag,fun L2 aE H2 s2 n2 e2 S2=>?_⟩⟩
  have er:af=aE:=S1.uniq S2
  subst er
  have aF:=s1.trans s2
  have ah:=s2 _ _ f1
  have aq:=fV s2 p1
  refine⟨.list (fH af),.list (fH af),.lst (cm.of ah) (qp aq),e2.dt,iw _,iw _,vg _,_,rfl,?_⟩
  refine gK (b:= !PyData.eqv (.list (fH af)) (.list (fH af))) (by rw [qT (iw _)];rfl) ?_
  have t1:=S1.len gd hw
  have q1:=Gn.Paired.len aq
  have rl:(U.map V.ref).length=U.length:=List.length_map _
  refine⟨_,rfl,J,rfl,⟨_,cm.of ah⟩,?_⟩
  refine lZ (xs:=U.map V.ref) (fun i σ H'=>∃ o5,σ=[some (.ref a),some x,some (.ref l),some (.ref h),some (.ref J),o5]/\ck H2 H') ?_ ?_ ?_ ?_
  ·exact⟨none,rfl,ck.refl _⟩
  ·rintro i σ H' _ ⟨o5,_,sm⟩
   exact cm.of (sm _ _ ah)
  ·rintro i y σ H3 hy ⟨o5,rfl,s3⟩
   obtain⟨pa,aG,rfl⟩:=lG hy
   obtain⟨r,aR,aH⟩:=jw aq aG
   have ae:H3 pa=some (.tup [.int (r.1:Int),.int (r.2:Int)]):=s3 _ _ aH
   refine⟨_,rfl,.ref pa,.ty "tuple",_,_,rfl,.tup ae,.inl ⟨_,rfl,y6⟩,_,rfl,cY ⟨_,rfl,pa,_,rfl,.inr (cq.of ae),rfl,_,rfl,?_⟩⟩
   refine cY ⟨_,rfl,pa,rfl,⟨_,cq.of ae⟩,?_⟩
   refine rq (xs:=[.int (r.1:Int),.int (r.2:Int)]) (fun i ys H'=>H'=H3/\ys=[]) (by show 2 < sizeLine;decide) (fun i ys H' ⟨e,_⟩=>by rw [e];exact cq.of ae) ⟨rfl,rfl⟩ ?_ ?_
   ·rintro i' y ys H' N aa ⟨rfl,rfl⟩ hN
    obtain⟨c,rfl⟩:∃ c:Int,y= .int c:=by
     match i',aa with
     | 0,aa=>exact⟨_,(Option.some.inj aa).symm⟩
     | 1,aa=>exact⟨_,(Option.some.inj aa).symm⟩
     | i' + 2,aa=>simp at aa
    refine⟨_,rfl,.int c,.ty "bool",_,_,rfl,.int c,.inl ⟨_,rfl,uE (K:=K) (H:=H') (x:= .int c) (.int c)⟩,_,rfl,cY ⟨_,rfl,.int c,.ty "int",_,_,rfl,.int c,.inl ⟨_,rfl,uB (K:=K) (H:=H') (x:= .int c) (.int c)⟩,_,rfl,cY ?_⟩⟩
    exact hN _ _ ⟨rfl,rfl⟩
   ·rintro ys H' ⟨rfl,rfl⟩ _ q hq
    refine⟨eW,fun q2 aw=>?_⟩
    refine⟨.list [],.list [],.lst (cm.of (cG aw _ _ cx)) .nil,.lst (cm.of cx) .nil,rfl,rfl,by decide,_,rfl,cY ?_⟩
    exact⟨_,rfl,(s3.upf hq).upf aw⟩
  ·rintro σ H3 ⟨o5,rfl,s3⟩
   have aI:=aF.trans s3
   have ax:=s3 _ _ ah
   refine⟨_,rfl,.inl ⟨rfl,_,cm.of ax⟩,eU,fun tq ay=>⟨J,_,_,rfl,rfl,cG ay _ _ ax,by rw [rl];omega,?_⟩⟩
   have ao:h≠J:=dA hh n1
   have aA:l≠J:=dA hl n1
   have sc:ck H (upd (upd H3 tq (.tup [.int 0,.int 0])) J (.lst (U.map V.ref++[.ref tq]))):=fun b o e=>by rw [cK (dA e n1)];exact cG ay _ _ (aI _ _ e)
   have ec:upd (upd H3 tq (.tup [.int 0,.int 0])) J (.lst (U.map V.ref++[.ref tq])) J=some (.lst (U.map V.ref++[.ref tq])):=cx
   generalize upd (upd H3 tq (.tup [.int 0,.int 0])) J (.lst (U.map V.ref++[.ref tq]))=Hc at sc ec ⊢
   have rf:∀ u∈U.map V.ref++[V.ref tq],∃ q,u=V.ref q:=fun u hu=>by
    rcases List.mem_append.mp hu with z | z
    ·obtain⟨b,_,rfl⟩:=List.mem_map.mp z
     exact⟨b,rfl⟩
    ·exact⟨tq,by simpa using z⟩
   generalize U.map V.ref++[V.ref tq]=xs at ec rf ⊢
   refine⟨_,rfl,.inl ⟨rfl,_,cm.of (sc _ _ hh)⟩,_,rfl,_,rfl,J,_,rfl,.inl (cm.of ec),fun c hc=>⟨eU,fun q hq=>?_⟩⟩
   have aJ:J≠c:=dA ec hc
   have ar:h≠c:=dA (sc _ _ hh) hc
   have aB:l≠c:=dA (sc _ _ hl) hc
   have ak:∀{b:Addr} {o:HO},Hc b=some o->b≠q:=fun{b o} e=>dA (cG hc _ _ e) hq
   have qc:c≠q:=dA (cx:upd Hc c (.lst xs) c=_) hq
   have aK:upd (upd Hc c (.lst xs)) q (.tup [.ref J,.ref c]) h=some (.lst hs):=by rw [cK (ak (sc _ _ hh)),cK ar];exact sc _ _ hh
   refine⟨h,hs,_,rfl,rfl,aK,by omega,?_⟩
   have look:∀{b:Addr} {o:HO},b≠h->upd (upd Hc c (.lst xs)) q (.tup [.ref J,.ref c]) b=some o->upd (upd (upd Hc c (.lst xs)) q (.tup [.ref J,.ref c])) h (.lst (hs++[.ref q])) b=some o:=fun{b o} hb e=>by rw [cK hb];exact e
   have xd:SX h H (upd (upd (upd Hc c (.lst xs)) q (.tup [.ref J,.ref c])) h (.lst (hs++[.ref q]))):=fun b o hb e=>look hb (by rw [cK (ak (sc _ _ e)),cK (dA (sc _ _ e) hc)];exact sc _ _ e)
   have dh:upd (upd (upd Hc c (.lst xs)) q (.tup [.ref J,.ref c])) h (.lst (hs++[.ref q])) h=some (.lst (hs++[.ref q])):=cx
   have dl:upd (upd (upd Hc c (.lst xs)) q (.tup [.ref J,.ref c])) h (.lst (hs++[.ref q])) J=some (.lst xs):=look (Ne.symm ao) (by rw [cK (ak ec),cK aJ];exact ec)
   have dc:upd (upd (upd Hc c (.lst xs)) q (.tup [.ref J,.ref c])) h (.lst (hs++[.ref q])) c=some (.lst xs):=look (Ne.symm ar) (by rw [cK qc];exact cx)
   have dq:upd (upd (upd Hc c (.lst xs)) q (.tup [.ref J,.ref c])) h (.lst (hs++[.ref q])) q=some (.tup [.ref J,.ref c]):=look (Ne.symm (ak (sc _ _ hh))) cx
   generalize upd (upd (upd Hc c (.lst xs)) q (.tup [.ref J,.ref c])) h (.lst (hs++[.ref q]))=Hd at xd dh dl dc dq ⊢
   have od:eV Hd h l (hs++[.ref q]):=eV.app (ho.sx xd hh) fun v hv=>⟨q,J,c,xs,by simpa using hv,dq,dl,dc,Ne.symm ao,Ne.symm ar,Ne.symm aA,Ne.symm aB,rf⟩
   have kd:gw H Hd:=xd.keep hh
   have aC:Hd l=some (.lst (ws.map V.str)):=xd _ _ (Ne.symm aD) hl
   obtain⟨aL,aM,aN,aO⟩:=(hA.keep kd).ob
   refine⟨_,rfl,t.kn,a,aL,aM,rfl,aN,aO _ gJ,_,rfl,a,l,t,ws,rfl,hA.keep kd,gd,hd,rfl,aC,hw,ag,fun L3 au H4 s4 n4 e3 S3=>?_⟩
   refine⟨_,rfl,_,rfl,x,l,t,ws,rfl,(hp.keep kd).same s4,gd,hd,s4 _ _ aC,hw,ag,fun L4 aP H5 s5 n5 e4 S4=>?_⟩
   have er:au=aP:=S3.uniq S4
   subst er
   refine⟨.list (fH au),.list (fH au),(e3.same s5).dt,e4.dt,iw _,iw _,vg _,?_⟩
   rw [qT (iw _)]
   have av:=s4.trans s5
   exact kk _ H5 (xd.same av) (av _ _ dh) (od.sx (SX.of av) dh) (by rw [List.length_append];exact Nat.le_refl _)
noncomputable def qS(C:Kn->Addr)(n:Nat):Sp:=fun vs H Q _=>∃(a l h:Addr) (x:V) (t:At) (ws:List Str) (hs:List V) (r:Int),vs=[.ref a,x,.ref l,.int r,.ref h]/\dI C H a t/\cM false H x t.told/\Gd t/\t.dep<=n/\H l=some (.lst (ws.map V.str))/\ws.length<=64/\(∀ z∈ws,Ow z)/\
 H h=some (.lst hs)/\h≠l/\eV H h l hs/\hs.length<=900/\∀ J H',SX h H H'->H' h=some (.lst J)->eV H' h l J->J.length<=hs.length + 2->Q (.bl true) H'
theorem vA:dD ["_law_ask","_law_told","_law_words","_law_number_here","_law_held","_law_found"] ["_law_ask","_law_told","_law_words","_law_number_here","_law_held"] (cv kX):=⟨rfl,rfl,rfl,dkq,rfl,dkq,dkq⟩
theorem Aa{K:W.Frag}:W.kitOne K (.type "bool") (.type "bool")=some true:=by kernel_rfl
seal cV PS PE PT PA PG PI dj de in
theorem AQ{fr fs fl:Addr}{fdr fds fdl:FuncData}(D:Df K mg "_law_right" kX fr fdr)(DS:Df K mg "_law_spans_right" kb fs fds)(DL:Df K mg "_law_holds" kG fl fdl)(Cl:Cs K C)(MH:Mt K C "holds" mj kQ fh fdh)(T:Txt mg)(n:Nat)
  (GH:∀ i,cu P w K mg base cC (n + 5) (fh i) (fdh i) ["self","words"] (nX C n i))(GL:cu P w K mg base cC (n + 5) fl fdl ["_law_told","_law_words"] (mO n))(GS:cu P w K mg base cC (n + 5) fs fds ["_law_ask","_law_told","_law_words","_law_held"] (sg C n)):
  cu P w K mg base cC (n + 6) fr fdr ["_law_ask","_law_told","_law_words","_law_number_here","_law_held"] (qS C n):=by
 have bL:=DL.F.binds (ps:=["_law_told","_law_words"]) fun _ _ _ _ _ _ us hl=>eT (fun _ _=>rfl) us hl
 have bS:=DS.F.binds (ps:=["_law_ask","_law_told","_law_words","_law_held"]) fun _ _ _ _ _ _ us hl=>uo (fun _ _ _ _=>rfl) us hl
 refine D.F.ok vA (fun vs H Q E h=>?_) (fun cdv A outer s H vs Q E hr h=>?_)
 ·obtain⟨a,l,h,x,t,ws,hs,r,rfl,_⟩:=h
  rfl
 ·obtain⟨a,l,h,x,t,ws,hs,r,rfl,hA,hp,gd,hd,hl,hw,U,hh,ae,ho,aq,kk⟩:=h
  refine⟨_,cD (qM (PW.pt (kY (cZ dQ (cy dG (pv 3) cj) cj (cX _)) (k9 (gs (fT (cT GS hr rfl DS.m DS.F.kp bS .nil cH (cf (pv 0) (cf (pv 1) (cf (pv 2) (cf (pv 4) cg)))))))))) (cz (cI ju)) dz)
   (cD (dB (i:=5) vA.nd rfl (Or.inl rfl) (fI (pv 0) Cl.cl MH.M GH hr (ke MH) cH (cf (pv 2) cg)))
   (cD (dC (PW.pt (fX (gs (fT (dF iC rfl T.isi gY (cf (pv 5) (cf (h7 (v:= .ty "bool") rfl T.bool oG rfl) cg))))) (h9 (cZ mT (pv 5) (cT GL hr rfl DL.m DL.F.kp bL .nil cH (cf (pv 1) (cf (pv 2) cg))) (cX _))))) (cz (cI ju)) dz)
   (cz (cI (qL (iJ dQ (cy dG (pv 3) cj) cj rfl) (jD (cT GS hr rfl DS.m DS.F.kp bS .nil cH (cf (pv 0) (cf (pv 1) (cf (pv 2) (cf (pv 4) cg))))))))))),?_⟩
  refine⟨fun ag H'=>∃ J,ag=[some (.ref a),some x,some (.ref l),some (.int r),some (.ref h),none]/\SX h H H'/\H' h=some (.lst J)/\eV H' h l J/\J.length<=hs.length + 1,?_,?_⟩
  ·refine⟨_,rfl,_,_,rfl,rfl,(by show(0:Int) < 2;decide),rfl,_,rfl,?_⟩
   refine ik (fun _=>?_) (fun _=>cY ⟨hs,rfl,fun _ _ _ e=>e,hh,ho,by omega⟩)
   refine⟨_,rfl,_,rfl,_,rfl,_,rfl,a,l,h,x,t,ws,hs,rfl,hA,hp,gd,hd,hl,hw,U,hh,ae,ho,by omega,fun J H' sx e o le=>⟨_,rfl,cY ⟨J,rfl,sx,e,o,le⟩⟩⟩
  ·rintro ag H1 ⟨ah,rfl,x1,ak,o1,ar⟩
   have k1:gw H H1:=x1.keep hh
   have af:H1 l=some (.lst (ws.map V.str)):=x1 _ _ (Ne.symm ae) hl
   obtain⟨dp,fp,ep,lp⟩:=(hA.keep k1).ob
   refine⟨_,rfl,t.kn,a,dp,fp,rfl,ep,lp _ kF,_,rfl,a,l,t,ws,rfl,hA.keep k1,gd,hd,rfl,af,hw,U,fun b1 H2 s2 i1=>?_⟩
   refine⟨_,rfl,.bl b1,.ty "bool",_,_,rfl,.bl b1,.inl ⟨_,rfl,Aa⟩,_,rfl,cY ⟨_,rfl,_,rfl,_,rfl,x,l,t,ws,rfl,(hp.keep k1).same s2,gd,hd,s2 _ _ af,hw,U,fun b2 H3 s3 i2=>?_⟩⟩
   have eb:b1=b2:=xK i1 i2
   subst eb
   refine⟨rfl,_,rfl,gK (b:= !decide (V.bl b1=V.bl b1)) (by rw [decide_eq_true rfl];rfl) ?_⟩
   have aa:=s2.trans s3
   have x3:=x1.same aa
   have k3:gw H H3:=x3.keep hh
   have ao:=aa _ _ ak
   have o3:=o1.sx (SX.of aa) ak
   refine⟨_,rfl,_,_,rfl,rfl,(by show(0:Int) < 2;decide),rfl,_,rfl,?_⟩
   refine ik (fun _=>kk ah H3 x3 ao o3 (by omega)) (fun _=>?_)
   refine⟨_,rfl,_,rfl,_,rfl,_,rfl,a,l,h,x,t,ws,ah,rfl,hA.keep k3,hp.keep k3,gd,hd,aa _ _ af,hw,U,ao,ae,o3,by omega,fun J H' sx e o le=>kk J H' (x3.trans sx) e o (by omega)⟩
end
theorem cu.any {P:Program}{w:World}{K:W.Frag}{mg:Str->Option Value}{base:Heap}{CX:fR}{k N:Nat}{f:Addr}{fd:FuncData}{ps:List Str}{sp:Nat->Sp}(F:∀ n,n<=N->cu P w K mg base CX k f fd ps (sp n)):
  cu P w K mg base CX k f fd ps (fun vs H Q E=>∃ n,n<=N/\sp n vs H Q E):=
 ⟨fun vs H Q E ⟨n,hn,q⟩=>(F n hn).len vs H Q E q,fun A outer s H args us vs Q E J he hb U ⟨n,hn,q⟩=>(F n hn).run A outer s H args us vs Q E J he hb U q⟩
noncomputable def vT(K:W.Frag):List V->Hp->VK->Prop:=fun xs H Q=>∃ p ys,xs=[.ref p]/\(cm K H p ys\/cq K H p ys)/\Q (.int ys.length) H
theorem yD{X:Cx}{K:W.Frag}(h:X.K=K):gf X (.builtin "len") (vT K):=by subst h;exact fO
section
variable {P : Program} {w : World} {K : PySem.W.Frag} {mg : Str -> Option Value} {base : Heap} {C f fh fi fk : Kn -> Addr} {fd fdh fdi fdk : Kn -> FuncData} {CB : Addr}
theorem rF{α β:Type}{g:α->β}:∀(l:List α) (i:Nat),(l.map g).eraseIdx i=(l.eraseIdx i).map g
 | [],_=>rfl
 | _::_,0=>rfl
 | a::l,i + 1=>by
  rw [List.map_cons,List.eraseIdx_cons_succ,List.eraseIdx_cons_succ,List.map_cons,rF l i]
noncomputable def sW(K:W.Frag):Sp:=fun vs H Q _=>∃(sc J:Addr) (ns:List Int) (zs:List Str),vs=[.ref sc,.ref J]/\cm K H sc (ns.map V.int)/\ns.length<=63/\gE H J zs/\
 ∀ l (ws:List Str) H',ck H H'->H l=none->H' l=some (.lst (ws.map V.str))->ws.length<=60->(∀ z∈ws,Ow z)->Q (.ref l) H'
theorem nK:dD ["_law_script","_law_menu_here","_law_number_here","_law_some","_law_turns"] ["_law_script","_law_menu_here"] (cv jQ):=⟨rfl,rfl,rfl,dkq,rfl,dkq,dkq⟩
theorem Cq:(["_law_k","_law_menu_here","_law_number_here"]:List Str).Nodup:=dkq
theorem wm:(["_law_k","_law_number_here","_law_some","_law_turns"]:List Str).Nodup:=dkq
seal cV PS PE PT PA PG PI dj de in
theorem yq{fD fm fn:Addr}{fdD fdm fdn:FuncData}(D:Df K mg "_law_drawn_words" jQ fD fdD)(DM:Df K mg "_law_mixed" iq fm fdm)(DN:Df K mg "_law_number" jv fn fdn)(T:Txt mg):cu P w K mg base cC 3 fD fdD ["_law_script","_law_menu_here"] (sW K):=by
 have GM:cu P w K mg base cC 2 fm fdm ["_law_number_here","_law_k"] kN:=(md DM).mono (by decide)
 have bM:=DM.F.binds (ps:=["_law_number_here","_law_k"]) fun _ _ _ _ _ _ us hl=>eT (fun _ _=>rfl) us hl
 have GN:cu P w K mg base cC 2 fn fdn ["_law_script","_law_k"] (nM K):=oM DN DM T
 have bN:=DN.F.binds (ps:=["_law_script","_law_k"]) fun _ _ _ _ _ _ us hl=>eT (fun _ _=>rfl) us hl
 refine D.F.ok nK (fun vs H Q E h=>?_) (fun cdv A outer s H vs Q E hr h=>?_)
 ·obtain⟨sc,me,ns,zs,rfl,_⟩:=h
  rfl
 ·obtain⟨sc,me,ns,zs,rfl,hS,J,hM,kk⟩:=h
  have hz:(sizeLine:Nat)=16777216:=sizeLine_eq
  refine⟨_,cD (dB (i:=2) nK.nd rfl (Or.inr rfl) (cT GN hr rfl DN.m DN.F.kp bN .nil cH (cf (pv 0) (cf cj cg))))
   (cD (dC (cZ dQ (cy dG (pv 2) cj) cj (cX _))
    (cz (cI (gP (own:=1) (caps:=[1,2]) (N:=["_law_k","_law_menu_here","_law_number_here"]) (N0:=["_law_script","_law_menu_here","_law_number_here","_law_some","_law_turns"]) (sc0:=cv jQ) rfl
     (iP rfl T.range (cf (cy dG (cy eL (pv 2) cj) cj) cg)) (fun _ _ _=>dU (i:=0) Cq rfl (Or.inl rfl)) (fun _ _ _=>iU)
     (fun _ _ _=>cQ (qg (K:=K) rfl) (pv 1) (cy dG (cT GM hr rfl DM.m DM.F.kp bM .nil cH (cf (pv 2) (cf (pv 0) cg))) cj) (fun _ _=>rfl)) (fW (by decide)) rfl rfl
     dkq rfl dkq dkq rfl dkq))) dz)
   (cD (dB (i:=3) nK.nd rfl (Or.inr rfl) (jg qh (pv 1) lh (hV (cy eA cj (cy dG (cy eL (pv 2) cj) cj)))))
   (cD (dB (i:=4) nK.nd rfl (Or.inr rfl) (cy eA cj (cy dG (cy eL (pv 2) cj) cj)))
   (cz (cI (gP (own:=1) (caps:=[2,3,4]) (N:=["_law_k","_law_number_here","_law_some","_law_turns"]) (N0:=["_law_script","_law_menu_here","_law_number_here","_law_some","_law_turns"]) (sc0:=cv jQ) rfl
     (iP rfl T.range (cf (cy dG (cy eL (pv 2) cj) cj) cg)) (fun _ _ _=>dU (i:=0) wm rfl (Or.inl rfl)) (fun _ _ _=>iU)
     (fun _ _ _=>cQ (qg (K:=K) rfl) (pv 2) (cy dG (cT GM hr rfl DM.m DM.F.kp bM .nil cH (cf (pv 1) (cf (cy eL (pv 0) (pv 3)) cg))) (dF (yD (K:=K) rfl) rfl T.len eZ (cf (pv 2) cg))) (fun _ _=>rfl)) (fW (by decide)) rfl rfl
     dkq rfl dkq dkq rfl dkq)))))),?_⟩
  refine⟨_,rfl,sc,ns,41,rfl,hS,J,by decide,fun r H1 r0 r1 s1=>?_⟩
  have af:gE H1 me zs:=⟨s1 _ _ hM.1,hM.2⟩
  refine⟨_,rfl,_,_,rfl,rfl,(by show(0:Int) < 9;decide),rfl,_,rfl,?_⟩
  refine ik (fun _=>?_) (fun _=>?_)
  ·have e0:=Int.emod_nonneg (r / 9) (show(61:Int)≠0 by decide)
   have e1:=Int.emod_lt_of_pos (r / 9) (show(0:Int) < 61 by decide)
   refine⟨_,rfl,_,_,rfl,rfl,⟨by decide,by decide⟩,_,_,rfl,rfl,(by show(0:Int) < 61;decide),_,rfl,by(clear e1 e0 r1 r0 hz J;omega),by omega,?_⟩
   refine lK (fun i ys H'=>H'=H1/\∃ ws:List Str,ws.length=i/\(∀ z∈ws,Ow z)/\ys=ws.map V.str) (by rw [hz];(clear e1 e0 r1 r0 hz J;omega)) ⟨rfl,[],rfl,fun z hz=>by simp at hz,rfl⟩ ?_ ?_
   ·rintro i ys H' N hi ⟨rfl,ws,U,ae,rfl⟩ hN
    have aa:i < 61:=by(clear U e1 e0 r1 r0 hz J;omega)
    refine g1 ?_
    refine⟨_,rfl,_,rfl,_,rfl,_,_,rfl,by(clear aa U hi e1 e0 r1 r0 hz J;omega),by omega,fun r2 ag ah=>?_⟩
    obtain⟨j,hj,aw⟩:=gX (r:=r2) (n:=2) (by decide)
    obtain⟨z0,aq,ar⟩:=af.at (j:=j) (by(clear hj ah ag aa U hi e1 e0 r1 r0 hz J;omega))
    refine⟨_,_,rfl,rfl,(by show(0:Int) < 2;decide),me,_,_,.str z0,rfl,rfl,cm.of af.1,by rw [<-hj];exact cA ar,hN _ _ ⟨rfl,ws++[z0],by simp [U],fun z hz=>?_,by rw [List.map_append];rfl⟩⟩
    rcases List.mem_append.mp hz with q | q
    ·exact ae z q
    ·have e:z=z0:=by simpa using q
     rw [e]
     exact pP aq
   ·rintro ys H' ⟨rfl,ws,U,ae,rfl⟩ _ p hp
    exact kk p ws _ (s1.upf hp) (s1.free hp) cx (by(clear e1 e0 r1 r0 hz J;omega)) ae
  ·have a0:=Int.emod_nonneg (r / 81) (show(5:Int)≠0 by decide)
   have a1:=Int.emod_lt_of_pos (r / 81) (show(0:Int) < 5 by decide)
   refine⟨_,rfl,_,rfl,_,_,rfl,rfl,⟨by decide,by decide⟩,_,_,rfl,rfl,(by show(0:Int) < 5;decide),_,_,rfl,rfl,_,rfl,me,_,rfl,cm.of af.1,fun so au=>?_⟩
   obtain⟨m,hm⟩:=Int.eq_ofNat_of_zero_le (show 0<=1 + r / 81 % 5 by(clear a1 a0 r1 r0 hz J;omega))
   have ec:dZ (zs.map V.str) none (some (1 + r / 81 % 5))=(zs.take m).map V.str:=by rw [hm,yj,List.map_take]
   have s2:ck H1 (upd H1 so (.lst (dZ (zs.map V.str) none (some (1 + r / 81 % 5))))):=cG au
   have ak:upd H1 so (.lst (dZ (zs.map V.str) none (some (1 + r / 81 % 5)))) so=some (.lst ((zs.take m).map V.str)):=cx.trans (congrArg (fun x=>some (HO.lst x)) ec)
   generalize upd H1 so (.lst (dZ (zs.map V.str) none (some (1 + r / 81 % 5))))=H2 at s2 ak ⊢
   have b0:=Int.emod_nonneg (r / 3) (show(2:Int)≠0 by decide)
   have b1:=Int.emod_lt_of_pos (r / 3) (show(0:Int) < 2 by decide)
   have c0:=Int.emod_nonneg (r / 9) (show(19:Int)≠0 by decide)
   have c1:=Int.emod_lt_of_pos (r / 9) (show(0:Int) < 19 by decide)
   have ml:((zs.take m).map V.str).length=m:=by
    have:=af.2.1
    rw [List.length_map,List.length_take]
    (clear c1 c0 b1 b0 a1 a0 r1 r0 hz J;omega)
   refine⟨_,rfl,_,_,rfl,rfl,⟨by decide,by decide⟩,_,_,rfl,rfl,(by show(0:Int) < 2;decide),_,_,rfl,rfl,?_⟩
   refine⟨_,rfl,_,_,rfl,rfl,⟨by decide,by decide⟩,_,_,rfl,rfl,(by show(0:Int) < 19;decide),_,rfl,by(clear ml c1 c0 b1 b0 hm a1 a0 r1 r0 hz J;omega),by omega,?_⟩
   refine lK (fun i ys H'=>H'=H2/\∃ ws:List Str,ws.length=i/\(∀ z∈ws,Ow z)/\ys=ws.map V.str) (by rw [hz];(clear ml c1 c0 b1 b0 hm a1 a0 r1 r0 hz J;omega)) ⟨rfl,[],rfl,fun z hz=>by simp at hz,rfl⟩ ?_ ?_
   ·rintro i ys H' N hi ⟨rfl,ws,U,ae,rfl⟩ hN
    have aa:i < 19:=by(clear U ml c1 c0 b1 b0 hm a1 a0 r1 r0 hz J;omega)
    have d0:0<=(0 + (i:Int)) / (1 + r / 3 % 2):=Int.ediv_nonneg (by(clear aa U hi ml c1 c0 b1 b0 hm a1 a0 r1 r0 hz J;omega)) (by omega)
    have d1:(0 + (i:Int)) / (1 + r / 3 % 2)<=0 + (i:Int):=Int.ediv_le_self _ (by(clear d0 aa U hi ml c1 c0 b1 b0 hm a1 a0 r1 r0 hz J;omega))
    refine g1 ?_
    refine⟨_,rfl,_,rfl,_,rfl,_,rfl,_,_,rfl,rfl,⟨by show(0:Int) < 1 + r / 3 % 2;(clear d1 d0 aa U hi ml c1 c0 b1 b0 hm a1 a0 r1 r0 hz J;omega),by show 1 + r / 3 % 2 < 1073741824;omega⟩,_,_,rfl,d0,by omega,fun r2 ag ah=>?_⟩
    refine⟨_,rfl,so,_,rfl,.inl (cm.of ak),_,_,rfl,rfl,(by show(0:Int) < (((zs.take m).map V.str).length:Nat);rw [ml];(clear ah ag d1 d0 aa U hi ml c1 c0 b1 b0 a1 a0 r1 r0 hz J;omega)),?_⟩
    have key:=Ag (K:=K) (H:=H') (p:=so) (xs:=(zs.take m).map V.str) (n:=r2) (L:=((((zs.take m).map V.str).length:Nat):Int)) (Q:=fun v H4=>N (ws.map V.str++[v]) H4) (fun v H4=>H4=H'/\∃ z:Str,v= .str z/\Ow z) ak (by rw [ml];(clear ah ag d1 d0 aa U hi ml c1 c0 b1 b0 a1 a0 r1 r0 hz J;omega)) rfl (fun v hv=>?_) (fun v ⟨_,z,ez,zl⟩=>?_)
    ·exact key
    ·obtain⟨z,av,rfl⟩:=List.mem_map.mp hv
     exact⟨rfl,z,rfl,pP (af.2.2 z (List.mem_of_mem_take av))⟩
    ·subst ez
     refine hN _ _ ⟨rfl,ws++[z],by simp [U],fun y hy=>?_,by rw [List.map_append];rfl⟩
     rcases List.mem_append.mp hy with q | q
     ·exact ae y q
     ·have e:y=z:=by simpa using q
      rw [e]
      exact zl
   ·rintro ys H' ⟨rfl,ws,U,ae,rfl⟩ _ p hp
    have ao:=s1.trans s2
    exact kk p ws _ (ao.upf hp) (ao.free hp) cx (by(clear ml c1 c0 b1 b0 hm a1 a0 r1 r0 hz J;omega)) ae
noncomputable def kK(K:W.Frag):Sp:=fun vs H Q _=>∃(a:Addr) (ns:List Int),vs=[.ref a]/\cm K H a (ns.map V.int)/\ns.length<=63/\∀ H',Q (.bl true) H'
theorem ir:dD ["_law_script","_law_menu_here","_law_told","_law_ask","_law_words","_law_held","_law_k","_law_number_here","_law_handed","_law_kid","_law_due"] ["_law_script"] (cv iu):=⟨rfl,rfl,rfl,dkq,rfl,dkq,dkq⟩
theorem t7:(["_law_one","_law_copy"]:List Str).Nodup:=dkq
theorem Gd.kids:∀{t:At},Gd t->∀ k∈t.kids,Gd k
 | .near a b n,g,k,h=>by
  have h':k=a\/k=b:=by simpa [At.kids] using h
  rcases h' with rfl | rfl
  ·exact g.2.2.1
  ·exact g.2.2.2
 | .both a b,g,k,h=>by
  have h':k=a\/k=b:=by simpa [At.kids] using h
  rcases h' with rfl | rfl
  ·exact g.1
  ·exact g.2
 | .either a b,g,k,h=>by
  have h':k=a\/k=b:=by simpa [At.kids] using h
  rcases h' with rfl | rfl
  ·exact g.1
  ·exact g.2
 | .no a,g,k,h=>by
  have h':k=a:=by simpa [At.kids] using h
  rw [h']
  exact g
 | .word _,_,k,h=>by simp [At.kids] at h
 | .start _,_,k,h=>by simp [At.kids] at h
 | .row _,_,k,h=>by simp [At.kids] at h
theorem yl(ws:List Str):min (PyData.list (ws.map .str)).depth (PyData.list (ws.map .str)).depth<=100:=by
 show min (PyData.depthAll _ + 1) (PyData.depthAll _ + 1)<=100
 rw [kq]
 decide
seal cV PS PE PT PA PG PI dj de in
theorem AW{fL fn fm fme ft fp fa fd' fr gk:Addr}{fdL fdn fdm fdme fdt fdp fda fdd fdr fgk:FuncData}(D:Df K mg "law" iu fL fdL)(DN:Df K mg "_law_number" jv fn fdn)(DM:Df K mg "_law_mixed" iq fm fdm)(DMe:Df K mg "_law_menu" jA fme fdme)(DT:Df K mg "_law_tree" kB ft fdt)(DP:Df K mg "_law_plain" jc fp fdp)
  (DA:Df K mg "ask_of" lj fa fda)(DD:Df K mg "_law_drawn_words" jQ fd' fdd)(DR:Df K mg "_law_right" kX fr fdr)(DK:Df K mg "_law_kids" lF gk fgk)(Cl:Cs K C)(MK:Mt K C "kids" km jV fk fdk)(T:Txt mg)
  (GA:cu P w K mg base (dg P w) 14 fa fda ["told"] (tE C CB))(GR:cu P w K mg base cC 10 fr fdr ["_law_ask","_law_told","_law_words","_law_number_here","_law_held"] (qS C 4)):
  cu P w K mg base cC 15 fL fdL ["_law_script"] (kK K):=by
 have GN:cu P w K mg base cC 14 fn fdn ["_law_script","_law_k"] (nM K):=(oM DN DM T).mono (by decide)
 have bN:=DN.F.binds (ps:=["_law_script","_law_k"]) fun _ _ _ _ _ _ us hl=>eT (fun _ _=>rfl) us hl
 have bM:cu P w K mg base cC 14 fme fdme ["_law_number_here"] uX:=(wx DMe DM T).mono (by decide)
 have bO:=f9 (p:="_law_number_here") DMe.F fun _ _ _ _ _ _ _=>rfl
 have GT:cu P w K mg base cC 14 ft fdt ["_law_script","_law_at","_law_deep","_law_menu_here"] (fun vs H Q E=>∃ n,n<=5/\nt K n vs H Q E):=cu.any fun n hn=>(sR DT DM DN DP T n).mono (by omega)
 have bT:=DT.F.binds (ps:=["_law_script","_law_at","_law_deep","_law_menu_here"]) fun _ _ _ _ _ _ us hl=>uo (fun _ _ _ _=>rfl) us hl
 have bA:=f9 (p:="told") DA.F fun _ _ _ _ _ _ _=>rfl
 have GD:cu P w K mg base cC 14 fd' fdd ["_law_script","_law_menu_here"] (sW K):=(yq DD DM DN T).mono (by decide)
 have bD:=DD.F.binds (ps:=["_law_script","_law_menu_here"]) fun _ _ _ _ _ _ us hl=>eT (fun _ _=>rfl) us hl
 have a5:cu P w K mg base cC 14 fr fdr ["_law_ask","_law_told","_law_words","_law_number_here","_law_held"] (qS C 4):=GR.mono (by decide)
 have bR:=DR.F.binds (ps:=["_law_ask","_law_told","_law_words","_law_number_here","_law_held"]) fun _ _ _ _ _ _ us hl=>match us,hl with | [_,_,_,_,_],_=>rfl
 have GK:cu P w K mg base cC 14 gk fgk ["_law_told"] t8:=(BW DK).mono (by decide)
 have bK:=f9 (p:="_law_told") DK.F fun _ _ _ _ _ _ _=>rfl
 have bP:∀ i,cu P w K mg base cC 14 (fk i) (fdk i) ["self"] (pC C i):=fun i=>(rS Cl MK i).mono (by decide)
 refine D.F.ok ir (fun vs H Q E h=>?_) (fun cdv A outer s H vs Q E hr h=>?_)
 ·obtain⟨a,ns,rfl,_⟩:=h
  rfl
 ·obtain⟨a,ns,rfl,hS,U,kk⟩:=h
  have hz:(sizeLine:Nat)=16777216:=sizeLine_eq
  refine⟨_,cD (dB (i:=1) ir.nd rfl (Or.inl rfl) (cT bM hr rfl DMe.m DMe.F.kp bO .nil cH (cf (cT GN hr rfl DN.m DN.F.kp bN .nil cH (cf (pv 0) (cf cj cg))) cg)))
   (cD (dB (i:=2) ir.nd rfl (Or.inl rfl) (cT GT hr rfl DT.m DT.F.kp bT .nil cH (cf (pv 0) (cf (dR (cf cj cg)) (cf (cy eA cj (cy dG (cT GN hr rfl DN.m DN.F.kp bN .nil cH (cf (pv 0) (cf cj cg))) cj)) (cf (pv 1) cg))))))
   (cD (dB (i:=3) ir.nd rfl (Or.inl rfl) (cT GA hr rfl DA.m DA.F.kp bA .nil xJ (cf (pv 2) cg)))
   (cD (dB (i:=4) ir.nd rfl (Or.inl rfl) (cT GD hr rfl DD.m DD.F.kp bD .nil cH (cf (pv 0) (cf (pv 1) cg))))
   (cD (dB (i:=5) ir.nd rfl (Or.inl rfl) (dR cg))
   (cD (gN PassesOwn.never rfl (iP rfl T.range (cf cj cg)) (dU (i:=6) ir.nd rfl (Or.inl rfl))
    (cD (dB (i:=7) ir.nd rfl (Or.inl rfl) (cT GN hr rfl DN.m DN.F.kp bN .nil cH (cf (pv 0) (cf (cy eA cj (pv 6)) cg))))
    (cD (dB (i:=8) ir.nd rfl (Or.inl rfl) (jy qt rfl T.list mJ (cf (pv 4) cg)))
    (cD (dC (PW.pt (fX (gs (fT (cT a5 hr rfl DR.m DR.F.kp bR .nil cH (cf (pv 3) (cf (pv 2) (cf (pv 4) (cf (pv 7) (cf (pv 5) cg)))))))) (h9 (cZ (lN hr.units100) (pv 4) (pv 8) (cX _))))) (cz (cI ju)) dz)
    (cD (gN PassesOwn.never rfl (Ad rfl T.zip (cf (rJ (pv 3) Cl.cl MK.M bP hr (sh MK) cH) (cf (cT GK hr rfl DK.m DK.F.kp bK .nil cH (cf (pv 2) cg)) cg))) (kT (n:=2) rfl (gF (dU (i:=9) ir.nd rfl (Or.inl rfl)) (gF (dU (i:=10) ir.nd rfl (Or.inl rfl)) kj)))
     (cz (dC (gs (fT (cT a5 hr rfl DR.m DR.F.kp bR .nil cH (cf (pv 9) (cf (pv 10) (cf (pv 4) (cf (cy eL (pv 7) cj) (cf (pv 5) cg)))))))) (cz (cI ju)) dz)))
    (cz (dC (PW.pt (kY (cZ (lN hr.units100) (pv 4) (dR cg) (cX _)) (k9 (cZ dQ (cy dG (cy eL (pv 7) cj) cj) cj (cX _)))))
     (cz (g9 (gj F.plainAttrs_list F.slot_list_pop F.type_list_pop yL (pv 4) (cf (cy dG (cy eL (pv 7) cj) (dF fO rfl T.len eZ (cf (pv 4) cg))) cg))))
     (cz (g9 (gj F.plainAttrs_list F.slot_list_insert F.type_list_insert w6 (pv 4) (cf (cy dG (cy eL (pv 7) cj) (cy eA (dF fO rfl T.len eZ (cf (pv 4) cg)) cj)) (cf (cQ gI (pv 1) (cy dG (pv 7) cj) (fun _ _=>rfl)) cg))))))))))))
   (cz (cI (ni (cT a5 hr rfl DR.m DR.F.kp bR .nil cH (cf (pv 3) (cf (pv 2) (cf (pv 4) (cf cj (cf (pv 5) cg)))))) (jD (iJ (kf hr.units100) (gP (own:=2) (caps:=[]) (N:=["_law_one","_law_copy"]) (N0:=["_law_script","_law_menu_here","_law_told","_law_ask","_law_words","_law_held","_law_k","_law_number_here","_law_handed","_law_kid","_law_due"]) (sc0:=cv iu) rfl (jh (pv 5))
     (fun _ _ _=>kT (n:=2) rfl (gF (dU (i:=0) t7 rfl (Or.inl rfl)) (gF (dU (i:=1) t7 rfl (Or.inl rfl)) kj))) (fun _ _ _=>mE (cZ (Bl hr.units100) (pv 0) (pv 1) (cX _)))
     (fun _ _ _=>pv 0) (qI (kr (fW (by decide)) (kr (fW (by decide)) pK))) rfl rfl dkq rfl dkq dkq rfl dkq) (dR cg) rfl)))))))))),?_⟩
  refine⟨_,rfl,a,ns,0,rfl,hS,U,by decide,fun r0 H1 _ _ s1=>⟨r0,rfl,fun me H2 zs s2 e2 af bQ=>?_⟩⟩
  have bq:=s1.trans s2
  have aR:gE H2 me zs:=⟨e2,af,bQ⟩
  have aS:=bq.seq hS
  clear s1 s2 hS e2
  refine⟨_,rfl,dH,fun c hc=>⟨_,rfl,a,ns,40,rfl,(cG hc).seq aS,U,by decide,fun r H3 _ _ s3=>⟨_,_,rfl,rfl,(by show(0:Int) < 5;decide),_,_,rfl,rfl,_,rfl,?_⟩⟩⟩
  have e0:=Int.emod_nonneg r (show(5:Int)≠0 by decide)
  have e1:=Int.emod_lt_of_pos r (show(0:Int) < 5 by decide)
  obtain⟨n,hn⟩:=Int.eq_ofNat_of_zero_le (show 0<=1 + r % 5 by(clear e1 e0 af hz U;omega))
  have ah:n<=5:=by(clear e1 e0 af hz U;omega)
  have p8:2 ^ n<=2 ^ 5:=Nat.pow_le_pow_right (by decide) ah
  have aT:(2:Nat) ^ 5=32:=rfl
  refine⟨n,ah,a,c,me,ns,zs,0,_,H2,rfl,hn,by(clear aT p8 ah e1 e0 af hz U;omega),(cG hc).trans s3,hc,aS,U,aR,s3 _ _ cx,by omega,fun x t a' H4 x4 c4 hx gd hd ha hm=>?_⟩
  have b4:ck H2 H4:=x4.base ((cG hc).trans s3) hc
  have br:=b4.seq aS
  have a6:gE H4 me zs:=⟨b4 _ _ aR.1,aR.2⟩
  have J:t.many<=33:=by(clear ha hd aT p8 ah hn e1 e0 af hz U;omega)
  have aq:t.dep<=4:=by(clear J hm ha aT p8 hn e1 e0 af hz U;omega)
  clear b4 x4 c4 aS aR s3 hc p8 aT hm ha hd
  have own:=Cf gd
  rw [if_pos ⟨by(clear own J ah hn e1 e0 af hz U;omega),by omega⟩] at own
  refine⟨_,rfl,x,t.told,rfl,cM.any hx,ja gd,fun u hu aa H6 s6 hA=>?_,fun e=>by rw [own] at e;cases e⟩
  have eu:t=u:=Option.some.inj (own.symm.trans hu)
  subst eu
  have bt:=s6.seq br
  have a7:gE H6 me zs:=⟨s6 _ _ a6.1,a6.2⟩
  have a8:=hx.same s6
  clear br a6 hx hu own s6 bq
  refine⟨_,rfl,_,rfl,a,me,ns,zs,rfl,bt,U,a7,fun l bS H7 s7 nl el ae bU=>?_⟩
  refine⟨eW,fun h hh=>?_⟩
  have bu:H6 h=none:=s7.free hh
  have ag:h≠l:=Ne.symm (dA el hh)
  have bw:∃(ws:List Str) (hs:List V),ck H6 (upd H7 h (.lst []))/\(upd H7 h (.lst [])) l=some (.lst (ws.map V.str))/\ws.length<=60 + 0/\(∀ z∈ws,Ow z)/\(upd H7 h (.lst [])) h=some (.lst hs)/\eV (upd H7 h (.lst [])) h l hs/\hs.length<=6 * 0:=
   ⟨bS,[],s7.upf hh,cG hh _ _ el,by(clear ag aq J ah hn e1 e0 af hz U;omega),bU,cx,(fun v hv=>nomatch hv),Nat.le_refl _⟩
  refine⟨4,rfl,by decide,by decide,jF (fun i σ H'=>∃(ws:List Str) (hs:List V) (o6 o7 o8 o9 aK:Option V),σ=[some (.ref a),some (.ref me),some x,some (.ref aa),some (.ref l),some (.ref h),o6,o7,o8,o9,aK]/\ck H6 H'/\H' l=some (.lst (ws.map V.str))/\ws.length<=60 + i/\(∀ z∈ws,Ow z)/\H' h=some (.lst hs)/\eV H' h l hs/\hs.length<=6 * i) ?_ ?_ ?_⟩
  ·obtain⟨ws,hs,i1,i2,i3,i4,i5,i6,i7⟩:=bw
   exact⟨ws,hs,none,none,none,none,none,rfl,i1,i2,i3,i4,i5,i6,i7⟩
  ·rintro i σ H8 hi ⟨ws,hs,o6,o7,o8,o9,aK,rfl,s8,l8,ao,aH,h8,a9,ak⟩
   have au:i < 4:=hi
   have wl:(ws.map V.str).length=ws.length:=List.length_map _
   refine⟨_,rfl,_,rfl,_,_,rfl,rfl,a,ns,42 + i,?_,s8.seq bt,U,by(clear wl ak ao hi ag ae aq J ah hn e1 e0 af hz U;omega),fun r5 H9 av aw s9=>?_⟩
   ·show [V.ref a,V.int (42 + (0 + (i:Int)))]=[V.ref a,V.int ((42 + i:Nat):Int)]
    congr 3
    (clear wl au ak ao hi ag ae aq J ah hn e1 e0 af hz U;omega)
   have b8:=s8.trans s9
   refine⟨_,rfl,l,_,rfl,.inl (cm.of (s9 _ _ l8)),fun hd ba=>?_⟩
   have sA:ck H8 (upd H9 hd (.lst (ws.map V.str))):=s9.upf ba
   have bx:upd H9 hd (.lst (ws.map V.str)) hd=some (.lst (ws.map V.str)):=cx
   generalize upd H9 hd (.lst (ws.map V.str))=HA at sA bx ⊢
   have ar:hd≠h:=fun z=>by rw [z,s9 _ _ h8] at ba;cases ba
   have bV:=hA.same (s8.trans sA)
   have bW:=a8.same (s8.trans sA)
   refine⟨_,rfl,_,rfl,_,rfl,_,rfl,_,rfl,aa,l,h,x,t,ws,hs,r5,rfl,bV,bW,gd,by(clear ar aw av wl au ak ao hi ag ae J ah hn e1 e0 af hz U;omega),sA _ _ l8,by omega,aH,sA _ _ h8,ag,a9.sx (SX.of sA) h8,by omega,fun bc HB xB hB oB lB=>⟨_,rfl,cY ?_⟩⟩
   have b9:=sA _ _ h8
   have bf:HB l=some (.lst (ws.map V.str)):=xB _ _ (Ne.symm ag) (sA _ _ l8)
   have bX:HB hd=some (.lst (ws.map V.str)):=xB _ _ ar bx
   refine⟨_,rfl,_,rfl,.list (ws.map .str),.list (ws.map .str),.lst (cm.of bf) (iK ws),.lst (cm.of bX) (iK ws),iY (fun y hy=>(aH y hy).2),iY (fun y hy=>(aH y hy).2),yl ws,_,rfl,?_⟩
   refine gK (b:= !PyData.eqv (.list (ws.map .str)) (.list (ws.map .str))) (by rw [qT (iY fun y hy=>(aH y hy).2)];rfl) ?_
   have aU:ck H6 HB:=xB.base (s8.trans sA) bu
   obtain⟨dp,fp,ep,lp⟩:=(hA.same aU).ob
   refine⟨_,rfl,t.kn,aa,dp,fp,rfl,ep,lp _ rg,aa,t,rfl,hA.same aU,rfl,fun l6 aV aW bY=>?_⟩
   refine⟨_,rfl,x,t,rfl,(a8.same aU).same (cG aW),fun l7 bg HC sC fC eC qC=>?_⟩
   have bB:HC l6=some (.lst aV):=sC _ _ cx
   have aO:ck HB HC:=(cG (o:= .lst aV) aW).trans sC
   have KC:=jx.same aO bY
   have hC:=aO _ _ hB
   have ax:l6≠h:=Ne.symm (dA hB aW)
   have ay:l7≠h:=Ne.symm (dA (cG aW _ _ hB) fC)
   have aC:=Gn.Paired.len KC
   have kl:=t.kids_len
   have aD:bg.length=t.kids.length:=by have:=qC.len;rw [List.length_map] at this;exact this
   refine⟨l6,l7,aV,bg,rfl,bB,eC,?_⟩
   refine BH (xs:=aV) (ys:=bg) (fun j σ H'=>∃(aL:List V) (o9 aK:Option V),σ=[some (.ref a),some (.ref me),some x,some (.ref aa),some (.ref l),some (.ref h),some (.int (0 + (i:Int))),some (.int r5),some (.ref hd),o9,aK]/\SX h HC H'/\H' h=some (.lst aL)/\eV H' h l aL/\aL.length<=hs.length + 2 + 2 * j) (by(clear kl ay ax lB ar aw av wl au ak ao hi ag ae aq J ah hn e1 e0 af hz U;omega)) ?_ ?_ ?_ ?_
   ·exact⟨bc,_,_,rfl,fun _ _ _ e=>e,hC,oB.sx (SX.of aO) hB,by(clear aD kl aC ay ax ar aw av wl au ak ao hi ag ae aq J ah hn e1 e0 af hz U;omega)⟩
   ·rintro j σ H' _ ⟨aL,o9,aK,rfl,sx,_⟩
    exact⟨sx _ _ ax bB,sx _ _ ay eC⟩
   ·rintro j y z σ H' tt hy bh ⟨aL,o9,aK,rfl,sx,bC,oo,hlen⟩ bZ
    obtain⟨kd,aP,p,rfl,b0⟩:=jw KC hy
    obtain⟨d,aX,hd2⟩:=qC.get bh
    have ed:d=kd.told:=by
     rw [List.getElem?_map,aP] at aX
     exact(Option.some.inj aX).symm
    subst ed
    have bE:=List.mem_of_getElem? aP
    have b1:=At.kids_dep bE
    have bF:=(List.getElem?_eq_some_iff.mp aP).1
    have sT:ck H' (upd H' tt (.tup [.ref p,z])):=cG bZ
    have kp:gw HC H':=sx.keep hC
    have lC:H' l=some (.lst (ws.map V.str)):=sx _ _ (Ne.symm ag) (aO _ _ bf)
    refine⟨tt,_,rfl,cq.of cx,rfl,_,_,rfl,_,_,rfl,rfl,?_⟩
    refine⟨_,rfl,_,rfl,_,rfl,_,rfl,_,_,rfl,rfl,⟨by decide,by decide⟩,_,rfl,p,l,h,z,kd,ws,aL,_,rfl,(b0.keep kp).same sT,(hd2.keep kp).same sT,gd.kids kd bE,by(clear bF aX hy aP hlen bh aD kl aC ay ax lB ar aw av wl au ak ao hi ag ae J ah hn e1 e0 af hz U;omega),sT _ _ lC,by omega,aH,sT _ _ bC,ag,oo.sx (SX.of sT) bC,by omega,fun b2 H2 x2 e2 o2 n2=>⟨_,rfl,cY ?_⟩⟩
    exact⟨b2,_,_,rfl,(sx.same sT).trans x2,e2,o2,by(clear bF b1 aX hy aP bh aD kl aC ay ax lB ar aw av wl au ak ao hi ag ae aq J ah hn e1 e0 af hz U;omega)⟩
   ·rintro σ HD ⟨aL,o9,aK,rfl,sx,bG,oD,hlen⟩
    have bH:ck H6 HD:=sx.base (aU.trans aO) bu
    have lD:HD l=some (.lst (ws.map V.str)):=sx _ _ (Ne.symm ag) (aO _ _ bf)
    have fin:∀(HE:Hp) (aM:List Str) (bI aZ:Option V),ck HD HE->aM.length<=ws.length + 1->(∀ z∈aM,Ow z)->
      ∃(ws:List Str) (hs:List V) (o6 o7 o8 o9 aK:Option V),([some (.ref a),some (.ref me),some x,some (.ref aa),some (.ref l),some (.ref h),some (.int (0 + (i:Int))),some (.int r5),some (.ref hd),bI,aZ]:L2.St)=[some (.ref a),some (.ref me),some x,some (.ref aa),some (.ref l),some (.ref h),o6,o7,o8,o9,aK]/\ck H6 (upd HE l (.lst (aM.map V.str)))/\(upd HE l (.lst (aM.map V.str))) l=some (.lst (ws.map V.str))/\ws.length<=60 + (i + 1)/\(∀ z∈ws,Ow z)/\(upd HE l (.lst (aM.map V.str))) h=some (.lst hs)/\eV (upd HE l (.lst (aM.map V.str))) h l hs/\hs.length<=6 * (i + 1):=fun HE aM bI aZ sE cb b3=>by
     refine⟨aM,aL,_,_,_,_,_,rfl,fun b u e=>?_,cx,by(clear hlen aD kl aC ay ax lB ar aw av wl au ak hi ag ae aq J ah hn e1 e0 af hz U;omega),b3,?_,(oD.sx (SX.of sE) bG).wr (sE _ _ lD),by omega⟩
     ·rw [cK (dA e nl)]
      exact sE _ _ (bH _ _ e)
     ·rw [cK ag]
      exact sE _ _ bG
    refine⟨_,rfl,eW,fun q hq=>?_⟩
    have sq:ck HD (upd HD q (.lst [])):=cG hq
    refine⟨.list (ws.map .str),.list [],.lst (cm.of (sq _ _ lD)) (iK ws),.lst (cm.of cx) .nil,iY (fun y hy=>(aH y hy).2),rfl,Nat.le_trans (Nat.min_le_right _ _) (by decide),_,rfl,?_⟩
    have lq:=sq _ _ lD
    have mq:=sq _ _ (bH _ _ a7.1)
    generalize upd HD q (.lst [])=HE at sq lq mq ⊢
    obtain⟨jm,aF,aA⟩:=gX (r:=r5) (n:=5) (by decide)
    obtain⟨z0,bJ,aG⟩:=a7.at (j:=jm) (by(clear aF hlen aD kl aC ay ax lB ar aw av wl au ak ao hi ag ae aq J ah hn e1 e0 af hz U;omega))
    obtain⟨ji,aI,aJ⟩:=gX (r:=r5 / 8) (n:=((((ws.map V.str).length:Nat):Int) + 1)) (by(clear aG aA aF hlen aD kl aC ay ax lB ar aw av wl au ak ao hi ag ae aq J ah hn e1 e0 af hz U;omega))
    have aE:=bJ.1
    have a0:∀ z∈ws.take ji++z0::ws.drop ji,Ow z:=fun z hz=>by
     rcases List.mem_append.mp hz with q | q
     ·exact aH z (List.mem_of_mem_take q)
     ·rcases List.mem_cons.mp q with q | q
      ·rw [q];exact pP bJ
      ·exact aH z (List.mem_of_mem_drop q)
    have aB:(ws.take ji++z0::ws.drop ji).length<=ws.length + 1:=by
     rw [List.length_append,List.length_cons,List.length_take,List.length_drop]
     (clear aE aJ aI aG aA aF hlen aD kl aC ay ax lB ar aw av wl au ak ao hi ag ae aq J ah hn e1 e0 af hz U;omega)
    have a3:(ws.map V.str).take ji++V.str z0::(ws.map V.str).drop ji=(ws.take ji++z0::ws.drop ji).map V.str:=by
     rw [List.map_append,List.map_cons,List.map_take,List.map_drop]
    cases hwe:ws with
    | nil=>
     refine gK (b:= !PyData.eqv (.list (([]:List Str).map .str)) (.list [])) rfl (cY ?_)
     refine⟨_,rfl,.inl ⟨rfl,_,cm.of lq⟩,_,rfl,_,_,rfl,rfl,⟨by decide,by decide⟩,_,rfl,l,_,rfl,.inl (cm.of lq),_,_,rfl,rfl,_,_,rfl,rfl,(by show(0:Int) < (((ws.map V.str).length:Nat):Int) + 1;(clear aB aE aJ aI aG aA aF hlen aD kl aC ay ax lB ar aw av wl au ak ao hi ag ae aq J ah hn e1 e0 af hz U;omega)),?_⟩
     refine⟨_,rfl,_,rfl,_,_,rfl,rfl,(by show(0:Int) < 5;decide),me,_,_,.str z0,rfl,rfl,cm.of mq,by rw [<-aF];exact cA aG,?_⟩
     refine⟨l,ws.map V.str,_,ji,.str z0,rfl,rfl,aI.symm,lq,by(clear aB aE aI aG aA aF hlen aD kl aC ay ax lB ar aw av wl au ak ao hi ag ae aq J ah hn e1 e0 af hz U;omega),by rw [wl];omega,?_⟩
     rw [a3]
     exact fin HE _ _ _ sq aB a0
    | cons w0 wr=>
     refine iA (b:= !PyData.eqv (.list ((w0::wr).map .str)) (.list [])) rfl ⟨_,rfl,_,_,rfl,rfl,⟨by decide,by decide⟩,_,_,rfl,rfl,(by show(0:Int) < 2;decide),rfl,_,rfl,?_⟩
     refine ik (fun _=>?_) (fun _=>?_)
     ·obtain⟨jp,aN,aQ⟩:=gX (r:=r5 / 8) (n:=(((ws.map V.str).length:Nat):Int)) (by rw [wl,hwe];simp)
      have bo:jp < ws.length:=by(clear aN aB aE aJ aI aG aA aF hlen aD kl aC ay ax lB ar aw av au ak ao hi ag ae aq J ah hn e1 e0 af hz U;omega)
      obtain⟨jj,b5,aY,bp,_,_⟩:=mw (cA (xs:=ws.map V.str) (j:=jp) (v:=V.str ws[jp]) (by rw [List.getElem?_map,List.getElem?_eq_getElem bo];rfl))
      refine⟨_,rfl,.inl ⟨rfl,_,cm.of lq⟩,_,rfl,_,_,rfl,rfl,⟨by decide,by decide⟩,_,rfl,l,_,rfl,.inl (cm.of lq),_,_,rfl,rfl,(by show(0:Int) < (((ws.map V.str).length:Nat):Int);rw [wl,hwe];simp),?_⟩
      refine⟨l,ws.map V.str,_,jj,_,rfl,rfl,lq,?_,?_,?_,aY,?_⟩
      ·show -(2 ^ 63)<=r5 / 8 % (((ws.map V.str).length:Nat):Int)
       rw [<-aN]
       (clear bp aY bo aQ aN aB aE aJ aI aG aA aF hlen aD kl aC ay ax lB ar aw av wl au ak ao hi ag ae aq J ah hn e1 e0 af hz U;omega)
      ·show r5 / 8 % (((ws.map V.str).length:Nat):Int) < 2 ^ 63
       rw [<-aN]
       (clear bp aY aQ aN aB aE aJ aI aG aA aF hlen aD kl aC ay ax lB ar aw av wl ak hi ag ae aq J ah hn e1 e0 af hz U;omega)
      ·show seqIndex? (r5 / 8 % (((ws.map V.str).length:Nat):Int)) (ws.map V.str).length=some jj
       rw [<-aN]
       exact b5
      ·have ee:(ws.map V.str).eraseIdx jj=(ws.eraseIdx jj).map V.str:=by
        exact rF ws jj
       rw [ee]
       exact fin HE _ _ _ sq (by have:=pF ws jj;(clear bp aY bo aQ aN aB aE aJ aI aG aA aF hlen aD kl aC ay ax lB ar aw av wl au ak ao hi ag ae aq J ah hn e1 e0 af hz U;omega)) fun z hz=>aH z (List.mem_of_mem_eraseIdx hz)
     ·refine⟨_,rfl,.inl ⟨rfl,_,cm.of lq⟩,_,rfl,_,_,rfl,rfl,⟨by decide,by decide⟩,_,rfl,l,_,rfl,.inl (cm.of lq),_,_,rfl,rfl,_,_,rfl,rfl,(by show(0:Int) < (((ws.map V.str).length:Nat):Int) + 1;(clear aB aE aJ aI aG aA aF hlen aD kl aC ay ax lB ar aw av wl au ak ao hi ag ae aq J ah hn e1 e0 af hz U;omega)),?_⟩
      refine⟨_,rfl,_,rfl,_,_,rfl,rfl,(by show(0:Int) < 5;decide),me,_,_,.str z0,rfl,rfl,cm.of mq,by rw [<-aF];exact cA aG,?_⟩
      refine⟨l,ws.map V.str,_,ji,.str z0,rfl,rfl,aI.symm,lq,by(clear aB aE aI aG aA aF hlen aD kl aC ay ax lB ar aw av wl au ak ao hi ag ae aq J ah hn e1 e0 af hz U;omega),by rw [wl];omega,?_⟩
      rw [a3]
      exact fin HE _ _ _ sq aB a0
  ·rintro σ H8 ⟨ws,hs,o6,o7,o8,o9,aK,rfl,s8,l8,ao,aH,h8,a9,ak⟩
   have a4:ws.length<=64:=ao
   have bL:hs.length<=24:=ak
   refine⟨_,rfl,_,rfl,_,rfl,_,rfl,aa,l,h,x,t,ws,hs,1,rfl,hA.same s8,a8.same s8,gd,by(clear bL a4 ak ao ag ae J ah hn e1 e0 af hz U;omega),l8,by omega,aH,h8,ag,a9,by omega,fun bc HB xB hB oB lB=>⟨_,rfl,cJ ?_⟩⟩
   refine⟨_,rfl,h,rfl,⟨_,cm.of hB⟩,oI (xs:=bc) (fun i ys H'=>H'=HB/\ys=[]) (by(clear a4 ak ao ag ae aq J ah hn e1 e0 af U;omega)) (fun i ys H' ⟨e,_⟩=>by rw [e];exact cm.of hB) ⟨rfl,rfl⟩ ?_ ?_⟩
   ·rintro k y ys H' N hy ⟨rfl,rfl⟩ hN
    obtain⟨p,aa,bb,us,rfl,ep,b6,b7,_,_,_,_,rf⟩:=oB y (List.mem_of_getElem? hy)
    refine⟨p,_,rfl,cq.of ep,rfl,_,_,rfl,_,_,rfl,rfl,?_⟩
    exact⟨_,rfl,_,rfl,aa,bb,us,rfl,rfl,b6,b7,rf,_,rfl,cY (hN _ _ ⟨rfl,rfl⟩)⟩
   ·rintro ys H' ⟨rfl,rfl⟩ _ p hp
    refine⟨eW,fun q hq=>?_⟩
    exact⟨.list [],.list [],.lst (cm.of (cG hq _ _ cx)) .nil,.lst (cm.of cx) .nil,rfl,rfl,by decide,kk _⟩
end
noncomputable def sel{α:Type}(a0 a1 a2 a3 a4 a5 a6:α):Kn->α
 | .w=>a0 | .s=>a1 | .r=>a2 | .n=>a3 | .b=>a4 | .e=>a5 | .o=>a6
section
variable {P : Program} {w : World} {K : PySem.W.Frag} {mg : Str -> Option Value} {base h : Heap}
theorem wh(X:K.In h)(G:h.Ns mainGlobals mg){t0 t1 t2 t3 t4 t5 t6:Tok}
  (n0:W.nsIn K mainGlobals "isinstance"=some none)
  (n1:W.nsIn K mainGlobals "int"=some none)
  (n2:W.nsIn K mainGlobals "bool"=some none)
  (n3:W.nsIn K mainGlobals "str"=some none)
  (n4:W.nsIn K mainGlobals "list"=some none)
  (n5:W.nsIn K mainGlobals "tuple"=some none)
  (n6:W.nsIn K mainGlobals "len"=some none)
  (n7:W.nsIn K mainGlobals "all"=some none)
  (n8:W.nsIn K mainGlobals "range"=some none)
  (n9:W.nsIn K mainGlobals "zip"=some none)
  (n10:W.nsIn K mainGlobals "sum"=some none)
  (n11:W.nsIn K mainGlobals "enumerate"=some none)
  (n12:W.nsIn K mainGlobals "max"=some none)
  (n13:W.nsIn K mainGlobals "min"=some none)
  (n14:W.nsIn K mainGlobals "sorted"=some none)
  (n15:W.nsIn K mainGlobals "set"=some none)
  (c0:W.nsIn K mainGlobals "SMALL_SIGNS"=some (some (.str "abcdefghijklmnopqrstuvwxyz0123456789" t0)))
  (c1:W.nsIn K mainGlobals "MOST_WORD_SIGNS"=some (some (.int 2000 t1)))
  (c2:W.nsIn K mainGlobals "LEAST_IN_ROW"=some (some (.int 2 t2)))
  (c3:W.nsIn K mainGlobals "MOST_IN_ROW"=some (some (.int 8 t3)))
  (c4:W.nsIn K mainGlobals "MOST_FAR"=some (some (.int 20 t4)))
  (c5:W.nsIn K mainGlobals "MOST_DEEP"=some (some (.int 8 t5)))
  (c6:W.nsIn K mainGlobals "MOST_IN_ALL"=some (some (.int 40 t6)))
  :Txt mg where
 isi:=W.mg_none_of X G n0
 int:=W.mg_none_of X G n1
 bool:=W.mg_none_of X G n2
 str:=W.mg_none_of X G n3
 list:=W.mg_none_of X G n4
 tuple:=W.mg_none_of X G n5
 len:=W.mg_none_of X G n6
 all:=W.mg_none_of X G n7
 range:=W.mg_none_of X G n8
 zip:=W.mg_none_of X G n9
 sum:=W.mg_none_of X G n10
 enum:=W.mg_none_of X G n11
 max:=W.mg_none_of X G n12
 min:=W.mg_none_of X G n13
 sorted:=W.mg_none_of X G n14
 set:=W.mg_none_of X G n15
 cSmall:=⟨t0,W.mg_of X G c0⟩
 cWord:=⟨t1,W.mg_of X G c1⟩
 cLR:=⟨t2,W.mg_of X G c2⟩
 cMR:=⟨t3,W.mg_of X G c3⟩
 cFar:=⟨t4,W.mg_of X G c4⟩
 cDeep:=⟨t5,W.mg_of X G c5⟩
 cAll:=⟨t6,W.mg_of X G c6⟩
theorem xN(P:Program){d:Addr}{ep:Nat}{t0 u0 t1 u1 t2 u2 t3 u3 t4 u4 t5 u5 t6 u6:Tok}(X:K.In h)(G:h.Ns mainGlobals mg)(a:W.nsIn K mainGlobals "TOLD_LENGTHS"=some (some (.ref d)))(ns:(d == sysModules)=false)
  (l:K.lookup d=some ⟨.type "dict",none,.dict #[⟨PyData.keyHash w.params "word",.str "word" t0,.int 2 u0⟩,⟨PyData.keyHash w.params "start",.str "start" t1,.int 2 u1⟩,⟨PyData.keyHash w.params "row",.str "row" t2,.int 2 u2⟩,⟨PyData.keyHash w.params "near",.str "near" t3,.int 4 u3⟩,⟨PyData.keyHash w.params "both",.str "both" t4,.int 3 u4⟩,⟨PyData.keyHash w.params "either",.str "either" t5,.int 3 u5⟩,⟨PyData.keyHash w.params "not",.str "not" t6,.int 2 u6⟩] ep,#[]⟩):∃ d,mg "TOLD_LENGTHS"=some (.ref d)/\KD P w K d eS:=by
 refine⟨d,W.mg_of X G a,ns,fun h' J=>⟨[((.inr "word":Key),.int 2 u0),((.inr "start":Key),.int 2 u1),((.inr "row":Key),.int 2 u2),((.inr "near":Key),.int 4 u3),((.inr "both":Key),.int 3 u4),((.inr "either":Key),.int 3 u5),((.inr "not":Key),.int 2 u6)],?_,_,_,_,J _ _ l,?_,rfl,?_,?_,?_⟩⟩
 ·exact .cons ⟨rfl,_,rfl⟩ (.cons ⟨rfl,_,rfl⟩ (.cons ⟨rfl,_,rfl⟩ (.cons ⟨rfl,_,rfl⟩ (.cons ⟨rfl,_,rfl⟩ (.cons ⟨rfl,_,rfl⟩ (.cons ⟨rfl,_,rfl⟩ (.nil)))))))
 ·exact⟨rfl,rfl,rfl⟩
 ·intro e he
  simp at he
  rcases he with rfl | rfl | rfl | rfl | rfl | rfl | rfl
  ·exact⟨.inr "word",fY "word" t0,rfl⟩
  ·exact⟨.inr "start",fY "start" t1,rfl⟩
  ·exact⟨.inr "row",fY "row" t2,rfl⟩
  ·exact⟨.inr "near",fY "near" t3,rfl⟩
  ·exact⟨.inr "both",fY "both" t4,rfl⟩
  ·exact⟨.inr "either",fY "either" t5,rfl⟩
  ·exact⟨.inr "not",fY "not" t6,rfl⟩
 ·exact .cons (fY "word" t0) rfl (.cons (fY "start" t1) rfl (.cons (fY "row" t2) rfl (.cons (fY "near" t3) rfl (.cons (fY "both" t4) rfl (.cons (fY "either" t5) rfl (.cons (fY "not" t6) rfl (.nil)))))))
 ·show([.inr "word",.inr "start",.inr "row",.inr "near",.inr "both",.inr "either",.inr "not"]:List Key).Nodup
  decide +kernel
structure All (K : W.Frag) (mg : Str -> Option Value) (C fi fs fk fl : Kn -> Addr) (di ds dk dl : Kn -> FuncData) (CB : Addr) : Prop where
 cs : Cs K C
 nm : Nm mg C
 I : In K C fi di
 MS : Mt K C "spans" gu eM fs ds
 MK : Mt K C "kids" km jV fk dk
 MH : Mt K C "holds" mj kQ fl dl
 hK : ∀ i, W.kitAny K (.ref (C i)) ([C .w, C .s, C .r].map Value.ref) = some (eN i)
 ex : Ex K mg "BadAsk" CB
noncomputable def oH(K:W.Frag)(mg:Str->Option Value):Prop:=∃ C fi fs fk fl J ds U dl CB,All K mg C fi fs fk fl J ds U dl CB
theorem wF{cw cs cr cn cb ce co CB:Addr}{fIw:Addr}{odIw anIw:Option Addr}{slIw:Array (Option Value)}{ocIw kVIw dcIw pmIw cdIw ctIw:Value}{fSw:Addr}{odSw anSw:Option Addr}{slSw:Array (Option Value)}{ocSw kVSw dcSw pmSw cdSw ctSw:Value}{fKw:Addr}{odKw anKw:Option Addr}{slKw:Array (Option Value)}{ocKw kVKw dcKw pmKw cdKw ctKw:Value}{fLw:Addr}{odLw anLw:Option Addr}{slLw:Array (Option Value)}{ocLw kVLw dcLw pmLw cdLw ctLw:Value}{fIs:Addr}{odIs anIs:Option Addr}{slIs:Array (Option Value)}{ocIs kVIs dcIs pmIs cdIs ctIs:Value}{fSs:Addr}{odSs anSs:Option Addr}{slSs:Array (Option Value)}{ocSs kVSs dcSs pmSs cdSs ctSs:Value}{fKs:Addr}{odKs anKs:Option Addr}{slKs:Array (Option Value)}{ocKs kVKs dcKs pmKs cdKs ctKs:Value}{fLs:Addr}{odLs anLs:Option Addr}{slLs:Array (Option Value)}{ocLs kVLs dcLs pmLs cdLs ctLs:Value}{fIr:Addr}{odIr anIr:Option Addr}{slIr:Array (Option Value)}{ocIr kVIr dcIr pmIr cdIr ctIr:Value}{fSr:Addr}{odSr anSr:Option Addr}{slSr:Array (Option Value)}{ocSr kVSr dcSr pmSr cdSr ctSr:Value}{fKr:Addr}{odKr anKr:Option Addr}{slKr:Array (Option Value)}{ocKr kVKr dcKr pmKr cdKr ctKr:Value}{fLr:Addr}{odLr anLr:Option Addr}{slLr:Array (Option Value)}{ocLr kVLr dcLr pmLr cdLr ctLr:Value}{fIn:Addr}{odIn anIn:Option Addr}{slIn:Array (Option Value)}{ocIn kVIn dcIn pmIn cdIn ctIn:Value}{fSn:Addr}{odSn anSn:Option Addr}{slSn:Array (Option Value)}{ocSn kVSn dcSn pmSn cdSn ctSn:Value}{fKn:Addr}{odKn anKn:Option Addr}{slKn:Array (Option Value)}{ocKn kVKn dcKn pmKn cdKn ctKn:Value}{fLn:Addr}{odLn anLn:Option Addr}{slLn:Array (Option Value)}{ocLn kVLn dcLn pmLn cdLn ctLn:Value}{fIb:Addr}{odIb anIb:Option Addr}{slIb:Array (Option Value)}{ocIb kVIb dcIb pmIb cdIb ctIb:Value}{fSb:Addr}{odSb anSb:Option Addr}{slSb:Array (Option Value)}{ocSb kVSb dcSb pmSb cdSb ctSb:Value}{fKb:Addr}{odKb anKb:Option Addr}{slKb:Array (Option Value)}{ocKb kVKb dcKb pmKb cdKb ctKb:Value}{fLb:Addr}{odLb anLb:Option Addr}{slLb:Array (Option Value)}{ocLb kVLb dcLb pmLb cdLb ctLb:Value}{fIe:Addr}{odIe anIe:Option Addr}{slIe:Array (Option Value)}{ocIe kVIe dcIe pmIe cdIe ctIe:Value}{fSe:Addr}{odSe anSe:Option Addr}{slSe:Array (Option Value)}{ocSe kVSe dcSe pmSe cdSe ctSe:Value}{fKe:Addr}{odKe anKe:Option Addr}{slKe:Array (Option Value)}{ocKe kVKe dcKe pmKe cdKe ctKe:Value}{fLe:Addr}{odLe anLe:Option Addr}{slLe:Array (Option Value)}{ocLe kVLe dcLe pmLe cdLe ctLe:Value}{fIo:Addr}{odIo anIo:Option Addr}{slIo:Array (Option Value)}{ocIo kVIo dcIo pmIo cdIo ctIo:Value}{fSo:Addr}{odSo anSo:Option Addr}{slSo:Array (Option Value)}{ocSo kVSo dcSo pmSo cdSo ctSo:Value}{fKo:Addr}{odKo anKo:Option Addr}{slKo:Array (Option Value)}{ocKo kVKo dcKo pmKo cdKo ctKo:Value}{fLo:Addr}{odLo anLo:Option Addr}{slLo:Array (Option Value)}{ocLo kVLo dcLo pmLo cdLo ctLo:Value}
  (X:K.In h)(G:h.Ns mainGlobals mg)
  (hn:W.specialIn K (.builtin "object.__class__") "__get__"=some (some (.builtin "getset_descriptor.__get__")))
  (ht:W.takesIn K (.builtin "object.__class__")=some true)
  (aw:W.nsIn K mainGlobals "Word"=some (some (.ref cw)))
  (pgw:W.plainGet K cw Str.empty=true)
  (hdw:W.hasDictIn K cw=true)
  (pow:W.plainOver K cw=true)
  (saw:W.findIn K (.ref cw) "__setattr__"=some (some (.builtin "object.__setattr__")))
  (mkw:W.makesIn K cw=true)
  (kcw:W.keepIn K (.ref cw)=true)
  (haw:W.findIn K (.ref cw) "__class__"=some (some (.builtin "object.__class__")))
  (hmw:W.mroIn K cw (.type "object")=some true)
  (nWw:W.findIn K (.ref cw) "word"=some none)
  (nRw:W.findIn K (.ref cw) "side_by_side"=some none)
  (n1w:W.findIn K (.ref cw) "one"=some none)
  (n2w:W.findIn K (.ref cw) "other"=some none)
  (n3w:W.findIn K (.ref cw) "far"=some none)
  (aIw:W.findIn K (.ref cw) "__init__"=some (some (.ref fIw)))
  (iIw:W.isFn K (.ref fIw)=true)
  (lIw:K.lookup fIw=some ⟨ocIw,odIw,.func (W.fnOf "__init__" "Word.__init__" (cP (inClass cW 0)) (cL (inClass cW 0)) (cv (inClass cW 0)) .none kVIw dcIw pmIw anIw cdIw ctIw),slIw⟩)
  (cIw:W.codeIn K cdIw "Word.__init__"=true)
  (kIw:W.keepIn K (.ref fIw)=true)
  (aSw:W.findIn K (.ref cw) "spans"=some (some (.ref fSw)))
  (iSw:W.isFn K (.ref fSw)=true)
  (lSw:K.lookup fSw=some ⟨ocSw,odSw,.func (W.fnOf "spans" "Word.spans" (cP (inClass cW 3)) (cL (inClass cW 3)) (cv (inClass cW 3)) .none kVSw dcSw pmSw anSw cdSw ctSw),slSw⟩)
  (cSw:W.codeIn K cdSw "Word.spans"=true)
  (kSw:W.keepIn K (.ref fSw)=true)
  (aKw:W.findIn K (.ref cw) "kids"=some (some (.ref fKw)))
  (iKw:W.isFn K (.ref fKw)=true)
  (lKw:K.lookup fKw=some ⟨ocKw,odKw,.func (W.fnOf "kids" "Ask.kids" (cP (inClass du 0)) (cL (inClass du 0)) (cv (inClass du 0)) .none kVKw dcKw pmKw anKw cdKw ctKw),slKw⟩)
  (cKw:W.codeIn K cdKw "Ask.kids"=true)
  (kKw:W.keepIn K (.ref fKw)=true)
  (aLw:W.findIn K (.ref cw) "holds"=some (some (.ref fLw)))
  (iLw:W.isFn K (.ref fLw)=true)
  (lLw:K.lookup fLw=some ⟨ocLw,odLw,.func (W.fnOf "holds" "Ask.holds" (cP (inClass du 2)) (cL (inClass du 2)) (cv (inClass du 2)) .none kVLw dcLw pmLw anLw cdLw ctLw),slLw⟩)
  (cLw:W.codeIn K cdLw "Ask.holds"=true)
  (kLw:W.keepIn K (.ref fLw)=true)
  (as:W.nsIn K mainGlobals "Start"=some (some (.ref cs)))
  (pgs:W.plainGet K cs Str.empty=true)
  (hds:W.hasDictIn K cs=true)
  (pos:W.plainOver K cs=true)
  (sas:W.findIn K (.ref cs) "__setattr__"=some (some (.builtin "object.__setattr__")))
  (mks:W.makesIn K cs=true)
  (kcs:W.keepIn K (.ref cs)=true)
  (has:W.findIn K (.ref cs) "__class__"=some (some (.builtin "object.__class__")))
  (hms:W.mroIn K cs (.type "object")=some true)
  (nWs:W.findIn K (.ref cs) "word"=some none)
  (nRs:W.findIn K (.ref cs) "side_by_side"=some none)
  (n1s:W.findIn K (.ref cs) "one"=some none)
  (n2s:W.findIn K (.ref cs) "other"=some none)
  (n3s:W.findIn K (.ref cs) "far"=some none)
  (aIs:W.findIn K (.ref cs) "__init__"=some (some (.ref fIs)))
  (iIs:W.isFn K (.ref fIs)=true)
  (lIs:K.lookup fIs=some ⟨ocIs,odIs,.func (W.fnOf "__init__" "Start.__init__" (cP (inClass cS 0)) (cL (inClass cS 0)) (cv (inClass cS 0)) .none kVIs dcIs pmIs anIs cdIs ctIs),slIs⟩)
  (cIs:W.codeIn K cdIs "Start.__init__"=true)
  (kIs:W.keepIn K (.ref fIs)=true)
  (aSs:W.findIn K (.ref cs) "spans"=some (some (.ref fSs)))
  (iSs:W.isFn K (.ref fSs)=true)
  (lSs:K.lookup fSs=some ⟨ocSs,odSs,.func (W.fnOf "spans" "Start.spans" (cP (inClass cS 3)) (cL (inClass cS 3)) (cv (inClass cS 3)) .none kVSs dcSs pmSs anSs cdSs ctSs),slSs⟩)
  (cSs:W.codeIn K cdSs "Start.spans"=true)
  (kSs:W.keepIn K (.ref fSs)=true)
  (aKs:W.findIn K (.ref cs) "kids"=some (some (.ref fKs)))
  (iKs:W.isFn K (.ref fKs)=true)
  (lKs:K.lookup fKs=some ⟨ocKs,odKs,.func (W.fnOf "kids" "Ask.kids" (cP (inClass du 0)) (cL (inClass du 0)) (cv (inClass du 0)) .none kVKs dcKs pmKs anKs cdKs ctKs),slKs⟩)
  (cKs:W.codeIn K cdKs "Ask.kids"=true)
  (kKs:W.keepIn K (.ref fKs)=true)
  (aLs:W.findIn K (.ref cs) "holds"=some (some (.ref fLs)))
  (iLs:W.isFn K (.ref fLs)=true)
  (lLs:K.lookup fLs=some ⟨ocLs,odLs,.func (W.fnOf "holds" "Ask.holds" (cP (inClass du 2)) (cL (inClass du 2)) (cv (inClass du 2)) .none kVLs dcLs pmLs anLs cdLs ctLs),slLs⟩)
  (cLs:W.codeIn K cdLs "Ask.holds"=true)
  (kLs:W.keepIn K (.ref fLs)=true)
  (ar:W.nsIn K mainGlobals "Row"=some (some (.ref cr)))
  (pgr:W.plainGet K cr Str.empty=true)
  (hdr:W.hasDictIn K cr=true)
  (por:W.plainOver K cr=true)
  (sar:W.findIn K (.ref cr) "__setattr__"=some (some (.builtin "object.__setattr__")))
  (mkr:W.makesIn K cr=true)
  (kcr:W.keepIn K (.ref cr)=true)
  (har:W.findIn K (.ref cr) "__class__"=some (some (.builtin "object.__class__")))
  (hmr:W.mroIn K cr (.type "object")=some true)
  (nWr:W.findIn K (.ref cr) "word"=some none)
  (nRr:W.findIn K (.ref cr) "side_by_side"=some none)
  (n1r:W.findIn K (.ref cr) "one"=some none)
  (n2r:W.findIn K (.ref cr) "other"=some none)
  (n3r:W.findIn K (.ref cr) "far"=some none)
  (aIr:W.findIn K (.ref cr) "__init__"=some (some (.ref fIr)))
  (iIr:W.isFn K (.ref fIr)=true)
  (lIr:K.lookup fIr=some ⟨ocIr,odIr,.func (W.fnOf "__init__" "Row.__init__" (cP (inClass cR 0)) (cL (inClass cR 0)) (cv (inClass cR 0)) .none kVIr dcIr pmIr anIr cdIr ctIr),slIr⟩)
  (cIr:W.codeIn K cdIr "Row.__init__"=true)
  (kIr:W.keepIn K (.ref fIr)=true)
  (aSr:W.findIn K (.ref cr) "spans"=some (some (.ref fSr)))
  (iSr:W.isFn K (.ref fSr)=true)
  (lSr:K.lookup fSr=some ⟨ocSr,odSr,.func (W.fnOf "spans" "Row.spans" (cP (inClass cR 3)) (cL (inClass cR 3)) (cv (inClass cR 3)) .none kVSr dcSr pmSr anSr cdSr ctSr),slSr⟩)
  (cSr:W.codeIn K cdSr "Row.spans"=true)
  (kSr:W.keepIn K (.ref fSr)=true)
  (aKr:W.findIn K (.ref cr) "kids"=some (some (.ref fKr)))
  (iKr:W.isFn K (.ref fKr)=true)
  (lKr:K.lookup fKr=some ⟨ocKr,odKr,.func (W.fnOf "kids" "Ask.kids" (cP (inClass du 0)) (cL (inClass du 0)) (cv (inClass du 0)) .none kVKr dcKr pmKr anKr cdKr ctKr),slKr⟩)
  (cKr:W.codeIn K cdKr "Ask.kids"=true)
  (kKr:W.keepIn K (.ref fKr)=true)
  (aLr:W.findIn K (.ref cr) "holds"=some (some (.ref fLr)))
  (iLr:W.isFn K (.ref fLr)=true)
  (lLr:K.lookup fLr=some ⟨ocLr,odLr,.func (W.fnOf "holds" "Ask.holds" (cP (inClass du 2)) (cL (inClass du 2)) (cv (inClass du 2)) .none kVLr dcLr pmLr anLr cdLr ctLr),slLr⟩)
  (cLr:W.codeIn K cdLr "Ask.holds"=true)
  (kLr:W.keepIn K (.ref fLr)=true)
  (an:W.nsIn K mainGlobals "Near"=some (some (.ref cn)))
  (pgn:W.plainGet K cn Str.empty=true)
  (hdn:W.hasDictIn K cn=true)
  (pon:W.plainOver K cn=true)
  (san:W.findIn K (.ref cn) "__setattr__"=some (some (.builtin "object.__setattr__")))
  (mkn:W.makesIn K cn=true)
  (kcn:W.keepIn K (.ref cn)=true)
  (han:W.findIn K (.ref cn) "__class__"=some (some (.builtin "object.__class__")))
  (hmn:W.mroIn K cn (.type "object")=some true)
  (nWn:W.findIn K (.ref cn) "word"=some none)
  (nRn:W.findIn K (.ref cn) "side_by_side"=some none)
  (n1n:W.findIn K (.ref cn) "one"=some none)
  (n2n:W.findIn K (.ref cn) "other"=some none)
  (n3n:W.findIn K (.ref cn) "far"=some none)
  (aIn:W.findIn K (.ref cn) "__init__"=some (some (.ref fIn)))
  (iIn:W.isFn K (.ref fIn)=true)
  (lIn:K.lookup fIn=some ⟨ocIn,odIn,.func (W.fnOf "__init__" "Near.__init__" (cP (inClass cN 0)) (cL (inClass cN 0)) (cv (inClass cN 0)) .none kVIn dcIn pmIn anIn cdIn ctIn),slIn⟩)
  (cIn:W.codeIn K cdIn "Near.__init__"=true)
  (kIn:W.keepIn K (.ref fIn)=true)
  (aSn:W.findIn K (.ref cn) "spans"=some (some (.ref fSn)))
  (iSn:W.isFn K (.ref fSn)=true)
  (lSn:K.lookup fSn=some ⟨ocSn,odSn,.func (W.fnOf "spans" "Near.spans" (cP (inClass cN 4)) (cL (inClass cN 4)) (cv (inClass cN 4)) .none kVSn dcSn pmSn anSn cdSn ctSn),slSn⟩)
  (cSn:W.codeIn K cdSn "Near.spans"=true)
  (kSn:W.keepIn K (.ref fSn)=true)
  (aKn:W.findIn K (.ref cn) "kids"=some (some (.ref fKn)))
  (iKn:W.isFn K (.ref fKn)=true)
  (lKn:K.lookup fKn=some ⟨ocKn,odKn,.func (W.fnOf "kids" "Near.kids" (cP (inClass cN 3)) (cL (inClass cN 3)) (cv (inClass cN 3)) .none kVKn dcKn pmKn anKn cdKn ctKn),slKn⟩)
  (cKn:W.codeIn K cdKn "Near.kids"=true)
  (kKn:W.keepIn K (.ref fKn)=true)
  (aLn:W.findIn K (.ref cn) "holds"=some (some (.ref fLn)))
  (iLn:W.isFn K (.ref fLn)=true)
  (lLn:K.lookup fLn=some ⟨ocLn,odLn,.func (W.fnOf "holds" "Ask.holds" (cP (inClass du 2)) (cL (inClass du 2)) (cv (inClass du 2)) .none kVLn dcLn pmLn anLn cdLn ctLn),slLn⟩)
  (cLn:W.codeIn K cdLn "Ask.holds"=true)
  (kLn:W.keepIn K (.ref fLn)=true)
  (ab:W.nsIn K mainGlobals "Both"=some (some (.ref cb)))
  (pgb:W.plainGet K cb Str.empty=true)
  (hdb:W.hasDictIn K cb=true)
  (pob:W.plainOver K cb=true)
  (sab:W.findIn K (.ref cb) "__setattr__"=some (some (.builtin "object.__setattr__")))
  (mkb:W.makesIn K cb=true)
  (kcb:W.keepIn K (.ref cb)=true)
  (hab:W.findIn K (.ref cb) "__class__"=some (some (.builtin "object.__class__")))
  (hmb:W.mroIn K cb (.type "object")=some true)
  (nWb:W.findIn K (.ref cb) "word"=some none)
  (nRb:W.findIn K (.ref cb) "side_by_side"=some none)
  (n1b:W.findIn K (.ref cb) "one"=some none)
  (n2b:W.findIn K (.ref cb) "other"=some none)
  (n3b:W.findIn K (.ref cb) "far"=some none)
  (aIb:W.findIn K (.ref cb) "__init__"=some (some (.ref fIb)))
  (iIb:W.isFn K (.ref fIb)=true)
  (lIb:K.lookup fIb=some ⟨ocIb,odIb,.func (W.fnOf "__init__" "Both.__init__" (cP (inClass cB 0)) (cL (inClass cB 0)) (cv (inClass cB 0)) .none kVIb dcIb pmIb anIb cdIb ctIb),slIb⟩)
  (cIb:W.codeIn K cdIb "Both.__init__"=true)
  (kIb:W.keepIn K (.ref fIb)=true)
  (aSb:W.findIn K (.ref cb) "spans"=some (some (.ref fSb)))
  (iSb:W.isFn K (.ref fSb)=true)
  (lSb:K.lookup fSb=some ⟨ocSb,odSb,.func (W.fnOf "spans" "Both.spans" (cP (inClass cB 6)) (cL (inClass cB 6)) (cv (inClass cB 6)) .none kVSb dcSb pmSb anSb cdSb ctSb),slSb⟩)
  (cSb:W.codeIn K cdSb "Both.spans"=true)
  (kSb:W.keepIn K (.ref fSb)=true)
  (aKb:W.findIn K (.ref cb) "kids"=some (some (.ref fKb)))
  (iKb:W.isFn K (.ref fKb)=true)
  (lKb:K.lookup fKb=some ⟨ocKb,odKb,.func (W.fnOf "kids" "Both.kids" (cP (inClass cB 3)) (cL (inClass cB 3)) (cv (inClass cB 3)) .none kVKb dcKb pmKb anKb cdKb ctKb),slKb⟩)
  (cKb:W.codeIn K cdKb "Both.kids"=true)
  (kKb:W.keepIn K (.ref fKb)=true)
  (aLb:W.findIn K (.ref cb) "holds"=some (some (.ref fLb)))
  (iLb:W.isFn K (.ref fLb)=true)
  (lLb:K.lookup fLb=some ⟨ocLb,odLb,.func (W.fnOf "holds" "Both.holds" (cP (inClass cB 5)) (cL (inClass cB 5)) (cv (inClass cB 5)) .none kVLb dcLb pmLb anLb cdLb ctLb),slLb⟩)
  (cLb:W.codeIn K cdLb "Both.holds"=true)
  (kLb:W.keepIn K (.ref fLb)=true)
  (ae:W.nsIn K mainGlobals "Either"=some (some (.ref ce)))
  (pge:W.plainGet K ce Str.empty=true)
  (hde:W.hasDictIn K ce=true)
  (poe:W.plainOver K ce=true)
  (sae:W.findIn K (.ref ce) "__setattr__"=some (some (.builtin "object.__setattr__")))
  (mke:W.makesIn K ce=true)
  (kce:W.keepIn K (.ref ce)=true)
  (hae:W.findIn K (.ref ce) "__class__"=some (some (.builtin "object.__class__")))
  (hme:W.mroIn K ce (.type "object")=some true)
  (nWe:W.findIn K (.ref ce) "word"=some none)
  (nRe:W.findIn K (.ref ce) "side_by_side"=some none)
  (n1e:W.findIn K (.ref ce) "one"=some none)
  (n2e:W.findIn K (.ref ce) "other"=some none)
  (n3e:W.findIn K (.ref ce) "far"=some none)
  (aIe:W.findIn K (.ref ce) "__init__"=some (some (.ref fIe)))
  (iIe:W.isFn K (.ref fIe)=true)
  (lIe:K.lookup fIe=some ⟨ocIe,odIe,.func (W.fnOf "__init__" "Either.__init__" (cP (inClass cE 0)) (cL (inClass cE 0)) (cv (inClass cE 0)) .none kVIe dcIe pmIe anIe cdIe ctIe),slIe⟩)
  (cIe:W.codeIn K cdIe "Either.__init__"=true)
  (kIe:W.keepIn K (.ref fIe)=true)
  (aSe:W.findIn K (.ref ce) "spans"=some (some (.ref fSe)))
  (iSe:W.isFn K (.ref fSe)=true)
  (lSe:K.lookup fSe=some ⟨ocSe,odSe,.func (W.fnOf "spans" "Either.spans" (cP (inClass cE 6)) (cL (inClass cE 6)) (cv (inClass cE 6)) .none kVSe dcSe pmSe anSe cdSe ctSe),slSe⟩)
  (cSe:W.codeIn K cdSe "Either.spans"=true)
  (kSe:W.keepIn K (.ref fSe)=true)
  (aKe:W.findIn K (.ref ce) "kids"=some (some (.ref fKe)))
  (iKe:W.isFn K (.ref fKe)=true)
  (lKe:K.lookup fKe=some ⟨ocKe,odKe,.func (W.fnOf "kids" "Either.kids" (cP (inClass cE 3)) (cL (inClass cE 3)) (cv (inClass cE 3)) .none kVKe dcKe pmKe anKe cdKe ctKe),slKe⟩)
  (cKe:W.codeIn K cdKe "Either.kids"=true)
  (kKe:W.keepIn K (.ref fKe)=true)
  (aLe:W.findIn K (.ref ce) "holds"=some (some (.ref fLe)))
  (iLe:W.isFn K (.ref fLe)=true)
  (lLe:K.lookup fLe=some ⟨ocLe,odLe,.func (W.fnOf "holds" "Either.holds" (cP (inClass cE 5)) (cL (inClass cE 5)) (cv (inClass cE 5)) .none kVLe dcLe pmLe anLe cdLe ctLe),slLe⟩)
  (cLe:W.codeIn K cdLe "Either.holds"=true)
  (kLe:W.keepIn K (.ref fLe)=true)
  (ao:W.nsIn K mainGlobals "Not"=some (some (.ref co)))
  (pgo:W.plainGet K co Str.empty=true)
  (hdo:W.hasDictIn K co=true)
  (poo:W.plainOver K co=true)
  (sao:W.findIn K (.ref co) "__setattr__"=some (some (.builtin "object.__setattr__")))
  (mko:W.makesIn K co=true)
  (kco:W.keepIn K (.ref co)=true)
  (hao:W.findIn K (.ref co) "__class__"=some (some (.builtin "object.__class__")))
  (hmo:W.mroIn K co (.type "object")=some true)
  (nWo:W.findIn K (.ref co) "word"=some none)
  (nRo:W.findIn K (.ref co) "side_by_side"=some none)
  (n1o:W.findIn K (.ref co) "one"=some none)
  (n2o:W.findIn K (.ref co) "other"=some none)
  (n3o:W.findIn K (.ref co) "far"=some none)
  (aIo:W.findIn K (.ref co) "__init__"=some (some (.ref fIo)))
  (iIo:W.isFn K (.ref fIo)=true)
  (lIo:K.lookup fIo=some ⟨ocIo,odIo,.func (W.fnOf "__init__" "Not.__init__" (cP (inClass cO 0)) (cL (inClass cO 0)) (cv (inClass cO 0)) .none kVIo dcIo pmIo anIo cdIo ctIo),slIo⟩)
  (cIo:W.codeIn K cdIo "Not.__init__"=true)
  (kIo:W.keepIn K (.ref fIo)=true)
  (aSo:W.findIn K (.ref co) "spans"=some (some (.ref fSo)))
  (iSo:W.isFn K (.ref fSo)=true)
  (lSo:K.lookup fSo=some ⟨ocSo,odSo,.func (W.fnOf "spans" "Not.spans" (cP (inClass cO 6)) (cL (inClass cO 6)) (cv (inClass cO 6)) .none kVSo dcSo pmSo anSo cdSo ctSo),slSo⟩)
  (cSo:W.codeIn K cdSo "Not.spans"=true)
  (kSo:W.keepIn K (.ref fSo)=true)
  (aKo:W.findIn K (.ref co) "kids"=some (some (.ref fKo)))
  (iKo:W.isFn K (.ref fKo)=true)
  (lKo:K.lookup fKo=some ⟨ocKo,odKo,.func (W.fnOf "kids" "Not.kids" (cP (inClass cO 3)) (cL (inClass cO 3)) (cv (inClass cO 3)) .none kVKo dcKo pmKo anKo cdKo ctKo),slKo⟩)
  (cKo:W.codeIn K cdKo "Not.kids"=true)
  (kKo:W.keepIn K (.ref fKo)=true)
  (aLo:W.findIn K (.ref co) "holds"=some (some (.ref fLo)))
  (iLo:W.isFn K (.ref fLo)=true)
  (lLo:K.lookup fLo=some ⟨ocLo,odLo,.func (W.fnOf "holds" "Not.holds" (cP (inClass cO 5)) (cL (inClass cO 5)) (cv (inClass cO 5)) .none kVLo dcLo pmLo anLo cdLo ctLo),slLo⟩)
  (cLo:W.codeIn K cdLo "Not.holds"=true)
  (kLo:W.keepIn K (.ref fLo)=true)
  (qLw:W.kitAny K (.ref cw) [.ref cw,.ref cs,.ref cr]=some true)
  (qLs:W.kitAny K (.ref cs) [.ref cw,.ref cs,.ref cr]=some true)
  (qLr:W.kitAny K (.ref cr) [.ref cw,.ref cs,.ref cr]=some true)
  (qLn:W.kitAny K (.ref cn) [.ref cw,.ref cs,.ref cr]=some false)
  (qLb:W.kitAny K (.ref cb) [.ref cw,.ref cs,.ref cr]=some false)
  (qLe:W.kitAny K (.ref ce) [.ref cw,.ref cs,.ref cr]=some false)
  (qLo:W.kitAny K (.ref co) [.ref cw,.ref cs,.ref cr]=some false)
  (aB:W.nsIn K mainGlobals "BadAsk"=some (some (.ref CB)))
  (xB:W.excIn K CB [.type "ValueError",.type "Exception",.type "BaseException",.type "object"] "ValueError.__new__"=true)
  :oH K mg:=by
 refine⟨(sel cw cs cr cn cb ce co),(sel fIw fIs fIr fIn fIb fIe fIo),(sel fSw fSs fSr fSn fSb fSe fSo),(sel fKw fKs fKr fKn fKb fKe fKo),(sel fLw fLs fLr fLn fLb fLe fLo),(sel (W.fnOf "__init__" "Word.__init__" (cP (inClass cW 0)) (cL (inClass cW 0)) (cv (inClass cW 0)) .none kVIw dcIw pmIw anIw cdIw ctIw) (W.fnOf "__init__" "Start.__init__" (cP (inClass cS 0)) (cL (inClass cS 0)) (cv (inClass cS 0)) .none kVIs dcIs pmIs anIs cdIs ctIs) (W.fnOf "__init__" "Row.__init__" (cP (inClass cR 0)) (cL (inClass cR 0)) (cv (inClass cR 0)) .none kVIr dcIr pmIr anIr cdIr ctIr) (W.fnOf "__init__" "Near.__init__" (cP (inClass cN 0)) (cL (inClass cN 0)) (cv (inClass cN 0)) .none kVIn dcIn pmIn anIn cdIn ctIn) (W.fnOf "__init__" "Both.__init__" (cP (inClass cB 0)) (cL (inClass cB 0)) (cv (inClass cB 0)) .none kVIb dcIb pmIb anIb cdIb ctIb) (W.fnOf "__init__" "Either.__init__" (cP (inClass cE 0)) (cL (inClass cE 0)) (cv (inClass cE 0)) .none kVIe dcIe pmIe anIe cdIe ctIe) (W.fnOf "__init__" "Not.__init__" (cP (inClass cO 0)) (cL (inClass cO 0)) (cv (inClass cO 0)) .none kVIo dcIo pmIo anIo cdIo ctIo)),(sel (W.fnOf "spans" "Word.spans" (cP (inClass cW 3)) (cL (inClass cW 3)) (cv (inClass cW 3)) .none kVSw dcSw pmSw anSw cdSw ctSw) (W.fnOf "spans" "Start.spans" (cP (inClass cS 3)) (cL (inClass cS 3)) (cv (inClass cS 3)) .none kVSs dcSs pmSs anSs cdSs ctSs) (W.fnOf "spans" "Row.spans" (cP (inClass cR 3)) (cL (inClass cR 3)) (cv (inClass cR 3)) .none kVSr dcSr pmSr anSr cdSr ctSr) (W.fnOf "spans" "Near.spans" (cP (inClass cN 4)) (cL (inClass cN 4)) (cv (inClass cN 4)) .none kVSn dcSn pmSn anSn cdSn ctSn) (W.fnOf "spans" "Both.spans" (cP (inClass cB 6)) (cL (inClass cB 6)) (cv (inClass cB 6)) .none kVSb dcSb pmSb anSb cdSb ctSb) (W.fnOf "spans" "Either.spans" (cP (inClass cE 6)) (cL (inClass cE 6)) (cv (inClass cE 6)) .none kVSe dcSe pmSe anSe cdSe ctSe) (W.fnOf "spans" "Not.spans" (cP (inClass cO 6)) (cL (inClass cO 6)) (cv (inClass cO 6)) .none kVSo dcSo pmSo anSo cdSo ctSo)),(sel (W.fnOf "kids" "Ask.kids" (cP (inClass du 0)) (cL (inClass du 0)) (cv (inClass du 0)) .none kVKw dcKw pmKw anKw cdKw ctKw) (W.fnOf "kids" "Ask.kids" (cP (inClass du 0)) (cL (inClass du 0)) (cv (inClass du 0)) .none kVKs dcKs pmKs anKs cdKs ctKs) (W.fnOf "kids" "Ask.kids" (cP (inClass du 0)) (cL (inClass du 0)) (cv (inClass du 0)) .none kVKr dcKr pmKr anKr cdKr ctKr) (W.fnOf "kids" "Near.kids" (cP (inClass cN 3)) (cL (inClass cN 3)) (cv (inClass cN 3)) .none kVKn dcKn pmKn anKn cdKn ctKn) (W.fnOf "kids" "Both.kids" (cP (inClass cB 3)) (cL (inClass cB 3)) (cv (inClass cB 3)) .none kVKb dcKb pmKb anKb cdKb ctKb) (W.fnOf "kids" "Either.kids" (cP (inClass cE 3)) (cL (inClass cE 3)) (cv (inClass cE 3)) .none kVKe dcKe pmKe anKe cdKe ctKe) (W.fnOf "kids" "Not.kids" (cP (inClass cO 3)) (cL (inClass cO 3)) (cv (inClass cO 3)) .none kVKo dcKo pmKo anKo cdKo ctKo)),(sel (W.fnOf "holds" "Ask.holds" (cP (inClass du 2)) (cL (inClass du 2)) (cv (inClass du 2)) .none kVLw dcLw pmLw anLw cdLw ctLw) (W.fnOf "holds" "Ask.holds" (cP (inClass du 2)) (cL (inClass du 2)) (cv (inClass du 2)) .none kVLs dcLs pmLs anLs cdLs ctLs) (W.fnOf "holds" "Ask.holds" (cP (inClass du 2)) (cL (inClass du 2)) (cv (inClass du 2)) .none kVLr dcLr pmLr anLr cdLr ctLr) (W.fnOf "holds" "Ask.holds" (cP (inClass du 2)) (cL (inClass du 2)) (cv (inClass du 2)) .none kVLn dcLn pmLn anLn cdLn ctLn) (W.fnOf "holds" "Both.holds" (cP (inClass cB 5)) (cL (inClass cB 5)) (cv (inClass cB 5)) .none kVLb dcLb pmLb anLb cdLb ctLb) (W.fnOf "holds" "Either.holds" (cP (inClass cE 5)) (cL (inClass cE 5)) (cv (inClass cE 5)) .none kVLe dcLe pmLe anLe cdLe ctLe) (W.fnOf "holds" "Not.holds" (cP (inClass cO 5)) (cL (inClass cO 5)) (cv (inClass cO 5)) .none kVLo dcLo pmLo anLo cdLo ctLo)),CB,?_⟩
 refine⟨⟨fun i=>match i with | .w=>⟨⟨pgw,hdw,pow,saw⟩,haw,hn,ht,hmw⟩ | .s=>⟨⟨pgs,hds,pos,sas⟩,has,hn,ht,hms⟩ | .r=>⟨⟨pgr,hdr,por,sar⟩,har,hn,ht,hmr⟩ | .n=>⟨⟨pgn,hdn,pon,san⟩,han,hn,ht,hmn⟩ | .b=>⟨⟨pgb,hdb,pob,sab⟩,hab,hn,ht,hmb⟩ | .e=>⟨⟨pge,hde,poe,sae⟩,hae,hn,ht,hme⟩ | .o=>⟨⟨pgo,hdo,poo,sao⟩,hao,hn,ht,hmo⟩,fun i=>match i with | .w=>nWw | .s=>nWs | .r=>nWr | .n=>nWn | .b=>nWb | .e=>nWe | .o=>nWo,fun i=>match i with | .w=>nRw | .s=>nRs | .r=>nRr | .n=>nRn | .b=>nRb | .e=>nRe | .o=>nRo,fun i=>match i with | .w=>n1w | .s=>n1s | .r=>n1r | .n=>n1n | .b=>n1b | .e=>n1e | .o=>n1o,fun i=>match i with | .w=>n2w | .s=>n2s | .r=>n2r | .n=>n2n | .b=>n2b | .e=>n2e | .o=>n2o,fun i=>match i with | .w=>n3w | .s=>n3s | .r=>n3r | .n=>n3n | .b=>n3b | .e=>n3e | .o=>n3o⟩,⟨W.mg_of X G aw,W.mg_of X G as,W.mg_of X G ar,W.mg_of X G an,W.mg_of X G ab,W.mg_of X G ae,W.mg_of X G ao⟩,⟨fun i=>match i with | .w=>dX lIw cIw kIw | .s=>dX lIs cIs kIs | .r=>dX lIr cIr kIr | .n=>dX lIn cIn kIn | .b=>dX lIb cIb kIb | .e=>dX lIe cIe kIe | .o=>dX lIo cIo kIo,fun i=>match i with | .w=>⟨mkw,aIw,iIw,kcw⟩ | .s=>⟨mks,aIs,iIs,kcs⟩ | .r=>⟨mkr,aIr,iIr,kcr⟩ | .n=>⟨mkn,aIn,iIn,kcn⟩ | .b=>⟨mkb,aIb,iIb,kcb⟩ | .e=>⟨mke,aIe,iIe,kce⟩ | .o=>⟨mko,aIo,iIo,kco⟩⟩,⟨fun i=>match i with | .w=>dX lSw cSw kSw | .s=>dX lSs cSs kSs | .r=>dX lSr cSr kSr | .n=>dX lSn cSn kSn | .b=>dX lSb cSb kSb | .e=>dX lSe cSe kSe | .o=>dX lSo cSo kSo,fun i=>match i with | .w=>⟨aSw,iSw,kSw⟩ | .s=>⟨aSs,iSs,kSs⟩ | .r=>⟨aSr,iSr,kSr⟩ | .n=>⟨aSn,iSn,kSn⟩ | .b=>⟨aSb,iSb,kSb⟩ | .e=>⟨aSe,iSe,kSe⟩ | .o=>⟨aSo,iSo,kSo⟩⟩,⟨fun i=>match i with | .w=>dX lKw cKw kKw | .s=>dX lKs cKs kKs | .r=>dX lKr cKr kKr | .n=>dX lKn cKn kKn | .b=>dX lKb cKb kKb | .e=>dX lKe cKe kKe | .o=>dX lKo cKo kKo,fun i=>match i with | .w=>⟨aKw,iKw,kKw⟩ | .s=>⟨aKs,iKs,kKs⟩ | .r=>⟨aKr,iKr,kKr⟩ | .n=>⟨aKn,iKn,kKn⟩ | .b=>⟨aKb,iKb,kKb⟩ | .e=>⟨aKe,iKe,kKe⟩ | .o=>⟨aKo,iKo,kKo⟩⟩,⟨fun i=>match i with | .w=>dX lLw cLw kLw | .s=>dX lLs cLs kLs | .r=>dX lLr cLr kLr | .n=>dX lLn cLn kLn | .b=>dX lLb cLb kLb | .e=>dX lLe cLe kLe | .o=>dX lLo cLo kLo,fun i=>match i with | .w=>⟨aLw,iLw,kLw⟩ | .s=>⟨aLs,iLs,kLs⟩ | .r=>⟨aLr,iLr,kLr⟩ | .n=>⟨aLn,iLn,kLn⟩ | .b=>⟨aLb,iLb,kLb⟩ | .e=>⟨aLe,iLe,kLe⟩ | .o=>⟨aLo,iLo,kLo⟩⟩,fun i=>match i with | .w=>qLw | .s=>qLs | .r=>qLr | .n=>qLn | .b=>qLb | .e=>qLe | .o=>qLo,⟨W.mg_of X G aB,xB⟩⟩
theorem xc(T:Txt mg)(X:oH K mg)(KL:∃ d,mg "TOLD_LENGTHS"=some (.ref d)/\KD P w K d eS)
  (d_sWhole:∃ f fd,Df K mg "is_whole" lx f fd)
  (d_sRow:∃ f fd,Df K mg "is_small_row" ku f fd)
  (d_sWord:∃ f fd,Df K mg "is_word" lz f fd)
  (d_sOnce:∃ f fd,Df K mg "each_once" i8 f fd)
  (d_sEnds:∃ f fd,Df K mg "ends_by_begin" jW f fd)
  (d_sLed:∃ f fd,Df K mg "spans_led_on" jK f fd)
  (d_sName:∃ f fd,Df K mg "need_name" k8 f fd)
  (d_sAWord:∃ f fd,Df K mg "asked_word" kD f fd)
  (d_sARow:∃ f fd,Df K mg "asked_row" kM f fd)
  (d_sANear:∃ f fd,Df K mg "asked_near" lL f fd)
  (d_sWithin:∃ f fd,Df K mg "ask_within" lg f fd)
  (d_sMany:∃ f fd,Df K mg "many_in" jZ f fd)
  (d_sAskOf:∃ f fd,Df K mg "ask_of" lj f fd)
  (d_lMixed:∃ f fd,Df K mg "_law_mixed" iq f fd)
  (d_lNumber:∃ f fd,Df K mg "_law_number" jv f fd)
  (d_lMenu:∃ f fd,Df K mg "_law_menu" jA f fd)
  (d_lPlain:∃ f fd,Df K mg "_law_plain" jc f fd)
  (d_lTree:∃ f fd,Df K mg "_law_tree" kB f fd)
  (d_lKids:∃ f fd,Df K mg "_law_kids" lF f fd)
  (d_lPS:∃ f fd,Df K mg "_law_plain_spans" jM f fd)
  (d_lSpans:∃ f fd,Df K mg "_law_spans" jk f fd)
  (d_lHolds:∃ f fd,Df K mg "_law_holds" kG f fd)
  (d_lSR:∃ f fd,Df K mg "_law_spans_right" kb f fd)
  (d_lRight:∃ f fd,Df K mg "_law_right" kX f fd)
  (d_lDrawn:∃ f fd,Df K mg "_law_drawn_words" jQ f fd)
  {f:Addr}{fd:FuncData}(D:Df K mg "law" iu f fd):cu P w K mg base cC 15 f fd ["_law_script"] (kK K):=by
 obtain⟨C,fi,fs,fk,fl,di,ds,dk,dl,CB,Z⟩:=X
 obtain⟨d,hd,aN⟩:=KL
 obtain⟨_,_,av⟩:=d_sWhole
 obtain⟨_,_,aH⟩:=d_sRow
 obtain⟨_,_,aq⟩:=d_sWord
 obtain⟨_,_,aA⟩:=d_sOnce
 obtain⟨_,_,aB⟩:=d_sEnds
 obtain⟨_,_,aI⟩:=d_sLed
 obtain⟨_,_,af⟩:=d_sName
 obtain⟨_,_,J⟩:=d_sAWord
 obtain⟨_,_,ag⟩:=d_sARow
 obtain⟨_,_,aa⟩:=d_sANear
 obtain⟨_,_,U⟩:=d_sWithin
 obtain⟨_,_,ar⟩:=d_sMany
 obtain⟨_,_,ah⟩:=d_sAskOf
 obtain⟨_,_,aw⟩:=d_lMixed
 obtain⟨_,_,au⟩:=d_lNumber
 obtain⟨_,_,aC⟩:=d_lMenu
 obtain⟨_,_,ax⟩:=d_lPlain
 obtain⟨_,_,aD⟩:=d_lTree
 obtain⟨_,_,aE⟩:=d_lKids
 obtain⟨_,_,aF⟩:=d_lPS
 obtain⟨_,_,ae⟩:=d_lSpans
 obtain⟨_,_,ak⟩:=d_lHolds
 obtain⟨_,_,aG⟩:=d_lSR
 obtain⟨_,_,ao⟩:=d_lRight
 obtain⟨_,_,ay⟩:=d_lDrawn
 have aJ:=wD (P:=P) (w:=w) (base:=base) aq aH T
 have aK:=w4 J aq Z.ex aJ
 have jC:=yn (P:=P) (w:=w) (base:=base) af T Z.ex hd aN
 have aL:=zU ag J T Z.cs Z.I Z.nm.r Z.ex aK
 have aM:=yY (P:=P) (w:=w) (base:=base) aa av T Z.cs Z.I Z.nm.w Z.nm.s Z.nm.r Z.nm.n Z.ex Z.hK
 have gW:∀ n:Nat,cu P w K mg base (dg P w) (n + 5) _ _ ["told","deep"] (ny C CB n):=fun n=>by
  induction n with
  | zero=>exact uA U af J ag aa Z.cs Z.I Z.nm Z.ex jC aK aL aM 0 lP
  | succ n ih=>exact uA U af J ag aa Z.cs Z.I Z.nm Z.ex jC aK aL aM (n + 1) ih
 have gO:=A4 ah U ar T Z.ex (gW 8) (rZ ar T Z.cs Z.MK 7)
 have sf:mQ K mg _ _ _ _ _ _:=⟨aA,aB,aI⟩
 have gS:=mY (P:=P) (w:=w) (base:=base) Z.cs Z.MS sf T
 have gH:=vb (P:=P) (w:=w) (base:=base) Z.cs Z.MH Z.MS sf T
 have aO:=nV (P:=P) (w:=w) (base:=base) ae aF T
 have aP:=sD (P:=P) (w:=w) (base:=base) ak ae aF T
 have aQ:=zM (P:=P) (w:=w) (base:=base) aG ae Z.cs Z.MS T 4 (gS 4) ((aO 4).mono (by decide))
 have gR:=AQ (P:=P) (w:=w) (base:=base) ao aG ak Z.cs Z.MH T 4 (gH 4) ((aP 4).mono (by decide)) aQ
 exact AW D au aw aC aD ax ah ay ao aE Z.cs Z.MK T gO gR
theorem zJ{f fa:Addr}{oc kV doc pm cd ct:Value}{od an:Option Addr}{sl:Array (Option Value)}(X:K.In h)(G:h.Ns mainGlobals mg)(hfa:mg "law"=some (.ref fa))(a:W.nsIn K mainGlobals "law"=some (some (.ref f)))
  (l:K.lookup f=some ⟨oc,od,.func (W.fnOf "law" "law" (cP iu) (cL iu) (cv iu) .none kV doc pm an cd ct),sl⟩)(c:W.codeIn K cd "law"=true)(k:W.keepIn K (.ref f)=true)
  (ok:∀(fd:FuncData) (base:Heap),Df K mg "law" iu f fd->cu P w K mg base cC 15 f fd ["_law_script"] (kK K)):
  ∃ fd:FuncData,(∀(s:Shared) (v:Value),BindsTo s fd ⟨[v],[]⟩ [("_law_script",v)])/\∀ base:Heap,K.In base->base.Ns mainGlobals mg->cu P w K mg base cC 15 fa fd ["_law_script"] (kK K):=by
 have e:=hfa.symm.trans (W.mg_of X G a)
 cases e
 exact⟨W.fnOf "law" "law" (cP iu) (cL iu) (cv iu) .none kV doc pm an cd ct,fun s v=> .of_eq rfl,fun base _ _=>ok _ base ⟨dX l c k,W.mg_of X G a⟩⟩
end
theorem walk{l:W.OpenLaw}{q:Program}{loose:List Str}{XP:(Str->Option Value)->Heap->Prop}{YP:World->Heap->Prop}{d:DefRec}{K:Params->W.Frag}(hn:l.most=some 63)(hdf:d.params.defaults=[])
  (hY:∀(w:World) (h:Heap),YP w h->(K w.params).In h)
  (F:∀(w:World) (mg:Str->Option Value) (fa:Addr) (h:Heap),(K w.params).In h->h.Ns mainGlobals mg->mg d.name=some (.ref fa)->
   ∃ fd:FuncData,(∀(s:Shared) (u:Value),BindsTo s fd ⟨[u],[]⟩ [("_law_script",u)])/\∀ base:Heap,(K w.params).In base->base.Ns mainGlobals mg->cu l.prog w (K w.params) mg base cC 15 fa fd ["_law_script"] (kK (K w.params))):
  W.WalkO q loose XP YP l.row.toRowW d [] (fun f vs=>PySem.call f vs):=
 B1 (n:=63) (k:=15) (x:="_law_script") (sp:=kK) hn (by decide) hdf ⟨rfl,by decide,by decide⟩ hY F fun K H a ns J hb U=>⟨a,ns,rfl,U,J,fun _=>rfl⟩
end K14
open PySem PySem.W PyProof.Rows
set_option maxRecDepth 100000 in
set_option maxHeartbeats 0 in
theorem PySem.Challenge.cw_findhall_k14_spans_and_holds_holds : PySem.Challenge.rw_findhall_k14_spans_and_holds.Holds := by
 refine H14.head ?_
 k_fill
 refine K14.walk (l := PySem.Challenge.rw_findhall_k14_spans_and_holds) rfl rfl (fun w h Y => PySem.W.kIn_of Y) ?F
 case F =>
  intro w mg fa h J G aP
  have hC : K14.oH (L2.c7 J) mg := by
   dsimp only [L2.c7]
   refine' K14.wF J G ?hn ?ht ?aw ?pgw ?hdw ?pow ?saw ?mkw ?kcw ?haw ?hmw ?nWw ?nRw ?n1w ?n2w ?n3w ?aIw ?iIw ?lIw ?cIw ?kIw ?aSw ?iSw ?lSw ?cSw ?kSw ?aKw ?iKw ?lKw ?cKw ?kKw ?aLw ?iLw ?lLw ?cLw ?kLw ?as ?pgs ?hds ?pos ?sas ?mks ?kcs ?has ?hms ?nWs ?nRs ?n1s ?n2s ?n3s ?aIs ?iIs ?lIs ?cIs ?kIs ?aSs ?iSs ?lSs ?cSs ?kSs ?aKs ?iKs ?lKs ?cKs ?kKs ?aLs ?iLs ?lLs ?cLs ?kLs ?ar ?pgr ?hdr ?por ?sar ?mkr ?kcr ?har ?hmr ?nWr ?nRr ?n1r ?n2r ?n3r ?aIr ?iIr ?lIr ?cIr ?kIr ?aSr ?iSr ?lSr ?cSr ?kSr ?aKr ?iKr ?lKr ?cKr ?kKr ?aLr ?iLr ?lLr ?cLr ?kLr ?an ?pgn ?hdn ?pon ?san ?mkn ?kcn ?han ?hmn ?nWn ?nRn ?n1n ?n2n ?n3n ?aIn ?iIn ?lIn ?cIn ?kIn ?aSn ?iSn ?lSn ?cSn ?kSn ?aKn ?iKn ?lKn ?cKn ?kKn ?aLn ?iLn ?lLn ?cLn ?kLn ?ab ?pgb ?hdb ?pob ?sab ?mkb ?kcb ?hab ?hmb ?nWb ?nRb ?n1b ?n2b ?n3b ?aIb ?iIb ?lIb ?cIb ?kIb ?aSb ?iSb ?lSb ?cSb ?kSb ?aKb ?iKb ?lKb ?cKb ?kKb ?aLb ?iLb ?lLb ?cLb ?kLb ?ae ?pge ?hde ?poe ?sae ?mke ?kce ?hae ?hme ?nWe ?nRe ?n1e ?n2e ?n3e ?aIe ?iIe ?lIe ?cIe ?kIe ?aSe ?iSe ?lSe ?cSe ?kSe ?aKe ?iKe ?lKe ?cKe ?kKe ?aLe ?iLe ?lLe ?cLe ?kLe ?ao ?pgo ?hdo ?poo ?sao ?mko ?kco ?hao ?hmo ?nWo ?nRo ?n1o ?n2o ?n3o ?aIo ?iIo ?lIo ?cIo ?kIo ?aSo ?iSo ?lSo ?cSo ?kSo ?aKo ?iKo ?lKo ?cKo ?kKo ?aLo ?iLo ?lLo ?cLo ?kLo ?qLw ?qLs ?qLr ?qLn ?qLb ?qLe ?qLo ?aB ?xB
   (case hn => k_is)
   (case ht => k_is)
   (case aw => k_is)
   (case pgw => k_is)
   (case hdw => k_is)
   (case pow => k_is)
   (case saw => k_is)
   (case mkw => k_is)
   (case kcw => k_is)
   (case haw => k_is)
   (case hmw => k_is)
   (case nWw => k_is)
   (case nRw => k_is)
   (case n1w => k_is)
   (case n2w => k_is)
   (case n3w => k_is)
   (case aIw => k_is)
   (case iIw => k_is)
   (case lIw => k_is)
   (case cIw => k_is)
   (case kIw => k_is)
   (case aSw => k_is)
   (case iSw => k_is)
   (case lSw => k_is)
   (case cSw => k_is)
   (case kSw => k_is)
   (case aKw => k_is)
   (case iKw => k_is)
   (case lKw => k_is)
   (case cKw => k_is)
   (case kKw => k_is)
   (case aLw => k_is)
   (case iLw => k_is)
   (case lLw => k_is)
   (case cLw => k_is)
   (case kLw => k_is)
   (case as => k_is)
   (case pgs => k_is)
   (case hds => k_is)
   (case pos => k_is)
   (case sas => k_is)
   (case mks => k_is)
   (case kcs => k_is)
   (case has => k_is)
   (case hms => k_is)
   (case nWs => k_is)
   (case nRs => k_is)
   (case n1s => k_is)
   (case n2s => k_is)
   (case n3s => k_is)
   (case aIs => k_is)
   (case iIs => k_is)
   (case lIs => k_is)
   (case cIs => k_is)
   (case kIs => k_is)
   (case aSs => k_is)
   (case iSs => k_is)
   (case lSs => k_is)
   (case cSs => k_is)
   (case kSs => k_is)
   (case aKs => k_is)
   (case iKs => k_is)
   (case lKs => k_is)
   (case cKs => k_is)
   (case kKs => k_is)
   (case aLs => k_is)
   (case iLs => k_is)
   (case lLs => k_is)
   (case cLs => k_is)
   (case kLs => k_is)
   (case ar => k_is)
   (case pgr => k_is)
   (case hdr => k_is)
   (case por => k_is)
   (case sar => k_is)
   (case mkr => k_is)
   (case kcr => k_is)
   (case har => k_is)
   (case hmr => k_is)
   (case nWr => k_is)
   (case nRr => k_is)
   (case n1r => k_is)
   (case n2r => k_is)
   (case n3r => k_is)
   (case aIr => k_is)
   (case iIr => k_is)
   (case lIr => k_is)
   (case cIr => k_is)
   (case kIr => k_is)
   (case aSr => k_is)
   (case iSr => k_is)
   (case lSr => k_is)
   (case cSr => k_is)
   (case kSr => k_is)
   (case aKr => k_is)
   (case iKr => k_is)
   (case lKr => k_is)
   (case cKr => k_is)
   (case kKr => k_is)
   (case aLr => k_is)
   (case iLr => k_is)
   (case lLr => k_is)
   (case cLr => k_is)
   (case kLr => k_is)
   (case an => k_is)
   (case pgn => k_is)
   (case hdn => k_is)
   (case pon => k_is)
   (case san => k_is)
   (case mkn => k_is)
   (case kcn => k_is)
   (case han => k_is)
   (case hmn => k_is)
   (case nWn => k_is)
   (case nRn => k_is)
   (case n1n => k_is)
   (case n2n => k_is)
   (case n3n => k_is)
   (case aIn => k_is)
   (case iIn => k_is)
   (case lIn => k_is)
   (case cIn => k_is)
   (case kIn => k_is)
   (case aSn => k_is)
   (case iSn => k_is)
   (case lSn => k_is)
   (case cSn => k_is)
   (case kSn => k_is)
   (case aKn => k_is)
   (case iKn => k_is)
   (case lKn => k_is)
   (case cKn => k_is)
   (case kKn => k_is)
   (case aLn => k_is)
   (case iLn => k_is)
   (case lLn => k_is)
   (case cLn => k_is)
   (case kLn => k_is)
   (case ab => k_is)
   (case pgb => k_is)
   (case hdb => k_is)
   (case pob => k_is)
   (case sab => k_is)
   (case mkb => k_is)
   (case kcb => k_is)
   (case hab => k_is)
   (case hmb => k_is)
   (case nWb => k_is)
   (case nRb => k_is)
   (case n1b => k_is)
   (case n2b => k_is)
   (case n3b => k_is)
   (case aIb => k_is)
   (case iIb => k_is)
   (case lIb => k_is)
   (case cIb => k_is)
   (case kIb => k_is)
   (case aSb => k_is)
   (case iSb => k_is)
   (case lSb => k_is)
   (case cSb => k_is)
   (case kSb => k_is)
   (case aKb => k_is)
   (case iKb => k_is)
   (case lKb => k_is)
   (case cKb => k_is)
   (case kKb => k_is)
   (case aLb => k_is)
   (case iLb => k_is)
   (case lLb => k_is)
   (case cLb => k_is)
   (case kLb => k_is)
   (case ae => k_is)
   (case pge => k_is)
   (case hde => k_is)
   (case poe => k_is)
   (case sae => k_is)
   (case mke => k_is)
   (case kce => k_is)
   (case hae => k_is)
   (case hme => k_is)
   (case nWe => k_is)
   (case nRe => k_is)
   (case n1e => k_is)
   (case n2e => k_is)
   (case n3e => k_is)
   (case aIe => k_is)
   (case iIe => k_is)
   (case lIe => k_is)
   (case cIe => k_is)
   (case kIe => k_is)
   (case aSe => k_is)
   (case iSe => k_is)
   (case lSe => k_is)
   (case cSe => k_is)
   (case kSe => k_is)
   (case aKe => k_is)
   (case iKe => k_is)
   (case lKe => k_is)
   (case cKe => k_is)
   (case kKe => k_is)
   (case aLe => k_is)
   (case iLe => k_is)
   (case lLe => k_is)
   (case cLe => k_is)
   (case kLe => k_is)
   (case ao => k_is)
   (case pgo => k_is)
   (case hdo => k_is)
   (case poo => k_is)
   (case sao => k_is)
   (case mko => k_is)
   (case kco => k_is)
   (case hao => k_is)
   (case hmo => k_is)
   (case nWo => k_is)
   (case nRo => k_is)
   (case n1o => k_is)
   (case n2o => k_is)
   (case n3o => k_is)
   (case aIo => k_is)
   (case iIo => k_is)
   (case lIo => k_is)
   (case cIo => k_is)
   (case kIo => k_is)
   (case aSo => k_is)
   (case iSo => k_is)
   (case lSo => k_is)
   (case cSo => k_is)
   (case kSo => k_is)
   (case aKo => k_is)
   (case iKo => k_is)
   (case lKo => k_is)
   (case cKo => k_is)
   (case kKo => k_is)
   (case aLo => k_is)
   (case iLo => k_is)
   (case lLo => k_is)
   (case cLo => k_is)
   (case kLo => k_is)
   (case qLw => kit_is)
   (case qLs => kit_is)
   (case qLr => kit_is)
   (case qLn => kit_is)
   (case qLb => kit_is)
   (case qLe => kit_is)
   (case qLo => kit_is)
   (case aB => k_is)
   (case xB => k_exc)
  have T : K14.Txt mg := by
   refine' K14.wh J G ?n0 ?n1 ?n2 ?n3 ?n4 ?n5 ?n6 ?n7 ?n8 ?n9 ?n10 ?n11 ?n12 ?n13 ?n14 ?n15 ?c0 ?c1 ?c2 ?c3 ?c4 ?c5 ?c6
   (case n0 => k_is)
   (case n1 => k_is)
   (case n2 => k_is)
   (case n3 => k_is)
   (case n4 => k_is)
   (case n5 => k_is)
   (case n6 => k_is)
   (case n7 => k_is)
   (case n8 => k_is)
   (case n9 => k_is)
   (case n10 => k_is)
   (case n11 => k_is)
   (case n12 => k_is)
   (case n13 => k_is)
   (case n14 => k_is)
   (case n15 => k_is)
   (case c0 => k_is)
   (case c1 => k_is)
   (case c2 => k_is)
   (case c3 => k_is)
   (case c4 => k_is)
   (case c5 => k_is)
   (case c6 => k_is)
  have KL : ∃ d, mg "TOLD_LENGTHS" = some (.ref d) /\ L2.KD PySem.Challenge.rw_findhall_k14_spans_and_holds.prog w (L2.c7 J) d K14.eS := by
   dsimp only [L2.c7]
   refine' K14.xN _ J G ?a ?ns ?l
   (case a => k_is)
   (case ns => decide)
   (case l => k_is)
  have af : ∃ f fd, Gn.Df (L2.c7 J) mg "is_whole" K14.lx f fd := by
   dsimp only [L2.c7]
   refine' Gn.eF J G ?a ?l ?c ?k
   (case a => k_is); (case l => k_is); (case c => k_is); (case k => k_is)
  have aL : ∃ f fd, Gn.Df (L2.c7 J) mg "is_small_row" K14.ku f fd := by
   dsimp only [L2.c7]
   refine' Gn.eF J G ?a ?l ?c ?k
   (case a => k_is); (case l => k_is); (case c => k_is); (case k => k_is)
  have aC : ∃ f fd, Gn.Df (L2.c7 J) mg "is_word" K14.lz f fd := by
   dsimp only [L2.c7]
   refine' Gn.eF J G ?a ?l ?c ?k
   (case a => k_is); (case l => k_is); (case c => k_is); (case k => k_is)
  have aD : ∃ f fd, Gn.Df (L2.c7 J) mg "each_once" K14.i8 f fd := by
   dsimp only [L2.c7]
   refine' Gn.eF J G ?a ?l ?c ?k
   (case a => k_is); (case l => k_is); (case c => k_is); (case k => k_is)
  have aE : ∃ f fd, Gn.Df (L2.c7 J) mg "ends_by_begin" K14.jW f fd := by
   dsimp only [L2.c7]
   refine' Gn.eF J G ?a ?l ?c ?k
   (case a => k_is); (case l => k_is); (case c => k_is); (case k => k_is)
  have aM : ∃ f fd, Gn.Df (L2.c7 J) mg "spans_led_on" K14.jK f fd := by
   dsimp only [L2.c7]
   refine' Gn.eF J G ?a ?l ?c ?k
   (case a => k_is); (case l => k_is); (case c => k_is); (case k => k_is)
  have aF : ∃ f fd, Gn.Df (L2.c7 J) mg "need_name" K14.k8 f fd := by
   dsimp only [L2.c7]
   refine' Gn.eF J G ?a ?l ?c ?k
   (case a => k_is); (case l => k_is); (case c => k_is); (case k => k_is)
  have ag : ∃ f fd, Gn.Df (L2.c7 J) mg "asked_word" K14.kD f fd := by
   dsimp only [L2.c7]
   refine' Gn.eF J G ?a ?l ?c ?k
   (case a => k_is); (case l => k_is); (case c => k_is); (case k => k_is)
  have aG : ∃ f fd, Gn.Df (L2.c7 J) mg "asked_row" K14.kM f fd := by
   dsimp only [L2.c7]
   refine' Gn.eF J G ?a ?l ?c ?k
   (case a => k_is); (case l => k_is); (case c => k_is); (case k => k_is)
  have ah : ∃ f fd, Gn.Df (L2.c7 J) mg "asked_near" K14.lL f fd := by
   dsimp only [L2.c7]
   refine' Gn.eF J G ?a ?l ?c ?k
   (case a => k_is); (case l => k_is); (case c => k_is); (case k => k_is)
  have U : ∃ f fd, Gn.Df (L2.c7 J) mg "ask_within" K14.lg f fd := by
   dsimp only [L2.c7]
   refine' Gn.eF J G ?a ?l ?c ?k
   (case a => k_is); (case l => k_is); (case c => k_is); (case k => k_is)
  have aH : ∃ f fd, Gn.Df (L2.c7 J) mg "many_in" K14.jZ f fd := by
   dsimp only [L2.c7]
   refine' Gn.eF J G ?a ?l ?c ?k
   (case a => k_is); (case l => k_is); (case c => k_is); (case k => k_is)
  have ak : ∃ f fd, Gn.Df (L2.c7 J) mg "ask_of" K14.lj f fd := by
   dsimp only [L2.c7]
   refine' Gn.eF J G ?a ?l ?c ?k
   (case a => k_is); (case l => k_is); (case c => k_is); (case k => k_is)
  have aq : ∃ f fd, Gn.Df (L2.c7 J) mg "_law_mixed" K14.iq f fd := by
   dsimp only [L2.c7]
   refine' Gn.eF J G ?a ?l ?c ?k
   (case a => k_is); (case l => k_is); (case c => k_is); (case k => k_is)
  have aa : ∃ f fd, Gn.Df (L2.c7 J) mg "_law_number" K14.jv f fd := by
   dsimp only [L2.c7]
   refine' Gn.eF J G ?a ?l ?c ?k
   (case a => k_is); (case l => k_is); (case c => k_is); (case k => k_is)
  have aI : ∃ f fd, Gn.Df (L2.c7 J) mg "_law_menu" K14.jA f fd := by
   dsimp only [L2.c7]
   refine' Gn.eF J G ?a ?l ?c ?k
   (case a => k_is); (case l => k_is); (case c => k_is); (case k => k_is)
  have au : ∃ f fd, Gn.Df (L2.c7 J) mg "_law_plain" K14.jc f fd := by
   dsimp only [L2.c7]
   refine' Gn.eF J G ?a ?l ?c ?k
   (case a => k_is); (case l => k_is); (case c => k_is); (case k => k_is)
  have aJ : ∃ f fd, Gn.Df (L2.c7 J) mg "_law_tree" K14.kB f fd := by
   dsimp only [L2.c7]
   refine' Gn.eF J G ?a ?l ?c ?k
   (case a => k_is); (case l => k_is); (case c => k_is); (case k => k_is)
  have aK : ∃ f fd, Gn.Df (L2.c7 J) mg "_law_kids" K14.lF f fd := by
   dsimp only [L2.c7]
   refine' Gn.eF J G ?a ?l ?c ?k
   (case a => k_is); (case l => k_is); (case c => k_is); (case k => k_is)
  have aN : ∃ f fd, Gn.Df (L2.c7 J) mg "_law_plain_spans" K14.jM f fd := by
   dsimp only [L2.c7]
   refine' Gn.eF J G ?a ?l ?c ?k
   (case a => k_is); (case l => k_is); (case c => k_is); (case k => k_is)
  have av : ∃ f fd, Gn.Df (L2.c7 J) mg "_law_spans" K14.jk f fd := by
   dsimp only [L2.c7]
   refine' Gn.eF J G ?a ?l ?c ?k
   (case a => k_is); (case l => k_is); (case c => k_is); (case k => k_is)
  have ax : ∃ f fd, Gn.Df (L2.c7 J) mg "_law_holds" K14.kG f fd := by
   dsimp only [L2.c7]
   refine' Gn.eF J G ?a ?l ?c ?k
   (case a => k_is); (case l => k_is); (case c => k_is); (case k => k_is)
  have aO : ∃ f fd, Gn.Df (L2.c7 J) mg "_law_spans_right" K14.kb f fd := by
   dsimp only [L2.c7]
   refine' Gn.eF J G ?a ?l ?c ?k
   (case a => k_is); (case l => k_is); (case c => k_is); (case k => k_is)
  have ay : ∃ f fd, Gn.Df (L2.c7 J) mg "_law_right" K14.kX f fd := by
   dsimp only [L2.c7]
   refine' Gn.eF J G ?a ?l ?c ?k
   (case a => k_is); (case l => k_is); (case c => k_is); (case k => k_is)
  have aA : ∃ f fd, Gn.Df (L2.c7 J) mg "_law_drawn_words" K14.jQ f fd := by
   dsimp only [L2.c7]
   refine' Gn.eF J G ?a ?l ?c ?k
   (case a => k_is); (case l => k_is); (case c => k_is); (case k => k_is)
  refine' K14.zJ J G aP ?a ?l ?c ?k fun fd base D => K14.xc T hC KL af aL aC aD aE aM aF ag aG ah U aH ak aq aa aI au aJ aK aN av ax aO ay aA D
  (case a => k_is); (case l => k_is); (case c => k_is); (case k => k_is)
