import PyProof.Rows.All
import Wide.All
import OpenK.AllK
import Wide.FinOn
import PyProof.EqAt
import PyProof.EqKinds
import PyProof.TupleCall
import Lean
import PySem.Challenge.RW_findhall_k11_asks_told
noncomputable section
set_option Elab.async false
set_option linter.all false
set_option maxRecDepth 100000
set_option maxHeartbeats 4000000
namespace H11
open PySem PySem.W PyProof.Rows
abbrev pQ : Program := PySem.Challenge.pw_findhall_k11_asks_told
def vQ : Program := PySem.W.view pQ [0, 2, 3, 4, 5, 6, 7, 8, 9, 10, 11, 12, 13, 14, 15, 17, 18, 19, 21, 22, 24, 25, 26, 27, 28, 30, 31, 32, 33, 34, 35, 36, 37, 38, 39, 40, 41, 42, 43, 44, 46, 47, 48, 49, 50, 51, 52, 53, 54, 55, 56, 57, 58, 59, 60]
def lQ : List Str := [Str.ofString "TOLD_LENGTHS"]
def xQ (s : Shared) : Bool := xlAt vQ [] s && recOk (RowW.records PySem.Challenge.rw_findhall_k11_asks_told.row.toRowW) s
def sQ (w : World) (os : OsState) : Shared := ⟨boot_heap w.params, Array.mk [], boot_drawn, boot_toks, os⟩
def topRunT (tb : String -> Option Builtin) (p : Program) (w : World) (n₀ : Nat) (ann : Option Value) : Nat -> SharedT -> Thread -> Option SharedT
 | 0, _, _ => none
 | n + 1, s, t => match through t with
  | true => some s
  | false => match stepOk n₀ ann t with
   | false => none
   | true => match stepT (denote tb) p w s t with
    | some (s', t') => topRunT tb p w n₀ ann n s' t'
    | none => none
theorem topRun_of {tb : String -> Option Builtin} {p : Program} {w : World} {n₀ : Nat} {ann : Option Value} : ∀ {n : Nat} {s s' : SharedT} {t : Thread}, topRunT tb p w n₀ ann n s t = some s' -> topRun tb p w n₀ ann n s.abs t = some s'.abs
 | 0, _, _, _, h => by cases h
 | n + 1, s, s', t, h => by
  unfold topRunT at h
  unfold topRun
  cases he : through t with
  | true => rw [he] at h; cases h; rfl
  | false =>
   rw [he] at h
   cases hk : stepOk n₀ ann t with
   | false => rw [hk] at h; cases h
   | true =>
    rw [hk] at h
    cases hs : stepT (denote tb) p w s t with
    | none => rw [hs] at h; cases h
    | some r => obtain ⟨s₂, t₂⟩ := r; rw [hs] at h; rw [stepT_spec hs]; exact topRun_of h
def buildT : List Obj -> BT -> Nat -> Option BT
 | [], t, _ => some t
 | o :: r, t, n => match ((t.ins n o).get n).isSome with
  | true => buildT r (t.ins n o) (n + 1)
  | false => none
theorem build_of : ∀ {l : List Obj} {t t' : BT} {n : Nat} (life : Life), buildT l t n = some t' -> absHeap t' (n + l.length) life = ⟨(absHeap t n life).objs ++ l.toArray, life⟩
 | [], t, t', n, life, h => by
  cases h
  show absHeap t n life = _
  unfold absHeap
  simp
 | o :: r, t, t', n, life, h => by
  unfold buildT at h
  cases hs : ((t.ins n o).get n).isSome with
  | false => rw [hs] at h; cases h
  | true =>
   rw [hs] at h
   have e := build_of life h
   rw [show n + (o :: r).length = n + 1 + r.length by rw [List.length_cons]; omega, e, absHeap_ins hs]
   show Heap.mk _ _ = Heap.mk _ _
   congr 1
   show (absHeap t n life).objs.push o ++ r.toArray = (absHeap t n life).objs ++ (o :: r).toArray
   apply Array.ext'
   simp
def annQ (w : World) (os : OsState) : Option Value := (sQ w os).heap.nsMap mainGlobals (Str.ofString "__annotations__")
def topQ (w : World) (os : OsState) : Option Shared := match buildT (boot_heap w.params).objs.toList .nil 0 with
 | none => none
 | some t => (topRunT treeTable pQ w (boot_heap w.params).objs.size (annQ w os) 20000 ⟨t, (boot_heap w.params).objs.size, (boot_heap w.params).life, Array.mk [], boot_drawn, boot_toks, os⟩ (topStub pQ)).map SharedT.abs
theorem topQ_run {w : World} {os : OsState} {s : Shared} (h : topQ w os = some s) : topRun treeTable pQ w (sQ w os).heap.objs.size ((sQ w os).heap.nsMap mainGlobals (Str.ofString "__annotations__")) 20000 (sQ w os) (topStub pQ) = some s := by
 unfold topQ at h
 cases hb : buildT (boot_heap w.params).objs.toList .nil 0 with
 | none => rw [hb] at h; cases h
 | some t =>
  rw [hb] at h
  obtain ⟨x, hx, e⟩ := Option.map_eq_some_iff.mp h
  have q := topRun_of hx
  have a : absHeap t (boot_heap w.params).objs.size (boot_heap w.params).life = boot_heap w.params := by
   have := build_of (boot_heap w.params).life hb
   rw [Nat.zero_add, Array.length_toList] at this
   rw [this]
   show Heap.mk _ _ = _
   have e0 : (absHeap .nil 0 (boot_heap w.params).life).objs = #[] := by unfold absHeap BT.list; simp
   rw [e0]
   simp
  have es : SharedT.abs ⟨t, (boot_heap w.params).objs.size, (boot_heap w.params).life, Array.mk [], boot_drawn, boot_toks, os⟩ = sQ w os := by
   unfold SharedT.abs sQ
   rw [a]
  rw [es] at q
  rw [<- e]
  exact q
def okQ (h : Heap) (s : Shared) : Bool := staticsOk (importedModules pQ.main.body) h s.heap && namesBound pQ s.heap && gensDone s && laidKept h s.heap
def seenQ (s : Shared) := openSeen vQ lQ (importedModules pQ.main.body) xQ true s
def goodQ := openGood vQ lQ
def ok9 (w : World) (os : OsState) (s : Shared) : Bool := okQ (boot_heap w.params) s && ((sQ w os).heap.isNs mainGlobals && (sQ w os).gens.size == 0)
def seenA (s : Shared) := (fun x => (x.1, x.2.1, x.2.2.1, x.2.2.2.1, x.2.2.2.2.1, x.2.2.2.2.2.1, x.2.2.2.2.2.2.1, x.2.2.2.2.2.2.2.1, x.2.2.2.2.2.2.2.2)) (seenQ s)
def goodA := (true, (fun x => (x.1, x.2.1, x.2.2.1, x.2.2.2.1, x.2.2.2.2.1, x.2.2.2.2.2.1, x.2.2.2.2.2.2.1, x.2.2.2.2.2.2.2.1, x.2.2.2.2.2.2.2.2)) goodQ)
def runA (w : World) (os : OsState) := (topQ w os).map fun s => (ok9 w os s, seenA s)
def runK (as : List Nat) (w : World) (os : OsState) := (topQ w os).map fun s => as.map s.heap.get?
def _root_.PySem.W.Fast.tw14598715356260435866 := PySem.W.boot_o_0
theorem _root_.PySem.W.Fast.te14598715356260435866 : PySem.W.boot_o_0 = PySem.W.Fast.tw14598715356260435866 := rfl
def _root_.PySem.W.Fast.tw17194930385532584146 := PySem.Challenge.pw_findhall_k11_asks_told
theorem _root_.PySem.W.Fast.te17194930385532584146 : PySem.Challenge.pw_findhall_k11_asks_told = PySem.W.Fast.tw17194930385532584146 := rfl
lay_quick runA goodA
theorem hA0 : ∀ w os, PySem.W.Fast.tw3106751407684094237 (World.withFollow w "special-get-raises" false) os = some PySem.W.Fast.tw10176440285019258373 := fun w os => by kernel_rfl
theorem hA1 : ∀ w os, PySem.W.Fast.tw3106751407684094237 (World.withFollow w "special-get-raises" true) os = some PySem.W.Fast.tw10176440285019258373 := fun w os => by kernel_rfl
lay_quick runK
theorem rA (w : World) (os : OsState) : runA w os = some goodA := by
 have k : ∀ b, runA (World.withFollow w "special-get-raises" b) os = some goodA := fun b => by
  rw [PySem.W.Fast.te3106751407684094237, PySem.W.Fast.te10176440285019258373]
  cases b
  ·exact hA0 w os
  ·exact hA1 w os
 have := k (w.params.followText "special-get-raises")
 rwa [World.withFollow_self] at this
theorem spl {as : List Nat} {V : World -> List (Option Obj)} {w : World} {os : OsState} (k : ∀ b, PySem.W.Fast.tw2445092450844499628 as (World.withFollow w "special-get-raises" b) os = some (V (World.withFollow w "special-get-raises" b))) : PySem.W.Fast.tw2445092450844499628 as w os = some (V w) := by
 have := k (w.params.followText "special-get-raises")
 rwa [World.withFollow_self] at this
theorem topFrom_some {tb : String -> Option Builtin} {p : Program} {w : World} {N : Nat} {s0 s : Shared} (h1 : (s0.heap.isNs mainGlobals && s0.gens.size == 0) = true) (h2 : topRun tb p w s0.heap.objs.size (s0.heap.nsMap mainGlobals (Str.ofString "__annotations__")) N s0 (topStub p) = some s)
  (h3 : (staticsOk (importedModules p.main.body) s0.heap s.heap && namesBound p s.heap && gensDone s && laidKept s0.heap s.heap) = true) : topFrom tb p w N s0 = some s := by
 unfold topFrom
 rw [h1]
 dsimp only
 rw [h2]
 dsimp only [Option.bind]
 rw [h3]
theorem openEnds_some {tb : String -> Option Builtin} {p : Program} {w : World} {N : Nat} {s0 s : Shared} (a : fencedOpening tb p w N = some s0) (b : topFrom tb p w N s0 = some s) : openEnds tb p w N = some s := by
 unfold openEnds
 rw [a]
 exact b
theorem map_at {α β : Type} {o : Option α} {s : α} {f : α -> β} {b : β} (h : o = some s) (e : o.map f = some b) : f s = b := by
 subst h
 exact Option.some.inj e
theorem map_some' {α β : Type} {o : Option α} {f : α -> β} {b : β} (e : o.map f = some b) : ∃ s, o = some s := by
 cases o with
 | none => cases e
 | some s => exact ⟨s, rfl⟩
theorem pair_of {α β σ : Type} {f : σ -> α} {g : σ -> β} {o : Option σ} {s : σ} {a : α} {b : β} (e : o = some s) (h1 : f s = a) (h2 : g s = b) : o.map (fun s => (f s, g s)) = some (a, b) := by
 subst e
 subst h1
 subst h2
 rfl
theorem sh_eq {s : Shared} {h : Heap} {g : Array GenState} {d : Drawn} {k : Nat} (a : s.heap = h) (b : s.gens = g) (c : s.drawn = d) (e : s.toks = k) : s = ⟨h, g, d, k, s.os⟩ := by
 cases s
 cases a
 cases b
 cases c
 cases e
 rfl
theorem opQ : opening pQ = plainProg pQ.main.scope.names := by kernel_rfl
theorem feQ (s : Shared) : fenceModules? pQ s = some s := by kernel_rfl
theorem seen_eq {s : Shared} (aA : seenA s = goodA.2) : seenQ s = goodQ :=
 Prod.ext (congrArg (fun y => y.1) aA) (Prod.ext (congrArg (fun y => y.2.1) aA) (Prod.ext (congrArg (fun y => y.2.2.1) aA) (Prod.ext (congrArg (fun y => y.2.2.2.1) aA) (Prod.ext (congrArg (fun y => y.2.2.2.2.1) aA) (Prod.ext (congrArg (fun y => y.2.2.2.2.2.1) aA) (Prod.ext (congrArg (fun y => y.2.2.2.2.2.2.1) aA) (Prod.ext (congrArg (fun y => y.2.2.2.2.2.2.2.1) aA) ((congrArg (fun y => y.2.2.2.2.2.2.2.2) aA)))))))))
theorem end_of {as : List Nat} {V : World -> List (Option Obj)} {w : World} {os : OsState} {s : Shared} (ht : topQ w os = some s) (hs0 : fencedOpening treeTable pQ w 20000 = some (sQ w os)) (e : runK as w os = some (V w)) :
  openEnds treeTable pQ w 20000 = some s /\ seenQ s = goodQ /\ as.map s.heap.get? = V w := by
 have d0 := map_at (f := fun (s : Shared) => (ok9 w os s, seenA s)) ht (rA w os)
 have d1 : ok9 w os s = true := congrArg (fun y => y.1) d0
 have dA : seenA s = goodA.2 := congrArg (fun y => y.2) d0
 obtain ⟨d2, d3⟩ := Bool.and_eq_true_iff.mp d1
 exact ⟨openEnds_some hs0 (topFrom_some d3 (topQ_run ht) d2), seen_eq dA , map_at (f := fun (s : Shared) => as.map s.heap.get?) ht e⟩
theorem hl_of {as : List Nat} {V : World -> List (Option Obj)} (h : ∀ w os, PySem.W.Fast.tw2445092450844499628 as w os = some (V w)) : LeftO pQ vQ lQ xQ (fun s => as.map s.heap.get?) V 20000 := fun w => by
 obtain ⟨s0, hs0, hv⟩ := Option.map_eq_some_iff.mp (boot_open (p := pQ) (N := 20000) opQ rfl feQ w)
 have es : s0 = sQ w s0.os := sh_eq (congrArg (fun x => x.1) hv) (congrArg (fun x => x.2.1) hv) (congrArg (fun x => x.2.2.1) hv) (congrArg (fun x => x.2.2.2) hv)
 rw [es] at hs0
 obtain ⟨s, ht⟩ := map_some' (rA w s0.os)
 have e : runK as w s0.os = some (V w) := by rw [PySem.W.Fast.te2445092450844499628]; exact h w s0.os
 obtain ⟨e1, e2, e3⟩ := end_of ht hs0 e
 exact pair_of (f := seenQ) (g := fun s => as.map s.heap.get?) (a := goodQ) e1 e2 e3
theorem dry {p : Prop} (_ : True) (h : p) : p := h
end H11
section
open PySem PySem.W PyProof.Rows
local macro_rules | `(tactic| o_head $H:term) => `(tactic| refine H11.dry ?hw ?hc)
local macro_rules | `(tactic| w_witness2) => `(tactic| trivial)
open_top H11.pre for PySem.Challenge.rw_findhall_k11_asks_told
end
namespace H11
open PySem PySem.W PyProof.Rows
def asQ : List Addr := [2, 3, 15, 17, 18, 20, 21, 22, 29, 30, 31, 32, 35, 42, 43, 44, 47, 54, 55, 56, 59, 66, 67, 68, 71, 78, 79, 80, 83, 90, 91, 92, 95, 102, 103, 104, 107, 114, 115, 116, 119, 126, 127, 128, 131, 138, 139, 140, 143, 150, 151, 152, 155, 162, 163, 164, 167, 174, 176, 177, 179, 180, 181, 182, 183, 186, 193, 195, 196, 198, 199, 200, 201, 202, 205, 207, 208, 210, 211, 212, 215, 216, 217, 219, 220, 222, 223, 224, 232, 234, 235, 237, 238, 239, 241, 242, 244, 245, 246, 248, 249, 251, 252, 253, 254, 255, 256, 257, 260, 267, 269, 270, 272, 273, 274, 276, 277, 279, 280, 281, 283, 284, 286, 287, 288, 290, 291, 293, 294, 295, 296, 297, 300, 307, 309, 310, 312, 313, 314, 316, 317, 319, 320, 321, 323, 324, 326, 327, 328, 330, 331, 333, 334, 335, 336, 337, 340, 347, 349, 350, 352, 353, 354, 356, 357, 359, 360, 361, 363, 364, 366, 367, 368, 370, 371, 373, 374, 375, 376, 377, 380, 387, 389, 390, 392, 393, 394, 396, 397, 399, 400, 401, 403, 404, 406, 407, 408, 410, 411, 413, 414, 415, 417, 418, 420, 421, 422, 423, 424, 427, 434, 436, 437, 439, 440, 441, 443, 444, 446, 447, 448, 450, 451, 453, 454, 455, 457, 458, 460, 461, 462, 464, 465, 467, 468, 469, 471, 472, 474, 475, 476, 478, 479, 481, 482, 483, 484, 485, 488, 495, 497, 498, 500, 501, 502, 504, 505, 507, 508, 509, 511, 512, 514, 515, 516, 518, 519, 521, 522, 523, 525, 526, 528, 529, 530, 532, 533, 535, 536, 537, 539, 540, 542, 543, 544, 545, 546, 549, 556, 558, 559, 561, 562, 563, 565, 566, 568, 569, 570, 572, 573, 575, 576, 577, 579, 580, 582, 583, 584, 586, 587, 589, 590, 591, 593, 594, 596, 597, 598, 600, 601, 603, 604, 605, 606, 607, 610, 612, 613, 615, 616, 617, 619, 620, 622, 623, 624, 627, 628, 629, 631, 632, 634, 635, 636, 638, 639, 641, 642, 643, 646, 647, 648, 650, 651, 653, 654, 655, 657, 658, 660, 661, 662, 664, 665, 667, 668, 669, 672, 673, 674, 677, 678, 679, 681, 682, 684, 685, 686, 688, 689, 691, 692, 693, 695, 696, 698, 699, 700, 703, 704, 705, 708, 709, 710, 712, 713, 715, 716, 717, 719, 720, 722, 723, 724, 726, 727, 729, 730, 731, 733, 734, 736, 737, 738, 740, 741, 743, 744, 745, 748, 749]
noncomputable abbrev hkQ : Hook := kHook H11.pre.heap_39 asQ (fun _ => by kernel_rfl)
theorem kF : ∀ w os, PySem.W.Fast.tw2445092450844499628 asQ (World.withFollow w "special-get-raises" false) os = some (Hook.val hkQ (World.withFollow w "special-get-raises" false)) := fun w os => by kernel_rfl
theorem kT : ∀ w os, PySem.W.Fast.tw2445092450844499628 asQ (World.withFollow w "special-get-raises" true) os = some (Hook.val hkQ (World.withFollow w "special-get-raises" true)) := fun w os => by kernel_rfl
theorem kB (w : World) (os : OsState) : ∀ b, PySem.W.Fast.tw2445092450844499628 asQ (World.withFollow w "special-get-raises" b) os = some (Hook.val hkQ (World.withFollow w "special-get-raises" b))
 | false => kF w os
 | true => kT w os
end H11
section
open PySem PySem.W PyProof.Rows
local macro_rules | `(tactic| o_head $H:term) => `(tactic|
 refine holds_open
  (q := H11.vQ) (loose := H11.lQ)
  (Xt := H11.xQ) (XP := XL H11.vQ [])
  (Yf := Hook.obs H11.hkQ)
  (Ya := Hook.val H11.hkQ) (YP := Hook.says H11.hkQ)
  (N := 20000)
  (H11.hl_of fun w os => H11.spl (H11.kB w os))
  (Hook.of H11.hkQ) (Hook.keeps H11.hkQ)
  (fun s e => xl_of s (Bool.and_eq_true_iff.mp e).1)
  XL.keeps rfl rfl rfl
  (fun s e => recFacts_of (Bool.and_eq_true_iff.mp e).2)
  rfl
  (by first | assumption | decide +kernel)
  (by decide +kernel)
  ⟨rfl, rfl, rfl, rfl, rfl, by decide +kernel⟩
  ?hw ?hc)
open_top H11.head for PySem.Challenge.rw_findhall_k11_asks_told
end
namespace L2
open PySem PySem.Spec PyProof.Rows
noncomputable abbrev Key := Sum Int Str
noncomputable def keyIs : Key -> Value -> Bool
 | .inl k, v => Value.isInt k v
 | .inr x, v => Value.isStrOf x v
noncomputable def keyH (w : World) : Key -> Int
 | .inl k => hashInt k
 | .inr x => hashStr w x
theorem keyIs_shape : ∀ {k : Key} {v : Value}, keyIs k v = true -> (∃ i t, k = Sum.inl i /\ v = Value.int i t) \/ (∃ x t, k = Sum.inr x /\ v = Value.str x t)
 | .inl i, v, h => by
  obtain ⟨t, e⟩ := Value.isInt_shape (k := i) (v := v) h
  exact .inl ⟨i, t, rfl, e⟩
 | .inr x, v, h => by
  obtain ⟨t, e⟩ := Value.isStrOf_shape (x := x) (v := v) h
  exact .inr ⟨x, t, rfl, e⟩
theorem keyIs_int (i : Int) (t : Tok) : keyIs (.inl i) (.int i t) = true := by simp [keyIs, Value.isInt]
theorem keyIs_str (x : Str) (t : Tok) : keyIs (.inr x) (.str x t) = true := by simp [keyIs, Value.isStrOf]
theorem key_ll (a b : Int) : decide ((Sum.inl a : Key) = Sum.inl b) = (a == b) := by
 by_cases e : a = b
 ·subst e; simp
 ·have h : ¬ (Sum.inl a : Key) = Sum.inl b := fun q => e (Sum.inl.inj q)
  rw [decide_eq_false h]
  exact (beq_eq_false_iff_ne.mpr e).symm
theorem key_rr (a b : Str) : decide ((Sum.inr a : Key) = Sum.inr b) = decide (a = b) := by
 by_cases e : a = b
 ·subst e; simp
 ·have h : ¬ (Sum.inr a : Key) = Sum.inr b := fun q => e (Sum.inr.inj q)
  rw [decide_eq_false h, decide_eq_false e]
theorem key_lr (a : Int) (b : Str) : decide ((Sum.inl a : Key) = Sum.inr b) = false := decide_eq_false (fun q => nomatch q)
theorem key_rl (a : Str) (b : Int) : decide ((Sum.inr a : Key) = Sum.inl b) = false := decide_eq_false (fun q => nomatch q)
noncomputable def mixKind (prog : Program) (w : World) : PySem.KeyKind prog w Key where
 is := keyIs
 hash := keyH w
 inj := fun v a b ha hb => by
  rcases keyIs_shape ha with ⟨i, t, rfl, rfl⟩ | ⟨x, t, rfl, rfl⟩
  ·rcases keyIs_shape hb with ⟨j, u, rfl, e⟩ | ⟨y, u, rfl, e⟩
   ·injection e with e1 _; rw [e1]
   ·exact nomatch e
  ·rcases keyIs_shape hb with ⟨j, u, rfl, e⟩ | ⟨y, u, rfl, e⟩
   ·exact nomatch e
   ·injection e with e1 _; rw [e1]
 byValue := fun k v h => by
  rcases keyIs_shape h with ⟨i, t, rfl, rfl⟩ | ⟨x, t, rfl, rfl⟩ <;> rfl
 pyHash := fun hv h => by
  rcases keyIs_shape hv with ⟨i, t, rfl, rfl⟩ | ⟨x, t, rfl, rfl⟩
  ·exact wpAny_pyHash_int h
  ·exact wpAny_pyHash_str h
 eqBool := fun hu hv h => by
  rcases keyIs_shape hu with ⟨i, t, rfl, rfl⟩ | ⟨x, t, rfl, rfl⟩
  ·rcases keyIs_shape hv with ⟨j, u, rfl, rfl⟩ | ⟨y, u, rfl, rfl⟩
   ·rw [key_ll] at h; exact wpAny_eqBool_int h
   ·rw [key_lr] at h; exact SeqAt.EqAt.int_str i t y u _ _ _ _ h
  ·rcases keyIs_shape hv with ⟨j, u, rfl, rfl⟩ | ⟨y, u, rfl, rfl⟩
   ·rw [key_rl] at h; exact SeqAt.EqAt.str_int x t j u _ _ _ _ h
   ·rw [key_rr] at h; exact wpAny_eqBool_str h
 «strs» := fun k x t v h => by
  rcases keyIs_shape h with ⟨i, u, rfl, e⟩ | ⟨y, u, rfl, e⟩
  ·exact nomatch e
  ·injection e with e1 _
   subst e1
   cases v <;> rfl
theorem mixKind_int (prog : Program) (w : World) (i : Int) (t : Tok) : (mixKind prog w).is (.inl i) (.int i t) = true := keyIs_int i t
theorem mixKind_str (prog : Program) (w : World) (x : Str) (t : Tok) : (mixKind prog w).is (.inr x) (.str x t) = true := keyIs_str x t
inductive V where
 | non | bl (b : Bool) | int (i : Int) | str (x : Str) | byt (b : Array UInt8) | flt (b : UInt64) | ref (a : Addr) | ty (n : String)
 deriving DecidableEq
noncomputable def RelV : V -> Value -> Prop
 | .non, u => u = Value.none
 | .bl b, u => u = Value.bool b
 | .int i, u => ∃ t, u = Value.int i t
 | .str x, u => ∃ t, u = Value.str x t
 | .byt b, u => ∃ t, u = Value.bytes b t
 | .flt b, u => ∃ t, u = Value.float b t
 | .ref a, u => u = Value.ref a
 | .ty n, u => u = Value.type n
noncomputable abbrev Vals : List V -> List Value -> Prop := Paired RelV
theorem Vals.length {xs : List V} {us : List Value} (r : Vals xs us) : xs.length = us.length := Paired.length r
theorem Vals.get : ∀ {xs : List V} {us : List Value} {i : Nat} {x : V}, Vals xs us -> xs[i]? = some x -> ∃ u, us[i]? = some u /\ RelV x u
 | _, _, _, _, .nil, e => by simp at e
 | _, _, 0, _, .cons r _, e => by simp at e; subst e; exact ⟨_, rfl, r⟩
 | _, _, i + 1, x, .cons _ t, e => by
  obtain ⟨u, h1, h2⟩ := Vals.get (i := i) (x := x) t (by simpa using e)
  exact ⟨u, by simpa using h1, h2⟩
theorem Vals.set {x : V} {u : Value} (r : RelV x u) : ∀ {xs : List V} {us : List Value} (i : Nat), Vals xs us -> Vals (xs.set i x) (us.set i u)
 | _, _, _, .nil => .nil
 | _, _, 0, .cons _ t => .cons r t
 | _, _, i + 1, .cons q t => .cons q (Vals.set r i t)
theorem Vals.append : ∀ {xs ys : List V} {us ws : List Value}, Vals xs us -> Vals ys ws -> Vals (xs ++ ys) (us ++ ws)
 | _, _, _, _, .nil, s => s
 | _, _, _, _, .cons r t, s => .cons r (Vals.append t s)
noncomputable def RelO : Option V -> Option Value -> Prop
 | some v, some u => RelV v u
 | none, none => True
 | _, _ => False
noncomputable def KV {κ : Type} : List (κ × V) -> List (κ × Value) -> Prop := Paired fun (p : κ × V) (q : κ × Value) => p.1 = q.1 /\ RelV p.2 q.2
noncomputable def kV : Key -> V
 | .inl i => .int i
 | .inr x => .str x
inductive HO where
 | lst (xs : List V)
 | tup (xs : List V)
 | dK (kvs : List (Key × V)) | dT (kvs : List (List Key × V))
 | set (S : Int -> Bool) (n : Nat)
 | ins (C dx : Addr) (fs : List (Str × V))
 | own (x : Addr)
 | xd (fs : List (Str × V))
 | met (f x : Addr)
 | rng (lo hi : Int)
 | frz (o : Obj) (u : HO)
 | tbl (ps : Array Value)
 | ext (φ : Heap -> Prop)
noncomputable abbrev Hp := Addr -> Option HO
noncomputable def upd (H : Hp) (a : Addr) (o : HO) : Hp := fun b => if b = a then some o else H b
theorem upd_same {H : Hp} {a : Addr} {o : HO} : upd H a o a = some o := by unfold upd; rw [if_pos rfl]
theorem upd_ne {H : Hp} {a b : Addr} {o : HO} (h : b ≠ a) : upd H a o b = H b := by unfold upd; rw [if_neg h]
theorem upd_upd {H : Hp} {a : Addr} {o u : HO} : upd (upd H a o) a u = upd H a u := by
 funext b; unfold upd; split <;> rfl
theorem ne_of {H : Hp} {a b : Addr} {o u : HO} (h : H a = some o) (h' : H b = some u) (d : o ≠ u) : a ≠ b := by
 intro e; subst e; rw [h] at h'; exact d (Option.some.inj h')
theorem ne_of_none {H : Hp} {a b : Addr} {o : HO} (h : H a = some o) (h' : H b = none) : a ≠ b := by
 intro e; subst e; rw [h] at h'; cases h'
section
variable (P : Program) (w : World)
noncomputable def ObjOk (H : Hp) (h : Heap) (a : Addr) : HO -> Prop
 | .lst xs => xs.length <= sizeLine /\ ∃ (its : List Value) (n : Nat), Vals xs its /\ h.get? a = some { cls := .type "list", data := .seq its.toArray n }
 | .tup xs => xs.length <= sizeLine /\ ∃ its : List Value, Vals xs its /\ IsTup h a its.toArray
 | .dK kvs => kvs.length <= sizeLine /\ (a == sysModules) = false /\ ∃ vs, KV kvs vs /\ h.DictOf (mixKind P w) a vs
 | .dT kvs => kvs.length <= sizeLine /\ (a == sysModules) = false /\ ∃ xs : List (List Key × Addr × Value),
   Paired (fun (p : List Key × V) (q : List Key × Addr × Value) => p.1 = q.1 /\ H q.2.1 = some (.tup (p.1.map kV)) /\ RelV p.2 q.2.2) kvs xs /\
   ∃ o es ep, h.get? a = some o /\ o.ExactDict /\ o.data = .dict es ep /\ es.toList = xs.map (entryOfKey (tupleKind (mixKind P w))) /\ (xs.map (·.1)).Nodup
 | .set S n => h.SetOf (intKind P w) a S n
 | .ins C dx fs => H dx = some (.own a) /\ fs.length <= 1000 /\ dx ≠ a /\ h.get? a = some (PySem.W.instObj C dx) /\
   ∃ mA, h.Ns1 dx mA /\ (∀ f, RelO (fs.lookup f) (mA f)) /\ PySem.Within mA (fs.map (·.1))
 | .own _ => ∃ o, h.get? a = some o
 | .xd fs => ∃ mA, h.Ns1 a mA /\ ∀ f, RelO (fs.lookup f) (mA f)
 | .rng lo hi => ∃ t u v, h.get? a = some { cls := .type "range", data := .fields #[.int lo t, .int hi u, .int 1 v] }
 | .frz o u => h.get? a = some o /\ ObjOk H h a u
 | .tbl ps => h.get? a = some { cls := .none, data := .fields ps }
 | .met f x => h.get? a = some (PySem.W.methodObj (.ref f) (.ref x))
 | .ext φ => φ h /\ (∃ o, h.get? a = some o) /\ ∀ h1 h2 : Heap, φ h1 -> (∀ o, h1.get? a = some o -> h2.get? a = some o) -> φ h2
noncomputable def HOk (H : Hp) (h : Heap) : Prop := ∀ a o, H a = some o -> ObjOk P w H h a o
end
section
variable {P : Program} {w : World} {H H' : Hp} {h h' : Heap} {a : Addr} {o : HO}
theorem ObjOk.lt (x : ObjOk P w H h a o) : a < h.objs.size := by
 cases o with
 | lst xs => obtain ⟨_, _, _, _, e⟩ := x; exact Heap.lt_size e
 | tup xs => obtain ⟨_, _, _, p⟩ := x; exact p.lt
 | dK kvs => obtain ⟨_, _, _, _, o, _, _, e, _⟩ := x; exact Heap.lt_size e
 | dT kvs => obtain ⟨_, _, _, _, o, _, _, e, _⟩ := x; exact Heap.lt_size e
 | set S n => obtain ⟨o, _, _, _, e, _⟩ := x; exact Heap.lt_size e
 | ins C dx fs => obtain ⟨_, _, _, e, _⟩ := x; exact Heap.lt_size e
 | own y => obtain ⟨_, e⟩ := x; exact Heap.lt_size e
 | xd fs => obtain ⟨_, ⟨_, _, _, e, _⟩, _⟩ := x; exact Heap.lt_size e
 | rng lo hi => obtain ⟨_, _, _, e⟩ := x; exact Heap.lt_size e
 | frz ob u => obtain ⟨e, _⟩ := x; exact Heap.lt_size e
 | tbl ps => exact Heap.lt_size (show h.get? a = some _ from x)
 | met f y => exact Heap.lt_size (show h.get? a = some _ from x)
 | ext φ => obtain ⟨_, ⟨_, e⟩, _⟩ := x; exact Heap.lt_size e
theorem Paired.mapP {α β : Type} {F G : α -> β -> Prop} : ∀ {l₁ : List α} {l₂ : List β}, Paired F l₁ l₂ -> (∀ a b, F a b -> G a b) -> Paired G l₁ l₂
 | _, _, .nil, _ => .nil
 | _, _, .cons r t, f => .cons (f _ _ r) (Paired.mapP t f)
theorem ObjOk.stay (x : ObjOk P w H h a o) (k : ∀ b u, (b = a \/ H b = some (.own a)) -> h.get? b = some u -> h'.get? b = some u)
  (ho : ∀ b, H b = some (.own a) -> H' b = some (.own a)) (ht : ∀ b xs, H b = some (.tup xs) -> H' b = some (.tup xs)) : ObjOk P w H' h' a o := by
 induction o with
 | lst xs => obtain ⟨z, its, n, r, e⟩ := x; exact ⟨z, its, n, r, k _ _ (.inl rfl) e⟩
 | tup xs => obtain ⟨z, its, r, ob, e, c⟩ := x; exact ⟨z, its, r, ob, k _ _ (.inl rfl) e, c⟩
 | dK kvs => obtain ⟨z, y, vs, r, ob, es, ep, e, c⟩ := x; exact ⟨z, y, vs, r, ob, es, ep, k _ _ (.inl rfl) e, c⟩
 | dT kvs =>
  obtain ⟨z, y, xs, r, ob, es, ep, e, c⟩ := x
  exact ⟨z, y, xs, Paired.mapP r fun p q z => ⟨z.1, ht _ _ z.2.1, z.2.2⟩, ob, es, ep, k _ _ (.inl rfl) e, c⟩
 | set S n => obtain ⟨ob, es, ep, t, e, c⟩ := x; exact ⟨ob, es, ep, t, k _ _ (.inl rfl) e, c⟩
 | ins C dx fs =>
  obtain ⟨d, z, ne, e, mA, ⟨od, es, ep, e2, c⟩, r⟩ := x
  exact ⟨ho _ d, z, ne, k _ _ (.inl rfl) e, mA, ⟨od, es, ep, k _ _ (.inr d) e2, c⟩, r⟩
 | own y => obtain ⟨ob, e⟩ := x; exact ⟨ob, k _ _ (.inl rfl) e⟩
 | xd fs => obtain ⟨mA, ⟨od, es, ep, e, c⟩, r⟩ := x; exact ⟨mA, ⟨od, es, ep, k _ _ (.inl rfl) e, c⟩, r⟩
 | rng lo hi => obtain ⟨t, u, v, e⟩ := x; exact ⟨t, u, v, k _ _ (.inl rfl) e⟩
 | frz ob u ih => obtain ⟨e, q⟩ := x; exact ⟨k _ _ (.inl rfl) e, ih q⟩
 | tbl ps =>
  have e : h.get? a = some { cls := .none, data := .fields ps } := x
  show h'.get? a = some { cls := .none, data := .fields ps }
  exact k a _ (.inl rfl) e
 | met f y =>
  have e : h.get? a = some (PySem.W.methodObj (.ref f) (.ref y)) := x
  show h'.get? a = some (PySem.W.methodObj (.ref f) (.ref y))
  exact k a _ (.inl rfl) e
 | ext φ => obtain ⟨p, ⟨o, e⟩, st⟩ := x; exact ⟨st _ _ p fun o q => k _ _ (.inl rfl) q, ⟨o, k _ _ (.inl rfl) e⟩, st⟩
theorem HOk.lt (x : HOk P w H h) (e : H a = some o) : a < h.objs.size := (x a o e).lt
theorem HOk.fresh (x : HOk P w H h) (e : h.objs.size <= a) : H a = none := by
 cases q : H a with
 | none => rfl
 | some u => exact absurd (Nat.lt_of_lt_of_le (x.lt q) e) (Nat.lt_irrefl _)
theorem HOk.kept (x : HOk P w H h) (k : ∀ b u, h.get? b = some u -> h'.get? b = some u) : HOk P w H h' := fun a o e =>
 (x a o e).stay (fun b u _ q => k b u q) (fun _ q => q) fun _ _ q => q
theorem HOk.laid (x : HOk P w H h) (k : ∀ b u, h.get? b = some u -> h'.get? b = some u) (hp : h.objs.size <= a) (new : ObjOk P w (upd H a o) h' a o) : HOk P w (upd H a o) h' := fun b u e => by
 have hn := x.fresh hp
 by_cases hb : b = a
 ·subst hb; rw [upd_same] at e; cases e; exact new
 ·rw [upd_ne hb] at e
  exact (x b u e).stay (fun c v _ q => k c v q) (fun c q => by rw [upd_ne (ne_of_none q hn)]; exact q) fun c xs q => by rw [upd_ne (ne_of_none q hn)]; exact q
end
noncomputable def Rd (H : Hp) (a : Addr) (u : HO) : Prop := H a = some u \/ ∃ o, H a = some (.frz o u)
theorem Rd.ok {P : Program} {w : World} {H : Hp} {h : Heap} {a : Addr} {u : HO} (r : Rd H a u) (x : HOk P w H h) : ObjOk P w H h a u := by
 rcases r with r | ⟨o, r⟩
 ·exact x a u r
 ·obtain ⟨_, q⟩ := x a _ r
  exact q
noncomputable def Mut : Option HO -> Prop
 | some (.lst _) => True
 | some (.dK _) => True
 | some (.dT _) => True
 | some (.set _ _) => True
 | some (.ins _ _ _) => True
 | some (.ext _) => True
 | _ => False
section
variable {P : Program} {w : World} {H : Hp} {h h' : Heap} {x e : Addr} {o' : HO}
theorem HOk.write (ok : HOk P w H h) (mu : Mut (H x)) (he : e = x \/ H e = some (.own x)) (k : ∀ b u, b ≠ e -> h.get? b = some u -> h'.get? b = some u) (heo : ∃ u, h'.get? e = some u)
  (new : ObjOk P w (upd H x o') h' x o') : HOk P w (upd H x o') h' := fun b u q => by
 have nown : ∀ c y, H c = some (.own y) -> c ≠ x := fun c y r z => by subst z; rw [r] at mu; exact mu
 have ntup : ∀ c xs, H c = some (.tup xs) -> c ≠ x := fun c xs r z => by subst z; rw [r] at mu; exact mu
 by_cases hb : b = x
 ·subst hb; rw [upd_same] at q; cases q; exact new
 ·rw [upd_ne hb] at q
  by_cases hbe : b = e
  ·have q' : H b = some (.own x) := by
    rcases he with z | z
    ·exact absurd (hbe.trans z) hb
    ·rw [hbe]; exact z
   rw [q] at q'; cases q'
   obtain ⟨v, hv⟩ := heo
   exact ⟨v, by rw [hbe]; exact hv⟩
  ·refine (ok b u q).stay (fun c v hc r => k c v ?_ r) (fun c r => by rw [upd_ne (nown c b r)]; exact r) fun c xs r => by rw [upd_ne (ntup c xs r)]; exact r
   rcases hc with rfl | hc
   ·exact hbe
   ·rintro rfl
    rcases he with z | z
    ·exact nown c b hc z
    ·rw [hc] at z; cases z; exact hb rfl
end
structure Un (fs ex : List Addr) (H H' : Hp) (h h' : Heap) : Prop where
 keep : ∀ b o, h.get? b = some o -> H b = none -> b ∉ fs -> b ∉ ex -> h'.get? b = some o
 slot : ∀ b o, h.get? b = some o -> H b = none -> b ∈ fs -> b ∉ ex -> ∃ sl, h'.get? b = some { o with slots := sl }
 free : ∀ b o, h.get? b = some o -> H b = none -> b ∉ ex -> H' b = none
 there : ∀ b o, h.get? b = some o -> b ∉ ex -> ∃ o', h'.get? b = some o'
 tups : ∀ b xs, H b = some (.tup xs) -> H' b = some (.tup xs)
 frzs : ∀ b o u, H b = some (.frz o u) -> H' b = some (.frz o u)
 tbls : ∀ b ps, H b = some (.tbl ps) -> ∃ more, H' b = some (.tbl (ps ++ more))
section
variable {fs fs' ex ex' : List Addr} {H H1 H2 : Hp} {h h1 h2 h' : Heap} {a x e : Addr} {o : HO}
theorem Un.any (u : Un fs ex H H1 h h1) {b : Addr} {ob : Obj} (q : h.get? b = some ob) (n : H b = none) (hx : b ∉ ex) : ∃ sl, h1.get? b = some { ob with slots := sl } := by
 by_cases hb : b ∈ fs
 ·exact u.slot b ob q n hb hx
 ·exact ⟨ob.slots, u.keep b ob q n hb hx⟩
theorem Un.kept (k : ∀ b u, h.get? b = some u -> h'.get? b = some u) : Un fs ex H H h h' :=
 ⟨fun b ob q _ _ _ => k b ob q, fun b ob q _ _ _ => ⟨ob.slots, k b ob q⟩, fun _ _ _ n _ => n, fun b ob q _ => ⟨ob, k b ob q⟩, fun _ _ q => q, fun _ _ _ q => q, fun _ ps q => ⟨#[], by rw [q]; simp⟩⟩
theorem Un.refl : Un fs ex H H h h := Un.kept fun _ _ q => q
theorem Un.laid (k : ∀ b u, h.get? b = some u -> h'.get? b = some u) (hp : h.objs.size <= a) (hn : H a = none) : Un fs ex H (upd H a o) h h' where
 keep := fun b u q _ _ _ => k b u q
 slot := fun b u q _ _ _ => ⟨u.slots, k b u q⟩
 free := fun b u q n _ => by rw [upd_ne (Nat.ne_of_lt (Nat.lt_of_lt_of_le (Heap.lt_size q) hp))]; exact n
 there := fun b u q _ => ⟨u, k b u q⟩
 tups := fun b xs q => by rw [upd_ne (ne_of_none q hn)]; exact q
 frzs := fun b u xs q => by rw [upd_ne (ne_of_none q hn)]; exact q
 tbls := fun b ps q => ⟨#[], by rw [upd_ne (ne_of_none q hn), q]; simp⟩
theorem Un.write (mu : Mut (H x)) (he : e = x \/ H e = some (.own x)) (k : ∀ b u, b ≠ e -> h.get? b = some u -> h'.get? b = some u) (heo : ∃ u, h'.get? e = some u) : Un fs ex H (upd H x o) h h' := by
 have hx : ∀ b, H b = none -> b ≠ x := fun b n z => by subst z; rw [n] at mu; exact mu
 have hb : ∀ b, H b = none -> b ≠ e := fun b n z => by
  subst z
  rcases he with r | r
  ·exact hx b n r
  ·rw [n] at r; cases r
 have hm : ∀ b u, H b = some u -> ¬ Mut (some u) -> b ≠ x := fun b u q nm z => by subst z; rw [q] at mu; exact nm mu
 refine ⟨fun b u q n _ _ => k b u (hb b n) q, fun b u q n _ _ => ⟨u.slots, k b u (hb b n) q⟩, fun b u q n _ => by rw [upd_ne (hx b n)]; exact n, fun b u q _ => ?_,
  fun b xs q => by rw [upd_ne (hm b _ q fun z => z)]; exact q, fun b u xs q => by rw [upd_ne (hm b _ q fun z => z)]; exact q, fun b ps q => ⟨#[], by rw [upd_ne (hm b _ q fun z => z), q]; simp⟩⟩
 by_cases hbe : b = e
 ·subst hbe; exact heo
 ·exact ⟨u, k b u hbe q⟩
end
noncomputable def trk (h : Heap) (H : Hp) : List Addr := (List.range h.objs.size).filter fun a => (H a).isSome
noncomputable def hidT (h : Heap) (H : Hp) : Heap := PySem.W.hideAll h (trk h H)
theorem hidT_size (h : Heap) (H : Hp) : (hidT h H).objs.size = h.objs.size := PySem.W.hideAll_size _ _
theorem hidT_get {h : Heap} {H : Hp} {b : Addr} {o : Obj} (e : h.get? b = some o) (n : H b = none) : (hidT h H).get? b = some o :=
 PySem.W.hideAll_get _ e fun hm => by
  have q : (H b).isSome = true := (List.mem_filter.mp hm).2
  rw [n] at q; simp at q
theorem of_hidT {h : Heap} {H : Hp} {b : Addr} {o : Obj} (e : (hidT h H).get? b = some o) : h.get? b = some o /\ H b = none := by
 have e' : h.get? b = some o := PySem.W.of_hideAll (trk h H) e
 refine ⟨e', ?_⟩
 cases q : H b with
 | none => rfl
 | some x =>
  have hm : b ∈ trk h H := List.mem_filter.mpr ⟨List.mem_range.mpr (Heap.lt_size e'), by simp [q]⟩
  have z : (hidT h H).get? b = none := PySem.W.hideAll_none (trk h H) hm
  rw [z] at e; cases e
structure Mod (K : PySem.W.Frag) (mg : Str -> Option Value) (base : Heap) : Prop where
 kin : K.In base
 glob : base.Ns mainGlobals mg
 blt : ∃ mb, base.Ns builtinsNs mb /\ ∀ x : Str, x ≠ "__name__" -> mb x = bootBuiltins x
 nolimit : base.NoLimit
structure Cx where
 prog : Program
 w : World
 K : PySem.W.Frag
 mg : Str -> Option Value
 base : Heap
 A : Around
 N : List Str
 s₀ : Shared
 H₀ : Hp
 env : Env
 outer : List Env
 stack : List Env
 ex : List Addr
 fn : Str -> Bool
 calm : Bool
 pn : List (Addr × Obj)
 xe : Value -> Shared -> Prop
noncomputable def frs (l : List Env) : List Addr := l.filterMap (·.frame)
noncomputable abbrev Cx.fs (X : Cx) : List Addr := frs X.outer
noncomputable def Vis (sc : Scope) (x : Str) : Prop := sc.names.lookup x = some .local \/ sc.names.lookup x = some .cell \/ sc.names.lookup x = some .free
noncomputable def Loc (sc : Scope) (x : Str) : Prop := sc.names.lookup x = some .local \/ sc.names.lookup x = some .cell
noncomputable def Look (env : Env) (h : Heap) (m : Str -> Option Value) (x : Str) (u : Value) : Prop :=
 (env.kindOf x = some .local /\ m x = some u) \/ ((env.kindOf x = some .cell \/ env.kindOf x = some .free) /\ ∃ c, env.cells.lookup x = some c /\ h.IsCell c (some u))
structure Cx.Ok (X : Cx) : Prop where
 mod : Mod X.K X.mg X.base
 kind : X.env.scope.kind = .function
 glob : X.env.globals = mainGlobals
 blt : X.env.builtins = builtinsNs
 above : X.s₀.heap.objs.size <= X.env.locals
 inj : ∀ x y c, X.env.cells.lookup x = some c -> X.env.cells.lookup y = some c -> x = y
 has : ∀ x, (X.env.kindOf x = some .cell \/ X.env.kindOf x = some .free) -> ∃ c, X.env.cells.lookup x = some c
 cab : ∀ x c, X.fn x = true -> X.env.cells.lookup x = some c -> X.s₀.heap.objs.size <= c
 hd : X.calm = true -> X.A.handled = none
 frames : X.A.frames = some X.stack
 stk : X.stack = X.outer \/ (X.stack = X.env :: X.outer /\ X.env.frame = some X.env.locals)
 exf : ∀ b ∈ X.ex, b ≠ X.env.locals /\ ∀ x c, X.env.cells.lookup x = some c -> c ≠ b
 bs : ∀ b o, X.base.get? b = some o -> X.s₀.heap.get? b = some o /\ X.H₀ b = none
 bsz : X.base.objs.size <= X.s₀.heap.objs.size
 noex : ∀ b o, X.base.get? b = some o -> b ∉ X.ex
 exfs : ∀ b ∈ X.ex, b ∉ X.fs
 funs : X.s₀.heap.FunFrames X.base X.outer
 frf : ∀ b ∈ X.fs, X.H₀ b = none
structure Inv (X : Cx) (pins : List (Addr × Obj)) (σ : List (Option V)) (H : Hp) (s : Shared) : Prop where
 ok : X.Ok
 os : s.os = X.s₀.os
 bare : AllBare s.gens
 base : Un X.fs X.ex X.H₀ H X.s₀.heap s.heap
 loc : ∃ m, s.heap.Ns X.env.locals m /\ ∀ (i : Nat) (x : Str) (v : V), X.N[i]? = some x -> σ[i]? = some (some v) -> Vis X.env.scope x -> ∃ u, RelV v u /\ Look X.env s.heap m x u
 cell : ∀ x c, X.env.cells.lookup x = some c -> ∃ v, s.heap.IsCell c v
 free : H X.env.locals = none
 freeC : ∀ x c, X.env.cells.lookup x = some c -> H c = none
 pin : ∀ p ∈ X.pn ++ pins, s.heap.get? p.1 = some p.2 /\ H p.1 = none /\ p.1 ≠ X.env.locals /\ p.1 ∉ X.fs /\ ∀ v, p.2.data ≠ .cell v
 hok : HOk X.prog X.w H s.heap
 len : σ.length = X.N.length
section
variable {X : Cx} {pins : List (Addr × Obj)} {σ : List (Option V)} {H H' : Hp} {s : Shared} {h' : Heap}
theorem Cx.Ok.nofr (ok : X.Ok) {b : Addr} {o : Obj} (e : X.base.get? b = some o) : b ∉ X.fs := fun hb => by
 have := (ok.funs.mem hb).1
 rw [e] at this; cases this
theorem Inv.bs (I : Inv X pins σ H s) : ∀ b o, X.base.get? b = some o -> s.heap.get? b = some o /\ H b = none := fun b o e =>
 ⟨I.base.keep b o (I.ok.bs b o e).1 (I.ok.bs b o e).2 (I.ok.nofr e) (I.ok.noex b o e), I.base.free b o (I.ok.bs b o e).1 (I.ok.bs b o e).2 (I.ok.noex b o e)⟩
theorem Inv.bk (I : Inv X pins σ H s) : ∀ b o, X.base.get? b = some o -> s.heap.get? b = some o := fun b o e => (I.bs b o e).1
theorem Inv.mod (I : Inv X pins σ H s) : Mod X.K X.mg X.base := I.ok.mod
theorem Inv.kIn (I : Inv X pins σ H s) : X.K.In s.heap := I.ok.mod.kin.keeps I.bk
theorem Inv.fr (I : Inv X pins σ H s) : ∃ m, Fr X.base X.env.locals s.heap m :=
 let ⟨m, hn, _⟩ := I.loc
 ⟨m, hn, I.bk, Nat.le_trans I.ok.bsz I.ok.above⟩
theorem Inv.lt (I : Inv X pins σ H s) : X.env.locals < s.heap.objs.size := let ⟨_, hn, _⟩ := I.loc; hn.lt
theorem Inv.sz (I : Inv X pins σ H s) : X.s₀.heap.objs.size <= s.heap.objs.size := Nat.le_trans I.ok.above (Nat.le_of_lt I.lt)
theorem Inv.nofs (I : Inv X pins σ H s) {a : Addr} (h : s.heap.objs.size <= a) : a ∉ X.fs := fun hb => by
 obtain ⟨_, o, ho, _⟩ := I.ok.funs.mem hb
 exact absurd (Nat.lt_of_lt_of_le (Heap.lt_size ho) (Nat.le_trans I.sz h)) (Nat.lt_irrefl _)
theorem Inv.cne (I : Inv X pins σ H s) : ∀ x c, X.env.cells.lookup x = some c -> c ≠ X.env.locals := fun x c e z => by
 obtain ⟨v, o, ho, hd⟩ := I.cell x c e
 obtain ⟨m, ⟨o', es, ep, ho', hd', _⟩, _⟩ := I.loc
 rw [z, ho'] at ho; cases ho; rw [hd'] at hd; cases hd
theorem Inv.funs (I : Inv X pins σ H s) : s.heap.FunFrames X.base X.outer := by
 have all : ∀ (l : List Env), (∀ b ∈ frs l, b ∈ X.fs) -> X.s₀.heap.FunFrames X.base l -> s.heap.FunFrames X.base l := by
  intro l
  induction l with
  | nil => intro _ _; trivial
  | cons env r ih =>
   intro hs hl
   obtain ⟨hk, ⟨L, o, hf, hn, ho, hd⟩, hr⟩ := hl
   have hL : L ∈ X.fs := hs L (by unfold frs; rw [List.filterMap_cons, hf]; exact List.mem_cons_self)
   obtain ⟨sl, e⟩ := I.base.slot L o ho (I.ok.frf L hL) hL fun z => I.ok.exfs L z hL
   exact ⟨hk, ⟨L, _, hf, hn, e, hd⟩, ih (fun b hb => hs b (by unfold frs; rw [List.filterMap_cons, hf]; exact List.mem_cons_of_mem _ hb)) hr⟩
 exact all X.outer (fun _ hb => hb) I.ok.funs
theorem Inv.stack (I : Inv X pins σ H s) : s.heap.FunFrames X.base X.stack := by
 rcases I.ok.stk with e | ⟨e, hf⟩
 ·rw [e]; exact I.funs
 ·rw [e]
  obtain ⟨m, hn, _⟩ := I.loc
  refine .cons (by rw [I.ok.kind]; decide) hf hn ?_ I.funs
  exact Heap.get?_none_of_le (Nat.le_trans I.ok.bsz I.ok.above)
theorem Inv.stkSub (I : Inv X pins σ H s) : ∀ b ∈ frs X.stack, b ∈ X.env.locals :: X.fs := fun b hb => by
 rcases I.ok.stk with e | ⟨e, hf⟩
 ·rw [e] at hb; exact List.mem_cons_of_mem _ hb
 ·rw [e] at hb
  unfold frs at hb
  rw [List.filterMap_cons, hf] at hb
  exact hb
theorem Inv.stkFree (I : Inv X pins σ H s) : ∀ b ∈ frs X.stack, H b = none := fun b hb => by
 rcases List.mem_cons.mp (I.stkSub b hb) with e | hb
 ·rw [e]; exact I.free
 ·obtain ⟨_, o, ho, _⟩ := I.ok.funs.mem hb
  exact I.base.free b o ho (I.ok.frf b hb) fun z => I.ok.exfs b z hb
theorem Inv.step {g' : Array GenState} {t' : Nat} {d' : Drawn} {ch : List Addr} (I : Inv X pins σ H s)
  (hch : ∀ b ∈ ch, (b ∈ X.ex \/ X.s₀.heap.objs.size <= b) /\ b ≠ X.env.locals /\ (∀ x c, X.env.cells.lookup x = some c -> c ≠ b) /\ ∀ p ∈ X.pn ++ pins, p.1 ≠ b)
  (keep : ∀ b o, b ≠ X.env.locals -> b ∉ X.fs -> b ∉ ch -> s.heap.get? b = some o -> H b = none -> h'.get? b = some o)
  (slot : ∀ b o, b ≠ X.env.locals -> b ∈ X.fs -> b ∉ ch -> s.heap.get? b = some o -> H b = none -> ∃ sl, h'.get? b = some { o with slots := sl }) (free : ∀ b o, b ∉ ch -> s.heap.get? b = some o -> H b = none -> H' b = none)
  (there : ∀ b o, b ∉ ch -> s.heap.get? b = some o -> ∃ o', h'.get? b = some o')
  (tups : ∀ b xs, H b = some (.tup xs) -> H' b = some (.tup xs)) (frzs : ∀ b o u, H b = some (.frz o u) -> H' b = some (.frz o u)) (tbls : ∀ b ps, H b = some (.tbl ps) -> ∃ more, H' b = some (.tbl (ps ++ more)))
  (ns : ∀ m, s.heap.Ns X.env.locals m -> h'.Ns X.env.locals m) (hok : HOk X.prog X.w H' h') (hg : AllBare g') :
  Inv X pins σ H' { s with heap := h', gens := g', drawn := d', toks := t' } := by
 have neL : ∀ b o, X.s₀.heap.get? b = some o -> b ≠ X.env.locals := fun b o e => Nat.ne_of_lt (Nat.lt_of_lt_of_le (Heap.lt_size e) I.ok.above)
 have neC : ∀ b o, X.s₀.heap.get? b = some o -> b ∉ X.ex -> b ∉ ch := fun b o e hx hb => by
  rcases (hch b hb).1 with z | z
  ·exact hx z
  ·exact absurd (Nat.lt_of_lt_of_le (Heap.lt_size e) z) (Nat.lt_irrefl _)
 have cellK : ∀ x c, X.env.cells.lookup x = some c -> ∀ v, s.heap.IsCell c v -> h'.IsCell c v := fun x c e v ⟨o, ho, hd⟩ => by
  have nch : c ∉ ch := fun z => (hch c z).2.2.1 x c e rfl
  by_cases hc : c ∈ X.fs
  ·obtain ⟨sl, q⟩ := slot c o (I.cne x c e) hc nch ho (I.freeC x c e)
   exact ⟨_, q, hd⟩
  ·exact ⟨o, keep c o (I.cne x c e) hc nch ho (I.freeC x c e), hd⟩
 refine ⟨I.ok, I.os, hg, ⟨fun b o e n hb hx => ?_, fun b o e n hb hx => ?_, fun b o e n hx => ?_, fun b o e hx => ?_, fun b xs e => tups b xs (I.base.tups b xs e), fun b o xs e => frzs b o xs (I.base.frzs b o xs e), fun b ps e => ?_⟩, ?_, fun x c e => ?_, ?_, fun x c e => ?_, fun p hp => ?_, hok, I.len⟩
 ·exact keep b o (neL b o e) hb (neC b o e hx) (I.base.keep b o e n hb hx) (I.base.free b o e n hx)
 ·obtain ⟨sl, e1⟩ := I.base.slot b o e n hb hx
  obtain ⟨sl', e2⟩ := slot b _ (neL b o e) hb (neC b o e hx) e1 (I.base.free b o e n hx)
  exact ⟨sl', e2⟩
 ·obtain ⟨o', e1⟩ := I.base.there b o e hx
  exact free b o' (neC b o e hx) e1 (I.base.free b o e n hx)
 ·obtain ⟨o', e1⟩ := I.base.there b o e hx
  exact there b o' (neC b o e hx) e1
 ·obtain ⟨m1, e1⟩ := I.base.tbls b ps e
  obtain ⟨m2, e2⟩ := tbls b _ e1
  exact ⟨m1 ++ m2, by rw [e2, Array.append_assoc]⟩
 ·obtain ⟨m, hn, hl⟩ := I.loc
  refine ⟨m, ns m hn, fun i x v e1 e2 e3 => ?_⟩
  obtain ⟨u, r, l⟩ := hl i x v e1 e2 e3
  refine ⟨u, r, ?_⟩
  rcases l with l | ⟨k, c, e, z⟩
  ·exact .inl l
  ·exact .inr ⟨k, c, e, cellK x c e _ z⟩
 ·obtain ⟨v, z⟩ := I.cell x c e
  exact ⟨v, cellK x c e v z⟩
 ·obtain ⟨m, ⟨o, _, _, ho, _⟩, _⟩ := I.loc
  exact free _ o (fun z => (hch _ z).2.1 rfl) ho I.free
 ·obtain ⟨v, o, ho, hd⟩ := I.cell x c e
  exact free c o (fun z => (hch c z).2.2.1 x c e rfl) ho (I.freeC x c e)
 ·obtain ⟨e, n, ne, nf, d⟩ := I.pin p hp
  have nch : p.1 ∉ ch := fun z => (hch p.1 z).2.2.2 p hp rfl
  exact ⟨keep p.1 p.2 ne nf nch e n, free p.1 p.2 nch e n, ne, nf, d⟩
theorem Inv.un {t' : Nat} (I : Inv X pins σ H s) (u : Un X.fs [] H H' s.heap h') (hok : HOk X.prog X.w H' h') : Inv X pins σ H' { s with heap := h', toks := t' } := by
 obtain ⟨m, ⟨o, es, ep, ho, r⟩, _⟩ := id I.loc
 obtain ⟨sl, hL⟩ := u.any ho I.free (by simp)
 exact I.step (g' := s.gens) (d' := s.drawn) (ch := []) (fun _ z => nomatch z) (fun b o _ hb _ e n => u.keep b o e n hb (by simp)) (fun b o _ hb _ e n => u.slot b o e n hb (by simp)) (fun b o _ e n => u.free b o e n (by simp)) (fun b o _ e => u.there b o e (by simp)) u.tups u.frzs u.tbls (fun m' hm => by
  obtain ⟨o', es', ep', ho', r'⟩ := hm
  rw [ho] at ho'; cases ho'
  exact ⟨_, es', ep', hL, r'⟩) hok I.bare
theorem Inv.call {g' : Array GenState} {t' : Nat} {d' : Drawn} {ch : List Addr} (I : Inv X pins σ H s) (u : Un (frs X.stack) ch H H' s.heap h') (hok : HOk X.prog X.w H' h') (hg : AllBare g')
  (hch : ∀ b ∈ ch, (b ∈ X.ex \/ X.s₀.heap.objs.size <= b) /\ b ≠ X.env.locals /\ (∀ x c, X.env.cells.lookup x = some c -> c ≠ b) /\ ∀ p ∈ X.pn ++ pins, p.1 ≠ b) :
  Inv X pins σ H' { s with heap := h', gens := g', drawn := d', toks := t' } := by
 obtain ⟨m, ⟨o, es, ep, ho, r⟩, _⟩ := id I.loc
 obtain ⟨sl, hL⟩ := u.any ho I.free fun z => (hch _ z).2.1 rfl
 exact I.step (ch := ch) hch (fun b o hL hb hc e n => u.keep b o e n (fun z => (List.mem_cons.mp (I.stkSub b z)).elim hL hb) hc) (fun b o _ _ hc e n => u.any e n hc) (fun b o hc e n => u.free b o e n hc) (fun b o hc e => u.there b o e hc) u.tups u.frzs u.tbls (fun m' hm => by
  obtain ⟨o', es', ep', ho', r'⟩ := hm
  rw [ho] at ho'; cases ho'
  exact ⟨_, es', ep', hL, r'⟩) hok hg
theorem Inv.turned {t' : Nat} {it : Addr} (I : Inv X pins σ H s) (k : ∀ b o, b ≠ it -> s.heap.get? b = some o -> h'.get? b = some o) (hn : H it = none) (hL : it ≠ X.env.locals)
  (h1 : it ∈ X.ex \/ X.s₀.heap.objs.size <= it) (h2 : ∀ x c, X.env.cells.lookup x = some c -> c ≠ it) (h3 : ∀ p ∈ X.pn ++ pins, p.1 ≠ it) : Inv X pins σ H { s with heap := h', toks := t' } := by
 have nit : ∀ b u, H b = some u -> b ≠ it := fun b u e z => by rw [z, hn] at e; cases e
 refine I.step (g' := s.gens) (d' := s.drawn) (ch := [it]) (fun b hb => ?_) (fun b o _ _ hc e _ => k b o (fun z => hc (by simp [z])) e) (fun b o _ _ hc e _ => ⟨o.slots, k b o (fun z => hc (by simp [z])) e⟩) (fun _ _ _ _ n => n)
  (fun b o hc e => ⟨o, k b o (fun z => hc (by simp [z])) e⟩) (fun _ _ e => e) (fun _ _ _ e => e) (fun b ps e => ⟨#[], by rw [e]; simp⟩) (fun m hm => ?_) (fun b u e => ?_) I.bare
 ·have e : b = it := by simpa using hb
  subst e
  exact ⟨h1, hL, h2, h3⟩
 ·obtain ⟨o, es, ep, ho, r⟩ := hm
  exact ⟨o, es, ep, k _ o (Ne.symm hL) ho, r⟩
 ·refine (I.hok b u e).stay (fun c v hc q => k c v ?_ q) (fun _ q => q) fun _ _ q => q
  rcases hc with z | z
  ·rw [z]; exact nit b u e
  ·exact nit c _ z
theorem Inv.tok (I : Inv X pins σ H s) (t : Nat) : Inv X pins σ H { s with toks := t } := I.un (h' := s.heap) (t' := t) Un.refl I.hok
theorem Inv.kept {t' : Nat} (I : Inv X pins σ H s) (k : ∀ b u, s.heap.get? b = some u -> h'.get? b = some u) : Inv X pins σ H { s with heap := h', toks := t' } := I.un (Un.kept k) (I.hok.kept k)
theorem Inv.laid {a : Addr} {o : HO} {t' : Nat} (I : Inv X pins σ H s) (k : ∀ b u, s.heap.get? b = some u -> h'.get? b = some u) (hp : s.heap.objs.size <= a) (new : ObjOk X.prog X.w (upd H a o) h' a o) :
  Inv X pins σ (upd H a o) { s with heap := h', toks := t' } := I.un (Un.laid k hp (I.hok.fresh hp)) (I.hok.laid k hp new)
theorem Inv.write {x e : Addr} {o : HO} {t' : Nat} (I : Inv X pins σ H s) (mu : Mut (H x)) (he : e = x \/ H e = some (.own x)) (k : ∀ b u, b ≠ e -> s.heap.get? b = some u -> h'.get? b = some u) (heo : ∃ u, h'.get? e = some u)
  (new : ObjOk X.prog X.w (upd H x o) h' x o) : Inv X pins σ (upd H x o) { s with heap := h', toks := t' } := I.un (Un.write mu he k heo) (I.hok.write mu he k heo new)
theorem Inv.weak {σ' : List (Option V)} (I : Inv X pins σ H s) (hl : σ'.length = σ.length) (w : ∀ (i : Nat) v, σ'[i]? = some (some v) -> σ[i]? = some (some v)) : Inv X pins σ' H s :=
 ⟨I.ok, I.os, I.bare, I.base, let ⟨m, hn, hl'⟩ := I.loc; ⟨m, hn, fun i x v e1 e2 e3 => hl' i x v e1 (w i v e2) e3⟩, I.cell, I.free, I.freeC, I.pin, I.hok, hl.trans I.len⟩
theorem Inv.pins_of {pins' : List (Addr × Obj)} (I : Inv X pins σ H s) (h : ∀ p ∈ pins', s.heap.get? p.1 = some p.2 /\ H p.1 = none /\ p.1 ≠ X.env.locals /\ p.1 ∉ X.fs /\ ∀ v, p.2.data ≠ .cell v) : Inv X pins' σ H s :=
 ⟨I.ok, I.os, I.bare, I.base, I.loc, I.cell, I.free, I.freeC, fun p hp => (List.mem_append.mp hp).elim (fun z => I.pin p (List.mem_append_left _ z)) (h p), I.hok, I.len⟩
theorem nodup_ix {N : List Str} (hN : N.Nodup) {i j : Nat} {x : Str} (a : N[i]? = some x) (b : N[j]? = some x) : i = j := by
 obtain ⟨h1, e1⟩ := List.getElem?_eq_some_iff.mp a
 obtain ⟨h2, e2⟩ := List.getElem?_eq_some_iff.mp b
 exact (List.getElem_inj hN).mp (e1.trans e2.symm)
theorem store_ok2 {M : Model} {A : Around} {E : Value -> Shared -> Prop} {i : Nat} {x : Str} {v : V} {u : Value} {Q : Unit -> Shared -> Prop} (I : Inv X pins σ H s) (hN : X.N.Nodup) (hi : X.N[i]? = some x) (hx : Loc X.env.scope x) (r : RelV v u)
  (h : ∀ s', Inv X pins (σ.set i (some v)) H s' -> (∃ a, Heap.SameBut a s.heap s'.heap /\ (a = X.env.locals \/ X.env.cells.lookup x = some a)) -> Q () s') (hf : X.fn x = true \/ X.env.scope.names.lookup x = some .local := by first | exact .inl rfl | exact .inr rfl | assumption) : wpAny M A (storeName X.env x u) Q E s := by
 obtain ⟨m, hn, hl⟩ := id I.loc
 have hcls : (X.env.scope.kind == .class || (X.env.scope.kind == .module && X.env.locals != X.env.globals)) = false := by rw [I.ok.kind]; rfl
 have hiσ : i < σ.length := by rw [I.len]; exact (List.getElem?_eq_some_iff.mp hi).1
 have cne := I.cne
 have tracked : ∀ {a : Addr} {h' : Heap}, (∃ o, s.heap.get? a = some o /\ H a = none) -> Heap.SameBut a s.heap h' -> HOk X.prog X.w H h' := fun {a h'} ha hs b ob e => by
  obtain ⟨_, _, hfree⟩ := ha
  refine (I.hok b ob e).stay (fun c w' hc q => (hs.2 c ?_).trans q) (fun _ q => q) fun _ _ q => q
  rintro rfl
  rcases hc with rfl | hc
  ·rw [hfree] at e; cases e
  ·rw [hfree] at hc; cases hc
 rcases hx with hk | hk
 ·refine wpAny_storeName_local hk hn (fun h' hn' hs => ?_) hcls
  obtain ⟨oL, _, _, hoL, _⟩ := id hn
  refine h _ ⟨I.ok, I.os, I.bare, ⟨fun b o e n hb hx => ?_, fun b o e n hb hx => ?_, I.base.free, fun b o e hx => ?_, I.base.tups, I.base.frzs, I.base.tbls⟩, ⟨_, hn', fun j y v' e1 e2 e3 => ?_⟩, fun y c e => ?_, I.free, I.freeC, fun p hp => ?_, tracked ⟨oL, hoL, I.free⟩ hs, by simpa using I.len⟩ ⟨_, hs, .inl rfl⟩
  ·exact (hs.2 b (Nat.ne_of_lt (Nat.lt_of_lt_of_le (Heap.lt_size e) I.ok.above))).trans (I.base.keep b o e n hb hx)
  ·obtain ⟨sl, e1⟩ := I.base.slot b o e n hb hx
   exact ⟨sl, (hs.2 b (Nat.ne_of_lt (Nat.lt_of_lt_of_le (Heap.lt_size e) I.ok.above))).trans e1⟩
  ·obtain ⟨o', e1⟩ := I.base.there b o e hx
   exact ⟨o', (hs.2 b (Nat.ne_of_lt (Nat.lt_of_lt_of_le (Heap.lt_size e) I.ok.above))).trans e1⟩
  ·by_cases hj : j = i
   ·subst hj
    rw [hi] at e1; cases e1
    rw [List.getElem?_set_self hiσ] at e2
    cases e2
    exact ⟨u, r, .inl ⟨hk, by simp⟩⟩
   ·rw [List.getElem?_set_ne (Ne.symm hj)] at e2
    obtain ⟨u', r', q⟩ := hl j y v' e1 e2 e3
    refine ⟨u', r', ?_⟩
    rcases q with ⟨k, e⟩ | ⟨k, c, e, z⟩
    ·refine .inl ⟨k, ?_⟩
     have : y ≠ x := fun e => hj (nodup_ix hN e1 (e ▸ hi))
     simp [this, e]
    ·exact .inr ⟨k, c, e, z.sameBut hs (cne y c e)⟩
  ·obtain ⟨w', z⟩ := I.cell y c e
   exact ⟨w', z.sameBut hs (cne y c e)⟩
  ·obtain ⟨e, n, ne, nf, d⟩ := I.pin p hp
   exact ⟨(hs.2 p.1 ne).trans e, n, ne, nf, d⟩
 ·have hfn : X.fn x = true := by
   rcases hf with z | z
   ·exact z
   ·rw [z] at hk; cases hk
  obtain ⟨c, hc⟩ := I.ok.has x (.inl hk)
  obtain ⟨w', z⟩ := I.cell x c hc
  refine wpAny_storeName_cell I.ok.kind hk hc z (fun h' hc' hs => ?_)
  obtain ⟨oc, hoc, hocd⟩ := id z
  refine h { s with heap := h' } ⟨I.ok, I.os, I.bare, ⟨fun b o e n hb hx => ?_, fun b o e n hb hx => ?_, I.base.free, fun b o e hx => ?_, I.base.tups, I.base.frzs, I.base.tbls⟩, ⟨m, hn.sameBut hs (Ne.symm (cne x c hc)), fun j y v' e1 e2 e3 => ?_⟩, fun y c' e => ?_, I.free, I.freeC, fun p hp => ?_, tracked ⟨oc, hoc, I.freeC x c hc⟩ hs, by simpa using I.len⟩ ⟨c, hs, .inr hc⟩
  ·exact (hs.2 b (Nat.ne_of_lt (Nat.lt_of_lt_of_le (Heap.lt_size e) (I.ok.cab x c hfn hc)))).trans (I.base.keep b o e n hb hx)
  ·obtain ⟨sl, e1⟩ := I.base.slot b o e n hb hx
   exact ⟨sl, (hs.2 b (Nat.ne_of_lt (Nat.lt_of_lt_of_le (Heap.lt_size e) (I.ok.cab x c hfn hc)))).trans e1⟩
  ·obtain ⟨o', e1⟩ := I.base.there b o e hx
   exact ⟨o', (hs.2 b (Nat.ne_of_lt (Nat.lt_of_lt_of_le (Heap.lt_size e) (I.ok.cab x c hfn hc)))).trans e1⟩
  ·by_cases hj : j = i
   ·subst hj
    rw [hi] at e1; cases e1
    rw [List.getElem?_set_self hiσ] at e2
    cases e2
    exact ⟨u, r, .inr ⟨.inl hk, c, hc, hc'⟩⟩
   ·rw [List.getElem?_set_ne (Ne.symm hj)] at e2
    obtain ⟨u', r', q⟩ := hl j y v' e1 e2 e3
    refine ⟨u', r', ?_⟩
    rcases q with q | ⟨k, c', e, z'⟩
    ·exact .inl q
    ·refine .inr ⟨k, c', e, z'.sameBut hs ?_⟩
     rintro rfl
     exact hj (nodup_ix hN e1 (I.ok.inj _ _ _ e hc ▸ hi))
  ·by_cases hcc : c' = c
   ·subst hcc; exact ⟨_, hc'⟩
   ·obtain ⟨w2, z2⟩ := I.cell y c' e
    exact ⟨w2, z2.sameBut hs hcc⟩
  ·obtain ⟨e, n, ne, nf, d⟩ := I.pin p hp
   refine ⟨(hs.2 p.1 ?_).trans e, n, ne, nf, d⟩
   intro q
   rw [q, hoc] at e
   have q' : oc = p.2 := Option.some.inj e
   exact d w' (by rw [<- q']; exact hocd)
theorem store_ok {M : Model} {A : Around} {E : Value -> Shared -> Prop} {i : Nat} {x : Str} {v : V} {u : Value} {Q : Unit -> Shared -> Prop} (I : Inv X pins σ H s) (hN : X.N.Nodup) (hi : X.N[i]? = some x) (hx : Loc X.env.scope x) (r : RelV v u)
  (h : ∀ s', Inv X pins (σ.set i (some v)) H s' -> Q () s') (hf : X.fn x = true \/ X.env.scope.names.lookup x = some .local := by first | exact .inl rfl | exact .inr rfl | assumption) : wpAny M A (storeName X.env x u) Q E s :=
 store_ok2 I hN hi hx r (fun s' I' _ => h s' I') hf
theorem Inv.call' {s' : Shared} {ch : List Addr} (I : Inv X pins σ H s) (ho : s'.os = s.os) (u : Un (frs X.stack) ch H H' s.heap s'.heap) (hok : HOk X.prog X.w H' s'.heap) (hg : AllBare s'.gens)
  (hch : ∀ b ∈ ch, (b ∈ X.ex \/ X.s₀.heap.objs.size <= b) /\ b ≠ X.env.locals /\ (∀ x c, X.env.cells.lookup x = some c -> c ≠ b) /\ ∀ p ∈ X.pn ++ pins, p.1 ≠ b) : Inv X pins σ H' s' := by
 obtain ⟨h', g', d', t', o'⟩ := s'
 have e : o' = s.os := ho
 subst e
 exact I.call (g' := g') (t' := t') (d' := d') u hok hg hch
end
noncomputable abbrev XK := Value -> Option Addr -> Hp -> Prop
noncomputable abbrev St := List (Option V)
noncomputable abbrev VK := V -> Hp -> Prop
noncomputable abbrev TE := St -> Hp -> VK -> Prop
noncomputable abbrev TT := St -> Hp -> (Bool -> Hp -> Prop) -> Prop
noncomputable abbrev TA := St -> Hp -> (List V -> Hp -> Prop) -> Prop
structure Ends where
 nx : St -> Hp -> Prop
 rt : VK
 bk : St -> Hp -> Prop := fun _ _ => False
 ct : St -> Hp -> Prop := fun _ _ => False
noncomputable abbrev TS := Ends -> St -> Hp -> Prop
noncomputable def EP (X : Cx) (pins : List (Addr × Obj)) (σ : St) (Q : VK) (u : Value) (s' : Shared) : Prop := ∃ v H', Inv X pins σ H' s' /\ RelV v u /\ Q v H'
noncomputable def TP (X : Cx) (pins : List (Addr × Obj)) (σ : St) (Q : Bool -> Hp -> Prop) (b : Bool) (s' : Shared) : Prop := ∃ H', Inv X pins σ H' s' /\ Q b H'
noncomputable def AP (X : Cx) (pins : List (Addr × Obj)) (σ : St) (Q : List V -> Hp -> Prop) (us : List Value) (s' : Shared) : Prop := ∃ vs H', Inv X pins σ H' s' /\ Vals vs us /\ Q vs H'
noncomputable def SP (X : Cx) (pins : List (Addr × Obj)) (D : Ends) (f : Flow) (s' : Shared) : Prop :=
 match f with
 | .next => ∃ σ' H', Inv X pins σ' H' s' /\ D.nx σ' H'
 | .brk => ∃ σ' H', Inv X pins σ' H' s' /\ D.bk σ' H'
 | .cont => ∃ σ' H', Inv X pins σ' H' s' /\ D.ct σ' H'
 | .ret u => ∃ v σ' H', Inv X pins σ' H' s' /\ RelV v u /\ D.rt v H'
noncomputable def PE (X : Cx) (e : Expr) (t : TE) : Prop :=
 ∀ (pins : List (Addr × Obj)) (s : Shared) (σ : St) (H : Hp) (Q : VK), Inv X pins σ H s -> t σ H Q -> wpAny (model X.prog X.w) X.A (eval e X.env) (EP X pins σ Q) X.xe s
noncomputable def PT (X : Cx) (e : Expr) (t : TT) : Prop :=
 ∀ (pins : List (Addr × Obj)) (s : Shared) (σ : St) (H : Hp) (Q : Bool -> Hp -> Prop), Inv X pins σ H s -> t σ H Q -> wpAny (model X.prog X.w) X.A (isTrue e X.env (eval e X.env)) (TP X pins σ Q) X.xe s
noncomputable def PW (X : Cx) (e : Expr) (t : TT) : Prop :=
 ∀ (whole : Sem Value) (pins : List (Addr × Obj)) (s : Shared) (σ : St) (H : Hp) (Q : Bool -> Hp -> Prop), Inv X pins σ H s -> t σ H Q -> wpAny (model X.prog X.w) X.A (isTrue e X.env whole) (TP X pins σ Q) X.xe s
theorem PW.pt {X : Cx} {e : Expr} {t : TT} (h : PW X e t) : PT X e t := h _
noncomputable def PA (X : Cx) (es : List Expr) (t : TA) : Prop :=
 ∀ (pos : Pos) (pins : List (Addr × Obj)) (s : Shared) (σ : St) (H : Hp) (Q : List V -> Hp -> Prop), Inv X pins σ H s -> t σ H Q -> wpAny (model X.prog X.w) X.A (spliced (backTo pos (starEach es X.env))) (AP X pins σ Q) X.xe s
noncomputable def PS (X : Cx) (st : Stmt) (t : TS) : Prop :=
 ∀ (pins : List (Addr × Obj)) (s : Shared) (σ : St) (H : Hp) (D : Ends), Inv X pins σ H s -> t D σ H -> wpAny (model X.prog X.w) X.A (exec st X.env) (SP X pins D) X.xe s
noncomputable def PSs (X : Cx) (st : List Stmt) (t : TS) : Prop :=
 ∀ (pins : List (Addr × Obj)) (s : Shared) (σ : St) (H : Hp) (D : Ends), Inv X pins σ H s -> t D σ H -> wpAny (model X.prog X.w) X.A (execs st X.env) (SP X pins D) X.xe s
theorem thn {α : Type} {t : Sem α} {Q Q' : α -> Shared -> Prop} {M : Model} {A : Around} {E : Value -> Shared -> Prop} {s : Shared} (h : wpAny M A t Q E s) (hQ : ∀ a s, Q a s -> Q' a s) : wpAny M A t Q' E s := wpAny_mono h hQ fun _ _ x => x
section
variable {X : Cx}
noncomputable def tVar (i : Nat) : TE := fun σ H Q => ∃ v, σ[i]? = some (some v) /\ Q v H
noncomputable def tC (v : V) : TE := fun _ H Q => Q v H
theorem pe_var {i : Nat} {x : Str} {pos : Pos} (hN : X.N[i]? = some x) (hv : Vis X.env.scope x) (hd : (x == ("__debug__" : Str)) = false := by decide) (hcd : (x == ("__classdict__" : Str)) = false := by decide) : PE X (.Name x pos) (tVar i) := by
 intro pins s σ H Q I h
 obtain ⟨v, e, h⟩ := h
 obtain ⟨m, hn, hl⟩ := I.loc
 obtain ⟨u, r, l⟩ := hl i x v hN e hv
 have fin : EP X pins σ Q u s := ⟨v, H, I, r, h⟩
 rcases l with ⟨hk, hm⟩ | ⟨hk, c, hc, hcell⟩
 ·exact wpAny_Name (wpAny_loadName_local I.ok.kind hk hn hm fin) hd
 ·rcases hk with hk | hk
  ·exact wpAny_Name (wpAny_loadName_cell I.ok.kind hk hc hcell fin) hd
  ·exact wpAny_Name (wpAny_loadName_free I.ok.kind hk hc hcell fin hcd) hd
theorem pe_int {i j pos} : PE X (.Constant (.int i) j pos) (tC (.int i)) := fun _ _ _ H _ I h => wpAny_Constant_int ⟨.int i, H, I.tok _, ⟨_, rfl⟩, h⟩
theorem pe_bl {b j pos} : PE X (.Constant (.bool b) j pos) (tC (.bl b)) := fun _ _ _ H _ I h => Constant_bool ⟨.bl b, H, I, rfl, h⟩
theorem pe_non {j pos} : PE X (.Constant .none j pos) (tC .non) := fun _ _ _ H _ I h => Constant_none ⟨.non, H, I, rfl, h⟩
theorem pe_str {x j pos} : PE X (.Constant (.str x) j pos) (tC (.str x)) := fun _ _ _ H _ I h => Calls.Constant_str ⟨.str x, H, I.tok _, ⟨_, rfl⟩, h⟩
noncomputable def Gl (X : Cx) (x : Str) : Prop := X.env.kindOf x = some .globalImplicit
theorem ld_glob {E : Value -> Shared -> Prop} {pins : List (Addr × Obj)} {s : Shared} {σ : St} {H : Hp} {x : Str} {u : Value} {pos : Pos} {Q : Value -> Shared -> Prop} (I : Inv X pins σ H s) (hg : Gl X x) (hm : X.mg x = some u) (h : Q u s)
  (hd : (x == ("__debug__" : Str)) = false := by decide) : wpAny (model X.prog X.w) X.A (eval (.Name x pos) X.env) Q E s :=
 Calls.Name_function_global I.ok.kind hg (Calls.loadGlobal_global (by rw [I.ok.glob]; exact I.mod.glob.keeps I.bk) hm h) hd
theorem ld_blt {E : Value -> Shared -> Prop} {pins : List (Addr × Obj)} {s : Shared} {σ : St} {H : Hp} {x : Str} {u : Value} {pos : Pos} {Q : Value -> Shared -> Prop} (I : Inv X pins σ H s) (hg : Gl X x) (hm : X.mg x = none) (hv : bootBuiltins x = some u) (h : Q u s)
  (hn : x ≠ "__name__" := by decide) (hd : (x == ("__debug__" : Str)) = false := by decide) : wpAny (model X.prog X.w) X.A (eval (.Name x pos) X.env) Q E s := by
 obtain ⟨mb, h1, h2⟩ := I.mod.blt
 exact Calls.Name_function_global I.ok.kind hg (Calls.loadGlobal_builtin (by rw [I.ok.glob]; exact I.mod.glob.keeps I.bk) hm (by rw [I.ok.blt]; exact h1.keeps I.bk) ((h2 x hn).trans hv) h) hd
theorem pe_glob {x : Str} {v : V} {u : Value} {pos : Pos} (hg : Gl X x) (hm : X.mg x = some u) (r : RelV v u) (hd : (x == ("__debug__" : Str)) = false := by decide) : PE X (.Name x pos) (tC v) :=
 fun _ _ _ H _ I h => ld_glob I hg hm ⟨v, H, I, r, h⟩ hd
theorem pe_bltn {x : Str} {v : V} {u : Value} {pos : Pos} (hg : Gl X x) (hm : X.mg x = none) (hv : bootBuiltins x = some u) (r : RelV v u) (hn : x ≠ "__name__" := by decide) (hd : (x == ("__debug__" : Str)) = false := by decide) : PE X (.Name x pos) (tC v) :=
 fun _ _ _ H _ I h => ld_blt I hg hm hv ⟨v, H, I, r, h⟩ hn hd
variable {a b : Expr} {ta tb : TE} {pos : Pos}
noncomputable def tB (t : TE) : TT := fun σ H Q => t σ H fun x H1 => ∃ c, x = .bl c /\ Q c H1
theorem pt_val {e : Expr} {t : TE} (h : PE X e t) (he : ∀ whole, isTrue e X.env whole = (do let v <- whole; standAt e.pos; holding [v] (truthy v)) := by intro _; rfl) : PT X e (tB t) := by
 intro pins s σ H Q I hw
 refine isTrue_plain (thn (h pins s σ H _ I hw) fun v s1 ⟨x, H1, I1, r1, q1⟩ => ?_) (he _)
 obtain ⟨d, rfl, q⟩ := q1
 cases r1
 exact wpAny_truthy_bool ⟨H1, I1, q⟩
variable {tA tB' : TT} {rest : List Expr}
noncomputable def tOr (t u : TT) : TT := fun σ H Q => t σ H fun c H1 => if c = true then Q true H1 else u σ H1 Q
noncomputable def tNot (t : TT) : TT := fun σ H Q => t σ H fun c H1 => Q (!c) H1
theorem pw_or1 (ha : PT X a tA) : PW X (.BoolOp .Or [a] pos) tA := by
 intro wh pins s σ H Q I h
 refine isTrue_or (thn (ha pins s σ H Q I h) fun c s1 e => ?_)
 cases c with
 | false => exact isTrue_or_nil e
 | true => exact e
theorem pw_or (ha : PT X a tA) (hb : PW X (.BoolOp .Or (b :: rest) pos) tB') : PW X (.BoolOp .Or (a :: b :: rest) pos) (tOr tA tB') := by
 intro wh pins s σ H Q I h
 refine isTrue_or (thn (ha pins s σ H _ I h) fun c s1 ⟨H1, I1, q1⟩ => ?_)
 cases c with
 | true => exact ⟨H1, I1, q1⟩
 | false => exact hb wh pins s1 σ H1 Q I1 q1
theorem pt_not (ha : PT X a tA) : PT X (.UnaryOp .Not a pos) (tNot tA) := by
 intro pins s σ H Q I h
 exact isTrue_not (ha pins s σ H (fun c H1 => Q (!c) H1) I h)
noncomputable def tAndV (ta tb : TE) : TE := fun σ H Q => ta σ H fun x H1 => ∃ c, x = .bl c /\ if c = true then tb σ H1 Q else Q (.bl false) H1
noncomputable def tOrV (ta tb : TE) : TE := fun σ H Q => ta σ H fun x H1 => ∃ c, x = .bl c /\ if c = true then Q (.bl true) H1 else tb σ H1 Q
noncomputable def tNotV (ta : TE) : TE := fun σ H Q => ta σ H fun x H1 => ∃ c, x = .bl c /\ Q (.bl (!c)) H1
theorem pe_one {op} {t : TE} (h : PE X a t) : PE X (.BoolOp op [a] pos) t := fun pins s σ H Q I hw => BoolOp_one (h pins s σ H Q I hw)
theorem pe_and (ha : PE X a ta) (hb : PE X (.BoolOp .And (b :: rest) pos) tb) : PE X (.BoolOp .And (a :: b :: rest) pos) (tAndV ta tb) := by
 intro pins s σ H Q I h
 refine BoolOp_and (thn (ha pins s σ H _ I h) fun v s1 ⟨x, H1, I1, r1, q1⟩ => ?_)
 obtain ⟨c, rfl, q1⟩ := q1
 cases r1
 refine wpAny_truthy_bool ?_
 cases c with
 | true => exact hb pins s1 σ H1 Q I1 q1
 | false => exact ⟨.bl false, H1, I1, rfl, q1⟩
theorem pe_or (ha : PE X a ta) (hb : PE X (.BoolOp .Or (b :: rest) pos) tb) : PE X (.BoolOp .Or (a :: b :: rest) pos) (tOrV ta tb) := by
 intro pins s σ H Q I h
 refine BoolOp_or (thn (ha pins s σ H _ I h) fun v s1 ⟨x, H1, I1, r1, q1⟩ => ?_)
 obtain ⟨c, rfl, q1⟩ := q1
 cases r1
 refine wpAny_truthy_bool ?_
 cases c with
 | false => exact hb pins s1 σ H1 Q I1 q1
 | true => exact ⟨.bl true, H1, I1, rfl, q1⟩
theorem pe_not (ha : PE X a ta) : PE X (.UnaryOp .Not a pos) (tNotV ta) := by
 intro pins s σ H Q I h
 refine UnaryOp_ (thn (ha pins s σ H _ I h) fun v s1 ⟨x, H1, I1, r1, q1⟩ => ?_)
 obtain ⟨c, rfl, q1⟩ := q1
 cases r1
 exact not_of (wpAny_truthy_bool ⟨.bl (!c), H1, I1, rfl, q1⟩)
noncomputable def tIf (t : TT) (ta tb : TE) : TE := fun σ H Q => t σ H fun c H1 => if c = true then ta σ H1 Q else tb σ H1 Q
theorem pe_ifExp {c : Expr} (hc : PT X c tA) (ha : PE X a ta) (hb : PE X b tb) : PE X (.IfExp c a b pos) (tIf tA ta tb) := by
 intro pins s σ H Q I h
 refine wpAny_IfExp (thn (hc pins s σ H _ I h) fun d s1 ⟨H1, I1, q1⟩ => ?_)
 cases d with
 | true => exact ha pins s1 σ H1 Q I1 q1
 | false => exact hb pins s1 σ H1 Q I1 q1
end
noncomputable def SqL (K : PySem.W.Frag) (H : Hp) (a : Addr) (xs : List V) : Prop :=
 Rd H a (.lst xs) \/
  ∃ (o : Obj) (its : Array Value) (n : Nat), K.lookup a = some o /\ o.cls = .type "list" /\ o.dict = none /\ o.data = .seq its n /\ its.size <= sizeLine /\ Vals xs its.toList
noncomputable def SqT (K : PySem.W.Frag) (H : Hp) (a : Addr) (xs : List V) : Prop :=
 Rd H a (.tup xs) \/
  ∃ (o : Obj) (its : Array Value) (n : Nat), K.lookup a = some o /\ o.cls = .type "tuple" /\ o.data = .seq its n /\ its.size <= sizeLine /\ Vals xs its.toList
noncomputable def absV : Value -> Option V
 | .none => some .non
 | .bool b => some (.bl b)
 | .int i _ => some (.int i)
 | .str x _ => some (.str x)
 | .bytes b _ => some (.byt b)
 | .float b _ => some (.flt b)
 | .ref a => some (.ref a)
 | .type n => some (.ty n)
 | _ => none
theorem RelV.abs {x : V} {u : Value} (r : RelV x u) : absV u = some x := by
 cases x with
 | non => cases r; rfl
 | bl _ => cases r; rfl
 | int _ => obtain ⟨t, rfl⟩ := r; rfl
 | str _ => obtain ⟨t, rfl⟩ := r; rfl
 | byt _ => obtain ⟨t, rfl⟩ := r; rfl
 | flt _ => obtain ⟨t, rfl⟩ := r; rfl
 | ref _ => cases r; rfl
 | ty _ => cases r; rfl
theorem RelV.inj {x y : V} {u : Value} (r : RelV x u) (q : RelV y u) : x = y := Option.some.inj (r.abs.symm.trans q.abs)
theorem Vals.inj : ∀ {xs ys : List V} {us : List Value}, Vals xs us -> Vals ys us -> xs = ys
 | _, _, _, .nil, .nil => rfl
 | _, _, _, .cons r t, .cons r' t' => by rw [r.inj r', Vals.inj t t']
section
variable {X : Cx} {pins : List (Addr × Obj)} {σ : St} {H : Hp} {s : Shared} {a : Addr} {xs ys : List V}
theorem SqL.of {K : PySem.W.Frag} (h : H a = some (.lst xs)) : SqL K H a xs := .inl (.inl h)
theorem SqT.of {K : PySem.W.Frag} (h : H a = some (.tup xs)) : SqT K H a xs := .inl (.inl h)
theorem Inv.list (I : Inv X pins σ H s) (h : SqL X.K H a xs) : ∃ its : List Value, Vals xs its /\ PlainL s.heap a its.toArray /\ xs.length <= sizeLine := by
 rcases h with h | ⟨o, its, n, hk, hc, hd, hs, hz, r⟩
 ·obtain ⟨z, its, n, r, e⟩ := h.ok I.hok
  exact ⟨its, r, ⟨_, n, e, rfl, rfl, rfl⟩, z⟩
 ·refine ⟨its.toList, r, ⟨o, n, I.kIn a o hk, hc, hd, by simpa using hs⟩, ?_⟩
  have e := r.length
  simp only [Array.length_toList] at e
  omega
theorem Inv.tuple (I : Inv X pins σ H s) (h : SqT X.K H a xs) : ∃ its : List Value, Vals xs its /\ IsTup s.heap a its.toArray /\ xs.length <= sizeLine := by
 rcases h with h | ⟨o, its, n, hk, hc, hs, hz, r⟩
 ·obtain ⟨z, its, r, p⟩ := h.ok I.hok
  exact ⟨its, r, p, z⟩
 ·refine ⟨its.toList, r, ⟨o, I.kIn a o hk, hc, n, by simpa using hs⟩, ?_⟩
  have e := r.length
  simp only [Array.length_toList] at e
  omega
theorem Inv.list_inj (I : Inv X pins σ H s) (h : SqL X.K H a xs) (h' : SqL X.K H a ys) : xs = ys := by
 obtain ⟨its, r, ⟨o, n, e, _, _, d⟩, _⟩ := I.list h
 obtain ⟨its', r', ⟨o', n', e', _, _, d'⟩, _⟩ := I.list h'
 rw [e] at e'; cases e'
 rw [d] at d'
 injection d' with d1 _
 have : its = its' := by simpa using congrArg Array.toList d1
 subst this
 exact r.inj r'
theorem Inv.tuple_inj (I : Inv X pins σ H s) (h : SqT X.K H a xs) (h' : SqT X.K H a ys) : xs = ys := by
 obtain ⟨its, r, ⟨o, e, _, n, d⟩, _⟩ := I.tuple h
 obtain ⟨its', r', ⟨o', e', _, n', d'⟩, _⟩ := I.tuple h'
 rw [e] at e'; cases e'
 rw [d] at d'
 injection d' with d1 _
 have : its = its' := by simpa using congrArg Array.toList d1
 subst this
 exact r.inj r'
end
noncomputable abbrev Cx.wish (X : Cx) (E : Value -> Shared -> Prop) : Cx := { X with xe := E }
noncomputable abbrev Cx.nox (X : Cx) : Cx := X.wish fun _ _ => False
theorem Cx.Ok.wish {X : Cx} (ok : X.Ok) (E : Value -> Shared -> Prop) : (X.wish E).Ok :=
 ⟨ok.mod, ok.kind, ok.glob, ok.blt, ok.above, ok.inj, ok.has, ok.cab, ok.hd, ok.frames, ok.stk, ok.exf, ok.bs, ok.bsz, ok.noex, ok.exfs, ok.funs, ok.frf⟩
theorem Cx.Ok.unwish {X : Cx} {E : Value -> Shared -> Prop} (ok : (X.wish E).Ok) : X.Ok :=
 ⟨ok.mod, ok.kind, ok.glob, ok.blt, ok.above, ok.inj, ok.has, ok.cab, ok.hd, ok.frames, ok.stk, ok.exf, ok.bs, ok.bsz, ok.noex, ok.exfs, ok.funs, ok.frf⟩
section
variable {X : Cx} {pins : List (Addr × Obj)} {σ : St} {H : Hp} {s : Shared} {E : Value -> Shared -> Prop}
theorem Inv.wish (I : Inv X pins σ H s) (E : Value -> Shared -> Prop) : Inv (X.wish E) pins σ H s := ⟨I.ok.wish E, I.os, I.bare, I.base, I.loc, I.cell, I.free, I.freeC, I.pin, I.hok, I.len⟩
theorem Inv.unwish (I : Inv (X.wish E) pins σ H s) : Inv X pins σ H s := ⟨I.ok.unwish, I.os, I.bare, I.base, I.loc, I.cell, I.free, I.freeC, I.pin, I.hok, I.len⟩
theorem SP.unwish {D : Ends} {f : Flow} {s' : Shared} (h : SP (X.wish E) pins D f s') : SP X pins D f s' := by
 cases f with
 | next => obtain ⟨σ', H', I, q⟩ := h; exact ⟨σ', H', I.unwish, q⟩
 | brk => obtain ⟨σ', H', I, q⟩ := h; exact ⟨σ', H', I.unwish, q⟩
 | cont => obtain ⟨σ', H', I, q⟩ := h; exact ⟨σ', H', I.unwish, q⟩
 | ret u => obtain ⟨v, σ', H', I, r, q⟩ := h; exact ⟨v, σ', H', I.unwish, r, q⟩
theorem PSs.nox {st : List Stmt} {t : TS} (h : PSs X.nox st t) : PSs X st t := fun pins s σ H D I hw =>
 wpAny_mono (h pins s σ H D (I.wish _) hw) (fun _ _ q => q.unwish) fun _ _ z => False.elim z
end
section
variable {X : Cx} {st : Stmt} {rest : List Stmt} {t u : TS} {e : Expr} {te : TE} {pos : Pos}
noncomputable def tNext : TS := fun D σ H => D.nx σ H
noncomputable def tSeq (t u : TS) : TS := fun D σ H => t { D with nx := u D } σ H
theorem pss_nil : PSs X [] tNext := fun _ _ σ H _ I h => wpAny_execs_nil ⟨σ, H, I, h⟩
theorem pss_cons (h1 : PS X st t) (h2 : PSs X rest u) : PSs X (st :: rest) (tSeq t u) := by
 intro pins s σ H D I h
 refine wpAny_execs_cons (thn (h1 pins s σ H { D with nx := u D } I h) fun f s1 q => ?_)
 cases f with
 | next =>
  obtain ⟨σ', H', I', q⟩ := q
  exact h2 pins s1 σ' H' D I' q
 | ret v => exact q
 | brk => exact q
 | cont => exact q
theorem pss_one (h1 : PS X st t) : PSs X [st] t := by
 intro pins s σ H D I h
 refine wpAny_execs_cons (thn (h1 pins s σ H D I h) fun f s1 q => ?_)
 cases f with
 | next => exact wpAny_execs_nil q
 | ret v => exact q
 | brk => exact q
 | cont => exact q
theorem Inv.quiet {pins : List (Addr × Obj)} {σ : St} {H : Hp} {s : Shared} (I : Inv X pins σ H s) : interactive X.env = false := by simp [interactive, I.ok.kind]
noncomputable def tDrop (te : TE) : TS := fun D σ H => te σ H fun _ H1 => D.nx σ H1
theorem ps_expr (he : PE X e te) (hs : swapsWith e none pos.line X.env = pure false := by rfl) : PS X (.Expr e pos) (tDrop te) := by
 intro pins s σ H D I h
 exact wpAny_Expr_any (thn (he pins s σ H _ I h) fun v s1 ⟨x, H1, I1, r1, q1⟩ => ⟨σ, H1, I1, q1⟩) I.quiet hs
noncomputable def tRet (te : TE) : TS := fun D σ H => te σ H D.rt
theorem ps_ret (he : PE X e te) : PS X (.Return (some e) pos) (tRet te) := by
 intro pins s σ H D I h
 exact wpAny_Return_some (thn (he pins s σ H _ I h) fun v s1 ⟨x, H1, I1, r1, q1⟩ => ⟨x, σ, H1, I1, r1, q1⟩)
noncomputable def tIfS (c : TT) (t u : TS) : TS := fun D σ H => c σ H fun b H1 => if b = true then t D σ H1 else u D σ H1
theorem ps_if {c : Expr} {a b : List Stmt} {tc : TT} (hc : PT X c tc) (ha : PSs X a t) (hb : PSs X b u) : PS X (.If c a b pos) (tIfS tc t u) := by
 intro pins s σ H D I h
 refine wpAny_If (thn (hc pins s σ H _ I h) fun d s1 ⟨H1, I1, q1⟩ => ?_)
 cases d with
 | true => exact ha pins s1 σ H1 D I1 q1
 | false => exact hb pins s1 σ H1 D I1 q1
end
noncomputable abbrev TG := V -> St -> Hp -> (St -> Hp -> Prop) -> Prop
noncomputable abbrev TGs := List V -> St -> Hp -> (St -> Hp -> Prop) -> Prop
noncomputable def PG (X : Cx) (target : Expr) (t : TG) : Prop :=
 ∀ (pins : List (Addr × Obj)) (s : Shared) (σ : St) (H : Hp) (v : V) (u : Value) (Q : St -> Hp -> Prop), Inv X pins σ H s -> RelV v u -> t v σ H Q ->
  wpAny (model X.prog X.w) X.A (assign target X.env u) (fun _ s' => ∃ σ' H', Inv X pins σ' H' s' /\ Q σ' H') X.xe s
noncomputable def PGs (X : Cx) (ts : List Expr) (t : TGs) : Prop :=
 ∀ (pins : List (Addr × Obj)) (s : Shared) (σ : St) (H : Hp) (vs : List V) (us : List Value) (Q : St -> Hp -> Prop), Inv X pins σ H s -> Vals vs us -> t vs σ H Q ->
  wpAny (model X.prog X.w) X.A (assignInOrder ((assignEach ts X.env).map (·.2)) us) (fun _ s' => ∃ σ' H', Inv X pins σ' H' s' /\ Q σ' H') X.xe s
noncomputable abbrev TSet := V -> V -> V -> Hp -> (Hp -> Prop) -> Prop
noncomputable def PSet (X : Cx) (t : TSet) : Prop :=
 ∀ (pins : List (Addr × Obj)) (s : Shared) (σ : St) (H : Hp) (o i v : V) (ov iv u : Value) (Q : Hp -> Prop), Inv X pins σ H s -> RelV o ov -> RelV i iv -> RelV v u -> t o i v H Q ->
  wpAny (model X.prog X.w) X.A (setItem ov iv u) (fun _ s' => ∃ H', Inv X pins σ H' s' /\ Q H') X.xe s
section
variable {X : Cx} {pos : Pos}
noncomputable def gName (i : Nat) : TG := fun v σ H Q => Q (σ.set i (some v)) H
theorem pg_name {i : Nat} {x : Str} (hN : X.N.Nodup) (hi : X.N[i]? = some x) (hx : Loc X.env.scope x) (hf : X.fn x = true \/ X.env.scope.names.lookup x = some .local := by first | exact .inl rfl | exact .inr rfl | assumption) : PG X (.Name x pos) (gName i) := by
 intro pins s σ H v u Q I r h
 exact wpAny_assign_Name (store_ok I hN hi hx r (fun s' I' => ⟨_, H, I', h⟩) hf)
noncomputable def gNil : TGs := fun vs σ H Q => vs = [] /\ Q σ H
noncomputable def gCons (t : TG) (u : TGs) : TGs := fun vs σ H Q => ∃ v r, vs = v :: r /\ t v σ H fun σ' H' => u r σ' H' Q
theorem pgs_nil : PGs X [] gNil := by
 intro pins s σ H vs us Q I r h
 obtain ⟨e, h⟩ := h
 subst e
 cases r
 exact assignInOrder_nil ⟨σ, H, I, h⟩
theorem pgs_cons {e : Expr} {es : List Expr} {t : TG} {u : TGs} (h1 : PG X e t) (h2 : PGs X es u)
  (hs : (assignEach (e :: es) X.env).map (·.2) = assign e X.env :: (assignEach es X.env).map (·.2) := by rfl) : PGs X (e :: es) (gCons t u) := by
 intro pins s σ H vs us Q I r h
 obtain ⟨v, vr, e1, h⟩ := h
 subst e1
 cases r with
 | cons r rr =>
  rw [hs]
  refine assignInOrder_cons (thn (h1 pins s σ H _ _ _ I r h) fun _ s1 ⟨σ1, H1, I1, q1⟩ => ?_)
  exact h2 pins s1 σ1 H1 _ _ Q I1 rr q1
noncomputable def gTup (K : PySem.W.Frag) (n : Nat) (t : TGs) : TG := fun v σ H Q => ∃ a xs, v = .ref a /\ SqT K H a xs /\ xs.length = n /\ t xs σ H Q
theorem pg_tup {es : List Expr} {k : Nat} {t : TGs} {n : Nat} (hc : X.calm = true) (h : PGs X es t)
  (hn : (assignEach es X.env).length = n := by rfl) (hst : (assignEach es X.env).findIdx? (·.1) = none := by rfl) : PG X (.Tuple es k pos) (gTup X.K n t) := by
 intro pins s σ H v u Q I r hw
 obtain ⟨a, xs, e1, hq, hl, hw⟩ := hw
 subst e1
 cases r
 obtain ⟨its, rv, ht, hz⟩ := I.tuple hq
 refine assign_Tuple_tuple (I.ok.hd hc) ht (by simp [hn, <- hl, rv.length]) hst fun h' hx => ?_
 have I1 : Inv X pins σ H { s with heap := h' } := I.kept (t' := s.toks) fun b o e => hx b o (Nat.ne_of_lt (Heap.lt_size e)) e
 exact h pins _ σ H xs _ Q I1 (by simpa using rv) hw
noncomputable def gSub (to ti : TE) (t : TSet) : TG := fun v σ H Q => to σ H fun o H1 => ti σ H1 fun i H2 => t o i v H2 fun H3 => Q σ H3
theorem pg_sub {o i : Expr} {to ti : TE} {t : TSet} (ho : PE X o to) (hi : PE X i ti) (hs : PSet X t)
  (ha : ∀ v, assign (.Subscript o i pos) X.env v = (do
   let ov <- holding [v] (eval o X.env)
   let iv <- holding [v, ov] (eval i X.env)
   standAt pos
   holding [v, ov, iv] (setItem ov iv v)
   release [v, ov, iv] []) := by intro _; rfl) : PG X (.Subscript o i pos) (gSub to ti t) := by
 intro pins s σ H v u Q I r h
 rw [ha]
 refine wpAny_bind (wpAny_holding (thn (ho pins s σ H _ I h) fun ov s1 ⟨x, H1, I1, r1, q1⟩ => ?_))
 refine wpAny_bind (wpAny_holding (thn (hi pins s1 σ H1 _ I1 q1) fun iv s2 ⟨y, H2, I2, r2, q2⟩ => ?_))
 refine wpAny_bind (wpAny_standAt (wpAny_bind (wpAny_holding (thn (hs pins s2 σ H2 x y v ov iv u _ I2 r1 r2 r q2) fun _ s3 ⟨H3, I3, q3⟩ => ?_))))
 exact wpAny_release ⟨σ, H3, I3, q3⟩
noncomputable def tAsg (te : TE) (g : TG) : TS := fun D σ H => te σ H fun x H1 => g x σ H1 D.nx
theorem ps_asg {tg e : Expr} {te : TE} {g : TG} (he : PE X e te) (hg : PG X tg g) (hs : swapsWithSole [tg] e pos.line X.env = pure false := by rfl) (hw : swappedStores [tg] e X.env = pure none := by rfl)
  (h1 : (assignEach [tg] X.env).map (·.2) = [assign tg X.env] := by rfl) : PS X (.Assign [tg] e pos) (tAsg te g) := by
 intro pins s σ H D I h
 refine wpAny_Assign_stores (thn (he pins s σ H _ I h) fun v s1 ⟨x, H1, I1, r1, q1⟩ => ?_) hs hw
 rw [h1]
 exact thn (hg pins s1 σ H1 x v _ I1 r1 q1) fun _ s2 q => q
theorem ps_set {i : Nat} {x : Str} {e : Expr} {te : TE} {pos' : Pos} (hN : X.N.Nodup) (hi : X.N[i]? = some x) (hx : Loc X.env.scope x) (he : PE X e te) (hs : swapsWith e (some (.Name x pos')) pos.line X.env = pure false := by rfl) (hf : X.fn x = true \/ X.env.scope.names.lookup x = some .local := by first | exact .inl rfl | exact .inr rfl | assumption) :
  PS X (.Assign [.Name x pos'] e pos) (tAsg te (gName i)) := by
 intro pins s σ H D I h
 refine wpAny_Assign_Name (thn (he pins s σ H _ I h) fun v s1 ⟨y, H1, I1, r1, q1⟩ => ?_) hs
 exact store_ok I1 hN hi hx r1 (fun s2 I2 => ⟨_, H1, I2, q1⟩) hf
end
section
variable {X : Cx} {pos : Pos}
end
structure It where
 go : Nat -> Hp -> Prop
 yld : Nat -> Hp -> V -> Hp -> Prop
 stop : Nat -> Hp -> Prop
noncomputable def FpOk (X : Cx) (pins : List (Addr × Obj)) (H : Hp) (b : Addr) : Prop :=
 H b = none /\ b ≠ X.env.locals /\ b ∉ X.fs /\ (b ∈ X.ex \/ X.s₀.heap.objs.size <= b) /\ (∀ x c, X.env.cells.lookup x = some c -> c ≠ b) /\ ∀ p ∈ X.pn ++ pins, p.1 ≠ b
theorem Inv.fpOk {X : Cx} {pins : List (Addr × Obj)} {σ : St} {H H' : Hp} {s : Shared} {b : Addr} (I : Inv X pins σ H s) (hb : s.heap.objs.size <= b) (hn : H' b = none) : FpOk X pins H' b := by
 refine ⟨hn, Nat.ne_of_gt (Nat.lt_of_lt_of_le I.lt hb), I.nofs hb, .inr (Nat.le_trans I.sz hb), fun x c e z => ?_, fun p hp z => ?_⟩
 ·obtain ⟨v, q⟩ := I.cell x c e
  exact absurd (Nat.lt_of_lt_of_le q.lt (by rw [z]; exact hb)) (Nat.lt_irrefl _)
 ·exact absurd (Nat.lt_of_lt_of_le (Heap.lt_size (I.pin p hp).1) (by rw [z]; exact hb)) (Nat.lt_irrefl _)
structure Turn (P : Program) (w : World) (K : PySem.W.Frag) (tg : Expr) (J : It) (fp : List Addr) (it : Addr) (tn : Nat -> Heap -> Prop) : Prop where
 mem : it ∈ fp
 obj : ∀ i h, tn i h -> ∀ b ∈ fp, ∃ o, h.get? b = some o /\ ∀ v, o.data ≠ .cell v
 keep : ∀ i h h', tn i h -> (∀ b ∈ fp, ∀ o, h.get? b = some o -> h'.get? b = some o) -> tn i h'
 item : ∀ (X : Cx), X.prog = P -> X.w = w -> X.K = K -> X.calm = true -> ∀ (i : Nat) (pins : List (Addr × Obj)) (s : Shared) (σ : St) (H : Hp) (E : Value -> Shared -> Prop), Inv X pins σ H s -> (∀ b ∈ fp, FpOk X pins H b) -> tn i s.heap -> J.go i H ->
  wpAny (model P w) X.A (pyNext (.ref it)) (fun r s1 => ∃ u, r = some u /\
   wpAny (model P w) X.A (letOwnedTupleGo tg (.ref it) u) (fun _ s2 => ∃ x H', Inv X pins σ H' s2 /\ RelV x u /\ J.yld i H x H' /\ tn (i + 1) s2.heap /\ ∀ b ∈ fp, H' b = none) E s1) E s
 done : ∀ (X : Cx), X.prog = P -> X.w = w -> X.K = K -> X.calm = true -> ∀ (i : Nat) (pins : List (Addr × Obj)) (s : Shared) (σ : St) (H : Hp) (E : Value -> Shared -> Prop), Inv X pins σ H s -> (∀ b ∈ fp, FpOk X pins H b) -> tn i s.heap -> J.stop i H ->
  wpAny (model P w) X.A (pyNext (.ref it)) (fun r s1 => r = none /\ Inv X pins σ H s1) E s
 self : ∀ (A : Around) (i : Nat) (s : Shared) (Q : Value -> Shared -> Prop) (E : Value -> Shared -> Prop), tn i s.heap -> Q (.ref it) s -> wpAny (model P w) A (pyIter (.ref it)) Q E s
noncomputable abbrev TI := St -> Hp -> (It -> Hp -> Prop) -> Prop
noncomputable def PIE (X : Cx) (pins : List (Addr × Obj)) (σ : St) (tg : Expr) (R : It -> Hp -> Prop) (itv : Value) (s2 : Shared) : Prop :=
 ∃ (it : Addr) (fp : List Addr) (tn : Nat -> Heap -> Prop) (J : It) (H' : Hp), itv = .ref it /\ Inv X pins σ H' s2 /\ Turn X.prog X.w X.K tg J fp it tn /\ tn 0 s2.heap /\ (∀ b ∈ fp, FpOk X pins H' b) /\ R J H'
noncomputable def PI (X : Cx) (tg iter : Expr) (wi : TI) : Prop :=
 ∀ (pins : List (Addr × Obj)) (s : Shared) (σ : St) (H : Hp) (R : It -> Hp -> Prop), Inv X pins σ H s -> wi σ H R ->
  wpAny (model X.prog X.w) X.A (eval iter X.env) (fun v s1 => wpAny (model X.prog X.w) X.A (pyIter v) (PIE X pins σ tg R) X.xe s1) X.xe s
theorem go_of {M : Model} {A : Around} {E : Value -> Shared -> Prop} {s : Shared} {tg : Expr} {it : Addr} {u : Value} {o : Obj} {n : String} {vs : Array Value} {Q : Unit -> Shared -> Prop} (ho : s.heap.get? it = some o) (hc : o.cls = .type n) (hd : o.data = .fields vs)
  (hn : ["enumerate", "zip", "dict_itemiterator", "dict_reverseitemiterator", "odict_iterator", "itertools.zip_longest", "itertools.pairwise"].contains n = false) (hQ : Q () s) : wpAny M A (letOwnedTupleGo tg (.ref it) u) Q E s := by
 unfold letOwnedTupleGo
 cases tg <;> first
  | exact wpAny_pure hQ
  | (cases u <;> first
    | exact wpAny_pure hQ
    | (refine wpAny_bind (wpAny_load ho ?_)
       rw [hc, hd]
       show wpAny M A (if (["enumerate", "zip", "dict_itemiterator", "dict_reverseitemiterator", "odict_iterator", "itertools.zip_longest", "itertools.pairwise"].contains n && vs[0]? == some (rawInt _)) = true then _ else _) Q E s
       rw [if_neg (by intro h; rw [hn, Bool.false_and] at h; cases h)]
       exact wpAny_pure hQ))
noncomputable def Itl (K : PySem.W.Frag) (a : Addr) : It :=
 ⟨fun i H => ∃ xs x, SqL K H a xs /\ xs[i]? = some x, fun i H x H' => H' = H /\ ∀ xs, SqL K H a xs -> xs[i]? = some x, fun i H => ∃ xs, SqL K H a xs /\ xs.length <= i⟩
noncomputable def Itt (K : PySem.W.Frag) (a : Addr) : It :=
 ⟨fun i H => ∃ xs x, SqT K H a xs /\ xs[i]? = some x, fun i H x H' => H' = H /\ ∀ xs, SqT K H a xs -> xs[i]? = some x, fun i H => ∃ xs, SqT K H a xs /\ xs.length <= i⟩
noncomputable def Itr (lo : Int) (n : Nat) : It := ⟨fun i _ => i < n, fun i H x H' => H' = H /\ x = .int (lo + i), fun i _ => n <= i⟩
theorem turn_list {P : Program} {w : World} {K : PySem.W.Frag} {tg : Expr} (a it : Addr) : Turn P w K tg (Itl K a) [it] it (fun i h => h.IsListIter it a i) where
 mem := by simp
 obj := fun i h st b hb => by
  have e : b = it := by simpa using hb
  subst e
  obtain ⟨o, e, c, d⟩ := st
  exact ⟨o, e, fun v z => by rw [d] at z; cases z⟩
 keep := fun i h h' st k => st.at fun o e => k it (by simp) o e
 item := by
  intro X hP hw hK hc i pins s σ H E I hf st hg
  subst hP hw hK
  obtain ⟨xs, x, hq, hx⟩ := hg
  obtain ⟨its, rv, p, hz⟩ := I.list hq
  obtain ⟨u, hu, ru⟩ := rv.get hx
  obtain ⟨f0, f1, f2, f3, f4, f5⟩ := hf it (by simp)
  refine wpAny_pyNext_list_item st p.isList (x := u) (by simpa using hu) fun h' st' sb => ?_
  have I1 : Inv X pins σ H { s with heap := h' } := I.turned (t' := s.toks) (fun b o hb e => (sb.2 b hb).trans e) f0 f1 f3 f4 f5
  obtain ⟨o, e, c, d⟩ := id st'
  exact ⟨u, rfl, go_of (s := { s with heap := h' }) e c d (by decide) ⟨x, H, I1, ru, ⟨rfl, fun ys hy => by rw [I.list_inj hy hq]; exact hx⟩, st', fun b hb => (hf b hb).1⟩⟩
 done := by
  intro X hP hw hK hc i pins s σ H E I hf st hg
  subst hP hw hK
  obtain ⟨xs, hq, hx⟩ := hg
  obtain ⟨its, rv, p, hz⟩ := I.list hq
  obtain ⟨f0, f1, f2, f3, f4, f5⟩ := hf it (by simp)
  have hl := rv.length
  exact wpAny_pyNext_list_end (I.ok.hd hc) st p.isList (by simp; omega) fun h' eb => ⟨rfl, I.turned (t' := s.toks) (fun b o hb e => eb b o hb e) f0 f1 f3 f4 f5⟩
 self := fun _ _ _ _ _ st h => wpAny_pyIter_listiter st h
theorem turn_tuple {P : Program} {w : World} {K : PySem.W.Frag} {tg : Expr} (a it : Addr) : Turn P w K tg (Itt K a) [it] it (fun i h => h.IsTupleIter it a i) where
 mem := by simp
 obj := fun i h st b hb => by
  have e : b = it := by simpa using hb
  subst e
  obtain ⟨o, e, c, d⟩ := st
  exact ⟨o, e, fun v z => by rw [d] at z; cases z⟩
 keep := fun i h h' st k => st.at fun o e => k it (by simp) o e
 item := by
  intro X hP hw hK hc i pins s σ H E I hf st hg
  subst hP hw hK
  obtain ⟨xs, x, hq, hx⟩ := hg
  obtain ⟨its, rv, p, hz⟩ := I.tuple hq
  obtain ⟨u, hu, ru⟩ := rv.get hx
  obtain ⟨f0, f1, f2, f3, f4, f5⟩ := hf it (by simp)
  refine wpAny_pyNext_tuple_item st (show s.heap.IsTuple a its.toArray from p) (x := u) (by simpa using hu) fun h' st' sb => ?_
  have I1 : Inv X pins σ H { s with heap := h' } := I.turned (t' := s.toks) (fun b o hb e => (sb.2 b hb).trans e) f0 f1 f3 f4 f5
  obtain ⟨o, e, c, d⟩ := id st'
  exact ⟨u, rfl, go_of (s := { s with heap := h' }) e c d (by decide) ⟨x, H, I1, ru, ⟨rfl, fun ys hy => by rw [I.tuple_inj hy hq]; exact hx⟩, st', fun b hb => (hf b hb).1⟩⟩
 done := by
  intro X hP hw hK hc i pins s σ H E I hf st hg
  subst hP hw hK
  obtain ⟨xs, hq, hx⟩ := hg
  obtain ⟨its, rv, p, hz⟩ := I.tuple hq
  obtain ⟨f0, f1, f2, f3, f4, f5⟩ := hf it (by simp)
  have hl := rv.length
  exact wpAny_pyNext_tuple_end (I.ok.hd hc) st (show s.heap.IsTuple a its.toArray from p) (by simp; omega) fun h' eb => ⟨rfl, I.turned (t' := s.toks) (fun b o hb e => eb b o hb e) f0 f1 f3 f4 f5⟩
 self := fun _ _ _ _ _ st h => wpAny_pyIter_tupleiter st h
theorem turn_range {P : Program} {w : World} {K : PySem.W.Frag} {tg : Expr} (it : Addr) (lo : Int) (n : Nat) : Turn P w K tg (Itr lo n) [it] it (fun i h => IsRangeIter h it (lo + (i : Nat) * 1) ((n : Int) - (i : Nat)) 1) where
 mem := by simp
 obj := fun i h st b hb => by
  have e : b = it := by simpa using hb
  subst e
  exact ⟨_, st, fun v z => by
   have z' : Data.fields _ = Data.cell v := z
   cases z'⟩
 keep := fun i h h' st k => k it (by simp) _ st
 item := by
  intro X hP hw hK hc i pins s σ H E I hf st hg
  subst hP hw hK
  obtain ⟨f0, f1, f2, f3, f4, f5⟩ := hf it (by simp)
  have W := Walks.range (prog := X.prog) (w := X.w) (I.ok.hd hc) it lo 1 n
  refine W.item i s _ _ hg st fun v h' tk hv st' kk => ?_
  obtain ⟨t, rfl⟩ := hv
  have I1 : Inv X pins σ H { s with heap := h', toks := tk } := I.turned (fun b o hb e => kk b o (by simpa using hb) e) f0 f1 f3 f4 f5
  refine ⟨_, rfl, go_of (s := { s with heap := h', toks := tk }) (n := "range_iterator") st' rfl rfl (by decide) ⟨.int (lo + i), H, I1, ⟨t, ?_⟩, ⟨rfl, rfl⟩, st', fun b hb => (hf b hb).1⟩⟩
  rw [Int.mul_one]
 done := by
  intro X hP hw hK hc i pins s σ H E I hf st hg
  subst hP hw hK
  obtain ⟨f0, f1, f2, f3, f4, f5⟩ := hf it (by simp)
  exact wpAny_pyNext_range_end (I.ok.hd hc) st (by have : n <= i := hg; omega) fun h' eb => ⟨rfl, I.turned (t' := s.toks) (fun b o hb e => eb b o hb e) f0 f1 f3 f4 f5⟩
 self := fun _ _ _ _ _ st h => wpAny_pyIter_rangeiter st h
section
variable {X : Cx} {tg : Expr}
noncomputable def iList (K : PySem.W.Frag) (tl : TE) : TI := fun σ H R => tl σ H fun x H1 => ∃ a, x = .ref a /\ (∃ xs, SqL K H1 a xs) /\ R (Itl K a) H1
noncomputable def iTup (K : PySem.W.Frag) (tl : TE) : TI := fun σ H R => tl σ H fun x H1 => ∃ a, x = .ref a /\ (∃ xs, SqT K H1 a xs) /\ R (Itt K a) H1
theorem pi_list {l : Expr} {tl : TE} (hl : PE X l tl) : PI X tg l (iList X.K tl) := by
 intro pins s σ H R I h
 refine thn (hl pins s σ H _ I h) fun v s1 ⟨x, H1, I1, r1, q1⟩ => ?_
 obtain ⟨a, e, ⟨xs, hq⟩, q⟩ := q1
 subst e
 cases r1
 obtain ⟨its, rv, p, hz⟩ := I1.list hq
 refine wpAny_pyIter_list p.isList ?_
 refine ⟨s1.heap.objs.size, [s1.heap.objs.size], _, _, H1, rfl, I1.kept (t' := s1.toks) fun b o e => Heap.get?_push_of_some _ e, turn_list a _, ⟨_, Heap.get?_push_size _ rfl, rfl, rfl⟩, fun b hb => ?_, q⟩
 have e : b = s1.heap.objs.size := by simpa using hb
 subst e
 exact I1.fpOk (Nat.le_refl _) (I1.hok.fresh (Nat.le_refl _))
theorem pi_tup {l : Expr} {tl : TE} (hl : PE X l tl) : PI X tg l (iTup X.K tl) := by
 intro pins s σ H R I h
 refine thn (hl pins s σ H _ I h) fun v s1 ⟨x, H1, I1, r1, q1⟩ => ?_
 obtain ⟨a, e, ⟨xs, hq⟩, q⟩ := q1
 subst e
 cases r1
 obtain ⟨its, rv, p, hz⟩ := I1.tuple hq
 refine wpAny_pyIter_tuple (show s1.heap.IsTuple a its.toArray from p) ?_
 refine ⟨s1.heap.objs.size, [s1.heap.objs.size], _, _, H1, rfl, I1.kept (t' := s1.toks) fun b o e => Heap.get?_push_of_some _ e, turn_tuple a _, ⟨_, Heap.get?_push_size _ rfl, rfl, rfl⟩, fun b hb => ?_, q⟩
 have e : b = s1.heap.objs.size := by simpa using hb
 subst e
 exact I1.fpOk (Nat.le_refl _) (I1.hok.fresh (Nat.le_refl _))
theorem range_it {pins : List (Addr × Obj)} {σ : St} {H : Hp} {s : Shared} {R : It -> Hp -> Prop} {E : Value -> Shared -> Prop} {lo hi : Int} {t u v : Tok} {tk : Nat} (I : Inv X pins σ H s) (h1 : -(2 ^ 62) <= lo) (h2 : lo < 2 ^ 62) (h3 : -(2 ^ 62) <= hi) (h4 : hi < 2 ^ 62)
  (q : R (Itr lo (hi - lo).toNat) H) : wpAny (model X.prog X.w) X.A (pyIter (.ref s.heap.objs.size)) (PIE X pins σ tg R) E { s with heap := s.heap.push { cls := .type "range", data := .fields #[.int lo t, .int hi u, .int 1 v] }, toks := tk } := by
 refine wpAny_pyIter_range (IsRange.new ..) (small_one h1 h2 h3 h4) ?_
 have I1 : Inv X pins σ H { s with heap := s.heap.push { cls := .type "range", data := .fields #[.int lo t, .int hi u, .int 1 v] }, toks := tk } := I.kept fun b o e => Heap.get?_push_of_some _ e
 refine ⟨(s.heap.push { cls := .type "range", data := .fields #[.int lo t, .int hi u, .int 1 v] }).objs.size, [(s.heap.push { cls := .type "range", data := .fields #[.int lo t, .int hi u, .int 1 v] }).objs.size], _, _, H, rfl,
  I1.kept (t' := tk) fun b o e => Heap.get?_push_of_some _ e, turn_range _ lo (hi - lo).toNat, ?_, fun b hb => ?_, q⟩
 ·have e1 : lo + ((0 : Nat) : Int) * 1 = lo := by simp
  have e2 : (((hi - lo).toNat : Nat) : Int) - ((0 : Nat) : Int) = Builtin.Range.rangeSize lo hi 1 := by rw [rangeSize_one]; split <;> omega
  show IsRangeIter _ _ (lo + ((0 : Nat) : Int) * 1) ((((hi - lo).toNat : Nat) : Int) - ((0 : Nat) : Int)) 1
  rw [e1, e2]
  exact Heap.get?_push_size _ rfl
 ·have e : b = (s.heap.push { cls := .type "range", data := .fields #[.int lo t, .int hi u, .int 1 v] }).objs.size := by simpa using hb
  subst e
  exact I1.fpOk (Nat.le_refl _) (I1.hok.fresh (Nat.le_refl _))
noncomputable def iRng1 (ta : TA) : TI := fun σ H R => ta σ H fun vs H1 => ∃ j : Int, vs = [.int j] /\ -(2 ^ 62) <= j /\ j < 2 ^ 62 /\ R (Itr 0 j.toNat) H1
theorem pi_range1 {a : Expr} {ta : TA} {p pos : Pos} (hg : Gl X "range") (hm : X.mg "range" = none) (ha : PA X [a] ta) (hs : starEach [a] X.env = [(false, eval a X.env)] := by rfl) : PI X tg (.Call (.Name "range" p) [a] [] pos) (iRng1 ta) := by
 intro pins s σ H R I h
 refine Call_ (ld_blt I hg hm boot_range (PyProof.Rows.callWith_type1 (thn (ha pos pins s σ H _ I h) fun us s1 ⟨vs, H1, I1, r1, q1⟩ => ?_) hs rfl))
 obtain ⟨j, e, q1, q2, q⟩ := q1
 subst e
 cases r1 with
 | cons r rr =>
  cases rr
  obtain ⟨t, rfl⟩ := r
  exact call_range_1 (range_it I1 (by omega) (by omega) q1 q2 (by simpa using q))
noncomputable def tFor (wi : TI) (g : TG) (tb : TS) : TS := fun D σ H => wi σ H fun J H1 => ∃ W : Nat -> Nat -> St -> Hp -> Prop, (∃ m, W 0 m σ H1) /\ ∀ i m σ H, W i m σ H ->
 (J.stop i H /\ D.nx σ H) \/ (J.go i H /\ ∃ N : St -> Hp -> Prop, (∀ σ' H', N σ' H' -> ∃ m', m' < m /\ W (i + 1) m' σ' H') /\ ∀ x H', J.yld i H x H' -> g x σ H' fun σ2 H2 => tb { D with nx := N, ct := N, bk := D.nx } σ2 H2)
noncomputable def pinsAt (fp : List Addr) (h : Heap) : List (Addr × Obj) := fp.filterMap fun b => (h.get? b).map fun o => (b, o)
theorem mem_pinsAt {fp : List Addr} {h : Heap} {b : Addr} {o : Obj} (hb : b ∈ fp) (e : h.get? b = some o) : (b, o) ∈ pinsAt fp h := List.mem_filterMap.mpr ⟨b, hb, by rw [e]; rfl⟩
theorem of_pinsAt {fp : List Addr} {h : Heap} {p : Addr × Obj} (hp : p ∈ pinsAt fp h) : p.1 ∈ fp /\ h.get? p.1 = some p.2 := by
 obtain ⟨b, hb, e⟩ := List.mem_filterMap.mp hp
 cases q : h.get? b with
 | none => rw [q] at e; cases e
 | some o =>
  rw [q] at e
  have e' : (b, o) = p := Option.some.inj e
  subst e'
  exact ⟨hb, q⟩
theorem Inv.pinned {pins : List (Addr × Obj)} {σ : St} {H : Hp} {s : Shared} {fp : List Addr} (I : Inv X pins σ H s) (hf : ∀ b ∈ fp, FpOk X pins H b) (ho : ∀ b ∈ fp, ∃ o, s.heap.get? b = some o /\ ∀ v, o.data ≠ .cell v) : Inv X (pins ++ pinsAt fp s.heap) σ H s :=
 I.pins_of fun p hp => (List.mem_append.mp hp).elim (fun z => I.pin p (List.mem_append_right _ z)) fun z => by
  obtain ⟨hb, e⟩ := of_pinsAt z
  obtain ⟨f0, f1, f2, _⟩ := hf p.1 hb
  obtain ⟨o, e', d⟩ := ho p.1 hb
  rw [e] at e'; cases e'
  exact ⟨e, f0, f1, f2, d⟩
theorem Inv.unpinned {pins pl : List (Addr × Obj)} {σ : St} {H : Hp} {s : Shared} (I : Inv X (pins ++ pl) σ H s) : Inv X pins σ H s := I.pins_of fun p hp => I.pin p (List.mem_append_right _ (List.mem_append_left _ hp))
theorem ps_for {iter : Expr} {body : List Stmt} {wi : TI} {g : TG} {tb : TS} {pos : Pos} (hp : PassesOwn (model X.prog X.w) X.A X.env X.xe) (hc : X.calm = true) (hi : PI X tg iter wi) (hg : PG X tg g) (hb : PSs X body tb)
  (hs : ∀ x, foldedSetIterable iter X.env x = pure x := by intro _; rfl) : PS X (.For tg iter body [] pos) (tFor wi g tb) := by
 intro pins s σ H D I h
 refine wpAny_For (thn (hi pins s σ H _ I h) fun v s1 h1 => thn h1 fun itv s2 h2 => ?_) hs
 obtain ⟨it, fp, tn, J, H2, e, I2, T, st2, f2, W, ⟨m0, w0⟩, turn⟩ := h2
 subst e
 have stat : ∀ {H' : Hp}, (∀ b ∈ fp, H' b = none) -> ∀ b ∈ fp, FpOk X pins H' b := fun hn b hb => ⟨hn b hb, (f2 b hb).2⟩
 refine codeAny_forLoop_any (fun n s' => ∃ i σ' H', Inv X pins σ' H' s' /\ tn i s'.heap /\ (∀ b ∈ fp, H' b = none) /\ W i n σ' H') ?_ m0 ⟨0, σ, H2, I2, st2, fun b hb => (f2 b hb).1, w0⟩
 rintro n s3 ⟨i, σ3, H3, I3, st3, fr3, w3⟩
 rcases turn i n σ3 H3 w3 with ⟨stop, qn⟩ | ⟨go, N, hN, step⟩
 ·refine wpAny_passesOwn hp (thn (T.done X rfl rfl rfl hc i pins s3 σ3 H3 X.xe I3 (stat fr3) st3 stop) fun r s4 ⟨hr, I4⟩ => ?_)
  subst hr
  exact wpAny_execs_nil ⟨σ3, H3, I4, qn⟩
 ·refine wpAny_passesOwn hp (thn (T.item X rfl rfl rfl hc i pins s3 σ3 H3 X.xe I3 (stat fr3) st3 go) fun r s4 ⟨u, hr, h4⟩ => ?_)
  subst hr
  refine wpAny_passesOwn hp (thn h4 fun _ s5 ⟨x, H5, I5, r5, y5, st5, fr5⟩ => ?_)
  have I5' := I5.pinned (stat fr5) (T.obj _ _ st5)
  refine wpAny_passesOwn hp (thn (hg _ s5 σ3 H5 x u _ I5' r5 (step x H5 y5)) fun _ s6 ⟨σ6, H6, I6, q6⟩ => ?_)
  refine wpAny_passesOwn hp (thn (hb _ s6 σ6 H6 _ I6 q6) fun f s7 q7 => ?_)
  have again : ∀ {σ7 : St} {H7 : Hp}, Inv X (pins ++ pinsAt fp s5.heap) σ7 H7 s7 -> N σ7 H7 -> ∃ m, m < n /\ ∃ i σ' H', Inv X pins σ' H' s7 /\ tn i s7.heap /\ (∀ b ∈ fp, H' b = none) /\ W i m σ' H' := fun {σ7 H7} I7 n7 => by
   obtain ⟨m', hm, w7⟩ := hN σ7 H7 n7
   refine ⟨m', hm, i + 1, σ7, H7, I7.unpinned, T.keep _ _ _ st5 fun b hb o e => (I7.pin (b, o) (List.mem_append_right _ (List.mem_append_right _ (mem_pinsAt hb e)))).1, fun b hb => ?_, w7⟩
   obtain ⟨o, e, d⟩ := T.obj _ _ st5 b hb
   exact (I7.pin (b, o) (List.mem_append_right _ (List.mem_append_right _ (mem_pinsAt hb e)))).2.1
  cases f with
  | next => obtain ⟨σ7, H7, I7, n7⟩ := q7; exact again I7 n7
  | cont => obtain ⟨σ7, H7, I7, n7⟩ := q7; exact again I7 n7
  | brk => obtain ⟨σ7, H7, I7, q7⟩ := q7; exact ⟨σ7, H7, I7.unpinned, q7⟩
  | ret v => obtain ⟨x7, σ7, H7, I7, r7, q7⟩ := q7; exact ⟨x7, σ7, H7, I7.unpinned, r7, q7⟩
end
theorem for_tup {K : PySem.W.Frag} {a : Addr} {xs : List V} {g : TG} {tb : TS} {D : Ends} {σ : St} {H : Hp} (Pv : Nat -> St -> Hp -> Prop) (h0 : Pv 0 σ H) (hl : ∀ i σ H, i <= xs.length -> Pv i σ H -> SqT K H a xs)
  (hs : ∀ i x σ H, xs[i]? = some x -> Pv i σ H -> g x σ H fun σ2 H2 => tb { D with nx := Pv (i + 1), ct := Pv (i + 1), bk := D.nx } σ2 H2) (hd : ∀ σ H, Pv xs.length σ H -> D.nx σ H) :
  ∃ W : Nat -> Nat -> St -> Hp -> Prop, (∃ m, W 0 m σ H) /\ ∀ i m σ H, W i m σ H ->
   ((Itt K a).stop i H /\ D.nx σ H) \/ ((Itt K a).go i H /\ ∃ N : St -> Hp -> Prop, (∀ σ' H', N σ' H' -> ∃ m', m' < m /\ W (i + 1) m' σ' H') /\ ∀ x H', (Itt K a).yld i H x H' -> g x σ H' fun σ2 H2 => tb { D with nx := N, ct := N, bk := D.nx } σ2 H2) := by
 refine ⟨fun i m σ H => m = xs.length - i /\ i <= xs.length /\ Pv i σ H, ⟨xs.length, by simp, Nat.zero_le _, h0⟩, ?_⟩
 rintro i m σ H ⟨rfl, hi, p⟩
 have q := hl i σ H hi p
 by_cases hlt : i < xs.length
 ·refine .inr ⟨⟨xs, xs[i], q, by simp [hlt]⟩, Pv (i + 1), fun σ' H' p' => ⟨xs.length - (i + 1), by omega, rfl, hlt, p'⟩, fun x H' y => ?_⟩
  obtain ⟨e, y⟩ := y
  subst e
  exact hs i x σ _ (y xs q) p
 ·have e : i = xs.length := by omega
  subst e
  exact .inl ⟨⟨xs, q, Nat.le_refl _⟩, hd σ H p⟩
theorem for_range {lo : Int} {n : Nat} {g : TG} {tb : TS} {D : Ends} {σ : St} {H : Hp} (Pv : Nat -> St -> Hp -> Prop) (h0 : Pv 0 σ H)
  (hs : ∀ i σ H, i < n -> Pv i σ H -> g (.int (lo + i)) σ H fun σ2 H2 => tb { D with nx := Pv (i + 1), ct := Pv (i + 1), bk := D.nx } σ2 H2) (hd : ∀ σ H, Pv n σ H -> D.nx σ H) :
  ∃ W : Nat -> Nat -> St -> Hp -> Prop, (∃ m, W 0 m σ H) /\ ∀ i m σ H, W i m σ H ->
   ((Itr lo n).stop i H /\ D.nx σ H) \/ ((Itr lo n).go i H /\ ∃ N : St -> Hp -> Prop, (∀ σ' H', N σ' H' -> ∃ m', m' < m /\ W (i + 1) m' σ' H') /\ ∀ x H', (Itr lo n).yld i H x H' -> g x σ H' fun σ2 H2 => tb { D with nx := N, ct := N, bk := D.nx } σ2 H2) := by
 refine ⟨fun i m σ H => m = n - i /\ i <= n /\ Pv i σ H, ⟨n, by simp, Nat.zero_le _, h0⟩, ?_⟩
 rintro i m σ H ⟨rfl, hi, p⟩
 by_cases hlt : i < n
 ·refine .inr ⟨hlt, Pv (i + 1), fun σ' H' p' => ⟨n - (i + 1), by omega, rfl, hlt, p'⟩, fun x H' y => ?_⟩
  obtain ⟨e, y⟩ := y
  subst e y
  exact hs i σ _ hlt p
 ·have e : i = n := by omega
  subst e
  exact .inl ⟨Nat.le_refl _, hd σ H p⟩
noncomputable abbrev R2 := V -> V -> Hp -> VK -> Prop
noncomputable def OpR (X : Cx) (f : Value -> Value -> Sem Value) (r : R2) : Prop :=
 ∀ (pins : List (Addr × Obj)) (s : Shared) (σ : St) (H : Hp) (x y : V) (v u : Value) (Q : VK), Inv X pins σ H s -> RelV x v -> RelV y u -> r x y H Q ->
  wpAny (model X.prog X.w) X.A (f v u) (EP X pins σ Q) X.xe s
noncomputable def UnR (X : Cx) (f : Value -> Sem Value) (r : V -> Hp -> VK -> Prop) : Prop :=
 ∀ (pins : List (Addr × Obj)) (s : Shared) (σ : St) (H : Hp) (x : V) (v : Value) (Q : VK), Inv X pins σ H s -> RelV x v -> r x H Q ->
  wpAny (model X.prog X.w) X.A (f v) (EP X pins σ Q) X.xe s
noncomputable def CallR (X : Cx) (f : Value) (r : List V -> Hp -> VK -> Prop) : Prop :=
 ∀ (pins : List (Addr × Obj)) (s : Shared) (σ : St) (H : Hp) (xs : List V) (us : List Value) (Q : VK), Inv X pins σ H s -> Vals xs us -> r xs H Q ->
  wpAny (model X.prog X.w) X.A (call f us) (EP X pins σ Q) X.xe s
noncomputable def tOp (r : R2) (ta tb : TE) : TE := fun σ H Q => ta σ H fun x H1 => tb σ H1 fun y H2 => r x y H2 Q
noncomputable def tUn (r : V -> Hp -> VK -> Prop) (ta : TE) : TE := fun σ H Q => ta σ H fun x H1 => r x H1 Q
noncomputable def rI (C : Int -> Int -> Prop) (g : Int -> Int -> V) : R2 := fun x y H Q => ∃ i j, x = .int i /\ y = .int j /\ C i j /\ Q (g i j) H
noncomputable def rI0 (g : Int -> Int -> V) : R2 := fun x y H Q => ∃ i j, x = .int i /\ y = .int j /\ Q (g i j) H
noncomputable def rU (g : Int -> V) : V -> Hp -> VK -> Prop := fun x H Q => ∃ i, x = .int i /\ Q (g i) H
section
variable {X : Cx} {a b c : Expr} {ta tb tc : TE} {pos : Pos}
theorem binT (ha : PE X a ta) (hb : PE X b tb) {pins : List (Addr × Obj)} {s : Shared} {σ : St} {H : Hp} {R : V -> V -> Hp -> Prop} (I : Inv X pins σ H s)
  (h : ta σ H fun x H1 => tb σ H1 fun y H2 => R x y H2) {Q : Value -> Shared -> Prop} {f : Value -> Value -> Sem Value}
  (hf : ∀ v u s2 x y H2, Inv X pins σ H2 s2 -> RelV x v -> RelV y u -> R x y H2 -> wpAny (model X.prog X.w) X.A (f v u) Q X.xe s2) :
  wpAny (model X.prog X.w) X.A (eval a X.env) (fun v s₁ => wpAny (model X.prog X.w) X.A (eval b X.env) (fun u s₂ => wpAny (model X.prog X.w) X.A (f v u) Q X.xe s₂) X.xe s₁) X.xe s := by
 refine thn (ha pins s σ H _ I h) fun v s1 ⟨x, H1, I1, r1, q1⟩ => ?_
 refine thn (hb pins s1 σ H1 _ I1 q1) fun u s2 ⟨y, H2, I2, r2, q2⟩ => ?_
 exact hf v u s2 x y H2 I2 r1 r2 q2
theorem pe_op {op : Operator} {r : R2} (ho : OpR X (binaryOp op) r) (ha : PE X a ta) (hb : PE X b tb) : PE X (.BinOp a op b pos) (tOp r ta tb) := by
 intro pins s σ H Q I h
 exact wpAny_BinOp (binT ha hb I h fun v u s2 x y H2 I2 rx ry q => ho pins s2 σ H2 x y v u Q I2 rx ry q)
theorem pe_un {op : UnaryOp} {r : V -> Hp -> VK -> Prop} (ho : UnR X (unaryOp op) r) (ha : PE X a ta) : PE X (.UnaryOp op a pos) (tUn r ta) := by
 intro pins s σ H Q I h
 exact UnaryOp_ (thn (ha pins s σ H _ I h) fun v s1 ⟨x, H1, I1, r1, q1⟩ => ho pins s1 σ H1 x v Q I1 r1 q1)
theorem opI {f : Value -> Value -> Sem Value} {C : Int -> Int -> Prop} {g : Int -> Int -> Int}
  (rule : ∀ (i j : Int) (t u : Tok) (s : Shared) (Q : Value -> Shared -> Prop) (E : Value -> Shared -> Prop), C i j -> Q (.int (g i j) s.toks) { s with toks := s.toks + 1 } -> wpAny (model X.prog X.w) X.A (f (.int i t) (.int j u)) Q E s) :
  OpR X f (rI C fun i j => .int (g i j)) := by
 intro pins s σ H x y v u Q I rx ry h
 obtain ⟨i, j, rfl, rfl, hc, q⟩ := h
 obtain ⟨t, rfl⟩ := rx
 obtain ⟨t', rfl⟩ := ry
 exact rule i j t t' s _ _ hc ⟨.int (g i j), H, I.tok _, ⟨_, rfl⟩, q⟩
theorem opI0 {f : Value -> Value -> Sem Value} {g : Int -> Int -> Int}
  (rule : ∀ (i j : Int) (t u : Tok) (s : Shared) (Q : Value -> Shared -> Prop) (E : Value -> Shared -> Prop), Q (.int (g i j) s.toks) { s with toks := s.toks + 1 } -> wpAny (model X.prog X.w) X.A (f (.int i t) (.int j u)) Q E s) :
  OpR X f (rI0 fun i j => .int (g i j)) := by
 intro pins s σ H x y v u Q I rx ry h
 obtain ⟨i, j, rfl, rfl, q⟩ := h
 obtain ⟨t, rfl⟩ := rx
 obtain ⟨t', rfl⟩ := ry
 exact rule i j t t' s _ _ ⟨.int (g i j), H, I.tok _, ⟨_, rfl⟩, q⟩
theorem opB0 {f : Value -> Value -> Sem Value} {g : Int -> Int -> Bool}
  (rule : ∀ (i j : Int) (t u : Tok) (s : Shared) (Q : Value -> Shared -> Prop) (E : Value -> Shared -> Prop), Q (.bool (g i j)) s -> wpAny (model X.prog X.w) X.A (f (.int i t) (.int j u)) Q E s) :
  OpR X f (rI0 fun i j => .bl (g i j)) := by
 intro pins s σ H x y v u Q I rx ry h
 obtain ⟨i, j, rfl, rfl, q⟩ := h
 obtain ⟨t, rfl⟩ := rx
 obtain ⟨t', rfl⟩ := ry
 exact rule i j t t' s _ _ ⟨.bl (g i j), H, I, rfl, q⟩
noncomputable def CDiv (i j : Int) : Prop := 0 < j /\ j < 1073741824
noncomputable def CMul (i j : Int) : Prop := (-(2 ^ 64) < i /\ i < 2 ^ 64) \/ (-(2 ^ 64) < j /\ j < 2 ^ 64)
theorem CMul.ok {i j : Int} (h : CMul i j) : IntMulOk i j := by
 rcases h with ⟨h1, h2⟩ | ⟨h1, h2⟩
 ·exact .of_left (intBits_le_64 h1 h2)
 ·exact .of_right (intBits_le_64 h1 h2)
theorem op_add : OpR X (binaryOp .Add) (rI0 fun i j => .int (i + j)) := opI0 fun _ _ _ _ _ _ _ q => add_int q
theorem op_sub : OpR X (binaryOp .Sub) (rI0 fun i j => .int (i - j)) := opI0 fun _ _ _ _ _ _ _ q => sub_int q
theorem op_mul : OpR X (binaryOp .Mult) (rI CMul fun i j => .int (i * j)) := opI fun _ _ _ _ _ _ _ hc q => mul_int q hc.ok
theorem op_fdiv : OpR X (binaryOp .FloorDiv) (rI CDiv fun i j => .int (i / j)) := opI fun i j _ _ _ _ _ hc q => by
 have h1 : (0 : Int) < j := hc.1
 have h2 : j < 1073741824 := hc.2
 exact floordiv_int (by omega) (by rw [Int.fdiv_eq_ediv_of_nonneg i (by omega)]; exact q) (.inl (PyProof.noPylong_small (by omega)))
theorem op_mod : OpR X (binaryOp .Mod) (rI (fun _ j => 0 < j) fun i j => .int (i % j)) := opI fun i j _ _ _ _ _ hc q => by
 have h1 : (0 : Int) < j := hc
 exact mod_int' (by omega) (by rw [Int.fmod_eq_emod_of_nonneg i (by omega)]; exact q)
theorem unI {f : Value -> Sem Value} {g : Int -> Int}
  (rule : ∀ (i : Int) (t : Tok) (s : Shared) (Q : Value -> Shared -> Prop) (E : Value -> Shared -> Prop), Q (.int (g i) s.toks) { s with toks := s.toks + 1 } -> wpAny (model X.prog X.w) X.A (f (.int i t)) Q E s) :
  UnR X f (rU fun i => .int (g i)) := by
 intro pins s σ H x v Q I rx h
 obtain ⟨i, rfl, q⟩ := h
 obtain ⟨t, rfl⟩ := rx
 exact rule i t s _ _ ⟨.int (g i), H, I.tok _, ⟨_, rfl⟩, q⟩
theorem un_neg : UnR X (unaryOp .USub) (rU fun i => .int (-i)) := unI fun _ _ _ _ _ q => neg_int q
end
noncomputable def scal : V -> V -> Bool
 | .non, .non => true | .non, .int _ => true | .int _, .non => true | .non, .bl _ => true | .bl _, .non => true | .non, .str _ => true | .str _, .non => true
 | .int _, .int _ => true | .bl _, .bl _ => true | .str _, .str _ => true | .byt _, .byt _ => true
 | .int _, .str _ => true | .str _, .int _ => true | .bl _, .str _ => true | .str _, .bl _ => true
 | _, _ => false
noncomputable def rEq : R2 := fun x y H Q => scal x y = true /\ Q (.bl (decide (x = y))) H
noncomputable def rNe : R2 := fun x y H Q => scal x y = true /\ Q (.bl (!decide (x = y))) H
theorem dec_int {i j : Int} : decide (V.int i = V.int j) = (i == j) := by
 rw [Bool.eq_iff_iff]
 simp
theorem dec_bl {i j : Bool} : decide (V.bl i = V.bl j) = (i == j) := by
 rw [Bool.eq_iff_iff]
 simp
theorem dec_str {i j : Str} : decide (V.str i = V.str j) = (i == j) := by
 rw [Bool.eq_iff_iff]
 simp
theorem dec_byt {i j : Array UInt8} : decide (V.byt i = V.byt j) = (i.toList == j.toList) := by
 rw [Bool.eq_iff_iff]
 cases i
 cases j
 simp
section
variable {X : Cx} {a b c : Expr} {ta tb tc : TE} {pos : Pos}
theorem fin_bl {pins : List (Addr × Obj)} {σ : St} {H : Hp} {s : Shared} {Q : VK} {k k' : Bool} (I : Inv X pins σ H s) (q : Q (.bl k) H) (e : k = k') : EP X pins σ Q (.bool k') s := by
 subst e
 exact ⟨.bl k, H, I, rfl, q⟩
theorem op_eq : OpR X (compareOp .Eq) rEq := by
 intro pins s σ H x y v u Q I rx ry h
 obtain ⟨hs, q⟩ := h
 cases x with
 | non =>
  cases rx
  cases y with
  | non => cases ry; exact PySem.EqNone.eq_none_none (fin_bl I q (by simp))
  | bl j => cases ry; exact PySem.EqNone.eq_none_bool (fin_bl I q (by simp))
  | int j => obtain ⟨t', rfl⟩ := ry; exact PySem.EqNone.eq_none_int (fin_bl I q (by simp))
  | str j => obtain ⟨t', rfl⟩ := ry; exact PySem.EqNone.eq_none_str (fin_bl I q (by simp))
  | _ => exact absurd (show false = true from hs) Bool.false_ne_true
 | bl i =>
  cases rx
  cases y with
  | non => cases ry; exact PySem.EqNone.eq_bool_none (fin_bl I q (by simp))
  | bl j => cases ry; exact eq_bool (fin_bl I q dec_bl)
  | str j => obtain ⟨t', rfl⟩ := ry; exact PySem.EqMixed.eq_bool_str (fin_bl I q (by simp))
  | _ => exact absurd (show false = true from hs) Bool.false_ne_true
 | int i =>
  obtain ⟨t, rfl⟩ := rx
  cases y with
  | non => cases ry; exact PySem.EqNone.eq_int_none (fin_bl I q (by simp))
  | int j => obtain ⟨t', rfl⟩ := ry; exact eq_int (fin_bl I q dec_int)
  | str j => obtain ⟨t', rfl⟩ := ry; exact PySem.EqMixed.eq_int_str (fin_bl I q (by simp))
  | _ => exact absurd (show false = true from hs) Bool.false_ne_true
 | str i =>
  obtain ⟨t, rfl⟩ := rx
  cases y with
  | non => cases ry; exact PySem.EqNone.eq_str_none (fin_bl I q (by simp))
  | bl j => cases ry; exact PySem.EqMixed.eq_str_bool (fin_bl I q (by simp))
  | int j => obtain ⟨t', rfl⟩ := ry; exact PySem.EqMixed.eq_str_int (fin_bl I q (by simp))
  | str j => obtain ⟨t', rfl⟩ := ry; exact eq_str (fin_bl I q dec_str)
  | _ => exact absurd (show false = true from hs) Bool.false_ne_true
 | byt i =>
  obtain ⟨t, rfl⟩ := rx
  cases y with
  | byt j => obtain ⟨t', rfl⟩ := ry; exact PySem.W.eq_bytes (fin_bl I q dec_byt)
  | _ => exact absurd (show false = true from hs) Bool.false_ne_true
 | _ => cases y <;> exact absurd (show false = true from hs) Bool.false_ne_true
theorem op_ne : OpR X (compareOp .NotEq) rNe := by
 intro pins s σ H x y v u Q I rx ry h
 obtain ⟨hs, q⟩ := h
 cases x with
 | non =>
  cases rx
  cases y with
  | non => cases ry; exact PySem.EqNone.ne_none_none (fin_bl I q (by simp))
  | bl j => cases ry; exact PySem.EqNone.ne_none_bool (fin_bl I q (by simp))
  | int j => obtain ⟨t', rfl⟩ := ry; exact PySem.EqNone.ne_none_int (fin_bl I q (by simp))
  | str j => obtain ⟨t', rfl⟩ := ry; exact PySem.EqNone.ne_none_str (fin_bl I q (by simp))
  | _ => exact absurd (show false = true from hs) Bool.false_ne_true
 | bl i =>
  cases rx
  cases y with
  | non => cases ry; exact PySem.EqNone.ne_bool_none (fin_bl I q (by simp))
  | bl j => cases ry; exact ne_bool (fin_bl I q (congrArg not dec_bl))
  | str j => obtain ⟨t', rfl⟩ := ry; exact PySem.EqMixed.ne_bool_str (fin_bl I q (by simp))
  | _ => exact absurd (show false = true from hs) Bool.false_ne_true
 | int i =>
  obtain ⟨t, rfl⟩ := rx
  cases y with
  | non => cases ry; exact PySem.EqNone.ne_int_none (fin_bl I q (by simp))
  | int j => obtain ⟨t', rfl⟩ := ry; exact ne_int (fin_bl I q (congrArg not dec_int))
  | str j => obtain ⟨t', rfl⟩ := ry; exact PySem.EqMixed.ne_int_str (fin_bl I q (by simp))
  | _ => exact absurd (show false = true from hs) Bool.false_ne_true
 | str i =>
  obtain ⟨t, rfl⟩ := rx
  cases y with
  | non => cases ry; exact PySem.EqNone.ne_str_none (fin_bl I q (by simp))
  | bl j => cases ry; exact PySem.EqMixed.ne_str_bool (fin_bl I q (by simp))
  | int j => obtain ⟨t', rfl⟩ := ry; exact PySem.EqMixed.ne_str_int (fin_bl I q (by simp))
  | str j => obtain ⟨t', rfl⟩ := ry; exact ne_str (fin_bl I q (congrArg not dec_str))
  | _ => exact absurd (show false = true from hs) Bool.false_ne_true
 | byt i =>
  obtain ⟨t, rfl⟩ := rx
  cases y with
  | byt j => obtain ⟨t', rfl⟩ := ry; exact PySem.W.ne_bytes (fin_bl I q (congrArg not dec_byt))
  | _ => exact absurd (show false = true from hs) Bool.false_ne_true
 | _ => cases y <;> exact absurd (show false = true from hs) Bool.false_ne_true
theorem op_lt : OpR X (compareOp .Lt) (rI0 fun i j => .bl (decide (i < j))) := opB0 fun _ _ _ _ _ _ _ q => lt_int q
theorem op_gt : OpR X (compareOp .Gt) (rI0 fun i j => .bl (decide (j < i))) := opB0 fun _ _ _ _ _ _ _ q => gt_int q
theorem op_in_str : OpR X (compareOp .In) (fun x y H Q => ∃ i j, x = .str i /\ y = .str j /\ Q (.bl (!(Builtin.Str.occurrences j i 0 j.length 1).isEmpty)) H) := by
 intro pins s σ H x y v u Q I rx ry h
 obtain ⟨i, j, rfl, rfl, q⟩ := h
 obtain ⟨t, rfl⟩ := rx
 obtain ⟨t', rfl⟩ := ry
 exact in_str (fin_bl I q rfl)
theorem nomark (b : Expr) {op : CmpOp} (h : op ≠ .In := by decide) (h2 : op ≠ .NotIn := by decide) : behindInMarks op b = false := by
 have e1 : (op == CmpOp.In) = false := by cases op <;> first | rfl | exact absurd rfl h
 have e2 : (op == CmpOp.NotIn) = false := by cases op <;> first | rfl | exact absurd rfl h2
 cases b <;> simp [behindInMarks, e1, e2]
theorem pe_cmpR {op : CmpOp} {r : R2} (ho : OpR X (compareOp op) r) (ha : PE X a ta) (hb : PE X b tb) (hm : behindInMarks op b = false) : PE X (.Compare a [op] [b] pos) (tOp r ta tb) := by
 intro pins s σ H Q I h
 exact wpAny_Compare1 (binT ha hb I h fun v u s2 x y H2 I2 rx ry q => ho pins s2 σ H2 x y v u Q I2 rx ry q) hm
noncomputable def tTest (t : TE) : TT := fun σ H Q => t σ H fun x H' => ∃ k, x = .bl k /\ Q k H'
theorem pt_cmpR {op : CmpOp} {r : R2} (ho : OpR X (compareOp op) r) (ha : PE X a ta) (hb : PE X b tb) (hm : behindInMarks op b = false) : PT X (.Compare a [op] [b] pos) (tTest (tOp r ta tb)) := by
 intro pins s σ H Q I h
 refine wpAny_isTrue_Compare1 (thn (ha pins s σ H _ I h) fun v s1 ⟨x, H1, I1, r1, q1⟩ => thn (hb pins s1 σ H1 _ I1 q1) fun u s2 ⟨y, H2, I2, r2, q2⟩ =>
  thn (ho pins s2 σ H2 x y v u _ I2 r1 r2 q2) fun c s3 ⟨z, H3, I3, r3, k, e, q3⟩ => ?_) hm
 subst e
 cases r3
 exact wpAny_truthy_bool ⟨H3, I3, q3⟩
theorem line63 : (sizeLine : Nat) < 2 ^ 63 := by rw [sizeLine_eq]; decide
theorem op_add_str : OpR X (binaryOp .Add) (fun x y H Q => ∃ i j, x = .str i /\ y = .str j /\ i.length + j.length <= sizeLine /\ Q (.str (i ++ j)) H) := by
 intro pins s σ H x y v u Q I rx ry h
 obtain ⟨i, j, rfl, rfl, hz, q⟩ := h
 obtain ⟨t, rfl⟩ := rx
 obtain ⟨t', rfl⟩ := ry
 exact add_str (fun t' tk => ⟨.str (i ++ j), H, I.tok _, ⟨_, rfl⟩, q⟩) hz
theorem vals1 {x : V} {us : List Value} (r : Vals [x] us) : ∃ u, us = [u] /\ RelV x u := by
 cases r with
 | cons r1 r2 => cases r2; exact ⟨_, rfl, r1⟩
theorem vals2 {x y : V} {us : List Value} (r : Vals [x, y] us) : ∃ u w', us = [u, w'] /\ RelV x u /\ RelV y w' := by
 cases r with
 | cons r1 r2 =>
  cases r2 with
  | cons r3 r4 => cases r4; exact ⟨_, _, rfl, r1, r3⟩
theorem call_int1 : CallR X (.type "int") (fun xs H Q => (∃ i, xs = [.int i] /\ Q (.int i) H) \/ ∃ k, xs = [.bl k] /\ Q (.int (if k then 1 else 0)) H) := by
 intro pins s σ H xs us Q I r h
 rcases h with ⟨i, rfl, q⟩ | ⟨k, rfl, q⟩
 ·obtain ⟨u, rfl, t, rfl⟩ := vals1 r
  exact call_int_int ⟨.int i, H, I, ⟨_, rfl⟩, q⟩
 ·obtain ⟨u, rfl, r1⟩ := vals1 r
  cases r1
  exact call_int_bool ⟨.int (if k then 1 else 0), H, I.tok _, ⟨_, rfl⟩, q⟩
end
structure ObjM (h : Heap) (x dx C : Addr) (mA : Str -> Option Value) : Prop where
 obj : h.get? x = some (PySem.W.instObj C dx)
 ns : h.Ns1 dx mA
 ne : dx ≠ x
theorem lookIn_ns {h : Heap} {dx : Addr} {mA : Str -> Option Value} (n : h.Ns1 dx mA) : ∃ od, h.get? dx = some od /\ ∀ name, PySem.W.lookIn name od = some (mA name) := by
 obtain ⟨o, es, ep, ho, hd, hk, _, hm⟩ := n
 refine ⟨o, ho, fun name => ?_⟩
 have e := hm name
 unfold nsFind findBy at e
 rw [<- Array.find?_toList] at e
 unfold PySem.W.lookIn
 rw [hd]
 dsimp only
 split
 ·rename_i y q
  rw [q] at e
  exact congrArg some e
 ·rename_i q
  rw [q] at e
  have a : es.toList.any (·.refKey) = false := by
   rw [List.any_eq_false]
   intro y hy
   obtain ⟨z, t, hkey⟩ := hk y (Array.mem_toList_iff.mp hy)
   simp [DictEntry.refKey, hkey]
  have a' : ¬ es.toList.any (·.refKey) = true := by rw [a]; exact Bool.false_ne_true
  rw [if_neg a']
  exact congrArg some e
theorem ObjM.look {h : Heap} {x dx C : Addr} {mA : Str -> Option Value} (I : ObjM h x dx C mA) : ∃ od, PySem.W.InstAt h x (PySem.W.instObj C dx) C (some od) /\ ∀ name, PySem.W.lookIn name od = some (mA name) :=
 let ⟨od, ho, hl⟩ := lookIn_ns I.ns
 ⟨od, ⟨I.obj, rfl, rfl, ho⟩, hl⟩
section
variable {prog : Program} {w : World} {A : Around} {E : Value -> Shared -> Prop} {s : Shared} {K : PySem.W.Frag} {x dx C f : Addr} {mA : Str -> Option Value} {name : Str} {v : Value}
theorem get_map {expr : Bool} {Q : Value -> Shared -> Prop} (X : K.In s.heap) (I : ObjM s.heap x dx C mA) (hg : PySem.W.plainGet K C name = true) (hh : PySem.W.hasDictIn K C = true)
  (ha : PySem.W.findIn K (.ref C) name = some none) (hv : mA name = some v) (hv' : PySem.W.handedIn v = true) (h : Q v { s with toks := s.toks + 1 }) :
  wpAny (model prog w) A (getAttr (.ref x) name expr) Q E s := by
 obtain ⟨od, J, hl⟩ := I.look
 exact PySem.W.get_value X J (PySem.W.plainGet_of hg).1 (PySem.W.findObj_own hh ha rfl (by rw [hl, hv])) hv' h
theorem get_meth {pl : Sem Bool} {Q : Value × List Value -> Shared -> Prop} (X : K.In s.heap) (I : ObjM s.heap x dx C mA) (hg : PySem.W.plainGet K C name = true)
  (hf : PySem.W.findIn K (.ref C) name = some (some (.ref f))) (ht : PySem.W.isFn K (.ref f) = true) (hv : mA name = none) (h : Q (.ref f, [.ref x]) s) :
  wpAny (model prog w) A (getMethod (.ref x) name pl) Q E s := by
 obtain ⟨od, J, hl⟩ := I.look
 exact PySem.W.method_fn X J (PySem.W.plainGet_of hg).1 (PySem.W.plainGet_of hg).2 hf (beq_iff_eq.mp ht) (by show (PySem.W.lookIn name od).map (·.isSome) = some false; rw [hl, hv]; rfl) h
theorem set_map {ns : List Str} {Q : Unit -> Shared -> Prop} (X : K.In s.heap) (I : ObjM s.heap x dx C mA)
  (hs : PySem.W.findIn K (.ref C) "__setattr__" = some (some (.builtin "object.__setattr__"))) (hp : PySem.W.plainOver K C = true) (ht : PySem.W.takerIn K C name = some none) (hh : PySem.W.hasDictIn K C = true)
  (hw : PySem.Within mA ns) (hsz : ns.length <= sizeLine)
  (h : ∀ h', ObjM h' x dx C (fun y => if y = name then some v else mA y) -> Heap.SameBut dx s.heap h' -> Q () { s with heap := h', toks := s.toks + 2 }) :
  wpAny (model prog w) A (setAttr (.ref x) name v) Q E s := by
 obtain ⟨od, J, hl⟩ := I.look
 refine PySem.W.set_plain X J hs (PySem.W.osa_open (s := { s with toks := s.toks + 1 }) (r := none) X J hp ht fun b => ?_)
 obtain ⟨cd, hc, hd'⟩ := PySem.W.any_some hh
 have hx : s.heap.get? x = some ⟨.ref C, some dx, .plain, #[]⟩ := I.obj
 refine wpAny_bind (wpAny_pure (wpAny_bind (wpAny_bind (wpAny_loadPart hx (wpAny_bind (PySem.W.Looks.here (s := { s with toks := s.toks + 1 }) (PySem.W.looks_clsIn X hc) ?_))))))
 rw [hd']
 refine wpAny_pure (a := some dx) (wpAny_bind (wpAny_pure (wpAny_bind ?_)))
 refine wpAny_nsSet1 (s := { s with toks := s.toks + 1 }) I.ns fun h' hn2 hs2 => ?_
 obtain ⟨oD, esD, epD, hoD, hdD, hcD⟩ := hn2.count (PySem.Within.cons name v hw)
 refine wpAny_bind (wpAny_lookBehind hoD (by rw [hdD]; exact pastItsLine_dict (Nat.le_trans hcD (by rw [List.length_cons]; omega))) ?_)
 exact wpAny_pure (h _ ⟨(hs2.2 _ (Ne.symm I.ne)).trans I.obj, hn2, I.ne⟩ hs2)
theorem make_map {R : Result -> Shared -> Prop} {vs : List Value} {kw : List (Str × Value)} (X : K.In s.heap) (hm : PySem.W.makesIn K C = true)
  (hi : PySem.W.findIn K (.ref C) "__init__" = some (some (.ref f))) (hf : PySem.W.typeIn K (.ref f) = some (.type "function"))
  (h : codeAny (model prog w) (A.under (.builtin "type.__call__" ⟨.ref C :: vs, kw⟩)) (.call (.ref f) ⟨.ref (s.heap.objs.size + 1) :: vs, kw⟩) (PySem.W.InitBack (s.heap.objs.size + 1) R)
   { s with heap := (s.heap.push PySem.W.emptyDict).push (PySem.W.instObj C s.heap.objs.size) }) :
  codeAny (model prog w) A (.call (.ref C) ⟨vs, kw⟩) R s := by
 obtain ⟨hh, g, d, t, os⟩ := s
 exact PySem.W.make_core (PySem.W.makes_of X hm) (PySem.W.looks_findIn X hi) (fun self => PySem.W.bind_fn X self hf) (.inl rfl) h
end
noncomputable def putF (f : Str) (v : V) : List (Str × V) -> List (Str × V)
 | [] => [(f, v)]
 | (g, x) :: r => if g = f then (g, v) :: r else (g, x) :: putF f v r
theorem lookup_putF (f g : Str) (v : V) : ∀ fs : List (Str × V), (putF f v fs).lookup g = if g = f then some v else fs.lookup g
 | [] => by
  show List.lookup g [(f, v)] = _
  by_cases h : g = f
  ·have hb : (g == f) = true := beq_iff_eq.mpr h
   simp only [List.lookup, hb, if_pos h]
  ·have hb : (g == f) = false := beq_eq_false_iff_ne.mpr h
   simp only [List.lookup, hb, if_neg h]
 | (k, x) :: r => by
  have ih := lookup_putF f g v r
  rw [show putF f v ((k, x) :: r) = (if k = f then (k, v) :: r else (k, x) :: putF f v r) from rfl]
  by_cases hk : k = f
  ·rw [if_pos hk]
   by_cases h : g = k
   ·have hb : (g == k) = true := beq_iff_eq.mpr h
    simp only [List.lookup, hb, if_pos (h.trans hk)]
   ·have hb : (g == k) = false := beq_eq_false_iff_ne.mpr h
    simp only [List.lookup, hb, if_neg (fun e : g = f => h (e.trans hk.symm))]
  ·rw [if_neg hk]
   by_cases h : g = k
   ·have hb : (g == k) = true := beq_iff_eq.mpr h
    simp only [List.lookup, hb, if_neg (fun e : g = f => hk (h.symm.trans e))]
   ·have hb : (g == k) = false := beq_eq_false_iff_ne.mpr h
    simp only [List.lookup, hb]
    exact ih
theorem keys_putF (f : Str) (v : V) : ∀ fs : List (Str × V), f ∈ (putF f v fs).map (·.1) /\ ∀ g, g ∈ fs.map (·.1) -> g ∈ (putF f v fs).map (·.1)
 | [] => ⟨by simp [putF], fun g h => by simp at h⟩
 | (k, x) :: r => by
  obtain ⟨i1, i2⟩ := keys_putF f v r
  rw [show putF f v ((k, x) :: r) = (if k = f then (k, v) :: r else (k, x) :: putF f v r) from rfl]
  by_cases hk : k = f
  ·rw [if_pos hk]
   subst hk
   exact ⟨by simp, fun g h => by simpa using h⟩
  ·rw [if_neg hk]
   refine ⟨?_, fun g h => ?_⟩
   ·rw [List.map_cons]
    exact List.mem_cons_of_mem _ i1
   ·rw [List.map_cons] at h ⊢
    rcases List.mem_cons.mp h with e | e
    ·exact List.mem_cons.mpr (.inl e)
    ·exact List.mem_cons_of_mem _ (i2 g e)
theorem length_putF (f : Str) (v : V) : ∀ fs : List (Str × V), (putF f v fs).length <= fs.length + 1
 | [] => by simp [putF]
 | (k, x) :: r => by
  have ih := length_putF f v r
  rw [show putF f v ((k, x) :: r) = (if k = f then (k, v) :: r else (k, x) :: putF f v r) from rfl]
  by_cases hk : k = f
  ·rw [if_pos hk, List.length_cons, List.length_cons]; omega
  ·rw [if_neg hk, List.length_cons, List.length_cons]; omega
theorem RelO.some_of {v : V} {o : Option Value} (r : RelO (some v) o) : ∃ u, o = some u /\ RelV v u := by
 cases o with
 | none => exact (show False from r).elim
 | some u => exact ⟨u, rfl, r⟩
theorem RelO.none_of {o : Option Value} (r : RelO none o) : o = none := by
 cases o with
 | none => rfl
 | some u => exact (show False from r).elim
theorem handed_of {v : V} {u : Value} (r : RelV v u) : PySem.W.handedIn u = true := by
 cases v with
 | non => cases (show u = Value.none from r); rfl
 | bl b => cases (show u = Value.bool b from r); rfl
 | int i => obtain ⟨t, e⟩ := (show ∃ t, u = Value.int i t from r); cases e; rfl
 | str x => obtain ⟨t, e⟩ := (show ∃ t, u = Value.str x t from r); cases e; rfl
 | byt b => obtain ⟨t, e⟩ := (show ∃ t, u = Value.bytes b t from r); cases e; rfl
 | flt b => obtain ⟨t, e⟩ := (show ∃ t, u = Value.float b t from r); cases e; rfl
 | ref a => cases (show u = Value.ref a from r); rfl
 | ty n => cases (show u = Value.type n from r); rfl
section
variable {P : Program} {w : World} {H H' : Hp} {h h' : Heap} {a C dx : Addr} {fs fs' : List (Str × V)}
theorem ins_get (hok : HOk P w H h) (e : H a = some (.ins C dx fs)) : ∃ mA, ObjM h a dx C mA /\ (∀ f, RelO (fs.lookup f) (mA f)) /\ PySem.Within mA (fs.map (·.1)) /\ fs.length <= 1000 /\ H dx = some (.own a) := by
 obtain ⟨d, z, ne, ob, mA, n, r, q⟩ := (show ObjOk P w H h a (.ins C dx fs) from hok a _ e)
 exact ⟨mA, ⟨ob, n, ne⟩, r, q, z, d⟩
end
structure Cls (K : PySem.W.Frag) (C : Addr) : Prop where
 pg : PySem.W.plainGet K C Str.empty = true
 hd : PySem.W.hasDictIn K C = true
 po : PySem.W.plainOver K C = true
 sa : PySem.W.findIn K (.ref C) "__setattr__" = some (some (.builtin "object.__setattr__"))
theorem Cls.get {K : PySem.W.Frag} {C : Addr} (c : Cls K C) (f : Str) : PySem.W.plainGet K C f = true := c.pg
noncomputable def NoAttr (K : PySem.W.Frag) (C : Addr) (f : Str) : Prop := PySem.W.findIn K (.ref C) f = some none
theorem NoAttr.taker {K : PySem.W.Frag} {C : Addr} {f : Str} (n : NoAttr K C f) : PySem.W.takerIn K C f = some none := by
 unfold PySem.W.takerIn
 rw [show PySem.W.findIn K (.ref C) f = some none from n]
 rfl
structure Meth (K : PySem.W.Frag) (C : Addr) (m : Str) (f : Addr) : Prop where
 at_ : PySem.W.findIn K (.ref C) m = some (some (.ref f))
 fn : PySem.W.isFn K (.ref f) = true
 kp : PySem.W.keepIn K (.ref f) = true
section
variable {X : Cx} {pins : List (Addr × Obj)} {σ : St} {H : Hp} {s : Shared} {a C dx : Addr} {fs : List (Str × V)} {f : Str} {v : V} {A : Around} {E : Value -> Shared -> Prop}
theorem getattr_ok {b : Bool} {Q : Value -> Shared -> Prop} (I : Inv X pins σ H s) (e : H a = some (.ins C dx fs)) (c : Cls X.K C) (n : NoAttr X.K C f) (l : fs.lookup f = some v)
  (h : ∀ u s', Inv X pins σ H s' -> RelV v u -> Q u s') : wpAny (model X.prog X.w) A (getAttr (.ref a) f b) Q E s := by
 obtain ⟨mA, O, r, _, _, _⟩ := ins_get I.hok e
 obtain ⟨u, hu, ru⟩ := RelO.some_of (v := v) (o := mA f) (by rw [<- l]; exact r f)
 exact get_map I.kIn O (c.get f) c.hd n hu (handed_of ru) (h u _ (I.tok _) ru)
theorem getmeth_ok {m : Str} {g : Addr} {pl : Sem Bool} {Q : Value × List Value -> Shared -> Prop} (I : Inv X pins σ H s) (e : H a = some (.ins C dx fs)) (c : Cls X.K C) (k : Meth X.K C m g) (l : fs.lookup m = none)
  (h : Q (.ref g, [.ref a]) s) : wpAny (model X.prog X.w) A (getMethod (.ref a) m pl) Q E s := by
 obtain ⟨mA, O, r, _, _, _⟩ := ins_get I.hok e
 have hn : mA m = none := RelO.none_of (by rw [<- l]; exact r m)
 exact get_meth I.kIn O (c.get m) k.at_ k.fn hn h
theorem setattr_ok {y : V} {u : Value} {Q : Unit -> Shared -> Prop} (I : Inv X pins σ H s) (e : H a = some (.ins C dx fs)) (c : Cls X.K C) (n : NoAttr X.K C f) (hl : fs.length < 1000) (ry : RelV y u)
  (h : ∀ s', Inv X pins σ (upd H a (.ins C dx (putF f y fs))) s' -> Q () s') : wpAny (model X.prog X.w) A (setAttr (.ref a) f u) Q E s := by
 obtain ⟨mA, O, r, wi, _, ho⟩ := ins_get I.hok e
 have hz : (fs.map (·.1)).length <= sizeLine := by rw [List.length_map, sizeLine_eq]; omega
 refine set_map I.kIn O c.sa c.po n.taker c.hd wi hz fun h' O' sb => h _ ?_
 have hd : ∃ o, h'.get? dx = some o := let ⟨o, _, _, e', _⟩ := O'.ns; ⟨o, e'⟩
 refine I.write (x := a) (e := dx) (by rw [e]; exact True.intro) (.inr ho) (fun b q hb z => (sb.2 b hb).trans z) hd ?_
 refine ⟨by rw [upd_ne O.ne]; exact ho, ?_, O.ne, O'.obj, _, O'.ns, fun g => ?_, fun g hg => ?_⟩
 ·have := length_putF f y fs; omega
 ·show RelO ((putF f y fs).lookup g) (if g = f then some u else mA g)
  rw [lookup_putF]
  by_cases q : g = f
  ·rw [if_pos q, if_pos q]; exact ry
  ·rw [if_neg q, if_neg q]; exact r g
 ·by_cases q : g = f
  ·rw [q]; exact (keys_putF f y fs).1
  ·refine (keys_putF f y fs).2 g (wi g fun z => hg ?_)
   show (if g = f then some u else mA g) = none
   rw [if_neg q]; exact z
theorem Inv.made (I : Inv X pins σ H s) : Inv X pins σ (upd (upd H s.heap.objs.size (.own (s.heap.objs.size + 1))) (s.heap.objs.size + 1) (.ins C s.heap.objs.size []))
  { s with heap := (s.heap.push PySem.W.emptyDict).push (PySem.W.instObj C s.heap.objs.size) } := by
 have e1 : (s.heap.push PySem.W.emptyDict).get? s.heap.objs.size = some PySem.W.emptyDict := Heap.get?_push_size s.heap rfl
 have e2 : ((s.heap.push PySem.W.emptyDict).push (PySem.W.instObj C s.heap.objs.size)).get? (s.heap.objs.size + 1) = some (PySem.W.instObj C s.heap.objs.size) := by
  have := Heap.get?_push_size (s.heap.push PySem.W.emptyDict) (o := PySem.W.instObj C s.heap.objs.size) rfl
  rwa [Heap.size_push] at this
 have e3 : (s.heap.push PySem.W.emptyDict).Ns s.heap.objs.size (fun _ => none) := ⟨PySem.W.emptyDict, #[], _, e1, rfl, (fun e he => absurd he (by simp)), fun _ => rfl⟩
 have I1 := I.laid (a := s.heap.objs.size) (o := .own (s.heap.objs.size + 1)) (h' := s.heap.push PySem.W.emptyDict) (t' := s.toks) (fun b u q => Heap.get?_push_of_some _ q) (Nat.le_refl _) ⟨_, e1⟩
 refine I1.laid (a := s.heap.objs.size + 1) (o := .ins C s.heap.objs.size []) (t' := s.toks) (fun b u q => Heap.get?_push_of_some _ q) (Nat.le_of_eq (Heap.size_push _ _)) ?_
 have ne : s.heap.objs.size ≠ s.heap.objs.size + 1 := Nat.ne_of_lt (Nat.lt_succ_self _)
 refine ⟨by rw [upd_ne ne, upd_same], Nat.zero_le _, ne, e2, fun _ => none, (Heap.Ns1.of_empty e3).at fun o q => Heap.get?_push_of_some _ q, fun _ => True.intro, fun y hy => absurd rfl hy⟩
theorem attr_of {prog : Program} {w : World} {env : Env} {e : Expr} {f : Str} {pos : Pos} {s : Shared} {Q : Value -> Shared -> Prop} (hb : attributeBase e f env (eval e env) = eval e env)
  (h : wpAny (model prog w) A (eval e env) (fun o s₁ => wpAny (model prog w) A (getAttr o f true) Q E s₁) E s) : wpAny (model prog w) A (eval (.Attribute e f pos) env) Q E s :=
 Attribute_any_ h (by rw [arm_eval_Attribute, hb])
end
noncomputable def tFld (K : PySem.W.Frag) (ta : TE) (f : Str) : TE := fun σ H Q => ta σ H fun x H1 => ∃ a C dx fs v, x = .ref a /\ H1 a = some (.ins C dx fs) /\ Cls K C /\ NoAttr K C f /\ fs.lookup f = some v /\ Q v H1
noncomputable def sFld (K : PySem.W.Frag) (ta tv : TE) (f : Str) : TS := fun D σ H => tv σ H fun y H1 => ta σ H1 fun x H2 => ∃ a C dx fs, x = .ref a /\ H2 a = some (.ins C dx fs) /\ Cls K C /\ NoAttr K C f /\ fs.length < 1000 /\
 D.nx σ (upd H2 a (.ins C dx (putF f y fs)))
section
variable {X : Cx} {o e value : Expr} {f : Str} {pos pos' tpos : Pos} {ta tv : TE}
theorem pe_fld (he : PE X e ta) (hb : attributeBase e f X.env (eval e X.env) = eval e X.env) : PE X (.Attribute e f pos) (tFld X.K ta f) := by
 intro pins s σ H Q I h
 refine attr_of hb (thn (he pins s σ H _ I h) fun u s1 ⟨x, H1, I1, rx, a, C, dx, fs, v, ex, ea, c, n, l, q⟩ => ?_)
 subst ex
 obtain rfl : u = Value.ref a := rx
 exact getattr_ok I1 ea c n l fun u' s2 I2 ru => ⟨v, H1, I2, ru, q⟩
theorem ps_fld (ha : PE X o ta) (hv : PE X value tv) (hs : swapsWith value (some (.Attribute o f pos')) pos.line X.env = pure false) : PS X (.Assign [.Attribute o f pos'] value pos) (sFld X.K ta tv f) := by
 intro pins s σ H D I h
 refine plainObj_wpAny_Assign_Attribute (thn (hv pins s σ H _ I h) fun u s1 ⟨y, H1, I1, ry, q⟩ => thn (ha pins s1 σ H1 _ I1 q) fun ov s2 ⟨x, H2, I2, rx, a, C, dx, fs, ex, ea, c, n, l, q2⟩ => ?_) hs
 subst ex
 obtain rfl : ov = Value.ref a := rx
 exact setattr_ok I2 ea c n l ry fun s3 I3 => ⟨σ, _, I3, q2⟩
end
section
variable {X : Cx} {pins : List (Addr × Obj)} {σ : St} {H : Hp} {s : Shared} {A : Around} {E : Value -> Shared -> Prop} {Q : Value -> Shared -> Prop} {c : Value} {b : Bool}
inductive TyOf (K : PySem.W.Frag) (H : Hp) : V -> Value -> Prop where
 | non : TyOf K H .non (.type "NoneType")
 | bl (x : Bool) : TyOf K H (.bl x) (.type "bool")
 | int (i : Int) : TyOf K H (.int i) (.type "int")
 | str (x : Str) : TyOf K H (.str x) (.type "str")
 | flt (x : UInt64) : TyOf K H (.flt x) (.type "float")
 | lst {a : Addr} {xs : List V} (e : H a = some (.lst xs)) : TyOf K H (.ref a) (.type "list")
 | frz {a : Addr} {o : Obj} {xs : List V} (e : H a = some (.frz o (.lst xs))) : TyOf K H (.ref a) (.type "list")
 | tup {a : Addr} {xs : List V} (e : H a = some (.tup xs)) : TyOf K H (.ref a) (.type "tuple")
 | dK {a : Addr} {kvs : List (Key × V)} (e : H a = some (.dK kvs)) : TyOf K H (.ref a) (.type "dict")
 | dT {a : Addr} {kvs : List (List Key × V)} (e : H a = some (.dT kvs)) : TyOf K H (.ref a) (.type "dict")
 | ins {a C dx : Addr} {fs : List (Str × V)} (e : H a = some (.ins C dx fs)) (cl : Cls K C) (ha : PySem.W.findIn K (.ref C) "__class__" = some (some (.builtin "object.__class__")))
   (hn : PySem.W.specialIn K (.builtin "object.__class__") "__get__" = some (some (.builtin "getset_descriptor.__get__"))) (htk : PySem.W.takesIn K (.builtin "object.__class__") = some true)
   (hm : PySem.W.mroIn K C (.type "object") = some true) : TyOf K H (.ref a) (.ref C)
theorem isinst_ok {x : V} {u t : Value} (I : Inv X pins σ H s) (rx : RelV x u) (ty : TyOf X.K H x t) (e : PySem.W.kitOne X.K t c = some b) (h : ∀ tk, Q (.bool b) { s with toks := tk }) :
  wpAny (model X.prog X.w) A (call (.builtin "isinstance") [u, c]) Q E s := by
 cases ty with
 | non => cases (show u = Value.none from rx); exact PySem.W.kia_one PySem.W.kitx_none I.kIn True.intro e (fun z => nomatch z) h
 | bl y => cases (show u = Value.bool y from rx); exact PySem.W.kia_one PySem.W.kitx_bool I.kIn True.intro e (fun z => nomatch z) h
 | int i => obtain ⟨t, q⟩ := (show ∃ t, u = Value.int i t from rx); cases q; exact PySem.W.kia_one PySem.W.kitx_int I.kIn True.intro e (fun z => nomatch z) h
 | str y => obtain ⟨t, q⟩ := (show ∃ t, u = Value.str y t from rx); cases q; exact PySem.W.kia_one PySem.W.kitx_str I.kIn True.intro e (fun z => nomatch z) h
 | flt y => obtain ⟨t, q⟩ := (show ∃ t, u = Value.float y t from rx); cases q; exact PySem.W.kia_one PySem.W.kitx_float I.kIn True.intro e (fun z => nomatch z) h
 | @lst a xs ea =>
  cases (show u = Value.ref a from rx)
  obtain ⟨_, _, n, _, h1⟩ := (show ObjOk X.prog X.w H s.heap a (.lst xs) from I.hok a _ ea)
  exact PySem.W.kia_one PySem.W.kitx_list I.kIn ⟨_, h1, rfl⟩ e (fun z => nomatch z) h
 | @frz a ob xs ea =>
  cases (show u = Value.ref a from rx)
  obtain ⟨_, _, _, n, _, h1⟩ := (show ObjOk X.prog X.w H s.heap a (.frz ob (.lst xs)) from I.hok a _ ea)
  exact PySem.W.kia_one PySem.W.kitx_list I.kIn ⟨_, h1, rfl⟩ e (fun z => nomatch z) h
 | @tup a xs ea =>
  cases (show u = Value.ref a from rx)
  obtain ⟨_, _, _, p⟩ := (show ObjOk X.prog X.w H s.heap a (.tup xs) from I.hok a _ ea)
  obtain ⟨o, h1, h2, _⟩ := p
  exact PySem.W.kia_one PySem.W.kitx_tuple I.kIn ⟨o, h1, h2⟩ e (fun z => nomatch z) h
 | @dK a kvs ea =>
  cases (show u = Value.ref a from rx)
  obtain ⟨_, _, vs, _, p⟩ := (show ObjOk X.prog X.w H s.heap a (.dK kvs) from I.hok a _ ea)
  obtain ⟨o, es, ep, h1, h2, _⟩ := p
  exact PySem.W.kia_one PySem.W.kitx_dict I.kIn ⟨o, h1, h2.1⟩ e (fun z => nomatch z) h
 | @dT a kvs ea =>
  cases (show u = Value.ref a from rx)
  obtain ⟨_, _, xs, _, o, es, ep, h1, h2, _⟩ := (show ObjOk X.prog X.w H s.heap a (.dT kvs) from I.hok a _ ea)
  exact PySem.W.kia_one PySem.W.kitx_dict I.kIn ⟨o, h1, h2.1⟩ e (fun z => nomatch z) h
 | @ins a C dx fs ea cl ha hn htk hm =>
  cases (show u = Value.ref a from rx)
  obtain ⟨mA, O, _⟩ := ins_get I.hok ea
  obtain ⟨od, J, _⟩ := O.look
  exact PySem.W.kia_one (PySem.W.kitx_own (cl.get _) cl.hd ha hn htk hm) I.kIn J e (fun z => nomatch z) h
end
structure Room (k : Nat) (A : Around) : Prop where
 hd : A.handled = none
 dp : A.depth + 3 * k + 5 < recursionLimit
 un : A.units + 16 * k + 200 < cLine
theorem Room.mono {j k : Nat} {A : Around} (r : Room k A) (h : j <= k) : Room j A := ⟨r.hd, by have := r.dp; omega, by have := r.un; omega⟩
theorem Room.deeper {k : Nat} {A : Around} (r : Room (k + 1) A) (env : Env) : Room k (A.deeper env) :=
 ⟨r.hd, by have := r.dp; show A.depth + 1 + 3 * k + 5 < _; omega, by have := r.un; show A.units + 3 + 16 * k + 200 < _; omega⟩
theorem make_depth {A : Around} {C : Addr} {us : List Value} {kw : List (Str × Value)} : (A.under (.builtin "type.__call__" ⟨.ref C :: us, kw⟩)).depth = A.depth + 1 := by
 first | rfl | simp [Around.under, Code.weight, Code.isCreation, Code.isGuard, Code.isCaller, Code.frames, Code.isFrame, guardIds]
theorem make_units {A : Around} {C : Addr} {us : List Value} {kw : List (Str × Value)} : (A.under (.builtin "type.__call__" ⟨.ref C :: us, kw⟩)).units = A.units + 1 := by
 first | rfl | simp [Around.under, Code.cUnits, Code.frames, Code.isFrame]
theorem Room.make {k : Nat} {A : Around} (r : Room (k + 1) A) (C : Addr) (us : List Value) (kw : List (Str × Value)) : Room k (A.under (.builtin "type.__call__" ⟨.ref C :: us, kw⟩)) :=
 ⟨r.hd, by have := r.dp; rw [make_depth]; omega, by have := r.un; rw [make_units]; omega⟩
theorem Room.depth {k : Nat} {A : Around} (r : Room k A) : A.depth < recursionLimit := by have := r.dp; omega
noncomputable def tNil : TA := fun _ H Q => Q [] H
noncomputable def tCons (ta : TE) (tr : TA) : TA := fun σ H Q => ta σ H fun x H1 => tr σ H1 fun xs H2 => Q (x :: xs) H2
section
variable {X : Cx} {e : Expr} {es : List Expr} {te : TE} {t : TA} {pos : Pos}
theorem pa_nil : PA X [] tNil := fun _ _ _ _ H Q I h => Calls.spliced_nil ⟨[], H, I, .nil, h⟩
theorem pa_cons (ha : PE X e te) (hr : PA X es t) (hs : starEach (e :: es) X.env = (false, eval e X.env) :: starEach es X.env := by rfl) : PA X (e :: es) (tCons te t) := by
 intro pos pins s σ H Q I h
 rw [hs]
 show wpAny _ _ (spliced ((false, eval e X.env) :: backTo pos (starEach es X.env))) _ _ s
 refine Calls.spliced_cons (thn (ha pins s σ H _ I h) fun u s1 ⟨x, H1, I1, r1, q1⟩ => ?_)
 exact thn (hr pos pins s1 σ H1 _ I1 q1) fun us s2 ⟨xs, H2, I2, r2, q2⟩ => ⟨x :: xs, H2, I2, .cons r1 r2, q2⟩
noncomputable def tTup (t : TA) : TE := fun σ H Q => t σ H fun xs H1 => xs.length <= sizeLine /\ ∀ p, H1 p = none -> Q (.ref p) (upd H1 p (.tup xs))
noncomputable def tLst (t : TA) : TE := fun σ H Q => t σ H fun xs H1 => xs.length <= sizeLine /\ ∀ p, H1 p = none -> Q (.ref p) (upd H1 p (.lst xs))
theorem pe_tup {x1} (h : PA X es t) : PE X (.Tuple es x1 pos) (tTup t) := by
 intro pins s σ H Q I hq
 refine wpAny_Tuple_spliced (thn (h pos pins s σ H _ I hq) fun us s1 ⟨xs, H1, I1, r, z, q⟩ => ⟨by rw [<- r.length]; exact z, ?_⟩)
 have hf : H1 s1.heap.objs.size = none := I1.hok.fresh (Nat.le_refl _)
 refine ⟨.ref s1.heap.objs.size, upd H1 s1.heap.objs.size (.tup xs), I1.laid (t' := s1.toks) (fun b u e => Heap.get?_push_of_some _ e) (Nat.le_refl _) ?_, rfl, q _ hf⟩
 exact ⟨z, us, r, ⟨_, Heap.get?_push_size _ rfl, rfl, _, rfl⟩⟩
theorem pe_lst (h : PA X es t) : PE X (.List es pos) (tLst t) := by
 intro pins s σ H Q I hq
 refine wpAny_List_spliced (thn (h pos pins s σ H _ I hq) fun us s1 ⟨xs, H1, I1, r, z, q⟩ => ⟨by rw [<- r.length]; exact z, ?_⟩)
 have hf : H1 s1.heap.objs.size = none := I1.hok.fresh (Nat.le_refl _)
 refine ⟨.ref s1.heap.objs.size, upd H1 s1.heap.objs.size (.lst xs), I1.laid (t' := s1.toks) (fun b u e => Heap.get?_push_of_some _ e) (Nat.le_refl _) ?_, rfl, q _ hf⟩
 exact ⟨z, us, 0, r, Heap.get?_push_size _ rfl⟩
end
noncomputable abbrev Sp := List V -> Hp -> VK -> XK -> Prop
noncomputable abbrev CXT := List Env -> Hp -> Shared -> XK -> Value -> Shared -> Prop
structure Env0 (P : Program) (w : World) (K : PySem.W.Frag) (mg : Str -> Option Value) (base : Heap) (A : Around) (outer : List Env) (s : Shared) (H : Hp) : Prop where
 frames : A.frames = some outer
 mod : Mod K mg base
 bs : ∀ b o, base.get? b = some o -> s.heap.get? b = some o /\ H b = none
 bsz : base.objs.size <= s.heap.objs.size
 funs : s.heap.FunFrames base outer
 frf : ∀ b ∈ frs outer, H b = none
 hok : HOk P w H s.heap
 bare : AllBare s.gens
noncomputable def CE (outer : List Env) (P : Program) (w : World) (H : Hp) (s : Shared) (Q : VK) (u : Value) (s' : Shared) : Prop :=
 ∃ v H', s'.os = s.os /\ AllBare s'.gens /\ Un (frs outer) [] H H' s.heap s'.heap /\ HOk P w H' s'.heap /\ RelV v u /\ Q v H'
noncomputable def CR (CX : CXT) (outer : List Env) (P : Program) (w : World) (H : Hp) (s : Shared) (Q : VK) (E : XK) (r : Result) (s' : Shared) : Prop :=
 match r with
 | .ok (.ret u) => CE outer P w H s Q u s'
 | .ok _ => False
 | .error e => CX outer H s E e s'
structure FnOk (P : Program) (w : World) (K : PySem.W.Frag) (mg : Str -> Option Value) (base : Heap) (CX : CXT) (k : Nat) (f : Addr) (fd : FuncData) (ps : List Str) (sp : Sp) : Prop where
 len : ∀ vs H Q E, sp vs H Q E -> vs.length = ps.length
 run : ∀ (A : Around) (outer : List Env) (s : Shared) (H : Hp) (args : Args) (us : List Value) (vs : List V) (Q : VK) (E : XK), Room k A -> Env0 P w K mg base A outer s H -> BindsTo s fd args (ps.zip us) -> Vals vs us -> sp vs H Q E ->
  codeAny (model P w) A (.call (.ref f) args) (CR CX outer P w H s Q E) s
theorem FnOk.mono {P : Program} {w : World} {K : PySem.W.Frag} {mg : Str -> Option Value} {base : Heap} {CX : CXT} {j k : Nat} {f : Addr} {fd : FuncData} {ps : List Str} {sp : Sp} (F : FnOk P w K mg base CX j f fd ps sp) (h : j <= k) :
  FnOk P w K mg base CX k f fd ps sp := ⟨F.len, fun A outer s H args us vs Q E hr => F.run A outer s H args us vs Q E (hr.mono h)⟩
theorem Env0.make {P : Program} {w : World} {K : PySem.W.Frag} {mg : Str -> Option Value} {base : Heap} {A : Around} {outer : List Env} {s : Shared} {H : Hp} (e : Env0 P w K mg base A outer s H) (C : Addr) (us : List Value) (kw : List (Str × Value)) :
  Env0 P w K mg base (A.under (.builtin "type.__call__" ⟨.ref C :: us, kw⟩)) outer s H := ⟨by first | exact e.frames | (simpa [Around.under, Code.envs, Code.isFrame, pushEnvs] using e.frames), e.mod, e.bs, e.bsz, e.funs, e.frf, e.hok, e.bare⟩
section
variable {X : Cx} {pins : List (Addr × Obj)} {σ : St} {H : Hp} {s s' : Shared}
theorem Inv.env0 (I : Inv X pins σ H s) : Env0 X.prog X.w X.K X.mg X.base X.A X.stack s H :=
 ⟨I.ok.frames, I.ok.mod, I.bs, Nat.le_trans I.ok.bsz I.sz, I.stack, I.stkFree, I.hok, I.bare⟩
theorem Inv.after {Q : VK} {u : Value} (I : Inv X pins σ H s) (h : CE X.stack X.prog X.w H s Q u s') : EP X pins σ Q u s' := by
 obtain ⟨v, H', os, bare, un, hok, r, q⟩ := h
 obtain ⟨hh, g, d, t, os'⟩ := s'
 obtain rfl : os' = s.os := os
 exact ⟨v, H', I.call (h' := hh) (g' := g) (d' := d) (t' := t) (ch := []) un hok bare (fun b z => absurd z (by simp)), r, q⟩
end
noncomputable def tCall (sp : Sp) (dvs : List V) (E : XK) (t : TA) : TE := fun σ H Q => t σ H fun vs H1 => sp (vs ++ dvs) H1 Q E
noncomputable def tMake (C : Addr) (sp : Sp) (dvs : List V) (E : XK) (t : TA) : TE := fun σ H Q => t σ H fun vs H1 => ∀ x dx, H1 x = none -> H1 dx = none -> dx ≠ x ->
 sp (.ref x :: (vs ++ dvs)) (upd (upd H1 dx (.own x)) x (.ins C dx [])) (fun v H2 => v = .non /\ Q (.ref x) H2) E
noncomputable def Binds (K : PySem.W.Frag) (fd : FuncData) (ps : List Str) (ds : List Value) : Prop :=
 ∀ (s : Shared) (us : List Value), K.In s.heap -> (us ++ ds).length = ps.length -> BindsTo s fd ⟨us, []⟩ (ps.zip (us ++ ds))
theorem Binds.all {K : PySem.W.Frag} {fd : FuncData} {ps : List Str} (h : ∀ us : List Value, us.length = ps.length -> bindArgs fd ⟨us, []⟩ = pure (ps.zip us)) : Binds K fd ps [] := fun s us _ hl => by
 rw [List.append_nil] at hl ⊢
 exact .of_eq (h us hl)
noncomputable def Passes (CX : CXT) (X : Cx) (E : XK) : Prop := ∀ (pins : List (Addr × Obj)) (σ : St) (H : Hp) (s : Shared) (e : Value) (s' : Shared), Inv X pins σ H s -> CX X.stack H s E e s' -> X.xe e s'
section
variable {X : Cx} {CX : CXT} {k : Nat} {f C : Addr} {fd : FuncData} {ps : List Str} {sp : Sp} {dvs : List V} {ds : List Value} {E : XK} {x m : Str} {p pos apos : Pos} {e o : Expr} {es : List Expr} {ta : TE} {t : TA}
theorem run_fn {pins : List (Addr × Obj)} {σ : St} {H : Hp} {s : Shared} {Q : VK} {us : List Value} {vs : List V} (F : FnOk X.prog X.w X.K X.mg X.base CX k f fd ps sp) (hr : Room k X.A) (hb : Binds X.K fd ps ds) (hd : Vals dvs ds) (hx : Passes CX X E)
  (I : Inv X pins σ H s) (r : Vals vs us) (h : sp (vs ++ dvs) H Q E) : wpAny (model X.prog X.w) X.A (call (.ref f) us) (EP X pins σ Q) X.xe s := by
 have r2 : Vals (vs ++ dvs) (us ++ ds) := r.append hd
 have hl : (us ++ ds).length = ps.length := by rw [<- r2.length]; exact F.len _ _ _ _ h
 refine wpAny_call (codeAny_mono (F.run X.A X.stack s H ⟨us, []⟩ (us ++ ds) (vs ++ dvs) Q E hr I.env0 (hb s us I.kIn hl) r2 h) fun r s' hq => ?_)
 cases r with
 | error e => exact hx pins σ H s e s' I hq
 | ok fl =>
  cases fl with
  | ret u => exact I.after hq
  | next => exact False.elim hq
  | brk => exact False.elim hq
  | cont => exact False.elim hq
theorem pe_call (F : FnOk X.prog X.w X.K X.mg X.base CX k f fd ps sp) (hr : Room k X.A) (hg : Gl X x) (hm : X.mg x = some (.ref f)) (hk : PySem.W.keepIn X.K (.ref f) = true) (hb : Binds X.K fd ps ds) (hd : Vals dvs ds) (hx : Passes CX X E)
  (ha : PA X (e :: es) t) (hdb : (x == ("__debug__" : Str)) = false := by decide) (he : starEach (e :: es) X.env = (false, eval e X.env) :: starEach es X.env := by rfl) (hpl : (backTo pos (starEach es X.env)).any (·.1) = false := by rfl) :
  PE X (.Call (.Name x p) (e :: es) [] pos) (tCall sp dvs E t) := by
 intro pins s σ H Q I h
 refine wpAny_Call_Name_kw (ld_glob I hg hm ?_ hdb)
 refine PySem.W.callWith_K (h₀ := X.base) I.ok.mod.kin hk (thn (ha pos pins s σ H _ I h) fun us s1 ⟨vs, H1, I1, r, q⟩ => ⟨I1.kIn, ?_⟩) he hpl
 exact run_fn F hr hb hd hx I1 r q
structure Mk (K : PySem.W.Frag) (C f : Addr) : Prop where
 makes : PySem.W.makesIn K C = true
 init : PySem.W.findIn K (.ref C) "__init__" = some (some (.ref f))
 fn : PySem.W.isFn K (.ref f) = true
 kp : PySem.W.keepIn K (.ref C) = true
theorem run_make {pins : List (Addr × Obj)} {σ : St} {H : Hp} {s : Shared} {Q : VK} {us : List Value} {vs : List V} (M : Mk X.K C f) (F : FnOk X.prog X.w X.K X.mg X.base CX k f fd ps sp) (hr : Room (k + 1) X.A) (hb : Binds X.K fd ps ds) (hd : Vals dvs ds)
  (hx : Passes CX X E) (I : Inv X pins σ H s) (r : Vals vs us)
  (h : ∀ x dx, H x = none -> H dx = none -> dx ≠ x -> sp (.ref x :: (vs ++ dvs)) (upd (upd H dx (.own x)) x (.ins C dx [])) (fun v H2 => v = .non /\ Q (.ref x) H2) E) :
  wpAny (model X.prog X.w) X.A (call (.ref C) us) (EP X pins σ Q) X.xe s := by
 have hq := h (s.heap.objs.size + 1) s.heap.objs.size (I.hok.fresh (Nat.le_succ _)) (I.hok.fresh (Nat.le_refl _)) (Nat.ne_of_lt (Nat.lt_succ_self _))
 have I2 := Inv.made (C := C) I
 have r2 : Vals (V.ref (s.heap.objs.size + 1) :: (vs ++ dvs)) (Value.ref (s.heap.objs.size + 1) :: (us ++ ds)) := .cons rfl (r.append hd)
 have hl : (Value.ref (s.heap.objs.size + 1) :: us ++ ds).length = ps.length := by
  have e := r2.length
  rw [F.len _ _ _ _ hq] at e
  exact e.symm
 refine wpAny_call (make_map (f := f) I.kIn M.makes M.init (beq_iff_eq.mp M.fn) (codeAny_mono (F.run _ X.stack _ _ ⟨Value.ref (s.heap.objs.size + 1) :: us, []⟩ (Value.ref (s.heap.objs.size + 1) :: (us ++ ds)) _ _ E (hr.make C us [])
  (I2.env0.make C us []) (hb _ (Value.ref (s.heap.objs.size + 1) :: us) I2.kIn hl) r2 hq) fun r s' hq' => ?_))
 cases r with
 | error e => exact hx pins σ _ _ e s' I2 hq'
 | ok fl =>
  cases fl with
  | ret u =>
   obtain ⟨v, H', I3, rv, ev, q3⟩ := I2.after hq'
   subst ev
   exact ⟨rv, ⟨V.ref (s.heap.objs.size + 1), H', I3, rfl, q3⟩⟩
  | next => exact False.elim hq'
  | brk => exact False.elim hq'
  | cont => exact False.elim hq'
theorem pe_make (M : Mk X.K C f) (F : FnOk X.prog X.w X.K X.mg X.base CX k f fd ps sp) (hr : Room (k + 1) X.A) (hg : Gl X x) (hm : X.mg x = some (.ref C)) (hb : Binds X.K fd ps ds) (hd : Vals dvs ds) (hx : Passes CX X E)
  (ha : PA X (e :: es) t) (hdb : (x == ("__debug__" : Str)) = false := by decide) (he : starEach (e :: es) X.env = (false, eval e X.env) :: starEach es X.env := by rfl) (hpl : (backTo pos (starEach es X.env)).any (·.1) = false := by rfl) :
  PE X (.Call (.Name x p) (e :: es) [] pos) (tMake C sp dvs E t) := by
 intro pins s σ H Q I h
 refine wpAny_Call_Name_kw (ld_glob I hg hm ?_ hdb)
 refine PySem.W.callWith_K (h₀ := X.base) I.ok.mod.kin M.kp (thn (ha pos pins s σ H _ I h) fun us s1 ⟨vs, H1, I1, r, q⟩ => ⟨I1.kIn, ?_⟩) he hpl
 exact run_make M F hr hb hd hx I1 r q
end
section
variable {X : Cx} {CX : CXT} {k : Nat} {f C : Addr} {fd : FuncData} {ps ks : List Str} {sp : Sp} {E : XK} {x m : Str} {p pos apos kpos : Pos} {e o : Expr} {es : List Expr} {kws : List Keyword} {te ta : TE} {t tk : TA} {nm : Option Str}
variable {g : List Value -> List Value -> List Value} {gV : List V -> List V -> List V}
end
structure FnScope (N P : List Str) (sc : Scope) : Prop where
 kind : sc.kind = .function
 co : sc.isCoroutine = false
 gen : sc.isGenerator = false
 nd : N.Nodup
 pre : N.take P.length = P
 par : ∀ x ∈ P, sc.names.lookup x = some .local \/ sc.names.lookup x = some .cell
 nofree : ∀ y ∈ sc.names, y.2 ≠ .free
theorem bindL_out {kindOf : Str -> Option NameKind} {x : Str} : ∀ {binds : List (Str × Value)} {m : Str -> Option Value}, (∀ v, (x, v) ∉ binds) -> bindL kindOf binds m x = m x
 | [], _, _ => rfl
 | (n, v) :: r, m, h => by
  unfold bindL
  rw [bindL_out fun w hw => h w (List.mem_cons_of_mem _ hw)]
  split
  ·have : x ≠ n := by rintro rfl; exact h v List.mem_cons_self
   simp [this]
  ·rfl
theorem bindC_out {kindOf : Str -> Option NameKind} {x : Str} : ∀ {binds : List (Str × Value)} {m : Str -> Option Value}, (∀ v, (x, v) ∉ binds) -> bindC kindOf binds m x = m x
 | [], _, _ => rfl
 | (n, v) :: r, m, h => by
  unfold bindC
  rw [bindC_out fun w hw => h w (List.mem_cons_of_mem _ hw)]
  split
  ·rfl
  ·have : x ≠ n := by rintro rfl; exact h v List.mem_cons_self
   simp [this]
theorem bindL_get {kindOf : Str -> Option NameKind} {x : Str} {v : Value} : ∀ {P : List Str} {vs : List Value} {i : Nat} {m : Str -> Option Value}, P.Nodup -> P[i]? = some x -> vs[i]? = some v -> kindOf x = some .local ->
  bindL kindOf (P.zip vs) m x = some v
 | [], _, _, _, _, h, _, _ => by simp at h
 | _ :: _, [], _, _, _, _, h, _ => by simp at h
 | p :: P, w :: vs, 0, m, nd, h1, h2, hk => by
  simp at h1 h2; subst h1; subst h2
  show bindL kindOf ((p, w) :: P.zip vs) m p = _
  unfold bindL
  rw [bindL_out fun v hv => (List.nodup_cons.mp nd).1 (List.of_mem_zip hv).1, if_pos hk]
  simp
 | p :: P, w :: vs, i + 1, m, nd, h1, h2, hk => by
  show bindL kindOf ((p, w) :: P.zip vs) m x = _
  unfold bindL
  exact bindL_get (i := i) (List.nodup_cons.mp nd).2 (by simpa using h1) (by simpa using h2) hk
theorem bindC_get {kindOf : Str -> Option NameKind} {x : Str} {v : Value} : ∀ {P : List Str} {vs : List Value} {i : Nat} {m : Str -> Option Value}, P.Nodup -> P[i]? = some x -> vs[i]? = some v -> kindOf x ≠ some .local ->
  bindC kindOf (P.zip vs) m x = some v
 | [], _, _, _, _, h, _, _ => by simp at h
 | _ :: _, [], _, _, _, _, h, _ => by simp at h
 | p :: P, w :: vs, 0, m, nd, h1, h2, hk => by
  simp at h1 h2; subst h1; subst h2
  show bindC kindOf ((p, w) :: P.zip vs) m p = _
  unfold bindC
  rw [bindC_out fun v hv => (List.nodup_cons.mp nd).1 (List.of_mem_zip hv).1, if_neg hk]
  simp
 | p :: P, w :: vs, i + 1, m, nd, h1, h2, hk => by
  show bindC kindOf ((p, w) :: P.zip vs) m x = _
  unfold bindC
  exact bindC_get (i := i) (List.nodup_cons.mp nd).2 (by simpa using h1) (by simpa using h2) hk
noncomputable def start (N : List Str) (vs : List V) : St := vs.map some ++ List.replicate (N.length - vs.length) none
noncomputable def cxOf (CX : CXT) (P : Program) (w : World) (K : PySem.W.Frag) (mg : Str -> Option Value) (base : Heap) (N : List Str) (qual : Str) (scope : Scope) (f : Addr) (cd : Value) (A : Around) (outer : List Env) (s : Shared) (H : Hp) (E : XK) : Cx where
 prog := P
 w := w
 K := K
 mg := mg
 base := base
 A := A.deeper (envOfC qual scope s.heap.objs.size f cd)
 N := N
 s₀ := s
 H₀ := H
 env := envOfC qual scope s.heap.objs.size f cd
 outer := outer
 stack := envOfC qual scope s.heap.objs.size f cd :: outer
 ex := []
 calm := true
 fn := fun _ => true
 pn := []
 xe := fun e s' => wpAny (model P w) (A.deeper (envOfC qual scope s.heap.objs.size f cd)) (leaving (envOfC qual scope s.heap.objs.size f cd) e) (fun _ s'' => CX outer H s E e s'') (fun e' s'' => CX outer H s E e' s'') s'
theorem cell_has {sc : Scope} {n : Nat} {x : Str} (h : sc.names.lookup x = some .cell) : ∃ c, (cellsFrom n sc.names []).lookup x = some c := by
 have q := PySem.W.cellsFrom_some sc.names n [] (.inl h)
 exact Option.isSome_iff_exists.mp q
theorem inv_start {CX : CXT} {P : Program} {w : World} {K : PySem.W.Frag} {mg : Str -> Option Value} {base : Heap} {N ps : List Str} {qual : Str} {scope : Scope} {f : Addr} {cd : Value} {A : Around} {outer : List Env} {s s1 : Shared} {H : Hp} {E : XK} {us : List Value} {vs : List V}
  (S : FnScope N ps scope) (hd : A.handled = none) (e0 : Env0 P w K mg base A outer s H) (hl : vs.length = ps.length) (r : Vals vs us)
  (x : InCallC s s.heap.objs.size (bindL (envOfC qual scope s.heap.objs.size f cd).kindOf (ps.zip us) fun _ => none) (cellsFrom (s.heap.objs.size + 1) scope.names []) (bindC (envOfC qual scope s.heap.objs.size f cd).kindOf (ps.zip us) fun _ => none) s1) :
  Inv (cxOf CX P w K mg base N qual scope f cd A outer s H E) [] (start N vs) H s1 := by
 have hpl : ps.length <= N.length := by have := congrArg List.length S.pre; rw [List.length_take] at this; omega
 obtain ⟨h1, tk, rfl, hk⟩ := x.done
 have noA : ∀ b : Addr, b ∉ (cxOf CX P w K mg base N qual scope f cd A outer s H E).ex := fun b z => absurd (show b ∈ ([] : List Addr) from z) (by simp)
 refine ⟨⟨e0.mod, S.kind, rfl, rfl, Nat.le_refl _, fun y z c h1 h2 => ?_, fun y hy => ?_, fun y c _ h => ?_, fun _ => hd, Around.frames_deeper e0.frames, .inr ⟨rfl, rfl⟩, fun b z => absurd z (noA b), e0.bs, e0.bsz, fun b _ _ => noA b, fun b z => absurd z (noA b), e0.funs, e0.frf⟩,
  rfl, e0.bare, Un.kept hk, ⟨_, x.toInCall.ns, fun i y v h1 h2 h3 => ?_⟩, fun y c h => ⟨_, x.cell y c h⟩, e0.hok.fresh (Nat.le_refl _), fun y c h => ?_, fun p hp => absurd (show p ∈ ([] : List (Addr × Obj)) from hp) (by simp), e0.hok.kept hk, ?_⟩
 ·exact name_of_addr x.apart (PySem.mem_of_lookup h1) (PySem.mem_of_lookup h2)
 ·have hy : scope.names.lookup y = some .cell \/ scope.names.lookup y = some .free := hy
  rcases hy with hy | hy
  ·exact cell_has hy
  ·exact absurd rfl (S.nofree _ (PySem.mem_of_lookup hy))
 ·exact Nat.le_of_lt (x.above y c (PySem.mem_of_lookup h))
 ·have hi : i < vs.length := by
   unfold start at h2
   by_cases hi : i < vs.length
   ·exact hi
   ·rw [List.getElem?_append_right (by simpa using hi)] at h2
    rw [List.getElem?_replicate] at h2
    split at h2 <;> cases h2
  have ha : vs[i]? = some v := by
   unfold start at h2
   rw [List.getElem?_append_left (by simpa using hi), List.getElem?_map] at h2
   cases e : vs[i]? with
   | none => rw [e] at h2; cases h2
   | some a => rw [e] at h2; cases h2; rfl
  obtain ⟨u, hu, rv⟩ := r.get ha
  have hp : ps[i]? = some y := by
   rw [<- S.pre, List.getElem?_take_of_lt (by omega)]; exact h1
  have ndP : ps.Nodup := by rw [<- S.pre]; exact S.nd.sublist (List.take_sublist _ _)
  refine ⟨u, rv, ?_⟩
  rcases S.par y (List.mem_of_getElem? hp) with k | k
  ·exact .inl ⟨k, bindL_get ndP hp hu k⟩
  ·obtain ⟨c, e⟩ := cell_has (n := s.heap.objs.size + 1) k
   refine .inr ⟨.inl k, c, e, ?_⟩
   have q := x.cell y c e
   rw [bindC_get ndP hp hu (by show scope.names.lookup y ≠ _; rw [k]; decide)] at q
   exact q
 ·exact e0.hok.fresh (Nat.le_of_lt (x.above y c (PySem.mem_of_lookup h)))
 ·unfold start
  show _ = N.length
  rw [List.length_append, List.length_map, List.length_replicate]
  omega
theorem fn_of {CX : CXT} {P : Program} {w : World} {K : PySem.W.Frag} {mg : Str -> Option Value} {base : Heap} {k : Nat} {f : Addr} {name qual : Str} {params : Arguments} {body : List Stmt} {scope : Scope} {dV kV doc pm cdv ct oc : Value} {an od : Option Addr}
  {osl : Array (Option Value)} {N ps : List Str} {sp : Sp} (lk : K.lookup f = some ⟨oc, od, .func (PySem.W.fnOf name qual params body scope dV kV doc pm an cdv ct), osl⟩) (hcd : PySem.W.codeIn K cdv qual = true) (S : FnScope N ps scope)
  (len : ∀ vs H Q E, sp vs H Q E -> vs.length = ps.length)
  (hbody : ∀ (A : Around) (outer : List Env) (s : Shared) (H : Hp) (vs : List V) (Q : VK) (E : XK), Room k (A.deeper (envOfC qual scope s.heap.objs.size f cdv)) -> sp vs H Q E ->
   ∃ t, PSs (cxOf CX P w K mg base N qual scope f cdv A outer s H E) body t /\ t { nx := fun _ H' => Q .non H', rt := Q } (start N vs) H) :
  FnOk P w K mg base CX (k + 1) f (PySem.W.fnOf name qual params body scope dV kV doc pm an cdv ct) ps sp := by
 refine ⟨len, fun A outer s H args us vs Q E hr e0 hb r hsp => ?_⟩
 have hl := len _ _ _ _ hsp
 have KX : K.In s.heap := e0.mod.kin.keeps fun b o e => (e0.bs b o e).1
 have lim : s.heap.NoLimit := e0.mod.nolimit.keeps fun b o e => (e0.bs b o e).1
 have hkind : ∀ y ∈ ps.zip us, scope.names.lookup y.1 = some .local \/ (scope.names.lookup y.1 = some .cell /\ ((cellsFrom (s.heap.objs.size + 1) scope.names []).lookup y.1).isSome = true) := fun ⟨n, v⟩ hy => by
  rcases S.par n (List.of_mem_zip hy).1 with q | q
  ·exact .inl q
  ·exact .inr ⟨q, PySem.W.cellsFrom_some _ _ _ (.inl q)⟩
 refine codeAny_call_function hr.depth (KX _ _ lk) rfl S.co S.gen rfl (PySem.W.codeRec_of KX hcd) (hb _ _ _ _ ?_)
 refine wpAny_newFunctionEnv_cells S.kind hkind fun env he s1 x => ?_
 subst he
 refine ⟨lim.keeps x.toInCall.keep, codeAny_func ?_⟩
 obtain ⟨t, ht, hq⟩ := hbody A outer s H vs Q E (hr.deeper _) hsp
 have I : Inv (cxOf CX P w K mg base N qual scope f cdv A outer s H E) [] (start N vs) H s1 := inv_start S hr.hd e0 hl r x
 refine wpAny_mono (ht [] s1 (start N vs) H _ I hq) (fun fl s' hs => ?_) fun e s' hs => hs
 have fin : ∀ {σ' : St} {H' : Hp} {v : V} {u : Value}, Inv (cxOf CX P w K mg base N qual scope f cdv A outer s H E) [] σ' H' s' -> RelV v u -> Q v H' -> CE outer P w H s Q u s' :=
  fun {σ' H' v u} J rv q => ⟨v, H', J.os, J.bare, J.base, J.hok, rv, q⟩
 cases fl with
 | ret u =>
  obtain ⟨v, σ', H', J, rv, q⟩ := hs
  exact fin J rv q
 | next =>
  obtain ⟨σ', H', J, q⟩ := hs
  exact fin (v := V.non) (u := Value.none) J rfl q
 | brk =>
  obtain ⟨_, _, _, q⟩ := hs
  exact False.elim q
 | cont =>
  obtain ⟨_, _, _, q⟩ := hs
  exact False.elim q
section
variable {X : Cx} {x : Str} {p pos : Pos} {e : Expr} {es : List Expr} {t : TA} {id T : String} {r : List V -> Hp -> VK -> Prop}
noncomputable def tCB (r : List V -> Hp -> VK -> Prop) (t : TA) : TE := fun σ H Q => t σ H fun vs H1 => r vs H1 Q
theorem pe_callB (hc : CallR X (.builtin id) r) (hg : Gl X x) (hm : X.mg x = none) (hv : bootBuiltins x = some (.builtin id)) (ha : PA X (e :: es) t) (hn : x ≠ "__name__" := by decide) (hdb : (x == ("__debug__" : Str)) = false := by decide)
  (he : starEach (e :: es) X.env = (false, eval e X.env) :: starEach es X.env := by rfl) (hpl : (backTo pos (starEach es X.env)).any (·.1) = false := by rfl) : PE X (.Call (.Name x p) (e :: es) [] pos) (tCB r t) := by
 intro pins s σ H Q I h
 refine wpAny_Call_Name_kw (ld_blt I hg hm hv ?_ hn hdb)
 exact PyProof.Rows.callWith_builtin1 (thn (ha pos pins s σ H _ I h) fun us s1 ⟨vs, H1, I1, r1, q1⟩ => hc pins s1 σ H1 vs us Q I1 r1 q1) he hpl
theorem pe_callTy (hc : CallR X (.type T) r) (hg : Gl X x) (hm : X.mg x = none) (hv : bootBuiltins x = some (.type T)) (ha : PA X (e :: es) t) (hn : x ≠ "__name__" := by decide) (hdb : (x == ("__debug__" : Str)) = false := by decide)
  (he : starEach (e :: es) X.env = (false, eval e X.env) :: starEach es X.env := by rfl) (hpl : (backTo pos (starEach es X.env)).any (·.1) = false := by rfl) : PE X (.Call (.Name x p) (e :: es) [] pos) (tCB r t) := by
 intro pins s σ H Q I h
 refine wpAny_Call_Name_kw (ld_blt I hg hm hv ?_ hn hdb)
 exact PyProof.Rows.callWith_type1 (thn (ha pos pins s σ H _ I h) fun us s1 ⟨vs, H1, I1, r1, q1⟩ => hc pins s1 σ H1 vs us Q I1 r1 q1) he hpl
end
end L2
namespace HT
open PySem PyProof.Rows
section
open PySem.SeqAt
open PySem.AutoSeq1 (wpAny_loadPart')
open PySem.MeetsSeq PySem.MeetsSeq2 PySem.MeetsSeq3
end
section
variable {prog : Program} {w : World} {A : Around} {E : Value -> Shared -> Prop} {s : Shared}
end
end HT
namespace L2
open PySem PySem.Spec PyProof.Rows
noncomputable abbrev TO := St -> Hp -> (Option Int -> Hp -> Prop) -> Prop
noncomputable def PO (X : Cx) (e : Option Expr) (t : TO) : Prop :=
 ∀ (pins : List (Addr × Obj)) (s : Shared) (σ : St) (H : Hp) (Q : Option Int -> Hp -> Prop), Inv X pins σ H s -> t σ H Q ->
  wpAny (model X.prog X.w) X.A (evalPart e X.env) (fun u s' => ∃ o H', Inv X pins σ H' s' /\ IsPart u o /\ Q o H') X.xe s
noncomputable def tNoPart : TO := fun _ H Q => Q none H
noncomputable def tPart (t : TE) : TO := fun σ H Q => t σ H fun x H1 => ∃ i, x = .int i /\ Q (some i) H1
section
variable {X : Cx} {e : Expr} {te : TE} {lo hi : Option Expr} {tl th : TO} {pos p2 : Pos}
theorem po_none : PO X none tNoPart := by
 intro pins s σ H Q I h
 rw [evalPart_none]
 exact wpAny_pure ⟨none, H, I, .none, h⟩
theorem po_some (h : PE X e te) : PO X (some e) (tPart te) := by
 intro pins s σ H Q I hw
 rw [evalPart_some]
 refine thn (h pins s σ H _ I hw) fun u s1 ⟨x, H1, I1, r1, q1⟩ => ?_
 obtain ⟨i, rfl, q⟩ := q1
 obtain ⟨t, rfl⟩ := r1
 exact ⟨some i, H1, I1, .int i t, q⟩
noncomputable def SlR (X : Cx) (r : V -> Option Int -> Option Int -> Hp -> VK -> Prop) : Prop :=
 ∀ (pins : List (Addr × Obj)) (s : Shared) (σ : St) (H : Hp) (x : V) (v vl vu : Value) (lo hi : Option Int) (sl : Addr) (Q : VK), Inv X pins σ H s -> RelV x v -> s.heap.IsSliceOf sl vl vu .none -> IsPart vl lo -> IsPart vu hi -> r x lo hi H Q ->
  ∃ T id, typeLookup (.type T) "__getitem__" = pure (some (.builtin id)) /\ s.TypeIs v T /\ wpAny (model X.prog X.w) X.A (getItem v (.ref sl)) (EP X pins σ Q) X.xe s
noncomputable def tSl (r : V -> Option Int -> Option Int -> Hp -> VK -> Prop) (te : TE) (tl th : TO) : TE := fun σ H Q => te σ H fun x H1 => tl σ H1 fun l H2 => th σ H2 fun u H3 => r x l u H3 Q
theorem pe_slice {r : V -> Option Int -> Option Int -> Hp -> VK -> Prop} (hr : SlR X r) (he : PE X e te) (hl : PO X lo tl) (hu : PO X hi th) : PE X (.Subscript e (.Slice lo hi none p2) pos) (tSl r te tl th) := by
 intro pins s σ H Q I h
 refine Subscript_ (thn (he pins s σ H _ I h) fun v s1 ⟨x, H1, I1, r1, q1⟩ => ?_)
 refine wpAny_Slice (thn (hl pins s1 σ H1 _ I1 q1) fun vl s2 ⟨l, H2, I2, pl, q2⟩ => thn (hu pins s2 σ H2 _ I2 q2) fun vu s3 ⟨u, H3, I3, pu, q3⟩ => ?_)
 rw [evalPart_none]
 refine wpAny_pure ?_
 have I4 : Inv X pins σ H3 { s3 with heap := s3.heap.push { cls := .type "slice", data := .fields #[vl, vu, .none] } } := I3.kept (t' := s3.toks) fun b ob q => Heap.get?_push_of_some _ q
 obtain ⟨T, id, hT, ht, hg⟩ := hr pins { s3 with heap := s3.heap.push { cls := .type "slice", data := .fields #[vl, vu, .none] } } σ H3 x v vl vu l u s3.heap.objs.size Q I4 r1 (Heap.IsSliceOf.new ..) pl pu q3
 show wpAny (model X.prog X.w) X.A (subscriptTail e (.Slice lo hi none p2) v (.ref s3.heap.objs.size)) (EP X pins σ Q) X.xe { s3 with heap := s3.heap.push { cls := .type "slice", data := .fields #[vl, vu, .none] } }
 exact tail_any (ops := [.ref s3.heap.objs.size, v]) ht hT hg (by with_unfolding_all rfl)
end
noncomputable def ixN (n : Nat) (i : Int) : Option Nat := if 0 <= i then (if i < n then some i.toNat else none) else if -(n : Int) <= i then some (i + n).toNat else none
noncomputable def atI {α : Type} (xs : List α) (i : Int) : Option α := (ixN xs.length i).bind fun j => xs[j]?
theorem ixN_seq {n : Nat} {i : Int} {j : Nat} (h : ixN n i = some j) : seqIndex? i n = some j /\ j < n /\ -(n : Int) <= i /\ i < n := by
 unfold ixN at h
 by_cases h0 : 0 <= i
 ·rw [if_pos h0] at h
  by_cases h1 : i < n
  ·rw [if_pos h1] at h
   have e : i.toNat = j := Option.some.inj h
   exact ⟨by rw [seqIndex_of h0 h1, e], by omega, by omega, h1⟩
  ·rw [if_neg h1] at h; cases h
 ·rw [if_neg h0] at h
  by_cases h1 : -(n : Int) <= i
  ·rw [if_pos h1] at h
   have e : (i + n).toNat = j := Option.some.inj h
   exact ⟨by rw [seqIndex_neg (by omega) h1, e], by omega, h1, by omega⟩
  ·rw [if_neg h1] at h; cases h
theorem atI_get {α : Type} {xs : List α} {i : Int} {v : α} (h : atI xs i = some v) : ∃ j, seqIndex? i xs.length = some j /\ xs[j]? = some v /\ j < xs.length /\ -(xs.length : Int) <= i /\ i < xs.length := by
 unfold atI at h
 cases e : ixN xs.length i with
 | none => rw [e] at h; cases h
 | some j =>
  rw [e] at h
  obtain ⟨h1, h2, h3, h4⟩ := ixN_seq e
  exact ⟨j, h1, h, h2, h3, h4⟩
theorem atI_nat {α : Type} {xs : List α} {j : Nat} {v : α} (h : xs[j]? = some v) : atI xs (j : Int) = some v := by
 have hj : j < xs.length := (List.getElem?_eq_some_iff.mp h).1
 have e : ixN xs.length (j : Int) = some j := by
  unfold ixN
  rw [if_pos (by omega), if_pos (by omega)]; simp
 unfold atI; rw [e]; exact h
noncomputable def PlainIx (b : Expr) : Prop := ∀ o i, subscripted b false o i = operate [o, i] (getItem o i)
noncomputable def IxR (X : Cx) (r : R2) : Prop :=
 ∀ (value slice : Expr) (pins : List (Addr × Obj)) (s : Shared) (σ : St) (H : Hp) (x y : V) (v u : Value) (Q : VK), Inv X pins σ H s -> RelV x v -> RelV y u -> r x y H Q ->
  subscripted slice false v u = operate [v, u] (getItem v u) -> wpAny (model X.prog X.w) X.A (subscriptTail value slice v u) (EP X pins σ Q) X.xe s
noncomputable def MtR (X : Cx) (id : String) (r : V -> List V -> Hp -> VK -> Prop) : Prop :=
 ∀ (pins : List (Addr × Obj)) (s : Shared) (σ : St) (H : Hp) (x : V) (xs : List V) (v : Value) (us : List Value) (Q : VK), Inv X pins σ H s -> RelV x v -> Vals xs us -> r x xs H Q ->
  wpAny (model X.prog X.w) X.A (call (.builtin id) (v :: us)) (EP X pins σ Q) X.xe s
section
variable {X : Cx} {a b : Expr} {ta tb : TE} {pos : Pos}
theorem pe_ix {r : R2} (hr : IxR X r) (ha : PE X a ta) (hb : PE X b tb) (hs : PlainIx b) : PE X (.Subscript a b pos) (tOp r ta tb) := by
 intro pins s σ H Q I h
 exact Subscript_ (binT ha hb I h fun v u s2 x y H2 I2 rx ry q => hr a b pins s2 σ H2 x y v u Q I2 rx ry q (hs _ _))
noncomputable def rIxL (K : PySem.W.Frag) : R2 := fun x y H Q => ∃ p xs i v, x = .ref p /\ y = .int i /\ SqL K H p xs /\ atI xs i = some v /\ Q v H
noncomputable def rIxT (K : PySem.W.Frag) : R2 := fun x y H Q => ∃ p xs i v, x = .ref p /\ y = .int i /\ SqT K H p xs /\ atI xs i = some v /\ Q v H
noncomputable def rIxS : R2 := fun x y H Q => ∃ z i c, x = .str z /\ y = .int i /\ z.length <= sizeLine /\ atI z.cps.toList i = some c /\ Q (.str ⟨#[c]⟩) H
theorem ix_list : IxR X (rIxL X.K) := by
 intro value slice pins s σ H x y v u Q I rx ry h hs
 obtain ⟨p, xs, i, z, rfl, rfl, hq, he, q⟩ := h
 cases rx
 obtain ⟨t, rfl⟩ := ry
 obtain ⟨its, r, pl, hz⟩ := I.list hq
 obtain ⟨j, h1, h2, h3, h4, h5⟩ := atI_get he
 obtain ⟨w, ew, rw'⟩ := r.get h2
 have hl := r.length
 have hn := line63
 have fin : EP X pins σ Q w s := ⟨z, H, I, rw', q⟩
 by_cases h0 : 0 <= i
 ·have hj : i.toNat = j := by
   rw [seqIndex_of h0 h5] at h1
   exact Option.some.inj h1
  exact item_listR pl.isList h0 (by omega) (by rw [hj]; simpa using ew) fin hs
 ·have hj : (i + (its.toArray.size : Int)).toNat = j := by
   rw [seqIndex_neg (by omega) h4] at h1
   rw [List.size_toArray, <- hl]
   exact Option.some.inj h1
  exact subscriptTail_builtinR (x := w) pl.isList.typeIs slot_list_getitem.lookup
   (wpAny_getItem_list_neg (Q := fun r s' => r = w /\ EP X pins σ Q r s') pl.isList (by omega) (by rw [List.size_toArray] <;> omega) (by omega) (by rw [hj]; simpa using ew) ⟨rfl, fin⟩) hs
theorem ix_tup : IxR X (rIxT X.K) := by
 intro value slice pins s σ H x y v u Q I rx ry h hs
 obtain ⟨p, xs, i, z, rfl, rfl, hq, he, q⟩ := h
 cases rx
 obtain ⟨t, rfl⟩ := ry
 obtain ⟨its, r, pl, hz⟩ := I.tuple hq
 obtain ⟨j, h1, h2, h3, h4, h5⟩ := atI_get he
 obtain ⟨w, ew, rw'⟩ := r.get h2
 have hl := r.length
 have hn := line63
 have fin : EP X pins σ Q w s := ⟨z, H, I, rw', q⟩
 exact subscriptTail_builtinR (x := w) pl.typeIs slot_tuple_getitem.lookup
  (getItem_tuple (j := j) (Q := fun r s' => r = w /\ EP X pins σ Q r s') pl (by omega) (by omega) (by rw [List.size_toArray, <- hl]; exact h1) (by simpa using ew) ⟨rfl, fin⟩) hs
theorem ix_str : IxR X rIxS := by
 intro value slice pins s σ H x y v u Q I rx ry h hs
 obtain ⟨z, i, c, rfl, rfl, hz, he, q⟩ := h
 obtain ⟨t, rfl⟩ := rx
 obtain ⟨t', rfl⟩ := ry
 obtain ⟨j, h1, h2, h3, h4, h5⟩ := atI_get he
 have hl : z.cps.toList.length = z.length := by simp [Str.length]
 rw [hl] at h1 h4 h5
 have hn := line63
 exact tail_any (typeIs_str s z t) slot_str_getitem.lookup (getItem_str (c := c) (by
  have e1 : decide (i < -(2 ^ 63 : Int)) = false := decide_eq_false (by omega)
  have e2 : decide (i ≥ 2 ^ 63) = false := decide_eq_false (by omega)
  rw [e1, e2, Bool.or_false]) (by rw [h1]; simpa using h2) ⟨.str ⟨#[c]⟩, H, I.tok _, ⟨_, rfl⟩, q⟩) hs
theorem mapSeq_set (its : List Value) (n j : Nat) (u : Value) : Obj.mapSeq (·.setIfInBounds j u) { cls := .type "list", data := .seq its.toArray n } = { cls := .type "list", data := .seq (its.set j u).toArray n } := by
 simp [Obj.mapSeq]
theorem Inv.lst {pins : List (Addr × Obj)} {σ : St} {H : Hp} {s : Shared} {p : Addr} {xs : List V} (I : Inv X pins σ H s) (h : H p = some (.lst xs)) :
  ∃ (its : List Value) (n : Nat), Vals xs its /\ s.heap.get? p = some { cls := .type "list", data := .seq its.toArray n } /\ xs.length <= sizeLine := by
 obtain ⟨z, its, n, r, e⟩ := I.hok p _ h
 exact ⟨its, n, r, e, z⟩
theorem Inv.lstUpd {pins : List (Addr × Obj)} {σ : St} {H : Hp} {s : Shared} {p : Addr} {xs ys : List V} {its its' : List Value} {n n' : Nat} {f : Obj -> Obj} (I : Inv X pins σ H s) (h : H p = some (.lst xs))
  (ho : s.heap.get? p = some { cls := .type "list", data := .seq its.toArray n }) (hf : f { cls := .type "list", data := .seq its.toArray n } = { cls := .type "list", data := .seq its'.toArray n' }) (r : Vals ys its') (hz : ys.length <= sizeLine) (t : Nat) :
  Inv X pins σ (upd H p (.lst ys)) { s with heap := s.heap.update p f, toks := t } := by
 have e : (s.heap.update p f).get? p = some { cls := .type "list", data := .seq its'.toArray n' } := by
  rw [Heap.get?_update_self f ho (by rw [hf] <;> rfl), hf]
 refine I.write (x := p) (e := p) (by rw [h]; trivial) (.inl rfl) (fun b u hb q => (Heap.get?_update_other _ _ (Ne.symm hb)).trans q) ⟨_, e⟩ ?_
 exact ⟨hz, its', n', r, e⟩
noncomputable def rSetL : V -> V -> V -> Hp -> (Hp -> Prop) -> Prop := fun o i v H Q => ∃ p xs k j, o = .ref p /\ i = .int k /\ H p = some (.lst xs) /\ ixN xs.length k = some j /\ Q (upd H p (.lst (xs.set j v)))
theorem set_list : PSet X rSetL := by
 intro pins s σ H o i v ov iv u Q I ro ri rv h
 obtain ⟨p, xs, k, j, rfl, rfl, hp, hj, q⟩ := h
 cases ro
 obtain ⟨t, rfl⟩ := ri
 obtain ⟨its, n, r, ho, hz⟩ := I.lst hp
 obtain ⟨h1, h2, h3, h4⟩ := ixN_seq hj
 have hl := r.length
 have hn := line63
 have I' : Inv X pins σ (upd H p (.lst (xs.set j v))) { s with heap := s.heap.update p (Obj.mapSeq (·.setIfInBounds j u)) } :=
  I.lstUpd hp ho (mapSeq_set its n j u) (r.set rv j) (by rw [List.length_set]; exact hz) s.toks
 by_cases h0 : 0 <= k
 ·have hk : k.toNat = j := by
   rw [seqIndex_of h0 h4] at h1
   exact Option.some.inj h1
  exact PySem.W.ki_setAt ho h0 (by omega) (by rw [List.size_toArray, <- hl]; exact h4) (by rw [hk]; exact ⟨_, I', q⟩)
 ·have hk : (k + (its.toArray.size : Int)).toNat = j := by
   rw [seqIndex_neg (by omega) h3] at h1
   rw [List.size_toArray, <- hl]
   exact Option.some.inj h1
  exact PySem.W.ki_setBack ho (by omega) (by rw [List.size_toArray, <- hl]; exact h3) (by omega) (by rw [hk]; exact ⟨_, I', q⟩)
noncomputable def flatV : V -> Bool
 | .non => true
 | .bl _ => true
 | .int _ => true
 | .str _ => true
 | _ => false
noncomputable def eqV : V -> V -> Bool
 | .non, .non => true
 | .bl a, .bl b => a == b
 | .bl a, .int b => (if a then 1 else 0) == b
 | .int a, .bl b => a == (if b then 1 else 0)
 | .int a, .int b => a == b
 | .str a, .str b => a == b
 | _, _ => false
theorem eqAt_V {A : Around} {s : Shared} {y x : V} {u v : Value} (ry : RelV y u) (rx : RelV x v) (fy : flatV y = true) (fx : flatV x = true) : SeqAt.EqAt A s u v (eqV y x) := by
 cases y with
 | non =>
  cases ry
  cases x with
  | non => cases rx; exact SeqAt.EqAt.same _
  | bl b => cases rx; exact SeqAt.EqAt.none_bool b
  | int b => obtain ⟨t, rfl⟩ := rx; exact SeqAt.EqAt.none_int b t
  | str b => obtain ⟨t, rfl⟩ := rx; exact SeqAt.EqAt.none_str b t
  | _ => exact absurd (show false = true from fx) Bool.false_ne_true
 | bl a =>
  cases ry
  cases x with
  | non => cases rx; exact SeqAt.EqAt.bool_none a
  | bl b => cases rx; exact SeqAt.EqAt.bool_bool a b
  | int b => obtain ⟨t, rfl⟩ := rx; exact SeqAt.EqAt.bool_int a b t
  | str b => obtain ⟨t, rfl⟩ := rx; exact SeqAt.EqAt.bool_str a b t
  | _ => exact absurd (show false = true from fx) Bool.false_ne_true
 | int a =>
  obtain ⟨t', rfl⟩ := ry
  cases x with
  | non => cases rx; exact SeqAt.EqAt.int_none a t'
  | bl b => cases rx; exact SeqAt.EqAt.int_bool a t' b
  | int b => obtain ⟨t, rfl⟩ := rx; exact SeqAt.EqAt.int_int a t' b t
  | str b => obtain ⟨t, rfl⟩ := rx; exact SeqAt.EqAt.int_str a t' b t
  | _ => exact absurd (show false = true from fx) Bool.false_ne_true
 | str a =>
  obtain ⟨t', rfl⟩ := ry
  cases x with
  | non => cases rx; exact SeqAt.EqAt.str_none a t'
  | bl b => cases rx; exact SeqAt.EqAt.str_bool a t' b
  | int b => obtain ⟨t, rfl⟩ := rx; exact SeqAt.EqAt.str_int a t' b t
  | str b => obtain ⟨t, rfl⟩ := rx; exact SeqAt.EqAt.str_str a t' b t
  | _ => exact absurd (show false = true from fx) Bool.false_ne_true
 | _ => exact absurd (show false = true from fy) Bool.false_ne_true
noncomputable def eqU (x : V) (u : Value) : Bool := match u with
 | .none => eqV .non x
 | .bool b => eqV (.bl b) x
 | .int i _ => eqV (.int i) x
 | .str z _ => eqV (.str z) x
 | _ => false
theorem eqU_of {x y : V} {u : Value} (r : RelV y u) (f : flatV y = true) : eqU x u = eqV y x := by
 cases y with
 | non => cases r; rfl
 | bl b => cases r; rfl
 | int i => obtain ⟨t, rfl⟩ := r; rfl
 | str z => obtain ⟨t, rfl⟩ := r; rfl
 | _ => exact absurd (show false = true from f) Bool.false_ne_true
theorem any_eqU {x : V} : ∀ {xs : List V} {us : List Value}, Vals xs us -> xs.all flatV = true -> us.any (eqU x) = xs.any fun y => eqV y x
 | _, _, .nil, _ => rfl
 | y :: xs, u :: us, .cons r t, f => by
  rw [List.all_cons, Bool.and_eq_true] at f
  rw [List.any_cons, List.any_cons, eqU_of r f.1, any_eqU t f.2]
theorem mem_eqAt {A : Around} {s : Shared} {x : V} {v : Value} (rx : RelV x v) (fx : flatV x = true) : ∀ {xs : List V} {us : List Value}, Vals xs us -> xs.all flatV = true -> ∀ u ∈ us, SeqAt.EqAt A s u v (eqU x u)
 | _, _, .nil, _ => fun u hu => by cases hu
 | y :: xs, u :: us, .cons r t, f => fun u' hu => by
  rw [List.all_cons, Bool.and_eq_true] at f
  rcases List.mem_cons.mp hu with rfl | hu
  ·rw [eqU_of r f.1]; exact eqAt_V r rx f.1 fx
  ·exact mem_eqAt rx fx t f.2 u' hu
noncomputable def inV (x : V) (xs : List V) : Bool := xs.any fun y => eqV y x
noncomputable def rIn (K : PySem.W.Frag) (neg : Bool) : R2 := fun x y H Q => ∃ p xs, y = .ref p /\ (SqL K H p xs \/ SqT K H p xs) /\ flatV x = true /\ xs.all flatV = true /\ Q (.bl (if neg then !inV x xs else inV x xs)) H
theorem op_in_seq : OpR X (compareOp .In) (rIn X.K false) := by
 intro pins s σ H x y v u Q I rx ry h
 obtain ⟨p, xs, rfl, hq, fx, fs, q⟩ := h
 cases ry
 rcases hq with hq | hq
 ·obtain ⟨its, r, pl, hz⟩ := I.list hq
  refine SeqAt.in_listAt (eqU x) pl.isList (fun w hw => mem_eqAt rx fx r fs w (by simpa using hw)) ⟨.bl _, H, I, rfl, ?_⟩
  rw [show its.toArray.any (eqU x) = its.any (eqU x) by simp, any_eqU r fs]
  exact q
 ·obtain ⟨its, r, pl, hz⟩ := I.tuple hq
  refine SeqAt.in_tupleAt (eqU x) pl (fun w hw => mem_eqAt rx fx r fs w (by simpa using hw)) ⟨.bl _, H, I, rfl, ?_⟩
  rw [show its.toArray.any (eqU x) = its.any (eqU x) by simp, any_eqU r fs]
  exact q
theorem call_len_seq : CallR X (.builtin "len") (fun xs H Q => ∃ p ys, xs = [.ref p] /\ (SqL X.K H p ys \/ SqT X.K H p ys) /\ Q (.int ys.length) H) := by
 intro pins s σ H xs us Q I r h
 obtain ⟨p, ys, rfl, hq, q⟩ := h
 obtain ⟨u, rfl, rx⟩ := vals1 r
 cases rx
 have hn := line63
 rcases hq with hq | hq
 ·obtain ⟨its, r', pl, hz⟩ := I.list hq
  have hlen := r'.length
  exact Calls.call_len_list pl.isList (by simp only [List.size_toArray] <;> omega) ⟨.int ys.length, H, I.tok _, ⟨s.toks + 1, by rw [List.size_toArray, hlen]⟩, q⟩
 ·obtain ⟨its, r', pl, hz⟩ := I.tuple hq
  have hlen := r'.length
  exact len_tuple pl (by simp only [List.size_toArray] <;> omega) ⟨.int ys.length, H, I.tok _, ⟨s.toks + 1, by rw [List.size_toArray, hlen]⟩, q⟩
theorem call_len_str : CallR X (.builtin "len") (fun xs H Q => ∃ z, xs = [.str z] /\ z.length <= sizeLine /\ Q (.int z.length) H) := by
 intro pins s σ H xs us Q I r h
 obtain ⟨z, rfl, hz, q⟩ := h
 obtain ⟨u, rfl, t, rfl⟩ := vals1 r
 have hn := line63
 exact len_str (by omega) ⟨.int z.length, H, I.tok _, ⟨_, rfl⟩, q⟩
theorem call_list_of : CallR X (.type "list") (fun xs H Q => ∃ p ys, xs = [.ref p] /\ (SqL X.K H p ys \/ SqT X.K H p ys) /\ ∀ l, H l = none -> Q (.ref l) (upd H l (.lst ys))) := by
 intro pins s σ H xs us Q I r h
 obtain ⟨p, ys, rfl, hq, q⟩ := h
 obtain ⟨u, rfl, rx⟩ := vals1 r
 cases rx
 have fin : ∀ (its : List Value), Vals ys its -> ys.length <= sizeLine -> ∀ (h' : Heap) (c' : Nat), (∀ b o', s.heap.get? b = some o' -> h'.get? b = some o') ->
   h'.get? s.heap.objs.size = some { cls := .type "list", dict := none, data := .seq its.toArray c', slots := #[] } -> EP X pins σ Q (.ref s.heap.objs.size) { s with heap := h' } := fun its r' hz h' c' kp e =>
  ⟨.ref s.heap.objs.size, _, I.laid (t' := s.toks) kp (Nat.le_refl _) (show ObjOk X.prog X.w _ h' _ (.lst ys) from ⟨hz, its, c', r', e⟩), rfl, q _ (I.hok.fresh (Nat.le_refl _))⟩
 rcases hq with hq | hq
 ·obtain ⟨its, r', pl, hz⟩ := I.list hq
  have hlen := r'.length
  obtain ⟨o, ho, hc, n, hd⟩ := pl.isList
  exact call_list_seq p (.inl rfl) ho hc hd (fun h' c' kp e => fin its r' hz h' c' kp e) (by simp only [List.size_toArray] <;> omega)
 ·obtain ⟨its, r', pl, hz⟩ := I.tuple hq
  have hlen := r'.length
  obtain ⟨o, ho, hc, n, hd⟩ := pl
  exact call_list_seq p (.inr rfl) ho hc hd (fun h' c' kp e => fin its r' hz h' c' kp e) (by simp only [List.size_toArray] <;> omega)
theorem call_tuple_of : CallR X (.type "tuple") (fun xs H Q => ∃ p ys, xs = [.ref p] /\ ((SqL X.K H p ys /\ ∀ l, H l = none -> Q (.ref l) (upd H l (.tup ys))) \/ (SqT X.K H p ys /\ Q (.ref p) H))) := by
 intro pins s σ H xs us Q I r h
 obtain ⟨p, ys, rfl, h⟩ := h
 obtain ⟨u, rfl, rx⟩ := vals1 r
 cases rx
 rcases h with ⟨hq, q⟩ | ⟨hq, q⟩
 ·obtain ⟨its, r', pl, hz⟩ := I.list hq
  have hlen := r'.length
  refine call_tuple_list pl.isList (fun h' kp => ?_) (by simp only [List.size_toArray] <;> omega)
  have I1 : Inv X pins σ H { s with heap := h' } := I.kept (t' := s.toks) kp
  have I2 : Inv X pins σ (upd H h'.objs.size (.tup ys)) { s with heap := h'.push { cls := .type "tuple", data := .seq its.toArray } } :=
   I1.laid (t' := s.toks) (fun b o e => Heap.get?_push_of_some _ e) (Nat.le_refl _) (show ObjOk X.prog X.w _ _ _ (.tup ys) from ⟨hz, its, r', IsTup.new _ _⟩)
  exact ⟨.ref h'.objs.size, _, I2, rfl, q _ (I1.hok.fresh (Nat.le_refl _))⟩
 ·obtain ⟨its, r', pl, hz⟩ := I.tuple hq
  exact call_tuple_same pl ⟨.ref p, H, I, rfl, q⟩
noncomputable def tyV (K : PySem.W.Frag) (T : String) (x : V) (H : Hp) : Prop := match x with
 | .str _ => T = "str"
 | .int _ => T = "int"
 | .ref p => (T = "list" /\ ∃ xs, SqL K H p xs) \/ (T = "tuple" /\ ∃ o, K.lookup p = some o /\ o.cls = .type "tuple" /\ o.dict = none) \/
   (T = "dict" /\ ((∃ kvs, H p = some (.dK kvs)) \/ ∃ kvs, H p = some (.dT kvs))) \/ (T = "set" /\ ∃ S n, H p = some (.set S n))
 | _ => False
theorem tyV_is {pins : List (Addr × Obj)} {σ : St} {H : Hp} {s : Shared} {T : String} {x : V} {v : Value} (I : Inv X pins σ H s) (r : RelV x v) (ty : tyV X.K T x H) :
  s.TypeIs v T /\ ∀ a, v = .ref a -> ∃ ob, s.heap.get? a = some ob /\ ob.dict = none := by
 cases x with
 | str z =>
  obtain ⟨t, rfl⟩ := r
  cases (show T = "str" from ty)
  exact ⟨typeIs_str s z t, fun _ e => nomatch e⟩
 | int i =>
  obtain ⟨t, rfl⟩ := r
  cases (show T = "int" from ty)
  exact ⟨typeIs_int s i t, fun _ e => nomatch e⟩
 | ref p =>
  cases r
  rcases ty with ⟨rfl, xs, hq⟩ | ⟨rfl, o, hk, hc, hd⟩ | ⟨rfl, hk⟩ | ⟨rfl, S, n, hk⟩
  ·obtain ⟨its, _, pl, _⟩ := I.list hq
   refine ⟨pl.isList.typeIs, fun a e => ?_⟩
   cases e
   obtain ⟨o, n, e, c, hd, _⟩ := pl
   exact ⟨o, e, hd⟩
  ·refine ⟨⟨o, I.kIn p o hk, hc⟩, fun a e => ?_⟩
   cases e
   exact ⟨o, I.kIn _ o hk, hd⟩
  ·have z : ∃ o, s.heap.get? p = some o /\ o.ExactDict := by
    rcases hk with ⟨kvs, hk⟩ | ⟨kvs, hk⟩
    ·obtain ⟨_, _, _, _, o, _, _, e, ex, _⟩ := I.hok p _ hk
     exact ⟨o, e, ex⟩
    ·obtain ⟨_, _, _, _, o, _, _, e, ex, _⟩ := I.hok p _ hk
     exact ⟨o, e, ex⟩
   obtain ⟨o, e, ex⟩ := z
   refine ⟨⟨o, e, ex.1⟩, fun a e2 => ?_⟩
   cases e2
   exact ⟨o, e, ex.2.1⟩
  ·obtain ⟨o, _, _, _, e, ex, _⟩ := I.hok p _ hk
   refine ⟨⟨o, e, ex.1⟩, fun a e2 => ?_⟩
   cases e2
   exact ⟨o, e, ex.2.1⟩
 | _ => exact False.elim ty
noncomputable def tBM0 (K : PySem.W.Frag) (T : String) (r : V -> List V -> Hp -> VK -> Prop) (to : TE) : TE := fun σ H Q => to σ H fun x H1 => tyV K T x H1 /\ r x [] H1 Q
noncomputable def tBM (K : PySem.W.Frag) (T : String) (r : V -> List V -> Hp -> VK -> Prop) (to : TE) (t : TA) : TE := fun σ H Q => to σ H fun x H1 => tyV K T x H1 /\ t σ H1 fun xs H2 => r x xs H2 Q
variable {o e : Expr} {es : List Expr} {to : TE} {t : TA} {name : Str} {apos cpos : Pos} {T id : String} {r : V -> List V -> Hp -> VK -> Prop}
theorem pe_bm0 (pa : PlainAttrs T) (slot : Slot T name id) (hty : typeOf (.builtin id) = pure (.type "method_descriptor")) (hm : MtR X id r) (ho : PE X o to)
  (hbase : attributeBase o name X.env (eval o X.env) = eval o X.env := by rfl) (hline : (apos.endLine == cpos.line) = true := by rfl) : PE X (.Call (.Attribute o name apos) [] [] cpos) (tBM0 X.K T r to) := by
 intro pins s σ H Q I h
 refine wpAny_Call_method0_late hbase hline (thn (ho pins s σ H _ I h) fun v s1 ⟨x, H1, I1, r1, ty, q1⟩ => ?_)
 obtain ⟨h1, h2⟩ := tyV_is I1 r1 ty
 exact ⟨T, id, pa, slot, hty, h1, h2, Calls.callWith_builtin rfl (PySem.evalArgs_none (hm pins s1 σ H1 x [] v [] Q I1 r1 .nil q1))⟩
theorem pe_bm (pa : PlainAttrs T) (slot : Slot T name id) (hty : typeOf (.builtin id) = pure (.type "method_descriptor")) (hm : MtR X id r) (ho : PE X o to) (ha : PA X (e :: es) t)
  (hbase : attributeBase o name X.env (eval o X.env) = eval o X.env := by rfl)
  (hfew : ((backTo cpos (starEach (e :: es) X.env)).all (fun x => !x.1) && (backToKw cpos (keywordEach [] X.env)).all (fun x => x.1.isSome)
   && decide ((e :: es).length + ([] : List Keyword).length + (if ([] : List Keyword).isEmpty then 0 else 1) < 30)) = true := by rfl)
  (hline : (apos.endLine == cpos.line) = true := by rfl) (hs : starEach (e :: es) X.env = (false, eval e X.env) :: starEach es X.env := by rfl) (hplain : (backTo cpos (starEach es X.env)).any (·.1) = false := by rfl) :
  PE X (.Call (.Attribute o name apos) (e :: es) [] cpos) (tBM X.K T r to t) := by
 intro pins s σ H Q I h
 refine wpAny_Call_method_late hbase hfew hline rfl (thn (ho pins s σ H _ I h) fun v s1 ⟨x, H1, I1, r1, ty, q1⟩ => ?_)
 obtain ⟨h1, h2⟩ := tyV_is I1 r1 ty
 refine ⟨T, id, pa, slot, hty, h1, h2, ?_⟩
 have hA := ha cpos pins s1 σ H1 _ I1 q1
 rw [hs] at hA ⊢
 refine Calls.callWith_builtin (by show (false || (backTo cpos (starEach es X.env)).any (·.1)) = false; rw [hplain] <;> rfl) (Calls.evalArgs_plain ?_)
 exact thn hA fun us s2 ⟨vs, H2, I2, r2, q2⟩ => hm pins s2 σ H2 x vs v us Q I2 r1 r2 q2
end
noncomputable def MtM (X : Cx) (id : String) (r : V -> List V -> Hp -> VK -> Prop) : Prop :=
 ∀ (pins : List (Addr × Obj)) (s : Shared) (σ : St) (H : Hp) (x : V) (xs : List V) (v : Value) (us : List Value) (Q : VK), Inv X pins σ H s -> RelV x v -> Vals xs us -> r x xs H Q ->
  wpAny (model X.prog X.w) X.A (call (.builtin id) (v :: us)) (EP X pins σ Q) X.xe s
theorem Vals.one : ∀ {x : V} {us : List Value}, Vals [x] us -> ∃ u, us = [u] /\ RelV x u
 | _, _, .cons r .nil => ⟨_, rfl, r⟩
theorem Vals.two : ∀ {x y : V} {us : List Value}, Vals [x, y] us -> ∃ u v, us = [u, v] /\ RelV x u /\ RelV y v
 | _, _, _, .cons r (.cons q .nil) => ⟨_, _, rfl, r, q⟩
theorem Vals.zero : ∀ {us : List Value}, Vals [] us -> us = []
 | _, .nil => rfl
theorem Vals.rep {xs : List V} {us : List Value} (h : Vals xs us) : ∀ k : Nat, Vals (List.replicate k xs).flatten (List.replicate k us).flatten
 | 0 => .nil
 | k + 1 => by
  rw [List.replicate_succ, List.replicate_succ, List.flatten_cons, List.flatten_cons]
  exact Vals.append h (Vals.rep h k)
theorem foldl_rep (its : List Value) : ∀ (k : Nat) (acc : List Value),
  List.foldl (fun x1 x2 => x1 ++ x2) acc.toArray (List.replicate k its.toArray) = (acc ++ (List.replicate k its).flatten).toArray
 | 0, acc => by simp
 | k + 1, acc => by
  have e : acc.toArray ++ its.toArray = (acc ++ its).toArray := by simp
  have e2 : (acc ++ its) ++ (List.replicate k its).flatten = acc ++ (List.replicate (k + 1) its).flatten := by
   rw [List.replicate_succ, List.flatten_cons, List.append_assoc]
  rw [<- e2, <- foldl_rep its k (acc ++ its), <- e, List.replicate_succ, List.foldl_cons]
section
variable {X : Cx} {pins : List (Addr × Obj)} {σ : St} {H : Hp} {s : Shared} {l b : Addr} {xs ys zs : List V}
theorem Inv.lset {its its' : List Value} {n : Nat} {f : Array Value -> Array Value} {t' : Nat} (I : Inv X pins σ H s) (hH : H l = some (.lst xs))
  (e : s.heap.get? l = some { cls := .type "list", data := .seq its.toArray n }) (hf : f its.toArray = its'.toArray) (hv : Vals ys its') (hz : ys.length <= sizeLine) :
  Inv X pins σ (upd H l (.lst ys)) { s with heap := s.heap.update l (Obj.mapSeq f), toks := t' } := by
 have q := PySem.IsL.update e f
 rw [hf] at q
 refine I.write (x := l) (e := l) (by rw [hH]; exact trivial) (.inl rfl) (fun b' u hb hu => (Heap.get?_update_other s.heap (Obj.mapSeq f) (Ne.symm hb)).trans hu) ⟨_, q⟩ ?_
 exact ⟨hz, its', _, hv, q⟩
theorem Inv.lnew {its : List Value} {t' : Nat} (I : Inv X pins σ H s) (hv : Vals ys its) (hz : ys.length <= sizeLine) :
  Inv X pins σ (upd H s.heap.objs.size (.lst ys)) { s with heap := s.heap.push { cls := .type "list", data := .seq its.toArray }, toks := t' } :=
 I.laid (fun _ _ q => Heap.get?_push_of_some _ q) (Nat.le_refl _) ⟨hz, its, 0, hv, Heap.get?_push_size _ rfl⟩
theorem Inv.fresh (I : Inv X pins σ H s) : H s.heap.objs.size = none := I.hok.fresh (Nat.le_refl _)
theorem Inv.lstM (I : Inv X pins σ H s) (hH : H l = some (.lst xs)) : xs.length <= sizeLine /\ ∃ (its : List Value) (n : Nat), Vals xs its /\ xs.length = its.length /\ s.heap.get? l = some { cls := .type "list", data := .seq its.toArray n } := by
 obtain ⟨z, its, n, r, e⟩ := I.hok l _ hH
 exact ⟨z, its, n, r, r.length, e⟩
end
section
variable {X : Cx}
noncomputable def rAppend : V -> List V -> Hp -> VK -> Prop := fun x vs H Q => ∃ l xs y, x = .ref l /\ vs = [y] /\ H l = some (.lst xs) /\ xs.length < sizeLine /\ Q .non (upd H l (.lst (xs ++ [y])))
theorem mt_append : MtM X "list.append" rAppend := by
 intro pins s σ H x vs v us Q I rx rv h
 obtain ⟨l, xs, y, rfl, rfl, hH, hz, q⟩ := h
 cases rx
 obtain ⟨u, rfl, ru⟩ := rv.one
 obtain ⟨z, its, n, r, hl, e⟩ := I.lstM hH
 refine call_meets F.slot_list_append ⟨_, e, rfl⟩ F.entry_list_append (F.args_list_append_2 _ _) (PySem.list_append l its.toArray n u (by rw [List.size_toArray]; omega)) ⟨e, ?_⟩
 refine ⟨.non, _, I.lset (its' := its ++ [u]) hH e (by simp) (r.append (.cons ru .nil)) ?_, rfl, q⟩
 rw [List.length_append, List.length_singleton]
 omega
noncomputable def rClear : V -> List V -> Hp -> VK -> Prop := fun x vs H Q => ∃ l xs, x = .ref l /\ vs = [] /\ H l = some (.lst xs) /\ Q .non (upd H l (.lst []))
theorem mt_clear : MtM X "list.clear" rClear := by
 intro pins s σ H x vs v us Q I rx rv h
 obtain ⟨l, xs, rfl, rfl, hH, q⟩ := h
 cases rx
 have hus := rv.zero
 subst hus
 obtain ⟨z, its, n, r, hl, e⟩ := I.lstM hH
 refine call_meets F.slot_list_clear ⟨_, e, rfl⟩ F.entry_list_clear (F.args_list_clear_1 _) (AutoSeq1.list_clear_list_0 l its.toArray n (by rw [List.size_toArray]; omega)) ⟨e, ?_⟩
 exact ⟨.non, _, I.lset (its' := []) (ys := []) hH e rfl .nil (Nat.zero_le _), rfl, q⟩
noncomputable def rCat : R2 := fun x y H Q => ∃ l b xs zs, x = .ref l /\ y = .ref b /\ H l = some (.lst xs) /\ H b = some (.lst zs) /\ xs.length + zs.length <= sizeLine /\ ∀ p, H p = none -> Q (.ref p) (upd H p (.lst (xs ++ zs)))
theorem op_cat : OpR X (binaryOp .Add) rCat := by
 intro pins s σ H x y v u Q I rx ry h
 obtain ⟨l, b, xs, zs, rfl, rfl, hH, hB, hz, q⟩ := h
 cases rx
 cases ry
 obtain ⟨z, its, n, r, hl, e⟩ := I.lstM hH
 obtain ⟨z2, its2, n2, r2, hl2, e2⟩ := I.lstM hB
 refine PySem.P.add_list e e2 ?_ (by rw [List.size_toArray, List.size_toArray]; omega)
 have ea : its.toArray ++ its2.toArray = (its ++ its2).toArray := by simp
 rw [ea]
 exact ⟨.ref _, _, I.lnew (t' := s.toks) (r.append r2) (by rw [List.length_append]; omega), rfl, q _ I.fresh⟩
theorem len_rep {α : Type} (xs : List α) (k : Nat) : (List.replicate k xs).flatten.length = k * xs.length := by
 induction k with
 | zero => simp
 | succ k ih => rw [List.replicate_succ, List.flatten_cons, List.length_append, ih, Nat.succ_mul, Nat.add_comm]
end
section
variable {prog : Program} {w : World} {A : Around} {E : Value -> Shared -> Prop} {s : Shared}
end
section
variable {X : Cx}
end
end L2
namespace Att
open PySem PySem.W PySem.Calls PyProof.Rows
theorem ints_of_wellAll {P : Params} {h : Heap} : ∀ (ns : List Int) (vs : List Value), WellAll P h vs (ns.map WData.int) -> IntsAre vs ns := by
 intro ns
 induction ns with
 | nil =>
  intro vs w
  rw [List.map_nil] at w
  cases w
  exact .nil
 | cons n ns ih =>
  intro vs w
  rw [List.map_cons] at w
  cases w with
  | cons a b =>
   cases a
   exact .cons _ _ (ih _ b)
theorem script_of {l : OpenLaw} {n : Nat} (hn : l.most = some n) {P : Params} {h : Heap} {args : List WData} {vals : List Value}
  (hpre : l.row.toRowW.claim.pre args = true) (hwl : WellAll P h vals args) :
  ∃ a vs ns, vals = [Value.ref a] /\ args = [WData.list (ns.map WData.int)] /\ h.get? a = some { cls := .type "list", data := .seq vs.toArray } /\ IntsAre vs ns /\ ns.length <= n := by
 have hsh : WShape.hasAll [] args [.list .int] = true := (pre_splitW hpre).1
 have hc : l.pre.holds [] { args := args } = true := (pre_splitW hpre).2
 obtain ⟨d, r, rfl, h1, h2⟩ := hasAllW_cons hsh
 obtain rfl := hasAllW_nil h2
 obtain ⟨xs, rfl, h3⟩ := hasW_list h1
 obtain ⟨ns, rfl⟩ := items_int h3
 have hlen : ns.length <= n := by
  unfold OpenLaw.pre at hc
  have h4 : (WTm.not (.lt (.lit (.int (n : Int))) (.len (.arg 0)))).holds [] { args := [.list (ns.map .int)] } = true := by
   have h4 := (holds_andW hc).1
   rw [hn] at h4
   exact h4
  have h5 := condW_of h4 (w_not (w_lt w_lit (w_len_list (w_arg rfl))))
  rw [List.length_map] at h5
  refine Nat.le_of_not_lt fun q => ?_
  have q' : (n : Int) < ((ns.length : Nat) : Int) := by omega
  first
   | (rw [decide_eq_true q'] at h5; exact absurd h5 (by decide))
   | (simp at h5; omega)
 cases hwl with
 | cons w1 w2 =>
  cases w2
  cases w1 with
  | list ho hall => exact ⟨_, _, ns, rfl, rfl, ho, ints_of_wellAll ns _ hall, hlen⟩
theorem post_true (l : OpenLaw) (args : List WData) : l.row.toRowW.claim.post args (.bool true) args = true :=
 postW_of (r := l.row.toRowW) (X := (true == true))
  (show WShape.has [] (.bool true) .bool = true by first | rfl | decide | simp [WShape.has, WShape.arms, WShape.armsAll])
  (show (WTm.eq .res (.lit (.bool true))).value [] { args := args, res := some (.bool true), after := args } = some (.bool (true == true)) from w_eq_bool (w_res rfl) w_lit) rfl
section
variable {prog : Program} {w : World} {A : Around} {E : Value -> Shared -> Prop} {s : Shared} {K : Frag}
end
end Att
namespace L2
open PySem PySem.Spec PyProof.Rows
theorem vals_ints : ∀ {vs : List Value} {ns : List Int}, IntsAre vs ns -> Vals (ns.map V.int) vs
 | _, _, .nil => .nil
 | _, _, .cons n t h => .cons ⟨t, rfl⟩ (vals_ints h)
noncomputable def Only (H : Hp) : Prop := ∀ b, H b = none \/ ∃ o xs, H b = some (.frz o (.lst xs))
theorem law_call {P : Program} {w : World} {K : PySem.W.Frag} {mg mb : Str -> Option Value} {CX : CXT} {k : Nat} {fa a : Addr} {fd : FuncData} {x : Str} {sp : Sp} {s₁ : Shared} {vs : List Value} {ns : List Int}
  (KX : K.In s₁.heap) (hns : s₁.heap.Ns mainGlobals mg) (hb : s₁.heap.Ns builtinsNs mb) (hbb : ∀ x : Str, x ≠ "__name__" -> mb x = bootBuiltins x) (hlim : s₁.heap.NoLimit) (hg : s₁.gens = #[])
  (ha : s₁.heap.get? a = some { cls := .type "list", data := .seq vs.toArray }) (hi : IntsAre vs ns) (hl : ns.length <= sizeLine) (hr : Room k callerA)
  (F : ∀ base : Heap, K.In base -> base.Ns mainGlobals mg -> FnOk P w K mg base CX k fa fd [x] sp) (hbind : ∀ (s : Shared) (u : Value), BindsTo s fd ⟨[u], []⟩ [(x, u)])
  (hsp : ∀ H : Hp, Only H -> SqL K H a (ns.map V.int) -> sp [.ref a] H (fun v _ => v = .bl true) fun _ _ _ => False)
  (hCX : ∀ H e s', CX [] H s₁ (fun _ _ _ => False) e s' -> False) :
  codeAny (model P w) callerA (.call (.ref fa) ⟨[.ref a], []⟩) (fun r s' => r = .ok (.ret (.bool true)) /\ OldK s₁.heap s'.heap /\ s'.os = s₁.os /\ AllBare s'.gens) s₁ := by
 have rv := vals_ints hi
 have lenV := hi.length
 have core : ∀ H : Hp, Only H -> SqL K H a (ns.map V.int) -> HOk P w H s₁.heap -> (∀ b, H b ≠ none -> b = a) -> (H a ≠ none -> K.lookup a = none) ->
   codeAny (model P w) callerA (.call (.ref fa) ⟨[.ref a], []⟩) (fun r s' => r = .ok (.ret (.bool true)) /\ OldK s₁.heap s'.heap /\ s'.os = s₁.os /\ AllBare s'.gens) s₁ := by
  intro H hO hS hok hA hK
  have base_of : ∀ {b : Addr} {o : Obj}, s₁.heap.get? b = some o -> H b = none -> (hidT s₁.heap H).get? b = some o := fun e n => hidT_get e n
  have noA : ∀ {b : Addr} {o : Obj} {es : Array DictEntry} {ep : Nat}, s₁.heap.get? b = some o -> o.data = .dict es ep -> H b = none := fun {b o es ep} e d => by
   cases q : H b with
   | none => rfl
   | some u =>
    have e' : b = a := hA b (by rw [q]; simp)
    subst e'
    rw [ha] at e; cases e
    have d' : Data.seq vs.toArray _ = Data.dict es ep := d
    cases d'
  have nsK : ∀ {b : Addr} {m : Str -> Option Value}, s₁.heap.Ns b m -> (hidT s₁.heap H).Ns b m := fun {b m} ⟨o, es, ep, e, d, r⟩ => ⟨o, es, ep, base_of e (noA e d), d, r⟩
  have hKb : K.In (hidT s₁.heap H) := fun b o e => base_of (KX b o e) (by
   cases q : H b with
   | none => rfl
   | some u =>
    have e' : b = a := hA b (by rw [q]; simp)
    subst e'
    rw [hK (by rw [q]; simp)] at e; cases e)
  have hM : Mod K mg (hidT s₁.heap H) := ⟨hKb, nsK hns, ⟨mb, nsK hb, hbb⟩, let ⟨mc, h1, h2⟩ := hlim; ⟨mc, nsK h1, h2⟩⟩
  have e0 : Env0 P w K mg (hidT s₁.heap H) callerA [] s₁ H := ⟨rfl, hM, fun b o e => of_hidT e, Nat.le_of_eq (hidT_size _ _), trivial, fun b hb => absurd (show b ∈ ([] : List Addr) from hb) (by simp), hok, .of_eq hg⟩
  refine codeAny_mono ((F _ hKb (nsK hns)).run callerA [] s₁ H ⟨[.ref a], []⟩ [.ref a] [.ref a] _ _ hr e0 (hbind s₁ (.ref a)) (.cons rfl .nil) (hsp H hO hS)) fun r s' h => ?_
  cases r with
  | error e => exact (hCX H e s' h).elim
  | ok fl =>
   cases fl with
   | next => exact False.elim h
   | brk => exact False.elim h
   | cont => exact False.elim h
   | ret u =>
    obtain ⟨v, H', os, bare, un, hok', r', q⟩ := h
    have q' : v = .bl true := q
    subst q'
    obtain rfl : u = Value.bool true := r'
    refine ⟨rfl, OldK.of_keep fun b o e => ?_, os, bare⟩
    cases q : H b with
    | none => exact un.keep b o e q (by intro z; exact absurd (show b ∈ ([] : List Addr) from z) (by simp)) (by simp)
    | some u =>
     rcases hO b with z | ⟨ob, xs, z⟩
     ·rw [q] at z; cases z
     ·have z2 := un.frzs b ob _ z
      obtain ⟨e1, _⟩ := hok b _ z
      obtain ⟨e2, _⟩ := hok' b _ z2
      rw [e] at e1; cases e1
      exact e2
 cases hk : K.lookup a with
 | some o =>
  have e := KX a o hk
  rw [ha] at e
  cases e
  refine core (fun _ => none) (fun _ => .inl rfl) (.inr ⟨_, vs.toArray, _, hk, rfl, rfl, rfl, by rw [List.size_toArray, lenV]; exact hl, by simpa using rv⟩) (fun b u z => by have z' : (none : Option HO) = some u := z; cases z') (fun b z => absurd rfl z) fun z => absurd rfl z
 | none =>
  refine core (fun b => if b = a then some (.frz { cls := .type "list", data := .seq vs.toArray } (.lst (ns.map V.int))) else none) (fun b => ?_) (.inl (.inr ⟨{ cls := .type "list", data := .seq vs.toArray }, if_pos rfl⟩)) (fun b u z => ?_) (fun b z => ?_) fun _ => hk
  ·by_cases hb : b = a
   ·exact .inr ⟨_, _, if_pos hb⟩
   ·exact .inl (if_neg hb)
  ·by_cases hb : b = a
   ·have z' := (if_pos hb).symm.trans z
    cases z'
    subst hb
    exact ⟨ha, by rw [List.length_map]; exact hl, vs, _, rv, ha⟩
   ·have z' := (if_neg hb).symm.trans z
    cases z'
  ·by_cases hb : b = a
   ·exact hb
   ·exact absurd (if_neg hb) z
noncomputable abbrev KOf {K : PySem.W.Frag} {h : Heap} (_ : K.In h) : PySem.W.Frag := K
noncomputable def inClass (s : Stmt) (j : Nat) : Stmt := match s with
 | .ClassDef _ _ _ body _ _ _ _ _ _ _ => body.getD j (.Pass ⟨0, 0, 0, 0⟩)
 | _ => .Pass ⟨0, 0, 0, 0⟩
noncomputable def defArgs (s : Stmt) : Arguments := match s with
 | .FunctionDef _ a _ _ _ _ _ _ _ _ => a
 | _ => { posonlyargs := [], args := [], vararg := none, kwonlyargs := [], kw_defaults := [], kwarg := none, defaults := [] }
noncomputable def defBody (s : Stmt) : List Stmt := match s with
 | .FunctionDef _ _ b _ _ _ _ _ _ _ => b
 | _ => []
noncomputable def defScope (s : Stmt) : Scope := match s with
 | .FunctionDef _ _ _ _ _ _ sc _ _ _ => sc
 | _ => { kind := .function, names := [], isGenerator := false, isCoroutine := false }
noncomputable abbrev CX0 : CXT := fun _ _ _ _ _ _ => False
noncomputable abbrev E0 : XK := fun _ _ _ => False
theorem pass0 {X : Cx} : Passes CX0 X E0 := fun _ _ _ _ _ _ _ h => h.elim
structure Fun (K : PySem.W.Frag) (x qual : Str) (st : Stmt) (f : Addr) (fd : FuncData) : Prop where
 ex : ∃ (oc : Value) (od : Option Addr) (kV doc pm : Value) (an : Option Addr) (cdv ct : Value) (osl : Array (Option Value)),
  fd = PySem.W.fnOf x qual (defArgs st) (defBody st) (defScope st) .none kV doc pm an cdv ct /\ K.lookup f = some ⟨oc, od, .func fd, osl⟩ /\ PySem.W.codeIn K cdv qual = true
 kp : PySem.W.keepIn K (.ref f) = true
section
variable {P : Program} {w : World} {K : PySem.W.Frag} {mg : Str -> Option Value} {base : Heap}
theorem Fun.ok {x qual : Str} {st : Stmt} {f : Addr} {fd : FuncData} {N ps : List Str} {k : Nat} {sp : Sp} (F : Fun K x qual st f fd) (S : FnScope N ps (defScope st)) (len : ∀ vs H Q E, sp vs H Q E -> vs.length = ps.length)
  (hbody : ∀ (cdv : Value) (A : Around) (outer : List Env) (s : Shared) (H : Hp) (vs : List V) (Q : VK) (E : XK), Room k (A.deeper (envOfC qual (defScope st) s.heap.objs.size f cdv)) -> sp vs H Q E ->
   ∃ t, PSs (cxOf CX0 P w K mg base N qual (defScope st) f cdv A outer s H E).nox (defBody st) t /\ t { nx := fun _ H' => Q .non H', rt := Q } (start N vs) H) : FnOk P w K mg base CX0 (k + 1) f fd ps sp := by
 obtain ⟨oc, od, kV, doc, pm, an, cdv, ct, osl, rfl, lk, hcd⟩ := F.ex
 refine fn_of lk hcd S len fun A outer s H vs Q E hr hsp => ?_
 obtain ⟨t, h, q⟩ := hbody cdv A outer s H vs Q E hr hsp
 exact ⟨t, h.nox, q⟩
theorem Fun.binds {x qual : Str} {st : Stmt} {f : Addr} {fd : FuncData} {ps : List Str} (F : Fun K x qual st f fd)
  (h : ∀ (kV doc pm : Value) (an : Option Addr) (cdv ct : Value) (us : List Value), us.length = ps.length -> bindArgs (PySem.W.fnOf x qual (defArgs st) (defBody st) (defScope st) .none kV doc pm an cdv ct) ⟨us, []⟩ = pure (ps.zip us)) : Binds K fd ps [] := by
 obtain ⟨oc, od, kV, doc, pm, an, cdv, ct, osl, rfl, lk, hcd⟩ := F.ex
 exact .all (h kV doc pm an cdv ct)
theorem fun_mk {x qual : Str} {st : Stmt} {f : Addr} {oc : Value} {od an : Option Addr} {osl : Array (Option Value)} {kV doc pm cdv ct : Value} (l : K.lookup f = some ⟨oc, od, .func (PySem.W.fnOf x qual (defArgs st) (defBody st) (defScope st) .none kV doc pm an cdv ct), osl⟩)
  (c : PySem.W.codeIn K cdv qual = true) (k : PySem.W.keepIn K (.ref f) = true) : Fun K x qual st f (PySem.W.fnOf x qual (defArgs st) (defBody st) (defScope st) .none kV doc pm an cdv ct) := ⟨⟨oc, od, kV, doc, pm, an, cdv, ct, osl, rfl, l, c⟩, k⟩
end
section
variable {X : Cx}
theorem pv (i : Nat) {x : Str} {pos : Pos} (hN : X.N[i]? = some x := by rfl) (hv : Vis X.env.scope x := by first | exact Or.inl rfl | exact Or.inr (Or.inl rfl) | exact Or.inr (Or.inr rfl)) (hd : (x == ("__debug__" : Str)) = false := by decide)
  (hcd : (x == ("__classdict__" : Str)) = false := by decide) : PE X (.Name x pos) (tVar i) := pe_var hN hv hd hcd
end
theorem iteF {A B : Prop} (h : B) : if false = true then A else B := by
 rw [if_neg Bool.false_ne_true]
 exact h
theorem iteT {A B : Prop} (h : A) : if true = true then A else B := by
 rw [if_pos rfl]
 exact h
theorem ite2 {c A B : Prop} [Decidable c] (h1 : c -> A) (h2 : ¬ c -> B) : if c then A else B := by
 by_cases h : c
 ·rw [if_pos h]
  exact h1 h
 ·rw [if_neg h]
  exact h2 h
noncomputable def Same (H H' : Hp) : Prop := ∀ b o, H b = some o -> H' b = some o
theorem Same.refl (H : Hp) : Same H H := fun _ _ h => h
theorem Same.trans {H H1 H2 : Hp} (a : Same H H1) (b : Same H1 H2) : Same H H2 := fun c o h => b c o (a c o h)
theorem Same.free {H H' : Hp} (e : Same H H') {l : Addr} (h : H' l = Option.none) : H l = Option.none := by
 cases q : H l with
 | none => rfl
 | some o =>
  rw [e l o q] at h
  cases h
theorem Same.seq {K : PySem.W.Frag} {H H' : Hp} {a : Addr} {xs : List V} (e : Same H H') (h : SqL K H a xs) : SqL K H' a xs := by
 rcases h with (h | ⟨o, h⟩) | h
 ·exact .inl (.inl (e _ _ h))
 ·exact .inl (.inr ⟨o, e _ _ h⟩)
 ·exact .inr h
section
variable {κ : Type} [DecidableEq κ]
noncomputable def valV (kvs : List (κ × V)) (k : κ) : Option V := (kvs.find? fun kv => decide (kv.1 = k)).map (·.2)
theorem valV_pos {p : κ × V} {r : List (κ × V)} {k : κ} (e : p.1 = k) : valV (p :: r) k = some p.2 := by simp [valV, List.find?_cons, e]
theorem valV_neg {p : κ × V} {r : List (κ × V)} {k : κ} (e : ¬ p.1 = k) : valV (p :: r) k = valV r k := by simp [valV, List.find?_cons, e]
theorem RelO.getD {o : Option V} {u : Option Value} {d : V} {d' : Value} (r : RelO o u) (rd : RelV d d') : RelV (o.getD d) (u.getD d') := by
 cases o with
 | none => cases u with
  | none => exact rd
  | some _ => exact (show False from r).elim
 | some _ => cases u with
  | none => exact (show False from r).elim
  | some _ => exact r
theorem KV.val {kvs : List (κ × V)} {vs : List (κ × Value)} (r : KV kvs vs) (k : κ) : RelO (valV kvs k) (valueAt vs k) := by
 unfold KV at r
 induction r with
 | nil => exact True.intro
 | @cons p q ps qs h t ih =>
  obtain ⟨h1, h2⟩ := h
  by_cases e : p.1 = k
  ·have e' : q.1 = k := h1.symm.trans e
   have b : valueAt (q :: qs) k = some q.2 := by simp [valueAt, List.find?_cons, e']
   rw [valV_pos e, b]; exact h2
  ·have e' : ¬ q.1 = k := fun z => e (h1.trans z)
   have b : valueAt (q :: qs) k = valueAt qs k := by simp [valueAt, List.find?_cons, e']
   rw [valV_neg e, b]; exact ih
end
theorem kV_is {P : Program} {w : World} {k : Key} {u : Value} (r : RelV (kV k) u) : (mixKind P w).is k u = true := by
 cases k with
 | inl i => obtain ⟨t, e⟩ := (show ∃ t, u = Value.int i t from r); subst e; exact mixKind_int P w i t
 | inr x => obtain ⟨t, e⟩ := (show ∃ t, u = Value.str x t from r); subst e; exact mixKind_str P w x t
section
variable {P : Program} {w : World} {H : Hp} {h : Heap} {a : Addr}
end
section
variable {X : Cx} {pins : List (Addr × Obj)} {σ : St} {H : Hp} {s : Shared} {a : Addr} {y v : V} {u r : Value} {o : Option V} {A : Around} {E : Value -> Shared -> Prop}
end
section
variable {X : Cx} {pins : List (Addr × Obj)} {σ : St} {H : Hp} {s : Shared} {a : Addr} {kvs : List (Key × V)} {k : Key} {u : Value} {A : Around} {E : Value -> Shared -> Prop}
end
section
variable {X : Cx} {o i e value : Expr} {pos pos' tpos : Pos} {td ty tv : TE}
end
section
variable {X : Cx} {pos : Pos}
end
structure M1 (X : Cx) (o : Expr) (m : Str) (apos : Pos) (e : Expr) (cpos : Pos) : Prop where
 base : attributeBase o m X.env (eval o X.env) = eval o X.env
 few : ((backTo cpos (starEach [e] X.env)).all (fun x => !x.1) && (backToKw cpos (keywordEach [] X.env)).all (fun x => x.1.isSome)
  && decide (([e] : List Expr).length + ([] : List Keyword).length + (if ([] : List Keyword).isEmpty then 0 else 1) < 30)) = true
 line : (apos.endLine == cpos.line) = true
 trees : backTo cpos (starEach [e] X.env) = [(false, eval e X.env)]
section
variable {X : Cx} {pins : List (Addr × Obj)} {σ : St} {H : Hp} {s : Shared} {a : Addr} {y d : V} {u r : Value} {o : Option V} {A : Around} {E : Value -> Shared -> Prop}
end
section
variable {X : Cx} {o e f : Expr} {apos cpos : Pos} {td ty tx : TE}
end
section
variable {X : Cx} {pins : List (Addr × Obj)} {σ : St} {H : Hp} {s : Shared} {a : Addr} {kvs : List (Key × V)} {A : Around} {E : Value -> Shared -> Prop}
end
section
variable {X : Cx} {pins : List (Addr × Obj)} {σ : St} {H : Hp} {s : Shared} {a : Addr} {y : V} {u : Value} {A : Around} {E : Value -> Shared -> Prop}
end
section
variable {X : Cx}
end
section
variable {κ : Type} [DecidableEq κ]
end
end L2
set_option maxHeartbeats 4000000
namespace L2
open PySem PySem.Spec PyProof.Rows
section
variable {X : Cx}
theorem strsAre_of : ∀ {ys : List Str} {us : List Value}, Vals (ys.map V.str) us -> StrsAre us ys
 | [], _, .nil => .nil
 | y :: ys, _, .cons r t => by
  obtain ⟨k, e⟩ := (show ∃ k, _ = Value.str y k from r)
  subst e
  exact .cons y k (strsAre_of t)
theorem mt_join : MtR X "str.join" (fun x xs H Q => ∃ z p ys, x = .str z /\ xs = [.ref p] /\ SqL X.K H p (ys.map V.str) /\ (ys.map (·.length)).sum + ys.length * z.length <= 16777216 /\ Q (.str (Txt.join z ys)) H) := by
 intro pins s σ H x xs v us Q I rx rs h
 obtain ⟨z, p, ys, rfl, rfl, hq, hz, q⟩ := h
 obtain ⟨t, rfl⟩ := rx
 obtain ⟨u, rfl, r1⟩ := vals1 rs
 cases r1
 obtain ⟨its, r, pl, _⟩ := I.list hq
 exact join_list pl.isList (by simpa using strsAre_of r) hz fun t' k => ⟨.str _, H, I.tok _, ⟨_, rfl⟩, q⟩
noncomputable def rSlS : V -> Option Int -> Option Int -> Hp -> VK -> Prop := fun x lo hi H Q => ∃ z, x = .str z /\ z.length <= sizeLine /\ Q (.str (Txt.slice z lo hi)) H
theorem sl_str : SlR X rSlS := by
 intro pins s σ H x v vl vu lo hi sl Q I rx hs pl pu h
 obtain ⟨z, rfl, hz, q⟩ := h
 obtain ⟨t, rfl⟩ := rx
 refine ⟨"str", _, PySem.F.slot_str_getitem.lookup, typeIs_str _ _ _, ?_⟩
 cases pl with
 | none =>
  cases pu with
  | none => exact wpAny_getItem_str_slice (l := none) (u := none) (st := none) hs rfl (post_val_or_str ⟨Nat.le_trans (Txt.slice_le z _ _) hz, fun t' k => ⟨.str (Txt.slice z none none), H, I.tok _, ⟨_, rfl⟩, q⟩⟩)
  | int j tj => exact wpAny_getItem_str_slice (l := none) (u := some (j, tj)) (st := none) hs rfl (post_val_or_str ⟨Nat.le_trans (Txt.slice_le z _ _) hz, fun t' k => ⟨.str (Txt.slice z none (some j)), H, I.tok _, ⟨_, rfl⟩, q⟩⟩)
 | int i ti =>
  cases pu with
  | none => exact wpAny_getItem_str_slice (l := some (i, ti)) (u := none) (st := none) hs rfl (post_val_or_str ⟨Nat.le_trans (Txt.slice_le z _ _) hz, fun t' k => ⟨.str (Txt.slice z (some i) none), H, I.tok _, ⟨_, rfl⟩, q⟩⟩)
  | int j tj => exact wpAny_getItem_str_slice (l := some (i, ti)) (u := some (j, tj)) (st := none) hs rfl (post_val_or_str ⟨Nat.le_trans (Txt.slice_le z _ _) hz, fun t' k => ⟨.str (Txt.slice z (some i) (some j)), H, I.tok _, ⟨_, rfl⟩, q⟩⟩)
mutual
inductive DtV (K : PySem.W.Frag) (H : Hp) : V -> PyData -> Prop
 | non : DtV K H .non .none
 | bl (b : Bool) : DtV K H (.bl b) (.bool b)
 | int (i : Int) : DtV K H (.int i) (.int i)
 | str (x : Str) : DtV K H (.str x) (.str x)
 | lst {a : Addr} {xs : List V} {ds : List PyData} : SqL K H a xs -> DtVs K H xs ds -> DtV K H (.ref a) (.list ds)
 | tup {a : Addr} {xs : List V} {ds : List PyData} : SqT K H a xs -> DtVs K H xs ds -> DtV K H (.ref a) (.tuple ds)
inductive DtVs (K : PySem.W.Frag) (H : Hp) : List V -> List PyData -> Prop
 | nil : DtVs K H [] []
 | cons {x : V} {xs : List V} {d : PyData} {ds : List PyData} : DtV K H x d -> DtVs K H xs ds -> DtVs K H (x :: xs) (d :: ds)
end
mutual
theorem DtV.reads {pins : List (Addr × Obj)} {σ : St} {H : Hp} {s : Shared} (I : Inv X pins σ H s) : ∀ {x : V} {d : PyData} {u : Value}, DtV X.K H x d -> RelV x u -> ∃ as, Reads s.heap u d as
 | _, _, _, .non, r => by cases r; exact ⟨_, .none⟩
 | _, _, _, .bl b, r => by cases r; exact ⟨_, .bool b⟩
 | _, _, _, .int i, r => by obtain ⟨t, rfl⟩ := r; exact ⟨_, .int i t⟩
 | _, _, _, .str x, r => by obtain ⟨t, rfl⟩ := r; exact ⟨_, .str x t⟩
 | _, _, _, .lst hq hs, r => by
  cases r
  obtain ⟨its, rv, ⟨o, n, e, c, _, d⟩, _⟩ := I.list hq
  obtain ⟨as, ra⟩ := DtVs.reads I hs rv
  exact ⟨_, .list e c d (by simpa using ra)⟩
 | _, _, _, .tup hq hs, r => by
  cases r
  obtain ⟨its, rv, ⟨o, e, c, n, d⟩, _⟩ := I.tuple hq
  obtain ⟨as, ra⟩ := DtVs.reads I hs rv
  exact ⟨_, .tuple e c d (by simpa using ra)⟩
theorem DtVs.reads {pins : List (Addr × Obj)} {σ : St} {H : Hp} {s : Shared} (I : Inv X pins σ H s) : ∀ {xs : List V} {ds : List PyData} {us : List Value}, DtVs X.K H xs ds -> Vals xs us -> ∃ as, ReadsAll s.heap us ds as
 | _, _, _, .nil, .nil => ⟨_, .nil⟩
 | _, _, _, .cons h hs, .cons r rs => by
  obtain ⟨as, ra⟩ := DtV.reads I h r
  obtain ⟨bs, rb⟩ := DtVs.reads I hs rs
  exact ⟨_, .cons ra rb⟩
end
noncomputable def rEqD (X : Cx) : R2 := fun x y H Q => ∃ dx dy, DtV X.K H x dx /\ DtV X.K H y dy /\ dx.canLay0 = true /\ dy.canLay0 = true /\ min dx.depth dy.depth <= 100 /\ Q (.bl (PyData.eqv dx dy)) H
noncomputable def rNeD (X : Cx) : R2 := fun x y H Q => ∃ dx dy, DtV X.K H x dx /\ DtV X.K H y dy /\ dx.canLay0 = true /\ dy.canLay0 = true /\ min dx.depth dy.depth <= 100 /\ Q (.bl (!PyData.eqv dx dy)) H
theorem op_eqD (hu : X.A.units + 100 < cLine) : OpR X (compareOp .Eq) (rEqD X) := by
 intro pins s σ H x y v u Q I rx ry h
 obtain ⟨dx, dy, hx, hy, lx, ly, hd, q⟩ := h
 obtain ⟨as, ra⟩ := hx.reads I rx
 obtain ⟨bs, rb⟩ := hy.reads I ry
 exact SeqAt.compareEq_reads ra rb lx ly (by (clear ly lx; omega)) ⟨.bl _, H, I, rfl, q⟩
theorem op_neD (hu : X.A.units + 100 < cLine) : OpR X (compareOp .NotEq) (rNeD X) := by
 intro pins s σ H x y v u Q I rx ry h
 obtain ⟨dx, dy, hx, hy, lx, ly, hd, q⟩ := h
 obtain ⟨as, ra⟩ := hx.reads I rx
 obtain ⟨bs, rb⟩ := hy.reads I ry
 exact SeqAt.compareNe_reads ra rb lx ly (by (clear ly lx; omega)) ⟨.bl _, H, I, rfl, q⟩
theorem boolsAre_get : ∀ {bs : List Bool} {us : List Value}, Vals (bs.map V.bl) us -> ∀ (i : Nat) (v : Value), us[i]? = some v -> ∃ b, bs[i]? = some b /\ v = .bool b
 | [], _, .nil, i, v, h => by simp at h
 | b :: bs, _, .cons r t, 0, v, h => by
  have r' : _ = Value.bool b := r
  subst r'
  simp at h
  exact ⟨b, by simp, h.symm⟩
 | b :: bs, _, .cons r t, i + 1, v, h => by
  obtain ⟨c, e1, e2⟩ := boolsAre_get t i v (by simpa using h)
  exact ⟨c, by simpa using e1, e2⟩
theorem call_all_bools (hc : X.calm = true) : CallR X (.builtin "all") (fun xs H Q => ∃ (p : Addr) (bs : List Bool), xs = [.ref p] /\ SqL X.K H p (bs.map V.bl) /\ Q (.bl (bs.all id)) H) := by
 intro pins s σ H xs us Q I r h
 obtain ⟨p, bs, rfl, hq, q⟩ := h
 obtain ⟨u, rfl, rx⟩ := vals1 r
 cases rx
 obtain ⟨its, rv, pl, hz⟩ := I.list hq
 have hl := pl.isList
 have hlen := rv.length
 rw [List.length_map] at hlen
 have hlt : p < s.heap.objs.size := by obtain ⟨_, e, _⟩ := hl; exact Heap.lt_size e
 refine call_all_walk (wpAny_pyIter_list hl ?_)
 refine ⟨s.heap.objs.size, [s.heap.objs.size, p], [s.heap.objs.size], its.toArray.size, _, _, fun i => (bs[i]?).getD true, rfl, Walks.list (A := X.A.in1) (I.ok.hd hc) _ p (Nat.ne_of_lt hlt) its.toArray,
  ⟨⟨_, Heap.get?_push_size _ rfl, rfl, rfl⟩, hl.push _⟩, fun i v s' Q' E' hP hQ => ?_, fun h' tk hk => ?_⟩
 ·obtain ⟨b, e, rfl⟩ := boolsAre_get rv i v (by simpa using hP)
  simp only [e, Option.getD_some] at hQ
  exact wpAny_truthy_bool hQ
 ·have e : ((List.range its.toArray.size).all fun i => (bs[i]?).getD true) = bs.all id := by
   rw [List.size_toArray, <- hlen]; exact LSm.range_all bs
  rw [e]
  exact ⟨.bl _, H, I.kept (LSm.kept_iter hk), rfl, q⟩
theorem call_isi : CallR X (.builtin "isinstance") (fun xs H Q => ∃ x c t b, xs = [x, c] /\ TyOf X.K H x t /\
  ((∃ n, c = .ty n /\ PySem.W.kitOne X.K t (.type n) = some b) \/ (∃ C, c = .ref C /\ PySem.W.kitOne X.K t (.ref C) = some b)) /\ Q (.bl b) H) := by
 intro pins s σ H xs us Q I r h
 obtain ⟨x, c, t, b, rfl, ty, hc, q⟩ := h
 obtain ⟨u, w', rfl, rx, rc⟩ := vals2 r
 rcases hc with ⟨n, rfl, e⟩ | ⟨C, rfl, e⟩
 ·cases rc
  exact isinst_ok I rx ty e fun tk => ⟨.bl b, H, I.tok tk, rfl, q⟩
 ·cases rc
  exact isinst_ok I rx ty e fun tk => ⟨.bl b, H, I.tok tk, rfl, q⟩
end
section
variable {X : Cx} {pins : List (Addr × Obj)} {σ : St} {H H' : Hp} {s : Shared} {h' : Heap}
theorem Inv.track {a : Addr} {o : HO} (I : Inv X pins σ H s) (hs : X.s₀.heap.get? a = none \/ a ∈ X.ex) (hn : H a = none) (hL : a ≠ X.env.locals) (hC : ∀ x c, X.env.cells.lookup x = some c -> c ≠ a) (hp : ∀ p ∈ X.pn ++ pins, p.1 ≠ a)
  (new : ObjOk X.prog X.w (upd H a o) s.heap a o) : Inv X pins σ (upd H a o) s := by
 refine ⟨I.ok, I.os, I.bare, ⟨I.base.keep, I.base.slot, fun b ob e n hx => ?_, I.base.there, fun b xs e => ?_, fun b ob u e => ?_, fun b ps e => ?_⟩, I.loc, I.cell, ?_, fun x c e => ?_, fun p hp' => ?_, fun b u e => ?_, I.len⟩
 ·have hb : b ≠ a := by
   rintro rfl
   rcases hs with z | z
   ·rw [z] at e; cases e
   ·exact hx z
  rw [upd_ne hb]
  exact I.base.free b ob e n hx
 ·have q := I.base.tups b xs e
  rw [upd_ne (ne_of_none q hn)]; exact q
 ·have q := I.base.frzs b ob u e
  rw [upd_ne (ne_of_none q hn)]; exact q
 ·obtain ⟨m, q⟩ := I.base.tbls b ps e
  exact ⟨m, by rw [upd_ne (ne_of_none q hn)]; exact q⟩
 ·rw [upd_ne (Ne.symm hL)]; exact I.free
 ·rw [upd_ne (hC x c e)]; exact I.freeC x c e
 ·obtain ⟨e, n, r⟩ := I.pin p hp'
  exact ⟨e, by rw [upd_ne (hp p hp')]; exact n, r⟩
 ·by_cases hb : b = a
  ·subst hb; rw [upd_same] at e; cases e; exact new
  ·rw [upd_ne hb] at e
   exact (I.hok b u e).stay (fun c v _ q => q) (fun c q => by rw [upd_ne (ne_of_none q hn)]; exact q) fun c xs q => by rw [upd_ne (ne_of_none q hn)]; exact q
theorem Inv.turnedL {t' : Nat} {fp : List Addr} (I : Inv X pins σ H s) (k : ∀ b o, b ∉ fp -> s.heap.get? b = some o -> h'.get? b = some o) (hf : ∀ b ∈ fp, FpOk X pins H b) : Inv X pins σ H { s with heap := h', toks := t' } := by
 have nit : ∀ b u, H b = some u -> b ∉ fp := fun b u e z => by rw [(hf b z).1] at e; cases e
 refine I.step (g' := s.gens) (d' := s.drawn) (ch := fp) (fun b hb => ?_) (fun b o _ _ hc e _ => k b o hc e) (fun b o _ _ hc e _ => ⟨o.slots, k b o hc e⟩) (fun _ _ _ _ n => n)
  (fun b o hc e => ⟨o, k b o hc e⟩) (fun _ _ e => e) (fun _ _ _ e => e) (fun b ps e => ⟨#[], by rw [e]; simp⟩) (fun m hm => ?_) (fun b u e => ?_) I.bare
 ·obtain ⟨f0, f1, f2, f3, f4, f5⟩ := hf b hb
  exact ⟨f3, f1, f4, f5⟩
 ·obtain ⟨o, es, ep, ho, r⟩ := hm
  exact ⟨o, es, ep, k _ o (fun z => (hf _ z).2.1 rfl) ho, r⟩
 ·refine (I.hok b u e).stay (fun c v hc q => k c v ?_ q) (fun _ q => q) fun _ _ q => q
  rcases hc with z | z
  ·rw [z]; exact nit b u e
  ·exact nit c _ z
end
noncomputable def Its (x : Str) : It := ⟨fun i _ => i < x.cps.size, fun i H v H' => H' = H /\ ∃ c, x.cps[i]? = some c /\ v = .str ⟨#[c]⟩, fun i _ => i = x.cps.size⟩
theorem strWalks {P : Program} {w : World} {A : Around} (hh : A.handled = none) (I : Addr) (x : Str) (t : Tok) : Walks P w A I [I] [I] x.cps.size (SignAt x) (fun i h => h.IsStrIter I (strIterType x) x t i) := by
 unfold strIterType
 cases x.cps.all (· < 128)
 ·exact Walks.strWide hh I x t
 ·exact Walks.strAscii hh I x t
theorem strIter_not {x : Str} : ["enumerate", "zip", "dict_itemiterator", "dict_reverseitemiterator", "odict_iterator", "itertools.zip_longest", "itertools.pairwise"].contains (strIterType x) = false := by
 unfold strIterType
 cases x.cps.all (· < 128) <;> decide
theorem turn_str {P : Program} {w : World} {K : PySem.W.Frag} {tg : Expr} (x : Str) (t : Tok) (it : Addr) : Turn P w K tg (Its x) [it] it (fun i h => h.IsStrIter it (strIterType x) x t i) where
 mem := by simp
 obj := fun i h st b hb => by
  have e : b = it := by simpa using hb
  subst e
  obtain ⟨o, e, c, d⟩ := st
  exact ⟨o, e, fun v z => by rw [d] at z; cases z⟩
 keep := fun i h h' st k => by
  obtain ⟨o, e, r⟩ := st
  exact ⟨o, k it (by simp) o e, r⟩
 item := by
  intro X hP hw hK hc i pins s σ H E I hf st hg
  subst hP hw hK
  refine (strWalks (P := X.prog) (w := X.w) (I.ok.hd hc) it x t).item i s _ _ hg st fun v h' tk hv st' kk => ?_
  obtain ⟨c, u, hc', rfl⟩ := hv
  have I1 : Inv X pins σ H { s with heap := h', toks := tk } := I.turnedL kk hf
  obtain ⟨o, e, c2, d⟩ := id st'
  exact ⟨_, rfl, go_of (s := { s with heap := h', toks := tk }) e c2 d strIter_not ⟨.str ⟨#[c]⟩, H, I1, ⟨u, rfl⟩, ⟨rfl, c, hc', rfl⟩, st', fun b hb => (hf b hb).1⟩⟩
 done := by
  intro X hP hw hK hc i pins s σ H E I hf st hg
  subst hP hw hK
  have hg' : i = x.cps.size := hg
  subst hg'
  exact (strWalks (P := X.prog) (w := X.w) (I.ok.hd hc) it x t).done s _ _ st fun h' tk kk => ⟨rfl, I.turnedL kk hf⟩
 self := fun A i s Q E st h => by
  revert st
  unfold strIterType
  cases x.cps.all (· < 128)
  ·exact fun st => wpAny_pyIter_striter_wide st h
  ·exact fun st => wpAny_pyIter_striter_ascii st h
noncomputable def iStr (tl : TE) : TI := fun σ H R => tl σ H fun v H1 => ∃ x, v = .str x /\ R (Its x) H1
section
variable {X : Cx} {tg : Expr}
theorem pi_str {l : Expr} {tl : TE} (hl : PE X l tl) : PI X tg l (iStr tl) := by
 intro pins s σ H R I h
 refine thn (hl pins s σ H _ I h) fun v s1 ⟨y, H1, I1, r1, x, e, q⟩ => ?_
 subst e
 obtain ⟨t, rfl⟩ := r1
 refine wpAny_pyIter_strU ?_
 refine ⟨s1.heap.objs.size, [s1.heap.objs.size], _, _, H1, rfl, I1.kept (t' := s1.toks) fun b o e => Heap.get?_push_of_some _ e, turn_str x t _, ⟨_, Heap.get?_push_size _ rfl, rfl, rfl⟩, fun b hb => ?_, q⟩
 have e : b = s1.heap.objs.size := by simpa using hb
 subst e
 exact I1.fpOk (Nat.le_refl _) (I1.hok.fresh (Nat.le_refl _))
end
section
variable {X : Cx}
end
open PySem
noncomputable def closL (env : Env) : List (Str × NameKind) -> List (Str × Addr) -> List (Str × Addr)
 | [], cs => cs
 | (n, k) :: r, cs => closL env r (if (k == NameKind.free) = true then (n, (env.cells.lookup n).getD 0) :: cs else cs)
theorem closureFor_eq {scope : Scope} {env : Env} (h : ∀ x ∈ scope.names, x.2 = .free -> ∃ c, env.cells.lookup x.1 = some c) : closureFor scope env = pure (closL env scope.names []) := by
 unfold closureFor
 have go : ∀ (names : List (Str × NameKind)) (cs : List (Str × Addr)), (∀ x ∈ names, x.2 = .free -> ∃ c, env.cells.lookup x.1 = some c) ->
   (forIn names cs fun (x : Str × NameKind) (r : List (Str × Addr)) => (match x with
    | (name, kind) => if (kind == NameKind.free) = true then do let a <- cellOf env name; pure (ForInStep.yield ((name, a) :: r)) else pure (ForInStep.yield r) : Sem (ForInStep (List (Str × Addr))))) = pure (closL env names cs) := by
  intro names
  induction names with
  | nil => intro cs _; rfl
  | cons x r ih =>
   intro cs h
   obtain ⟨n, k⟩ := x
   rw [List.forIn_cons]
   have hr := fun y hy => h y (List.mem_cons_of_mem _ hy)
   cases hk : (k == NameKind.free) with
   | false =>
    simp only [hk, Bool.false_eq_true, if_false]
    show (pure (ForInStep.yield cs) >>= _ : Sem _) = _
    simp only [pure_bind]
    rw [ih cs hr]
    simp only [closL, hk, Bool.false_eq_true, if_false]
   | true =>
    obtain ⟨c, hc⟩ := h (n, k) List.mem_cons_self (by simpa using hk)
    have e : cellOf env n = pure c := by unfold cellOf; rw [show env.cells.lookup n = some c from hc]
    simp only [hk, if_true, e, pure_bind]
    rw [ih _ hr]
    simp only [closL, hk, if_true]
    rw [show env.cells.lookup n = some c from hc]
    rfl
 exact congrArg (fun m : Sem (List (Str × Addr)) => m >>= fun r => pure r) (go scope.names [] h)
theorem closL_some {env : Env} {x : Str} {c : Addr} : ∀ {names : List (Str × NameKind)} {cs : List (Str × Addr)}, (closL env names cs).lookup x = some c -> cs.lookup x = some c \/ ((x, NameKind.free) ∈ names /\ c = (env.cells.lookup x).getD 0)
 | [], _, h => .inl h
 | (n, k) :: r, cs, h => by
  rcases closL_some (names := r) h with q | ⟨q, e⟩
  ·cases hk : (k == NameKind.free) with
   | false => rw [hk] at q; exact .inl q
   | true =>
    rw [hk, if_pos rfl] at q
    have hk' : k = NameKind.free := by simpa using hk
    subst hk'
    cases hx : x == n with
    | true =>
     rw [List.lookup_cons, hx] at q
     have e : x = n := by simpa using hx
     subst e
     exact .inr ⟨List.mem_cons_self, (Option.some.inj q).symm⟩
    | false =>
     rw [List.lookup_cons, hx] at q
     exact .inl q
  ·exact .inr ⟨List.mem_cons_of_mem _ q, e⟩
theorem closL_has {env : Env} {x : Str} : ∀ {names : List (Str × NameKind)} {cs : List (Str × Addr)}, (x, NameKind.free) ∈ names \/ (∃ c, cs.lookup x = some c) -> ∃ c, (closL env names cs).lookup x = some c
 | [], _, h => by
  rcases h with h | h
  ·cases h
  ·exact h
 | (n, k) :: r, cs, h => by
  refine closL_has (names := r) ?_
  rcases h with h | ⟨c, h⟩
  ·rcases List.mem_cons.mp h with e | e
   ·cases e
    refine .inr ⟨(env.cells.lookup x).getD 0, ?_⟩
    rw [if_pos (by rfl), List.lookup_cons]
    simp
   ·exact .inl e
  ·refine .inr ?_
   cases hk : (k == NameKind.free) with
   | false => exact ⟨c, h⟩
   | true =>
    rw [if_pos rfl, List.lookup_cons]
    cases hx : x == n with
    | true => exact ⟨_, rfl⟩
    | false => exact ⟨c, h⟩
theorem relabel_free {env : Env} (hf : env.scope.kind = .function) : ∀ {names : List (Str × NameKind)} {x : Str}, names.lookup x = some .free -> env.kindOf x = some .cell ->
  (names.map fun (n, k) => if (k == NameKind.free && env.scope.kind == .function && env.kindOf n == some .cell) then (n, NameKind.cell) else (n, k)).lookup x = some .cell
 | [], _, h, _ => by simp at h
 | (n, k) :: r, x, h, hc => by
  have ih := @relabel_free env hf r x
  show List.lookup x ((if (k == NameKind.free && env.scope.kind == .function && env.kindOf n == some .cell) = true then (n, NameKind.cell) else (n, k)) :: _) = _
  cases hx : x == n with
  | true =>
   have e : x = n := by simpa using hx
   subst e
   simp only [List.lookup_cons, hx] at h
   cases h
   rw [if_pos (by rw [hf, hc]; rfl)]
   simp [List.lookup_cons]
  | false =>
   simp only [List.lookup_cons, hx] at h
   by_cases hc' : (k == NameKind.free && env.scope.kind == .function && env.kindOf n == some .cell) = true
   ·rw [if_pos hc']; simp only [List.lookup_cons, hx]; exact ih h hc
   ·rw [if_neg hc']; simp only [List.lookup_cons, hx]; exact ih h hc
theorem relabel_back {env : Env} : ∀ {names : List (Str × NameKind)} {x : Str} {k' : NameKind}, (∀ y ∈ names, y.2 ≠ .cell) -> (k' = .cell \/ k' = .free) ->
  (names.map fun (n, k) => if (k == NameKind.free && env.scope.kind == .function && env.kindOf n == some .cell) then (n, NameKind.cell) else (n, k)).lookup x = some k' -> (x, NameKind.free) ∈ names
 | [], _, _, _, _, h => by simp at h
 | (n, k) :: r, x, k', hn, hk, h => by
  have ih := @relabel_back env r x k' (fun y hy => hn y (List.mem_cons_of_mem _ hy)) hk
  have h' : List.lookup x ((if (k == NameKind.free && env.scope.kind == .function && env.kindOf n == some .cell) = true then (n, NameKind.cell) else (n, k)) :: r.map fun (n, k) => if (k == NameKind.free && env.scope.kind == .function && env.kindOf n == some .cell) then (n, NameKind.cell) else (n, k)) = some k' := h
  have hn0 : k ≠ .cell := hn (n, k) List.mem_cons_self
  by_cases hc' : (k == NameKind.free && env.scope.kind == .function && env.kindOf n == some .cell) = true
  ·rw [if_pos hc', List.lookup_cons] at h'
   have hkf : k = .free := by
    rw [Bool.and_eq_true, Bool.and_eq_true] at hc'
    simpa using hc'.1.1
   cases hx : x == n with
   | true =>
    have e : x = n := by simpa using hx
    subst e
    rw [hkf]
    exact List.mem_cons_self
   | false => rw [hx] at h'; exact List.mem_cons_of_mem _ (ih h')
  ·rw [if_neg hc', List.lookup_cons] at h'
   cases hx : x == n with
   | true =>
    rw [hx] at h'
    have e : x = n := by simpa using hx
    subst e
    have e2 : k = k' := Option.some.inj h'
    subst e2
    rcases hk with z | z
    ·exact absurd z hn0
    ·rw [z]; exact List.mem_cons_self
   | false => rw [hx] at h'; exact List.mem_cons_of_mem _ (ih h')
section
variable {prog : Program} {w : World} {A : Around} {R : Result -> Shared -> Prop} {s : Shared}
theorem compLoop_any {elt target iter : Expr} {ifs : List Expr} {scope : Scope} {pos : Pos} {it acc : Value} {env : Env} (I : Nat -> Shared -> Prop)
  (turn : ∀ n s, I n s -> wpAny (model prog w) A (pyNext it) (fun r s₁ => match r with
   | none => R (.ok .next) s₁
   | some v => wpAny (model prog w) A (letOwnedTupleGo target it v) (fun _ s₀ => wpAny (model prog w) A (assign target env v) (fun _ s₂ =>
     wpAny (model prog w) A (forIn ifs true fun c r => if r = true then do let ok <- isTrue c env (eval c env); pure (ForInStep.yield ok) else pure (ForInStep.yield r)) (fun ok s₃ =>
      if ok = true then wpAny (model prog w) A (eval elt env) (fun x s₄ =>
       wpAny (model prog w) A (call (.builtin "list.append") [acc, x]) (fun _ s₅ => ∃ m, m < n /\ I m s₅) (fun _ _ => False) s₄) (fun _ _ => False) s₃
      else ∃ m, m < n /\ I m s₃) (fun _ _ => False) s₂) (fun _ _ => False) s₀) (fun _ _ => False) s₁) (fun _ _ => False) s)
  (n : Nat) (h : I n s) :
  codeAny (model prog w) A (.compLoop (.ListComp elt [⟨target, iter, ifs, 0⟩] scope pos) 0 it acc env) R s := by
 refine codeAny_loop rfl I (fun n s hI => ?_) n h
 show wpAny _ A ((compTurn (.ListComp elt [⟨target, iter, ifs, 0⟩] scope pos) 0 it acc env).onRaise (fun x => do noteFrame x env; theTreesLotGoes x)) _ _ s
 refine wpAny_noted ?_
 rw [compTurn_list]
 refine wpAny_bind (wpAny_standAt (wpAny_bind (wpAny_mono (turn n s hI) (fun r s₁ h₁ => ?_) fun _ _ h' => h'.elim)))
 cases r with
 | none => exact wpAny_pure h₁
 | some v =>
  refine wpAny_bind (wpAny_mono h₁ (fun _ s₀ h₀ => ?_) fun _ _ h' => h'.elim)
  refine wpAny_bind (wpAny_mono h₀ (fun _ s₂ h₂ => wpAny_bind (wpAny_mono h₂ (fun ok s₃ h₃ => ?_) fun _ _ h' => h'.elim)) fun _ _ h' => h'.elim)
  cases ok with
  | false => exact wpAny_pure ⟨rfl, h₃⟩
  | true =>
   exact wpAny_bind (wpAny_bind (wpAny_mono h₃ (fun x s₄ h₄ => wpAny_bind (wpAny_mono h₄ (fun _ s₅ h₅ => wpAny_pure (wpAny_pure ⟨rfl, h₅⟩)) fun _ _ h' => h'.elim)) fun _ _ h' => h'.elim))
end
noncomputable def cxB (X : Cx) (scope : Scope) (N : List Str) (s₀ : Shared) (H₀ : Hp) (ex : List Addr) : Cx :=
 { X with N := N, s₀ := s₀, H₀ := H₀, env := compEnvC scope (closL X.env scope.names []) s₀.heap.objs.size X.env, outer := X.stack, ex := ex, fn := fun _ => false, pn := [], xe := fun _ _ => False }
section
variable {X : Cx} {c : Expr} {t : TT}
noncomputable def PIfs (X : Cx) (ifs : List Expr) (t : TT) : Prop := ∀ (pins : List (Addr × Obj)) (s : Shared) (σ : St) (H : Hp) (Q : Bool -> Hp -> Prop), Inv X pins σ H s -> t σ H Q ->
 wpAny (model X.prog X.w) X.A (forIn ifs true fun c r => if r = true then do let ok <- isTrue c X.env (eval c X.env); pure (ForInStep.yield ok) else pure (ForInStep.yield r)) (TP X pins σ Q) X.xe s
noncomputable def tNoIf : TT := fun _ H Q => Q true H
theorem pf_none : PIfs X [] tNoIf := fun _ _ _ H _ I h => wpAny_tests_nil ⟨H, I, h⟩
theorem pf_one (h : PT X c t) : PIfs X [c] t := fun pins s σ H Q I hq => wpAny_tests_one (h pins s σ H Q I hq)
end
noncomputable def GKeep (own : Nat) (g : TG) : Prop := ∀ x σ H Q Q', g x σ H Q -> (∀ σ' H', Q σ' H' -> σ'.length = σ.length -> (∀ j v, own <= j -> σ[j]? = some (some v) -> σ'[j]? = some (some v)) -> Q' σ' H') -> g x σ H Q'
noncomputable def GKeeps (own : Nat) (g : TGs) : Prop := ∀ xs σ H Q Q', g xs σ H Q -> (∀ σ' H', Q σ' H' -> σ'.length = σ.length -> (∀ j v, own <= j -> σ[j]? = some (some v) -> σ'[j]? = some (some v)) -> Q' σ' H') -> g xs σ H Q'
theorem gk_name {own i : Nat} (hi : i < own) : GKeep own (gName i) := fun x σ H Q Q' h k => k _ H h (by simp) fun j v hj e => by rw [List.getElem?_set_ne (by (clear e; omega))]; exact e
theorem gks_nil {own : Nat} : GKeeps own gNil := fun xs σ H Q Q' ⟨e, h⟩ k => ⟨e, k σ H h rfl fun _ _ _ e => e⟩
theorem gks_cons {own : Nat} {t : TG} {u : TGs} (h1 : GKeep own t) (h2 : GKeeps own u) : GKeeps own (gCons t u) := fun xs σ H Q Q' ⟨v, r, e, h⟩ k =>
 ⟨v, r, e, h1 v σ H _ _ h fun σ' H' q l1 k1 => h2 r σ' H' _ _ q fun σ'' H'' q2 l2 k2 => k σ'' H'' q2 (l2.trans l1) fun j w hj e => k2 j w hj (k1 j w hj e)⟩
theorem gk_tup {own n : Nat} {K : PySem.W.Frag} {t : TGs} (h : GKeeps own t) : GKeep own (gTup K n t) := fun x σ H Q Q' ⟨a, xs, e, hq, hl, q⟩ k => ⟨a, xs, e, hq, hl, h xs σ H Q Q' q k⟩
noncomputable def st0 (own : Nat) (caps : List Nat) (σ : St) : St := List.replicate own none ++ caps.map fun j => (σ[j]?).join
noncomputable def CompR (J : It) (g : TG) (tc : TT) (te : TE) (σ0 : St) (Q : VK) (H : Hp) : Prop :=
  ∃ W : Nat -> Nat -> List V -> Hp -> Prop, (∃ m, W 0 m [] H) /\ ∀ i m ys H, W i m ys H ->
   (J.stop i H /\ ys.length <= sizeLine /\ ∀ p, H p = none -> Q (.ref p) (upd H p (.lst ys))) \/
   (J.go i H /\ ys.length < sizeLine /\ ∀ x H', J.yld i H x H' -> g x σ0 H' fun σ2 H2 => tc σ2 H2 fun b H3 =>
    if b = true then te σ2 H3 fun y H4 => ∃ m', m' < m /\ W (i + 1) m' (ys ++ [y]) H4 else ∃ m', m' < m /\ W (i + 1) m' ys H3)
noncomputable def tComp (own : Nat) (caps : List Nat) (wi : TI) (g : TG) (tc : TT) (te : TE) : TE := fun σ H Q => wi σ H fun J H1 => CompR J g tc te (st0 own caps σ) Q H1
theorem mem1 {a : Addr} {o : Obj} : ∀ p ∈ [(a, o)], p.1 = a := fun p hp => by rw [List.mem_singleton.mp hp]
section
variable {X : Cx}
theorem comp_end {scope : Scope} {N : List Str} {pins : List (Addr × Obj)} {σ σ' : St} {H2 He : Hp} {s2 s1 : Shared} {hp h' : Heap} {fp : List Addr} {ys : List V} {its : List Value} {na : Nat} {lo : Obj}
  (I2 : Inv X pins σ H2 s2) (f2 : ∀ b ∈ fp, FpOk X pins H2 b) (ehp : hp = s2.heap.push lo)
  (J : Inv (cxB X scope N { s2 with heap := hp } H2 (s2.heap.objs.size :: fp)) [(s2.heap.objs.size, { cls := .type "list", data := .seq its.toArray na })] σ' He s1)
  (hsb : Heap.SameBut hp.objs.size s1.heap h') (hv : Vals ys its) (hz : ys.length <= sizeLine) :
  Inv X pins σ (upd He s2.heap.objs.size (.lst ys)) { s1 with heap := h' } := by
 have hC : hp.objs.size = s2.heap.objs.size + 1 := by rw [ehp, Heap.size_push]
 have below : ∀ {b : Addr} {o : Obj}, s2.heap.get? b = some o -> b ≠ hp.objs.size /\ b ≠ s2.heap.objs.size := fun {b o} e => by
  have q := Heap.lt_size e
  exact ⟨by rw [hC]; exact Nat.ne_of_lt (Nat.lt_succ_of_lt q), Nat.ne_of_lt q⟩
 have up : ∀ {b : Addr} {o : Obj}, s2.heap.get? b = some o -> hp.get? b = some o := fun e => by rw [ehp]; exact Heap.get?_push_of_some _ e
 have un : Un (frs X.stack) (s2.heap.objs.size :: fp) H2 He hp s1.heap := J.base
 have nD : ∀ {b : Addr} {o : Obj}, s2.heap.get? b = some o -> b ∉ fp -> b ∉ s2.heap.objs.size :: fp := fun e hx z => (List.mem_cons.mp z).elim (below e).2 hx
 have hfree : He hp.objs.size = none := J.free
 have u2 : Un (frs X.stack) fp H2 He s2.heap h' := by
  refine ⟨fun b o e n hb hx => ?_, fun b o e n hb hx => ?_, fun b o e n hx => ?_, fun b o e hx => ?_, un.tups, un.frzs, un.tbls⟩
  ·exact (hsb.2 b (below e).1).trans (un.keep b o (up e) n hb (nD e hx))
  ·obtain ⟨sl, q⟩ := un.slot b o (up e) n hb (nD e hx)
   exact ⟨sl, (hsb.2 b (below e).1).trans q⟩
  ·exact un.free b o (up e) n (nD e hx)
  ·obtain ⟨o', q⟩ := un.there b o (up e) (nD e hx)
   exact ⟨o', (hsb.2 b (below e).1).trans q⟩
 have hok : HOk X.prog X.w He h' := fun b u e => by
  refine (J.hok b u e).stay (fun c v hc q => (hsb.2 c ?_).trans q) (fun _ q => q) fun _ _ q => q
  rintro rfl
  rcases hc with z | z
  ·rw [<- z, hfree] at e; cases e
  ·rw [hfree] at z; cases z
 have I3 : Inv X pins σ He { s1 with heap := h' } := I2.call' (s' := { s1 with heap := h' }) (ch := fp) J.os u2 hok J.bare fun b hb => by
  obtain ⟨f0, f1, f3, f4, f5, f6⟩ := f2 b hb
  exact ⟨f4, f1, f5, f6⟩
 obtain ⟨pe, pn, _⟩ := J.pin _ (List.mem_append_right _ List.mem_cons_self)
 refine I3.track (.inl (Heap.get?_none_of_le I2.sz)) pn (Nat.ne_of_gt I2.lt) (fun y c' q z => ?_) (fun p hp' z => ?_) ?_
 ·obtain ⟨v, q'⟩ := I2.cell y c' q
  exact absurd q'.lt (by rw [z]; exact Nat.lt_irrefl _)
 ·exact absurd (Heap.lt_size (I2.pin p hp').1) (by rw [z]; exact Nat.lt_irrefl _)
 ·exact ⟨hz, its, na, hv, (hsb.2 _ (by rw [hC]; exact Nat.ne_of_lt (Nat.lt_succ_self _))).trans pe⟩
theorem comp_core {elt target iter : Expr} {ifs : List Expr} {scope sc0 : Scope} {pos : Pos} {N N0 : List Str} {own : Nat} {caps : List Nat} {wi : TI} {g : TG} {tc : TT} {te : TE}
  (hcalm : X.calm = true) (hi : PI X target iter wi)
  (hg : ∀ s₀ H₀ ex, PG (cxB X scope N s₀ H₀ ex) target g) (hc : ∀ s₀ H₀ ex, PIfs (cxB X scope N s₀ H₀ ex) ifs tc) (he : ∀ s₀ H₀ ex, PE (cxB X scope N s₀ H₀ ex) elt te) (hk : GKeep own g)
  (hX : X.N = N0) (hsc : X.env.scope = sc0)
  (hcell : ∀ y ∈ scope.names, y.2 ≠ .cell) (hkind : scope.kind = .function) (hnames : ∀ y ∈ scope.names, y.2 = .local -> scope.names.lookup y.1 = some .local)
  (hfree : ∀ y ∈ scope.names, y.2 = .free -> sc0.names.lookup y.1 = some .cell) (hN : N.length = own + caps.length)
  (hcap : ∀ p ∈ caps.zip (N.drop own), N0[p.1]? = some p.2 /\ scope.names.lookup p.2 = some .free)
  (hs : ∀ x, foldedSetIterable iter X.env x = pure x)
  {use : Option (Value -> Sem Unit)} {Qf : Value -> Shared -> Prop} {pins : List (Addr × Obj)} {s : Shared} {σ : St} {H : Hp} {Q : VK} {cpos : Pos} (I : Inv X pins σ H s) (h : tComp own caps wi g tc te σ H Q)
  (hR : ∀ (D C : Addr) (s' : Shared) (He : Hp) (ys : List V) (m : Str -> Option Value) (f : Flow), s'.heap.Ns C m -> (∀ h', Heap.SameBut C s'.heap h' -> Inv X pins σ (upd He D (.lst ys)) { s' with heap := h' }) ->
   FpOk X pins (upd He D (.lst ys)) C -> Q (.ref D) (upd He D (.lst ys)) -> compPost (model X.prog X.w) X.A X.xe use Qf (.ref D) C (.ok f) s') :
  wpAny (model X.prog X.w) X.A (comprehension (.ListComp elt [⟨target, iter, ifs, 0⟩] scope pos) scope X.env cpos (newList []) false (eval iter X.env) use) Qf X.xe s := by
 have hcellOf : ∀ y ∈ scope.names, y.2 = .free -> X.env.kindOf y.1 = some .cell := fun y hy e => by
  show X.env.scope.names.lookup y.1 = some .cell
  rw [hsc]; exact hfree y hy e
 refine wpAny_comprehension_free (use := use) rfl hs (closureFor_eq fun y hy e => I.ok.has y.1 (.inl (hcellOf y hy e))) hkind hnames ?_
 refine thn (hi pins s σ H _ I h) fun v s1 h1 => thn h1 fun itv s2 h2 => ?_
 obtain ⟨it, fp, tn, J, H2, e, I2, T, st2, f2, W, ⟨m0, w0⟩, turn⟩ := h2
 subst e
 refine wpAny_newObj_type (wpAny_newFunctionEnv hcell (by intro y hy; simp at hy) (fun h₁ hns₁ hsb₁ => ?_) hkind)
 dsimp only at hns₁ hsb₁ ⊢
 generalize ehp : s2.heap.push { cls := .type "list", dict := none, data := .seq ([] : List Value).toArray } = hp at hns₁ hsb₁ ⊢
 have hC : hp.objs.size = s2.heap.objs.size + 1 := by rw [<- ehp, Heap.size_push]
 have hDC : s2.heap.objs.size ≠ hp.objs.size := by rw [hC]; exact Nat.ne_of_lt (Nat.lt_succ_self _)
 have hD0 : hp.get? s2.heap.objs.size = some { cls := .type "list", data := .seq ([] : List Value).toArray } := by rw [<- ehp]; exact Heap.get?_push_size _ rfl
 have up : ∀ {b : Addr} {o : Obj}, s2.heap.get? b = some o -> hp.get? b = some o := fun e => by rw [<- ehp]; exact Heap.get?_push_of_some _ e
 have up1 : ∀ {b : Addr} {o : Obj}, hp.get? b = some o -> h₁.get? b = some o := fun {b o} e => hsb₁.extBut b o (Nat.ne_of_lt (Heap.lt_size e)) (Heap.get?_push_of_some _ e)
 have hlt2 : ∀ {b : Addr} {o : Obj}, s2.heap.get? b = some o -> b < s2.heap.objs.size := fun e => Heap.lt_size e
 have fpo : ∀ b ∈ fp, ∃ o, s2.heap.get? b = some o := fun b hb => by obtain ⟨o, e, _⟩ := T.obj 0 _ st2 b hb; exact ⟨o, e⟩
 have fpC : ∀ b ∈ fp, b ≠ hp.objs.size /\ b ≠ s2.heap.objs.size := fun b hb => by
  obtain ⟨o, e⟩ := fpo b hb
  have q := hlt2 e
  exact ⟨by rw [hC]; exact Nat.ne_of_lt (Nat.lt_succ_of_lt q), Nat.ne_of_lt q⟩
 have clos : ∀ {x : Str} {c : Addr}, (closL X.env scope.names []).lookup x = some c -> X.env.cells.lookup x = some c /\ X.env.kindOf x = some .cell := fun {x c} q => by
  rcases closL_some q with z | ⟨z, e⟩
  ·cases z
  ·have k := hcellOf _ z rfl
   obtain ⟨c', hc'⟩ := I2.ok.has x (.inl k)
   rw [hc'] at e
   have e' : c = c' := e
   subst e'
   exact ⟨hc', k⟩
 have cellLt : ∀ {x : Str} {c : Addr}, (closL X.env scope.names []).lookup x = some c -> c < s2.heap.objs.size := fun q => by
  obtain ⟨v, z⟩ := I2.cell _ _ (clos q).1
  exact z.lt
 have stkLt : ∀ b ∈ frs X.stack, b < s2.heap.objs.size := fun b hb => by
  obtain ⟨_, o, ho, _⟩ := I2.stack.mem hb
  exact Heap.lt_size ho
 have ok' : (cxB X scope N { s2 with heap := hp } H2 (s2.heap.objs.size :: fp)).Ok := by
  refine ⟨I2.ok.mod, hkind, I2.ok.glob, I2.ok.blt, Nat.le_refl _, fun x y c q1 q2 => I2.ok.inj x y c (clos q1).1 (clos q2).1, fun x hx => ?_, (fun x c z => by cases z), I2.ok.hd, I2.ok.frames, .inl rfl, fun b hb => ?_, fun b o q => ⟨up (I2.bs b o q).1, (I2.bs b o q).2⟩, ?_, fun b o q hb => ?_, fun b hb => ?_, ?_, fun b hb => I2.stkFree b hb⟩
  ·rcases hx with hx | hx
   ·exact closL_has (.inl (relabel_back (env := X.env) hcell (.inl rfl) hx))
   ·exact closL_has (.inl (relabel_back (env := X.env) hcell (.inr rfl) hx))
  ·rcases List.mem_cons.mp hb with rfl | hb
   ·exact ⟨by show s2.heap.objs.size ≠ hp.objs.size; exact hDC, fun x c q => Nat.ne_of_lt (cellLt q)⟩
   ·exact ⟨(fpC b hb).1, fun x c q => (f2 b hb).2.2.2.2.1 x c (clos q).1⟩
  ·show X.base.objs.size <= hp.objs.size
   rw [hC]
   exact Nat.le_succ_of_le (Nat.le_trans I2.ok.bsz I2.sz)
  ·rcases List.mem_cons.mp hb with rfl | hb
   ·exact Nat.lt_irrefl _ (hlt2 (I2.bs _ o q).1)
   ·rcases (f2 b hb).2.2.2.1 with z | z
    ·exact I2.ok.noex b o q z
    ·exact Nat.lt_irrefl _ (Nat.lt_of_lt_of_le (Heap.lt_size (I2.ok.bs b o q).1) z)
  ·intro z
   rcases List.mem_cons.mp hb with rfl | hb
   ·exact Nat.lt_irrefl _ (stkLt _ z)
   ·rcases List.mem_cons.mp (I2.stkSub b z) with q | q
    ·exact (f2 b hb).2.1 q
    ·exact (f2 b hb).2.2.1 q
  ·show hp.FunFrames X.base X.stack
   exact I2.stack.of_keeps fun b o q _ => ⟨o, up q, rfl⟩
 have len0 : (st0 own caps σ).length = N.length := by unfold st0; rw [List.length_append, List.length_replicate, List.length_map, hN]
 have I0 : Inv (cxB X scope N { s2 with heap := hp } H2 (s2.heap.objs.size :: fp)) [] (st0 own caps σ) H2 { s2 with heap := h₁, toks := s2.toks + ([] : List (Str × Value)).length } := by
  refine ⟨ok', rfl, I2.bare, Un.kept fun b o q => up1 q, ⟨_, hns₁, fun i x v e1 e2 e3 => ?_⟩, fun x c q => ?_, I2.hok.fresh (by show s2.heap.objs.size <= hp.objs.size; rw [hC]; exact Nat.le_succ _), fun x c q => I2.freeC x c (clos q).1, fun p hp' => absurd (show p ∈ ([] : List (Addr × Obj)) from hp') (by simp), I2.hok.kept fun b o q => up1 (up q), len0⟩
  ·
   unfold st0 at e2
   by_cases hi' : i < own
   ·rw [List.getElem?_append_left (by simpa using hi'), List.getElem?_replicate] at e2
    split at e2 <;> cases e2
   ·rw [List.getElem?_append_right (by simpa using hi'), List.length_replicate, List.getElem?_map] at e2
    cases ec : caps[i - own]? with
    | none => rw [ec] at e2; cases e2
    | some j =>
     rw [ec] at e2
     have e2' : (σ[j]?).join = some v := Option.some.inj e2
     have hσ : σ[j]? = some (some v) := by
      cases q : σ[j]? with
      | none => rw [q] at e2'; cases e2'
      | some z => rw [q] at e2'; exact congrArg some e2'
     have hx : (N.drop own)[i - own]? = some x := by
      rw [List.getElem?_drop]
      have : own + (i - own) = i := by (clear hσ e2' ec e2 e1 len0 hD0 hDC hC ehp hN hkind hsc hX hcalm; omega)
      rw [this]; exact e1
     have hz : (caps.zip (N.drop own))[i - own]? = some (j, x) := by
      rw [List.getElem?_zip_eq_some]; exact ⟨ec, hx⟩
     obtain ⟨hj, hf⟩ := hcap _ (List.mem_of_getElem? hz)
     rw [<- hX] at hj
     have hfm : (x, NameKind.free) ∈ scope.names := PySem.mem_of_lookup hf
     have hk1 := hcellOf _ hfm rfl
     obtain ⟨m, hn, hl⟩ := I2.loc
     obtain ⟨u, ru, lk⟩ := hl j x v hj hσ (.inr (.inl hk1))
     refine ⟨u, ru, .inr ⟨.inl (relabel_free I2.ok.kind hf hk1), ?_⟩⟩
     obtain ⟨c, hc'⟩ := closL_has (env := X.env) (cs := []) (.inl hfm)
     have hc2 := (clos hc').1
     rcases lk with ⟨z, _⟩ | ⟨_, c2, hc3, hcell'⟩
     ·rw [hk1] at z; cases z
     ·rw [hc2] at hc3
      cases hc3
      obtain ⟨oc, hoc, hod⟩ := hcell'
      exact ⟨c, hc', oc, up1 (up hoc), hod⟩
  ·obtain ⟨v, oc, hoc, hod⟩ := I2.cell x c (clos q).1
   exact ⟨v, oc, up1 (up hoc), hod⟩
 have pinD : ∀ {σ' : St} {H' : Hp} {s' : Shared} {its : List Value} {na : Nat}, Inv (cxB X scope N { s2 with heap := hp } H2 (s2.heap.objs.size :: fp)) [] σ' H' s' -> H' s2.heap.objs.size = none ->
   s'.heap.get? s2.heap.objs.size = some { cls := .type "list", data := .seq its.toArray na } ->
   Inv (cxB X scope N { s2 with heap := hp } H2 (s2.heap.objs.size :: fp)) [(s2.heap.objs.size, { cls := .type "list", data := .seq its.toArray na })] σ' H' s' := fun {σ' H' s' its na} I' hn hd => I'.pins_of fun p hp' => by
  have e : p = (s2.heap.objs.size, { cls := .type "list", data := .seq its.toArray na }) := by simpa using hp'
  subst e
  exact ⟨hd, hn, hDC, fun z => Nat.lt_irrefl _ (stkLt _ z), fun v z => nomatch z⟩
 have fpD : ∀ {H' : Hp} {pl : List (Addr × Obj)}, (∀ b ∈ fp, H' b = none) -> (∀ p ∈ pl, p.1 = s2.heap.objs.size) -> ∀ b ∈ fp, FpOk (cxB X scope N { s2 with heap := hp } H2 (s2.heap.objs.size :: fp)) pl H' b := fun hn hpl b hb => by
  refine ⟨hn b hb, (fpC b hb).1, fun z => ?_, .inl (List.mem_cons_of_mem _ hb), fun x c q => (f2 b hb).2.2.2.2.1 x c (clos q).1, fun p hp' z => ?_⟩
  ·rcases List.mem_cons.mp (I2.stkSub b z) with q | q
   ·exact (f2 b hb).2.1 q
   ·exact (f2 b hb).2.2.1 q
  ·exact (fpC b hb).2 (z.symm.trans (hpl p hp'))
 have loop : ∀ s₃ : Shared, s₃ = { s2 with heap := h₁, toks := s2.toks + ([] : List (Str × Value)).length } ->
   codeAny (model X.prog X.w) X.A (.compLoop (.ListComp elt [⟨target, iter, ifs, 0⟩] scope pos) 0 (.ref it) (.ref s2.heap.objs.size) (compEnvC scope (closL X.env scope.names []) hp.objs.size X.env))
    (compPost (model X.prog X.w) X.A X.xe use Qf (.ref s2.heap.objs.size) hp.objs.size) s₃ := by
  rintro s₃ rfl
  refine compLoop_any (fun n s' => ∃ i ys its na H', Inv (cxB X scope N { s2 with heap := hp } H2 (s2.heap.objs.size :: fp)) [] (st0 own caps σ) H' s' /\ tn i s'.heap /\ (∀ b ∈ fp, H' b = none) /\ H' s2.heap.objs.size = none /\
   Vals ys its /\ s'.heap.get? s2.heap.objs.size = some { cls := .type "list", data := .seq its.toArray na } /\ W i n ys H') ?_ m0
   ⟨0, [], [], 0, H2, I0, T.keep _ _ _ st2 fun b _ o q => up1 (up q), fun b hb => (f2 b hb).1, I2.hok.fresh (Nat.le_refl _), .nil, up1 hD0, w0⟩
  rintro n s3 ⟨i, ys, its, na, H3, I3, st3, fr3, nD3, rv3, hd3, w3⟩
  have Ip := pinD I3 nD3 hd3
  have f3 := fpD (H' := H3) (pl := [(s2.heap.objs.size, { cls := .type "list", data := .seq its.toArray na })]) fr3 mem1
  rcases turn i n ys H3 w3 with ⟨stop, hz, fin⟩ | ⟨go, hz, step⟩
  ·refine thn (T.done (cxB X scope N { s2 with heap := hp } H2 (s2.heap.objs.size :: fp)) rfl rfl rfl hcalm i _ s3 _ H3 _ Ip f3 st3 stop) fun r s4 ⟨hr, I4⟩ => ?_
   subst hr
   obtain ⟨m, hn, _⟩ := I4.loc
   exact hR _ _ _ _ ys m _ hn (fun h' hsb => comp_end I2 f2 ehp.symm I4 hsb rv3 hz) (I2.fpOk (by rw [hC]; exact Nat.le_succ _) (by rw [upd_ne (Ne.symm hDC)]; exact I4.free)) (fin _ (I4.pin _ (List.mem_append_right _ List.mem_cons_self)).2.1)
  ·refine thn (T.item (cxB X scope N { s2 with heap := hp } H2 (s2.heap.objs.size :: fp)) rfl rfl rfl hcalm i _ s3 _ H3 _ Ip f3 st3 go) fun r s4 ⟨u, hr, h4⟩ => ?_
   subst hr
   refine thn h4 fun _ s5 ⟨x, H5, I5, r5, y5, st5, fr5⟩ => ?_
   have I5' := I5.pinned (fpD (H' := H5) (pl := [(s2.heap.objs.size, { cls := .type "list", data := .seq its.toArray na })]) fr5 mem1) (T.obj _ _ st5)
   refine thn (hg _ _ _ _ s5 _ H5 x u _ I5' r5 (hk x _ H5 _ _ (step x H5 y5) fun σ' H' q l k => (⟨q, l, k⟩ : _ /\ _ /\ _))) fun _ s6 ⟨σ6, H6, I6, q6, l6, k6⟩ => ?_
   refine thn (hc _ _ _ _ s6 σ6 H6 _ I6 q6) fun ok s7 ⟨H7, I7, q7⟩ => ?_
   have weak : ∀ {H' : Hp} {s' : Shared} {pl : List (Addr × Obj)}, Inv (cxB X scope N { s2 with heap := hp } H2 (s2.heap.objs.size :: fp)) pl σ6 H' s' -> Inv (cxB X scope N { s2 with heap := hp } H2 (s2.heap.objs.size :: fp)) pl (st0 own caps σ) H' s' := fun I' =>
    I'.weak l6.symm fun j v e => k6 j v (by
     by_cases hj : j < own
     ·unfold st0 at e
      rw [List.getElem?_append_left (by simpa using hj), List.getElem?_replicate] at e
      split at e <;> cases e
     ·(clear e l6 hz hd3 nD3 len0 hD0 hDC hC ehp hN hkind hsc hX hcalm; omega)) e
   have after : ∀ {H' : Hp} {s' : Shared}, Inv (cxB X scope N { s2 with heap := hp } H2 (s2.heap.objs.size :: fp)) ([(s2.heap.objs.size, { cls := .type "list", data := .seq its.toArray na })] ++ pinsAt fp s5.heap) σ6 H' s' ->
     tn (i + 1) s'.heap /\ (∀ b ∈ fp, H' b = none) /\ H' s2.heap.objs.size = none /\ s'.heap.get? s2.heap.objs.size = some { cls := .type "list", data := .seq its.toArray na } := fun I' => by
    refine ⟨T.keep _ _ _ st5 fun b hb o e => (I'.pin (b, o) (List.mem_append_right _ (List.mem_append_right _ (mem_pinsAt hb e)))).1, fun b hb => ?_, ?_, ?_⟩
    ·obtain ⟨o, e, d⟩ := T.obj _ _ st5 b hb
     exact (I'.pin (b, o) (List.mem_append_right _ (List.mem_append_right _ (mem_pinsAt hb e)))).2.1
    ·exact (I'.pin _ (List.mem_append_right _ (List.mem_append_left _ List.mem_cons_self))).2.1
    ·exact (I'.pin _ (List.mem_append_right _ (List.mem_append_left _ List.mem_cons_self))).1
   cases ok with
   | false =>
    rw [if_neg Bool.false_ne_true]
    obtain ⟨m', hm, w7⟩ := (show ∃ m', m' < n /\ W (i + 1) m' ys H7 by rw [if_neg Bool.false_ne_true] at q7; exact q7)
    obtain ⟨a1, a2, a3, a4⟩ := after I7
    exact ⟨m', hm, i + 1, ys, its, na, H7, (weak I7).pins_of (fun p hp' => absurd hp' (by simp)), a1, a2, a3, rv3, a4, w7⟩
   | true =>
    rw [if_pos rfl]
    rw [if_pos rfl] at q7
    refine thn (he _ _ _ _ s7 σ6 H7 _ I7 q7) fun yv s8 ⟨y, H8, I8, r8, m', hm, w8⟩ => ?_
    obtain ⟨a1, a2, a3, a4⟩ := after I8
    have hl := rv3.length
    refine call_meets F.slot_list_append ⟨_, a4, rfl⟩ F.entry_list_append (F.args_list_append_2 _ _) (PySem.list_append s2.heap.objs.size its.toArray na yv (by rw [List.size_toArray]; (clear a4 a3 hm l6 hd3 nD3 len0 hD0 hDC hC ehp hN hkind hsc hX hcalm; omega))) ⟨a4, ?_⟩
    have I9 : Inv (cxB X scope N { s2 with heap := hp } H2 (s2.heap.objs.size :: fp)) [] (st0 own caps σ) H8 s8 := (weak I8).pins_of (fun p hp' => absurd hp' (by simp))
    have q : (s8.heap.update s2.heap.objs.size (Obj.mapSeq (·.push yv))).get? s2.heap.objs.size = some { cls := .type "list", data := .seq (its ++ [yv]).toArray (na + 1) } := by
     have q := PySem.IsL.update a4 (·.push yv)
     simpa using q
    refine ⟨m', hm, i + 1, ys ++ [y], its ++ [yv], na + 1, H8, I9.turned (it := s2.heap.objs.size) (t' := s8.toks) (fun b o hb e => ?_) a3 (hDC) (.inl List.mem_cons_self) (fun x c z => Nat.ne_of_lt (cellLt z)) (fun p hp' => absurd (show p ∈ ([] : List (Addr × Obj)) from hp') (by simp)), ?_, a2, a3, rv3.append (.cons r8 .nil), q, w8⟩
    ·rw [Heap.get?_update_other _ _ (Ne.symm hb)]; exact e
    ·exact T.keep _ _ _ a1 fun b hb o e => by rw [Heap.get?_update_other _ _ (Ne.symm (fpC b hb).2)]; exact e
 exact codeAny_compStart_list (loop _ rfl) (T.self _ 0 _ _ _ (T.keep _ _ _ st2 fun b _ o q => up1 (up q)) (loop _ rfl))
theorem pe_comp {elt target iter : Expr} {ifs : List Expr} {scope sc0 : Scope} {pos : Pos} {N N0 : List Str} {own : Nat} {caps : List Nat} {wi : TI} {g : TG} {tc : TT} {te : TE}
  (hcalm : X.calm = true) (hi : PI X target iter wi)
  (hg : ∀ s₀ H₀ ex, PG (cxB X scope N s₀ H₀ ex) target g) (hc : ∀ s₀ H₀ ex, PIfs (cxB X scope N s₀ H₀ ex) ifs tc) (he : ∀ s₀ H₀ ex, PE (cxB X scope N s₀ H₀ ex) elt te) (hk : GKeep own g)
  (hX : X.N = N0) (hsc : X.env.scope = sc0)
  (hcell : ∀ y ∈ scope.names, y.2 ≠ .cell) (hkind : scope.kind = .function) (hnames : ∀ y ∈ scope.names, y.2 = .local -> scope.names.lookup y.1 = some .local)
  (hfree : ∀ y ∈ scope.names, y.2 = .free -> sc0.names.lookup y.1 = some .cell) (hN : N.length = own + caps.length)
  (hcap : ∀ p ∈ caps.zip (N.drop own), N0[p.1]? = some p.2 /\ scope.names.lookup p.2 = some .free)
  (hs : ∀ x, foldedSetIterable iter X.env x = pure x := by intro _; rfl) :
  PE X (.ListComp elt [⟨target, iter, ifs, 0⟩] scope pos) (tComp own caps wi g tc te) := by
 intro pins s σ H Q I h
 rw [eval_ListComp]
 exact comp_core hcalm hi hg hc he hk hX hsc hcell hkind hnames hfree hN hcap hs I h fun D C s' He ys m f hn hI _ q => ⟨m, hn, fun h' hsb => ⟨.ref D, _, hI h' hsb, rfl, q⟩⟩
end
theorem ObjOk.at {P : Program} {w : World} {H : Hp} {h : Heap} {a : Addr} {o : HO} (x : ObjOk P w H h a o) : ∃ ob, h.get? a = some ob := by
 cases o with
 | lst xs => obtain ⟨_, _, _, _, e⟩ := x; exact ⟨_, e⟩
 | tup xs => obtain ⟨_, _, _, ob, e, _⟩ := x; exact ⟨_, e⟩
 | dK kvs => obtain ⟨_, _, _, _, o, _, _, e, _⟩ := x; exact ⟨_, e⟩
 | dT kvs => obtain ⟨_, _, _, _, o, _, _, e, _⟩ := x; exact ⟨_, e⟩
 | set S n => obtain ⟨o, _, _, _, e, _⟩ := x; exact ⟨_, e⟩
 | ins C dx fs => obtain ⟨_, _, _, e, _⟩ := x; exact ⟨_, e⟩
 | own y => obtain ⟨_, e⟩ := x; exact ⟨_, e⟩
 | xd fs => obtain ⟨_, ⟨_, _, _, e, _⟩, _⟩ := x; exact ⟨_, e⟩
 | rng lo hi => obtain ⟨_, _, _, e⟩ := x; exact ⟨_, e⟩
 | frz ob u => obtain ⟨e, _⟩ := x; exact ⟨_, e⟩
 | tbl ps => exact ⟨_, show h.get? a = some _ from x⟩
 | met f y => exact ⟨_, show h.get? a = some _ from x⟩
 | ext φ => obtain ⟨_, ⟨_, e⟩, _⟩ := x; exact ⟨_, e⟩
noncomputable def CX1 (P : Program) (w : World) : CXT := fun outer H s E e s' => ∃ (ea : Addr) (cls a0 : Value) (B : Heap) (H' : Hp),
 e = .ref ea /\ s'.os = s.os /\ AllBare s'.gens /\ Un (frs outer) [] H H' s.heap s'.heap /\ HOk P w H' s'.heap /\ Heap.FlyingW B outer ea cls a0 s'.heap /\
 (∀ b o, s.heap.get? b = some o -> H b = none -> b ∉ frs outer -> B.get? b = some o) /\ (∀ b o, s.heap.get? b = some o -> b ∉ frs outer -> ∃ o', B.get? b = some o') /\
 (∀ b u, H' b = some u -> ∃ o, B.get? b = some o) /\ E cls none H'
theorem CX1.no {P : Program} {w : World} {outer : List Env} {H : Hp} {s s' : Shared} {e : Value} (h : CX1 P w outer H s (fun _ _ _ => False) e s') : False := by
 obtain ⟨_, _, _, _, _, _, _, _, _, _, _, _, _, _, z⟩ := h
 exact z
theorem un_fly {fs : List Addr} {H H' : Hp} {h h1 h2 B base : Heap} {outer : List Env} (hfs : fs = frs outer) (u : Un fs [] H H' h h1) (k1 : ∀ b o, h.get? b = some o -> H b = none -> b ∉ fs -> B.get? b = some o)
  (k3 : ∀ b o, h.get? b = some o -> b ∉ fs -> ∃ o', B.get? b = some o') (ff : h1.FunFrames base outer) (st : B.StaysIn h2) (up : h1.UpToSlots h2) : Un fs [] H H' h h2 := by
 have fr : ∀ b ∈ fs, ∀ o, h1.get? b = some o -> ∃ sl, h2.get? b = some { o with slots := sl } := fun b hb o e => by
  rw [hfs] at hb
  obtain ⟨_, o', e', nf⟩ := ff.mem hb
  rw [e] at e'; cases e'
  exact up b o e nf
 refine ⟨fun b o e n hb _ => st b o (k1 b o e n hb), fun b o e n hb hx => ?_, u.free, fun b o e hx => ?_, u.tups, u.frzs, u.tbls⟩
 ·obtain ⟨sl, e1⟩ := u.slot b o e n hb hx
  obtain ⟨sl', e2⟩ := fr b hb _ e1
  exact ⟨sl', e2⟩
 ·by_cases hb : b ∈ fs
  ·obtain ⟨o1, e1⟩ := u.there b o e hx
   obtain ⟨sl, e2⟩ := fr b hb _ e1
   exact ⟨_, e2⟩
  ·obtain ⟨o', e'⟩ := k3 b o e hb
   exact ⟨o', st b o' e'⟩
theorem hok_fly {P : Program} {w : World} {H : Hp} {h1 h2 B : Heap} (x : HOk P w H h1) (k2 : ∀ b u, H b = some u -> ∃ o, B.get? b = some o) (s1 : B.StaysIn h1) (s2 : B.StaysIn h2) : HOk P w H h2 := fun b u e => by
 refine (x b u e).stay (fun c v hc q => ?_) (fun _ q => q) fun _ _ q => q
 have ht : ∃ z, H c = some z := by
  rcases hc with z | z
  ·subst z; exact ⟨u, e⟩
  ·exact ⟨_, z⟩
 obtain ⟨z, ez⟩ := ht
 obtain ⟨o, eo⟩ := k2 c z ez
 have := s1 c o eo
 rw [q] at this; cases this
 exact s2 c v eo
section
variable {P : Program} {w : World} {K : PySem.W.Frag} {mg : Str -> Option Value} {base : Heap} {N : List Str} {qual : Str} {scope : Scope} {f : Addr} {cdv : Value} {A : Around} {outer : List Env} {s₀ : Shared} {H₀ : Hp} {E E' : XK}
noncomputable def Raises (X : Cx) (E : XK) : Prop := ∀ (pins : List (Addr × Obj)) (σ : St) (H : Hp) (s : Shared) (h' : Heap) (ea : Addr) (cls : Value) (args : List Value), Inv X pins σ H s -> Heap.MadeExcOf s.heap h' ea cls args -> E cls none H -> X.xe (.ref ea) { s with heap := h' }
theorem raise_out : Raises (cxOf (CX1 P w) P w K mg base N qual scope f cdv A outer s₀ H₀ E) E := by
 intro pins σ H s h' ea cls args I hx hE
 have stk := I.stack
 have hin : ∀ env ∈ (cxOf (CX1 P w) P w K mg base N qual scope f cdv A outer s₀ H₀ E).stack, ∀ b, env.frame = some b -> b ∈ frs (cxOf (CX1 P w) P w K mg base N qual scope f cdv A outer s₀ H₀ E).stack := fun env he b hb => List.mem_filterMap.mpr ⟨env, he, hb⟩
 have inB : ∀ {b : Addr} {o : Obj}, s.heap.get? b = some o -> b ∉ frs (cxOf (CX1 P w) P w K mg base N qual scope f cdv A outer s₀ H₀ E).stack -> (PySem.W.hideAll s.heap (frs (cxOf (CX1 P w) P w K mg base N qual scope f cdv A outer s₀ H₀ E).stack)).get? b = some o := fun e hb => PySem.W.hideAll_get _ e hb
 have hL : ∀ {b : Addr} {o : Obj}, s₀.heap.get? b = some o -> b ∉ frs outer -> b ∉ frs (cxOf (CX1 P w) P w K mg base N qual scope f cdv A outer s₀ H₀ E).stack := fun {b o} e hb z => by
  rcases List.mem_cons.mp (I.stkSub b z) with q | q
  ·have h1 := Heap.lt_size e
   have h2 : s₀.heap.objs.size <= (cxOf (CX1 P w) P w K mg base N qual scope f cdv A outer s₀ H₀ E).env.locals := I.ok.above
   rw [q] at h1
   exact Nat.lt_irrefl _ (Nat.lt_of_lt_of_le h1 h2)
  ·exact hb q
 show wpAny (model P w) (A.deeper (envOfC qual scope s₀.heap.objs.size f cdv)) (leaving (envOfC qual scope s₀.heap.objs.size f cdv) (.ref ea)) _ _ _
 refine wpAny_leaves_madeW (s := { s with heap := h' }) (h := s.heap) (base := PySem.W.hideAll s.heap (frs (cxOf (CX1 P w) P w K mg base N qual scope f cdv A outer s₀ H₀ E).stack)) I.ok.frames rfl (fun b o q => PySem.W.of_hideAll _ q) (PySem.W.funFrames_hide stk hin) hx fun h'' t fl _ _ up => ?_
 have u0 : Un (frs outer) [] H₀ H s₀.heap s.heap := I.base
 have tr : ∀ b u, H b = some u -> b ∉ frs (cxOf (CX1 P w) P w K mg base N qual scope f cdv A outer s₀ H₀ E).stack := fun b u e z => by rw [I.stkFree b z] at e; cases e
 have k1 : ∀ b o, s₀.heap.get? b = some o -> H₀ b = none -> b ∉ frs outer -> (PySem.W.hideAll s.heap (frs (cxOf (CX1 P w) P w K mg base N qual scope f cdv A outer s₀ H₀ E).stack)).get? b = some o := fun b o e n hb => inB (u0.keep b o e n hb (by simp)) (hL e hb)
 have k3 : ∀ b o, s₀.heap.get? b = some o -> b ∉ frs outer -> ∃ o', (PySem.W.hideAll s.heap (frs (cxOf (CX1 P w) P w K mg base N qual scope f cdv A outer s₀ H₀ E).stack)).get? b = some o' := fun b o e hb => by
  obtain ⟨o', e'⟩ := u0.there b o e (by simp)
  exact ⟨o', inB e' (hL e hb)⟩
 have k2 : ∀ b u, H b = some u -> ∃ o, (PySem.W.hideAll s.heap (frs (cxOf (CX1 P w) P w K mg base N qual scope f cdv A outer s₀ H₀ E).stack)).get? b = some o := fun b u e => by
  obtain ⟨o, eo⟩ := (I.hok b u e).at
  exact ⟨o, inB eo (tr b u e)⟩
 exact ⟨ea, cls, .ref t, _, H, rfl, I.os, I.bare, un_fly rfl u0 k1 k3 I.funs fl.1 ((Heap.UpToSlots.of_keeps hx.keeps).trans up), hok_fly I.hok k2 (fun b o q => PySem.W.of_hideAll _ q) fl.1, fl, k1, k3, k2, hE⟩
theorem pass_out (hE : ∀ cls od H', E' cls od H' -> E cls od H') : Passes (CX1 P w) (cxOf (CX1 P w) P w K mg base N qual scope f cdv A outer s₀ H₀ E) E' := by
 intro pins σ H s e s' I h
 obtain ⟨ea, cls, a0, B, H', rfl, os, bare, un, hok, fl, k1, k3, k2, hx⟩ := h
 have stk : (cxOf (CX1 P w) P w K mg base N qual scope f cdv A outer s₀ H₀ E).stack = envOfC qual scope s₀.heap.objs.size f cdv :: outer := rfl
 have hfrs : frs (cxOf (CX1 P w) P w K mg base N qual scope f cdv A outer s₀ H₀ E).stack = s₀.heap.objs.size :: frs outer := rfl
 have u0 : Un (frs outer) [] H₀ H s₀.heap s.heap := I.base
 have notL : ∀ {b : Addr} {o : Obj}, s₀.heap.get? b = some o -> b ∉ frs outer -> b ∉ frs (cxOf (CX1 P w) P w K mg base N qual scope f cdv A outer s₀ H₀ E).stack := fun {b o} e hb z => by
  rw [hfrs] at z
  rcases List.mem_cons.mp z with q | q
  ·have h1 := Heap.lt_size e
   rw [q] at h1
   exact Nat.lt_irrefl _ h1
  ·exact hb q
 show wpAny (model P w) (A.deeper (envOfC qual scope s₀.heap.objs.size f cdv)) (leaving (envOfC qual scope s₀.heap.objs.size f cdv) (.ref ea)) _ _ _
 refine wpAny_leaves_onW I.ok.frames rfl fl fun h'' fl2 up => ?_
 have u1 : Un (frs outer) [] H₀ H' s₀.heap s'.heap := by
  refine ⟨fun b o e n hb hx => ?_, fun b o e n hb hx => ?_, fun b o e n hx => ?_, fun b o e hx => ?_, fun b xs q => un.tups b xs (u0.tups b xs q), fun b ob u q => un.frzs b ob u (u0.frzs b ob u q), fun b ps q => ?_⟩
  ·exact un.keep b o (u0.keep b o e n hb hx) (u0.free b o e n hx) (notL e hb) (by simp)
  ·obtain ⟨sl, e1⟩ := u0.slot b o e n hb hx
   obtain ⟨sl', e2⟩ := un.any e1 (u0.free b o e n hx) (by simp)
   exact ⟨sl', e2⟩
  ·obtain ⟨o', e1⟩ := u0.there b o e hx
   exact un.free b o' e1 (u0.free b o e n hx) (by simp)
  ·obtain ⟨o', e1⟩ := u0.there b o e hx
   exact un.there b o' e1 (by simp)
  ·obtain ⟨m1, e1⟩ := u0.tbls b ps q
   obtain ⟨m2, e2⟩ := un.tbls b _ e1
   exact ⟨m1 ++ m2, by rw [e2, Array.append_assoc]⟩
 have K1 : ∀ b o, s₀.heap.get? b = some o -> H₀ b = none -> b ∉ frs outer -> B.get? b = some o := fun b o e n hb => k1 b o (u0.keep b o e n hb (by simp)) (u0.free b o e n (by simp)) (notL e hb)
 have K3 : ∀ b o, s₀.heap.get? b = some o -> b ∉ frs outer -> ∃ o', B.get? b = some o' := fun b o e hb => by
  obtain ⟨o', e1⟩ := u0.there b o e (by simp)
  exact k3 b o' e1 (notL e hb)
 have ff : s'.heap.FunFrames B outer := by
  obtain ⟨_, _, ⟨_, _, r⟩, _⟩ := fl
  exact r
 exact ⟨ea, cls, a0, B, H', rfl, os.trans I.os, bare, un_fly rfl u1 K1 K3 ff fl2.1 up, hok_fly hok k2 fl.1 fl2.1, fl2, K1, K3, k2, hE _ _ _ hx⟩
end
theorem exc_obj {K : PySem.W.Frag} {h : Heap} {C : Addr} {bmB : List Value} {newId : String} (X : K.In h) (q : PySem.W.excIn K C bmB newId = true) :
  ∃ bm N nm qn bs hdct sn sub ab col dd k0 k1 k2 k3 k5 mN, h.get? C = some (excClassObj nm qn C N bs bm hdct sn sub ab col dd k0 k1 k2 k3 k5 newId) /\ h.Ns N mN /\ mN "__init__" = none /\ OwnTail h bmB bm := by
 unfold PySem.W.excIn at q
 split at q
 ·rename_i dd cd sl ho
  split at q
  ·rename_i C' bm k0 k1 k2 k3 n k5 hm hs
   simp only [Bool.and_eq_true, beq_iff_eq, Bool.not_eq_true'] at q
   obtain ⟨⟨⟨⟨⟨rfl, rfl⟩, hdel⟩, ht⟩, hok⟩, hni⟩ := q
   obtain ⟨nm, bs, mro, ns, qn, hd, sn, sub, ab, col, del⟩ := cd
   dsimp only at hm hdel hok hni
   subst hm hdel
   have hsl : sl = #[k0, k1, k2, k3, some (.builtin n), k5] := by
    obtain ⟨l⟩ := sl
    simp only at hs
    rw [hs]
   subst hsl
   exact ⟨bm, ns, nm, qn, bs, hd, sn, sub, ab, col, dd, k0, k1, k2, k3, k5, _, X _ _ ho, .of_isNs (PySem.W.isNs_of_in X hok), PySem.W.nsMap_none_of_in X hok hni, PySem.W.tail_of_in X ht⟩
  ·cases q
 ·cases q
section
variable {X : Cx} {E : XK}
noncomputable def tRaise (C : Addr) (E : XK) (t : TA) : TS := fun _ σ H => t σ H fun vs H1 => vs.length <= sizeLine /\ E (.ref C) none H1
theorem ps_raise {x : Str} {C : Addr} {e : Expr} {es : List Expr} {t : TA} {np cpos pos : Pos} {B Bn newId nid initId inN : String} {bmB bmN : List Value} (hcalm : X.calm = true) (hq : PySem.W.excIn X.K C bmB newId = true)
  (Fn : ExcBaseFacts Bn newId inN bmN) (hBn : bmB.contains (.type Bn) = true) (FB : ExcBaseFacts B nid initId bmB) (hg : Gl X x) (hm : X.mg x = some (.ref C)) (ha : PA X (e :: es) t) (hR : Raises X E)
  (hdb : (x == ("__debug__" : Str)) = false := by decide) (he : starEach (e :: es) X.env = (false, eval e X.env) :: starEach es X.env := by rfl) (hpl : (backTo cpos (starEach es X.env)).any (·.1) = false := by rfl) :
  PS X (.Raise (some (.Call (.Name x np) (e :: es) [] cpos)) none pos) (tRaise C E t) := by
 intro pins s σ H D I h
 obtain ⟨tl, N, nm, qn, bs, hdct, sn, sub, ab, col, dd, k0, k1, k2, k3, k5, mN, hC, hN, hni, T⟩ := exc_obj I.ok.mod.kin hq
 refine wpAny_Raise_call_subU (C := C) (nm := nm) (q := qn) (N := N) (bs := bs) (bm := tl) (hdct := hdct) (sn := sn) (sub := sub) (ab := ab) (col := col) (dd := dd) (k0 := k0) (k1 := k1) (k2 := k2) (k3 := k3) (k5 := k5)
  Fn hBn FB (mN := mN) (T.hasType FB.hasBase) (I.ok.hd hcalm) (by rw [he]; show (false || (backTo cpos (starEach es X.env)).any (·.1)) = false; rw [hpl]; rfl) hni (ld_glob I hg hm ⟨rfl, ?_⟩ hdb)
 have hA := ha cpos pins s σ H _ I h
 rw [he] at hA ⊢
 exact Calls.evalArgs_plain (thn hA fun us s2 ⟨vs, H2, I2, r, hz, hE⟩ => ⟨rfl, by rw [<- r.length]; exact hz, I2.bk _ _ hC, hN.keeps I2.bk, T.keeps I2.bk, fun h' ea mk => hR pins σ H2 s2 h' ea (.ref C) us I2 mk hE⟩)
end
section
variable {P : Program} {w : World} {K : PySem.W.Frag} {mg : Str -> Option Value} {base : Heap}
theorem Fun.ok1 {x qual : Str} {st : Stmt} {f : Addr} {fd : FuncData} {N ps : List Str} {k : Nat} {sp : Sp} (F : Fun K x qual st f fd) (S : FnScope N ps (defScope st)) (len : ∀ vs H Q E, sp vs H Q E -> vs.length = ps.length)
  (hbody : ∀ (cdv : Value) (A : Around) (outer : List Env) (s : Shared) (H : Hp) (vs : List V) (Q : VK) (E : XK), Room k (A.deeper (envOfC qual (defScope st) s.heap.objs.size f cdv)) -> sp vs H Q E ->
   ∃ t, PSs (cxOf (CX1 P w) P w K mg base N qual (defScope st) f cdv A outer s H E) (defBody st) t /\ t { nx := fun _ H' => Q .non H', rt := Q } (start N vs) H) : FnOk P w K mg base (CX1 P w) (k + 1) f fd ps sp := by
 obtain ⟨oc, od, kV, doc, pm, an, cdv, ct, osl, rfl, lk, hcd⟩ := F.ex
 exact fn_of lk hcd S len fun A outer s H vs Q E hr hsp => hbody cdv A outer s H vs Q E hr hsp
end
noncomputable def ExcO (ea C : Addr) : HO := .ext fun h => ∃ o vs, h.get? ea = some o /\ o.cls = .ref C /\ o.data = .fields vs
noncomputable abbrev Cx.tr (X : Cx) (p : List (Addr × Obj)) (E : Value -> Shared -> Prop) : Cx := { X with pn := p, xe := E }
noncomputable def cxH (X : Cx) (ea : Addr) (p : List (Addr × Obj)) : Cx := { X with A := X.A.mark (some (.ref ea)), calm := false, xe := fun _ _ => False, pn := p }
noncomputable def PassS (CX : CXT) (X : Cx) (E : St -> XK) : Prop := ∀ (pins : List (Addr × Obj)) (σ : St) (H : Hp) (s : Shared) (e : Value) (s' : Shared), Inv X pins σ H s -> CX X.stack H s (E σ) e s' -> X.xe e s'
noncomputable def tCallS (sp : Sp) (dvs : List V) (E : St -> XK) (t : TA) : TE := fun σ H Q => t σ H fun vs H1 => sp (vs ++ dvs) H1 Q (E σ)
section
variable {X : Cx} {CX : CXT} {k : Nat} {f C : Addr} {fd : FuncData} {ps : List Str} {sp : Sp} {dvs : List V} {ds : List Value} {E : St -> XK} {x m : Str} {p pos apos : Pos} {e o : Expr} {es : List Expr} {ta : TE} {t : TA}
theorem run_fnS {pins : List (Addr × Obj)} {σ : St} {H : Hp} {s : Shared} {Q : VK} {us : List Value} {vs : List V} (F : FnOk X.prog X.w X.K X.mg X.base CX k f fd ps sp) (hr : Room k X.A) (hb : Binds X.K fd ps ds) (hd : Vals dvs ds) (hx : PassS CX X E)
  (I : Inv X pins σ H s) (r : Vals vs us) (h : sp (vs ++ dvs) H Q (E σ)) : wpAny (model X.prog X.w) X.A (call (.ref f) us) (EP X pins σ Q) X.xe s := by
 have r2 : Vals (vs ++ dvs) (us ++ ds) := r.append hd
 have hl : (us ++ ds).length = ps.length := by rw [<- r2.length]; exact F.len _ _ _ _ h
 refine wpAny_call (codeAny_mono (F.run X.A X.stack s H ⟨us, []⟩ (us ++ ds) (vs ++ dvs) Q (E σ) hr I.env0 (hb s us I.kIn hl) r2 h) fun r s' hq => ?_)
 cases r with
 | error e => exact hx pins σ H s e s' I hq
 | ok fl =>
  cases fl with
  | ret u => exact I.after hq
  | next => exact False.elim hq
  | brk => exact False.elim hq
  | cont => exact False.elim hq
theorem pe_callS (F : FnOk X.prog X.w X.K X.mg X.base CX k f fd ps sp) (hr : Room k X.A) (hg : Gl X x) (hm : X.mg x = some (.ref f)) (hk : PySem.W.keepIn X.K (.ref f) = true) (hb : Binds X.K fd ps ds) (hd : Vals dvs ds) (hx : PassS CX X E)
  (ha : PA X (e :: es) t) (hdb : (x == ("__debug__" : Str)) = false := by decide) (he : starEach (e :: es) X.env = (false, eval e X.env) :: starEach es X.env := by rfl) (hpl : (backTo pos (starEach es X.env)).any (·.1) = false := by rfl) :
  PE X (.Call (.Name x p) (e :: es) [] pos) (tCallS sp dvs E t) := by
 intro pins s σ H Q I h
 refine wpAny_Call_Name_kw (ld_glob I hg hm ?_ hdb)
 refine PySem.W.callWith_K (h₀ := X.base) I.ok.mod.kin hk (thn (ha pos pins s σ H _ I h) fun us s1 ⟨vs, H1, I1, r, q⟩ => ⟨I1.kIn, ?_⟩) he hpl
 exact run_fnS F hr hb hd hx I1 r q
end
section
variable {X : Cx} {pins : List (Addr × Obj)} {σ : St} {H : Hp} {s : Shared}
theorem Inv.unset {n : Str} {i : Nat} {m : Str -> Option Value} {u : Option Value} {h' : Heap} (I : Inv X pins σ H s) (hN : X.N.Nodup) (hi : X.N[i]? = some n)
  (hl : ∀ (i : Nat) (x : Str) (v : V), X.N[i]? = some x -> σ[i]? = some (some v) -> Vis X.env.scope x -> ∃ u, RelV v u /\ Look X.env s.heap m x u)
  (hn' : h'.Ns X.env.locals (fun x => if x = n then u else m x)) (hs : Heap.SameBut X.env.locals s.heap h') : Inv X pins (σ.set i none) H { s with heap := h' } := by
 have cne := I.cne
 obtain ⟨m0, ⟨oL, _, _, hoL, _⟩, _⟩ := id I.loc
 have tracked : HOk X.prog X.w H h' := fun b ob e => by
  refine (I.hok b ob e).stay (fun c w' hc q => (hs.2 c ?_).trans q) (fun _ q => q) fun _ _ q => q
  rintro rfl
  have hf := I.free
  rcases hc with hc | hc
  ·rw [<- hc, hf] at e; cases e
  ·rw [hf] at hc; cases hc
 refine ⟨I.ok, I.os, I.bare, ⟨fun b o e n hb hx => ?_, fun b o e n hb hx => ?_, I.base.free, fun b o e hx => ?_, I.base.tups, I.base.frzs, I.base.tbls⟩, ⟨_, hn', fun j y v' e1 e2 e3 => ?_⟩, fun y c e => ?_, I.free, I.freeC, fun p hp => ?_, tracked, by simpa using I.len⟩
 ·exact (hs.2 b (Nat.ne_of_lt (Nat.lt_of_lt_of_le (Heap.lt_size e) I.ok.above))).trans (I.base.keep b o e n hb hx)
 ·obtain ⟨sl, e1⟩ := I.base.slot b o e n hb hx
  exact ⟨sl, (hs.2 b (Nat.ne_of_lt (Nat.lt_of_lt_of_le (Heap.lt_size e) I.ok.above))).trans e1⟩
 ·obtain ⟨o', e1⟩ := I.base.there b o e hx
  exact ⟨o', (hs.2 b (Nat.ne_of_lt (Nat.lt_of_lt_of_le (Heap.lt_size e) I.ok.above))).trans e1⟩
 ·by_cases hj : j = i
  ·subst hj
   rw [List.getElem?_set] at e2
   rw [if_pos rfl] at e2
   split at e2 <;> cases e2
  ·rw [List.getElem?_set_ne (Ne.symm hj)] at e2
   obtain ⟨u', r', q⟩ := hl j y v' e1 e2 e3
   refine ⟨u', r', ?_⟩
   rcases q with ⟨k, e⟩ | ⟨k, c, e, z⟩
   ·refine .inl ⟨k, ?_⟩
    have : y ≠ n := fun e => hj (nodup_ix hN e1 (e ▸ hi))
    simp [this, e]
   ·exact .inr ⟨k, c, e, z.sameBut hs (cne y c e)⟩
 ·obtain ⟨w', z⟩ := I.cell y c e
  exact ⟨w', z.sameBut hs (cne y c e)⟩
 ·obtain ⟨e, n, ne, nf, d⟩ := I.pin p hp
  exact ⟨(hs.2 p.1 ne).trans e, n, ne, nf, d⟩
theorem let_go {n : Str} {i : Nat} {pos : Pos} {Q : Unit -> Shared -> Prop} (I : Inv X pins σ H s) (hN : X.N.Nodup) (hi : X.N[i]? = some n) (hk : X.env.scope.names.lookup n = some .local)
  (h : ∀ s', Inv X pins (σ.set i none) H s' -> Q () s') : wpAny (model X.prog X.w) X.A (do bindName X.env n .none; unbindBehindTheSuite X.env n pos) Q X.xe s := by
 have hcls : (X.env.scope.kind == .class || (X.env.scope.kind == .module && X.env.locals != X.env.globals)) = false := by rw [I.ok.kind]; rfl
 refine wpAny_bind (wpAny_bindName (store_ok I hN hi (.inl hk) (show RelV .non .none from rfl) (fun s1 I1 => ?_) (.inr hk)))
 obtain ⟨m, hn, hl⟩ := id I1.loc
 have hiσ : i < σ.length := by rw [I.len]; exact (List.getElem?_eq_some_iff.mp hi).1
 obtain ⟨u, ru, lk⟩ := hl i n .non hi (by rw [List.getElem?_set_self hiσ]) (.inl hk)
 have hm : m n = some u := by
  rcases lk with ⟨_, e⟩ | ⟨z, _⟩
  ·exact e
  ·have hk' : X.env.kindOf n = some .local := hk
   rw [hk'] at z
   rcases z with z | z <;> cases z
 unfold unbindBehindTheSuite
 refine wpAny_onRaise (wpAny_unbindName_local hk hn hm hcls fun h' u' hn' hs' => ?_)
 have I2 := I1.unset hN hi hl hn' hs'
 rw [List.set_set] at I2
 exact h _ I2
end
section
variable {X : Cx}
noncomputable def tTry (K : PySem.W.Frag) (CH : Addr) (i : Nat) (E : St -> XK) (tb ts : TS) : TS := fun D σ H => tb D σ H /\ ∀ σ' cls H' ea, E σ' cls none H' -> H' ea = none ->
 ∃ C, cls = .ref C /\ PySem.W.exmOne K (.ref C) (.ref CH) = some true /\
  ts { nx := fun σ2 H2 => D.nx (σ2.set i none) H2, rt := D.rt, bk := fun σ2 H2 => D.bk (σ2.set i none) H2, ct := fun σ2 H2 => D.ct (σ2.set i none) H2 } (σ'.set i (some (.ref ea))) (upd H' ea (ExcO ea C))
theorem try_pass {pins : List (Addr × Obj)} {D : Ends} {CH : Addr} {i : Nat} {E : St -> XK} {x n : Str} {np pos : Pos} {b₀ : Stmt} {suite : List Stmt} {ts : TS}
  (hstk : X.stack = X.env :: X.outer) (hfr : X.env.frame = some X.env.locals) (hN : X.N.Nodup) (hi : X.N[i]? = some n) (hk : X.env.scope.names.lookup n = some .local) (hg : Gl X x) (hm : X.mg x = some (.ref CH))
  (hs : ∀ ea p, PSs (cxH X ea p) (b₀ :: suite) ts)
  (hc : ∀ σ' cls H' ea, E σ' cls none H' -> H' ea = none -> ∃ C, cls = .ref C /\ PySem.W.exmOne X.K (.ref C) (.ref CH) = some true /\
   ts { nx := fun σ2 H2 => D.nx (σ2.set i none) H2, rt := D.rt, bk := fun σ2 H2 => D.bk (σ2.set i none) H2, ct := fun σ2 H2 => D.ct (σ2.set i none) H2 } (σ'.set i (some (.ref ea))) (upd H' ea (ExcO ea C)))
  (hdb : (x == ("__debug__" : Str)) = false := by decide) :
  PassS (CX1 X.prog X.w) (X.tr (X.pn ++ pins) fun e s₁ => wpAny (model X.prog X.w) X.A (noteFrame e X.env) (fun _ s₂ => wpAny (model X.prog X.w) X.A (setFlight e none) (fun _ s₃ =>
   wpAny (model X.prog X.w) X.A (handleBy e X.env [.ExceptHandler (some (.Name x np)) (some n) (b₀ :: suite) pos]) (SP X pins D) X.xe s₃) X.xe s₂) X.xe s₁) E := by
 intro pins' σ' H1 s1 e s' I1 hx
 obtain ⟨ea, cls, a0, B, H', rfl, os, bare, un, hok, fl, k1, k3, k2, hE⟩ := hx
 have fl' : Heap.FlyingW B (X.env :: X.outer) ea cls a0 s'.heap := hstk ▸ fl
 have hfrm : X.A.frames = some (X.env :: X.outer) := hstk ▸ I1.ok.frames
 have nfr : ea ∉ frs X.stack := fun z => by
  obtain ⟨_, o, ho, nf⟩ := fl.2.2.1.mem z
  obtain ⟨oe, vs, _, _, _, he, _, hd, _⟩ := fl.2.2.2
  rw [he] at ho; cases ho
  exact nf vs hd
 have nE : ∀ {b : Addr} {o : Obj}, s1.heap.get? b = some o -> b ≠ ea := fun {b o} q z => by
  subst z
  obtain ⟨o', e'⟩ := k3 b o q nfr
  rw [fl.2.1] at e'; cases e'
 have nH : H' ea = none := by
  cases q : H' ea with
  | none => rfl
  | some u =>
   obtain ⟨o, e'⟩ := k2 ea u q
   rw [fl.2.1] at e'; cases e'
 have go : ∀ {h2 : Heap}, Heap.FlyingW B (X.env :: X.outer) ea cls a0 h2 -> s'.heap.UpToSlots h2 -> Inv (X.tr (X.pn ++ pins) fun e s₁ => wpAny (model X.prog X.w) X.A (noteFrame e X.env) (fun _ s₂ => wpAny (model X.prog X.w) X.A (setFlight e none) (fun _ s₃ =>
   wpAny (model X.prog X.w) X.A (handleBy e X.env [.ExceptHandler (some (.Name x np)) (some n) (b₀ :: suite) pos]) (SP X pins D) X.xe s₃) X.xe s₂) X.xe s₁) pins' σ' H' { s' with heap := h2 } := fun {h2} fl2 up =>
  I1.call' (s' := { s' with heap := h2 }) (ch := []) os (un_fly rfl un k1 k3 fl.2.2.1 fl2.1 up) (hok_fly hok k2 fl.1 fl2.1) bare fun b z => absurd z (by simp)
 have toH : ∀ {s2 : Shared} {H2 : Hp}, Inv (X.tr (X.pn ++ pins) fun e s₁ => wpAny (model X.prog X.w) X.A (noteFrame e X.env) (fun _ s₂ => wpAny (model X.prog X.w) X.A (setFlight e none) (fun _ s₃ =>
   wpAny (model X.prog X.w) X.A (handleBy e X.env [.ExceptHandler (some (.Name x np)) (some n) (b₀ :: suite) pos]) (SP X pins D) X.xe s₃) X.xe s₂) X.xe s₁) pins' σ' H2 s2 -> Inv (cxH X ea (X.pn ++ pins)) [] σ' H2 s2 := fun I =>
  ⟨⟨I.ok.mod, I.ok.kind, I.ok.glob, I.ok.blt, I.ok.above, I.ok.inj, I.ok.has, I.ok.cab, (fun z => by cases z), I.ok.frames, I.ok.stk, I.ok.exf, I.ok.bs, I.ok.bsz, I.ok.noex, I.ok.exfs, I.ok.funs, I.ok.frf⟩,
   I.os, I.bare, I.base, I.loc, I.cell, I.free, I.freeC, fun p hp => I.pin p (List.mem_append_left _ (by have hp' : p ∈ (X.pn ++ pins) ++ [] := hp; rw [List.append_nil] at hp'; exact hp')), I.hok, I.len⟩
 refine wpAny_looks_onW hfrm hfr fl' fun h4 held up4 => ?_
 refine wpAny_landsW held fun h5 fl5 up5 => ?_
 obtain ⟨C, rfl, hexm, hts⟩ := hc σ' cls H' ea hE nH
 have I5 := toH (go fl5 (up4.trans up5))
 refine wpAny_handleBy_cons (codeAny_handlers_test ?_) (by intro q; cases q)
 refine ld_glob I5 hg hm ?_ hdb
 obtain ⟨ob, hob, hobc⟩ := fl5.there
 have LT : PySem.W.Looks (model X.prog X.w) h5 (typeOf (.ref ea)) (.ref C) := by
  rw [<- hobc]
  exact (PySem.W.Looks.ld hob).andThen .now
 refine PySem.W.exm_one I5.kIn LT hexm _ _ _ _ (fun _ _ q => q) ?_
 refine codeAny_handlers_suite_as (lands_againW fl5 fun h6 fl6 up6 => ?_)
 have I6 := toH (go fl6 ((up4.trans up5).trans up6))
 have I7 : Inv (cxH X ea (X.pn ++ pins)) [] σ' (upd H' ea (ExcO ea C)) { s' with heap := h6 } := by
  refine I6.track ?_ nH (fun z => ?_) (fun y c q z => ?_) (fun p hp z => ?_) ?_
  ·by_cases hx : ea ∈ X.ex
   ·exact .inr hx
   ·refine .inl ?_
    cases q : X.s₀.heap.get? ea with
    | none => exact q
    | some o =>
     obtain ⟨o', e'⟩ := I1.base.there ea o q hx
     exact absurd rfl (nE e')
  ·exact nfr (by rw [hstk]; exact List.mem_filterMap.mpr ⟨X.env, List.mem_cons_self, by rw [hfr]; exact congrArg some z.symm⟩)
  ·obtain ⟨v, oc, hoc, _⟩ := I1.cell y c q
   exact nE hoc z
  ·exact nE (I1.pin p (List.mem_append_left _ (by have hp' : p ∈ (X.pn ++ pins) ++ [] := hp; rw [List.append_nil] at hp'; exact hp'))).1 z
  ·obtain ⟨oe, vs, _, _, _, he, ⟨hcl, _⟩, hd, _⟩ := fl6.2.2.2
   exact ⟨⟨oe, vs, he, hcl, hd⟩, ⟨oe, he⟩, fun h1 h2 ⟨o, ws, q1, q2, q3⟩ k => ⟨o, ws, k o q1, q2, q3⟩⟩
 refine store_ok (X := cxH X ea (X.pn ++ pins)) I7 hN hi (.inl hk) (show RelV (.ref ea) (.ref ea) from rfl) (fun s8 I8 => ?_) (.inr hk)
 refine wpAny_mono (hs ea (X.pn ++ pins) [] s8 _ _ _ I8 hts) (fun fl9 s9 h9 => ?_) fun _ _ z => False.elim z
 have back : ∀ {σ2 : St} {H2 : Hp}, Inv (cxH X ea (X.pn ++ pins)) [] σ2 H2 s9 -> Inv X pins σ2 H2 s9 := fun I =>
  ⟨⟨I1.ok.mod, I1.ok.kind, I1.ok.glob, I1.ok.blt, I1.ok.above, I1.ok.inj, I1.ok.has, I1.ok.cab, I1.ok.hd, I1.ok.frames, I1.ok.stk, I1.ok.exf, I1.ok.bs, I1.ok.bsz, I1.ok.noex, I1.ok.exfs, I1.ok.funs, I1.ok.frf⟩,
   I.os, I.bare, I.base, I.loc, I.cell, I.free, I.freeC, fun p hp => I.pin p (List.mem_append_left _ hp), I.hok, I.len⟩
 show wpAny (model X.prog X.w) X.A (do bindName X.env n .none; unbindBehindTheSuite X.env n pos) (fun _ s₃ => SP X pins D fl9 s₃) X.xe s9
 cases fl9 with
 | next =>
  obtain ⟨σ2, H2, I9, q9⟩ := h9
  exact let_go (back I9) hN hi hk fun s10 I10 => ⟨_, H2, I10, q9⟩
 | brk =>
  obtain ⟨σ2, H2, I9, q9⟩ := h9
  exact let_go (back I9) hN hi hk fun s10 I10 => ⟨_, H2, I10, q9⟩
 | cont =>
  obtain ⟨σ2, H2, I9, q9⟩ := h9
  exact let_go (back I9) hN hi hk fun s10 I10 => ⟨_, H2, I10, q9⟩
 | ret u =>
  obtain ⟨v, σ2, H2, I9, rv, q9⟩ := h9
  exact let_go (back I9) hN hi hk fun s10 I10 => ⟨v, _, H2, I10, rv, q9⟩
theorem ps_try {CH : Addr} {i : Nat} (E : St -> XK) {x n : Str} {np hpos pos : Pos} {b₀ : Stmt} {suite body : List Stmt} {tb ts : TS}
  (hstk : X.stack = X.env :: X.outer) (hfr : X.env.frame = some X.env.locals) (hN : X.N.Nodup) (hi : X.N[i]? = some n) (hk : X.env.scope.names.lookup n = some .local) (hg : Gl X x) (hm : X.mg x = some (.ref CH))
  (hb : ∀ p xe, PassS (CX1 X.prog X.w) (X.tr p xe) E -> PSs (X.tr p xe) body tb) (hs : ∀ ea p, PSs (cxH X ea p) (b₀ :: suite) ts)
  (hdb : (x == ("__debug__" : Str)) = false := by decide) : PS X (.Try body [.ExceptHandler (some (.Name x np)) (some n) (b₀ :: suite) hpos] [] [] pos) (tTry X.K CH i E tb ts) := by
 intro pins s σ H D I h
 obtain ⟨h1, h2⟩ := h
 refine wpAny_Try_except ?_
 have I' : Inv (X.tr (X.pn ++ pins) fun e s₁ => wpAny (model X.prog X.w) X.A (noteFrame e X.env) (fun _ s₂ => wpAny (model X.prog X.w) X.A (setFlight e none) (fun _ s₃ =>
   wpAny (model X.prog X.w) X.A (handleBy e X.env [.ExceptHandler (some (.Name x np)) (some n) (b₀ :: suite) hpos]) (SP X pins D) X.xe s₃) X.xe s₂) X.xe s₁) [] σ H s :=
  ⟨⟨I.ok.mod, I.ok.kind, I.ok.glob, I.ok.blt, I.ok.above, I.ok.inj, I.ok.has, I.ok.cab, I.ok.hd, I.ok.frames, I.ok.stk, I.ok.exf, I.ok.bs, I.ok.bsz, I.ok.noex, I.ok.exfs, I.ok.funs, I.ok.frf⟩,
   I.os, I.bare, I.base, I.loc, I.cell, I.free, I.freeC, fun p hp => I.pin p (by simpa using hp), I.hok, I.len⟩
 have back : ∀ {σ2 : St} {H2 : Hp} {s2 : Shared}, Inv (X.tr (X.pn ++ pins) fun e s₁ => wpAny (model X.prog X.w) X.A (noteFrame e X.env) (fun _ s₂ => wpAny (model X.prog X.w) X.A (setFlight e none) (fun _ s₃ =>
   wpAny (model X.prog X.w) X.A (handleBy e X.env [.ExceptHandler (some (.Name x np)) (some n) (b₀ :: suite) hpos]) (SP X pins D) X.xe s₃) X.xe s₂) X.xe s₁) [] σ2 H2 s2 -> Inv X pins σ2 H2 s2 := fun J =>
  ⟨I.ok, J.os, J.bare, J.base, J.loc, J.cell, J.free, J.freeC, fun p hp => J.pin p (List.mem_append_left _ hp), J.hok, J.len⟩
 refine wpAny_mono (hb _ _ (try_pass hstk hfr hN hi hk hg hm hs h2 hdb) [] s σ H D I' h1) (fun f s1 q => ?_) fun e s1 q => q
 cases f with
 | next =>
  obtain ⟨σ2, H2, J, q⟩ := q
  exact wpAny_execs_nil ⟨σ2, H2, back J, q⟩
 | brk => obtain ⟨σ2, H2, J, q⟩ := q; exact ⟨σ2, H2, back J, q⟩
 | cont => obtain ⟨σ2, H2, J, q⟩ := q; exact ⟨σ2, H2, back J, q⟩
 | ret u => obtain ⟨v, σ2, H2, J, r, q⟩ := q; exact ⟨v, σ2, H2, back J, r, q⟩
end
structure RoomN (k : Nat) (A : Around) : Prop where
 dp : A.depth + 3 * k + 5 < recursionLimit
 un : A.units + 16 * k + 200 < cLine
theorem Room.toN {k : Nat} {A : Around} (r : Room k A) : RoomN k A := ⟨r.dp, r.un⟩
theorem RoomN.units {k : Nat} {A : Around} (r : RoomN k A) : A.units + 100 < cLine := by have := r.un; omega
theorem Room.units100 {k : Nat} {A : Around} (r : Room k A) : A.units + 100 < cLine := r.toN.units
section
variable {X : Cx} {k : Nat} {f C : Addr} {fd : FuncData} {ps : List Str} {sp : List V -> Hp -> VK -> Prop} {dvs : List V} {ds : List Value} {x m : Str} {p pos apos : Pos} {e o : Expr} {es : List Expr} {ta : TE} {t : TA}
end
end L2
namespace PySem.W
open PySem PySem.Spec PySem.Calls PyProof.Rows PySem.Builtin.ObjectAttr PySem.Builtin.Getset_descriptor PySem.Builtin
structure ExcCls (K : Frag) (C : Addr) : Prop where
 cl : (clsIn K C).isSome = true
 ga : findIn K (.ref C) "__getattribute__" = some (some (.builtin "BaseException.__getattribute__"))
 hk : findIn K (.ref C) "__getattr__" = some none
 ha : findIn K (.ref C) "__class__" = some (some (.builtin "object.__class__"))
 hn : specialIn K (.builtin "object.__class__") "__get__" = some (some (.builtin "getset_descriptor.__get__"))
 ht : takesIn K (.builtin "object.__class__") = some true
 hm : mroIn K C (.type "object") = some true
 hb : mroIn K C (.type "BaseException") = some true
section
variable {prog : Program} {w : World} {A : Around} {E : Value -> Shared -> Prop} {K : Frag} {x C : Addr} {ox : Obj}
theorem class_getE {R : Result -> Shared -> Prop} {h : Heap} {g : Array GenState} {d : Drawn} {t : Nat} {os : OsState} {tp : Value} (X : K.In h) (L0 : Looks (model prog w) h (typeOf (.ref x)) (.ref C)) (hm : mroIn K C (.type "object") = some true)
  (hq : R (.ok (.ret (.ref C))) ⟨h, g, d, t, os⟩) : codeAny (model prog w) A (.call (.builtin "getset_descriptor.__get__") ⟨[.builtin "object.__class__", .ref x, tp], []⟩) R ⟨h, g, d, t, os⟩ := by
 have L1 := looks_mroIn (M := model prog w) X hm
 refine codeAny_call_builtin KF.slot_gs.plain KF.entry_gs (KF.slot_gs.check _ _ _ _ _ _ _ _ KF.type_class (KF.args_gs _ _ _) ?_)
 unfold Builtin.«getset_descriptor.__get__» descrGet
 rw [dga_obj]
 refine wpAny_bind (wpAny_pure ?_)
 unfold descrGetter descrCheckInstance descrNameAndClass isInstance
 simp only [KF.owner_class]
 repeat lk
 refine ⟨Code.quiet_builtin _ (by first | decide +kernel), codeAny_builtin KF.entry_class ?_⟩
 unfold Builtin.«object.__class__» shownTypeOf
 repeat lk
 exact hq
theorem exc_class {h : Heap} {g : Array GenState} {d : Drawn} {t : Nat} {os : OsState} {vs : Array Value} {Q : Option Value -> Shared -> Prop} (X : K.In h) (T : ExcCls K C) (hx : h.get? x = some ox) (hc : ox.cls = .ref C) (hd : ox.data = .fields vs)
  (hq : Q (some (.ref C)) ⟨h, g, d, t + 1, os⟩) : wpAny (model prog w) A (getAttr? (.ref x) "__class__") Q E ⟨h, g, d, t, os⟩ := by
 have L0 : Looks (model prog w) h (typeOf (.ref x)) (.ref C) := hc ▸ (Looks.ld hx).andThen .now
 have L1 := looks_findIn (M := model prog w) X T.ga
 unfold getAttr? getAttrBy? getAttrBy
 refine wpAny_bind (wpAny_mkText (wpAny_bind (wpAny_attempt (wpAny_holding (wpAny_bind (L0.at (wpAny_bind (L1.at ?_))))))))
 show wpAny _ _ (getAttrByItsOwn (.ref x) (.str "__class__" t) (.ref C) (.builtin "BaseException.__getattribute__") false false) _ _ _
 have LH := looks_findIn (M := model prog w) X T.hk
 unfold getAttrByItsOwn callGetattribute boundAndCalled hookBefore
 refine wpAny_bind (LH.at (wpAny_bind (wpAny_attempt (wpAny_holding ?_))))
 rw [if_neg (by simp)]
 refine wpAny_bind (wpAny_of_eq (F.excAttr_ValueError.ga.bind _) ?_)
 refine wpAny_call ?_
 refine codeAny_call_builtin F.excAttr_ValueError.ga.plain F.entry_bexc_ga ?_
 have hsub : Looks (model prog w) h (isSubtype (.ref C) (.type "BaseException")) true := looks_mroIn X T.hb
 have chk : ∀ {A' : Around} {Q' : Unit -> Shared -> Prop} {E' : Value -> Shared -> Prop} {t' : Nat}, Q' () ⟨h, g, d, t', os⟩ -> wpAny (model prog w) A' (checkBuiltinCall "BaseException.__getattribute__" ⟨[.ref x, .str "__class__" t], []⟩) Q' E' ⟨h, g, d, t', os⟩ := fun hq' => by
  have hkd : builtinKind "BaseException.__getattribute__" = some .slot := by kernel_rfl
  have hsp : splitId "BaseException.__getattribute__" = some ("BaseException", "__getattribute__") := by kernel_rfl
  simp only [checkBuiltinCall, hkd, hsp]
  have LI : Looks (model prog w) h (isInstance (.ref x) (.type "BaseException")) true := L0.andThen hsub
  refine wpAny_bind (LI.at ?_)
  simp only [Bool.not_true, Bool.false_eq_true, if_false]
  have ha := F.args_bexc_ga (.ref x) (.str "__class__" t)
  cases hsig : Manifest.signature? "BaseException.__getattribute__" with
  | none => exact wpAny_pure hq'
  | some sig =>
   simp only [argsOk, hsig] at ha
   have h2 : Bind.checkArgs "BaseException.__getattribute__" sig ⟨[.ref x, .str "__class__" t], []⟩ = pure () := ha
   show wpAny _ _ (Bind.checkArgs "BaseException.__getattribute__" sig ⟨[.ref x, .str "__class__" t], []⟩) _ _ _
   rw [h2]; exact wpAny_pure hq'
 refine chk ?_
 have LF : Looks (model prog w) h (Builtin.ObjectAttr.find (.ref x) (.ref C) "__class__") (Found.bind (.builtin "getset_descriptor.__get__") (.builtin "object.__class__")) := by
  have L1 := looks_findIn (M := model prog w) X T.ha
  have L2 : Looks (model prog w) h (getOf (some (.builtin "object.__class__"))) (some (.builtin "getset_descriptor.__get__")) := looks_specialIn X T.hn
  have L3 := looks_takesIn (M := model prog w) X T.ht
  unfold Builtin.ObjectAttr.find
  exact L1.andThen (L2.andThen ((show Looks (model prog w) h (dataDescriptor? (some (.builtin "object.__class__")) (some (.builtin "getset_descriptor.__get__"))) (some (.builtin "getset_descriptor.__get__", .builtin "object.__class__")) from L3.andThen .now).andThen (Looks.tag .now)))
 show wpAny _ _ (Builtin.«object.__getattribute__» ⟨[.ref x, .str "__class__" t], []⟩) _ _ _
 unfold Builtin.«object.__getattribute__»
 refine wpAny_bind (wpAny_pure (wpAny_bind (wpAny_pure (wpAny_bind (L0.at (wpAny_bind (LF.at ?_)))))))
 show wpAny _ _ (bindTo (.builtin "getset_descriptor.__get__") (.builtin "object.__class__") (.ref x) (.ref C)) _ _ _
 show wpAny _ _ (holding [Value.builtin "object.__class__"] (call (.builtin "getset_descriptor.__get__") [.builtin "object.__class__", .ref x, .ref C]) >>= ret) _ _ _
 refine wpAny_bind (wpAny_holding (wpAny_call (class_getE X L0 T.hm ?_)))
 refine wpAny_pure ?_
 exact handed_on rfl (wpAny_pure hq)
noncomputable def ExcAtH (x C : Addr) (h : Heap) : Prop := ∃ o vs, h.get? x = some o /\ o.cls = .ref C /\ o.data = .fields vs
theorem kitx_exc (T : ExcCls K C) : KitX K (.ref x) (.ref C) (ExcAtH x C) where
 ty := fun M h _ ⟨o, vs, e, c, d⟩ => c ▸ (Looks.ld e).andThen .now
 it := fun _ _ X _ => by
  obtain ⟨cdD, hcD⟩ := Option.isSome_iff_exists.mp T.cl
  unfold clsIn at hcD
  split at hcD
  ·rename_i c' d' cd' sl' ho
   intro A' Q' E' s' k q
   unfold isType loadHead
   exact wpAny_bind (wpAny_loadPart (k _ _ (X _ _ ho)) (wpAny_pure q))
  ·cases hcD
 ne := fun h tp dd its n sl X htp => by
  obtain ⟨cdD, hcD⟩ := Option.isSome_iff_exists.mp T.cl
  refine Bool.eq_false_iff.mpr fun q => ?_
  have e : C = tp := Value.ref.inj (beq_iff_eq.mp q)
  subst e
  unfold clsIn at hcD
  split at hcD
  ·rename_i c' d' cd' sl' ho
   have z := (X _ _ ho).symm.trans htp
   cases z
  ·cases hcD
 ca := fun {prog w A E Q s} X ⟨o, vs, e, c, d⟩ k => by
  obtain ⟨hh, g, dd, t, os⟩ := s
  exact exc_class X T e c d k
end
end PySem.W
namespace L2
open PySem PySem.Spec PyProof.Rows
theorem vals_refs : ∀ {Cs : List Addr} {its : List Value}, Vals (Cs.map V.ref) its -> its = Cs.map Value.ref
 | [], _, .nil => rfl
 | _ :: _, _, .cons r1 r2 => by cases r1; rw [vals_refs r2, List.map_cons]
section
variable {X : Cx}
theorem call_isiE : CallR X (.builtin "isinstance") (fun xs H Q => ∃ ea D c b, xs = [.ref ea, c] /\ H ea = some (ExcO ea D) /\ PySem.W.ExcCls X.K D /\
  ((∃ n, c = .ty n /\ PySem.W.kitOne X.K (.ref D) (.type n) = some b) \/ (∃ C, c = .ref C /\ PySem.W.kitOne X.K (.ref D) (.ref C) = some b) \/
   (∃ (p : Addr) (Cs : List Addr), c = .ref p /\ H p = some (.tup (Cs.map V.ref)) /\ PySem.W.kitAny X.K (.ref D) (Cs.map Value.ref) = some b)) /\ Q (.bl b) H) := by
 intro pins s σ H xs us Q I r h
 obtain ⟨ea, D, c, b, rfl, hH, T, hc, q⟩ := h
 obtain ⟨u, w', rfl, rx, rc⟩ := vals2 r
 cases rx
 have hE : PySem.W.ExcAtH ea D s.heap := (I.hok ea _ hH).1
 have fin : ∀ tk, EP X pins σ Q (.bool b) { s with toks := tk } := fun tk => ⟨.bl b, H, I.tok tk, rfl, q⟩
 rcases hc with ⟨n, rfl, e⟩ | ⟨C, rfl, e⟩ | ⟨p, Cs, rfl, hp, e⟩
 ·cases rc
  exact PySem.W.kia_one (PySem.W.kitx_exc T) I.kIn hE e (fun z => nomatch z) fin
 ·cases rc
  exact PySem.W.kia_one (PySem.W.kitx_exc T) I.kIn hE e (fun z => nomatch z) fin
 ·cases rc
  obtain ⟨_, its, rv, o, ho, hcl, n, hd⟩ := (show ObjOk X.prog X.w H s.heap p (.tup (Cs.map V.ref)) from I.hok p _ hp)
  have ei : its = Cs.map Value.ref := vals_refs rv
  obtain ⟨cls, dd, data, sl⟩ := o
  have hcl' : cls = .type "tuple" := hcl
  have hd' : data = .seq its.toArray n := hd
  subst hcl' hd'
  exact PySem.W.kia_tup (PySem.W.kitx_exc T) I.kIn hE ho (by rw [ei]; exact e) (fun z => nomatch z) fin
end
theorem comp_by {J : It} {g : TG} {tc : TT} {te : TE} {σ0 : St} {H : Hp} {Q : VK} (n : Nat) (Pv : Nat -> List V -> Hp -> Prop) (hz : n < sizeLine) (hgo : ∀ i ys H, i < n -> Pv i ys H -> J.go i H) (hstop : ∀ ys H, Pv n ys H -> J.stop n H) (h0 : Pv 0 [] H)
  (hs : ∀ i ys H x H' (N : List V -> Hp -> Prop), i < n -> Pv i ys H -> J.yld i H x H' -> (∀ ys' H2, Pv (i + 1) ys' H2 -> N ys' H2) ->
   g x σ0 H' fun σ2 H2 => tc σ2 H2 fun b H3 => if b = true then te σ2 H3 fun y H4 => N (ys ++ [y]) H4 else N ys H3)
  (hd : ∀ ys H, Pv n ys H -> ys.length <= n -> ∀ p, H p = none -> Q (.ref p) (upd H p (.lst ys))) :
  CompR J g tc te σ0 Q H := by
 refine ⟨fun i m ys H => m = n - i /\ i <= n /\ ys.length <= i /\ Pv i ys H, ⟨n, by simp, Nat.zero_le _, Nat.le_refl _, h0⟩, ?_⟩
 rintro i m ys H ⟨rfl, hi, hl, p⟩
 by_cases hlt : i < n
 ·refine .inr ⟨hgo i ys H hlt p, by (clear hlt; omega), fun x H' y => ?_⟩
  have key := hs i ys H x H' (fun ys' H2 => (ys'.length <= ys.length + 1 -> ∃ m', m' < n - i /\ m' = n - (i + 1) /\ i + 1 <= n /\ ys'.length <= i + 1 /\ Pv (i + 1) ys' H2)) hlt p y (fun ys' H2 q hle => ⟨n - (i + 1), by (clear hle hl hi hz; omega), rfl, hlt, by (clear hlt hi hz; omega), q⟩)
  have e : (fun σ2 H2 => tc σ2 H2 fun b H3 => if b = true then te σ2 H3 fun y H4 => ((ys ++ [y]).length <= ys.length + 1 -> ∃ m', m' < n - i /\ m' = n - (i + 1) /\ i + 1 <= n /\ (ys ++ [y]).length <= i + 1 /\ Pv (i + 1) (ys ++ [y]) H4)
    else (ys.length <= ys.length + 1 -> ∃ m', m' < n - i /\ m' = n - (i + 1) /\ i + 1 <= n /\ ys.length <= i + 1 /\ Pv (i + 1) ys H3)) =
   (fun σ2 H2 => tc σ2 H2 fun b H3 => if b = true then te σ2 H3 fun y H4 => ∃ m', m' < n - i /\ m' = n - (i + 1) /\ i + 1 <= n /\ (ys ++ [y]).length <= i + 1 /\ Pv (i + 1) (ys ++ [y]) H4
    else ∃ m', m' < n - i /\ m' = n - (i + 1) /\ i + 1 <= n /\ ys.length <= i + 1 /\ Pv (i + 1) ys H3) := by
   funext σ2 H2
   congr 1
   funext b H3
   have e1 : ∀ (y : V) (H4 : Hp), ((ys ++ [y]).length <= ys.length + 1 -> ∃ m', m' < n - i /\ m' = n - (i + 1) /\ i + 1 <= n /\ (ys ++ [y]).length <= i + 1 /\ Pv (i + 1) (ys ++ [y]) H4) = (∃ m', m' < n - i /\ m' = n - (i + 1) /\ i + 1 <= n /\ (ys ++ [y]).length <= i + 1 /\ Pv (i + 1) (ys ++ [y]) H4) := fun y H4 =>
    propext ⟨fun q => q (by simp), fun q _ => q⟩
   have e2 : (ys.length <= ys.length + 1 -> ∃ m', m' < n - i /\ m' = n - (i + 1) /\ i + 1 <= n /\ ys.length <= i + 1 /\ Pv (i + 1) ys H3) = (∃ m', m' < n - i /\ m' = n - (i + 1) /\ i + 1 <= n /\ ys.length <= i + 1 /\ Pv (i + 1) ys H3) := propext ⟨fun q => q (by (clear hlt hl hi hz; omega)), fun q _ => q⟩
   simp only [e1, e2]
  rw [e] at key
  exact key
 ·have e : i = n := by (clear hl hz; omega)
  subst e
  exact .inl ⟨hstop ys H p, by (clear hlt hi; omega), hd ys H p hl⟩
theorem comp_its {x : Str} {g : TG} {tc : TT} {te : TE} {σ0 : St} {H : Hp} {Q : VK} (Pv : Nat -> List V -> Hp -> Prop) (hz : x.cps.size < sizeLine) (h0 : Pv 0 [] H)
  (hs : ∀ i c ys H (N : List V -> Hp -> Prop), x.cps[i]? = some c -> Pv i ys H -> (∀ ys' H2, Pv (i + 1) ys' H2 -> N ys' H2) ->
   g (.str ⟨#[c]⟩) σ0 H fun σ2 H2 => tc σ2 H2 fun b H3 => if b = true then te σ2 H3 fun y H4 => N (ys ++ [y]) H4 else N ys H3)
  (hd : ∀ ys H, Pv x.cps.size ys H -> ys.length <= x.cps.size -> ∀ p, H p = none -> Q (.ref p) (upd H p (.lst ys))) : CompR (Its x) g tc te σ0 Q H := comp_by x.cps.size Pv hz (fun i ys H hi _ => hi) (fun ys H _ => rfl) h0
 (fun i ys H v H' N hi p y hN => by
  obtain ⟨e, c, hc, e2⟩ := y
  subst e e2
  exact hs i c ys _ N hc p hN) hd
theorem comp_itr {lo : Int} {n : Nat} {g : TG} {tc : TT} {te : TE} {σ0 : St} {H : Hp} {Q : VK} (Pv : Nat -> List V -> Hp -> Prop) (hz : n < sizeLine) (h0 : Pv 0 [] H)
  (hs : ∀ i ys H (N : List V -> Hp -> Prop), i < n -> Pv i ys H -> (∀ ys' H2, Pv (i + 1) ys' H2 -> N ys' H2) ->
   g (.int (lo + i)) σ0 H fun σ2 H2 => tc σ2 H2 fun b H3 => if b = true then te σ2 H3 fun y H4 => N (ys ++ [y]) H4 else N ys H3)
  (hd : ∀ ys H, Pv n ys H -> ys.length <= n -> ∀ p, H p = none -> Q (.ref p) (upd H p (.lst ys))) : CompR (Itr lo n) g tc te σ0 Q H := comp_by n Pv hz (fun i ys H hi _ => hi) (fun ys H _ => Nat.le_refl _) h0
 (fun i ys H v H' N hi p y hN => by
  obtain ⟨e, e2⟩ := y
  subst e e2
  exact hs i ys _ N hi p hN) hd
theorem comp_itl {K : PySem.W.Frag} {a : Addr} {xs : List V} {g : TG} {tc : TT} {te : TE} {σ0 : St} {H : Hp} {Q : VK} (Pv : Nat -> List V -> Hp -> Prop) (hz : xs.length < sizeLine) (hl : ∀ i ys H, Pv i ys H -> SqL K H a xs) (h0 : Pv 0 [] H)
  (hs : ∀ i x ys H (N : List V -> Hp -> Prop), xs[i]? = some x -> Pv i ys H -> (∀ ys' H2, Pv (i + 1) ys' H2 -> N ys' H2) ->
   g x σ0 H fun σ2 H2 => tc σ2 H2 fun b H3 => if b = true then te σ2 H3 fun y H4 => N (ys ++ [y]) H4 else N ys H3)
  (hd : ∀ ys H, Pv xs.length ys H -> ys.length <= xs.length -> ∀ p, H p = none -> Q (.ref p) (upd H p (.lst ys))) : CompR (Itl K a) g tc te σ0 Q H := comp_by xs.length Pv hz
 (fun i ys H hi p => ⟨xs, xs[i], hl i ys H p, by simp [hi]⟩) (fun ys H p => ⟨xs, hl _ ys H p, Nat.le_refl _⟩) h0
 (fun i ys H v H' N hi p y hN => by
  obtain ⟨e, y⟩ := y
  subst e
  exact hs i v ys _ N (y xs (hl i ys _ p)) p hN) hd
@[elab_as_elim] theorem us1 {α : Type} {p : List α -> Prop} (h : ∀ a, p [a]) (us : List α) (hl : us.length = 1) : p us := by
 obtain ⟨a, rfl⟩ := List.length_eq_one_iff.mp hl
 exact h a
@[elab_as_elim] theorem us2 {α : Type} {p : List α -> Prop} (h : ∀ a b, p [a, b]) (us : List α) (hl : us.length = 2) : p us := by
 cases us with
 | nil => cases hl
 | cons a r => exact @us1 _ (fun r => p (a :: r)) (fun b => h a b) r (Nat.succ.inj hl)
@[elab_as_elim] theorem us3 {α : Type} {p : List α -> Prop} (h : ∀ a b c, p [a, b, c]) (us : List α) (hl : us.length = 3) : p us := by
 cases us with
 | nil => cases hl
 | cons a r => exact @us2 _ (fun r => p (a :: r)) (fun b c => h a b c) r (Nat.succ.inj hl)
@[elab_as_elim] theorem us4 {α : Type} {p : List α -> Prop} (h : ∀ a b c d, p [a, b, c, d]) (us : List α) (hl : us.length = 4) : p us := by
 cases us with
 | nil => cases hl
 | cons a r => exact @us3 _ (fun r => p (a :: r)) (fun b c d => h a b c d) r (Nat.succ.inj hl)
section
variable {X : Cx}
theorem ps_setC {i : Nat} {x : Str} {pos' spos : Pos} {elt target iter : Expr} {ifs : List Expr} {scope sc0 : Scope} {pos : Pos} {N N0 : List Str} {own : Nat} {caps : List Nat} {wi : TI} {g : TG} {tc : TT} {te t' : TE}
  (hNd : X.N.Nodup) (hxi : X.N[i]? = some x) (hx : Loc X.env.scope x)
  (hcalm : X.calm = true) (hi : PI X target iter wi)
  (hg : ∀ s₀ H₀ ex, PG (cxB X scope N s₀ H₀ ex) target g) (hc : ∀ s₀ H₀ ex, PIfs (cxB X scope N s₀ H₀ ex) ifs tc) (he : ∀ s₀ H₀ ex, PE (cxB X scope N s₀ H₀ ex) elt te) (hk : GKeep own g)
  (hX : X.N = N0) (hsc : X.env.scope = sc0)
  (hcell : ∀ y ∈ scope.names, y.2 ≠ .cell) (hkind : scope.kind = .function) (hnames : ∀ y ∈ scope.names, y.2 = .local -> scope.names.lookup y.1 = some .local)
  (hfree : ∀ y ∈ scope.names, y.2 = .free -> sc0.names.lookup y.1 = some .cell) (hN : N.length = own + caps.length)
  (hcap : ∀ p ∈ caps.zip (N.drop own), N0[p.1]? = some p.2 /\ scope.names.lookup p.2 = some .free)
  (himp : ∀ σ H Q, t' σ H Q -> tComp own caps wi g tc te σ H Q)
  (hs : ∀ x, foldedSetIterable iter X.env x = pure x := by intro _; rfl)
  (hsw : swapsWith (.ListComp elt [⟨target, iter, ifs, 0⟩] scope pos) (some (.Name x pos')) spos.line X.env = pure true := by rfl)
  (hf : X.fn x = true \/ X.env.scope.names.lookup x = some .local := by first | exact .inl rfl | exact .inr rfl | assumption) :
  PS X (.Assign [.Name x pos'] (.ListComp elt [⟨target, iter, ifs, 0⟩] scope pos) spos) (tAsg t' (gName i)) := by
 intro pins s σ H D I h
 rw [exec_Assign_Name_used _ _ _ _ hsw]
 refine wpAny_bind (wpAny_standAt (wpAny_bind ?_))
 show wpAny _ X.A (do let _ <- comprehension (.ListComp elt [⟨target, iter, ifs, 0⟩] scope pos) scope X.env _ (newList []) false (eval iter X.env) (some (assign (.Name x pos') X.env))) _ _ s
 refine wpAny_bind (wpAny_mono (comp_core (use := some (assign (.Name x pos') X.env)) (Qf := fun _ s' => SP X pins D .next s') hcalm hi hg hc he hk hX hsc hcell hkind hnames hfree hN hcap hs I (himp _ _ _ h) ?_) (fun _ s' hq => wpAny_pure (wpAny_pure hq)) fun _ _ e => e)
 intro D' C s' He ys m f hn hI hfp q
 show wpAny _ X.A (assign (.Name x pos') X.env (.ref D')) _ _ s'
 have I1 : Inv X pins σ (upd He D' (.lst ys)) s' := hI s'.heap ⟨rfl, fun _ _ => rfl⟩
 refine wpAny_assign_Name (store_ok2 (v := .ref D') I1 hNd hxi hx rfl (fun s'' I2 ⟨a, hs2, ha⟩ => ?_) hf)
 have hCa : C ≠ a := by
  rcases ha with rfl | ha
  ·exact hfp.2.1
  ·exact fun z => hfp.2.2.2.2.1 _ _ ha z.symm
 refine ⟨m, hn.sameBut hs2 hCa, fun h' hsb => ⟨_, _, I2.turnedL (fp := [C]) (t' := s''.toks) (fun b o hb e => (hsb.2 b (fun z => hb (by rw [z]; exact List.mem_singleton.mpr rfl))).trans e) (fun b hb => ?_), q⟩⟩
 rw [List.mem_singleton.mp hb]
 exact hfp
end
section
variable {X : Cx}
end
section
variable {X : Cx}
end
section
variable {X : Cx}
end
section
variable {X : Cx} {CX : CXT} {k : Nat} {f C : Addr} {fd : FuncData} {ps : List Str} {ds : List Value} {dvs : List V} {sp : Sp} {m : Str} {pos apos : Pos} {e o : Expr} {es : List Expr} {ta : TE} {t : TA} {E : St -> XK}
end
section
variable {X : Cx} {pins : List (Addr × Obj)} {σ : St} {H : Hp} {s : Shared} {a : Addr}
end
section
variable {X : Cx}
end
section
variable {X : Cx}
end
noncomputable def Izl (a b : Addr) : It := ⟨fun i H => ∃ xs ys x y, H a = some (.lst xs) /\ H b = some (.lst ys) /\ xs[i]? = some x /\ ys[i]? = some y,
 fun i H v H' => ∃ T x y, H T = none /\ (∀ xs, H a = some (.lst xs) -> xs[i]? = some x) /\ (∀ ys, H b = some (.lst ys) -> ys[i]? = some y) /\ v = .ref T /\ H' = upd H T (.tup [x, y]),
 fun i H => ∃ xs ys, H a = some (.lst xs) /\ H b = some (.lst ys) /\ i = min xs.length ys.length⟩
theorem zap {H : Hp} {a b z TI TO i1 i2 : Addr} {xs ys : List V} (ha : H a = some (.lst xs)) (hb : H b = some (.lst ys)) (hf : ∀ c ∈ [z, TI, TO, i1, i2], H c = none) (hd : [z, TI, TO, i1, i2].Nodup) : ZipApart z TI TO i1 i2 a b := by
 have f : ∀ c ∈ [z, TI, TO, i1, i2], a ≠ c /\ b ≠ c := fun c hc => ⟨fun e => (by rw [e, hf c hc] at ha; cases ha), fun e => (by rw [e, hf c hc] at hb; cases hb)⟩
 simp at hd f
 obtain ⟨⟨d1, d2, d3, d4⟩, ⟨d5, d6, d7⟩, ⟨d8, d9⟩, d10⟩ := hd
 obtain ⟨⟨f1, g1⟩, ⟨f2, g2⟩, ⟨f3, g3⟩, ⟨f4, g4⟩, f5, g5⟩ := f
 exact ⟨Ne.symm d1, Ne.symm d2, Ne.symm d3, Ne.symm d4, d5, d6, d7, d8, d9, d10, f1, f3, f4, f5, g1, g3, g4, g5⟩
theorem turn_zip {P : Program} {w : World} {K : PySem.W.Frag} {elts : List Expr} {k : Nat} {pos : Pos} (a b z TI TO i1 i2 : Addr) (hd : [z, TI, TO, i1, i2].Nodup) :
  Turn P w K (.Tuple elts k pos) (Izl a b) [z, TI, TO, i1, i2] z (fun i h => IsZip h z TI TO .none /\ IsPair h TI (.ref i1) (.ref i2) /\ (∃ a b, IsPair h TO a b) /\ h.IsListIter i1 a i /\ h.IsListIter i2 b i) where
 mem := by simp
 obj := fun i h st c hc => by
  obtain ⟨hz, hTI, ⟨u, v, hTO⟩, ⟨o1, ho1, c1, d1⟩, o2, ho2, c2, d2⟩ := st
  simp at hc
  rcases hc with rfl | rfl | rfl | rfl | rfl
  ·exact ⟨_, hz, fun v z => nomatch z⟩
  ·exact ⟨_, hTI, fun v z => nomatch z⟩
  ·exact ⟨_, hTO, fun v z => nomatch z⟩
  ·exact ⟨o1, ho1, fun v z => by rw [d1] at z; cases z⟩
  ·exact ⟨o2, ho2, fun v z => by rw [d2] at z; cases z⟩
 keep := fun i h h' st kk => by
  obtain ⟨hz, hTI, ⟨u, v, hTO⟩, h1, h2⟩ := st
  exact ⟨kk z (by simp) _ hz, kk TI (by simp) _ hTI, ⟨u, v, kk TO (by simp) _ hTO⟩, h1.at fun o e => kk i1 (by simp) o e, h2.at fun o e => kk i2 (by simp) o e⟩
 item := by
  intro X hP hw hK hc i pins s σ H E I hf st hg
  subst hP hw hK
  obtain ⟨xs, ys, x, y, hA, hB, hx, hy⟩ := hg
  obtain ⟨its, rv, p, hz⟩ := I.list (SqL.of hA)
  obtain ⟨its2, rv2, p2, hz2⟩ := I.list (SqL.of hB)
  obtain ⟨u, hu, ru⟩ := rv.get hx
  obtain ⟨u2, hu2, ru2⟩ := rv2.get hy
  have hap := zap hA hB (fun c hc => (hf c hc).1) hd
  have hil : i < min its.toArray.size its2.toArray.size := by
   have h1 := (List.getElem?_eq_some_iff.mp hu).1
   have h2 := (List.getElem?_eq_some_iff.mp hu2).1
   simp
   omega
  have W := WalksT.zip2 (prog := X.prog) (w := X.w) (A := X.A) (I.ok.hd hc) z TI TO i1 i2 a b hap its.toArray its2.toArray
  refine W.item i s _ _ hil ⟨st.1, st.2.1, st.2.2.1, st.2.2.2.1, st.2.2.2.2, p.isList, p2.isList⟩ fun T vals h' tk hv hT ht mid kk => ⟨_, rfl, ?_⟩
  obtain ⟨q, q2, hq, hq2, rfl⟩ := hv
  have e1 : q = u := by
   have h1 : its[i]? = some q := by simpa using hq
   rw [hu] at h1
   exact (Option.some.inj h1).symm
  have e2 : q2 = u2 := by
   have h1 : its2[i]? = some q2 := by simpa using hq2
   rw [hu2] at h1
   exact (Option.some.inj h1).symm
  subst e1 e2
  refine W.go elts k pos i T _ _ _ mid fun h'' st'' kk2 => ?_
  have sub : ∀ c, c ∉ [z, TI, TO, i1, i2] -> c ∉ [z, TO, i1, i2] := fun c hc hm => hc (by simp at hm ⊢; rcases hm with r | r | r | r <;> simp [r])
  have keep : ∀ c o, c ∉ [z, TI, TO, i1, i2] -> s.heap.get? c = some o -> h''.get? c = some o := fun c o hc q => kk2 c o (sub c hc) (kk c o (sub c hc) q)
  have I1 : Inv X pins σ H { s with heap := h'', toks := tk } := I.turnedL keep hf
  have hn : H T = none := I.hok.fresh hT
  have hTn : T ∉ [z, TO, i1, i2] := W.apart i T h' mid
  have hTI : T ≠ TI := fun e => by
   have := Heap.lt_size st.2.1
   rw [<- e] at this
   exact absurd (Nat.lt_of_lt_of_le this hT) (Nat.lt_irrefl _)
  obtain ⟨ot, hot, hct, n, hdt⟩ := ht
  have I2 : Inv X pins σ (upd H T (.tup [x, y])) { s with heap := h'', toks := tk } := by
   refine I1.track (.inl (Heap.get?_none_of_le (Nat.le_trans I.sz hT))) hn (Nat.ne_of_gt (Nat.lt_of_lt_of_le I.lt hT)) (fun y c' q z => ?_) (fun p hp z => ?_) ?_
   ·obtain ⟨v, q'⟩ := I.cell y c' q
    exact absurd (Nat.lt_of_lt_of_le q'.lt (by rw [z]; exact hT)) (Nat.lt_irrefl _)
   ·exact absurd (Nat.lt_of_lt_of_le (Heap.lt_size (I.pin p hp).1) (by rw [z]; exact hT)) (Nat.lt_irrefl _)
   ·exact ⟨by show 2 <= sizeLine; decide, [q, q2], .cons ru (.cons ru2 .nil), ot, kk2 T ot hTn hot, hct, n, hdt⟩
  refine ⟨.ref T, _, I2, rfl, ⟨T, x, y, hn, (fun zs hy' => ?_), (fun zs hy' => ?_), rfl, rfl⟩, ⟨st''.1, st''.2.1, st''.2.2.1, st''.2.2.2.1, st''.2.2.2.2.1⟩, fun b hb => ?_⟩
  ·rw [hA] at hy'
   cases hy'
   exact hx
  ·rw [hB] at hy'
   cases hy'
   exact hy
  ·have hbT : b ≠ T := fun e => by
    subst e
    simp at hb hTn
    rcases hb with r | r | r | r | r
    ·exact hTn.1 r
    ·exact hTI r
    ·exact hTn.2.1 r
    ·exact hTn.2.2.1 r
    ·exact hTn.2.2.2 r
   rw [upd_ne hbT]
   exact (hf b hb).1
 done := by
  intro X hP hw hK hc i pins s σ H E I hf st hg
  subst hP hw hK
  obtain ⟨xs, ys, hA, hB, hx⟩ := hg
  obtain ⟨its, rv, p, hz⟩ := I.list (SqL.of hA)
  obtain ⟨its2, rv2, p2, hz2⟩ := I.list (SqL.of hB)
  have hl := rv.length
  have hl2 := rv2.length
  have hap := zap hA hB (fun c hc => (hf c hc).1) hd
  have W := WalksT.zip2 (prog := X.prog) (w := X.w) (A := X.A) (I.ok.hd hc) z TI TO i1 i2 a b hap its.toArray its2.toArray
  have hi : i = min its.toArray.size its2.toArray.size := by rw [hx, hl, hl2]; simp
  subst hi
  have sub : ∀ c, c ∉ [z, TI, TO, i1, i2] -> c ∉ [z, TO, i1, i2] := fun c hc hm => hc (by simp at hm ⊢; rcases hm with r | r | r | r <;> simp [r])
  exact W.done s _ _ ⟨st.1, st.2.1, st.2.2.1, st.2.2.2.1, st.2.2.2.2, p.isList, p2.isList⟩ fun h' tk kk => ⟨rfl, I.turnedL (fun c o hc q => kk c o (sub c hc) q) hf⟩
 self := fun A i s Q E st h => wpAny_pyIter_zip st.1 h
noncomputable def iZip (ta : TA) : TI := fun σ H R => ta σ H fun vs H1 => ∃ (a b : Addr) (xs ys : List V), vs = [.ref a, .ref b] /\ H1 a = some (.lst xs) /\ H1 b = some (.lst ys) /\ R (Izl a b) H1
section
variable {X : Cx}
theorem b_zipT : bootBuiltins "zip" = some (.type "zip") := by decide +kernel
theorem pi_zip {elts : List Expr} {k : Nat} {tpos p pos : Pos} {a b : Expr} {ta : TA} (hg : Gl X "zip") (hm : X.mg "zip" = none) (ha : PA X [a, b] ta) (hs : starEach [a, b] X.env = (false, eval a X.env) :: starEach [b] X.env := by rfl) (hs2 : (backTo pos (starEach [b] X.env)).any (·.1) = false := by rfl) :
  PI X (.Tuple elts k tpos) (.Call (.Name "zip" p) [a, b] [] pos) (iZip ta) := by
 intro pins s σ H R I h
 refine Call_ (ld_blt I hg hm b_zipT (PyProof.Rows.callWith_type1 (thn (ha pos pins s σ H _ I h) fun us s1 ⟨vs, H1, I1, r1, q1⟩ => ?_) hs hs2))
 obtain ⟨l1, l2, xs, ys, e, hA, hB, q⟩ := q1
 subst e
 obtain ⟨u1, u2, rfl, ru1, ru2⟩ := r1.two
 cases ru1
 cases ru2
 obtain ⟨its, rv, pl, hz⟩ := I1.list (SqL.of hA)
 obtain ⟨its2, rv2, pl2, hz2⟩ := I1.list (SqL.of hB)
 refine call_zip_2 pl.isList pl2.isList fun h' hz' hTI hTO h1 h2 hsz hk => ?_
 refine wpAny_pyIter_zip hz' ?_
 refine ⟨s1.heap.objs.size + 4, [s1.heap.objs.size + 4, s1.heap.objs.size + 2, s1.heap.objs.size + 3, s1.heap.objs.size, s1.heap.objs.size + 1], _, _, H1, rfl, I1.kept (t' := s1.toks) hk, turn_zip l1 l2 _ _ _ _ _ (by simp), ⟨hz', hTI, ⟨_, _, hTO⟩, h1, h2⟩, fun b hb => ?_, q⟩
 simp at hb
 have hge : s1.heap.objs.size <= b := by
  rcases hb with r | r | r | r | r <;> rw [r] <;> first | exact Nat.le_refl _ | exact Nat.le_add_right _ _
 exact I1.fpOk hge (I1.hok.fresh hge)
end
theorem for_izl {a b : Addr} {xs ys : List V} {g : TG} {tb : TS} {D : Ends} {σ : St} {H : Hp} (Pv : Nat -> St -> Hp -> Prop) (he : xs.length = ys.length) (h0 : Pv 0 σ H) (hl : ∀ i σ H, i <= xs.length -> Pv i σ H -> H a = some (.lst xs) /\ H b = some (.lst ys))
  (hs : ∀ i x y σ H T, xs[i]? = some x -> ys[i]? = some y -> Pv i σ H -> H T = none -> g (.ref T) σ (upd H T (.tup [x, y])) fun σ2 H2 => tb { D with nx := Pv (i + 1), ct := Pv (i + 1), bk := D.nx } σ2 H2) (hd : ∀ σ H, Pv xs.length σ H -> D.nx σ H) :
  ∃ W : Nat -> Nat -> St -> Hp -> Prop, (∃ m, W 0 m σ H) /\ ∀ i m σ H, W i m σ H ->
   ((Izl a b).stop i H /\ D.nx σ H) \/ ((Izl a b).go i H /\ ∃ N : St -> Hp -> Prop, (∀ σ' H', N σ' H' -> ∃ m', m' < m /\ W (i + 1) m' σ' H') /\ ∀ x H', (Izl a b).yld i H x H' -> g x σ H' fun σ2 H2 => tb { D with nx := N, ct := N, bk := D.nx } σ2 H2) := by
 refine ⟨fun i m σ H => m = xs.length - i /\ i <= xs.length /\ Pv i σ H, ⟨xs.length, by simp, Nat.zero_le _, h0⟩, ?_⟩
 rintro i m σ H ⟨rfl, hi, p⟩
 have q := hl i σ H hi p
 by_cases hlt : i < xs.length
 ·refine .inr ⟨⟨xs, ys, xs[i], ys[i]'(by omega), q.1, q.2, by simp [hlt], by simp [show i < ys.length by omega]⟩, Pv (i + 1), fun σ' H' p' => ⟨xs.length - (i + 1), by omega, rfl, hlt, p'⟩, fun x H' y => ?_⟩
  obtain ⟨T, z, z2, hT, hz, hz2, rfl, rfl⟩ := y
  exact hs i z z2 σ H T (hz xs q.1) (hz2 ys q.2) p hT
 ·have e : i = xs.length := by omega
  subst e
  exact .inl ⟨⟨xs, ys, q.1, q.2, by omega⟩, hd σ H p⟩
section
variable {X : Cx}
theorem natsAre_get : ∀ {ns : List Nat} {us : List Value}, Vals (ns.map fun (n : Nat) => V.int (n : Int)) us -> ∀ (i : Nat) (v : Value), us[i]? = some v -> ∃ n t, ns[i]? = some n /\ v = .int (n : Int) t
 | [], _, .nil, i, v, h => by simp at h
 | b :: bs, _, .cons r t, 0, v, h => by
  obtain ⟨k, r'⟩ := (show ∃ k, _ = Value.int (b : Int) k from r)
  subst r'
  simp at h
  exact ⟨b, k, by simp, h.symm⟩
 | b :: bs, _, .cons r t, i + 1, v, h => by
  obtain ⟨c, k, e1, e2⟩ := natsAre_get t i v (by simpa using h)
  exact ⟨c, k, by simpa using e1, e2⟩
theorem preSum_take (ns : List Nat) : ∀ k, k <= ns.length -> preSum (fun i => (((ns[i]?).getD 0 : Nat) : Int)) k = ((ns.take k).sum : Nat)
 | 0, _ => rfl
 | k + 1, h => by
  show preSum _ k + (((ns[k]?).getD 0 : Nat) : Int) = _
  rw [preSum_take ns k (by omega), List.take_add_one, List.sum_append, List.getElem?_eq_getElem (show k < ns.length by omega)]
  simp
theorem sum_take_le (ns : List Nat) (k : Nat) : (ns.take k).sum <= ns.sum := by
 have := congrArg List.sum (List.take_append_drop k ns)
 rw [List.sum_append] at this
 omega
theorem mem_sum_le : ∀ {ns : List Nat} {n : Nat}, n ∈ ns -> n <= ns.sum
 | m :: r, n, h => by
  rw [List.sum_cons]
  rcases List.mem_cons.mp h with e | e
  ·omega
  ·have := mem_sum_le e
   omega
theorem call_sumN (hc : X.calm = true) : CallR X (.builtin "sum") (fun xs H Q => ∃ (p : Addr) (ns : List Nat), xs = [.ref p] /\ SqL X.K H p (ns.map fun (n : Nat) => V.int (n : Int)) /\ ns.sum <= 1000000 /\ Q (.int ((ns.sum : Nat) : Int)) H) := by
 intro pins s σ H xs us Q I r h
 obtain ⟨p, ns, rfl, hq, hS, q⟩ := h
 obtain ⟨u, rfl, rx⟩ := vals1 r
 cases rx
 obtain ⟨its, rv, pl, hz⟩ := I.list hq
 have hl := pl.isList
 have hlen := rv.length
 rw [List.length_map] at hlen
 have hlt : p < s.heap.objs.size := by obtain ⟨_, e, _⟩ := hl; exact Heap.lt_size e
 refine call_sum_walk (wpAny_pyIter_list hl ?_)
 refine ⟨s.heap.objs.size, [s.heap.objs.size, p], [s.heap.objs.size], its.toArray.size, _, _, fun i => (((ns[i]?).getD 0 : Nat) : Int), rfl, Walks.list (A := X.A.in1) (I.ok.hd hc) _ p (Nat.ne_of_lt hlt) its.toArray,
  ⟨⟨_, Heap.get?_push_size _ rfl, rfl, rfl⟩, hl.push _⟩, fun b hb => ?_, fun i v hP => ?_, fun j hj => ?_, fun h' tk t' hk => ?_⟩
 ·have e : ∀ o, (s.heap.push o).objs.size = s.heap.objs.size + 1 := fun o => by show (s.heap.objs.push o).size = _; simp
  show b < (s.heap.push _).objs.size
  rw [e]
  rcases List.mem_cons.mp hb with z | z
  ·rw [z]; exact Nat.lt_succ_self _
  ·rw [List.mem_singleton.mp z]; exact Nat.lt_succ_of_lt hlt
 ·obtain ⟨n, t, e, rfl⟩ := natsAre_get rv i v (by simpa using hP)
  refine ⟨t, ?_⟩
  show Value.int (n : Int) t = Value.int (((ns[i]?).getD 0 : Nat) : Int) t
  rw [e]
  rfl
 ·have hj' : j < ns.length := by rw [List.size_toArray] at hj; omega
  refine ⟨?_, ?_⟩
  ·show InLong (((ns[j]?).getD 0 : Nat) : Int)
   rw [List.getElem?_eq_getElem hj', Option.getD_some]
   have := mem_sum_le (List.getElem_mem hj')
   exact ⟨by omega, by omega⟩
  ·rw [preSum_take ns (j + 1) (by omega)]
   have := sum_take_le ns (j + 1)
   exact ⟨by omega, by omega⟩
 ·rw [List.size_toArray, <- hlen, preSum_take ns _ (Nat.le_refl _), List.take_of_length_le (Nat.le_refl _)]
  exact ⟨.int _, H, I.kept (LSm.kept_iter hk), ⟨t', rfl⟩, q⟩
end
section
variable {X : Cx}
end
section
variable {X : Cx} {o e : Expr} {es : List Expr} {to : TE} {t : TA} {name : Str} {apos cpos : Pos} {T id : String} {r : V -> List V -> Hp -> VK -> Prop}
end
end L2
namespace Gn
open PySem L2 PyProof.Rows PySem.Spec
end Gn
namespace L2
open PySem PySem.Spec PyProof.Rows
section
variable {X : Cx}
end
structure KD (P : Program) (w : World) (K : PySem.W.Frag) (d : Addr) (kvs : List (Key × V)) : Prop where
 ns : (d == sysModules) = false
 at_ : ∀ h : Heap, K.In h -> ∃ vs, KV kvs vs /\ h.DictOf (mixKind P w) d vs
noncomputable def tDGetK (kvs : List (Key × V)) (ty : TE) : TE := fun σ H Q => ty σ H fun y H2 => ∃ k, y = kV k /\ Q ((valV kvs k).getD .non) H2
section
variable {X : Cx} {x : Str} {d : Addr} {kvs : List (Key × V)} {e : Expr} {p apos cpos : Pos} {ty : TE}
theorem pe_dgetK (hg : Gl X x) (hm : X.mg x = some (.ref d)) (D : KD X.prog X.w X.K d kvs) (he : PE X e ty) (m : M1 X (.Name x p) "get" apos e cpos) (hdb : (x == ("__debug__" : Str)) = false := by decide) :
  PE X (.Call (.Attribute (.Name x p) "get" apos) [e] [] cpos) (tDGetK kvs ty) := by
 intro pins s σ H Q I h
 refine wpAny_Call_method m.base m.few m.line PySem.F.plainAttrs_dict PySem.F.slot_dict_get PySem.F.type_dict_get (ld_glob I hg hm ?_ hdb)
 obtain ⟨vs, rel, dd⟩ := D.at_ s.heap I.kIn
 refine ⟨dd.typeIs, fun b q => ?_, ?_⟩
 ·cases q
  obtain ⟨ob, _, _, h1, h2, _⟩ := dd
  exact ⟨ob, h1, h2.2.1⟩
 rw [m.trees]
 refine Calls.callWith_builtin rfl (Calls.evalArgs_plain (Calls.spliced_cons (thn (he pins s σ H _ I h) fun iv s2 ⟨y, H2, I2, ry, k, ey, q2⟩ => Calls.spliced_nil ?_)))
 subst ey
 obtain ⟨vs2, rel2, dd2⟩ := D.at_ s2.heap I2.kIn
 refine call_meetsIn PySem.F.slot_dict_get dd2.typeIs PySem.F.entry_dict_get (PySem.F.args_dict_get_2 _ _) (meets_dict_get (mixKind X.prog X.w) d (kV_is ry) D.ns) ⟨_, dd2.mapOf, ⟨_, H2, I2.tok _, ?_, q2⟩⟩
 exact (rel2.val k).getD rfl
end
section
variable {X : Cx} {CX : CXT} {k : Nat} {ι : Type} {C f : ι -> Addr} {fd : ι -> FuncData} {ps : ι -> List Str} {sp : ι -> Sp} {E : XK} {m : Str} {pos apos : Pos} {e o : Expr} {es : List Expr} {ta : TE} {t : TA}
noncomputable def tMethP (C : ι -> Addr) (m : Str) (sp : ι -> Sp) (E : XK) (ta : TE) (t : TA) : TE := fun σ H Q => ta σ H fun x H1 => ∃ i a dx fs, x = .ref a /\ H1 a = some (.ins (C i) dx fs) /\ fs.lookup m = none /\
 t σ H1 fun vs H2 => sp i (x :: vs) H2 Q E
theorem pe_methP0 {pl : Sem Bool} (he : PE X o ta) (c : ∀ i, Cls X.K (C i)) (hm : ∀ i, Meth X.K (C i) m (f i)) (F : ∀ i, FnOk X.prog X.w X.K X.mg X.base CX k (f i) (fd i) (ps i) (sp i)) (hr : Room k X.A) (hb : ∀ i, Binds X.K (fd i) (ps i) [])
  (hx : Passes CX X E)
  (ht : eval (.Call (.Attribute o m apos) [] [] pos) X.env = (do
   let ov <- eval o X.env
   standAt apos.atName
   let (f, first) <- holding [ov] (getMethod ov m pl)
   callWith pos f first (backTo pos (starEach [] X.env)) (backToKw pos (keywordEach [] X.env))) := by rfl) :
  PE X (.Call (.Attribute o m apos) [] [] pos) (tMethP C m sp E ta tNil) := by
 intro pins s σ H Q I h
 refine PySem.W.methodCall_KW (pl := pl) (thn (he pins s σ H _ I h) fun u s1 ⟨x, H1, I1, rx, i, a, dx, fs, ex, ea, l, q⟩ => ?_) ht
 subst ex
 obtain rfl : u = Value.ref a := rx
 refine getmeth_ok I1 ea (c i) (hm i) l ?_
 exact PySem.W.callWith_K0 (first := [.ref a]) I1.kIn (hm i).kp (run_fn (us := [.ref a]) (vs := [.ref a]) (dvs := []) (F i) hr (hb i) .nil hx I1 (.cons rfl .nil) q)
end
section
variable {X : Cx}
structure IsC (K : PySem.W.Frag) (C : Addr) : Prop where
 cl : Cls K C
 ha : PySem.W.findIn K (.ref C) "__class__" = some (some (.builtin "object.__class__"))
 hn : PySem.W.specialIn K (.builtin "object.__class__") "__get__" = some (some (.builtin "getset_descriptor.__get__"))
 htk : PySem.W.takesIn K (.builtin "object.__class__") = some true
 hm : PySem.W.mroIn K C (.type "object") = some true
theorem IsC.ty {K : PySem.W.Frag} {C : Addr} (c : IsC K C) {H : Hp} {a dx : Addr} {fs : List (Str × V)} (e : H a = some (.ins C dx fs)) : TyOf K H (.ref a) (.ref C) := .ins e c.cl c.ha c.hn c.htk c.hm
theorem call_isiT : CallR X (.builtin "isinstance") (fun xs H Q => ∃ (a C dx : Addr) (fs : List (Str × V)) (p : Addr) (Cs : List Addr) (b : Bool), xs = [.ref a, .ref p] /\ H a = some (.ins C dx fs) /\ IsC X.K C /\ H p = some (.tup (Cs.map V.ref)) /\ PySem.W.kitAny X.K (.ref C) (Cs.map Value.ref) = some b /\ Q (.bl b) H) := by
 intro pins s σ H xs us Q I r h
 obtain ⟨a, C, dx, fs, p, Cs, b, rfl, ea, T, hp, e, q⟩ := h
 obtain ⟨u, w', rfl, rx, rc⟩ := vals2 r
 cases rx
 cases rc
 obtain ⟨mA, O, _⟩ := ins_get I.hok ea
 obtain ⟨od, J, _⟩ := O.look
 obtain ⟨_, its, rv, o, ho, hcl, n, hd⟩ := (show ObjOk X.prog X.w H s.heap p (.tup (Cs.map V.ref)) from I.hok p _ hp)
 have ei : its = Cs.map Value.ref := vals_refs rv
 obtain ⟨cls, dd, data, sl⟩ := o
 have hcl' : cls = .type "tuple" := hcl
 have hd' : data = .seq its.toArray n := hd
 subst hcl' hd'
 exact PySem.W.kia_tup (PySem.W.kitx_own (T.cl.get _) T.cl.hd T.ha T.hn T.htk T.hm) I.kIn J ho (by rw [ei]; exact e) (fun z => nomatch z) fun tk => ⟨.bl b, H, I.tok tk, rfl, q⟩
end
end L2
namespace PySem
section
variable {M : Model} {A : Around} {E : Value -> Shared -> Prop} {s : Shared}
theorem noteFrame_frame {e : Value} {env env' : Env} (h : env.frame = env'.frame) : noteFrame e env = noteFrame e env' := by
 unfold noteFrame frameOf
 rw [h]
theorem note_any {base : Heap} {env : Env} {outer : List Env} {L e : Addr} {cls a0 fl : Value} {Q : Unit -> Shared -> Prop} (hfr : A.frames = some (env :: outer)) (hl : s.heap.FunFrames base (env :: outer)) (hf : env.frame = some L)
  (ht : s.heap.TracedAtW base e cls a0 fl) (hkb : base.StaysIn s.heap) (hen : base.get? e = none) (h : ∀ h', Heap.HeldW base (env :: outer) e cls a0 L h' -> s.heap.UpToSlots h' -> Q () { s with heap := h' }) :
  wpAny M A (noteFrame (.ref e) env) Q E s := by
 by_cases q : fl = rawInt L
 ·subst q
  exact wpAny_noteFrame_againW hf ht (h s.heap ⟨hkb, hen, hl, ht⟩ fun b o hb _ => ⟨o.slots, hb⟩)
 ·obtain ⟨oe, vs, T, oT, ts, he, ⟨hcls, h0⟩, hd, h1, hnT, hTe, hT, hdT, h3⟩ := ht
  subst hcls
  unfold noteFrame
  simp only [hf]
  refine wpAny_bind (wpAny_field he hd h1 ?_)
  rw [if_pos (show (Value.ref T != Value.none) = true from rfl)]
  refine wpAny_bind (wpAny_field hT hdT h3 ?_)
  rw [if_neg (fun z => q (by simpa using z))]
  refine wpAny_bind (wpAny_setField hT hdT (Array.getElem?_eq_some_iff.mp h3).1 ?_)
  have ot : ∀ b, b ≠ T -> (s.heap.update T (Obj.mapFields (·.setIfInBounds 3 Value.none))).get? b = s.heap.get? b := fun b hb => Heap.get?_update_other _ _ (Ne.symm hb)
  have nr : ∀ b o, s.heap.get? b = some o -> (∀ vs, o.data ≠ .fields vs) -> b ≠ T := fun b o hb nf z => by
   rw [z, hT] at hb
   cases hb
   exact nf ts hdT
  exact wpAny_entryW hfr (hl.of_keeps fun b o hb nf => ⟨o, (ot b (nr b o hb nf)).trans hb, rfl⟩) hf ((ot e (Ne.symm hTe)).trans he) (fun b o hb => (ot b fun z => by rw [z, hnT] at hb; cases hb).trans (hkb b o hb)) hen hd
   (Array.getElem?_eq_some_iff.mp h1).1 h0 fun h' ⟨x1, x2, x3, x4⟩ => h h' ⟨x1, hen, x2, x3⟩ fun b o hb nf => x4 b o ((ot b (nr b o hb nf)).trans hb) nf
end
end PySem
namespace L2
open PySem PySem.Spec PyProof.Rows
noncomputable def RaisesT (X : Cx) (E : XK) : Prop := ∀ (pins : List (Addr × Obj)) (σ : St) (H : Hp) (s : Shared) (ea T : Addr) (oe oT : Obj) (vs ts : Array Value) (a0 fl : Value), Inv X pins σ H s -> s.heap.get? ea = some oe -> oe.data = .fields vs -> vs[0]? = some a0 ->
 vs[1]? = some (.ref T) -> T ≠ ea -> s.heap.get? T = some oT -> oT.data = .fields ts -> ts[3]? = some fl -> H ea = none -> H T = none -> X.s₀.heap.get? ea = none -> X.s₀.heap.get? T = none -> E oe.cls none H -> X.xe (.ref ea) s
section
variable {P : Program} {w : World} {K : PySem.W.Frag} {mg : Str -> Option Value} {base : Heap} {N : List Str} {qual : Str} {scope : Scope} {f : Addr} {cdv : Value} {A : Around} {outer : List Env} {s₀ : Shared} {H₀ : Hp} {E : XK}
theorem raise_heldT : RaisesT (cxOf (CX1 P w) P w K mg base N qual scope f cdv A outer s₀ H₀ E) E := by
 intro pins σ H s ea T oe oT vs ts a0 fl I he hd h0 h1 hTe hT hdT h3 nE nT sE sT hE
 generalize hB : PySem.W.hideAll s.heap (ea :: T :: frs (cxOf (CX1 P w) P w K mg base N qual scope f cdv A outer s₀ H₀ E).stack) = B
 have ff : s.heap.FunFrames B (cxOf (CX1 P w) P w K mg base N qual scope f cdv A outer s₀ H₀ E).stack := by
  rw [<- hB]
  exact PySem.W.funFrames_hide I.stack fun env he b hb => .tail _ (.tail _ (List.mem_filterMap.mpr ⟨env, he, hb⟩))
 have st : B.StaysIn s.heap := fun b o q => by rw [<- hB] at q; exact PySem.W.of_hideAll _ q
 have bn : B.get? ea = none := by rw [<- hB]; exact PySem.W.hideAll_none _ (.head _)
 have tn : B.get? T = none := by rw [<- hB]; exact PySem.W.hideAll_none _ (.tail _ (.head _))
 have inB : ∀ {b : Addr} {o : Obj}, s.heap.get? b = some o -> b ≠ ea -> b ≠ T -> b ∉ frs (cxOf (CX1 P w) P w K mg base N qual scope f cdv A outer s₀ H₀ E).stack -> B.get? b = some o := fun {b o} e z1 z2 z3 => by
  rw [<- hB]
  refine PySem.W.hideAll_get _ e fun z => ?_
  rcases List.mem_cons.mp z with q | q
  ·exact z1 q
  rcases List.mem_cons.mp q with q | q
  ·exact z2 q
  ·exact z3 q
 have hL : ∀ {b : Addr} {o : Obj}, s₀.heap.get? b = some o -> b ∉ frs outer -> b ∉ frs (cxOf (CX1 P w) P w K mg base N qual scope f cdv A outer s₀ H₀ E).stack := fun {b o} e hb z => by
  rcases List.mem_cons.mp (I.stkSub b z) with q | q
  ·have h1 := Heap.lt_size e
   have h2 : s₀.heap.objs.size <= (cxOf (CX1 P w) P w K mg base N qual scope f cdv A outer s₀ H₀ E).env.locals := I.ok.above
   rw [q] at h1
   exact Nat.lt_irrefl _ (Nat.lt_of_lt_of_le h1 h2)
  ·exact hb q
 have n0 : ∀ {b : Addr} {o : Obj}, s₀.heap.get? b = some o -> b ≠ ea /\ b ≠ T := fun {b o} e =>
  ⟨fun z => by rw [z] at e; exact absurd (e.symm.trans sE) (by simp), fun z => by rw [z] at e; exact absurd (e.symm.trans sT) (by simp)⟩
 have u0 : Un (frs outer) [] H₀ H s₀.heap s.heap := I.base
 have k1 : ∀ b o, s₀.heap.get? b = some o -> H₀ b = none -> b ∉ frs outer -> B.get? b = some o := fun b o e n hb => inB (u0.keep b o e n hb (by simp)) (n0 e).1 (n0 e).2 (hL e hb)
 have k3 : ∀ b o, s₀.heap.get? b = some o -> b ∉ frs outer -> ∃ o', B.get? b = some o' := fun b o e hb => by
  obtain ⟨o', e'⟩ := u0.there b o e (by simp)
  exact ⟨o', inB e' (n0 e).1 (n0 e).2 (hL e hb)⟩
 have k2 : ∀ b u, H b = some u -> ∃ o, B.get? b = some o := fun b u e => by
  obtain ⟨o, eo⟩ := (I.hok b u e).at
  exact ⟨o, inB eo (fun z => by rw [z, nE] at e; cases e) (fun z => by rw [z, nT] at e; cases e) fun z => by rw [I.stkFree b z] at e; cases e⟩
 show wpAny (model P w) (A.deeper (envOfC qual scope s₀.heap.objs.size f cdv)) (leaving (envOfC qual scope s₀.heap.objs.size f cdv) (.ref ea)) _ _ _
 unfold leaving
 refine wpAny_bind (note_any I.ok.frames ff rfl ⟨oe, vs, T, oT, ts, he, ⟨rfl, h0⟩, hd, h1, tn, hTe, hT, hdT, h3⟩ st bn fun h4 held up4 => ?_)
 refine wpAny_landsW held fun h5 fl5 up5 => ?_
 obtain ⟨c1, c2, ⟨_, _, c3⟩, c4⟩ := fl5
 exact ⟨ea, oe.cls, a0, B, H, rfl, I.os, I.bare, un_fly rfl u0 k1 k3 I.funs c1 (up4.trans up5), hok_fly I.hok k2 st c1, ⟨c1, c2, c3, c4⟩, k1, k3, k2, hE⟩
end
section
variable {X : Cx} {E : XK}
theorem comp_endT {scope : Scope} {N : List Str} {pins pl : List (Addr × Obj)} {σ σ' : St} {H2 He : Hp} {s2 s1 : Shared} {hp h' : Heap} {fp : List Addr} {lo : Obj}
  (I2 : Inv X pins σ H2 s2) (f2 : ∀ b ∈ fp, FpOk X pins H2 b) (ehp : hp = s2.heap.push lo) (J : Inv (cxB X scope N { s2 with heap := hp } H2 (s2.heap.objs.size :: fp)) pl σ' He s1)
  (hsb : Heap.SameBut hp.objs.size s1.heap h') : Inv X pins σ He { s1 with heap := h' } := by
 have hC : hp.objs.size = s2.heap.objs.size + 1 := by rw [ehp, Heap.size_push]
 have below : ∀ {b : Addr} {o : Obj}, s2.heap.get? b = some o -> b ≠ hp.objs.size /\ b ≠ s2.heap.objs.size := fun {b o} e => by
  have q := Heap.lt_size e
  exact ⟨by rw [hC]; exact Nat.ne_of_lt (Nat.lt_succ_of_lt q), Nat.ne_of_lt q⟩
 have up : ∀ {b : Addr} {o : Obj}, s2.heap.get? b = some o -> hp.get? b = some o := fun e => by rw [ehp]; exact Heap.get?_push_of_some _ e
 have un : Un (frs X.stack) (s2.heap.objs.size :: fp) H2 He hp s1.heap := J.base
 have nD : ∀ {b : Addr} {o : Obj}, s2.heap.get? b = some o -> b ∉ fp -> b ∉ s2.heap.objs.size :: fp := fun e hx z => (List.mem_cons.mp z).elim (below e).2 hx
 have hfree : He hp.objs.size = none := J.free
 have u2 : Un (frs X.stack) fp H2 He s2.heap h' := by
  refine ⟨fun b o e n hb hx => ?_, fun b o e n hb hx => ?_, fun b o e n hx => ?_, fun b o e hx => ?_, un.tups, un.frzs, un.tbls⟩
  ·exact (hsb.2 b (below e).1).trans (un.keep b o (up e) n hb (nD e hx))
  ·obtain ⟨sl, q⟩ := un.slot b o (up e) n hb (nD e hx)
   exact ⟨sl, (hsb.2 b (below e).1).trans q⟩
  ·exact un.free b o (up e) n (nD e hx)
  ·obtain ⟨o', q⟩ := un.there b o (up e) (nD e hx)
   exact ⟨o', (hsb.2 b (below e).1).trans q⟩
 have hok : HOk X.prog X.w He h' := fun b u e => by
  refine (J.hok b u e).stay (fun c v hc q => (hsb.2 c ?_).trans q) (fun _ q => q) fun _ _ q => q
  rintro rfl
  rcases hc with z | z
  ·rw [<- z, hfree] at e; cases e
  ·rw [hfree] at z; cases z
 exact I2.call' (s' := { s1 with heap := h' }) (ch := fp) J.os u2 hok J.bare fun b hb => by
  obtain ⟨f0, f1, f3, f4, f5, f6⟩ := f2 b hb
  exact ⟨f4, f1, f5, f6⟩
noncomputable abbrev xeB (X : Cx) (scope : Scope) (C : Addr) (use : Option (Value -> Sem Unit)) (Qf : Value -> Shared -> Prop) (acc : Value) : Value -> Shared -> Prop :=
 notedBy (model X.prog X.w) X.A (compEnvC scope (closL X.env scope.names []) C X.env) fun x s' => compPost (model X.prog X.w) X.A X.xe use Qf acc C (.error x) s'
theorem comp_pass {scope : Scope} {N : List Str} {pins : List (Addr × Obj)} {σ : St} {H2 : Hp} {s2 : Shared} {hp : Heap} {fp : List Addr} {lo : Obj} {use : Option (Value -> Sem Unit)} {Qf : Value -> Shared -> Prop} {acc : Value}
  (hex : X.ex = []) (hstk : X.stack = X.env :: X.outer) (hfr : X.env.frame = some X.env.locals) (hR : RaisesT X E) (I2 : Inv X pins σ H2 s2) (f2 : ∀ b ∈ fp, FpOk X pins H2 b) (ehp : hp = s2.heap.push lo) :
  Passes (CX1 X.prog X.w) ((cxB X scope N { s2 with heap := hp } H2 (s2.heap.objs.size :: fp)).wish (xeB X scope hp.objs.size use Qf acc)) E := by
 intro pins' σ' Hc sc e s' J h
 obtain ⟨ea, cls, a0, B, H', rfl, os, bare, un, hok, fl, k1, k3, k2, hE⟩ := h
 show wpAny (model X.prog X.w) X.A (noteFrame (.ref ea) (compEnvC scope (closL X.env scope.names []) hp.objs.size X.env)) _ _ s'
 have nf0 : noteFrame (.ref ea) (compEnvC scope (closL X.env scope.names []) hp.objs.size X.env) = noteFrame (.ref ea) X.env := noteFrame_frame rfl
 rw [nf0]
 have un' : Un (frs X.stack) [] Hc H' sc.heap s'.heap := un
 have fl0 : Heap.FlyingW B X.stack ea cls a0 s'.heap := fl
 have fl' : Heap.FlyingW B (X.env :: X.outer) ea cls a0 s'.heap := hstk ▸ fl0
 have frm : X.A.frames = some (X.env :: X.outer) := hstk ▸ I2.ok.frames
 refine wpAny_looks_onW frm hfr fl' fun h4 held up4 => ?_
 obtain ⟨b1, b2, b3, oe, vs, T, oT, ts, he, ⟨hcls, h0⟩, hd, h1, hnT, hTe, hT, hdT, h3⟩ := held
 subst hcls
 have up : ∀ {b : Addr} {o : Obj}, s2.heap.get? b = some o -> hp.get? b = some o := fun e => by rw [ehp]; exact Heap.get?_push_of_some _ e
 have J4 : Inv ((cxB X scope N { s2 with heap := hp } H2 (s2.heap.objs.size :: fp)).wish (xeB X scope hp.objs.size use Qf acc)) pins' σ' H' { s' with heap := h4 } :=
  J.call' (s' := { s' with heap := h4 }) (ch := []) os (un_fly rfl un' k1 k3 fl0.2.2.1 b1 up4) (hok_fly hok k2 fl0.1 b1) bare fun b z => absurd z (by simp)
 obtain ⟨m, hn, _⟩ := J4.loc
 refine ⟨m, hn, fun h' hsb cenv hcenv => ?_⟩
 have fld : ∀ {b : Addr} {o : Obj} {us : Array Value}, h4.get? b = some o -> o.data = .fields us -> b ∉ frs X.stack := fun {b o us} e d z => by
  obtain ⟨_, o', ho', nf⟩ := (hstk ▸ b3 : h4.FunFrames B X.stack).mem z
  rw [e] at ho'
  cases ho'
  exact nf us d
 have cIn : ∃ o, B.get? hp.objs.size = some o := by
  obtain ⟨mC, hnC, _⟩ := J.loc
  obtain ⟨oC, eC⟩ : ∃ o, sc.heap.get? hp.objs.size = some o := by
   obtain ⟨o, _, _, e, _⟩ := hnC
   exact ⟨o, e⟩
  refine k3 _ oC eC fun z => ?_
  obtain ⟨_, o, ho, _⟩ := I2.stack.mem z
  have := Heap.lt_size ho
  rw [ehp, Heap.size_push] at this
  exact Nat.lt_irrefl _ (Nat.lt_trans (Nat.lt_succ_self _) this)
 have hTC : T ≠ hp.objs.size := fun z => by obtain ⟨o, e⟩ := cIn; rw [<- z, hnT] at e; cases e
 have hEC : ea ≠ hp.objs.size := fun z => by obtain ⟨o, e⟩ := cIn; rw [<- z, b2] at e; cases e
 have he' : h'.get? ea = some oe := (hsb.2 ea hEC).trans he
 have hT' : h'.get? T = some oT := (hsb.2 T hTC).trans hT
 have z3 : 3 < ts.size := (Array.getElem?_eq_some_iff.mp h3).1
 unfold PySem.passOn
 refine wpAny_bind (wpAny_field he' hd h1 ?_)
 rw [if_neg (show ¬ ((Value.ref T == Value.none) = true) from by simp)]
 unfold setFlight
 refine wpAny_bind (wpAny_bind (wpAny_field he' hd h1 ?_))
 rw [if_pos (show (Value.ref T != Value.none) = true from rfl)]
 refine wpAny_setField hT' hdT z3 (wpAny_throw ?_)
 generalize hv : (cenv.frame.elim Value.none fun f => rawInt f) = v
 have o4 : ∀ b, b ≠ T -> (h4.update T (Obj.mapFields (·.setIfInBounds 3 v))).get? b = h4.get? b := fun b hb => Heap.get?_update_other _ _ (Ne.symm hb)
 have o' : ∀ b, b ≠ T -> (h'.update T (Obj.mapFields (·.setIfInBounds 3 v))).get? b = h'.get? b := fun b hb => Heap.get?_update_other _ _ (Ne.symm hb)
 have fz : (Obj.mapFields (·.setIfInBounds 3 v) oT).isFreed = false := Obj.isFreed_of_fields (Obj.data_mapFields hdT _)
 have s4 : (h4.update T (Obj.mapFields (·.setIfInBounds 3 v))).get? T = some (Obj.mapFields (·.setIfInBounds 3 v) oT) := Heap.get?_update_self _ hT fz
 have s6 : (h'.update T (Obj.mapFields (·.setIfInBounds 3 v))).get? T = some (Obj.mapFields (·.setIfInBounds 3 v) oT) := Heap.get?_update_self _ hT' fz
 have st6 : B.StaysIn (h4.update T (Obj.mapFields (·.setIfInBounds 3 v))) := fun b o q => (o4 b fun z => by rw [z, hnT] at q; cases q).trans (b1 b o q)
 have up6 : s'.heap.UpToSlots (h4.update T (Obj.mapFields (·.setIfInBounds 3 v))) := fun b o q nf => by
  obtain ⟨sl, e⟩ := up4 b o q nf
  refine ⟨sl, (o4 b fun z => ?_).trans e⟩
  rw [z, hT] at e
  cases e
  exact nf ts hdT
 have J6 : Inv ((cxB X scope N { s2 with heap := hp } H2 (s2.heap.objs.size :: fp)).wish (xeB X scope hp.objs.size use Qf acc)) pins' σ' H' { s' with heap := h4.update T (Obj.mapFields (·.setIfInBounds 3 v)) } :=
  J.call' (s' := { s' with heap := h4.update T (Obj.mapFields (·.setIfInBounds 3 v)) }) (ch := []) os (un_fly rfl un' k1 k3 fl0.2.2.1 st6 up6) (hok_fly hok k2 fl0.1 st6) bare fun b z => absurd z (by simp)
 have hsb6 : Heap.SameBut hp.objs.size (h4.update T (Obj.mapFields (·.setIfInBounds 3 v))) (h'.update T (Obj.mapFields (·.setIfInBounds 3 v))) := by
  refine ⟨?_, fun b hb => ?_⟩
  ·rw [Heap.size_update, Heap.size_update]
   exact hsb.1
  ·by_cases z : b = T
   ·rw [z, s4, s6]
   ·rw [o4 b z, o' b z]
    exact hsb.2 b hb
 have IX : Inv X pins σ H' { s' with heap := h'.update T (Obj.mapFields (·.setIfInBounds 3 v)) } := comp_endT (s1 := { s' with heap := h4.update T (Obj.mapFields (·.setIfInBounds 3 v)) }) I2 f2 ehp J6.unwish hsb6
 have gone : ∀ {b : Addr} {o : Obj} {us : Array Value}, h4.get? b = some o -> o.data = .fields us -> B.get? b = none -> X.s₀.heap.get? b = none := fun {b o us} e d n => by
  cases q : X.s₀.heap.get? b with
  | none => rfl
  | some ob =>
   obtain ⟨o2, e2⟩ := I2.base.there b ob q (by rw [hex]; simp)
   have nx : b ∉ s2.heap.objs.size :: fp := fun z => by
    rcases List.mem_cons.mp z with z | z
    ·exact absurd (Heap.lt_size e2) (by rw [z]; exact Nat.lt_irrefl _)
    ·rcases (f2 b z).2.2.2.1 with z2 | z2
     ·rw [hex] at z2; simp at z2
     ·exact absurd (Heap.lt_size q) (Nat.not_lt.mpr z2)
   obtain ⟨o3, e3⟩ := J.base.there b o2 (up e2) nx
   obtain ⟨o5, e5⟩ := k3 b o3 e3 (fld e d)
   rw [n] at e5
   cases e5
 have nE : H' ea = none := by
  cases q : H' ea with
  | none => rfl
  | some u => obtain ⟨o, e⟩ := k2 ea u q; rw [b2] at e; cases e
 have nT : H' T = none := by
  cases q : H' T with
  | none => rfl
  | some u => obtain ⟨o, e⟩ := k2 T u q; rw [hnT] at e; cases e
 exact hR pins σ H' _ ea T oe _ vs _ a0 v IX ((o' ea (Ne.symm hTe)).trans he') hd h0 h1 hTe s6 (Obj.data_mapFields hdT _) (by simp [z3]) nE nT (gone he hd b2) (gone hT hdT hnT) hE
end
section
variable {prog : Program} {w : World} {A : Around} {R : Result -> Shared -> Prop} {s : Shared}
theorem compLoop_anyX {elt target iter : Expr} {ifs : List Expr} {scope : Scope} {pos : Pos} {it acc : Value} {env : Env} (I : Nat -> Shared -> Prop)
  (turn : ∀ n s, I n s -> wpAny (model prog w) A (pyNext it) (fun r s₁ => match r with
   | none => R (.ok .next) s₁
   | some v => wpAny (model prog w) A (letOwnedTupleGo target it v) (fun _ s₀ => wpAny (model prog w) A (assign target env v) (fun _ s₂ =>
     wpAny (model prog w) A (forIn ifs true fun c r => if r = true then do let ok <- isTrue c env (eval c env); pure (ForInStep.yield ok) else pure (ForInStep.yield r)) (fun ok s₃ =>
      if ok = true then wpAny (model prog w) A (eval elt env) (fun x s₄ =>
       wpAny (model prog w) A (call (.builtin "list.append") [acc, x]) (fun _ s₅ => ∃ m, m < n /\ I m s₅) (fun _ _ => False) s₄) (notedBy (model prog w) A env fun x s' => R (.error x) s') s₃
      else ∃ m, m < n /\ I m s₃) (fun _ _ => False) s₂) (fun _ _ => False) s₀) (fun _ _ => False) s₁) (fun _ _ => False) s)
  (n : Nat) (h : I n s) :
  codeAny (model prog w) A (.compLoop (.ListComp elt [⟨target, iter, ifs, 0⟩] scope pos) 0 it acc env) R s := by
 refine codeAny_loop rfl I (fun n s hI => ?_) n h
 show wpAny _ A ((compTurn (.ListComp elt [⟨target, iter, ifs, 0⟩] scope pos) 0 it acc env).onRaise (fun x => do noteFrame x env; theTreesLotGoes x)) _ _ s
 refine wpAny_noted ?_
 rw [compTurn_list]
 refine wpAny_bind (wpAny_standAt (wpAny_bind (wpAny_mono (turn n s hI) (fun r s₁ h₁ => ?_) fun _ _ h' => h'.elim)))
 cases r with
 | none => exact wpAny_pure h₁
 | some v =>
  refine wpAny_bind (wpAny_mono h₁ (fun _ s₀ h₀ => ?_) fun _ _ h' => h'.elim)
  refine wpAny_bind (wpAny_mono h₀ (fun _ s₂ h₂ => wpAny_bind (wpAny_mono h₂ (fun ok s₃ h₃ => ?_) fun _ _ h' => h'.elim)) fun _ _ h' => h'.elim)
  cases ok with
  | false => exact wpAny_pure ⟨rfl, h₃⟩
  | true =>
   exact wpAny_bind (wpAny_bind (wpAny_mono h₃ (fun x s₄ h₄ => wpAny_bind (wpAny_mono h₄ (fun _ s₅ h₅ => wpAny_pure (wpAny_pure ⟨rfl, h₅⟩)) fun _ _ h' => h'.elim)) fun _ _ h' => h'))
end
section
variable {X : Cx}
theorem comp_coreX {elt target iter : Expr} {ifs : List Expr} {scope sc0 : Scope} {pos : Pos} {N N0 : List Str} {own : Nat} {caps : List Nat} {wi : TI} {g : TG} {tc : TT} {te : TE}
  (hcalm : X.calm = true) (hi : PI X target iter wi)
  (hg : ∀ s₀ H₀ ex, PG (cxB X scope N s₀ H₀ ex) target g) (hc : ∀ s₀ H₀ ex, PIfs (cxB X scope N s₀ H₀ ex) ifs tc) {E : XK} (hex : X.ex = []) (hstk : X.stack = X.env :: X.outer) (hfr : X.env.frame = some X.env.locals) (hRT : RaisesT X E) (he : ∀ s₀ H₀ ex xe, Passes (CX1 X.prog X.w) ((cxB X scope N s₀ H₀ ex).wish xe) E -> PE ((cxB X scope N s₀ H₀ ex).wish xe) elt te) (hk : GKeep own g)
  (hX : X.N = N0) (hsc : X.env.scope = sc0)
  (hcell : ∀ y ∈ scope.names, y.2 ≠ .cell) (hkind : scope.kind = .function) (hnames : ∀ y ∈ scope.names, y.2 = .local -> scope.names.lookup y.1 = some .local)
  (hfree : ∀ y ∈ scope.names, y.2 = .free -> sc0.names.lookup y.1 = some .cell) (hN : N.length = own + caps.length)
  (hcap : ∀ p ∈ caps.zip (N.drop own), N0[p.1]? = some p.2 /\ scope.names.lookup p.2 = some .free)
  (hs : ∀ x, foldedSetIterable iter X.env x = pure x)
  {use : Option (Value -> Sem Unit)} {Qf : Value -> Shared -> Prop} {pins : List (Addr × Obj)} {s : Shared} {σ : St} {H : Hp} {Q : VK} {cpos : Pos} (I : Inv X pins σ H s) (h : tComp own caps wi g tc te σ H Q)
  (hR : ∀ (D C : Addr) (s' : Shared) (He : Hp) (ys : List V) (m : Str -> Option Value) (f : Flow), s'.heap.Ns C m -> (∀ h', Heap.SameBut C s'.heap h' -> Inv X pins σ (upd He D (.lst ys)) { s' with heap := h' }) ->
   FpOk X pins (upd He D (.lst ys)) C -> Q (.ref D) (upd He D (.lst ys)) -> compPost (model X.prog X.w) X.A X.xe use Qf (.ref D) C (.ok f) s') :
  wpAny (model X.prog X.w) X.A (comprehension (.ListComp elt [⟨target, iter, ifs, 0⟩] scope pos) scope X.env cpos (newList []) false (eval iter X.env) use) Qf X.xe s := by
 have hcellOf : ∀ y ∈ scope.names, y.2 = .free -> X.env.kindOf y.1 = some .cell := fun y hy e => by
  show X.env.scope.names.lookup y.1 = some .cell
  rw [hsc]; exact hfree y hy e
 refine wpAny_comprehension_free (use := use) rfl hs (closureFor_eq fun y hy e => I.ok.has y.1 (.inl (hcellOf y hy e))) hkind hnames ?_
 refine thn (hi pins s σ H _ I h) fun v s1 h1 => thn h1 fun itv s2 h2 => ?_
 obtain ⟨it, fp, tn, J, H2, e, I2, T, st2, f2, W, ⟨m0, w0⟩, turn⟩ := h2
 subst e
 refine wpAny_newObj_type (wpAny_newFunctionEnv hcell (by intro y hy; simp at hy) (fun h₁ hns₁ hsb₁ => ?_) hkind)
 dsimp only at hns₁ hsb₁ ⊢
 generalize ehp : s2.heap.push { cls := .type "list", dict := none, data := .seq ([] : List Value).toArray } = hp at hns₁ hsb₁ ⊢
 have hC : hp.objs.size = s2.heap.objs.size + 1 := by rw [<- ehp, Heap.size_push]
 have hDC : s2.heap.objs.size ≠ hp.objs.size := by rw [hC]; exact Nat.ne_of_lt (Nat.lt_succ_self _)
 have hD0 : hp.get? s2.heap.objs.size = some { cls := .type "list", data := .seq ([] : List Value).toArray } := by rw [<- ehp]; exact Heap.get?_push_size _ rfl
 have up : ∀ {b : Addr} {o : Obj}, s2.heap.get? b = some o -> hp.get? b = some o := fun e => by rw [<- ehp]; exact Heap.get?_push_of_some _ e
 have up1 : ∀ {b : Addr} {o : Obj}, hp.get? b = some o -> h₁.get? b = some o := fun {b o} e => hsb₁.extBut b o (Nat.ne_of_lt (Heap.lt_size e)) (Heap.get?_push_of_some _ e)
 have hlt2 : ∀ {b : Addr} {o : Obj}, s2.heap.get? b = some o -> b < s2.heap.objs.size := fun e => Heap.lt_size e
 have fpo : ∀ b ∈ fp, ∃ o, s2.heap.get? b = some o := fun b hb => by obtain ⟨o, e, _⟩ := T.obj 0 _ st2 b hb; exact ⟨o, e⟩
 have fpC : ∀ b ∈ fp, b ≠ hp.objs.size /\ b ≠ s2.heap.objs.size := fun b hb => by
  obtain ⟨o, e⟩ := fpo b hb
  have q := hlt2 e
  exact ⟨by rw [hC]; exact Nat.ne_of_lt (Nat.lt_succ_of_lt q), Nat.ne_of_lt q⟩
 have clos : ∀ {x : Str} {c : Addr}, (closL X.env scope.names []).lookup x = some c -> X.env.cells.lookup x = some c /\ X.env.kindOf x = some .cell := fun {x c} q => by
  rcases closL_some q with z | ⟨z, e⟩
  ·cases z
  ·have k := hcellOf _ z rfl
   obtain ⟨c', hc'⟩ := I2.ok.has x (.inl k)
   rw [hc'] at e
   have e' : c = c' := e
   subst e'
   exact ⟨hc', k⟩
 have cellLt : ∀ {x : Str} {c : Addr}, (closL X.env scope.names []).lookup x = some c -> c < s2.heap.objs.size := fun q => by
  obtain ⟨v, z⟩ := I2.cell _ _ (clos q).1
  exact z.lt
 have stkLt : ∀ b ∈ frs X.stack, b < s2.heap.objs.size := fun b hb => by
  obtain ⟨_, o, ho, _⟩ := I2.stack.mem hb
  exact Heap.lt_size ho
 have ok' : (cxB X scope N { s2 with heap := hp } H2 (s2.heap.objs.size :: fp)).Ok := by
  refine ⟨I2.ok.mod, hkind, I2.ok.glob, I2.ok.blt, Nat.le_refl _, fun x y c q1 q2 => I2.ok.inj x y c (clos q1).1 (clos q2).1, fun x hx => ?_, (fun x c z => by cases z), I2.ok.hd, I2.ok.frames, .inl rfl, fun b hb => ?_, fun b o q => ⟨up (I2.bs b o q).1, (I2.bs b o q).2⟩, ?_, fun b o q hb => ?_, fun b hb => ?_, ?_, fun b hb => I2.stkFree b hb⟩
  ·rcases hx with hx | hx
   ·exact closL_has (.inl (relabel_back (env := X.env) hcell (.inl rfl) hx))
   ·exact closL_has (.inl (relabel_back (env := X.env) hcell (.inr rfl) hx))
  ·rcases List.mem_cons.mp hb with rfl | hb
   ·exact ⟨by show s2.heap.objs.size ≠ hp.objs.size; exact hDC, fun x c q => Nat.ne_of_lt (cellLt q)⟩
   ·exact ⟨(fpC b hb).1, fun x c q => (f2 b hb).2.2.2.2.1 x c (clos q).1⟩
  ·show X.base.objs.size <= hp.objs.size
   rw [hC]
   exact Nat.le_succ_of_le (Nat.le_trans I2.ok.bsz I2.sz)
  ·rcases List.mem_cons.mp hb with rfl | hb
   ·exact Nat.lt_irrefl _ (hlt2 (I2.bs _ o q).1)
   ·rcases (f2 b hb).2.2.2.1 with z | z
    ·exact I2.ok.noex b o q z
    ·exact Nat.lt_irrefl _ (Nat.lt_of_lt_of_le (Heap.lt_size (I2.ok.bs b o q).1) z)
  ·intro z
   rcases List.mem_cons.mp hb with rfl | hb
   ·exact Nat.lt_irrefl _ (stkLt _ z)
   ·rcases List.mem_cons.mp (I2.stkSub b z) with q | q
    ·exact (f2 b hb).2.1 q
    ·exact (f2 b hb).2.2.1 q
  ·show hp.FunFrames X.base X.stack
   exact I2.stack.of_keeps fun b o q _ => ⟨o, up q, rfl⟩
 have len0 : (st0 own caps σ).length = N.length := by unfold st0; rw [List.length_append, List.length_replicate, List.length_map, hN]
 have I0 : Inv (cxB X scope N { s2 with heap := hp } H2 (s2.heap.objs.size :: fp)) [] (st0 own caps σ) H2 { s2 with heap := h₁, toks := s2.toks + ([] : List (Str × Value)).length } := by
  refine ⟨ok', rfl, I2.bare, Un.kept fun b o q => up1 q, ⟨_, hns₁, fun i x v e1 e2 e3 => ?_⟩, fun x c q => ?_, I2.hok.fresh (by show s2.heap.objs.size <= hp.objs.size; rw [hC]; exact Nat.le_succ _), fun x c q => I2.freeC x c (clos q).1, fun p hp' => absurd (show p ∈ ([] : List (Addr × Obj)) from hp') (by simp), I2.hok.kept fun b o q => up1 (up q), len0⟩
  ·
   unfold st0 at e2
   by_cases hi' : i < own
   ·rw [List.getElem?_append_left (by simpa using hi'), List.getElem?_replicate] at e2
    split at e2 <;> cases e2
   ·rw [List.getElem?_append_right (by simpa using hi'), List.length_replicate, List.getElem?_map] at e2
    cases ec : caps[i - own]? with
    | none => rw [ec] at e2; cases e2
    | some j =>
     rw [ec] at e2
     have e2' : (σ[j]?).join = some v := Option.some.inj e2
     have hσ : σ[j]? = some (some v) := by
      cases q : σ[j]? with
      | none => rw [q] at e2'; cases e2'
      | some z => rw [q] at e2'; exact congrArg some e2'
     have hx : (N.drop own)[i - own]? = some x := by
      rw [List.getElem?_drop]
      have : own + (i - own) = i := by (clear hσ e2' ec e2 e1 len0 hD0 hDC hC ehp hN hkind hsc hX hcalm; omega)
      rw [this]; exact e1
     have hz : (caps.zip (N.drop own))[i - own]? = some (j, x) := by
      rw [List.getElem?_zip_eq_some]; exact ⟨ec, hx⟩
     obtain ⟨hj, hf⟩ := hcap _ (List.mem_of_getElem? hz)
     rw [<- hX] at hj
     have hfm : (x, NameKind.free) ∈ scope.names := PySem.mem_of_lookup hf
     have hk1 := hcellOf _ hfm rfl
     obtain ⟨m, hn, hl⟩ := I2.loc
     obtain ⟨u, ru, lk⟩ := hl j x v hj hσ (.inr (.inl hk1))
     refine ⟨u, ru, .inr ⟨.inl (relabel_free I2.ok.kind hf hk1), ?_⟩⟩
     obtain ⟨c, hc'⟩ := closL_has (env := X.env) (cs := []) (.inl hfm)
     have hc2 := (clos hc').1
     rcases lk with ⟨z, _⟩ | ⟨_, c2, hc3, hcell'⟩
     ·rw [hk1] at z; cases z
     ·rw [hc2] at hc3
      cases hc3
      obtain ⟨oc, hoc, hod⟩ := hcell'
      exact ⟨c, hc', oc, up1 (up hoc), hod⟩
  ·obtain ⟨v, oc, hoc, hod⟩ := I2.cell x c (clos q).1
   exact ⟨v, oc, up1 (up hoc), hod⟩
 have pinD : ∀ {σ' : St} {H' : Hp} {s' : Shared} {its : List Value} {na : Nat}, Inv (cxB X scope N { s2 with heap := hp } H2 (s2.heap.objs.size :: fp)) [] σ' H' s' -> H' s2.heap.objs.size = none ->
   s'.heap.get? s2.heap.objs.size = some { cls := .type "list", data := .seq its.toArray na } ->
   Inv (cxB X scope N { s2 with heap := hp } H2 (s2.heap.objs.size :: fp)) [(s2.heap.objs.size, { cls := .type "list", data := .seq its.toArray na })] σ' H' s' := fun {σ' H' s' its na} I' hn hd => I'.pins_of fun p hp' => by
  have e : p = (s2.heap.objs.size, { cls := .type "list", data := .seq its.toArray na }) := by simpa using hp'
  subst e
  exact ⟨hd, hn, hDC, fun z => Nat.lt_irrefl _ (stkLt _ z), fun v z => nomatch z⟩
 have fpD : ∀ {H' : Hp} {pl : List (Addr × Obj)}, (∀ b ∈ fp, H' b = none) -> (∀ p ∈ pl, p.1 = s2.heap.objs.size) -> ∀ b ∈ fp, FpOk (cxB X scope N { s2 with heap := hp } H2 (s2.heap.objs.size :: fp)) pl H' b := fun hn hpl b hb => by
  refine ⟨hn b hb, (fpC b hb).1, fun z => ?_, .inl (List.mem_cons_of_mem _ hb), fun x c q => (f2 b hb).2.2.2.2.1 x c (clos q).1, fun p hp' z => ?_⟩
  ·rcases List.mem_cons.mp (I2.stkSub b z) with q | q
   ·exact (f2 b hb).2.1 q
   ·exact (f2 b hb).2.2.1 q
  ·exact (fpC b hb).2 (z.symm.trans (hpl p hp'))
 have loop : ∀ s₃ : Shared, s₃ = { s2 with heap := h₁, toks := s2.toks + ([] : List (Str × Value)).length } ->
   codeAny (model X.prog X.w) X.A (.compLoop (.ListComp elt [⟨target, iter, ifs, 0⟩] scope pos) 0 (.ref it) (.ref s2.heap.objs.size) (compEnvC scope (closL X.env scope.names []) hp.objs.size X.env))
    (compPost (model X.prog X.w) X.A X.xe use Qf (.ref s2.heap.objs.size) hp.objs.size) s₃ := by
  rintro s₃ rfl
  refine compLoop_anyX (fun n s' => ∃ i ys its na H', Inv (cxB X scope N { s2 with heap := hp } H2 (s2.heap.objs.size :: fp)) [] (st0 own caps σ) H' s' /\ tn i s'.heap /\ (∀ b ∈ fp, H' b = none) /\ H' s2.heap.objs.size = none /\
   Vals ys its /\ s'.heap.get? s2.heap.objs.size = some { cls := .type "list", data := .seq its.toArray na } /\ W i n ys H') ?_ m0
   ⟨0, [], [], 0, H2, I0, T.keep _ _ _ st2 fun b _ o q => up1 (up q), fun b hb => (f2 b hb).1, I2.hok.fresh (Nat.le_refl _), .nil, up1 hD0, w0⟩
  rintro n s3 ⟨i, ys, its, na, H3, I3, st3, fr3, nD3, rv3, hd3, w3⟩
  have Ip := pinD I3 nD3 hd3
  have f3 := fpD (H' := H3) (pl := [(s2.heap.objs.size, { cls := .type "list", data := .seq its.toArray na })]) fr3 mem1
  rcases turn i n ys H3 w3 with ⟨stop, hz, fin⟩ | ⟨go, hz, step⟩
  ·refine thn (T.done (cxB X scope N { s2 with heap := hp } H2 (s2.heap.objs.size :: fp)) rfl rfl rfl hcalm i _ s3 _ H3 _ Ip f3 st3 stop) fun r s4 ⟨hr, I4⟩ => ?_
   subst hr
   obtain ⟨m, hn, _⟩ := I4.loc
   exact hR _ _ _ _ ys m _ hn (fun h' hsb => comp_end I2 f2 ehp.symm I4 hsb rv3 hz) (I2.fpOk (by rw [hC]; exact Nat.le_succ _) (by rw [upd_ne (Ne.symm hDC)]; exact I4.free)) (fin _ (I4.pin _ (List.mem_append_right _ List.mem_cons_self)).2.1)
  ·refine thn (T.item (cxB X scope N { s2 with heap := hp } H2 (s2.heap.objs.size :: fp)) rfl rfl rfl hcalm i _ s3 _ H3 _ Ip f3 st3 go) fun r s4 ⟨u, hr, h4⟩ => ?_
   subst hr
   refine thn h4 fun _ s5 ⟨x, H5, I5, r5, y5, st5, fr5⟩ => ?_
   have I5' := I5.pinned (fpD (H' := H5) (pl := [(s2.heap.objs.size, { cls := .type "list", data := .seq its.toArray na })]) fr5 mem1) (T.obj _ _ st5)
   refine thn (hg _ _ _ _ s5 _ H5 x u _ I5' r5 (hk x _ H5 _ _ (step x H5 y5) fun σ' H' q l k => (⟨q, l, k⟩ : _ /\ _ /\ _))) fun _ s6 ⟨σ6, H6, I6, q6, l6, k6⟩ => ?_
   refine thn (hc _ _ _ _ s6 σ6 H6 _ I6 q6) fun ok s7 ⟨H7, I7, q7⟩ => ?_
   have weak : ∀ {H' : Hp} {s' : Shared} {pl : List (Addr × Obj)}, Inv (cxB X scope N { s2 with heap := hp } H2 (s2.heap.objs.size :: fp)) pl σ6 H' s' -> Inv (cxB X scope N { s2 with heap := hp } H2 (s2.heap.objs.size :: fp)) pl (st0 own caps σ) H' s' := fun I' =>
    I'.weak l6.symm fun j v e => k6 j v (by
     by_cases hj : j < own
     ·unfold st0 at e
      rw [List.getElem?_append_left (by simpa using hj), List.getElem?_replicate] at e
      split at e <;> cases e
     ·(clear e l6 hz hd3 nD3 len0 hD0 hDC hC ehp hN hkind hsc hX hcalm; omega)) e
   have after : ∀ {H' : Hp} {s' : Shared}, Inv (cxB X scope N { s2 with heap := hp } H2 (s2.heap.objs.size :: fp)) ([(s2.heap.objs.size, { cls := .type "list", data := .seq its.toArray na })] ++ pinsAt fp s5.heap) σ6 H' s' ->
     tn (i + 1) s'.heap /\ (∀ b ∈ fp, H' b = none) /\ H' s2.heap.objs.size = none /\ s'.heap.get? s2.heap.objs.size = some { cls := .type "list", data := .seq its.toArray na } := fun I' => by
    refine ⟨T.keep _ _ _ st5 fun b hb o e => (I'.pin (b, o) (List.mem_append_right _ (List.mem_append_right _ (mem_pinsAt hb e)))).1, fun b hb => ?_, ?_, ?_⟩
    ·obtain ⟨o, e, d⟩ := T.obj _ _ st5 b hb
     exact (I'.pin (b, o) (List.mem_append_right _ (List.mem_append_right _ (mem_pinsAt hb e)))).2.1
    ·exact (I'.pin _ (List.mem_append_right _ (List.mem_append_left _ List.mem_cons_self))).2.1
    ·exact (I'.pin _ (List.mem_append_right _ (List.mem_append_left _ List.mem_cons_self))).1
   cases ok with
   | false =>
    rw [if_neg Bool.false_ne_true]
    obtain ⟨m', hm, w7⟩ := (show ∃ m', m' < n /\ W (i + 1) m' ys H7 by rw [if_neg Bool.false_ne_true] at q7; exact q7)
    obtain ⟨a1, a2, a3, a4⟩ := after I7
    exact ⟨m', hm, i + 1, ys, its, na, H7, (weak I7).pins_of (fun p hp' => absurd hp' (by simp)), a1, a2, a3, rv3, a4, w7⟩
   | true =>
    rw [if_pos rfl]
    rw [if_pos rfl] at q7
    refine thn (he _ _ _ (xeB X scope hp.objs.size use Qf (.ref s2.heap.objs.size)) (comp_pass hex hstk hfr hRT I2 f2 ehp.symm) _ s7 σ6 H7 _ (I7.wish _) q7) fun yv s8 ⟨y, H8, I8', r8, m', hm, w8⟩ => ?_
    have I8 := I8'.unwish
    obtain ⟨a1, a2, a3, a4⟩ := after I8
    have hl := rv3.length
    refine call_meets F.slot_list_append ⟨_, a4, rfl⟩ F.entry_list_append (F.args_list_append_2 _ _) (PySem.list_append s2.heap.objs.size its.toArray na yv (by rw [List.size_toArray]; (clear a4 a3 hm l6 hd3 nD3 len0 hD0 hDC hC ehp hN hkind hsc hX hcalm; omega))) ⟨a4, ?_⟩
    have I9 : Inv (cxB X scope N { s2 with heap := hp } H2 (s2.heap.objs.size :: fp)) [] (st0 own caps σ) H8 s8 := (weak I8).pins_of (fun p hp' => absurd hp' (by simp))
    have q : (s8.heap.update s2.heap.objs.size (Obj.mapSeq (·.push yv))).get? s2.heap.objs.size = some { cls := .type "list", data := .seq (its ++ [yv]).toArray (na + 1) } := by
     have q := PySem.IsL.update a4 (·.push yv)
     simpa using q
    refine ⟨m', hm, i + 1, ys ++ [y], its ++ [yv], na + 1, H8, I9.turned (it := s2.heap.objs.size) (t' := s8.toks) (fun b o hb e => ?_) a3 (hDC) (.inl List.mem_cons_self) (fun x c z => Nat.ne_of_lt (cellLt z)) (fun p hp' => absurd (show p ∈ ([] : List (Addr × Obj)) from hp') (by simp)), ?_, a2, a3, rv3.append (.cons r8 .nil), q, w8⟩
    ·rw [Heap.get?_update_other _ _ (Ne.symm hb)]; exact e
    ·exact T.keep _ _ _ a1 fun b hb o e => by rw [Heap.get?_update_other _ _ (Ne.symm (fpC b hb).2)]; exact e
 exact codeAny_compStart_list (loop _ rfl) (T.self _ 0 _ _ _ (T.keep _ _ _ st2 fun b _ o q => up1 (up q)) (loop _ rfl))
theorem pe_compX {elt target iter : Expr} {ifs : List Expr} {scope sc0 : Scope} {pos : Pos} {N N0 : List Str} {own : Nat} {caps : List Nat} {wi : TI} {g : TG} {tc : TT} {te : TE}
  (hcalm : X.calm = true) (hi : PI X target iter wi)
  (hg : ∀ s₀ H₀ ex, PG (cxB X scope N s₀ H₀ ex) target g) (hc : ∀ s₀ H₀ ex, PIfs (cxB X scope N s₀ H₀ ex) ifs tc) {E : XK} (hex : X.ex = []) (hstk : X.stack = X.env :: X.outer) (hfr : X.env.frame = some X.env.locals) (hRT : RaisesT X E) (he : ∀ s₀ H₀ ex xe, Passes (CX1 X.prog X.w) ((cxB X scope N s₀ H₀ ex).wish xe) E -> PE ((cxB X scope N s₀ H₀ ex).wish xe) elt te) (hk : GKeep own g)
  (hX : X.N = N0) (hsc : X.env.scope = sc0)
  (hcell : ∀ y ∈ scope.names, y.2 ≠ .cell) (hkind : scope.kind = .function) (hnames : ∀ y ∈ scope.names, y.2 = .local -> scope.names.lookup y.1 = some .local)
  (hfree : ∀ y ∈ scope.names, y.2 = .free -> sc0.names.lookup y.1 = some .cell) (hN : N.length = own + caps.length)
  (hcap : ∀ p ∈ caps.zip (N.drop own), N0[p.1]? = some p.2 /\ scope.names.lookup p.2 = some .free)
  (hs : ∀ x, foldedSetIterable iter X.env x = pure x := by intro _; rfl) :
  PE X (.ListComp elt [⟨target, iter, ifs, 0⟩] scope pos) (tComp own caps wi g tc te) := by
 intro pins s σ H Q I h
 rw [eval_ListComp]
 exact comp_coreX hcalm hi hg hc hex hstk hfr hRT he hk hX hsc hcell hkind hnames hfree hN hcap hs I h fun D C s' He ys m f hn hI _ q => ⟨m, hn, fun h' hsb => ⟨.ref D, _, hI h' hsb, rfl, q⟩⟩
end
end L2
namespace PySem
section
variable {prog : Program} {w : World} {A : Around} {E : Value -> Shared -> Prop} {s : Shared}
theorem nextT_item {j t : Addr} {k : Nat} {us : Array Value} {v : Value} {Q : Value -> Shared -> Prop} (hj : s.heap.IsTupleIter j t k) (ht : s.heap.IsTuple t us) (hv : us[k]? = some v)
  (hQ : ∀ h', h'.IsTupleIter j t (k + 1) -> Heap.SameBut j s.heap h' -> Q v { s with heap := h' }) : wpAny (model prog w) A (Builtin.SmallTypes.nextOf (.ref j)) Q E s := by
 obtain ⟨oj, ej, cj, dj⟩ := id hj
 obtain ⟨ot, et, _, nt, dt⟩ := ht
 unfold Builtin.SmallTypes.nextOf
 refine wpAny_bind (wpAny_callSpecial?_slot (name := Str.ofString "__next__") hj.typeIs F.slot_tuple_iterator_next (wpAny_call_entry F.slot_tuple_iterator_next hj.typeIs F.entry_tuple_iterator_next ?_ (F.args_tuple_iterator_next_1 _)))
 show wpAny _ _ (field (.ref j) 0 >>= _) _ _ s
 refine wpAny_bind (wpAny_field ej dj (x := .ref t) rfl ?_)
 show wpAny _ _ (if (Value.ref t == Value.none) = true then _ else _) _ _ s
 rw [if_neg (show ¬ (Value.ref t == Value.none) = true by simp)]
 show wpAny _ _ (field (.ref j) 1 >>= _) _ _ s
 refine wpAny_bind (wpAny_field ej dj (x := .int k 0) rfl ?_)
 show wpAny _ _ (seqItems? (.ref t) >>= _) _ _ s
 refine wpAny_bind (wpAny_seqItems et dt ?_)
 simp only [Int.toNat_natCast, hv]
 refine wpAny_bind (wpAny_setField ej dj (by simp) (wpAny_pure ⟨v, rfl, wpAny_pure (hQ _ ?_ (Heap.SameBut.update ..))⟩))
 exact ⟨_, Heap.get?_update_self _ ej (Obj.isFreed_of_fields (Obj.data_mapFields dj _)), (Obj.cls_mapFields ..).trans cj, by rw [Obj.data_mapFields dj]; simp [rawInt]⟩
theorem nextT_end {j t : Addr} {k : Nat} {us : Array Value} {Q : Value -> Shared -> Prop} (hh : A.handled = none) (hj : s.heap.IsTupleIter j t k) (ht : s.heap.IsTuple t us) (hv : us[k]? = none)
  (hE : ∀ h' e, Heap.ExtBut j s.heap h' -> (∃ o, h'.get? e = some o /\ o.cls = .type "StopIteration") -> E (.ref e) { s with heap := h' }) : wpAny (model prog w) A (Builtin.SmallTypes.nextOf (.ref j)) Q E s := by
 obtain ⟨oj, ej, cj, dj⟩ := id hj
 obtain ⟨ot, et, _, nt, dt⟩ := ht
 unfold Builtin.SmallTypes.nextOf
 refine wpAny_bind (wpAny_callSpecial?_slot (name := Str.ofString "__next__") hj.typeIs F.slot_tuple_iterator_next (wpAny_call_entry F.slot_tuple_iterator_next hj.typeIs F.entry_tuple_iterator_next ?_ (F.args_tuple_iterator_next_1 _)))
 show wpAny _ _ (field (.ref j) 0 >>= _) _ _ s
 refine wpAny_bind (wpAny_field ej dj (x := .ref t) rfl ?_)
 show wpAny _ _ (if (Value.ref t == Value.none) = true then _ else _) _ _ s
 rw [if_neg (show ¬ (Value.ref t == Value.none) = true by simp)]
 show wpAny _ _ (field (.ref j) 1 >>= _) _ _ s
 refine wpAny_bind (wpAny_field ej dj (x := .int k 0) rfl ?_)
 show wpAny _ _ (seqItems? (.ref t) >>= _) _ _ s
 refine wpAny_bind (wpAny_seqItems et dt ?_)
 simp only [Int.toNat_natCast, hv]
 refine wpAny_bind (wpAny_rule (wpAny_bind (wpAny_setField ej dj (by simp) ?_)))
 show wpAny _ _ (newExc (.type "StopIteration") [] >>= fun e => _) _ _ _
 refine wpAny_bind ?_
 simp only [newExc, newTuple]
 refine wpAny_bind (wpAny_newObj_type ?_ (by size_fits))
 refine wpAny_bind (m := firstArgMember _ _) (wpAny_of_eq (a := Value.none) (by first | rfl | (simp only [firstArgMember]; rfl)) (wpAny_newObj_type ?_ (by size_fits)))
 simp only [raiseNew]
 refine wpAny_bind (wpAny_handled ?_)
 first | rw [hh] | rw [show A.in1.handled = none from hh]
 exact wpAny_bind (wpAny_pure (wpAny_throw (hE _ _ (((Heap.SameBut.update ..).extBut.push _).push _) ⟨_, Heap.get?_push_size _ rfl, rfl⟩)))
end
theorem drawsT {prog : Program} {w : World} {A : Around} (hh : A.handled = none) (j t : Addr) (hne : t ≠ j) (us : Array Value) : Draws prog w A j [j, t] us.size (fun k v => us[k]? = some v) (fun k h => h.IsTupleIter j t k /\ h.IsTuple t us) where
 live := fun _ _ q => let ⟨o, e, _⟩ := q.1; ⟨o, e⟩
 frame := fun _ _ _ q kk => ⟨let ⟨o, e, r⟩ := q.1; ⟨o, kk j (by simp) o e, r⟩, let ⟨o, e, r⟩ := q.2; ⟨o, kk t (by simp) o e, r⟩⟩
 item := fun k s Q E hk q hQ => nextT_item q.1 q.2 (v := us[k]) (by simp [hk]) fun h' a b => hQ _ h' s.toks (by simp [hk]) ⟨a, q.2.extBut b.extBut hne⟩ b
 done := fun s Q E q hE => nextT_end hh q.1 q.2 (by simp) hE
structure Ap (z a b i j : Addr) (f g : List Addr) : Prop where
 az : a ≠ z
 bz : b ≠ z
 iz : i ≠ z
 jz : j ≠ z
 ab : a ≠ b
 ai : a ≠ i
 aj : a ≠ j
 bi : b ≠ i
 bj : b ≠ j
 ij : i ≠ j
 fz : z ∉ f
 fb : b ∉ f
 fj : j ∉ f
 gz : z ∉ g
 gb : b ∉ g
 gi : i ∉ g
section
variable {prog : Program} {w : World} {A : Around} {E : Value -> Shared -> Prop} {s : Shared} {z a b i j : Addr} {f g : List Addr} {n m k : Nat} {P P' : Nat -> Value -> Prop} {St St' : Nat -> Heap -> Prop} {u v : Value}
theorem zipD_item {Q : Value -> Shared -> Prop} (D : Draws prog w A i f n P St) (D' : Draws prog w A j g m P' St') (R : Ap z a b i j f g) (hz : IsZip s.heap z a b .none) (ha : IsPair s.heap a (.ref i) (.ref j)) (hb : IsPair s.heap b u v) (h1 : St k s.heap) (h2 : St' k s.heap) (hk : k < n) (hk' : k < m)
  (hQ : ∀ x y h' tk, P k x -> P' k y -> IsZip h' z a b (rawInt s.heap.objs.size) -> IsPair h' b x y -> St (k + 1) h' -> St' (k + 1) h' -> IsPair h' s.heap.objs.size x y ->
   (∀ c o, c ≠ z -> c ≠ b -> c ≠ i -> c ≠ j -> s.heap.get? c = some o -> h'.get? c = some o) -> Q (.ref s.heap.objs.size) { s with heap := h', toks := tk }) :
  wpAny (model prog w) A (Builtin.«zip.__next__» ⟨[.ref z], []⟩) (fun fin s' => ∃ r, fin = .done (.ret r) /\ Q r s') E s := by
 show wpAny _ _ (field (.ref z) 2 >>= _) _ _ _
 refine wpAny_bind (wpAny_field hz rfl (x := .bool false) rfl ?_)
 show wpAny _ _ (field (.ref z) 3 >>= _) _ _ _
 refine wpAny_bind (wpAny_field hz rfl (x := .ref a) rfl (wpAny_bind (wpAny_seqItems ha rfl ?_)))
 show wpAny _ _ (Builtin.SmallTypes.ownedTupleIsFree (.ref z) >>= _) _ _ _
 unfold Builtin.SmallTypes.ownedTupleIsFree
 refine wpAny_bind (wpAny_bind (wpAny_field hz rfl (x := .none) rfl (wpAny_pure ?_)))
 simp only [if_true]
 refine wpAny_bind (wpAny_rule (wpAny_bind (wpAny_field hz rfl (x := .ref b) rfl (wpAny_bind (wpAny_setField_rec hz (by simp) fun H1 z1 q1 => ?_)))))
 have z1' : IsZip H1 z a b .ellipsis := z1
 refine wpAny_bind ?_
 simp only [List.zipIdx_cons, List.zipIdx_nil, List.forIn_cons, List.forIn_nil]
 refine wpAny_bind (wpAny_bind (wpAny_onRaise ?_))
 show wpAny _ _ (Builtin.SmallTypes.nextOf (.ref i) >>= _) _ _ _
 have st1 : St k H1 := D.frame _ _ _ h1 fun c hc o e => q1.extBut c o (fun y => R.fz (y ▸ hc)) e
 have st1' : St' k H1 := D'.frame _ _ _ h2 fun c hc o e => q1.extBut c o (fun y => R.gz (y ▸ hc)) e
 refine wpAny_bind (D.item k _ _ _ hk st1 fun x H2 tk2 px st2 q2 => wpAny_pure ?_)
 have q2' : Heap.SameBut i H1 H2 := q2
 have b2 : IsPair H2 b u v := q2'.extBut _ _ R.bi (q1.extBut _ _ R.bz hb)
 refine wpAny_bind (wpAny_seqItems b2 rfl (wpAny_bind (wpAny_updateSeq_pair b2 fun H3 b3 q3 => ?_)))
 have b3' : IsPair H3 b x v := b3
 refine wpAny_bind (wpAny_letGo (wpAny_pure ?_))
 refine wpAny_bind (wpAny_bind (wpAny_onRaise ?_))
 show wpAny _ _ (Builtin.SmallTypes.nextOf (.ref j) >>= _) _ _ _
 have st3' : St' k H3 := D'.frame _ _ _ st1' fun c hc o e => q3.extBut c o (fun y => R.gb (y ▸ hc)) (q2'.extBut c o (fun y => R.gi (y ▸ hc)) e)
 refine wpAny_bind (D'.item k _ _ _ hk' st3' fun y H4 tk4 py st4' q4 => wpAny_pure ?_)
 have q4' : Heap.SameBut j H3 H4 := q4
 have b4 : IsPair H4 b x v := q4'.extBut _ _ R.bj b3'
 refine wpAny_bind (wpAny_seqItems b4 rfl (wpAny_bind (wpAny_updateSeq_pair b4 fun H5 b5 q5 => ?_)))
 have b5' : IsPair H5 b x y := b5
 refine wpAny_bind (wpAny_letGo (wpAny_pure (wpAny_pure ?_)))
 refine wpAny_bind (wpAny_seqItems b5' rfl (wpAny_bind (wpAny_newTuple ?_)))
 have hsz : H5.objs.size = s.heap.objs.size := by rw [q5.1, q4'.1, q3.1, q2'.1, q1.1]
 have z5 : IsZip H5 z a b .ellipsis := q5.extBut _ _ R.bz.symm (q4'.extBut _ _ R.jz.symm (q3.extBut _ _ R.bz.symm (q2'.extBut _ _ R.iz.symm z1')))
 have k5 : ∀ c o, c ≠ z -> c ≠ b -> c ≠ i -> c ≠ j -> s.heap.get? c = some o -> H5.get? c = some o := fun c o c1 c2 c3 c4 e => q5.extBut _ _ c2 (q4'.extBut _ _ c4 (q3.extBut _ _ c2 (q2'.extBut _ _ c3 (q1.extBut _ _ c1 e))))
 have st5 : St (k + 1) H5 := D.frame _ _ _ st2 fun c hc o e => q5.extBut _ _ (fun y => R.fb (y ▸ hc)) (q4'.extBut _ _ (fun y => R.fj (y ▸ hc)) (q3.extBut _ _ (fun y => R.fb (y ▸ hc)) e))
 have st5' : St' (k + 1) H5 := D'.frame _ _ _ st4' fun c hc o e => q5.extBut _ _ (fun y => R.gb (y ▸ hc)) e
 have zl : z < H5.objs.size := Heap.lt_size z5
 show wpAny _ _ (Builtin.SmallTypes.ownedTupleHandOut (.ref z) (.ref H5.objs.size) >>= _) _ _ _
 unfold Builtin.SmallTypes.ownedTupleHandOut
 have z6 : IsZip (H5.push { cls := .type "tuple", data := .seq #[x, y] }) z a b .ellipsis := Heap.get?_push_of_some _ z5
 refine wpAny_bind (wpAny_bind (wpAny_setField_rec z6 (by simp) fun H7 z7 q7 => ?_))
 have z7' : IsZip H7 z a b (rawInt H5.objs.size) := z7
 refine wpAny_setField_rec z7' (by simp) fun H8 z8 q8 => ?_
 have z8' : IsZip H8 z a b (rawInt H5.objs.size) := z8
 have up : ∀ c o, c ≠ z -> H5.get? c = some o -> H8.get? c = some o := fun c o c1 e => q8.extBut _ _ c1 (q7.extBut _ _ c1 (Heap.get?_push_of_some _ e))
 have t8 : IsPair H8 H5.objs.size x y := q8.extBut _ _ (Nat.ne_of_gt zl) (q7.extBut _ _ (Nat.ne_of_gt zl) (Heap.get?_push_size _ rfl))
 rw [hsz] at z8' t8
 refine wpAny_pure ⟨_, rfl, ?_⟩
 show Q (.ref H5.objs.size) _
 rw [hsz]
 exact hQ x y H8 tk4 px py z8' (up _ _ R.bz b5') (D.frame _ _ _ st5 fun c hc o e => up c o (fun y => R.fz (y ▸ hc)) e) (D'.frame _ _ _ st5' fun c hc o e => up c o (fun y => R.gz (y ▸ hc)) e) t8 fun c o c1 c2 c3 c4 e => up c o c1 (k5 c o c1 c2 c3 c4 e)
theorem zipD_end {Q : Fin -> Shared -> Prop} (D : Draws prog w A i f n P St) (R : Ap z a b i j f g) (hz : IsZip s.heap z a b .none) (ha : IsPair s.heap a (.ref i) (.ref j)) (h1 : St n s.heap)
  (hE : ∀ h' e, (∀ c o, c ≠ z -> c ≠ i -> s.heap.get? c = some o -> h'.get? c = some o) -> (∃ o, h'.get? e = some o /\ o.cls = .type "StopIteration") -> E (.ref e) { s with heap := h' }) :
  wpAny (model prog w) A (Builtin.«zip.__next__» ⟨[.ref z], []⟩) Q E s := by
 show wpAny _ _ (field (.ref z) 2 >>= _) _ _ _
 refine wpAny_bind (wpAny_field hz rfl (x := .bool false) rfl ?_)
 show wpAny _ _ (field (.ref z) 3 >>= _) _ _ _
 refine wpAny_bind (wpAny_field hz rfl (x := .ref a) rfl (wpAny_bind (wpAny_seqItems ha rfl ?_)))
 show wpAny _ _ (Builtin.SmallTypes.ownedTupleIsFree (.ref z) >>= _) _ _ _
 unfold Builtin.SmallTypes.ownedTupleIsFree
 refine wpAny_bind (wpAny_bind (wpAny_field hz rfl (x := .none) rfl (wpAny_pure ?_)))
 simp only [if_true]
 refine wpAny_bind (wpAny_rule (wpAny_bind (wpAny_field hz rfl (x := .ref b) rfl (wpAny_bind (wpAny_setField_rec hz (by simp) fun H1 z1 q1 => ?_)))))
 have z1' : IsZip H1 z a b .ellipsis := z1
 refine wpAny_bind ?_
 simp only [List.zipIdx_cons, List.zipIdx_nil, List.forIn_cons, List.forIn_nil]
 refine wpAny_bind (wpAny_bind (wpAny_onRaise ?_))
 show wpAny _ _ (Builtin.SmallTypes.nextOf (.ref i) >>= _) _ _ _
 refine wpAny_bind (D.done _ _ _ (D.frame _ _ _ h1 fun c hc o e => q1.extBut c o (fun y => R.fz (y ▸ hc)) e) fun H2 e q2 he => ?_)
 have q2' : Heap.ExtBut i H1 H2 := q2
 obtain ⟨oe, e1, c1⟩ := he
 have z2 : IsZip H2 z a b .ellipsis := q2' _ _ R.iz.symm z1'
 have ez : e ≠ z := fun y => by
  rw [y, z2] at e1
  cases e1
  simp at c1
 exact wpAny_setField_rec z2 (by simp) fun H3 _ q3 => hE H3 e (fun c o c1 c3 y => q3.extBut _ _ c1 (q2' _ _ c3 (q1.extBut _ _ c1 y))) ⟨oe, q3.extBut _ _ ez e1, c1⟩
theorem nextZ_item {Q : Option Value -> Shared -> Prop} (D : Draws prog w A.in1 i f n P St) (D' : Draws prog w A.in1 j g m P' St') (R : Ap z a b i j f g) (hz : IsZip s.heap z a b .none) (ha : IsPair s.heap a (.ref i) (.ref j)) (hb : IsPair s.heap b u v) (h1 : St k s.heap) (h2 : St' k s.heap) (hk : k < n) (hk' : k < m)
  (hQ : ∀ x y h' tk, P k x -> P' k y -> IsZip h' z a b (rawInt s.heap.objs.size) -> IsPair h' b x y -> St (k + 1) h' -> St' (k + 1) h' -> IsPair h' s.heap.objs.size x y ->
   (∀ c o, c ≠ z -> c ≠ b -> c ≠ i -> c ≠ j -> s.heap.get? c = some o -> h'.get? c = some o) -> Q (some (.ref s.heap.objs.size)) { s with heap := h', toks := tk }) : wpAny (model prog w) A (pyNext (.ref z)) Q E s := by
 have T : s.TypeIs (.ref z) "zip" := ⟨_, hz, rfl⟩
 unfold pyNext
 exact wpAny_bind (wpAny_attempt (wpAny_callSpecial?_slot (name := Str.ofString "__next__") T F.slot_zip_next (wpAny_call_entry F.slot_zip_next T F.entry_zip_next
  (zipD_item D D' R hz ha hb h1 h2 hk hk' fun x y h' tk p1 p2 e1 e2 e3 e4 e5 e6 => wpAny_pure (hQ x y h' tk p1 p2 e1 e2 e3 e4 e5 e6)) (F.args_zip_next_1 _))))
theorem nextZ_end {Q : Option Value -> Shared -> Prop} (D : Draws prog w A.in1 i f n P St) (R : Ap z a b i j f g) (hz : IsZip s.heap z a b .none) (ha : IsPair s.heap a (.ref i) (.ref j)) (h1 : St n s.heap)
  (hQ : ∀ h', (∀ c o, c ≠ z -> c ≠ i -> s.heap.get? c = some o -> h'.get? c = some o) -> Q none { s with heap := h' }) : wpAny (model prog w) A (pyNext (.ref z)) Q E s := by
 have T : s.TypeIs (.ref z) "zip" := ⟨_, hz, rfl⟩
 unfold pyNext
 refine wpAny_bind (wpAny_attempt (wpAny_callSpecial?_slot (name := Str.ofString "__next__") T F.slot_zip_next (wpAny_call_entry F.slot_zip_next T F.entry_zip_next (zipD_end D R hz ha h1 fun h' e hk he => ?_) (F.args_zip_next_1 _))))
 obtain ⟨o, ho, hc⟩ := he
 exact wpAny_bind (wpAny_isInstance (T := "StopIteration") (b := true) ⟨o, ho, hc⟩ isSubtype_stop (wpAny_pure (hQ _ hk)))
end
noncomputable abbrev zT1 (h : Heap) (l : Addr) : Heap := h.push { cls := .type "tuple_iterator", data := .fields #[.ref l, .int 0 0] }
noncomputable abbrev zT2 (h : Heap) (l l' : Addr) : Heap := (zT1 h l).push { cls := .type "tuple_iterator", data := .fields #[.ref l', .int 0 0] }
noncomputable abbrev zT3 (h : Heap) (l l' : Addr) : Heap := (zT2 h l l').push { cls := .type "tuple", data := .seq #[.ref h.objs.size, .ref (zT1 h l).objs.size] }
noncomputable abbrev zT4 (h : Heap) (l l' : Addr) : Heap := (zT3 h l l').push { cls := .type "tuple", data := .seq #[.none, .none] }
noncomputable abbrev zT5 (h : Heap) (l l' : Addr) : Heap := (zT4 h l l').push { cls := .type "zip", data := .fields #[.none, .bool false, .bool false, .ref (zT2 h l l').objs.size, .ref (zT3 h l l').objs.size] }
theorem meets_zipT (l l' : Addr) (us vs : Array Value) : Meets (Builtin.«zip.__new__» ⟨[.type "zip", .ref l, .ref l'], []⟩) (fun _ R s => s.heap.IsTuple l us /\ s.heap.IsTuple l' vs /\ R (.ok (.ret (.ref (zT4 s.heap l l').objs.size))) { s with heap := zT5 s.heap l l' }) :=
 .of_wp fun prog w A R s h => by
  obtain ⟨hp, gs, ds, tk, os⟩ := s
  obtain ⟨t1, t2, h⟩ := h
  have hsub := sub_zip
  have T1 : Heap.IsTuple (Shared.heap ⟨hp, gs, ds, tk, os⟩) l us := t1
  have T2 : Heap.IsTuple (Shared.heap ⟨hp.push { cls := .type "tuple_iterator", data := .fields #[.ref l, .int 0 0] }, gs, ds, tk, os⟩) l' vs := Heap.IsTuple.push t2 _
  wp_walk using wpAny_pyIter_tuple T1, wpAny_pyIter_tuple T2
  exact ⟨_, rfl, h⟩
section
variable {prog : Program} {w : World} {A : Around} {E : Value -> Shared -> Prop} {s : Shared}
theorem call_zipT {l l' : Addr} {us vs : Array Value} {Q : Value -> Shared -> Prop} (t1 : s.heap.IsTuple l us) (t2 : s.heap.IsTuple l' vs)
  (h : ∀ h', IsZip h' (s.heap.objs.size + 4) (s.heap.objs.size + 2) (s.heap.objs.size + 3) .none -> IsPair h' (s.heap.objs.size + 2) (.ref s.heap.objs.size) (.ref (s.heap.objs.size + 1)) -> IsPair h' (s.heap.objs.size + 3) .none .none ->
   h'.IsTupleIter s.heap.objs.size l 0 -> h'.IsTupleIter (s.heap.objs.size + 1) l' 0 -> (∀ c o, s.heap.get? c = some o -> h'.get? c = some o) -> Q (.ref (s.heap.objs.size + 4)) { s with heap := h' }) : wpAny (model prog w) A (call (.type "zip") [.ref l, .ref l']) Q E s := by
 refine callType_new F.called_zip (by decide) (F.typeCall_zip_2 _ _) (F.newCall_zip_2 _ _) (fun obj => F.args_object_init_3 obj _ _) F.entry_zip_new (meets_zipT l l' us vs) ⟨t1, t2, ?_⟩
 have z1 : (zT1 s.heap l).objs.size = s.heap.objs.size + 1 := Heap.size_push ..
 have z2 : (zT2 s.heap l l').objs.size = s.heap.objs.size + 2 := by rw [Heap.size_push, z1]
 have z3 : (zT3 s.heap l l').objs.size = s.heap.objs.size + 3 := by rw [Heap.size_push, z2]
 have z4 : (zT4 s.heap l l').objs.size = s.heap.objs.size + 4 := by rw [Heap.size_push, z3]
 have up : ∀ {h : Heap} {c : Addr} {o o' : Obj}, h.get? c = some o -> (h.push o').get? c = some o := fun e => Heap.get?_push_of_some _ e
 have g5 : (zT5 s.heap l l').get? (zT4 s.heap l l').objs.size = some _ := Heap.get?_push_size _ rfl
 have g4 : (zT5 s.heap l l').get? (zT3 s.heap l l').objs.size = some _ := up (Heap.get?_push_size _ rfl)
 have g3 : (zT5 s.heap l l').get? (zT2 s.heap l l').objs.size = some _ := up (up (Heap.get?_push_size _ rfl))
 have g2 : (zT5 s.heap l l').get? (zT1 s.heap l).objs.size = some _ := up (up (up (Heap.get?_push_size _ rfl)))
 have g1 : (zT5 s.heap l l').get? s.heap.objs.size = some _ := up (up (up (up (Heap.get?_push_size _ rfl))))
 show _ /\ _
 rw [z2, z3, z4] at g5
 rw [z1, z2] at g3
 rw [z3] at g4
 rw [z1] at g2
 rw [z4]
 exact ⟨⟨_, g5, rfl⟩, h _ g5 g3 g4 ⟨_, g1, rfl, rfl⟩ ⟨_, g2, rfl, rfl⟩ fun c o x => up (up (up (up (up x))))⟩
end
theorem noFill_tup_mul : fillsNumberSlot (.type "tuple") "mul" = pure false :=
 fillsNumberSlot_seq (id := "tuple.__mul__") (r := some (.builtin "tuple.__rmul__")) F.slot_tuple_mul.lookup (by decide +kernel) F.slot_tuple_rmul.lookup (by decide +kernel)
theorem repeat_tup : seqRepeat? (.type "tuple") = pure (some (.builtin "tuple.__mul__")) := by
 unfold seqRepeat?
 rw [seqSlot_of (T := "tuple") (name := "__mul__") (id := "tuple.__mul__") F.slot_tuple_mul.lookup (by decide +kernel), seqSlot_of (T := "tuple") (name := "__rmul__") (id := "tuple.__rmul__") F.slot_tuple_rmul.lookup (by decide +kernel)]
 rfl
theorem rmul_tup (i : Int) (t : Tok) (l : Addr) (us : Array Value) : Meets (Builtin.«int.__rmul__» ⟨[.int i t, .ref l], []⟩) (fun _ R s => s.heap.IsTuple l us /\ R (.ok (.ret Value.notImplemented)) s) :=
 .of_wp fun prog w A R s h => by
  obtain ⟨hp, g, d, tk, os⟩ := s
  obtain ⟨⟨⟨cls, dd, data, sl⟩, ho, hc, n, hd⟩, h⟩ := h
  simp only at hc hd
  subst hc hd
  wp_walk
  exact ⟨_, rfl, h⟩
theorem mul_tup (k : Nat) (t : Tok) (l : Addr) (us : Array Value) (hk : 2 <= k) (hu : ¬ us.isEmpty = true) (hz : us.size * k <= sizeLine) (hfit : (List.foldl (fun x1 x2 => x1 ++ x2) #[] (List.replicate k us)).size <= sizeLine) : Meets (Builtin.«tuple.__mul__» ⟨[.ref l, .int k t], []⟩)
  (fun _ R s => s.heap.IsTuple l us /\ R (.ok (.ret (.ref s.heap.objs.size))) { s with heap := s.heap.push { cls := .type "tuple", data := .seq (List.foldl (fun x1 x2 => x1 ++ x2) #[] (List.replicate k us)) } }) :=
 .of_wp fun prog w A R s h => by
  obtain ⟨⟨⟨cls, dd, data, sl⟩, ho, hc, n, hd⟩, h⟩ := h
  simp only at hc hd
  subst hc hd
  have hs : (sizeLine : Nat) = 16777216 := sizeLine_eq
  show wpAny _ _ (asIndex (.int k t) >>= _) _ _ s
  refine wpAny_bind (wpAny_of_eq (a := (k : Int)) rfl ?_)
  have hk' : k <= us.size * k := by
   have : 1 <= us.size := by
    cases q : us.size with
    | zero => exact absurd (by simp [Array.isEmpty, q]) hu
    | succ m => omega
   calc k = 1 * k := (Nat.one_mul k).symm
    _ <= us.size * k := Nat.mul_le_mul_right k this
  rw [if_neg (by simp; omega)]
  refine wpAny_bind (wpAny_tupleItemsOf ho rfl ?_)
  rw [if_neg (by simp at hu; simp [hu]; omega)]
  show wpAny _ _ (if (decide ((k : Int) <= 0) || us.isEmpty) = true then _ else _) _ _ s
  rw [if_neg (by simp at hu; simp [hu]; omega)]
  have hm : (us.size : Int) * (k : Int) = ((us.size * k : Nat) : Int) := by simp
  show wpAny _ _ (if (us.size : Int) * (k : Int) > (2 ^ 63 - 1) / 8 then _ else _) _ _ s
  rw [if_neg (by rw [hm]; omega)]
  show wpAny _ _ (if Builtin.Tuple.tupleTooMany ((us.size : Int) * (k : Int)) = true then _ else _) _ _ s
  rw [if_neg (by unfold Builtin.Tuple.tupleTooMany; rw [hm]; simp; omega)]
  show wpAny _ _ (Builtin.Tuple.tupleExact (List.foldl (fun x1 x2 => x1 ++ x2) #[] (List.replicate k us)) >>= fun v => ret v) _ _ s
  exact wpAny_bind (m := Builtin.Tuple.tupleExact _) (wpAny_newObj_type (wpAny_pure ⟨_, rfl, h⟩) hfit)
end PySem
namespace L2
open PySem PySem.Spec PyProof.Rows
noncomputable def Izt (a b : Addr) : It := ⟨fun i H => ∃ xs ys x y, H a = some (.tup xs) /\ H b = some (.tup ys) /\ xs.length = ys.length /\ xs[i]? = some x /\ ys[i]? = some y,
 fun i H v H' => ∃ T x y, H T = none /\ (∀ xs, H a = some (.tup xs) -> xs[i]? = some x) /\ (∀ ys, H b = some (.tup ys) -> ys[i]? = some y) /\ v = .ref T /\ H' = upd H T (.tup [x, y]),
 fun i H => ∃ xs ys, H a = some (.tup xs) /\ H b = some (.tup ys) /\ xs.length = ys.length /\ i = xs.length⟩
theorem zapT {H : Hp} {a b z TI TO i1 i2 : Addr} {xs ys : List V} (ha : H a = some (.tup xs)) (hb : H b = some (.tup ys)) (hf : ∀ c ∈ [z, TI, TO, i1, i2], H c = none) (hd : [z, TI, TO, i1, i2].Nodup) : Ap z TI TO i1 i2 [i1, a] [i2, b] := by
 have f : ∀ c ∈ [z, TI, TO, i1, i2], a ≠ c /\ b ≠ c := fun c hc => ⟨fun e => (by rw [e, hf c hc] at ha; cases ha), fun e => (by rw [e, hf c hc] at hb; cases hb)⟩
 simp at hd f
 obtain ⟨⟨d1, d2, d3, d4⟩, ⟨d5, d6, d7⟩, ⟨d8, d9⟩, d10⟩ := hd
 obtain ⟨⟨f1, g1⟩, ⟨f2, g2⟩, ⟨f3, g3⟩, ⟨f4, g4⟩, f5, g5⟩ := f
 exact ⟨Ne.symm d1, Ne.symm d2, Ne.symm d3, Ne.symm d4, d5, d6, d7, d8, d9, d10, by simp [d3, Ne.symm f1], by simp [d8, Ne.symm f3], by simp [Ne.symm d10, Ne.symm f5], by simp [d4, Ne.symm g1], by simp [d9, Ne.symm g3], by simp [d10, Ne.symm g4]⟩
theorem turn_zipT {P : Program} {w : World} {K : PySem.W.Frag} {elts : List Expr} {k : Nat} {pos : Pos} (a b z TI TO i1 i2 : Addr) (hd : [z, TI, TO, i1, i2].Nodup) :
  Turn P w K (.Tuple elts k pos) (Izt a b) [z, TI, TO, i1, i2] z (fun i h => IsZip h z TI TO .none /\ IsPair h TI (.ref i1) (.ref i2) /\ (∃ u v, IsPair h TO u v) /\ h.IsTupleIter i1 a i /\ h.IsTupleIter i2 b i) where
 mem := by simp
 obj := fun i h st c hc => by
  obtain ⟨hz, hTI, ⟨u, v, hTO⟩, ⟨o1, ho1, c1, d1⟩, o2, ho2, c2, d2⟩ := st
  simp at hc
  rcases hc with rfl | rfl | rfl | rfl | rfl
  ·exact ⟨_, hz, fun v z => nomatch z⟩
  ·exact ⟨_, hTI, fun v z => nomatch z⟩
  ·exact ⟨_, hTO, fun v z => nomatch z⟩
  ·exact ⟨o1, ho1, fun v z => by rw [d1] at z; cases z⟩
  ·exact ⟨o2, ho2, fun v z => by rw [d2] at z; cases z⟩
 keep := fun i h h' st kk => by
  obtain ⟨hz, hTI, ⟨u, v, hTO⟩, ⟨o1, ho1, r1⟩, o2, ho2, r2⟩ := st
  exact ⟨kk z (by simp) _ hz, kk TI (by simp) _ hTI, ⟨u, v, kk TO (by simp) _ hTO⟩, ⟨o1, kk i1 (by simp) o1 ho1, r1⟩, ⟨o2, kk i2 (by simp) o2 ho2, r2⟩⟩
 item := by
  intro X hP hw hK hc i pins s σ H E I hf st hg
  subst hP hw hK
  obtain ⟨xs, ys, x, y, hA, hB, hlen, hx, hy⟩ := hg
  obtain ⟨its, rv, p, hz⟩ := I.tuple (SqT.of hA)
  obtain ⟨its2, rv2, p2, hz2⟩ := I.tuple (SqT.of hB)
  obtain ⟨u, hu, ru⟩ := rv.get hx
  obtain ⟨u2, hu2, ru2⟩ := rv2.get hy
  have R := zapT hA hB (fun c hc => (hf c hc).1) hd
  have hil : i < its.toArray.size := by simpa using (List.getElem?_eq_some_iff.mp hu).1
  have hil2 : i < its2.toArray.size := by simpa using (List.getElem?_eq_some_iff.mp hu2).1
  have hh : X.A.in1.handled = none := I.ok.hd hc
  have D := drawsT (prog := X.prog) (w := X.w) (A := X.A.in1) hh i1 a (fun e => by rw [e, (hf i1 (by simp)).1] at hA; cases hA) its.toArray
  have D2 := drawsT (prog := X.prog) (w := X.w) (A := X.A.in1) hh i2 b (fun e => by rw [e, (hf i2 (by simp)).1] at hB; cases hB) its2.toArray
  obtain ⟨a0, b0, hTO⟩ := st.2.2.1
  refine nextZ_item D D2 R st.1 st.2.1 hTO ⟨st.2.2.2.1, p⟩ ⟨st.2.2.2.2, p2⟩ hil hil2 fun q q2 h' tk hq hq2 z1 o1 s1 s2 pr kk => ⟨_, rfl, ?_⟩
  have e1 : q = u := by
   have h1 : its[i]? = some q := by simpa using hq
   rw [hu] at h1
   exact (Option.some.inj h1).symm
  have e2 : q2 = u2 := by
   have h1 : its2[i]? = some q2 := by simpa using hq2
   rw [hu2] at h1
   exact (Option.some.inj h1).symm
  subst e1 e2
  refine wpAny_letOwnedTupleGo_zip (s := { s with heap := h', toks := tk }) z1 fun h'' z2 q2' => ?_
  have T1 : s.heap.objs.size ≠ z := Nat.ne_of_gt (Heap.lt_size st.1)
  have up : ∀ c o, c ≠ z -> h'.get? c = some o -> h''.get? c = some o := fun c o c1 e => q2'.extBut _ _ c1 e
  have keep : ∀ c o, c ∉ [z, TI, TO, i1, i2] -> s.heap.get? c = some o -> h''.get? c = some o := fun c o hc e => by
   simp at hc
   exact up c o hc.1 (kk c o hc.1 hc.2.2.1 hc.2.2.2.1 hc.2.2.2.2 e)
  have I1 : Inv X pins σ H { s with heap := h'', toks := tk } := I.turnedL keep hf
  have hn : H s.heap.objs.size = none := I.hok.fresh (Nat.le_refl _)
  have lt : ∀ {c o}, s.heap.get? c = some o -> c ≠ s.heap.objs.size := fun e => Nat.ne_of_lt (Heap.lt_size e)
  have I2 : Inv X pins σ (upd H s.heap.objs.size (.tup [x, y])) { s with heap := h'', toks := tk } := by
   refine I1.track (.inl (Heap.get?_none_of_le I.sz)) hn (Nat.ne_of_gt I.lt) (fun y c' q z => ?_) (fun p hp z => ?_) ?_
   ·obtain ⟨v, q'⟩ := I.cell y c' q
    exact absurd q'.lt (by rw [z]; exact Nat.lt_irrefl _)
   ·exact absurd (Heap.lt_size (I.pin p hp).1) (by rw [z]; exact Nat.lt_irrefl _)
   ·exact ⟨by show 2 <= sizeLine; decide, [q, q2], .cons ru (.cons ru2 .nil), _, up _ _ T1 pr, rfl, _, rfl⟩
  refine ⟨.ref s.heap.objs.size, _, I2, rfl, ⟨s.heap.objs.size, x, y, hn, (fun zs hy' => ?_), (fun zs hy' => ?_), rfl, rfl⟩, ⟨z2, up _ _ R.az (kk _ _ R.az R.ab R.ai R.aj st.2.1), ⟨_, _, up _ _ R.bz o1⟩, s1.1.extBut q2'.extBut R.iz, s2.1.extBut q2'.extBut R.jz⟩, fun c hc => ?_⟩
  ·rw [hA] at hy'
   cases hy'
   exact hx
  ·rw [hB] at hy'
   cases hy'
   exact hy
  ·have hcT : c ≠ s.heap.objs.size := by
    obtain ⟨o1', ho1', _⟩ := st.2.2.2.1
    obtain ⟨o2', ho2', _⟩ := st.2.2.2.2
    have hc' := hc
    simp at hc'
    rcases hc' with rfl | rfl | rfl | rfl | rfl
    ·exact lt st.1
    ·exact lt st.2.1
    ·exact lt hTO
    ·exact lt ho1'
    ·exact lt ho2'
   rw [upd_ne hcT]
   exact (hf c hc).1
 done := by
  intro X hP hw hK hc i pins s σ H E I hf st hg
  subst hP hw hK
  obtain ⟨xs, ys, hA, hB, hlen, hx⟩ := hg
  obtain ⟨its, rv, p, hz⟩ := I.tuple (SqT.of hA)
  have hl := rv.length
  have R := zapT hA hB (fun c hc => (hf c hc).1) hd
  have hh : X.A.in1.handled = none := I.ok.hd hc
  have D := drawsT (prog := X.prog) (w := X.w) (A := X.A.in1) hh i1 a (fun e => by rw [e, (hf i1 (by simp)).1] at hA; cases hA) its.toArray
  have hi : i = its.toArray.size := by rw [hx, hl]; simp
  subst hi
  exact nextZ_end D R st.1 st.2.1 ⟨st.2.2.2.1, p⟩ fun h' kk => ⟨rfl, I.turnedL (fun c o hc q => by simp at hc; exact kk c o hc.1 hc.2.2.2.1 q) hf⟩
 self := fun A i s Q E st h => wpAny_pyIter_zip st.1 h
noncomputable def iZipT (ta : TA) : TI := fun σ H R => ta σ H fun vs H1 => ∃ (a b : Addr) (xs ys : List V), vs = [.ref a, .ref b] /\ H1 a = some (.tup xs) /\ H1 b = some (.tup ys) /\ R (Izt a b) H1
section
variable {X : Cx}
theorem pi_zipT {elts : List Expr} {k : Nat} {tpos p pos : Pos} {a b : Expr} {ta : TA} (hg : Gl X "zip") (hm : X.mg "zip" = none) (ha : PA X [a, b] ta) (hs : starEach [a, b] X.env = (false, eval a X.env) :: starEach [b] X.env := by rfl) (hs2 : (backTo pos (starEach [b] X.env)).any (·.1) = false := by rfl) :
  PI X (.Tuple elts k tpos) (.Call (.Name "zip" p) [a, b] [] pos) (iZipT ta) := by
 intro pins s σ H R I h
 refine Call_ (ld_blt I hg hm b_zipT (PyProof.Rows.callWith_type1 (thn (ha pos pins s σ H _ I h) fun us s1 ⟨vs, H1, I1, r1, q1⟩ => ?_) hs hs2))
 obtain ⟨l1, l2, xs, ys, e, hA, hB, q⟩ := q1
 subst e
 obtain ⟨u1, u2, rfl, ru1, ru2⟩ := r1.two
 cases ru1
 cases ru2
 obtain ⟨its, rv, pl, hz⟩ := I1.tuple (SqT.of hA)
 obtain ⟨its2, rv2, pl2, hz2⟩ := I1.tuple (SqT.of hB)
 refine call_zipT pl pl2 fun h' hz' hTI hTO h1 h2 hk => ?_
 refine wpAny_pyIter_zip hz' ?_
 refine ⟨s1.heap.objs.size + 4, [s1.heap.objs.size + 4, s1.heap.objs.size + 2, s1.heap.objs.size + 3, s1.heap.objs.size, s1.heap.objs.size + 1], _, _, H1, rfl, I1.kept (t' := s1.toks) hk, turn_zipT l1 l2 _ _ _ _ _ (by simp), ⟨hz', hTI, ⟨_, _, hTO⟩, h1, h2⟩, fun b hb => ?_, q⟩
 simp at hb
 have hge : s1.heap.objs.size <= b := by
  rcases hb with r | r | r | r | r <;> rw [r] <;> first | exact Nat.le_refl _ | exact Nat.le_add_right _ _
 exact I1.fpOk hge (I1.hok.fresh hge)
noncomputable def rRepT : R2 := fun x y H Q => ∃ l k xs, x = .ref l /\ y = .int ((k : Nat) : Int) /\ H l = some (.tup xs) /\ 2 <= k /\ xs ≠ [] /\ xs.length * k <= sizeLine /\ ∀ p, H p = none -> Q (.ref p) (upd H p (.tup (List.replicate k xs).flatten))
theorem op_repT : OpR X (binaryOp .Mult) rRepT := by
 intro pins s σ H x y v u Q I rx ry h
 obtain ⟨l, k, xs, rfl, rfl, hH, h1, h2, hz, q⟩ := h
 cases rx
 obtain ⟨t, rfl⟩ := ry
 obtain ⟨its, r, p, _⟩ := I.tuple (SqT.of hH)
 have hl := r.length
 have hnew : List.foldl (fun x1 x2 => x1 ++ x2) #[] (List.replicate k its.toArray) = (List.replicate k its).flatten.toArray := by
  have := foldl_rep its k []
  rw [List.nil_append] at this
  exact this
 have hlen : its.toArray.size * k <= sizeLine := by rw [List.size_toArray, <- hl]; exact hz
 have ht : s.TypeIs (.ref l) "tuple" := let ⟨o, e, c, _⟩ := p; ⟨o, e, c⟩
 refine wpAny_binaryOp_repeat_ref (T := "tuple") (U := "int") (by decide) ht (fun s' => typeIs_int s' k t) noFill_tup_mul F.fills_int_mul F.slot_int_rmul repeat_tup F.slot_int_index.lookup
  (call_meets F.slot_int_rmul (typeIs_int s k t) F.entry_int_rmul (F.args_int_rmul_2 _ _) (rmul_tup k t l its.toArray)
   ⟨p, rfl, ht, call_meets F.slot_tuple_mul ht F.entry_tuple_mul (F.args_tuple_mul_2 _ _) (mul_tup k t l its.toArray h1 ?_ hlen (by rw [hnew, List.size_toArray, len_rep, Nat.mul_comm]; simpa using hlen)) ⟨p, ?_⟩⟩)
 ·intro e
  apply h2
  have : its = [] := by simpa using e
  rw [this] at hl
  exact List.eq_nil_of_length_eq_zero (by simpa using hl)
 rw [hnew]
 have hf : H s.heap.objs.size = none := I.hok.fresh (Nat.le_refl _)
 refine ⟨.ref s.heap.objs.size, upd H s.heap.objs.size (.tup (List.replicate k xs).flatten), I.laid (t' := s.toks) (fun b u e => Heap.get?_push_of_some _ e) (Nat.le_refl _) ?_, rfl, q _ hf⟩
 exact ⟨by rw [len_rep, Nat.mul_comm]; exact hz, _, r.rep k, ⟨_, Heap.get?_push_size _ rfl, rfl, _, rfl⟩⟩
noncomputable def rNeS : R2 := fun x y H Q => ∃ a b xs, x = .ref a /\ y = .ref b /\ H a = some (.lst xs) /\ H b = some (.lst xs) /\ (∀ v ∈ xs, ∃ p, v = .ref p) /\ Q (.bl false) H
theorem refs_same : ∀ {xs : List V} {us vs : List Value}, (∀ v ∈ xs, ∃ p, v = .ref p) -> Vals xs us -> Vals xs vs -> us = vs
 | _, _, _, _, .nil, .nil => rfl
 | x :: xs, _, _, h, .cons r1 t1, .cons r2 t2 => by
  obtain ⟨p, rfl⟩ := h x (by simp)
  cases r1
  cases r2
  rw [refs_same (fun v hv => h v (by simp [hv])) t1 t2]
theorem op_neS (hu : X.A.units + 100 < cLine) : OpR X (compareOp .NotEq) rNeS := by
 intro pins s σ H x y v u Q I rx ry h
 obtain ⟨a, b, xs, rfl, rfl, hA, hB, hr, q⟩ := h
 cases rx
 cases ry
 obtain ⟨its, r, pl, hz⟩ := I.list (SqL.of hA)
 obtain ⟨its2, r2, pl2, hz2⟩ := I.list (SqL.of hB)
 have e := refs_same hr r r2
 subst e
 have := SeqAt.RcNeAt.lists (A := X.A) (e := fun _ => true) pl.isList pl2.isList rfl (by omega) fun j h1 h2 => SeqAt.EqAt.same _
 refine this X.prog X.w X.xe _ ?_
 exact ⟨.bl false, H, I, by simp [RelV], q⟩
end
theorem comp_izt {a b : Addr} {xs ys : List V} {g : TG} {tc : TT} {te : TE} {σ0 : St} {H : Hp} {Q : VK} (Pv : Nat -> List V -> Hp -> Prop) (hz : xs.length < sizeLine) (he : xs.length = ys.length) (hl : ∀ i zs H, Pv i zs H -> H a = some (.tup xs) /\ H b = some (.tup ys)) (h0 : Pv 0 [] H)
  (hs : ∀ i x y zs H T (N : List V -> Hp -> Prop), xs[i]? = some x -> ys[i]? = some y -> Pv i zs H -> H T = none -> (∀ zs' H2, Pv (i + 1) zs' H2 -> N zs' H2) ->
   g (.ref T) σ0 (upd H T (.tup [x, y])) fun σ2 H2 => tc σ2 H2 fun b H3 => if b = true then te σ2 H3 fun y H4 => N (zs ++ [y]) H4 else N zs H3)
  (hd : ∀ zs H, Pv xs.length zs H -> zs.length <= xs.length -> ∀ p, H p = none -> Q (.ref p) (upd H p (.lst zs))) : CompR (Izt a b) g tc te σ0 Q H := comp_by xs.length Pv hz
 (fun i zs H hi p => ⟨xs, ys, xs[i], ys[i]'(by omega), (hl i zs H p).1, (hl i zs H p).2, he, by simp [hi], by simp [he ▸ hi]⟩) (fun zs H p => ⟨xs, ys, (hl _ zs H p).1, (hl _ zs H p).2, he, rfl⟩) h0
 (fun i zs H v H' N hi p y hN => by
  obtain ⟨T, x, y, hT, e1, e2, rfl, rfl⟩ := y
  exact hs i x y zs _ T N (e1 xs (hl i zs _ p).1) (e2 ys (hl i zs _ p).2) p hT hN) hd
end L2
namespace Gn
open PySem L2 PyProof.Rows PySem.Spec
section
variable {P : Program} {w : World} {K : PySem.W.Frag} {mg : Str -> Option Value} {base h : Heap}
noncomputable def isStrV : V -> Bool
 | .str _ => true
 | _ => false
noncomputable def isIntV : V -> Bool
 | .int _ => true
 | .bl _ => true
 | _ => false
noncomputable def isBlV : V -> Bool
 | .bl _ => true
 | _ => false
noncomputable def Known (K : PySem.W.Frag) (H : Hp) (x : V) : Prop := ∃ n, TyOf K H x (.type n)
theorem kit_str {K : PySem.W.Frag} {H : Hp} {x : V} {n : String} (h : TyOf K H x (.type n)) : PySem.W.kitOne K (.type n) (.type "str") = some (isStrV x) := by
 cases h <;> kernel_rfl
theorem kit_int {K : PySem.W.Frag} {H : Hp} {x : V} {n : String} (h : TyOf K H x (.type n)) : PySem.W.kitOne K (.type n) (.type "int") = some (isIntV x) := by
 cases h <;> kernel_rfl
theorem kit_bool {K : PySem.W.Frag} {H : Hp} {x : V} {n : String} (h : TyOf K H x (.type n)) : PySem.W.kitOne K (.type n) (.type "bool") = some (isBlV x) := by
 cases h <;> kernel_rfl
theorem same_upd {H : Hp} {a : Addr} {o : HO} (h : H a = none) : Same H (upd H a o) := fun b u e => by rw [upd_ne (ne_of_none e h)]; exact e
theorem Same.upd {H H' : Hp} {a : Addr} {o : HO} (s : Same H H') (h : H' a = none) : Same H (upd H' a o) := s.trans (same_upd h)
structure Df (K : PySem.W.Frag) (mg : Str -> Option Value) (x : Str) (st : Stmt) (f : Addr) (fd : FuncData) : Prop where
 F : Fun K x x st f fd
 m : mg x = some (.ref f)
theorem b_isi : bootBuiltins "isinstance" = some (.builtin "isinstance") := by decide +kernel
theorem b_int : bootBuiltins "int" = some (.type "int") := by decide +kernel
theorem b_bool : bootBuiltins "bool" = some (.type "bool") := by decide +kernel
theorem b_str : bootBuiltins "str" = some (.type "str") := by decide +kernel
theorem b_list : bootBuiltins "list" = some (.type "list") := by decide +kernel
theorem b_tuple : bootBuiltins "tuple" = some (.type "tuple") := by decide +kernel
theorem b_len : bootBuiltins "len" = some (.builtin "len") := by decide +kernel
theorem b_all : bootBuiltins "all" = some (.builtin "all") := by decide +kernel
theorem b_val : bootBuiltins "ValueError" = some (.type "ValueError") := by decide +kernel
theorem binds1 {x p : Str} {st : Stmt} {f : Addr} {fd : FuncData} (F : Fun K x x st f fd)
  (h : ∀ (kV doc pm : Value) (an : Option Addr) (cdv ct : Value) (u : Value), bindArgs (PySem.W.fnOf x x (defArgs st) (defBody st) (defScope st) .none kV doc pm an cdv ct) ⟨[u], []⟩ = pure ([p].zip [u])) : Binds K fd [p] [] :=
 F.binds fun kV doc pm an cdv ct us hl => match us, hl with | [u], _ => h kV doc pm an cdv ct u
theorem g1 {i : Nat} {v : V} {σ : L2.St} {H : Hp} {te : TE} {M : V -> Hp -> Prop} {N0 : Hp -> Prop} (h : te (σ.set i (some v)) H M) : gName i v σ H fun σ2 H2 => tNoIf σ2 H2 fun b H3 => if b = true then te σ2 H3 M else N0 H3 := by
 show if true = true then te (σ.set i (some v)) H M else N0 H
 exact iteT h
structure Ex (K : PySem.W.Frag) (mg : Str -> Option Value) (x : Str) (C : Addr) : Prop where
 m : mg x = some (.ref C)
 q : PySem.W.excIn K C [.type "ValueError", .type "Exception", .type "BaseException", .type "object"] "ValueError.__new__" = true
structure DfD (K : PySem.W.Frag) (mg : Str -> Option Value) (x : Str) (st : Stmt) (f : Addr) (fd : FuncData) (items : Array Value) : Prop where
 ex : ∃ (oc : Value) (od : Option Addr) (kV doc pm : Value) (an : Option Addr) (cdv ct : Value) (osl : Array (Option Value)) (T : Addr) (o : Obj) (n : Nat),
  fd = PySem.W.fnOf x x (defArgs st) (defBody st) (defScope st) (.ref T) kV doc pm an cdv ct /\ K.lookup f = some ⟨oc, od, .func fd, osl⟩ /\ PySem.W.codeIn K cdv x = true /\ K.lookup T = some o /\ o.data = .seq items n
 kp : PySem.W.keepIn K (.ref f) = true
 m : mg x = some (.ref f)
theorem dt_ints {K : PySem.W.Frag} {H : Hp} : ∀ (ns : List Int), DtVs K H (ns.map V.int) (ns.map PyData.int)
 | [] => .nil
 | n :: ns => .cons (.int n) (dt_ints ns)
theorem lay_ints : ∀ (ns : List Int), (PyData.list (ns.map PyData.int)).canLay0 = true := by
 intro ns
 induction ns with
 | nil => rfl
 | cons n ns ih => exact ih
theorem Paired.imp2 {α β : Type} {F G : α -> β -> Prop} : ∀ {l : List α} {m : List β}, Paired F l m -> (∀ a b, F a b -> G a b) -> Paired G l m
 | _, _, .nil, _ => .nil
 | _, _, .cons r t, f => .cons (f _ _ r) (Paired.imp2 t f)
theorem Paired.len {α β : Type} {F : α -> β -> Prop} : ∀ {l : List α} {m : List β}, Paired F l m -> l.length = m.length
 | _, _, .nil => rfl
 | _, _, .cons _ t => by simp [Paired.len t]
theorem same_app {H0 H : Hp} {a t : Addr} {o o' : HO} (s : Same H0 H) (ha : H0 a = none) (ht : H t = none) : Same H0 (upd (upd H t o) a o') := fun b u e => by
 rw [upd_ne (ne_of_none e ha), upd_ne (ne_of_none (s b u e) ht)]
 exact s b u e
theorem nif {te : TE} {σ2 : L2.St} {H2 : Hp} {M : VK} {N0 : Hp -> Prop} (h : te σ2 H2 M) : tNoIf σ2 H2 (fun b H3 => if b = true then te σ2 H3 M else N0 H3) := by
 show if true = true then te σ2 H2 M else N0 H2
 exact iteT h
theorem mod_ix {r n : Int} (hn : 0 < n) : ∃ j : Nat, (j : Int) = r % n /\ (j : Int) < n := by
 have h1 := Int.emod_nonneg r (show n ≠ 0 by omega)
 have h2 := Int.emod_lt_of_pos r hn
 exact ⟨(r % n).toNat, by omega, by omega⟩
noncomputable def tIfJ (c : TT) (t u : TS) : TS := fun D σ H => ∃ J : L2.St -> Hp -> Prop, (c σ H fun b H1 => if b = true then t { D with nx := J } σ H1 else u { D with nx := J } σ H1) /\ ∀ σ' H', J σ' H' -> D.nx σ' H'
theorem ps_ifJ {X : Cx} {c : Expr} {a b : List Stmt} {tc : TT} {t u : TS} {pos : Pos} (hc : PT X c tc) (ha : PSs X a t) (hb : PSs X b u) : PS X (.If c a b pos) (tIfJ tc t u) := by
 intro pins s σ H D I h
 obtain ⟨J, h1, h2⟩ := h
 refine thn (ps_if hc ha hb pins s σ H { D with nx := J } I h1) fun f s1 q => ?_
 cases f with
 | next => obtain ⟨σ', H', I', q⟩ := q; exact ⟨σ', H', I', h2 _ _ q⟩
 | brk => exact q
 | cont => exact q
 | ret u => exact q
theorem PE.imp {X : Cx} {e : Expr} {t t' : TE} (h : PE X e t) (i : ∀ σ H Q, t' σ H Q -> t σ H Q) : PE X e t' := fun pins s σ H Q I q => h pins s σ H Q I (i σ H Q q)
theorem eqv_same {d : PyData} (h : d.canLay0 = true) : PyData.eqv d d = true := SeqAt.eqv_refl d h
theorem ix_listK {X : Cx} {K : PySem.W.Frag} (h : X.K = K) : IxR X (rIxL K) := by subst h; exact ix_list
theorem ix_tupK {X : Cx} {K : PySem.W.Frag} (h : X.K = K) : IxR X (rIxT K) := by subst h; exact ix_tup
theorem comp_itt {K : PySem.W.Frag} {a : Addr} {xs : List V} {g : TG} {tc : TT} {te : TE} {σ0 : L2.St} {H : Hp} {Q : VK} (Pv : Nat -> List V -> Hp -> Prop) (hz : xs.length < sizeLine) (hl : ∀ i ys H, Pv i ys H -> SqT K H a xs) (h0 : Pv 0 [] H)
  (hs : ∀ i x ys H (N : List V -> Hp -> Prop), xs[i]? = some x -> Pv i ys H -> (∀ ys' H2, Pv (i + 1) ys' H2 -> N ys' H2) ->
   g x σ0 H fun σ2 H2 => tc σ2 H2 fun b H3 => if b = true then te σ2 H3 fun y H4 => N (ys ++ [y]) H4 else N ys H3)
  (hd : ∀ ys H, Pv xs.length ys H -> ys.length <= xs.length -> ∀ p, H p = none -> Q (.ref p) (upd H p (.lst ys))) : CompR (Itt K a) g tc te σ0 Q H := comp_by xs.length Pv hz
 (fun i ys H hi p => ⟨xs, xs[i], hl i ys H p, by simp [hi]⟩) (fun ys H p => ⟨xs, hl _ ys H p, Nat.le_refl _⟩) h0
 (fun i ys H v H' N hi p y hN => by
  obtain ⟨e, y⟩ := y
  subst e
  exact hs i v ys _ N (y xs (hl i ys _ p)) p hN) hd
theorem kit_ll {K : PySem.W.Frag} : PySem.W.kitOne K (.type "list") (.type "list") = some true := by kernel_rfl
theorem passN {P : Program} {w : World} {X : Cx} : Passes (CX1 P w) X E0 := fun _ _ _ _ _ _ _ h => (CX1.no h).elim
theorem df_mk {x : Str} {st : Stmt} {f : Addr} {oc kV doc pm cd ct : Value} {od an : Option Addr} {sl : Array (Option Value)} (X : K.In h) (G : h.Ns mainGlobals mg) (a : PySem.W.nsIn K mainGlobals x = some (some (.ref f)))
  (l : K.lookup f = some ⟨oc, od, .func (PySem.W.fnOf x x (defArgs st) (defBody st) (defScope st) .none kV doc pm an cd ct), sl⟩) (c : PySem.W.codeIn K cd x = true) (k : PySem.W.keepIn K (.ref f) = true) : ∃ f fd, Df K mg x st f fd :=
 ⟨f, _, fun_mk l c k, PySem.W.mg_of X G a⟩
end
open PySem PySem.W PySem.Calls PyProof.Rows
theorem bits_all : ∀ (ns : List Int) (m : Nat), WData.weightAll (ns.map WData.int) <= m -> ∀ n ∈ ns, Builtin.Int.intBits n <= m
 | [], _, _, _, h => nomatch h
 | i :: ns, m, hw, n, h => by
  have hw' : Builtin.Int.intBits i + 1 + WData.weightAll (ns.map WData.int) <= m := hw
  rcases List.mem_cons.mp h with rfl | h
  ·omega
  ·exact bits_all ns m (by omega) n h
theorem bits_lay {ns : List Int} (h : WData.layableAll [WData.list (ns.map WData.int)] = true) : ∀ n ∈ ns, Builtin.Int.intBits n <= 2 ^ 20 := by
 have h1 : (WData.layable (WData.list (ns.map WData.int)) && true) = true := h
 rw [Bool.and_true] at h1
 have h2 := (Bool.and_eq_true_iff.mp h1).2
 exact bits_all ns _ (of_decide_eq_true h2)
theorem attachB {l : OpenLaw} {n : Nat} {q : Program} {loose : List Str} {XP : (Str -> Option Value) -> Heap -> Prop} {YP : World -> Heap -> Prop} {d : DefRec}
  (hn : l.most = some n) (hdf : d.params.defaults = [])
  (call : ∀ (w : World) (s₀ s₁ : Shared) (mg mb : Str -> Option Value) (fa : Addr) (a : Addr) (vs : List Value) (ns : List Int),
   Ground q loose [] XP w s₀ mg mb s₁.heap -> YP w s₁.heap -> mg d.name = some (.ref fa) ->
   s₁.heap.get? a = some { cls := .type "list", data := .seq vs.toArray } -> IntsAre vs ns -> ns.length <= n -> (∀ i ∈ ns, Builtin.Int.intBits i <= 2 ^ 20) -> s₁.gens = #[] ->
   codeAny (model l.prog w) callerA (.call (.ref fa) ⟨[.ref a], []⟩) (fun r s' => r = .ok (.ret (.bool true)) /\ OldK s₁.heap s'.heap /\ s'.os = s₁.os /\ AllBare s'.gens) s₁) :
  WalkO q loose XP YP l.row.toRowW d [] (fun f vs => PySem.call f vs) := by
 intro w s₀ s₁ mg mb G Y fa o pm cd doc dV kV ho hd hcd hD hmg hg args vals as hpre hlay hrd hwl hlo
 obtain rfl : dV = .none := Dflts.none hD hdf
 obtain rfl : kV = .none := Dflts.noKw hD
 obtain ⟨a, vs, ns, rfl, rfl, hobj, hints, hlen⟩ := Att.script_of hn hpre hwl
 refine enter_call (codeAny_mono (call w s₀ s₁ mg mb fa a vs ns G Y hmg hobj hints hlen (bits_lay hlay) hg) fun r s' hq => ?_)
 obtain ⟨rfl, h2, h3, h4⟩ := hq
 exact ⟨.inl ⟨.bool true, .bool true, [], rfl, fun _ => rfl, .bool true, Att.post_true l _, fun _ => ⟨List.Pairwise.nil, fun _ hm => (nomatch hm)⟩⟩, h2, h3, h4⟩
theorem walkB {l : PySem.W.OpenLaw} {n k : Nat} {q : Program} {loose : List Str} {XP : (Str -> Option Value) -> Heap -> Prop} {YP : World -> Heap -> Prop} {d : DefRec} {K : Params -> PySem.W.Frag} {sp : PySem.W.Frag -> Sp} {x : Str}
  (hn : l.most = some n) (hn2 : n <= sizeLine) (hdf : d.params.defaults = []) (hr : Room k callerA)
  (hY : ∀ (w : World) (h : Heap), YP w h -> (K w.params).In h)
  (F : ∀ (w : World) (mg : Str -> Option Value) (fa : Addr) (h : Heap), (K w.params).In h -> h.Ns mainGlobals mg -> mg d.name = some (.ref fa) ->
   ∃ fd : FuncData, (∀ (s : Shared) (u : Value), BindsTo s fd ⟨[u], []⟩ [(x, u)]) /\
    ∀ base : Heap, (K w.params).In base -> base.Ns mainGlobals mg -> FnOk l.prog w (K w.params) mg base CX0 k fa fd [x] (sp (K w.params)))
  (hsp : ∀ (K : PySem.W.Frag) (H : Hp) (a : Addr) (ns : List Int), ns.length <= n -> (∀ i ∈ ns, Builtin.Int.intBits i <= 2 ^ 20) -> SqL K H a (ns.map V.int) -> sp K [.ref a] H (fun v _ => v = .bl true) fun _ _ _ => False) :
  PySem.W.WalkO q loose XP YP l.row.toRowW d [] (fun f vs => PySem.call f vs) := by
 refine attachB hn hdf fun w s₀ s₁ mg mb fa a vs ns G Y hmg hobj hints hlen hbits hg => ?_
 have KX := hY w _ Y
 obtain ⟨fd, hb, hF⟩ := F w mg fa _ KX G.T.g hmg
 exact law_call KX G.T.g G.T.b G.T.builtins G.T.nolimit hg hobj hints (Nat.le_trans hlen hn2) hr hF hb (fun H hO hS => hsp _ H a ns hlen hbits hS) fun H e s' z => z
section
variable {X : Cx}
end
noncomputable def rIsiE (K : PySem.W.Frag) : List V -> Hp -> VK -> Prop := fun xs H Q => ∃ ea D c b, xs = [.ref ea, c] /\ H ea = some (ExcO ea D) /\ PySem.W.ExcCls K D /\
  ((∃ n, c = .ty n /\ PySem.W.kitOne K (.ref D) (.type n) = some b) \/ (∃ C, c = .ref C /\ PySem.W.kitOne K (.ref D) (.ref C) = some b) \/
   (∃ (p : Addr) (Cs : List Addr), c = .ref p /\ H p = some (.tup (Cs.map V.ref)) /\ PySem.W.kitAny K (.ref D) (Cs.map Value.ref) = some b)) /\ Q (.bl b) H
theorem call_isiEK {X : Cx} {K : PySem.W.Frag} (h : X.K = K) : CallR X (.builtin "isinstance") (rIsiE K) := by subst h; exact call_isiE
end Gn
namespace K04
end K04
namespace BK
open K04
section
variable {α : Type} [DecidableEq α]
end
open PySem L2 PyProof.Rows PySem.Spec Gn K04
end BK
namespace K01
noncomputable def isS (c : Nat) : Bool := (decide (97 <= c) && decide (c <= 122)) || (decide (48 <= c) && decide (c <= 57))
noncomputable def okC (c : Nat) : Bool := decide (c = 10) || (decide (32 <= c) && decide (c <= 126) && !decide (c = 37))
theorem ok_lt {c : Nat} (h : okC c = true) : c < 128 := by
 unfold okC at h
 simp only [Bool.or_eq_true, Bool.and_eq_true, decide_eq_true_eq, Bool.not_eq_true', decide_eq_false_iff_not] at h
 omega
theorem isS_ok {c : Nat} (h : isS c = true) : okC c = true := by
 unfold isS at h
 unfold okC
 simp only [Bool.or_eq_true, Bool.and_eq_true, decide_eq_true_eq, Bool.not_eq_true', decide_eq_false_iff_not] at *
 omega
theorem isS_lt {c : Nat} (h : isS c = true) : c < 128 := ok_lt (isS_ok h)
open PySem L2
noncomputable def rowV (most : Nat) : V -> Bool
 | .str z => decide (1 <= z.length) && decide (z.length <= most) && z.cps.toList.all isS
 | _ => false
noncomputable def Fit (x : V) : Prop := ∀ z, x = .str z -> z.length <= 5000
end K01
namespace K11
open PySem L2 PyProof.Rows PySem.Spec Gn K01
noncomputable def top (i : Nat) : Stmt := PySem.Challenge.pw_findhall_k11_asks_told.main.body.getD i (.Pass ⟨0, 0, 0, 0⟩)
noncomputable abbrev sWhole : Stmt := top 18
noncomputable abbrev sRow : Stmt := top 19
noncomputable abbrev sWord : Stmt := top 22
noncomputable abbrev cAsk : Stmt := top 30
noncomputable abbrev cW : Stmt := top 31
noncomputable abbrev cS : Stmt := top 32
noncomputable abbrev cR : Stmt := top 33
noncomputable abbrev cN : Stmt := top 34
noncomputable abbrev cB : Stmt := top 35
noncomputable abbrev cE : Stmt := top 36
noncomputable abbrev cO : Stmt := top 37
noncomputable abbrev sName : Stmt := top 38
noncomputable abbrev sAWord : Stmt := top 39
noncomputable abbrev sARow : Stmt := top 40
noncomputable abbrev sANear : Stmt := top 41
noncomputable abbrev sWithin : Stmt := top 42
noncomputable abbrev sMany : Stmt := top 43
noncomputable abbrev sAskOf : Stmt := top 44
noncomputable abbrev lMixed : Stmt := top 46
noncomputable abbrev lNumber : Stmt := top 47
noncomputable abbrev lMenu : Stmt := top 48
noncomputable abbrev lPlain : Stmt := top 49
noncomputable abbrev lTree : Stmt := top 50
noncomputable abbrev lKids : Stmt := top 51
noncomputable abbrev lLeaves : Stmt := top 52
noncomputable abbrev lIs : Stmt := top 53
noncomputable abbrev lAlike : Stmt := top 54
noncomputable abbrev lOdd : Stmt := top 55
noncomputable abbrev lSpoilt : Stmt := top 56
noncomputable abbrev lRefused : Stmt := top 57
noncomputable abbrev lWide : Stmt := top 58
noncomputable abbrev lNots : Stmt := top 59
noncomputable abbrev lLaw : Stmt := top 60
structure Txt (mg : Str -> Option Value) : Prop where
 isi : mg "isinstance" = none
 int : mg "int" = none
 bool : mg "bool" = none
 str : mg "str" = none
 list : mg "list" = none
 tuple : mg "tuple" = none
 len : mg "len" = none
 all : mg "all" = none
 range : mg "range" = none
 val : mg "ValueError" = none
 zip : mg "zip" = none
 sum : mg "sum" = none
 cSmall : ∃ t, mg "SMALL_SIGNS" = some (.str "abcdefghijklmnopqrstuvwxyz0123456789" t)
 cWord : ∃ t, mg "MOST_WORD_SIGNS" = some (.int 2000 t)
 cLR : ∃ t, mg "LEAST_IN_ROW" = some (.int 2 t)
 cMR : ∃ t, mg "MOST_IN_ROW" = some (.int 8 t)
 cFar : ∃ t, mg "MOST_FAR" = some (.int 20 t)
 cDeep : ∃ t, mg "MOST_DEEP" = some (.int 8 t)
 cAll : ∃ t, mg "MOST_IN_ALL" = some (.int 40 t)
section
variable {P : Program} {w : World} {K : PySem.W.Frag} {mg : Str -> Option Value} {base : Heap}
noncomputable def spWhole (K : PySem.W.Frag) : Sp := fun vs H Q _ => ∃ x, vs = [x] /\ Known K H x /\ Q (.bl (isIntV x && !isBlV x)) H
theorem scWhole : FnScope ["thing"] ["thing"] (defScope sWhole) := ⟨rfl, rfl, rfl, by decide +kernel, rfl, by decide +kernel, by decide +kernel⟩
seal PSs PS PE PT PA PG PI PGs PIfs in
theorem ok_whole {f : Addr} {fd : FuncData} (D : Df K mg "is_whole" sWhole f fd) (T : Txt mg) : FnOk P w K mg base CX0 1 f fd ["thing"] (spWhole K) := by
 refine D.F.ok scWhole (fun vs H Q E h => ?_) (fun cdv A outer s H vs Q E hr h => ?_)
 ·obtain ⟨x, rfl, _⟩ := h
  rfl
 ·obtain ⟨x, rfl, ⟨n, hty⟩, k⟩ := h
  refine ⟨_, pss_one (ps_ret (pe_and (pe_callB call_isi rfl T.isi b_isi (pa_cons (pv 0) (pa_cons (pe_bltn (v := .ty "int") rfl T.int b_int rfl) pa_nil)))
   (pe_one (pe_not (pe_callB call_isi rfl T.isi b_isi (pa_cons (pv 0) (pa_cons (pe_bltn (v := .ty "bool") rfl T.bool b_bool rfl) pa_nil))))))), ?_⟩
  refine ⟨_, rfl, x, .ty "int", _, _, rfl, hty, .inl ⟨_, rfl, kit_int hty⟩, _, rfl, ?_⟩
  cases hi : isIntV x with
  | false =>
   rw [hi] at k
   exact iteF k
  | true =>
   rw [hi] at k
   refine iteT ?_
   exact ⟨_, rfl, x, .ty "bool", _, _, rfl, hty, .inl ⟨_, rfl, kit_bool hty⟩, _, rfl, k⟩
theorem str_len (z : Str) : z.cps.toList.length = z.length := by simp [Str.length]
theorem cps_get {z : Str} {i c : Nat} (h : z.cps[i]? = some c) : z.cps.toList[i]? = some c := by simpa using h
theorem ndSign : (["sign"] : List Str).Nodup := by decide +kernel
theorem notStrR {x : V} {m : Nat} (h : isStrV x = false) : rowV m x = false := by cases x <;> first | rfl | cases h
theorem isStr {x : V} (h : isStrV x = true) : ∃ z, x = .str z := by cases x <;> first | exact ⟨_, rfl⟩ | cases h
noncomputable def spRow (K : PySem.W.Frag) : Sp := fun vs H Q _ => ∃ (x : V) (m : Nat), vs = [x, .int m] /\ Known K H x /\ Fit x /\ ∀ H', Same H H' -> Q (.bl (rowV m x)) H'
theorem scRow : FnScope ["thing", "most"] ["thing", "most"] (defScope sRow) := ⟨rfl, rfl, rfl, by decide +kernel, rfl, by decide +kernel, by decide +kernel⟩
theorem by128 {f g : Nat -> Bool} (h : ∀ c, c < 128 -> f c = g c) (hf : ∀ c, f c = true -> c < 128) (hg : ∀ c, g c = true -> c < 128) (c : Nat) : f c = g c := by
 by_cases hc : c < 128
 ·exact h c hc
 ·cases ef : f c with
  | true => exact absurd (hf c ef) hc
  | false =>
   cases eg : g c with
   | true => exact absurd (hg c eg) hc
   | false => rfl
theorem mem128 {l : List Nat} (h : l.all (fun x => decide (x < 128)) = true) (c : Nat) (e : decide (c ∈ l) = true) : c < 128 := of_decide_eq_true (List.all_eq_true.mp h c (of_decide_eq_true e))
noncomputable abbrev smallT : Str := Str.ofString "abcdefghijklmnopqrstuvwxyz0123456789"
theorem small_mem : ∀ c : Nat, decide (c ∈ smallT.cps.toList) = isS c := by128 (by decide +kernel) (mem128 (by decide +kernel)) fun c h => isS_lt h
theorem small_in (c : Nat) : (!(Builtin.Str.occurrences (Str.ofString "abcdefghijklmnopqrstuvwxyz0123456789") ⟨#[c]⟩ 0 (Str.ofString "abcdefghijklmnopqrstuvwxyz0123456789").length 1).isEmpty) = isS c := by
 rw [PySem.StrLaws.found_one]
 exact small_mem c
seal PSs PS PE PT PA PG PI PGs PIfs in
theorem ok_row {f : Addr} {fd : FuncData} (D : Df K mg "is_small_row" sRow f fd) (T : Txt mg) : FnOk P w K mg base CX0 1 f fd ["thing", "most"] (spRow K) := by
 obtain ⟨tc, cc⟩ := T.cSmall
 refine D.F.ok scRow (fun vs H Q E h => ?_) (fun cdv A outer s H vs Q E hr h => ?_)
 ·obtain ⟨x, m, rfl, _⟩ := h
  rfl
 ·obtain ⟨x, m, rfl, ⟨n, hty⟩, hfit, k⟩ := h
  refine ⟨_, pss_cons (ps_if (PW.pt (pw_or (pt_not (pt_val (pe_callB call_isi rfl T.isi b_isi (pa_cons (pv 0) (pa_cons (pe_bltn (v := .ty "str") rfl T.str b_str rfl) pa_nil)))))
    (pw_or (pt_cmpR op_lt (pe_callB call_len_str rfl T.len b_len (pa_cons (pv 0) pa_nil)) pe_int (nomark _))
    (pw_or1 (pt_cmpR op_gt (pe_callB call_len_str rfl T.len b_len (pa_cons (pv 0) pa_nil)) (pv 1) (nomark _)))))) (pss_one (ps_ret pe_bl)) pss_nil)
   (pss_one (ps_ret (pe_callB (call_all_bools rfl) rfl T.all b_all (pa_cons (pe_comp (own := 1) (caps := []) (N := ["sign"]) (N0 := ["thing", "most"]) (sc0 := defScope sRow) rfl (pi_str (pv 0))
    (fun _ _ _ => pg_name (i := 0) ndSign rfl (Or.inl rfl)) (fun _ _ _ => pf_none)
    (fun _ _ _ => pe_cmpR op_in_str (pv 0) (pe_glob (v := .str (Str.ofString "abcdefghijklmnopqrstuvwxyz0123456789")) rfl cc ⟨_, rfl⟩) rfl) (gk_name (by decide)) rfl rfl
    (by decide +kernel) rfl (by decide +kernel) (by decide +kernel) rfl (by decide +kernel)) pa_nil)))), ?_⟩
  refine ⟨_, rfl, x, .ty "str", _, _, rfl, hty, .inl ⟨_, rfl, kit_str hty⟩, _, rfl, ?_⟩
  have kH := k H (Same.refl H)
  cases hx : isStrV x with
  | false =>
   rw [notStrR hx] at kH
   exact iteT (iteT kH)
  | true =>
   obtain ⟨z, rfl⟩ := isStr hx
   have hz := hfit z rfl
   have hl : (sizeLine : Nat) = 16777216 := sizeLine_eq
   have rv : rowV m (.str z) = (decide (1 <= z.length) && decide (z.length <= m) && z.cps.toList.all isS) := rfl
   refine iteF ?_
   refine ⟨_, rfl, z, rfl, by (clear rv hx cc; omega), _, _, rfl, rfl, _, rfl, ?_⟩
   by_cases h1 : (z.length : Int) < 1
   ·rw [decide_eq_true h1]
    rw [rv, decide_eq_false (by (clear rv hl hz hx cc; omega)), Bool.false_and, Bool.false_and] at kH
    exact iteT (iteT kH)
   ·rw [decide_eq_false h1]
    refine iteF ⟨_, rfl, z, rfl, by (clear h1 rv hx cc; omega), _, rfl, _, _, rfl, rfl, _, rfl, ?_⟩
    by_cases hlen : (m : Int) < (z.length : Int)
    ·rw [decide_eq_true hlen]
     rw [rv, decide_eq_false (show ¬ z.length <= m by (clear h1 rv hl hz hx cc; omega)), Bool.and_false, Bool.false_and] at kH
     exact iteT kH
    ·rw [decide_eq_false hlen]
     refine iteF ?_
     have sz : z.cps.size = z.length := rfl
     refine ⟨_, rfl, z, rfl, comp_its (x := z) (fun i ys H' => Same H H' /\ ys = ((z.cps.toList.take i).map fun c => V.bl (isS c))) (by (clear hlen h1 rv hx cc; omega)) ⟨Same.refl H, rfl⟩ ?_ ?_⟩
     ·rintro i c ys H' N hc ⟨sm, rfl⟩ hN
      refine g1 ?_
      refine ⟨_, rfl, _, _, rfl, rfl, hN _ _ ⟨sm, ?_⟩⟩
      rw [small_in, List.take_add_one, cps_get hc, List.map_append]
      rfl
     ·rintro ys H' ⟨sm, rfl⟩ _ p hp
      refine ⟨p, z.cps.toList.map isS, rfl, SqL.of (by rw [upd_same, List.take_of_length_le (by simp)]; simp), ?_⟩
      have := k (upd H' p (.lst ((z.cps.toList.take z.cps.size).map fun c => V.bl (isS c)))) (Same.upd sm hp)
      have e : rowV m (.str z) = (z.cps.toList.map isS).all id := by
       rw [rv, decide_eq_true (by (clear hp sz hlen rv hl hz hx cc; omega)), decide_eq_true (by (clear hp sz h1 rv hl hz hx cc; omega)), Bool.true_and, Bool.true_and, List.all_map]
       rfl
      rw [e] at this
      exact this
noncomputable def spIs (K : PySem.W.Frag) (m : Nat) : Sp := fun vs H Q _ => ∃ x, vs = [x] /\ Known K H x /\ Fit x /\ ∀ H', Same H H' -> Q (.bl (rowV m x)) H'
theorem scWord : FnScope ["thing"] ["thing"] (defScope sWord) := ⟨rfl, rfl, rfl, by decide +kernel, rfl, by decide +kernel, by decide +kernel⟩
seal PSs PS PE PT PA PG PI PGs PIfs in
theorem ok_word {f fr : Addr} {fd fdr : FuncData} (D : Df K mg "is_word" sWord f fd) (DR : Df K mg "is_small_row" sRow fr fdr) (T : Txt mg) : FnOk P w K mg base CX0 2 f fd ["thing"] (spIs K 2000) := by
 obtain ⟨tc, cc⟩ := T.cWord
 have GR : FnOk P w K mg base CX0 1 fr fdr ["thing", "most"] (spRow K) := ok_row DR T
 have bR := DR.F.binds (ps := ["thing", "most"]) fun _ _ _ _ _ _ us hl => us2 (fun _ _ => rfl) us hl
 refine D.F.ok scWord (fun vs H Q E h => ?_) (fun cdv A outer s H vs Q E hr h => ?_)
 ·obtain ⟨x, rfl, _⟩ := h
  rfl
 ·obtain ⟨x, rfl, hk, hfit, k⟩ := h
  refine ⟨_, pss_one (ps_ret (pe_call GR hr rfl DR.m DR.F.kp bR .nil pass0 (pa_cons (pv 0) (pa_cons (pe_glob (v := .int 2000) rfl cc ⟨_, rfl⟩) pa_nil)))), ?_⟩
  exact ⟨_, rfl, x, 2000, rfl, hk, hfit, k⟩
noncomputable def spMixed : Sp := fun vs H Q _ => ∃ n k : Int, vs = [.int n, .int k] /\ 0 <= k /\ k <= 1000000 /\ ∀ r : Int, 0 <= r -> r < 2147483629 -> Q (.int r) H
theorem scMixed : FnScope ["_law_number_here", "_law_k"] ["_law_number_here", "_law_k"] (defScope lMixed) := ⟨rfl, rfl, rfl, by decide +kernel, rfl, by decide +kernel, by decide +kernel⟩
seal PSs PS PE PT PA PG PI PGs PIfs in
theorem ok_mixed {f : Addr} {fd : FuncData} (D : Df K mg "_law_mixed" lMixed f fd) : FnOk P w K mg base CX0 1 f fd ["_law_number_here", "_law_k"] spMixed := by
 refine D.F.ok scMixed (fun vs H Q E h => ?_) (fun cdv A outer s H vs Q E hr h => ?_)
 ·obtain ⟨n, k, rfl, _⟩ := h
  rfl
 ·obtain ⟨n, k, rfl, h0, h1, kk⟩ := h
  refine ⟨_, pss_cons (ps_set (i := 0) scMixed.nd rfl (Or.inl rfl) (pe_op op_mod (pe_op op_mul (pe_op op_add (pe_op op_add (pe_op op_mod (pv 0) pe_int) (pe_op op_mul (pe_op op_mul pe_int (pv 1)) (pv 1))) (pe_op op_mul pe_int (pv 1))) pe_int) pe_int))
   (pss_one (ps_ret (pe_op op_mod (pe_op op_mul (pv 0) (pe_op op_add pe_int (pe_op op_mul pe_int (pv 1)))) pe_int))), ?_⟩
  refine ⟨_, rfl, _, _, rfl, rfl, (by show (0 : Int) < 2147483647; decide), _, rfl, _, _, rfl, rfl, .inl ⟨by decide, by decide⟩, _, rfl, _, _, rfl, rfl, .inr ⟨by (clear h1; omega), by (clear h0; omega)⟩, _, _, rfl, rfl, _, rfl, _, _, rfl, rfl, .inl ⟨by decide, by decide⟩, _, _, rfl, rfl,
   _, _, rfl, rfl, .inr ⟨by decide, by decide⟩, _, _, rfl, rfl, (by show (0 : Int) < 2147483647; decide), ?_⟩
  have b1 := Int.emod_nonneg ((n % 2147483647 + 7919 * k * k + 31 * k) * 48271) (show (2147483647 : Int) ≠ 0 by decide)
  have b2 := Int.emod_lt_of_pos ((n % 2147483647 + 7919 * k * k + 31 * k) * 48271) (show (0 : Int) < 2147483647 by decide)
  refine ⟨_, rfl, _, rfl, _, _, rfl, rfl, .inl ⟨by decide, by decide⟩, _, _, rfl, rfl, _, _, rfl, rfl, .inl ⟨by (clear b2 b1 h1 h0; omega), by (clear b2 b1 h1 h0; omega)⟩, _, _, rfl, rfl, (by show (0 : Int) < 2147483629; decide), ?_⟩
  exact kk _ (Int.emod_nonneg _ (by decide)) (Int.emod_lt_of_pos _ (by decide))
noncomputable def spNumber (K : PySem.W.Frag) : Sp := fun vs H Q _ => ∃ (a : Addr) (ns : List Int) (k : Nat), vs = [.ref a, .int k] /\ SqL K H a (ns.map V.int) /\ ns.length <= 63 /\ k <= 1000 /\ ∀ (r : Int) H', 0 <= r -> r < 2147483629 -> Same H H' -> Q (.int r) H'
theorem scNumber : FnScope ["_law_script", "_law_k"] ["_law_script", "_law_k"] (defScope lNumber) := ⟨rfl, rfl, rfl, by decide +kernel, rfl, by decide +kernel, by decide +kernel⟩
seal PSs PS PE PT PA PG PI PGs PIfs in
theorem ok_number {f fm : Addr} {fd fdm : FuncData} (D : Df K mg "_law_number" lNumber f fd) (DM : Df K mg "_law_mixed" lMixed fm fdm) (T : Txt mg) : FnOk P w K mg base CX0 2 f fd ["_law_script", "_law_k"] (spNumber K) := by
 have GM : FnOk P w K mg base CX0 1 fm fdm ["_law_number_here", "_law_k"] spMixed := ok_mixed DM
 have bM := DM.F.binds (ps := ["_law_number_here", "_law_k"]) fun _ _ _ _ _ _ us hl => us2 (fun _ _ => rfl) us hl
 refine D.F.ok scNumber (fun vs H Q E h => ?_) (fun cdv A outer s H vs Q E hr h => ?_)
 ·obtain ⟨a, ns, k, rfl, _⟩ := h
  rfl
 ·obtain ⟨a, ns, k, rfl, hS, hl, hk, kk⟩ := h
  refine ⟨_, pss_cons (ps_if (pt_cmpR (op_eqD hr.units100) (pv 0) (pe_lst pa_nil) (nomark _)) (pss_one (ps_ret (pe_call GM hr rfl DM.m DM.F.kp bM .nil pass0 (pa_cons pe_int (pa_cons (pv 1) pa_nil))))) pss_nil)
   (pss_one (ps_ret (pe_call GM hr rfl DM.m DM.F.kp bM .nil pass0 (pa_cons (pe_ix ix_list (pv 0) (pe_op op_mod (pv 1) (pe_callB call_len_seq rfl T.len b_len (pa_cons (pv 0) pa_nil))) (fun _ _ => rfl)) (pa_cons (pv 1) pa_nil))))), ?_⟩
  refine ⟨_, rfl, Nat.zero_le _, fun p hp => ?_⟩
  have sm : Same H (upd H p (.lst [])) := same_upd hp
  refine ⟨.list (ns.map .int), .list [], .lst (sm.seq hS) (dt_ints ns), .lst (SqL.of upd_same) .nil, lay_ints ns, rfl, Nat.le_trans (Nat.min_le_right _ _) (by decide), _, rfl, ?_⟩
  cases ns with
  | nil =>
   refine iteT ?_
   exact ⟨_, rfl, 17, k, rfl, by (clear hl hp hk; omega), by (clear hl hp; omega), fun r r0 r1 => kk r _ r0 r1 sm⟩
  | cons n ns =>
   refine iteF ?_
   have hn : (0 : Int) < (((n :: ns).map V.int).length : Nat) := by simp
   refine ⟨_, rfl, _, rfl, _, rfl, _, _, rfl, .inl (sm.seq hS), _, _, rfl, rfl, hn, ?_⟩
   have hlt : k % (n :: ns).length < (n :: ns).length := Nat.mod_lt _ (by simp)
   have ei : ((k : Nat) : Int) % ((((n :: ns).map V.int).length : Nat) : Int) = ((k % (n :: ns).length : Nat) : Int) := by rw [List.length_map]; (clear hlt hn hl hp hk; omega)
   refine ⟨a, _, _, .int ((n :: ns)[k % (n :: ns).length]), rfl, rfl, sm.seq hS, ?_, _, rfl, _, k, rfl, by (clear ei hlt hn hl hp hk; omega), by (clear ei hlt hn hl hp; omega), fun r r0 r1 => kk r _ r0 r1 sm⟩
   rw [ei]
   exact atI_nat (by rw [List.getElem?_map, List.getElem?_eq_getElem hlt]; rfl)
noncomputable def codes (x : Str) : List Nat := x.cps.toList
theorem str_app (a b : List Nat) : (⟨a.toArray⟩ : Str) ++ ⟨b.toArray⟩ = ⟨(a ++ b).toArray⟩ := by
 show (⟨a.toArray ++ b.toArray⟩ : Str) = _
 simp
theorem str_len' (a : List Nat) : (⟨a.toArray⟩ : Str).length = a.length := by simp [Str.length]
theorem empty_str : Str.ofString "" = ⟨([] : List Nat).toArray⟩ := rfl
theorem join_codes : ∀ cs : List Nat, PySem.Str.join (Str.ofString "") (cs.map fun c => (⟨#[c]⟩ : Str)) = ⟨cs.toArray⟩
 | [] => rfl
 | [c] => rfl
 | c :: d :: r => by
  show (⟨[c].toArray⟩ : Str) ++ Str.ofString "" ++ PySem.Str.join (Str.ofString "") ((d :: r).map fun c => (⟨#[c]⟩ : Str)) = _
  rw [join_codes (d :: r), empty_str, str_app, str_app]
  rfl
theorem join_eq (cs : List Nat) : Txt.join (Str.ofString "") (cs.map fun c => (⟨#[c]⟩ : Str)) = ⟨cs.toArray⟩ := by
 show Builtin.Str.glued _ _ = _
 rw [StrLaws.glued_eq_join]
 exact join_codes cs
theorem sum_ones (cs : List Nat) : ((cs.map fun c => (⟨#[c]⟩ : Str)).map (·.length)).sum = cs.length := by
 induction cs with
 | nil => rfl
 | cons c r ih => rw [List.map_cons, List.map_cons, List.sum_cons, ih, List.length_cons]; show 1 + _ = _; (clear ih; omega)
theorem slice_mem {z : Str} {l u : Option Int} {c : Nat} (h : c ∈ (Txt.slice z l u).cps.toList) : c ∈ z.cps.toList := by
 unfold Txt.slice at h
 split at h
 ·exact h
 ·have h' : c ∈ (Builtin.Str.strSliceIndices l u 1 z.length).filterMap (z.cps[·]?) := by simpa using h
  obtain ⟨i, _, e⟩ := List.mem_filterMap.mp h'
  have := Array.mem_of_getElem? e
  simpa using this
theorem slice_all {p : Nat -> Bool} {z : Str} (l u : Option Int) (h : z.cps.toList.all p = true) : (Txt.slice z l u).cps.toList.all p = true :=
 List.all_eq_true.mpr fun c hc => List.all_eq_true.mp h c (slice_mem hc)
theorem app_all {p : Nat -> Bool} {a b : Str} (ha : a.cps.toList.all p = true) (hb : b.cps.toList.all p = true) : (a ++ b).cps.toList.all p = true := by
 rw [PySem.Str.cps_append, Array.toList_append, List.all_append, ha, hb]
 rfl
theorem all_get {p : Nat -> Bool} {l : List Nat} (h : l.all p = true) {i : Nat} (hi : i < l.length) : p l[i] = true := List.all_eq_true.mp h _ (List.getElem_mem hi)
noncomputable def Wm (z : Str) : Prop := z.length <= 13 /\ z.cps.toList.all isS = true /\ 1 <= z.length
noncomputable def spMenu : Sp := fun vs H Q _ => ∃ n : Int, vs = [.int n] /\ ∀ a H' (ws : List Str), Same H H' -> H' a = some (.lst (ws.map V.str)) -> ws.length = 5 -> (∀ z ∈ ws, Wm z) -> Q (.ref a) H'
theorem scMenu : FnScope ["_law_number_here", "_law_signs", "_law_rest", "_law_k", "_law_size", "_law_at", "_law_found", "_law_sign"] ["_law_number_here"] (defScope lMenu) := ⟨rfl, rfl, rfl, by decide +kernel, rfl, by decide +kernel, by decide +kernel⟩
theorem ndMenu : (["_law_j", "_law_signs", "_law_number_here"] : List Str).Nodup := by decide +kernel
theorem ndMenu2 : (["_law_k", "_law_rest"] : List Str).Nodup := by decide +kernel
seal PSs PS PE PT PA PG PI PGs PIfs in
theorem ok_menu {f fm : Addr} {fd fdm : FuncData} (D : Df K mg "_law_menu" lMenu f fd) (DM : Df K mg "_law_mixed" lMixed fm fdm) (T : Txt mg) : FnOk P w K mg base CX0 2 f fd ["_law_number_here"] spMenu := by
 have GM : FnOk P w K mg base CX0 1 fm fdm ["_law_number_here", "_law_k"] spMixed := ok_mixed DM
 have bM := DM.F.binds (ps := ["_law_number_here", "_law_k"]) fun _ _ _ _ _ _ us hl => us2 (fun _ _ => rfl) us hl
 refine D.F.ok scMenu (fun vs H Q E h => ?_) (fun cdv A outer s H vs Q E hr h => ?_)
 ·obtain ⟨n, rfl, _⟩ := h
  rfl
 ·obtain ⟨n, rfl, kk⟩ := h
  have hl : (sizeLine : Nat) = 16777216 := sizeLine_eq
  refine ⟨_, pss_cons (ps_set (i := 1) scMenu.nd rfl (Or.inr rfl) pe_str)
   (pss_cons (ps_ifJ (pt_cmpR op_eq (pe_op op_mod (pv 0) pe_int) pe_int (nomark _)) (pss_one (ps_set (i := 1) scMenu.nd rfl (Or.inr rfl) pe_str)) pss_nil)
   (pss_cons (ps_set (i := 2) scMenu.nd rfl (Or.inr rfl) (pe_bm PySem.F.plainAttrs_str PySem.F.slot_str_join PySem.F.type_str_join mt_join pe_str (pa_cons (pe_comp (own := 1) (caps := [1, 0]) (N := ["_law_j", "_law_signs", "_law_number_here"])
     (N0 := ["_law_number_here", "_law_signs", "_law_rest", "_law_k", "_law_size", "_law_at", "_law_found", "_law_sign"]) (sc0 := defScope lMenu) rfl
    (pi_range1 rfl T.range (pa_cons pe_int pa_nil)) (fun _ _ _ => pg_name (i := 0) ndMenu rfl (Or.inl rfl)) (fun _ _ _ => pf_none)
    (fun _ _ _ => pe_ix ix_str (pv 1) (pe_op op_mod (pe_call GM hr rfl DM.m DM.F.kp bM .nil pass0 (pa_cons (pv 2) (pa_cons (pe_op op_add pe_int (pv 0)) pa_nil))) pe_int) (fun _ _ => rfl)) (gk_name (by decide)) rfl rfl
    (by decide +kernel) rfl (by decide +kernel) (by decide +kernel) rfl (by decide +kernel)) pa_nil)))
   (pss_cons (ps_if (pt_cmpR op_eq (pe_op op_mod (pe_op op_fdiv (pv 0) pe_int) pe_int) pe_int (nomark _))
    (pss_one (ps_ret (pe_comp (own := 1) (caps := [2]) (N := ["_law_k", "_law_rest"])
     (N0 := ["_law_number_here", "_law_signs", "_law_rest", "_law_k", "_law_size", "_law_at", "_law_found", "_law_sign"]) (sc0 := defScope lMenu) rfl
     (pi_range1 rfl T.range (pa_cons pe_int pa_nil)) (fun _ _ _ => pg_name (i := 0) ndMenu2 rfl (Or.inl rfl)) (fun _ _ _ => pf_none)
     (fun _ _ _ => pe_slice sl_str (pv 1) po_none (po_some (pe_op op_add (pv 0) pe_int))) (gk_name (by decide)) rfl rfl
     (by decide +kernel) rfl (by decide +kernel) (by decide +kernel) rfl (by decide +kernel)))) pss_nil)
   (pss_cons (ps_set (i := 4) scMenu.nd rfl (Or.inl rfl) (pe_op op_mod (pe_op op_fdiv (pv 0) pe_int) pe_int))
   (pss_cons (ps_set (i := 5) scMenu.nd rfl (Or.inl rfl) (pe_op op_mod (pe_op op_fdiv (pv 0) pe_int) (pe_op op_add (pv 4) pe_int)))
   (pss_cons (ps_set (i := 6) scMenu.nd rfl (Or.inl rfl) (pe_lst pa_nil))
   (pss_cons (ps_for PassesOwn.never rfl (pi_range1 rfl T.range (pa_cons pe_int pa_nil)) (pg_name (i := 3) scMenu.nd rfl (Or.inl rfl))
    (pss_cons (ps_set (i := 7) scMenu.nd rfl (Or.inl rfl) (pe_ix ix_str (pv 1) (pe_op op_mod (pe_op op_add (pe_op op_fdiv (pv 0) pe_int) (pe_op op_mul pe_int (pv 3))) pe_int) (fun _ _ => rfl)))
    (pss_one (ps_expr (pe_bm PySem.F.plainAttrs_list PySem.F.slot_list_append PySem.F.type_list_append mt_append (pv 6)
     (pa_cons (pe_op op_add_str (pe_op op_add_str (pe_slice sl_str (pv 2) po_none (po_some (pv 5))) (pv 7)) (pe_slice sl_str (pv 2) (po_some (pv 5)) (po_some (pv 4)))) pa_nil))))))
   (pss_one (ps_ret (pv 6)))))))))), ?_⟩
  refine ⟨fun σ' H' => H' = H /\ ∃ S : Str, S.cps.toList.all isS = true /\ S.length = 26 /\ σ' = [some (.int n), some (.str S), none, none, none, none, none, none], ?_, ?_⟩
  ·refine ⟨_, rfl, _, _, rfl, rfl, (by show (0 : Int) < 3; decide), rfl, _, rfl, ?_⟩
   refine ite2 (fun _ => ?_) (fun _ => ?_)
   ·exact ⟨rfl, Str.ofString "0a1b2c3d4e5f6g7h8i9jklmnop", by decide +kernel, by decide +kernel, rfl⟩
   ·exact ⟨rfl, Str.ofString "abcdefghijklmnopqrstuvwxyz", by decide +kernel, by decide +kernel, rfl⟩
  ·rintro σ' H' ⟨rfl, S, hS, h26, rfl⟩
   have hSl : (codes S).length = 26 := by unfold codes; rw [str_len]; exact h26
   refine ⟨rfl, 6, rfl, by decide, by decide, comp_itr (fun i ys H1 => H1 = H' /\ ∃ cs : List Nat, cs.length = i /\ cs.all isS = true /\ ys = cs.map fun c => V.str ⟨#[c]⟩) (by rw [hl]; decide) ⟨rfl, [], rfl, rfl, rfl⟩ ?_ ?_⟩
   ·rintro i ys H1 N hi ⟨rfl, cs, hc, hok, rfl⟩ hN
    have hi6 : i < 6 := hi
    refine g1 ?_
    refine ⟨_, rfl, _, rfl, _, rfl, _, _, rfl, rfl, _, _, rfl, by (clear hi6 hok hc hi hSl h26 hS hl; omega), by (clear hi6 hok hc hSl h26 hS hl; omega), fun r r0 r1 => ?_⟩
    refine ⟨_, _, rfl, rfl, (by show (0 : Int) < 26; decide), ?_⟩
    obtain ⟨j, hj, hjl⟩ := mod_ix (r := r) (n := 26) (by decide)
    have hj' : j < (codes S).length := by (clear hjl r1 r0 hi6 hok hc hi h26 hS hl; omega)
    refine ⟨S, _, (codes S)[j], rfl, rfl, by (clear hj' hjl hj r1 r0 hi6 hok hc hi hSl hS; omega), ?_, hN _ _ ⟨rfl, cs ++ [(codes S)[j]], by simp [hc], by rw [List.all_append, hok]; simp [all_get (p := isS) (l := codes S) hS hj'], by rw [List.map_append]; rfl⟩⟩
    rw [<- hj]
    exact atI_nat (List.getElem?_eq_getElem hj')
   ·rintro ys H1 ⟨rfl, cs, hc, hok, rfl⟩ _ p hp
    have hc6 : cs.length = 6 := hc
    refine ⟨_, p, cs.map fun c => (⟨#[c]⟩ : Str), rfl, rfl, SqL.of (by rw [upd_same, List.map_map]; rfl), ?_, ?_⟩
    ·rw [sum_ones, List.length_map]
     show cs.length + cs.length * 0 <= _
     (clear hc6 hp hok hSl h26 hS hl; omega)
    rw [join_eq]
    have sm : Same H1 (upd H1 p (.lst (cs.map fun c => V.str ⟨#[c]⟩))) := same_upd hp
    generalize hG : upd H1 p (.lst (cs.map fun c => V.str ⟨#[c]⟩)) = H2 at sm
    have hR : (⟨cs.toArray⟩ : Str).cps.toList.all isS = true := by simpa using hok
    have hRl : (⟨cs.toArray⟩ : Str).length = 6 := by rw [str_len']; exact hc6
    generalize (⟨cs.toArray⟩ : Str) = R at hR hRl
    refine ⟨_, rfl, _, _, rfl, rfl, ⟨by decide, by decide⟩, _, _, rfl, rfl, (by show (0 : Int) < 3; decide), rfl, _, rfl, ?_⟩
    refine ite2 (fun _ => ?_) (fun _ => ?_)
    ·refine ⟨5, rfl, by decide, by decide, comp_itr (fun i ys H3 => H3 = H2 /\ ∃ ws : List Str, ws.length = i /\ (∀ z ∈ ws, Wm z) /\ ys = ws.map V.str) (by rw [hl]; decide) ⟨rfl, [], rfl, fun z hz => by simp at hz, rfl⟩ ?_ ?_⟩
     ·rintro i ys H3 N hi ⟨rfl, ws, hw, hok', rfl⟩ hN
      refine g1 ?_
      refine ⟨_, rfl, _, rfl, _, _, rfl, rfl, _, rfl, R, rfl, by (clear hw hG hi hR hc6 hp hok hc hSl h26 hS; omega), hN _ _ ⟨rfl, ws ++ [Txt.slice R none (some ((0 : Int) + i + 1))], by simp [hw], fun z hz => ?_, by rw [List.map_append]; rfl⟩⟩
      rcases List.mem_append.mp hz with q | q
      ·exact hok' z q
      ·have e : z = Txt.slice R none (some ((0 : Int) + i + 1)) := by simpa using q
       rw [e]
       have := Txt.slice_le R none (some ((0 : Int) + i + 1))
       exact ⟨by (clear e hw hG hi hR hc6 hp hok hc hSl h26 hS hl; omega), slice_all _ _ hR, by
        have hi5 : i < 5 := hi
        have l6 : (R.cps.toList.length : Int) = R.length := by simp [Str.length]
        have e1 : Txt.slice R none (some ((0 : Int) + i + 1)) = _ := PySem.StrLaws.sliceText_to ⟨by omega, by omega⟩
        have l7 : R.cps.toList.length = 6 := by omega
        rw [e1, str_len', List.length_take, List.length_drop, l7]
        omega⟩
     ·rintro ys H3 ⟨rfl, ws, hw, hok', rfl⟩ _ q hq
      exact kk q _ ws (sm.trans (same_upd hq)) upd_same hw hok'
    ·refine ⟨_, rfl, _, _, rfl, rfl, ⟨by decide, by decide⟩, _, _, rfl, rfl, (by show (0 : Int) < 5; decide), ?_⟩
     have s0 := Int.emod_nonneg (n / 9) (show (5 : Int) ≠ 0 by decide)
     refine ⟨_, rfl, _, _, rfl, rfl, ⟨by decide, by decide⟩, _, rfl, _, _, rfl, rfl, _, _, rfl, rfl, (by show (0 : Int) < n / 9 % 5 + 1; (clear s0 hRl hR hG hc6 hp hok hc hSl h26 hS hl; omega)), ?_⟩
     refine ⟨Nat.zero_le _, fun a ha => ?_⟩
     refine ⟨5, rfl, by decide, by decide, for_range (fun i σ H3 => ∃ (ws : List Str) (v3 v7 : Option V), σ = [some (.int n), some (.str S), some (.str R), v3, some (.int (n / 9 % 5)), some (.int (n / 45 % (n / 9 % 5 + 1))), some (.ref a), v7] /\ Same H1 H3 /\ H3 a = some (.lst (ws.map V.str)) /\ ws.length = i /\ ∀ z ∈ ws, Wm z) ?_ ?_ ?_⟩
     ·exact ⟨[], none, none, rfl, sm.trans (same_upd ha), upd_same, rfl, fun z hz => by simp at hz⟩
     ·rintro i σ H3 hi ⟨ws, v3, v7, rfl, sm3, hA, hw, hok'⟩
      have hi5 : i < 5 := hi
      refine ⟨_, rfl, _, rfl, _, _, rfl, rfl, ⟨by decide, by decide⟩, _, rfl, _, _, rfl, rfl, .inl ⟨by decide, by decide⟩, _, _, rfl, rfl, _, _, rfl, rfl, (by show (0 : Int) < 26; decide), ?_⟩
      obtain ⟨j, hj, hjl⟩ := mod_ix (r := n / 225 + 5 * (0 + (i : Int))) (n := 26) (by decide)
      have hj' : j < (codes S).length := by (clear hjl hi5 hw hA hi ha s0 hRl hR hG hc6 hp hok hc h26 hS hl; omega)
      refine ⟨S, _, (codes S)[j], rfl, rfl, by (clear hj' hjl hj hi5 hw hA hi ha s0 hRl hR hG hc6 hp hok hc hSl hS; omega), by rw [<- hj]; exact atI_nat (List.getElem?_eq_getElem hj'), ?_⟩
      have l1 := Txt.slice_le R none (some (n / 45 % (n / 9 % 5 + 1)))
      have l2 := Txt.slice_le R (some (n / 45 % (n / 9 % 5 + 1))) (some (n / 9 % 5))
      have hone : (⟨#[(codes S)[j]]⟩ : Str).length = 1 := rfl
      refine ⟨_, rfl, .inl ⟨rfl, _, SqL.of hA⟩, _, rfl, _, rfl, _, rfl, R, rfl, by (clear hone l2 l1 hj' hjl hj hi5 hw hA hi ha s0 hR hG hc6 hp hok hc hSl h26 hS; omega), _, rfl, _, _, rfl, rfl, by (clear l2 hjl hj hi5 hw hA hi ha s0 hR hG hc6 hp hok hc hSl h26 hS; omega), _, rfl, _, rfl, _, rfl, _, rfl, _, rfl, R, rfl, by (clear hone l2 l1 hj' hjl hj hi5 hw hA hi ha s0 hR hG hc6 hp hok hc hSl h26 hS; omega), _, _, rfl, rfl, by rw [PySem.Str.length_append]; (clear hjl hj hi5 hw hA hi ha s0 hR hG hc6 hp hok hc hSl h26 hS; omega), ?_⟩
      have hne : a ≠ a -> False := fun z => z rfl
      refine ⟨a, _, _, rfl, rfl, hA, by simp; (clear hone l2 l1 hj' hjl hj hi5 hA ha s0 hRl hR hG hc6 hp hok hc hSl h26 hS; omega), ?_⟩
      refine ⟨ws ++ [Txt.slice R none (some (n / 45 % (n / 9 % 5 + 1))) ++ ⟨#[(codes S)[j]]⟩ ++ Txt.slice R (some (n / 45 % (n / 9 % 5 + 1))) (some (n / 9 % 5))], _, _, rfl, fun b u e => ?_, by rw [upd_same, List.map_append]; rfl, by simp [hw], fun z hz => ?_⟩
      ·have hb : b ≠ a := fun z => by subst z; rw [sm.free ha] at e; cases e
       rw [upd_ne hb]; exact sm3 b u e
      ·rcases List.mem_append.mp hz with q | q
       ·exact hok' z q
       ·have e : z = Txt.slice R none (some (n / 45 % (n / 9 % 5 + 1))) ++ ⟨#[(codes S)[j]]⟩ ++ Txt.slice R (some (n / 45 % (n / 9 % 5 + 1))) (some (n / 9 % 5)) := by simpa using q
        rw [e]
        refine ⟨by rw [PySem.Str.length_append, PySem.Str.length_append]; (clear e hjl hj hi5 hw hA hi ha s0 hR hG hc6 hp hok hc hSl h26 hS hl; omega), app_all (app_all (slice_all _ _ hR) ?_) (slice_all _ _ hR), by rw [PySem.Str.length_append, PySem.Str.length_append]; omega⟩
        simp [all_get (p := isS) (l := codes S) hS hj']
     ·rintro σ H3 ⟨ws, v3, v7, rfl, sm3, hA, hw, hok'⟩
      exact ⟨_, rfl, kk a H3 ws sm3 hA hw hok'⟩
end
inductive At where
 | word (z : Str) | start (z : Str) | row (zs : List Str) | near (a b : At) (n : Int) | both (a b : At) | either (a b : At) | no (a : At)
inductive Kn where
 | w | s | r | n | b | e | o
 deriving DecidableEq
noncomputable def At.kn : At -> Kn
 | .word _ => .w | .start _ => .s | .row _ => .r | .near _ _ _ => .n | .both _ _ => .b | .either _ _ => .e | .no _ => .o
noncomputable def At.dep : At -> Nat
 | .near a b _ => max a.dep b.dep + 1 | .both a b => max a.dep b.dep + 1 | .either a b => max a.dep b.dep + 1 | .no a => a.dep + 1 | _ => 0
noncomputable def At.told : At -> PyData
 | .word z => .tuple [.str "word", .str z]
 | .start z => .tuple [.str "start", .str z]
 | .row zs => .tuple [.str "row", .tuple (zs.map .str)]
 | .near a b n => .tuple [.str "near", a.told, b.told, .int n]
 | .both a b => .tuple [.str "both", a.told, b.told]
 | .either a b => .tuple [.str "either", a.told, b.told]
 | .no a => .tuple [.str "not", a.told]
noncomputable def At.kids : At -> List At
 | .near a b _ => [a, b] | .both a b => [a, b] | .either a b => [a, b] | .no a => [a] | _ => []
noncomputable def At.leaves : At -> List At
 | .both a b => a.leaves ++ b.leaves | .either a b => a.leaves ++ b.leaves | .no _ => [] | .word z => [.word z] | .start z => [.start z] | .row zs => [.row zs] | .near a b n => [.near a b n]
noncomputable def At.many : At -> Nat
 | .near a b _ => 1 + (a.many + b.many) | .both a b => 1 + (a.many + b.many) | .either a b => 1 + (a.many + b.many) | .no a => 1 + a.many | _ => 1
mutual
inductive PdV (l : Bool) (H : Hp) : V -> PyData -> Prop
 | non : PdV l H .non .none
 | bl (b : Bool) : PdV l H (.bl b) (.bool b)
 | int (i : Int) : PdV l H (.int i) (.int i)
 | str (x : Str) : PdV l H (.str x) (.str x)
 | lst {a : Addr} {xs : List V} {ds : List PyData} : l = true -> H a = some (.lst xs) -> PdVs l H xs ds -> PdV l H (.ref a) (.list ds)
 | tup {a : Addr} {xs : List V} {ds : List PyData} : H a = some (.tup xs) -> PdVs l H xs ds -> PdV l H (.ref a) (.tuple ds)
inductive PdVs (l : Bool) (H : Hp) : List V -> List PyData -> Prop
 | nil : PdVs l H [] []
 | cons {x : V} {xs : List V} {d : PyData} {ds : List PyData} : PdV l H x d -> PdVs l H xs ds -> PdVs l H (x :: xs) (d :: ds)
end
noncomputable def Keep (H H' : Hp) : Prop := (∀ b C dx fs, H b = some (.ins C dx fs) -> H' b = some (.ins C dx fs)) /\ ∀ b xs, H b = some (.tup xs) -> H' b = some (.tup xs)
theorem Keep.of {H H' : Hp} (s : Same H H') : Keep H H' := ⟨fun _ _ _ _ e => s _ _ e, fun _ _ e => s _ _ e⟩
theorem Keep.lst {H : Hp} {a : Addr} {xs : List V} {o : HO} (h : H a = some (.lst xs)) : Keep H (upd H a o) :=
 ⟨fun b C dx fs e => by rw [upd_ne (ne_of e h (by intro z; cases z))]; exact e, fun b ys e => by rw [upd_ne (ne_of e h (by intro z; cases z))]; exact e⟩
mutual
theorem PdV.same {l : Bool} {H H' : Hp} (s : Same H H') : ∀ {x : V} {d : PyData}, PdV l H x d -> PdV l H' x d
 | _, _, .non => .non
 | _, _, .bl b => .bl b
 | _, _, .int i => .int i
 | _, _, .str x => .str x
 | _, _, .lst e h r => .lst e (s _ _ h) (PdVs.same s r)
 | _, _, .tup h r => .tup (s _ _ h) (PdVs.same s r)
theorem PdVs.same {l : Bool} {H H' : Hp} (s : Same H H') : ∀ {xs : List V} {ds : List PyData}, PdVs l H xs ds -> PdVs l H' xs ds
 | _, _, .nil => .nil
 | _, _, .cons h r => .cons (PdV.same s h) (PdVs.same s r)
end
mutual
theorem PdV.keep {H H' : Hp} (s : Keep H H') : ∀ {x : V} {d : PyData}, PdV false H x d -> PdV false H' x d
 | _, _, .non => .non
 | _, _, .bl b => .bl b
 | _, _, .int i => .int i
 | _, _, .str x => .str x
 | _, _, .lst e h r => by cases e
 | _, _, .tup h r => .tup (s.2 _ _ h) (PdVs.keep s r)
theorem PdVs.keep {H H' : Hp} (s : Keep H H') : ∀ {xs : List V} {ds : List PyData}, PdVs false H xs ds -> PdVs false H' xs ds
 | _, _, .nil => .nil
 | _, _, .cons h r => .cons (PdV.keep s h) (PdVs.keep s r)
end
mutual
theorem PdV.any {l : Bool} {H : Hp} : ∀ {x : V} {d : PyData}, PdV false H x d -> PdV l H x d
 | _, _, .non => .non
 | _, _, .bl b => .bl b
 | _, _, .int i => .int i
 | _, _, .str x => .str x
 | _, _, .lst e h r => by cases e
 | _, _, .tup h r => .tup h (PdVs.any r)
theorem PdVs.any {l : Bool} {H : Hp} : ∀ {xs : List V} {ds : List PyData}, PdVs false H xs ds -> PdVs l H xs ds
 | _, _, .nil => .nil
 | _, _, .cons h r => .cons (PdV.any h) (PdVs.any r)
end
mutual
theorem PdV.dt {l : Bool} {K : PySem.W.Frag} {H : Hp} : ∀ {x : V} {d : PyData}, PdV l H x d -> DtV K H x d
 | _, _, .non => .non
 | _, _, .bl b => .bl b
 | _, _, .int i => .int i
 | _, _, .str x => .str x
 | _, _, .lst e h r => .lst (SqL.of h) (PdVs.dt r)
 | _, _, .tup h r => .tup (SqT.of h) (PdVs.dt r)
theorem PdVs.dt {l : Bool} {K : PySem.W.Frag} {H : Hp} : ∀ {xs : List V} {ds : List PyData}, PdVs l H xs ds -> DtVs K H xs ds
 | _, _, .nil => .nil
 | _, _, .cons h r => .cons (PdV.dt h) (PdVs.dt r)
end
theorem PdVs.len {l : Bool} {H : Hp} : ∀ {xs : List V} {ds : List PyData}, PdVs l H xs ds -> xs.length = ds.length
 | _, _, .nil => rfl
 | _, _, .cons _ r => by simp [PdVs.len r]
theorem PdVs.strs {l : Bool} {H : Hp} : ∀ (zs : List Str), PdVs l H (zs.map V.str) (zs.map PyData.str)
 | [] => .nil
 | z :: zs => .cons (.str z) (PdVs.strs zs)
noncomputable def tyn : PyData -> String
 | .none => "NoneType" | .bool _ => "bool" | .int _ => "int" | .str _ => "str" | .list _ => "list" | .tuple _ => "tuple" | .dict _ => "dict"
theorem PdV.ty {l : Bool} {K : PySem.W.Frag} {H : Hp} {x : V} {d : PyData} (h : PdV l H x d) : TyOf K H x (.type (tyn d)) := by
 cases h with
 | non => exact .non
 | bl b => exact .bl b
 | int i => exact .int i
 | str z => exact .str z
 | lst e h r => exact .lst h
 | tup h r => exact .tup h
theorem PdV.known {l : Bool} {K : PySem.W.Frag} {H : Hp} {x : V} {d : PyData} (h : PdV l H x d) : Known K H x := ⟨_, h.ty⟩
noncomputable abbrev fWd (z : Str) : List (Str × V) := putF "word" (.str z) []
noncomputable abbrev fRw (p : Addr) : List (Str × V) := putF "side_by_side" (.ref p) []
noncomputable abbrev f1 (p : Addr) : List (Str × V) := putF "one" (.ref p) []
noncomputable abbrev f2 (p q : Addr) : List (Str × V) := putF "other" (.ref q) (f1 p)
noncomputable abbrev f3 (p q : Addr) (n : Int) : List (Str × V) := putF "far" (.int n) (f2 p q)
noncomputable def AskAt (C : Kn -> Addr) (H : Hp) : Addr -> At -> Prop
 | a, .word z => ∃ dx, H a = some (.ins (C .w) dx (fWd z))
 | a, .start z => ∃ dx, H a = some (.ins (C .s) dx (fWd z))
 | a, .row zs => ∃ dx p, H a = some (.ins (C .r) dx (fRw p)) /\ H p = some (.tup (zs.map V.str))
 | a, .near x y n => ∃ dx p q, H a = some (.ins (C .n) dx (f3 p q n)) /\ AskAt C H p x /\ AskAt C H q y
 | a, .both x y => ∃ dx p q, H a = some (.ins (C .b) dx (f2 p q)) /\ AskAt C H p x /\ AskAt C H q y
 | a, .either x y => ∃ dx p q, H a = some (.ins (C .e) dx (f2 p q)) /\ AskAt C H p x /\ AskAt C H q y
 | a, .no x => ∃ dx p, H a = some (.ins (C .o) dx (f1 p)) /\ AskAt C H p x
theorem AskAt.keep {C : Kn -> Addr} {H H' : Hp} (s : Keep H H') : ∀ {t : At} {a : Addr}, AskAt C H a t -> AskAt C H' a t
 | .word _, _, ⟨dx, h⟩ => ⟨dx, s.1 _ _ _ _ h⟩
 | .start _, _, ⟨dx, h⟩ => ⟨dx, s.1 _ _ _ _ h⟩
 | .row _, _, ⟨dx, p, h, hp⟩ => ⟨dx, p, s.1 _ _ _ _ h, s.2 _ _ hp⟩
 | .near _ _ _, _, ⟨dx, p, q, h, hp, hq⟩ => ⟨dx, p, q, s.1 _ _ _ _ h, AskAt.keep s hp, AskAt.keep s hq⟩
 | .both _ _, _, ⟨dx, p, q, h, hp, hq⟩ => ⟨dx, p, q, s.1 _ _ _ _ h, AskAt.keep s hp, AskAt.keep s hq⟩
 | .either _ _, _, ⟨dx, p, q, h, hp, hq⟩ => ⟨dx, p, q, s.1 _ _ _ _ h, AskAt.keep s hp, AskAt.keep s hq⟩
 | .no _, _, ⟨dx, p, h, hp⟩ => ⟨dx, p, s.1 _ _ _ _ h, AskAt.keep s hp⟩
theorem AskAt.same {C : Kn -> Addr} {H H' : Hp} (s : Same H H') {t : At} {a : Addr} (h : AskAt C H a t) : AskAt C H' a t := h.keep (Keep.of s)
noncomputable def NoF (m : Str) : Prop := m ≠ "word" /\ m ≠ "side_by_side" /\ m ≠ "one" /\ m ≠ "other" /\ m ≠ "far"
theorem nf_told : NoF "told" := by unfold NoF; decide +kernel
theorem nf_kids : NoF "kids" := by unfold NoF; decide +kernel
theorem nf_leaves : NoF "leaves" := by unfold NoF; decide +kernel
theorem AskAt.ob {C : Kn -> Addr} {H : Hp} : ∀ {t : At} {a : Addr}, AskAt C H a t -> ∃ dx fs, H a = some (.ins (C t.kn) dx fs) /\ ∀ m, NoF m -> fs.lookup m = none
 | .word _, _, ⟨dx, h⟩ => ⟨dx, _, h, fun m n => by rw [lookup_putF, if_neg n.1]; rfl⟩
 | .start _, _, ⟨dx, h⟩ => ⟨dx, _, h, fun m n => by rw [lookup_putF, if_neg n.1]; rfl⟩
 | .row _, _, ⟨dx, p, h, hp⟩ => ⟨dx, _, h, fun m n => by rw [lookup_putF, if_neg n.2.1]; rfl⟩
 | .near _ _ _, _, ⟨dx, p, q, h, _⟩ => ⟨dx, _, h, fun m n => by rw [lookup_putF, if_neg n.2.2.2.2, lookup_putF, if_neg n.2.2.2.1, lookup_putF, if_neg n.2.2.1]; rfl⟩
 | .both _ _, _, ⟨dx, p, q, h, _⟩ => ⟨dx, _, h, fun m n => by rw [lookup_putF, if_neg n.2.2.2.1, lookup_putF, if_neg n.2.2.1]; rfl⟩
 | .either _ _, _, ⟨dx, p, q, h, _⟩ => ⟨dx, _, h, fun m n => by rw [lookup_putF, if_neg n.2.2.2.1, lookup_putF, if_neg n.2.2.1]; rfl⟩
 | .no _, _, ⟨dx, p, h, _⟩ => ⟨dx, _, h, fun m n => by rw [lookup_putF, if_neg n.2.2.1]; rfl⟩
theorem l_wd (z : Str) : (fWd z).lookup ("word" : Str) = some (.str z) := by rw [lookup_putF, if_pos rfl]
theorem l_rw (p : Addr) : (fRw p).lookup ("side_by_side" : Str) = some (.ref p) := by rw [lookup_putF, if_pos rfl]
theorem l_11 (p : Addr) : (f1 p).lookup ("one" : Str) = some (.ref p) := by rw [lookup_putF, if_pos rfl]
theorem ne12 : ¬ ("one" : Str) = "other" := by decide +kernel
theorem ne13 : ¬ ("one" : Str) = "far" := by decide +kernel
theorem ne23 : ¬ ("other" : Str) = "far" := by decide +kernel
theorem l_21 (p q : Addr) : (f2 p q).lookup ("one" : Str) = some (.ref p) := by rw [lookup_putF, if_neg ne12, lookup_putF, if_pos rfl]
theorem l_22 (p q : Addr) : (f2 p q).lookup ("other" : Str) = some (.ref q) := by rw [lookup_putF, if_pos rfl]
theorem l_31 (p q : Addr) (n : Int) : (f3 p q n).lookup ("one" : Str) = some (.ref p) := by rw [lookup_putF, if_neg ne13]; exact l_21 p q
theorem l_32 (p q : Addr) (n : Int) : (f3 p q n).lookup ("other" : Str) = some (.ref q) := by rw [lookup_putF, if_neg ne23]; exact l_22 p q
theorem l_33 (p q : Addr) (n : Int) : (f3 p q n).lookup ("far" : Str) = some (.int n) := by rw [lookup_putF, if_pos rfl]
noncomputable def cOf : Kn -> Stmt
 | .w => cW | .s => cS | .r => cR | .n => cN | .b => cB | .e => cE | .o => cO
noncomputable def mInit (i : Kn) : Stmt := inClass (cOf i) 0
noncomputable def mTold (i : Kn) : Stmt := inClass (cOf i) 1
noncomputable def mKids : Kn -> Stmt
 | .n => inClass cN 3 | .b => inClass cB 3 | .e => inClass cE 3 | .o => inClass cO 3 | _ => inClass cAsk 0
noncomputable def mLeav : Kn -> Stmt
 | .b => inClass cB 4 | .e => inClass cE 4 | .o => inClass cO 4 | _ => inClass cAsk 1
noncomputable def qInit : Kn -> Str
 | .w => "Word.__init__" | .s => "Start.__init__" | .r => "Row.__init__" | .n => "Near.__init__" | .b => "Both.__init__" | .e => "Either.__init__" | .o => "Not.__init__"
noncomputable def qTold : Kn -> Str
 | .w => "Word.told" | .s => "Start.told" | .r => "Row.told" | .n => "Near.told" | .b => "Both.told" | .e => "Either.told" | .o => "Not.told"
noncomputable def qKids : Kn -> Str
 | .n => "Near.kids" | .b => "Both.kids" | .e => "Either.kids" | .o => "Not.kids" | _ => "Ask.kids"
noncomputable def qLeav : Kn -> Str
 | .b => "Both.leaves" | .e => "Either.leaves" | .o => "Not.leaves" | _ => "Ask.leaves"
noncomputable def psInit : Kn -> List Str
 | .w => ["self", "word"] | .s => ["self", "word"] | .r => ["self", "words"] | .n => ["self", "one", "other", "far"] | .b => ["self", "one", "other"] | .e => ["self", "one", "other"] | .o => ["self", "one"]
structure Cs (K : PySem.W.Frag) (C : Kn -> Addr) : Prop where
 ic : ∀ i, IsC K (C i)
 nW : ∀ i, NoAttr K (C i) "word"
 nR : ∀ i, NoAttr K (C i) "side_by_side"
 n1 : ∀ i, NoAttr K (C i) "one"
 n2 : ∀ i, NoAttr K (C i) "other"
 n3 : ∀ i, NoAttr K (C i) "far"
theorem Cs.cl {K : PySem.W.Frag} {C : Kn -> Addr} (c : Cs K C) (i : Kn) : Cls K (C i) := (c.ic i).cl
structure Mt (K : PySem.W.Frag) (C : Kn -> Addr) (m : Str) (q : Kn -> Str) (st : Kn -> Stmt) (f : Kn -> Addr) (fd : Kn -> FuncData) : Prop where
 F : ∀ i, Fun K m (q i) (st i) (f i) (fd i)
 M : ∀ i, Meth K (C i) m (f i)
section
variable {P : Program} {w : World} {K : PySem.W.Frag} {mg : Str -> Option Value} {base : Heap} {C f : Kn -> Addr} {fd : Kn -> FuncData}
noncomputable def spTold (C : Kn -> Addr) (n : Nat) (i : Kn) : Sp := fun vs H Q _ => ∃ (a : Addr) (t : At), vs = [.ref a] /\ AskAt C H a t /\ t.dep <= n /\ t.kn = i /\ ∀ x H', Same H H' -> PdV false H' x t.told -> Q x H'
theorem scTold (i : Kn) : FnScope ["self"] ["self"] (defScope (mTold i)) := by
 cases i <;> exact ⟨rfl, rfl, rfl, by decide +kernel, rfl, by decide +kernel, by decide +kernel⟩
theorem biTold (M : Mt K C "told" qTold mTold f fd) (i : Kn) : Binds K (fd i) ["self"] [] := by
 cases i <;> exact (M.F _).binds (ps := ["self"]) fun _ _ _ _ _ _ us hl => match us, hl with | [_], _ => rfl
theorem two_line : 2 <= sizeLine := by rw [sizeLine_eq]; decide
theorem three_line : 3 <= sizeLine := by rw [sizeLine_eq]; decide
theorem four_line : 4 <= sizeLine := by rw [sizeLine_eq]; decide
seal PSs PS PE PT PA PG PI PGs PIfs in
theorem ok_told1 (Cl : Cs K C) (M : Mt K C "told" qTold mTold f fd) (n : Nat) (IH : 0 < n -> ∀ i, FnOk P w K mg base CX0 n (f i) (fd i) ["self"] (spTold C (n - 1) i)) (i : Kn) :
  FnOk P w K mg base CX0 (n + 1) (f i) (fd i) ["self"] (spTold C n i) := by
 refine (M.F i).ok (scTold i) (fun vs H Q E h => ?_) (fun cdv A outer s H vs Q E hr h => ?_)
 ·obtain ⟨a, t, rfl, _⟩ := h
  rfl
 ·obtain ⟨a, t, rfl, hA, hd, rfl, k⟩ := h
  cases t with
  | word z =>
   obtain ⟨dx, hx⟩ := hA
   refine ⟨_, pss_one (ps_ret (pe_tup (pa_cons pe_str (pa_cons (pe_fld (pv 0) rfl) pa_nil)))), ?_⟩
   exact ⟨_, rfl, a, C .w, dx, _, _, rfl, hx, Cl.cl _, Cl.nW _, l_wd z, two_line, fun p hp => k _ _ (same_upd hp) (.tup upd_same (.cons (.str _) (.cons (.str _) .nil)))⟩
  | start z =>
   obtain ⟨dx, hx⟩ := hA
   refine ⟨_, pss_one (ps_ret (pe_tup (pa_cons pe_str (pa_cons (pe_fld (pv 0) rfl) pa_nil)))), ?_⟩
   exact ⟨_, rfl, a, C .s, dx, _, _, rfl, hx, Cl.cl _, Cl.nW _, l_wd z, two_line, fun p hp => k _ _ (same_upd hp) (.tup upd_same (.cons (.str _) (.cons (.str _) .nil)))⟩
  | row zs =>
   obtain ⟨dx, q, hx, hq⟩ := hA
   refine ⟨_, pss_one (ps_ret (pe_tup (pa_cons pe_str (pa_cons (pe_fld (pv 0) rfl) pa_nil)))), ?_⟩
   exact ⟨_, rfl, a, C .r, dx, _, _, rfl, hx, Cl.cl _, Cl.nR _, l_rw q, two_line, fun p hp => k _ _ (same_upd hp) (.tup upd_same (.cons (.str _) (.cons (.tup (same_upd hp _ _ hq) (PdVs.strs zs)) .nil)))⟩
  | near x y m =>
   obtain ⟨dx, p, q, hx, hp, hq⟩ := hA
   have hd' : max x.dep y.dep + 1 <= n := hd
   have hn : 0 < n := by omega
   refine ⟨_, pss_one (ps_ret (pe_tup (pa_cons pe_str (pa_cons (pe_methP0 (pe_fld (pv 0) rfl) Cl.cl M.M (IH hn) hr (biTold M) pass0) (pa_cons (pe_methP0 (pe_fld (pv 0) rfl) Cl.cl M.M (IH hn) hr (biTold M) pass0) (pa_cons (pe_fld (pv 0) rfl) pa_nil)))))), ?_⟩
   obtain ⟨dp, fp, ep, lp⟩ := hp.ob
   refine ⟨_, rfl, a, C .n, dx, _, _, rfl, hx, Cl.cl _, Cl.n1 _, l_31 p q m, x.kn, p, dp, fp, rfl, ep, lp _ nf_told, p, x, rfl, hp, by omega, rfl, fun u H1 s1 hu => ?_⟩
   obtain ⟨dq, fq, eq, lq⟩ := (hq.same s1).ob
   refine ⟨_, rfl, a, C .n, dx, _, _, rfl, s1 _ _ hx, Cl.cl _, Cl.n2 _, l_32 p q m, y.kn, q, dq, fq, rfl, eq, lq _ nf_told, q, y, rfl, hq.same s1, by omega, rfl, fun u2 H2 s2 hu2 => ?_⟩
   refine ⟨_, rfl, a, C .n, dx, _, _, rfl, s2 _ _ (s1 _ _ hx), Cl.cl _, Cl.n3 _, l_33 p q m, four_line, fun r hr' => ?_⟩
   exact k _ _ ((s1.trans s2).trans (same_upd hr')) (.tup upd_same (.cons (.str _) (.cons ((hu.same s2).same (same_upd hr')) (.cons (hu2.same (same_upd hr')) (.cons (.int _) .nil)))))
  | both x y =>
   obtain ⟨dx, p, q, hx, hp, hq⟩ := hA
   have hd' : max x.dep y.dep + 1 <= n := hd
   have hn : 0 < n := by omega
   refine ⟨_, pss_one (ps_ret (pe_tup (pa_cons pe_str (pa_cons (pe_methP0 (pe_fld (pv 0) rfl) Cl.cl M.M (IH hn) hr (biTold M) pass0) (pa_cons (pe_methP0 (pe_fld (pv 0) rfl) Cl.cl M.M (IH hn) hr (biTold M) pass0) pa_nil))))), ?_⟩
   obtain ⟨dp, fp, ep, lp⟩ := hp.ob
   refine ⟨_, rfl, a, C .b, dx, _, _, rfl, hx, Cl.cl _, Cl.n1 _, l_21 p q, x.kn, p, dp, fp, rfl, ep, lp _ nf_told, p, x, rfl, hp, by omega, rfl, fun u H1 s1 hu => ?_⟩
   obtain ⟨dq, fq, eq, lq⟩ := (hq.same s1).ob
   refine ⟨_, rfl, a, C .b, dx, _, _, rfl, s1 _ _ hx, Cl.cl _, Cl.n2 _, l_22 p q, y.kn, q, dq, fq, rfl, eq, lq _ nf_told, q, y, rfl, hq.same s1, by omega, rfl, fun u2 H2 s2 hu2 => ?_⟩
   refine ⟨three_line, fun r hr' => ?_⟩
   exact k _ _ ((s1.trans s2).trans (same_upd hr')) (.tup upd_same (.cons (.str _) (.cons ((hu.same s2).same (same_upd hr')) (.cons (hu2.same (same_upd hr')) .nil))))
  | either x y =>
   obtain ⟨dx, p, q, hx, hp, hq⟩ := hA
   have hd' : max x.dep y.dep + 1 <= n := hd
   have hn : 0 < n := by omega
   refine ⟨_, pss_one (ps_ret (pe_tup (pa_cons pe_str (pa_cons (pe_methP0 (pe_fld (pv 0) rfl) Cl.cl M.M (IH hn) hr (biTold M) pass0) (pa_cons (pe_methP0 (pe_fld (pv 0) rfl) Cl.cl M.M (IH hn) hr (biTold M) pass0) pa_nil))))), ?_⟩
   obtain ⟨dp, fp, ep, lp⟩ := hp.ob
   refine ⟨_, rfl, a, C .e, dx, _, _, rfl, hx, Cl.cl _, Cl.n1 _, l_21 p q, x.kn, p, dp, fp, rfl, ep, lp _ nf_told, p, x, rfl, hp, by omega, rfl, fun u H1 s1 hu => ?_⟩
   obtain ⟨dq, fq, eq, lq⟩ := (hq.same s1).ob
   refine ⟨_, rfl, a, C .e, dx, _, _, rfl, s1 _ _ hx, Cl.cl _, Cl.n2 _, l_22 p q, y.kn, q, dq, fq, rfl, eq, lq _ nf_told, q, y, rfl, hq.same s1, by omega, rfl, fun u2 H2 s2 hu2 => ?_⟩
   refine ⟨three_line, fun r hr' => ?_⟩
   exact k _ _ ((s1.trans s2).trans (same_upd hr')) (.tup upd_same (.cons (.str _) (.cons ((hu.same s2).same (same_upd hr')) (.cons (hu2.same (same_upd hr')) .nil))))
  | no x =>
   obtain ⟨dx, p, hx, hp⟩ := hA
   have hd' : x.dep + 1 <= n := hd
   have hn : 0 < n := by omega
   refine ⟨_, pss_one (ps_ret (pe_tup (pa_cons pe_str (pa_cons (pe_methP0 (pe_fld (pv 0) rfl) Cl.cl M.M (IH hn) hr (biTold M) pass0) pa_nil)))), ?_⟩
   obtain ⟨dp, fp, ep, lp⟩ := hp.ob
   refine ⟨_, rfl, a, C .o, dx, _, _, rfl, hx, Cl.cl _, Cl.n1 _, l_11 p, x.kn, p, dp, fp, rfl, ep, lp _ nf_told, p, x, rfl, hp, by omega, rfl, fun u H1 s1 hu => ?_⟩
   refine ⟨two_line, fun r hr' => ?_⟩
   exact k _ _ (s1.trans (same_upd hr')) (.tup upd_same (.cons (.str _) (.cons (hu.same (same_upd hr')) .nil)))
theorem ok_told (Cl : Cs K C) (M : Mt K C "told" qTold mTold f fd) : ∀ (n : Nat) (i : Kn), FnOk P w K mg base CX0 (n + 1) (f i) (fd i) ["self"] (spTold C n i)
 | 0 => ok_told1 Cl M 0 fun h => absurd h (Nat.lt_irrefl _)
 | n + 1 => ok_told1 Cl M (n + 1) fun _ => ok_told Cl M n
end
section
variable {P : Program} {w : World} {K : PySem.W.Frag} {mg : Str -> Option Value} {base : Heap} {C f : Kn -> Addr} {fd : Kn -> FuncData}
noncomputable def spI1 (Ci : Addr) (fl : Str) : Sp := fun vs H Q _ => ∃ (x dx : Addr) (v : V), vs = [.ref x, v] /\ H x = some (.ins Ci dx []) /\ Q .non (upd H x (.ins Ci dx (putF fl v [])))
noncomputable def spIR (Ci : Addr) : Sp := fun vs H Q _ => ∃ (x dx l : Addr) (xs : List V), vs = [.ref x, .ref l] /\ H x = some (.ins Ci dx []) /\ H l = some (.lst xs) /\ ∀ p, H p = none -> Q .non (upd (upd H p (.tup xs)) x (.ins Ci dx (fRw p)))
noncomputable def spI2 (Ci : Addr) : Sp := fun vs H Q _ => ∃ (x dx p q : Addr), vs = [.ref x, .ref p, .ref q] /\ H x = some (.ins Ci dx []) /\ Q .non (upd H x (.ins Ci dx (f2 p q)))
noncomputable def spI3 (Ci : Addr) : Sp := fun vs H Q _ => ∃ (x dx p q : Addr) (n : Int), vs = [.ref x, .ref p, .ref q, .int n] /\ H x = some (.ins Ci dx []) /\ Q .non (upd H x (.ins Ci dx (f3 p q n)))
theorem scI (i : Kn) : FnScope (psInit i) (psInit i) (defScope (mInit i)) := by
 cases i <;> exact ⟨rfl, rfl, rfl, by decide +kernel, rfl, by decide +kernel, by decide +kernel⟩
structure In (K : PySem.W.Frag) (C : Kn -> Addr) (f : Kn -> Addr) (fd : Kn -> FuncData) : Prop where
 F : ∀ i, Fun K "__init__" (qInit i) (mInit i) (f i) (fd i)
 M : ∀ i, L2.Mk K (C i) (f i)
theorem In.bi (I : In K C f fd) (i : Kn) : Binds K (fd i) (psInit i) [] := by
 cases i with
 | w => exact (I.F _).binds (ps := ["self", "word"]) fun _ _ _ _ _ _ us hl => match us, hl with | [_, _], _ => rfl
 | s => exact (I.F _).binds (ps := ["self", "word"]) fun _ _ _ _ _ _ us hl => match us, hl with | [_, _], _ => rfl
 | r => exact (I.F _).binds (ps := ["self", "words"]) fun _ _ _ _ _ _ us hl => match us, hl with | [_, _], _ => rfl
 | n => exact (I.F _).binds (ps := ["self", "one", "other", "far"]) fun _ _ _ _ _ _ us hl => match us, hl with | [_, _, _, _], _ => rfl
 | b => exact (I.F _).binds (ps := ["self", "one", "other"]) fun _ _ _ _ _ _ us hl => match us, hl with | [_, _, _], _ => rfl
 | e => exact (I.F _).binds (ps := ["self", "one", "other"]) fun _ _ _ _ _ _ us hl => match us, hl with | [_, _, _], _ => rfl
 | o => exact (I.F _).binds (ps := ["self", "one"]) fun _ _ _ _ _ _ us hl => match us, hl with | [_, _], _ => rfl
theorem z1000 : (0 : Nat) < 1000 := by decide
theorem e1000 {v : V} {g : Str} : (putF g v []).length < 1000 := by show 1 < 1000; decide
seal PSs PS PE PT PA PG PI PGs PIfs in
theorem ok_iw (Cl : Cs K C) (I : In K C f fd) : FnOk P w K mg base CX0 1 (f .w) (fd .w) ["self", "word"] (spI1 (C .w) "word") := by
 refine (I.F .w).ok (scI .w) (fun vs H Q E h => ?_) (fun cdv A outer s H vs Q E hr h => ?_)
 ·obtain ⟨x, dx, v, rfl, _⟩ := h
  rfl
 ·obtain ⟨x, dx, v, rfl, hx, k⟩ := h
  exact ⟨_, pss_one (ps_fld (pv 0) (pv 1) rfl), _, rfl, _, rfl, x, C .w, dx, [], rfl, hx, Cl.cl _, Cl.nW _, z1000, k⟩
seal PSs PS PE PT PA PG PI PGs PIfs in
theorem ok_is (Cl : Cs K C) (I : In K C f fd) : FnOk P w K mg base CX0 1 (f .s) (fd .s) ["self", "word"] (spI1 (C .s) "word") := by
 refine (I.F .s).ok (scI .s) (fun vs H Q E h => ?_) (fun cdv A outer s H vs Q E hr h => ?_)
 ·obtain ⟨x, dx, v, rfl, _⟩ := h
  rfl
 ·obtain ⟨x, dx, v, rfl, hx, k⟩ := h
  exact ⟨_, pss_one (ps_fld (pv 0) (pv 1) rfl), _, rfl, _, rfl, x, C .s, dx, [], rfl, hx, Cl.cl _, Cl.nW _, z1000, k⟩
seal PSs PS PE PT PA PG PI PGs PIfs in
theorem ok_io (Cl : Cs K C) (I : In K C f fd) : FnOk P w K mg base CX0 1 (f .o) (fd .o) ["self", "one"] (spI1 (C .o) "one") := by
 refine (I.F .o).ok (scI .o) (fun vs H Q E h => ?_) (fun cdv A outer s H vs Q E hr h => ?_)
 ·obtain ⟨x, dx, v, rfl, _⟩ := h
  rfl
 ·obtain ⟨x, dx, v, rfl, hx, k⟩ := h
  exact ⟨_, pss_one (ps_fld (pv 0) (pv 1) rfl), _, rfl, _, rfl, x, C .o, dx, [], rfl, hx, Cl.cl _, Cl.n1 _, z1000, k⟩
seal PSs PS PE PT PA PG PI PGs PIfs in
theorem ok_ir (Cl : Cs K C) (I : In K C f fd) (T : Txt mg) : FnOk P w K mg base CX0 1 (f .r) (fd .r) ["self", "words"] (spIR (C .r)) := by
 refine (I.F .r).ok (scI .r) (fun vs H Q E h => ?_) (fun cdv A outer s H vs Q E hr h => ?_)
 ·obtain ⟨x, dx, l, xs, rfl, _⟩ := h
  rfl
 ·obtain ⟨x, dx, l, xs, rfl, hx, hl, k⟩ := h
  refine ⟨_, pss_one (ps_fld (pv 0) (pe_callTy call_tuple_of rfl T.tuple b_tuple (pa_cons (pv 1) pa_nil)) rfl), ?_⟩
  refine ⟨_, rfl, l, xs, rfl, .inl ⟨SqL.of hl, fun p hp => ?_⟩⟩
  exact ⟨_, rfl, x, C .r, dx, [], rfl, same_upd hp _ _ hx, Cl.cl _, Cl.nR _, z1000, k p hp⟩
seal PSs PS PE PT PA PG PI PGs PIfs in
theorem ok_ib (Cl : Cs K C) (I : In K C f fd) : FnOk P w K mg base CX0 1 (f .b) (fd .b) ["self", "one", "other"] (spI2 (C .b)) := by
 refine (I.F .b).ok (scI .b) (fun vs H Q E h => ?_) (fun cdv A outer s H vs Q E hr h => ?_)
 ·obtain ⟨x, dx, p, q, rfl, _⟩ := h
  rfl
 ·obtain ⟨x, dx, p, q, rfl, hx, k⟩ := h
  refine ⟨_, pss_cons (ps_fld (pv 0) (pv 1) rfl) (pss_one (ps_fld (pv 0) (pv 2) rfl)), _, rfl, _, rfl, x, C .b, dx, [], rfl, hx, Cl.cl _, Cl.n1 _, z1000, _, rfl, _, rfl, x, C .b, dx, _, rfl, upd_same, Cl.cl _, Cl.n2 _, e1000, ?_⟩
  show Q .non (upd (upd H x _) x _)
  rw [upd_upd]
  exact k
seal PSs PS PE PT PA PG PI PGs PIfs in
theorem ok_ie (Cl : Cs K C) (I : In K C f fd) : FnOk P w K mg base CX0 1 (f .e) (fd .e) ["self", "one", "other"] (spI2 (C .e)) := by
 refine (I.F .e).ok (scI .e) (fun vs H Q E h => ?_) (fun cdv A outer s H vs Q E hr h => ?_)
 ·obtain ⟨x, dx, p, q, rfl, _⟩ := h
  rfl
 ·obtain ⟨x, dx, p, q, rfl, hx, k⟩ := h
  refine ⟨_, pss_cons (ps_fld (pv 0) (pv 1) rfl) (pss_one (ps_fld (pv 0) (pv 2) rfl)), _, rfl, _, rfl, x, C .e, dx, [], rfl, hx, Cl.cl _, Cl.n1 _, z1000, _, rfl, _, rfl, x, C .e, dx, _, rfl, upd_same, Cl.cl _, Cl.n2 _, e1000, ?_⟩
  show Q .non (upd (upd H x _) x _)
  rw [upd_upd]
  exact k
theorem e1000b {p q : Addr} : (f2 p q).length < 1000 := by
 have := length_putF "other" (.ref q) (f1 p)
 show (putF "other" (.ref q) (f1 p)).length < 1000
 have h : (f1 p).length = 1 := rfl
 omega
seal PSs PS PE PT PA PG PI PGs PIfs in
theorem ok_in (Cl : Cs K C) (I : In K C f fd) : FnOk P w K mg base CX0 1 (f .n) (fd .n) ["self", "one", "other", "far"] (spI3 (C .n)) := by
 refine (I.F .n).ok (scI .n) (fun vs H Q E h => ?_) (fun cdv A outer s H vs Q E hr h => ?_)
 ·obtain ⟨x, dx, p, q, n, rfl, _⟩ := h
  rfl
 ·obtain ⟨x, dx, p, q, n, rfl, hx, k⟩ := h
  refine ⟨_, pss_cons (ps_fld (pv 0) (pv 1) rfl) (pss_cons (ps_fld (pv 0) (pv 2) rfl) (pss_one (ps_fld (pv 0) (pv 3) rfl))), _, rfl, _, rfl, x, C .n, dx, [], rfl, hx, Cl.cl _, Cl.n1 _, z1000,
   _, rfl, _, rfl, x, C .n, dx, _, rfl, upd_same, Cl.cl _, Cl.n2 _, e1000, _, rfl, _, rfl, x, C .n, dx, _, rfl, upd_same, Cl.cl _, Cl.n3 _, e1000b, ?_⟩
  show Q .non (upd (upd (upd H x _) x _) x _)
  rw [upd_upd, upd_upd]
  exact k
noncomputable abbrev AsL (C : Kn -> Addr) (H : Hp) (xs : List V) (ts : List At) : Prop := Paired (fun (v : V) (t : At) => ∃ p, v = .ref p /\ AskAt C H p t) xs ts
theorem AsL.keep {H H' : Hp} (s : Keep H H') {xs : List V} {ts : List At} (h : AsL C H xs ts) : AsL C H' xs ts := Gn.Paired.imp2 h fun _ _ ⟨p, e, a⟩ => ⟨p, e, a.keep s⟩
theorem AsL.same {H H' : Hp} (s : Same H H') {xs : List V} {ts : List At} (h : AsL C H xs ts) : AsL C H' xs ts := h.keep (Keep.of s)
noncomputable def spKids (C : Kn -> Addr) (i : Kn) : Sp := fun vs H Q _ => ∃ (a : Addr) (t : At), vs = [.ref a] /\ AskAt C H a t /\ t.kn = i /\ ∀ l xs, H l = none -> AsL C H xs t.kids -> Q (.ref l) (upd H l (.lst xs))
theorem scKids (i : Kn) : FnScope ["self"] ["self"] (defScope (mKids i)) := by
 cases i <;> exact ⟨rfl, rfl, rfl, by decide +kernel, rfl, by decide +kernel, by decide +kernel⟩
theorem biKids (M : Mt K C "kids" qKids mKids f fd) (i : Kn) : Binds K (fd i) ["self"] [] := by
 cases i <;> exact (M.F _).binds (ps := ["self"]) fun _ _ _ _ _ _ us hl => match us, hl with | [_], _ => rfl
theorem no_line : 0 <= sizeLine := Nat.zero_le _
theorem one_line : 1 <= sizeLine := by rw [sizeLine_eq]; decide
seal PSs PS PE PT PA PG PI PGs PIfs in
theorem ok_kids (Cl : Cs K C) (M : Mt K C "kids" qKids mKids f fd) (i : Kn) : FnOk P w K mg base CX0 1 (f i) (fd i) ["self"] (spKids C i) := by
 refine (M.F i).ok (scKids i) (fun vs H Q E h => ?_) (fun cdv A outer s H vs Q E hr h => ?_)
 ·obtain ⟨a, t, rfl, _⟩ := h
  rfl
 ·obtain ⟨a, t, rfl, hA, rfl, k⟩ := h
  cases t with
  | word z => exact ⟨_, pss_one (ps_ret (pe_lst pa_nil)), no_line, fun l hl => k l [] hl .nil⟩
  | start z => exact ⟨_, pss_one (ps_ret (pe_lst pa_nil)), no_line, fun l hl => k l [] hl .nil⟩
  | row zs => exact ⟨_, pss_one (ps_ret (pe_lst pa_nil)), no_line, fun l hl => k l [] hl .nil⟩
  | near x y m =>
   obtain ⟨dx, p, q, hx, hp, hq⟩ := hA
   exact ⟨_, pss_one (ps_ret (pe_lst (pa_cons (pe_fld (pv 0) rfl) (pa_cons (pe_fld (pv 0) rfl) pa_nil)))), _, rfl, a, C .n, dx, _, _, rfl, hx, Cl.cl _, Cl.n1 _, l_31 p q m, _, rfl, a, C .n, dx, _, _, rfl, hx, Cl.cl _, Cl.n2 _, l_32 p q m, two_line,
    fun l hl => k l [.ref p, .ref q] hl (.cons ⟨p, rfl, hp⟩ (.cons ⟨q, rfl, hq⟩ .nil))⟩
  | both x y =>
   obtain ⟨dx, p, q, hx, hp, hq⟩ := hA
   exact ⟨_, pss_one (ps_ret (pe_lst (pa_cons (pe_fld (pv 0) rfl) (pa_cons (pe_fld (pv 0) rfl) pa_nil)))), _, rfl, a, C .b, dx, _, _, rfl, hx, Cl.cl _, Cl.n1 _, l_21 p q, _, rfl, a, C .b, dx, _, _, rfl, hx, Cl.cl _, Cl.n2 _, l_22 p q, two_line,
    fun l hl => k l [.ref p, .ref q] hl (.cons ⟨p, rfl, hp⟩ (.cons ⟨q, rfl, hq⟩ .nil))⟩
  | either x y =>
   obtain ⟨dx, p, q, hx, hp, hq⟩ := hA
   exact ⟨_, pss_one (ps_ret (pe_lst (pa_cons (pe_fld (pv 0) rfl) (pa_cons (pe_fld (pv 0) rfl) pa_nil)))), _, rfl, a, C .e, dx, _, _, rfl, hx, Cl.cl _, Cl.n1 _, l_21 p q, _, rfl, a, C .e, dx, _, _, rfl, hx, Cl.cl _, Cl.n2 _, l_22 p q, two_line,
    fun l hl => k l [.ref p, .ref q] hl (.cons ⟨p, rfl, hp⟩ (.cons ⟨q, rfl, hq⟩ .nil))⟩
  | no x =>
   obtain ⟨dx, p, hx, hp⟩ := hA
   exact ⟨_, pss_one (ps_ret (pe_lst (pa_cons (pe_fld (pv 0) rfl) pa_nil))), _, rfl, a, C .o, dx, _, _, rfl, hx, Cl.cl _, Cl.n1 _, l_11 p, one_line, fun l hl => k l [.ref p] hl (.cons ⟨p, rfl, hp⟩ .nil)⟩
theorem At.leaves_le : ∀ t : At, t.leaves.length <= t.many
 | .word _ => Nat.le_refl _
 | .start _ => Nat.le_refl _
 | .row _ => Nat.le_refl _
 | .near a b _ => by show 1 <= 1 + (a.many + b.many); omega
 | .both a b => by
  have h1 := At.leaves_le a
  have h2 := At.leaves_le b
  show (a.leaves ++ b.leaves).length <= 1 + (a.many + b.many)
  rw [List.length_append]
  omega
 | .either a b => by
  have h1 := At.leaves_le a
  have h2 := At.leaves_le b
  show (a.leaves ++ b.leaves).length <= 1 + (a.many + b.many)
  rw [List.length_append]
  omega
 | .no a => Nat.zero_le _
theorem pd_app {α β : Type} {F : α -> β -> Prop} : ∀ {l : List α} {m : List β} {l2 : List α} {m2 : List β}, Paired F l m -> Paired F l2 m2 -> Paired F (l ++ l2) (m ++ m2)
 | _, _, _, _, .nil, h => h
 | _, _, _, _, .cons r t, h => .cons r (pd_app t h)
noncomputable def spLeav (C : Kn -> Addr) (n : Nat) (i : Kn) : Sp := fun vs H Q _ => ∃ (a : Addr) (t : At), vs = [.ref a] /\ AskAt C H a t /\ t.dep <= n /\ t.many <= 1000 /\ t.kn = i /\ ∀ l xs H', Same H H' -> H l = none -> H' l = some (.lst xs) -> AsL C H' xs t.leaves -> Q (.ref l) H'
theorem scLeav (i : Kn) : FnScope ["self"] ["self"] (defScope (mLeav i)) := by
 cases i <;> exact ⟨rfl, rfl, rfl, by decide +kernel, rfl, by decide +kernel, by decide +kernel⟩
theorem biLeav (M : Mt K C "leaves" qLeav mLeav f fd) (i : Kn) : Binds K (fd i) ["self"] [] := by
 cases i <;> exact (M.F _).binds (ps := ["self"]) fun _ _ _ _ _ _ us hl => match us, hl with | [_], _ => rfl
seal PSs PS PE PT PA PG PI PGs PIfs in
theorem ok_leav1 (Cl : Cs K C) (M : Mt K C "leaves" qLeav mLeav f fd) (n : Nat) (IH : 0 < n -> ∀ i, FnOk P w K mg base CX0 n (f i) (fd i) ["self"] (spLeav C (n - 1) i)) (i : Kn) :
  FnOk P w K mg base CX0 (n + 1) (f i) (fd i) ["self"] (spLeav C n i) := by
 have hz : (sizeLine : Nat) = 16777216 := sizeLine_eq
 refine (M.F i).ok (scLeav i) (fun vs H Q E h => ?_) (fun cdv A outer s H vs Q E hr h => ?_)
 ·obtain ⟨a, t, rfl, _⟩ := h
  rfl
 ·obtain ⟨a, t, rfl, hA, hd, hm, rfl, k⟩ := h
  have own : AskAt C H a t -> t.leaves = [t] -> ∀ l, H l = none -> Q (.ref l) (upd H l (.lst [.ref a])) := fun hA e l hl =>
   k l _ _ (same_upd hl) hl upd_same (by rw [e]; exact .cons ⟨a, rfl, hA.same (same_upd hl)⟩ .nil)
  cases t with
  | word z => exact ⟨_, pss_one (ps_ret (pe_lst (pa_cons (pv 0) pa_nil))), _, rfl, one_line, own hA rfl⟩
  | start z => exact ⟨_, pss_one (ps_ret (pe_lst (pa_cons (pv 0) pa_nil))), _, rfl, one_line, own hA rfl⟩
  | row zs => exact ⟨_, pss_one (ps_ret (pe_lst (pa_cons (pv 0) pa_nil))), _, rfl, one_line, own hA rfl⟩
  | near x y m => exact ⟨_, pss_one (ps_ret (pe_lst (pa_cons (pv 0) pa_nil))), _, rfl, one_line, own hA rfl⟩
  | no x => exact ⟨_, pss_one (ps_ret (pe_lst pa_nil)), no_line, fun l hl => k l [] _ (same_upd hl) hl upd_same .nil⟩
  | both x y =>
   obtain ⟨dx, p, q, hx, hp, hq⟩ := hA
   have hd' : max x.dep y.dep + 1 <= n := hd
   have hm' : 1 + (x.many + y.many) <= 1000 := hm
   have hn : 0 < n := by omega
   refine ⟨_, pss_one (ps_ret (pe_op op_cat (pe_methP0 (pe_fld (pv 0) rfl) Cl.cl M.M (IH hn) hr (biLeav M) pass0) (pe_methP0 (pe_fld (pv 0) rfl) Cl.cl M.M (IH hn) hr (biLeav M) pass0))), ?_⟩
   obtain ⟨dp, fp, ep, lp⟩ := hp.ob
   refine ⟨_, rfl, a, C .b, dx, _, _, rfl, hx, Cl.cl _, Cl.n1 _, l_21 p q, x.kn, p, dp, fp, rfl, ep, lp _ nf_leaves, p, x, rfl, hp, by omega, by omega, rfl, fun l1 xs1 H1 s1 f1' e1 a1 => ?_⟩
   obtain ⟨dq, fq, eq, lq⟩ := (hq.same s1).ob
   refine ⟨_, rfl, a, C .b, dx, _, _, rfl, s1 _ _ hx, Cl.cl _, Cl.n2 _, l_22 p q, y.kn, q, dq, fq, rfl, eq, lq _ nf_leaves, q, y, rfl, hq.same s1, by omega, by omega, rfl, fun l2 xs2 H2 s2 f2' e2 a2 => ?_⟩
   have h1 := Gn.Paired.len a1
   have h2 := Gn.Paired.len a2
   have h3 := At.leaves_le x
   have h4 := At.leaves_le y
   refine ⟨l1, l2, xs1, xs2, rfl, rfl, s2 _ _ e1, e2, by omega, fun l hl => ?_⟩
   have s3 := (s1.trans s2).trans (same_upd (o := .lst (xs1 ++ xs2)) hl)
   exact k l _ _ s3 (Same.free (s1.trans s2) hl) upd_same (pd_app ((a1.same s2).same (same_upd hl)) (a2.same (same_upd hl)))
  | either x y =>
   obtain ⟨dx, p, q, hx, hp, hq⟩ := hA
   have hd' : max x.dep y.dep + 1 <= n := hd
   have hm' : 1 + (x.many + y.many) <= 1000 := hm
   have hn : 0 < n := by omega
   refine ⟨_, pss_one (ps_ret (pe_op op_cat (pe_methP0 (pe_fld (pv 0) rfl) Cl.cl M.M (IH hn) hr (biLeav M) pass0) (pe_methP0 (pe_fld (pv 0) rfl) Cl.cl M.M (IH hn) hr (biLeav M) pass0))), ?_⟩
   obtain ⟨dp, fp, ep, lp⟩ := hp.ob
   refine ⟨_, rfl, a, C .e, dx, _, _, rfl, hx, Cl.cl _, Cl.n1 _, l_21 p q, x.kn, p, dp, fp, rfl, ep, lp _ nf_leaves, p, x, rfl, hp, by omega, by omega, rfl, fun l1 xs1 H1 s1 f1' e1 a1 => ?_⟩
   obtain ⟨dq, fq, eq, lq⟩ := (hq.same s1).ob
   refine ⟨_, rfl, a, C .e, dx, _, _, rfl, s1 _ _ hx, Cl.cl _, Cl.n2 _, l_22 p q, y.kn, q, dq, fq, rfl, eq, lq _ nf_leaves, q, y, rfl, hq.same s1, by omega, by omega, rfl, fun l2 xs2 H2 s2 f2' e2 a2 => ?_⟩
   have h1 := Gn.Paired.len a1
   have h2 := Gn.Paired.len a2
   have h3 := At.leaves_le x
   have h4 := At.leaves_le y
   refine ⟨l1, l2, xs1, xs2, rfl, rfl, s2 _ _ e1, e2, by omega, fun l hl => ?_⟩
   have s3 := (s1.trans s2).trans (same_upd (o := .lst (xs1 ++ xs2)) hl)
   exact k l _ _ s3 (Same.free (s1.trans s2) hl) upd_same (pd_app ((a1.same s2).same (same_upd hl)) (a2.same (same_upd hl)))
theorem ok_leav (Cl : Cs K C) (M : Mt K C "leaves" qLeav mLeav f fd) : ∀ (n : Nat) (i : Kn), FnOk P w K mg base CX0 (n + 1) (f i) (fd i) ["self"] (spLeav C n i)
 | 0 => ok_leav1 Cl M 0 fun h => absurd h (Nat.lt_irrefl _)
 | n + 1 => ok_leav1 Cl M (n + 1) fun _ => ok_leav Cl M n
end
section
variable {P : Program} {w : World} {K : PySem.W.Frag} {mg : Str -> Option Value} {base : Heap} {C : Kn -> Addr} {CB d : Addr}
noncomputable def spAWord (K : PySem.W.Frag) (CB : Addr) : Sp := fun vs H Q E => ∃ x, vs = [x] /\ Known K H x /\ Fit x /\ (rowV 2000 x = true -> ∀ H', Same H H' -> Q x H') /\ (rowV 2000 x = false -> ∀ H', Same H H' -> E (.ref CB) none H')
theorem scAWord : FnScope ["thing"] ["thing"] (defScope sAWord) := ⟨rfl, rfl, rfl, by decide +kernel, rfl, by decide +kernel, by decide +kernel⟩
seal PSs PS PE PT PA PG PI PGs PIfs in
theorem ok_aword {f ft : Addr} {fd fdt : FuncData} (D : Df K mg "asked_word" sAWord f fd) (DT : Df K mg "is_word" sWord ft fdt) (X : Ex K mg "BadAsk" CB) (GT : FnOk P w K mg base CX0 2 ft fdt ["thing"] (spIs K 2000)) :
  FnOk P w K mg base (CX1 P w) 3 f fd ["thing"] (spAWord K CB) := by
 have bT := binds1 (p := "thing") DT.F fun _ _ _ _ _ _ _ => rfl
 refine D.F.ok1 scAWord (fun vs H Q E h => ?_) (fun cdv A outer s H vs Q E hr h => ?_)
 ·obtain ⟨x, rfl, _⟩ := h
  rfl
 ·obtain ⟨x, rfl, hk, hfit, k1, k2⟩ := h
  refine ⟨_, pss_cons (ps_if (pt_not (pt_val (pe_call GT hr rfl DT.m DT.F.kp bT .nil pass0 (pa_cons (pv 0) pa_nil)))) (pss_one (ps_raise rfl X.q PySem.F.excBase_ValueError (by decide +kernel) PySem.F.excBase_ValueError rfl X.m (pa_cons pe_str pa_nil) raise_out)) pss_nil)
   (pss_one (ps_ret (pv 0))), ?_⟩
  refine ⟨_, rfl, x, rfl, hk, hfit, fun H' sm => ⟨_, rfl, ?_⟩⟩
  cases hx : rowV 2000 x with
  | false => exact iteT ⟨one_line, k2 hx H' sm⟩
  | true => exact iteF ⟨_, rfl, k1 hx H' sm⟩
noncomputable def lens : List (Key × V) := [(.inr "word", .int 2), (.inr "start", .int 2), (.inr "row", .int 2), (.inr "near", .int 4), (.inr "both", .int 3), (.inr "either", .int 3), (.inr "not", .int 2)]
noncomputable def nmOf : PyData -> Option Str
 | .tuple (.str z :: ds) => if valV lens (.inr z) = some (.int ((ds.length + 1 : Nat) : Int)) then some z else none
 | _ => none
theorem lens_val (k : Key) : valV lens k = none \/ ∃ i, valV lens k = some (.int i) := by
 cases h : valV lens k with
 | none => exact .inl rfl
 | some v =>
  refine .inr ?_
  unfold valV lens at h
  simp only [List.find?_cons, List.find?_nil] at h
  repeat' split at h
  all_goals first | (simp at h; exact ⟨_, by rw [<- h]⟩) | (simp at h)
noncomputable def isTupD : PyData -> Bool
 | .tuple _ => true
 | _ => false
noncomputable def isStrD : PyData -> Bool
 | .str _ => true
 | _ => false
theorem kit_tupD (d : PyData) : PySem.W.kitOne K (.type (tyn d)) (.type "tuple") = some (isTupD d) := by
 cases d <;> kernel_rfl
theorem kit_strD (d : PyData) : PySem.W.kitOne K (.type (tyn d)) (.type "str") = some (isStrD d) := by
 cases d <;> kernel_rfl
end
section
variable {P : Program} {w : World} {K : PySem.W.Frag} {mg : Str -> Option Value} {base : Heap} {CB d : Addr}
noncomputable def spName (CB : Addr) : Sp := fun vs H Q E => ∃ x dd, vs = [x] /\ PdV true H x dd /\ (∀ z, nmOf dd = some z -> Q (.str z) H) /\ (nmOf dd = none -> E (.ref CB) none H)
theorem scName : FnScope ["told"] ["told"] (defScope sName) := ⟨rfl, rfl, rfl, by decide +kernel, rfl, by decide +kernel, by decide +kernel⟩
seal PSs PS PE PT PA PG PI PGs PIfs in
theorem ok_name {f : Addr} {fd : FuncData} (D : Df K mg "need_name" sName f fd) (T : Txt mg) (X : Ex K mg "BadAsk" CB) (hd : mg "TOLD_LENGTHS" = some (.ref d)) (KD' : KD P w K d lens) : FnOk P w K mg base (CX1 P w) 1 f fd ["told"] (spName CB) := by
 refine D.F.ok1 scName (fun vs H Q E h => ?_) (fun cdv A outer s H vs Q E hr h => ?_)
 ·obtain ⟨x, dd, rfl, _⟩ := h
  rfl
 ·obtain ⟨x, dd, rfl, hp, k1, k2⟩ := h
  refine ⟨_, pss_cons (ps_if (PW.pt (pw_or (pt_not (pt_val (pe_callB call_isi rfl T.isi b_isi (pa_cons (pv 0) (pa_cons (pe_bltn (v := .ty "tuple") rfl T.tuple b_tuple rfl) pa_nil)))))
    (pw_or (pt_cmpR op_eq (pe_callB call_len_seq rfl T.len b_len (pa_cons (pv 0) pa_nil)) pe_int (nomark _))
    (pw_or1 (pt_not (pt_val (pe_callB call_isi rfl T.isi b_isi (pa_cons (pe_ix ix_tup (pv 0) pe_int (fun _ _ => rfl)) (pa_cons (pe_bltn (v := .ty "str") rfl T.str b_str rfl) pa_nil)))))))))
    (pss_one (ps_raise rfl X.q PySem.F.excBase_ValueError (by decide +kernel) PySem.F.excBase_ValueError rfl X.m (pa_cons pe_str pa_nil) raise_out)) pss_nil)
   (pss_cons (ps_if (pt_cmpR op_ne (pe_dgetK rfl hd KD' (pe_ix ix_tup (pv 0) pe_int (fun _ _ => rfl)) ⟨rfl, rfl, rfl, rfl⟩) (pe_callB call_len_seq rfl T.len b_len (pa_cons (pv 0) pa_nil)) (nomark _))
    (pss_one (ps_raise rfl X.q PySem.F.excBase_ValueError (by decide +kernel) PySem.F.excBase_ValueError rfl X.m (pa_cons pe_str pa_nil) raise_out)) pss_nil)
   (pss_one (ps_ret (pe_ix ix_tup (pv 0) pe_int (fun _ _ => rfl))))), ?_⟩
  refine ⟨_, rfl, x, .ty "tuple", _, _, rfl, hp.ty, .inl ⟨_, rfl, kit_tupD dd⟩, _, rfl, ?_⟩
  cases hp with
  | tup ha hs =>
   rename_i a xs ds
   have hl := hs.len
   refine iteF ⟨_, rfl, a, xs, rfl, .inr (SqT.of ha), rfl, _, rfl, ?_⟩
   cases hs with
   | nil => exact iteT (iteT ⟨one_line, k2 rfl⟩)
   | cons h0 hr' =>
    rename_i y ys e es
    have hne : decide (V.int ((y :: ys).length : Nat) = V.int 0) = false := decide_eq_false (fun z => by simp at z; omega)
    rw [hne]
    refine iteF ⟨_, rfl, a, _, 0, y, rfl, rfl, SqT.of ha, atI_nat (j := 0) rfl, y, .ty "str", _, _, rfl, h0.ty, .inl ⟨_, rfl, kit_strD e⟩, _, rfl, ?_⟩
    cases h0 with
    | str z =>
     refine iteF ⟨_, rfl, a, _, 0, .str z, rfl, rfl, SqT.of ha, atI_nat (j := 0) rfl, .inr z, rfl, _, rfl, a, _, rfl, .inr (SqT.of ha), ?_⟩
     have nm : nmOf (.tuple (.str z :: es)) = if valV lens (.inr z) = some (.int ((es.length + 1 : Nat) : Int)) then some z else none := rfl
     have hl' : ys.length = es.length := hr'.len
     have fin : ∀ v : V, (valV lens (.inr z)).getD .non = v -> (scal v (.int ((V.str z :: ys).length : Nat)) = true) -> (valV lens (.inr z) = some (.int ((es.length + 1 : Nat) : Int)) ↔ v = .int ((V.str z :: ys).length : Nat)) -> True := fun _ _ _ _ => trivial
     rcases lens_val (.inr z) with q | ⟨i, q⟩
     ·rw [q]
      refine ⟨rfl, _, rfl, iteT ⟨one_line, k2 ?_⟩⟩
      rw [nm, if_neg (by rw [q]; intro z'; cases z')]
     ·rw [q]
      refine ⟨rfl, _, rfl, ?_⟩
      by_cases hi : i = ((es.length + 1 : Nat) : Int)
      ·have e1 : (!decide (V.int i = V.int (((V.str z :: ys).length : Nat) : Int))) = false := by
        rw [decide_eq_true (by rw [hi, List.length_cons, hl'])]
        rfl
       show if (!decide (V.int i = V.int (((V.str z :: ys).length : Nat) : Int))) = true then _ else _
       rw [e1]
       exact iteF ⟨_, rfl, a, _, 0, .str z, rfl, rfl, SqT.of ha, atI_nat (j := 0) rfl, k1 z (by rw [nm, if_pos (by rw [q, hi])])⟩
      ·have e1 : (!decide (V.int i = V.int (((V.str z :: ys).length : Nat) : Int))) = true := by
        rw [decide_eq_false (fun z' => hi (by have := V.int.inj z'; rw [this, List.length_cons, hl']))]
        rfl
       show if (!decide (V.int i = V.int (((V.str z :: ys).length : Nat) : Int))) = true then _ else _
       rw [e1]
       exact iteT ⟨one_line, k2 (by rw [nm, if_neg (fun z' => hi (by rw [q] at z'; exact V.int.inj (Option.some.inj z')))])⟩
    | non => exact iteT ⟨one_line, k2 rfl⟩
    | bl b => exact iteT ⟨one_line, k2 rfl⟩
    | int i => exact iteT ⟨one_line, k2 rfl⟩
    | lst _ _ _ => exact iteT ⟨one_line, k2 rfl⟩
    | tup _ _ => exact iteT ⟨one_line, k2 rfl⟩
  | non => exact iteT (iteT ⟨one_line, k2 rfl⟩)
  | bl b => exact iteT (iteT ⟨one_line, k2 rfl⟩)
  | int i => exact iteT (iteT ⟨one_line, k2 rfl⟩)
  | str z => exact iteT (iteT ⟨one_line, k2 rfl⟩)
  | lst _ _ _ => exact iteT (iteT ⟨one_line, k2 rfl⟩)
end
end K11
namespace L2
theorem Same.upf {H H' : Hp} {a : PySem.Addr} {o : HO} (s : Same H H') (h : H' a = none) : Same H (upd H' a o) := Gn.Same.upd s h
end L2
namespace K11
open PySem L2 PyProof.Rows PySem.Spec Gn K01
mutual
noncomputable def fitD : PyData -> Prop
 | .str z => z.length <= 5000
 | .tuple ds => fitDs ds
 | .list ds => fitDs ds
 | _ => True
noncomputable def fitDs : List PyData -> Prop
 | [] => True
 | d :: ds => fitD d /\ fitDs ds
end
theorem fitDs_get : ∀ {ds : List PyData} {i : Nat} {d : PyData}, fitDs ds -> ds[i]? = some d -> fitD d
 | _ :: _, 0, _, h, e => by
  simp at e
  rw [<- e]
  exact h.1
 | _ :: ds, i + 1, _, h, e => fitDs_get (ds := ds) (i := i) h.2 (by simpa using e)
theorem PdV.fit {l : Bool} {H : Hp} {x : V} {d : PyData} (h : PdV l H x d) (f : fitD d) : Fit x := by
 intro z e
 subst e
 cases h with
 | str _ => exact f
theorem PdVs.get {l : Bool} {H : Hp} : ∀ {xs : List V} {ds : List PyData} {i : Nat} {x : V}, PdVs l H xs ds -> xs[i]? = some x -> ∃ d, ds[i]? = some d /\ PdV l H x d
 | _, _, 0, _, .cons h _, e => by
  simp at e
  exact ⟨_, rfl, e ▸ h⟩
 | _, _, i + 1, _, .cons _ r, e => by
  obtain ⟨d, e1, e2⟩ := PdVs.get (i := i) r (by simpa using e)
  exact ⟨d, by simpa using e1, e2⟩
 | _, _, 0, _, .nil, e => by simp at e
 | _, _, i + 1, _, .nil, e => by simp at e
noncomputable def wd : PyData -> Option Str
 | .str z => if rowV 2000 (.str z) = true then some z else none
 | _ => none
theorem wd_of {l : Bool} {H : Hp} {x : V} {d : PyData} (h : PdV l H x d) : (rowV 2000 x = true -> ∃ z, x = .str z /\ wd d = some z) /\ (rowV 2000 x = false -> wd d = none) := by
 cases h with
 | str z => exact ⟨fun e => ⟨z, rfl, if_pos e⟩, fun e => if_neg (by rw [e]; decide)⟩
 | non => exact ⟨fun e => (by cases e), fun _ => rfl⟩
 | bl b => exact ⟨fun e => (by cases e), fun _ => rfl⟩
 | int i => exact ⟨fun e => (by cases e), fun _ => rfl⟩
 | lst _ _ _ => exact ⟨fun e => (by cases e), fun _ => rfl⟩
 | tup _ _ => exact ⟨fun e => (by cases e), fun _ => rfl⟩
noncomputable def zsOf : List PyData -> Option (List Str)
 | [] => some []
 | d :: ds => match wd d with
  | none => none
  | some z => (zsOf ds).map (z :: ·)
theorem zsOf_snoc : ∀ {ds : List PyData} {zs : List Str} {d : PyData} {z : Str}, zsOf ds = some zs -> wd d = some z -> zsOf (ds ++ [d]) = some (zs ++ [z])
 | [], zs, d, z, h, e => by
  cases h
  show (match wd d with | none => none | some z => (zsOf []).map (z :: ·)) = _
  rw [e]
  rfl
 | a :: ds, zs, d, z, h, e => by
  have h' : (match wd a with | none => none | some z => (zsOf ds).map (z :: ·)) = some zs := h
  show (match wd a with | none => none | some z => (zsOf (ds ++ [d])).map (z :: ·)) = _
  cases ha : wd a with
  | none => rw [ha] at h'; cases h'
  | some y =>
   rw [ha] at h'
   cases hz : zsOf ds with
   | none => rw [hz] at h'; cases h'
   | some ys =>
    rw [hz] at h'
    have e2 : y :: ys = zs := by simpa using h'
    subst e2
    show (zsOf (ds ++ [d])).map (y :: ·) = _
    rw [zsOf_snoc hz e]
    rfl
theorem zsOf_bad : ∀ {ds : List PyData} {i : Nat} {d : PyData}, ds[i]? = some d -> wd d = none -> zsOf ds = none
 | a :: ds, 0, d, h, e => by
  have : a = d := by simpa using h
  subst this
  show (match wd a with | none => none | some z => (zsOf ds).map (z :: ·)) = _
  rw [e]
 | a :: ds, i + 1, d, h, e => by
  show (match wd a with | none => none | some z => (zsOf ds).map (z :: ·)) = _
  rw [zsOf_bad (ds := ds) (i := i) (by simpa using h) e]
  cases wd a <;> rfl
noncomputable def rowOf : PyData -> Option (List Str)
 | .tuple ds => if 2 <= ds.length /\ ds.length <= 8 then zsOf ds else none
 | _ => none
noncomputable def lfk : Kn -> Bool
 | .w => true | .s => true | .r => true | _ => false
noncomputable def farOf : PyData -> Option Int
 | .int n => if 0 <= n /\ n <= 20 then some n else none
 | _ => none
noncomputable def nearOf (a b : At) (d : PyData) : Option Int := if (lfk a.kn && lfk b.kn) = true then farOf d else none
section
variable {P : Program} {w : World} {K : PySem.W.Frag} {mg : Str -> Option Value} {base : Heap} {C fi : Kn -> Addr} {fdi : Kn -> FuncData} {CB : Addr}
noncomputable def spARow (C : Kn -> Addr) (CB : Addr) : Sp := fun vs H Q E => ∃ x dd, vs = [x] /\ PdV true H x dd /\ fitD dd /\ (∀ zs, rowOf dd = some zs -> ∀ a H', Same H H' -> AskAt C H' a (.row zs) -> Q (.ref a) H') /\ (rowOf dd = none -> ∀ H', Same H H' -> E (.ref CB) none H')
theorem scARow : FnScope ["thing"] ["thing"] (defScope sARow) := ⟨rfl, rfl, rfl, by decide +kernel, rfl, by decide +kernel, by decide +kernel⟩
theorem ndWord : (["word"] : List Str).Nodup := by decide +kernel
seal PSs PS PE PT PA PG PI PGs PIfs in
theorem ok_arow {f fa : Addr} {fd fda : FuncData} (D : Df K mg "asked_row" sARow f fd) (DA : Df K mg "asked_word" sAWord fa fda) (T : Txt mg) (Cl : Cs K C) (I : In K C fi fdi) (hR : mg "Row" = some (.ref (C .r))) (X : Ex K mg "BadAsk" CB)
  (GA : FnOk P w K mg base (CX1 P w) 3 fa fda ["thing"] (spAWord K CB)) : FnOk P w K mg base (CX1 P w) 4 f fd ["thing"] (spARow C CB) := by
 obtain ⟨t1, c1⟩ := T.cLR
 obtain ⟨t2, c2⟩ := T.cMR
 have bA := binds1 (p := "thing") DA.F fun _ _ _ _ _ _ _ => rfl
 have GI : FnOk P w K mg base CX0 2 (fi .r) (fdi .r) ["self", "words"] (spIR (C .r)) := (ok_ir Cl I T).mono (by decide)
 refine D.F.ok1 scARow (fun vs H Q E h => ?_) (fun cdv A outer s H vs Q E hr h => ?_)
 ·obtain ⟨x, dd, rfl, _⟩ := h
  rfl
 ·obtain ⟨x, dd, rfl, hp, hf, k1, k2⟩ := h
  have hz : (sizeLine : Nat) = 16777216 := sizeLine_eq
  refine ⟨_, pss_cons (ps_if (PW.pt (pw_or (pt_not (pt_val (pe_callB call_isi rfl T.isi b_isi (pa_cons (pv 0) (pa_cons (pe_bltn (v := .ty "tuple") rfl T.tuple b_tuple rfl) pa_nil)))))
    (pw_or (pt_cmpR op_lt (pe_callB call_len_seq rfl T.len b_len (pa_cons (pv 0) pa_nil)) (pe_glob (v := .int 2) rfl c1 ⟨_, rfl⟩) (nomark _))
    (pw_or1 (pt_cmpR op_gt (pe_callB call_len_seq rfl T.len b_len (pa_cons (pv 0) pa_nil)) (pe_glob (v := .int 8) rfl c2 ⟨_, rfl⟩) (nomark _))))))
    (pss_one (ps_raise rfl X.q PySem.F.excBase_ValueError (by decide +kernel) PySem.F.excBase_ValueError rfl X.m (pa_cons pe_str pa_nil) raise_out)) pss_nil)
   (pss_one (ps_ret (pe_make (I.M .r) GI hr rfl hR (I.bi .r) .nil pass0 (pa_cons (pe_compX (own := 1) (caps := []) (N := ["word"]) (N0 := ["thing"]) (sc0 := defScope sARow) rfl (pi_tup (pv 0))
    (fun _ _ _ => pg_name (i := 0) ndWord rfl (Or.inl rfl)) (fun _ _ _ => pf_none) rfl rfl rfl raise_heldT
    (fun _ _ _ _ hp => pe_call GA hr rfl DA.m DA.F.kp bA .nil hp (pa_cons (pv 0) pa_nil)) (gk_name (by decide)) rfl rfl
    (by decide +kernel) rfl (by decide +kernel) (by decide +kernel) rfl (by decide +kernel)) pa_nil)))), ?_⟩
  refine ⟨_, rfl, x, .ty "tuple", _, _, rfl, hp.ty, .inl ⟨_, rfl, kit_tupD dd⟩, _, rfl, ?_⟩
  cases hp with
  | tup ha hs =>
   rename_i a xs ds
   have hl := hs.len
   refine iteF ⟨_, rfl, a, xs, rfl, .inr (SqT.of ha), _, _, rfl, rfl, _, rfl, ?_⟩
   have rv : rowOf (.tuple ds) = if 2 <= ds.length /\ ds.length <= 8 then zsOf ds else none := rfl
   by_cases h1 : ((xs.length : Nat) : Int) < 2
   ·rw [decide_eq_true h1]
    exact iteT (iteT ⟨one_line, k2 (by rw [rv, if_neg (by omega)]) H (Same.refl H)⟩)
   ·rw [decide_eq_false h1]
    refine iteF ⟨_, rfl, a, xs, rfl, .inr (SqT.of ha), _, _, rfl, rfl, _, rfl, ?_⟩
    by_cases h2 : (8 : Int) < ((xs.length : Nat) : Int)
    ·rw [decide_eq_true h2]
     exact iteT ⟨one_line, k2 (by rw [rv, if_neg (by omega)]) H (Same.refl H)⟩
    ·rw [decide_eq_false h2]
     rw [if_pos (by omega)] at rv
     refine iteF ⟨_, rfl, a, rfl, ⟨_, SqT.of ha⟩, ?_⟩
     refine comp_itt (xs := xs) (fun i ys H' => Same H H' /\ ∃ zs, zsOf (ds.take i) = some zs /\ ys = zs.map V.str) (by omega) (fun i ys H' ⟨sm, _⟩ => SqT.of (sm _ _ ha)) ⟨Same.refl H, [], rfl, rfl⟩ ?_ ?_
     ·rintro i y ys H' N hy ⟨sm, zs, hzs, rfl⟩ hN
      obtain ⟨d, hd, hpd⟩ := hs.get hy
      have hw := wd_of hpd
      refine g1 ?_
      refine ⟨_, rfl, y, rfl, (hpd.same sm).known, hpd.fit (fitDs_get hf hd), fun e H2 s2 => ?_, fun e H2 s2 => k2 (by rw [rv]; exact zsOf_bad hd (hw.2 e)) H2 (sm.trans s2)⟩
      obtain ⟨z, rfl, e2⟩ := hw.1 e
      refine hN _ _ ⟨sm.trans s2, zs ++ [z], ?_, by rw [List.map_append]; rfl⟩
      rw [List.take_add_one, hd]
      exact zsOf_snoc hzs e2
     ·rintro ys H' ⟨sm, zs, hzs, rfl⟩ _ p hp b dx hb hdx hne
      rw [hl, List.take_length] at hzs
      have s1 : Same H (upd H' p (.lst (zs.map V.str))) := sm.upf hp
      generalize hH1 : upd H' p (.lst (zs.map V.str)) = H1 at s1 hb hdx
      have hp1 : H1 p = some (.lst (zs.map V.str)) := by rw [<- hH1]; exact upd_same
      have pb : p ≠ b := ne_of_none hp1 hb
      have pd : p ≠ dx := ne_of_none hp1 hdx
      refine ⟨b, dx, p, _, rfl, upd_same, by rw [upd_ne pb, upd_ne pd]; exact hp1, fun q hq => ⟨rfl, k1 zs (by rw [rv, hzs]) b _ ?_ ?_⟩⟩
      ·intro c u hc
       have hc1 := s1 _ _ hc
       have cb : c ≠ b := ne_of_none hc1 hb
       have cd : c ≠ dx := ne_of_none hc1 hdx
       have e2 : (upd (upd H1 dx (.own b)) b (.ins (C .r) dx [])) c = some u := by rw [upd_ne cb, upd_ne cd]; exact hc1
       rw [upd_ne cb, upd_ne (ne_of_none e2 hq)]
       exact e2
      ·have qb : q ≠ b := fun z => by rw [z, upd_same] at hq; cases hq
       exact ⟨dx, q, upd_same, by rw [upd_ne qb]; exact upd_same⟩
  | non => exact iteT (iteT ⟨one_line, k2 rfl H (Same.refl H)⟩)
  | bl b => exact iteT (iteT ⟨one_line, k2 rfl H (Same.refl H)⟩)
  | int i => exact iteT (iteT ⟨one_line, k2 rfl H (Same.refl H)⟩)
  | str z => exact iteT (iteT ⟨one_line, k2 rfl H (Same.refl H)⟩)
  | lst _ _ _ => exact iteT (iteT ⟨one_line, k2 rfl H (Same.refl H)⟩)
noncomputable def spANear (C : Kn -> Addr) (CB : Addr) : Sp := fun vs H Q E => ∃ (p q : Addr) (x : V) (tp tq : At) (d : PyData), vs = [.ref p, .ref q, x] /\ AskAt C H p tp /\ AskAt C H q tq /\ PdV true H x d /\
 (∀ n, nearOf tp tq d = some n -> ∀ a H', Same H H' -> AskAt C H' a (.near tp tq n) -> Q (.ref a) H') /\ (nearOf tp tq d = none -> ∀ H', Same H H' -> E (.ref CB) none H')
theorem scANear : FnScope ["one", "other", "far", "ask"] ["one", "other", "far"] (defScope sANear) := ⟨rfl, rfl, rfl, by decide +kernel, rfl, by decide +kernel, by decide +kernel⟩
theorem mk_same {H1 : Hp} {b dx : Addr} {o o' o'' : HO} (hb : H1 b = none) (hdx : H1 dx = none) : Same H1 (upd (upd (upd H1 dx o) b o') b o'') := by
 rw [upd_upd]
 exact same_app (Same.refl _) hb hdx
seal PSs PS PE PT PA PG PI PGs PIfs in
theorem ok_anear {f ft : Addr} {fd fdt : FuncData} (D : Df K mg "asked_near" sANear f fd) (DT : Df K mg "is_whole" sWhole ft fdt) (T : Txt mg) (Cl : Cs K C) (I : In K C fi fdi) (hW : mg "Word" = some (.ref (C .w))) (hS : mg "Start" = some (.ref (C .s))) (hR : mg "Row" = some (.ref (C .r))) (hN : mg "Near" = some (.ref (C .n))) (X : Ex K mg "BadAsk" CB)
  (hK : ∀ i, PySem.W.kitAny K (.ref (C i)) ([C .w, C .s, C .r].map Value.ref) = some (lfk i)) : FnOk P w K mg base (CX1 P w) 3 f fd ["one", "other", "far"] (spANear C CB) := by
 obtain ⟨t1, c1⟩ := T.cFar
 have GT : FnOk P w K mg base CX0 2 ft fdt ["thing"] (spWhole K) := (ok_whole DT T).mono (by decide)
 have bT := binds1 (p := "thing") DT.F fun _ _ _ _ _ _ _ => rfl
 have GI : FnOk P w K mg base CX0 1 (fi .n) (fdi .n) ["self", "one", "other", "far"] (spI3 (C .n)) := ok_in Cl I
 refine D.F.ok1 scANear (fun vs H Q E h => ?_) (fun cdv A outer s H vs Q E hr h => ?_)
 ·obtain ⟨p, q, x, tp, tq, d, rfl, _⟩ := h
  rfl
 ·obtain ⟨p, q, x, tp, tq, d, rfl, hp, hq, hx, k1, k2⟩ := h
  have nv : nearOf tp tq d = if (lfk tp.kn && lfk tq.kn) = true then farOf d else none := rfl
  refine ⟨_, pss_cons (ps_for PassesOwn.leaving rfl (pi_tup (pe_tup (pa_cons (pv 0) (pa_cons (pv 1) pa_nil)))) (pg_name (i := 3) scANear.nd rfl (Or.inl rfl))
    (pss_one (ps_if (pt_not (pt_val (pe_callB call_isiT rfl T.isi b_isi (pa_cons (pv 3) (pa_cons (pe_tup (pa_cons (pe_glob (v := .ref (C .w)) rfl hW rfl) (pa_cons (pe_glob (v := .ref (C .s)) rfl hS rfl) (pa_cons (pe_glob (v := .ref (C .r)) rfl hR rfl) pa_nil)))) pa_nil)))))
     (pss_one (ps_raise rfl X.q PySem.F.excBase_ValueError (by decide +kernel) PySem.F.excBase_ValueError rfl X.m (pa_cons pe_str pa_nil) raise_out)) pss_nil)))
   (pss_cons (ps_if (PW.pt (pw_or (pt_not (pt_val (pe_call GT hr rfl DT.m DT.F.kp bT .nil pass0 (pa_cons (pv 2) pa_nil))))
    (pw_or (pt_cmpR op_lt (pv 2) pe_int (nomark _))
    (pw_or1 (pt_cmpR op_gt (pv 2) (pe_glob (v := .int 20) rfl c1 ⟨_, rfl⟩) (nomark _))))))
    (pss_one (ps_raise rfl X.q PySem.F.excBase_ValueError (by decide +kernel) PySem.F.excBase_ValueError rfl X.m (pa_cons pe_str pa_nil) raise_out)) pss_nil)
   (pss_one (ps_ret (pe_make (I.M .n) GI hr rfl hN (I.bi .n) .nil pass0 (pa_cons (pv 0) (pa_cons (pv 1) (pa_cons (pv 2) pa_nil))))))), ?_⟩
  refine ⟨_, rfl, _, rfl, two_line, fun tt htt => ?_⟩
  refine ⟨tt, rfl, ⟨_, SqT.of upd_same⟩, ?_⟩
  refine for_tup (xs := [.ref p, .ref q]) (fun i σ H' => ∃ o3, σ = [some (.ref p), some (.ref q), some x, o3] /\ Same H H' /\ H' tt = some (.tup [.ref p, .ref q]) /\ (0 < i -> lfk tp.kn = true) /\ (1 < i -> lfk tq.kn = true)) ?_ ?_ ?_ ?_
  ·exact ⟨none, rfl, same_upd htt, upd_same, fun z => absurd z (by decide), fun z => absurd z (by decide)⟩
  ·rintro i σ H' _ ⟨o3, rfl, _, e, _⟩
   exact SqT.of e
  ·rintro i y σ H' hy ⟨o3, rfl, sm, e, l1, l2⟩
   match i, hy with
   | 0, hy =>
    have ey : V.ref p = y := by simpa using hy
    subst ey
    obtain ⟨dp, fp, ep, _⟩ := (hp.same sm).ob
    refine ⟨_, rfl, three_line, fun c hc => ⟨p, C tp.kn, dp, fp, c, [C .w, C .s, C .r], _, rfl, by rw [upd_ne (ne_of_none ep hc)]; exact ep, Cl.ic _, upd_same, hK _, _, rfl, ?_⟩⟩
    cases hl : lfk tp.kn with
    | false => exact iteT ⟨one_line, k2 (by rw [nv, hl]; rfl) _ (sm.upf hc)⟩
    | true => exact iteF ⟨_, rfl, sm.upf hc, by rw [upd_ne (ne_of_none e hc)]; exact e, fun _ => rfl, fun z => absurd z (by decide)⟩
   | 1, hy =>
    have ey : V.ref q = y := by simpa using hy
    subst ey
    obtain ⟨dp, fp, ep, _⟩ := (hq.same sm).ob
    refine ⟨_, rfl, three_line, fun c hc => ⟨q, C tq.kn, dp, fp, c, [C .w, C .s, C .r], _, rfl, by rw [upd_ne (ne_of_none ep hc)]; exact ep, Cl.ic _, upd_same, hK _, _, rfl, ?_⟩⟩
    cases hl : lfk tq.kn with
    | false => exact iteT ⟨one_line, k2 (by rw [nv, hl, Bool.and_false]; rfl) _ (sm.upf hc)⟩
    | true => exact iteF ⟨_, rfl, sm.upf hc, by rw [upd_ne (ne_of_none e hc)]; exact e, fun _ => l1 (by decide), fun _ => rfl⟩
   | i + 2, hy => simp at hy
  ·rintro σ H' ⟨o3, rfl, sm, e, l1, l2⟩
   have L1 := l1 (by show 0 < 2; decide)
   have L2 := l2 (by show 1 < 2; decide)
   rw [L1, L2] at nv
   have nv' : nearOf tp tq d = farOf d := nv
   refine ⟨_, rfl, x, rfl, (hx.same sm).known, _, rfl, ?_⟩
   cases hx with
   | int n =>
    refine iteF ⟨_, rfl, _, _, rfl, rfl, _, rfl, ?_⟩
    have fv : farOf (.int n) = if 0 <= n /\ n <= 20 then some n else none := rfl
    by_cases h1 : n < 0
    ·rw [decide_eq_true h1]
     exact iteT (iteT ⟨one_line, k2 (by rw [nv', fv, if_neg (by omega)]) H' sm⟩)
    ·rw [decide_eq_false h1]
     refine iteF ⟨_, rfl, _, _, rfl, rfl, _, rfl, ?_⟩
     by_cases h2 : 20 < n
     ·rw [decide_eq_true h2]
      exact iteT ⟨one_line, k2 (by rw [nv', fv, if_neg (by omega)]) H' sm⟩
     ·rw [decide_eq_false h2]
      refine iteF ⟨_, rfl, _, rfl, _, rfl, fun b dx hb hdx hne => ⟨b, dx, p, q, n, rfl, upd_same, rfl, ?_⟩⟩
      have s2 := mk_same (o := .own b) (o' := .ins (C .n) dx []) (o'' := .ins (C .n) dx (f3 p q n)) hb hdx
      exact k1 n (by rw [nv', fv, if_pos (by omega)]) b _ (sm.trans s2) ⟨dx, p, q, upd_same, hp.same (sm.trans s2), hq.same (sm.trans s2)⟩
   | non => exact iteT (iteT ⟨one_line, k2 nv' H' sm⟩)
   | bl b => exact iteT (iteT ⟨one_line, k2 nv' H' sm⟩)
   | str z => exact iteT (iteT ⟨one_line, k2 nv' H' sm⟩)
   | lst _ _ _ => exact iteT (iteT ⟨one_line, k2 nv' H' sm⟩)
   | tup _ _ => exact iteT (iteT ⟨one_line, k2 nv' H' sm⟩)
end
noncomputable def arg (d : PyData) (i : Nat) : PyData := match d with
 | .tuple ds => ds.getD i .none
 | _ => .none
noncomputable def askOf : Nat -> PyData -> Option At
 | 0, _ => none
 | n + 1, d => match nmOf d with
  | none => none
  | some z =>
   if z = "word" then (wd (arg d 1)).map .word
   else if z = "start" then (wd (arg d 1)).map .start
   else if z = "row" then (rowOf (arg d 1)).map .row
   else match askOf n (arg d 1) with
    | none => none
    | some a =>
     if z = "not" then some (.no a)
     else match askOf n (arg d 2) with
      | none => none
      | some b => if z = "near" then (nearOf a b (arg d 3)).map (.near a b) else if z = "both" then some (.both a b) else some (.either a b)
theorem valV_in {kvs : List (Key × V)} {k : Key} {v : V} (h : valV kvs k = some v) : (k, v) ∈ kvs := by
 unfold valV at h
 obtain ⟨kv, e, q⟩ := Option.map_eq_some_iff.mp h
 have h1 := List.mem_of_find?_eq_some e
 have h2 : kv.1 = k := of_decide_eq_true (by simpa using List.find?_some e)
 rw [<- h2, <- q]
 exact h1
theorem nm_cases {d : PyData} {z : Str} (h : nmOf d = some z) : ∃ ds, d = .tuple (.str z :: ds) /\
  ((z = "word" /\ ds.length = 1) \/ (z = "start" /\ ds.length = 1) \/ (z = "row" /\ ds.length = 1) \/ (z = "near" /\ ds.length = 3) \/ (z = "both" /\ ds.length = 2) \/ (z = "either" /\ ds.length = 2) \/ (z = "not" /\ ds.length = 1)) := by
 unfold nmOf at h
 split at h
 ·rename_i y ds
  split at h
  ·rename_i q
   have ez : y = z := by simpa using h
   subst ez
   refine ⟨ds, rfl, ?_⟩
   have m := valV_in q
   unfold lens at m
   simp only [List.mem_cons, List.not_mem_nil, or_false, Prod.mk.injEq] at m
   rcases m with ⟨e1, e2⟩ | ⟨e1, e2⟩ | ⟨e1, e2⟩ | ⟨e1, e2⟩ | ⟨e1, e2⟩ | ⟨e1, e2⟩ | ⟨e1, e2⟩
   all_goals
    have e1' := Sum.inr.inj e1
    have e2' := V.int.inj e2
   ·exact .inl ⟨e1', by omega⟩
   ·exact .inr (.inl ⟨e1', by omega⟩)
   ·exact .inr (.inr (.inl ⟨e1', by omega⟩))
   ·exact .inr (.inr (.inr (.inl ⟨e1', by omega⟩)))
   ·exact .inr (.inr (.inr (.inr (.inl ⟨e1', by omega⟩))))
   ·exact .inr (.inr (.inr (.inr (.inr (.inl ⟨e1', by omega⟩)))))
   ·exact .inr (.inr (.inr (.inr (.inr (.inr ⟨e1', by omega⟩)))))
  ·cases h
 ·cases h
section
variable {n : Nat} {d : PyData}
theorem ask_none (h : nmOf d = none) : askOf (n + 1) d = none := by
 unfold askOf
 rw [h]
theorem a_word (h : nmOf d = some "word") : askOf (n + 1) d = (wd (arg d 1)).map .word := by
 rw [askOf, h]
 show (if _ then _ else _) = _
 rw [if_pos rfl]
theorem a_start (h : nmOf d = some "start") : askOf (n + 1) d = (wd (arg d 1)).map .start := by
 rw [askOf, h]
 show (if _ then _ else _) = _
 rw [if_neg (by decide +kernel), if_pos rfl]
theorem a_row (h : nmOf d = some "row") : askOf (n + 1) d = (rowOf (arg d 1)).map .row := by
 rw [askOf, h]
 show (if _ then _ else _) = _
 rw [if_neg (by decide +kernel), if_neg (by decide +kernel), if_pos rfl]
theorem a_not (h : nmOf d = some "not") : askOf (n + 1) d = (askOf n (arg d 1)).map .no := by
 rw [askOf, h]
 show (if _ then _ else _) = _
 rw [if_neg (by decide +kernel), if_neg (by decide +kernel), if_neg (by decide +kernel)]
 cases askOf n (arg d 1) with
 | none => rfl
 | some a =>
  show (if _ then _ else _) = _
  rw [if_pos rfl]
  rfl
noncomputable def two (n : Nat) (d : PyData) (k : At -> At -> Option At) : Option At := (askOf n (arg d 1)).bind fun a => (askOf n (arg d 2)).bind fun b => k a b
theorem a_near (h : nmOf d = some "near") : askOf (n + 1) d = two n d fun a b => (nearOf a b (arg d 3)).map (.near a b) := by
 rw [askOf, h]
 show (if _ then _ else _) = _
 unfold two
 rw [if_neg (by decide +kernel), if_neg (by decide +kernel), if_neg (by decide +kernel)]
 cases askOf n (arg d 1) with
 | none => rfl
 | some a =>
  show (if _ then _ else _) = _
  rw [if_neg (by decide +kernel)]
  cases askOf n (arg d 2) with
  | none => rfl
  | some b =>
   show (if _ then _ else _) = _
   rw [if_pos rfl]
   rfl
theorem a_both (h : nmOf d = some "both") : askOf (n + 1) d = two n d fun a b => some (.both a b) := by
 rw [askOf, h]
 show (if _ then _ else _) = _
 unfold two
 rw [if_neg (by decide +kernel), if_neg (by decide +kernel), if_neg (by decide +kernel)]
 cases askOf n (arg d 1) with
 | none => rfl
 | some a =>
  show (if _ then _ else _) = _
  rw [if_neg (by decide +kernel)]
  cases askOf n (arg d 2) with
  | none => rfl
  | some b =>
   show (if _ then _ else _) = _
   rw [if_neg (by decide +kernel), if_pos rfl]
   rfl
theorem a_either (h : nmOf d = some "either") : askOf (n + 1) d = two n d fun a b => some (.either a b) := by
 rw [askOf, h]
 show (if _ then _ else _) = _
 unfold two
 rw [if_neg (by decide +kernel), if_neg (by decide +kernel), if_neg (by decide +kernel)]
 cases askOf n (arg d 1) with
 | none => rfl
 | some a =>
  show (if _ then _ else _) = _
  rw [if_neg (by decide +kernel)]
  cases askOf n (arg d 2) with
  | none => rfl
  | some b =>
   show (if _ then _ else _) = _
   rw [if_neg (by decide +kernel), if_neg (by decide +kernel)]
   rfl
theorem two_no1 {k : At -> At -> Option At} (h : askOf n (arg d 1) = none) : two n d k = none := by unfold two; rw [h]; rfl
theorem two_no2 {k : At -> At -> Option At} {a : At} (h : askOf n (arg d 1) = some a) (h2 : askOf n (arg d 2) = none) : two n d k = none := by unfold two; rw [h]; show (askOf n (arg d 2)).bind _ = _; rw [h2]; rfl
theorem two_yes {k : At -> At -> Option At} {a b : At} (h : askOf n (arg d 1) = some a) (h2 : askOf n (arg d 2) = some b) : two n d k = k a b := by unfold two; rw [h]; show (askOf n (arg d 2)).bind _ = _; rw [h2]; rfl
end
theorem ifS {a b : Str} {A B : Prop} (h : a = b) (k : A) : if decide (V.str a = V.str b) = true then A else B := by rw [h, decide_eq_true rfl]; exact iteT k
theorem ifN {a b : Str} {A B : Prop} (h : ¬ a = b) (k : B) : if decide (V.str a = V.str b) = true then A else B := by rw [decide_eq_false (fun e => h (V.str.inj e))]; exact iteF k
section
variable {l : Bool} {H : Hp} {x : V}
theorem PdV.t2 {a b : PyData} (h : PdV l H x (.tuple [a, b])) : ∃ p x0 x1, x = .ref p /\ H p = some (.tup [x0, x1]) /\ PdV l H x0 a /\ PdV l H x1 b := by
 cases h with
 | tup ha hs =>
  cases hs with
  | cons h0 hs => cases hs with
   | cons h1 hs => cases hs with
    | nil => exact ⟨_, _, _, rfl, ha, h0, h1⟩
theorem PdV.t3 {a b c : PyData} (h : PdV l H x (.tuple [a, b, c])) : ∃ p x0 x1 x2, x = .ref p /\ H p = some (.tup [x0, x1, x2]) /\ PdV l H x0 a /\ PdV l H x1 b /\ PdV l H x2 c := by
 cases h with
 | tup ha hs =>
  cases hs with
  | cons h0 hs => cases hs with
   | cons h1 hs => cases hs with
    | cons h2 hs => cases hs with
     | nil => exact ⟨_, _, _, _, rfl, ha, h0, h1, h2⟩
theorem PdV.t4 {a b c d : PyData} (h : PdV l H x (.tuple [a, b, c, d])) : ∃ p x0 x1 x2 x3, x = .ref p /\ H p = some (.tup [x0, x1, x2, x3]) /\ PdV l H x0 a /\ PdV l H x1 b /\ PdV l H x2 c /\ PdV l H x3 d := by
 cases h with
 | tup ha hs =>
  cases hs with
  | cons h0 hs => cases hs with
   | cons h1 hs => cases hs with
    | cons h2 hs => cases hs with
     | cons h3 hs => cases hs with
      | nil => exact ⟨_, _, _, _, _, rfl, ha, h0, h1, h2, h3⟩
end
structure Nm (mg : Str -> Option Value) (C : Kn -> Addr) : Prop where
 w : mg "Word" = some (.ref (C .w))
 s : mg "Start" = some (.ref (C .s))
 r : mg "Row" = some (.ref (C .r))
 n : mg "Near" = some (.ref (C .n))
 b : mg "Both" = some (.ref (C .b))
 e : mg "Either" = some (.ref (C .e))
 o : mg "Not" = some (.ref (C .o))
section
variable {P : Program} {w : World} {K : PySem.W.Frag} {mg : Str -> Option Value} {base : Heap} {C fi : Kn -> Addr} {fdi : Kn -> FuncData} {CB : Addr}
noncomputable def spWithin (C : Kn -> Addr) (CB : Addr) (n : Nat) : Sp := fun vs H Q E => ∃ (x : V) (k : Int) (dd : PyData), vs = [x, .int k] /\ k = (n : Int) /\ PdV true H x dd /\ fitD dd /\
 (∀ t, askOf n dd = some t -> ∀ a H', Same H H' -> AskAt C H' a t -> Q (.ref a) H') /\ (askOf n dd = none -> ∀ H', Same H H' -> E (.ref CB) none H')
noncomputable def spW (C : Kn -> Addr) (CB : Addr) : Nat -> Sp
 | 0 => fun _ _ _ _ => False
 | n + 1 => spWithin C CB n
theorem ok_none {CX : CXT} {k : Nat} {f : Addr} {fd : FuncData} {ps : List Str} : FnOk P w K mg base CX k f fd ps (fun _ _ _ _ => False) := ⟨fun _ _ _ _ h => h.elim, fun _ _ _ _ _ _ _ _ _ _ _ _ _ h => h.elim⟩
theorem scWithin : FnScope ["told", "deep", "name", "one", "other"] ["told", "deep"] (defScope sWithin) := ⟨rfl, rfl, rfl, by decide +kernel, rfl, by decide +kernel, by decide +kernel⟩
seal PSs PS PE PT PA PG PI PGs PIfs in
theorem ok_within1 {f fn fa fr fe : Addr} {fd fdn fda fdr fde : FuncData} (D : Df K mg "ask_within" sWithin f fd) (DN : Df K mg "need_name" sName fn fdn) (DA : Df K mg "asked_word" sAWord fa fda) (DR : Df K mg "asked_row" sARow fr fdr) (DE : Df K mg "asked_near" sANear fe fde)
  (Cl : Cs K C) (I : In K C fi fdi) (NM : Nm mg C) (X : Ex K mg "BadAsk" CB)
  (GN : FnOk P w K mg base (CX1 P w) 1 fn fdn ["told"] (spName CB)) (GA : FnOk P w K mg base (CX1 P w) 3 fa fda ["thing"] (spAWord K CB)) (GR : FnOk P w K mg base (CX1 P w) 4 fr fdr ["thing"] (spARow C CB))
  (GE : FnOk P w K mg base (CX1 P w) 3 fe fde ["one", "other", "far"] (spANear C CB)) (n : Nat) (GW : FnOk P w K mg base (CX1 P w) (n + 4) f fd ["told", "deep"] (spW C CB n)) :
  FnOk P w K mg base (CX1 P w) (n + 5) f fd ["told", "deep"] (spWithin C CB n) := by
 have bN := binds1 (p := "told") DN.F fun _ _ _ _ _ _ _ => rfl
 have bA := binds1 (p := "thing") DA.F fun _ _ _ _ _ _ _ => rfl
 have bR := binds1 (p := "thing") DR.F fun _ _ _ _ _ _ _ => rfl
 have bE := DE.F.binds (ps := ["one", "other", "far"]) fun _ _ _ _ _ _ us hl => match us, hl with | [_, _, _], _ => rfl
 have bW := D.F.binds (ps := ["told", "deep"]) fun _ _ _ _ _ _ us hl => us2 (fun _ _ => rfl) us hl
 have GN' := GN.mono (show 1 <= n + 4 by omega)
 have GA' := GA.mono (show 3 <= n + 4 by omega)
 have GR' := GR.mono (show 4 <= n + 4 by omega)
 have GE' := GE.mono (show 3 <= n + 4 by omega)
 have Gw : FnOk P w K mg base CX0 (n + 3) (fi .w) (fdi .w) ["self", "word"] (spI1 (C .w) "word") := (ok_iw Cl I).mono (by omega)
 have Gs : FnOk P w K mg base CX0 (n + 3) (fi .s) (fdi .s) ["self", "word"] (spI1 (C .s) "word") := (ok_is Cl I).mono (by omega)
 have Go : FnOk P w K mg base CX0 (n + 3) (fi .o) (fdi .o) ["self", "one"] (spI1 (C .o) "one") := (ok_io Cl I).mono (by omega)
 have Gb : FnOk P w K mg base CX0 (n + 3) (fi .b) (fdi .b) ["self", "one", "other"] (spI2 (C .b)) := (ok_ib Cl I).mono (by omega)
 have Ge : FnOk P w K mg base CX0 (n + 3) (fi .e) (fdi .e) ["self", "one", "other"] (spI2 (C .e)) := (ok_ie Cl I).mono (by omega)
 refine D.F.ok1 scWithin (fun vs H Q E h => ?_) (fun cdv A outer s H vs Q E hr h => ?_)
 ·obtain ⟨x, k, dd, rfl, _⟩ := h
  rfl
 ·obtain ⟨x, k, dd, rfl, rfl, hp, hf, k1, k2⟩ := h
  refine ⟨_, pss_cons (ps_if (pt_cmpR op_eq (pv 1) pe_int (nomark _)) (pss_one (ps_raise rfl X.q PySem.F.excBase_ValueError (by decide +kernel) PySem.F.excBase_ValueError rfl X.m (pa_cons pe_str pa_nil) raise_out)) pss_nil)
   (pss_cons (ps_set (i := 2) scWithin.nd rfl (Or.inl rfl) (pe_call GN' hr rfl DN.m DN.F.kp bN .nil (pass_out (E' := E) (fun _ _ _ h => h)) (pa_cons (pv 0) pa_nil)))
   (pss_cons (ps_if (pt_cmpR op_eq (pv 2) pe_str (nomark _)) (pss_one (ps_ret (pe_make (I.M .w) Gw hr rfl NM.w (I.bi .w) .nil pass0 (pa_cons (pe_call GA' hr rfl DA.m DA.F.kp bA .nil (pass_out (E' := E) (fun _ _ _ h => h)) (pa_cons (pe_ix ix_tup (pv 0) pe_int (fun _ _ => rfl)) pa_nil)) pa_nil)))) pss_nil)
   (pss_cons (ps_if (pt_cmpR op_eq (pv 2) pe_str (nomark _)) (pss_one (ps_ret (pe_make (I.M .s) Gs hr rfl NM.s (I.bi .s) .nil pass0 (pa_cons (pe_call GA' hr rfl DA.m DA.F.kp bA .nil (pass_out (E' := E) (fun _ _ _ h => h)) (pa_cons (pe_ix ix_tup (pv 0) pe_int (fun _ _ => rfl)) pa_nil)) pa_nil)))) pss_nil)
   (pss_cons (ps_if (pt_cmpR op_eq (pv 2) pe_str (nomark _)) (pss_one (ps_ret (pe_call GR' hr rfl DR.m DR.F.kp bR .nil (pass_out (E' := E) (fun _ _ _ h => h)) (pa_cons (pe_ix ix_tup (pv 0) pe_int (fun _ _ => rfl)) pa_nil)))) pss_nil)
   (pss_cons (ps_set (i := 3) scWithin.nd rfl (Or.inl rfl) (pe_call GW hr rfl D.m D.F.kp bW .nil (pass_out (E' := E) (fun _ _ _ h => h)) (pa_cons (pe_ix ix_tup (pv 0) pe_int (fun _ _ => rfl)) (pa_cons (pe_op op_sub (pv 1) pe_int) pa_nil))))
   (pss_cons (ps_if (pt_cmpR op_eq (pv 2) pe_str (nomark _)) (pss_one (ps_ret (pe_make (I.M .o) Go hr rfl NM.o (I.bi .o) .nil pass0 (pa_cons (pv 3) pa_nil)))) pss_nil)
   (pss_cons (ps_set (i := 4) scWithin.nd rfl (Or.inl rfl) (pe_call GW hr rfl D.m D.F.kp bW .nil (pass_out (E' := E) (fun _ _ _ h => h)) (pa_cons (pe_ix ix_tup (pv 0) pe_int (fun _ _ => rfl)) (pa_cons (pe_op op_sub (pv 1) pe_int) pa_nil))))
   (pss_cons (ps_if (pt_cmpR op_eq (pv 2) pe_str (nomark _)) (pss_one (ps_ret (pe_call GE' hr rfl DE.m DE.F.kp bE .nil (pass_out (E' := E) (fun _ _ _ h => h)) (pa_cons (pv 3) (pa_cons (pv 4) (pa_cons (pe_ix ix_tup (pv 0) pe_int (fun _ _ => rfl)) pa_nil)))))) pss_nil)
   (pss_one (ps_ret (pe_ifExp (pt_cmpR op_eq (pv 2) pe_str (nomark _)) (pe_make (I.M .b) Gb hr rfl NM.b (I.bi .b) .nil pass0 (pa_cons (pv 3) (pa_cons (pv 4) pa_nil))) (pe_make (I.M .e) Ge hr rfl NM.e (I.bi .e) .nil pass0 (pa_cons (pv 3) (pa_cons (pv 4) pa_nil)))))))))))))), ?_⟩
  refine ⟨_, rfl, rfl, _, rfl, ?_⟩
  cases n with
  | zero => exact iteT ⟨one_line, k2 rfl H (Same.refl H)⟩
  | succ n =>
   have hne : decide (V.int ((n + 1 : Nat) : Int) = V.int 0) = false := decide_eq_false (fun z => by have := V.int.inj z; omega)
   rw [hne]
   refine iteF ⟨_, rfl, x, dd, rfl, hp, fun z hz => ?_, fun e => k2 (ask_none e) H (Same.refl H)⟩
   obtain ⟨ds, rfl, hc⟩ := nm_cases hz
   rcases hc with ⟨rfl, hd⟩ | ⟨rfl, hd⟩ | ⟨rfl, hd⟩ | ⟨rfl, hd⟩ | ⟨rfl, hd⟩ | ⟨rfl, hd⟩ | ⟨rfl, hd⟩
   ·match ds, hd with
    | [d1], _ =>
     obtain ⟨p, x0, x1, rfl, ha, _, h1⟩ := hp.t2
     have hw := wd_of h1
     have av : askOf (n + 1) (.tuple [.str "word", d1]) = (wd d1).map .word := a_word hz
     refine ⟨_, rfl, rfl, _, rfl, ifS rfl ⟨_, rfl, p, _, 1, x1, rfl, rfl, SqT.of ha, atI_nat (j := 1) rfl, x1, rfl, h1.known, h1.fit hf.2.1, fun e H2 s2 => ?_, fun e H2 s2 => k2 (by rw [av, hw.2 e]; rfl) H2 s2⟩⟩
     obtain ⟨zz, rfl, e2⟩ := hw.1 e
     intro b dx hb hdx hne
     exact ⟨b, dx, _, rfl, upd_same, rfl, k1 (.word zz) (by rw [av, e2]; rfl) b _ (s2.trans (mk_same hb hdx)) ⟨dx, upd_same⟩⟩
   ·match ds, hd with
    | [d1], _ =>
     obtain ⟨p, x0, x1, rfl, ha, _, h1⟩ := hp.t2
     have hw := wd_of h1
     have av : askOf (n + 1) (.tuple [.str "start", d1]) = (wd d1).map .start := a_start hz
     refine ⟨_, rfl, rfl, _, rfl, ifN (by decide +kernel) ⟨_, rfl, rfl, _, rfl, ifS rfl ⟨_, rfl, p, _, 1, x1, rfl, rfl, SqT.of ha, atI_nat (j := 1) rfl, x1, rfl, h1.known, h1.fit hf.2.1, fun e H2 s2 => ?_, fun e H2 s2 => k2 (by rw [av, hw.2 e]; rfl) H2 s2⟩⟩⟩
     obtain ⟨zz, rfl, e2⟩ := hw.1 e
     intro b dx hb hdx hne
     exact ⟨b, dx, _, rfl, upd_same, rfl, k1 (.start zz) (by rw [av, e2]; rfl) b _ (s2.trans (mk_same hb hdx)) ⟨dx, upd_same⟩⟩
   ·match ds, hd with
    | [d1], _ =>
     obtain ⟨p, x0, x1, rfl, ha, _, h1⟩ := hp.t2
     have av : askOf (n + 1) (.tuple [.str "row", d1]) = (rowOf d1).map .row := a_row hz
     exact ⟨_, rfl, rfl, _, rfl, ifN (by decide +kernel) ⟨_, rfl, rfl, _, rfl, ifN (by decide +kernel) ⟨_, rfl, rfl, _, rfl, ifS rfl ⟨_, rfl, p, _, 1, x1, rfl, rfl, SqT.of ha, atI_nat (j := 1) rfl, x1, d1, rfl, h1, hf.2.1,
      fun zs e a H2 s2 hA => k1 (.row zs) (by rw [av, e]; rfl) a H2 s2 hA, fun e H2 s2 => k2 (by rw [av, e]; rfl) H2 s2⟩⟩⟩⟩
   ·match ds, hd with
    | [d1, d2, d3], _ =>
     obtain ⟨p, x0, x1, x2, x3, rfl, ha, _, h1, h2, h3⟩ := hp.t4
     have av := a_near (n := n) hz
     refine ⟨_, rfl, rfl, _, rfl, ifN (by decide +kernel) ⟨_, rfl, rfl, _, rfl, ifN (by decide +kernel) ⟨_, rfl, rfl, _, rfl, ifN (by decide +kernel) ⟨_, rfl, p, _, 1, x1, rfl, rfl, SqT.of ha, atI_nat (j := 1) rfl, _, rfl, _, _, rfl, rfl,
      x1, _, d1, rfl, by omega, h1, hf.2.1, fun t1 e1 a1 H1 s1 hA1 => ?_, fun e1 H1 s1 => k2 (by rw [av]; exact two_no1 e1) H1 s1⟩⟩⟩⟩
     refine ⟨_, rfl, rfl, _, rfl, ifN (by decide +kernel) ⟨_, rfl, p, _, 2, x2, rfl, rfl, SqT.of (s1 _ _ ha), atI_nat (j := 2) rfl, _, rfl, _, _, rfl, rfl,
      x2, _, d2, rfl, by omega, h2.same s1, hf.2.2.1, fun t2 e2 a2 H2 s2 hA2 => ?_, fun e2 H2 s2 => k2 (by rw [av]; exact two_no2 e1 e2) H2 (s1.trans s2)⟩⟩
     have av' := av.trans (two_yes e1 e2)
     exact ⟨_, rfl, rfl, _, rfl, ifS rfl ⟨_, rfl, _, rfl, _, rfl, p, _, 3, x3, rfl, rfl, SqT.of (s2 _ _ (s1 _ _ ha)), atI_nat (j := 3) rfl, a1, a2, x3, t1, t2, d3, rfl, hA1.same s2, hA2, (h3.same s1).same s2,
      fun m e a H3 s3 hA => k1 (.near t1 t2 m) (by rw [av']; show (nearOf t1 t2 d3).map _ = _; rw [e]; rfl) a H3 ((s1.trans s2).trans s3) hA, fun e H3 s3 => k2 (by rw [av']; show (nearOf t1 t2 d3).map _ = _; rw [e]; rfl) H3 ((s1.trans s2).trans s3)⟩⟩
   ·match ds, hd with
    | [d1, d2], _ =>
     obtain ⟨p, x0, x1, x2, rfl, ha, _, h1, h2⟩ := hp.t3
     have av := a_both (n := n) hz
     refine ⟨_, rfl, rfl, _, rfl, ifN (by decide +kernel) ⟨_, rfl, rfl, _, rfl, ifN (by decide +kernel) ⟨_, rfl, rfl, _, rfl, ifN (by decide +kernel) ⟨_, rfl, p, _, 1, x1, rfl, rfl, SqT.of ha, atI_nat (j := 1) rfl, _, rfl, _, _, rfl, rfl,
      x1, _, d1, rfl, by omega, h1, hf.2.1, fun t1 e1 a1 H1 s1 hA1 => ?_, fun e1 H1 s1 => k2 (by rw [av]; exact two_no1 e1) H1 s1⟩⟩⟩⟩
     refine ⟨_, rfl, rfl, _, rfl, ifN (by decide +kernel) ⟨_, rfl, p, _, 2, x2, rfl, rfl, SqT.of (s1 _ _ ha), atI_nat (j := 2) rfl, _, rfl, _, _, rfl, rfl,
      x2, _, d2, rfl, by omega, h2.same s1, hf.2.2.1, fun t2 e2 a2 H2 s2 hA2 => ?_, fun e2 H2 s2 => k2 (by rw [av]; exact two_no2 e1 e2) H2 (s1.trans s2)⟩⟩
     refine ⟨_, rfl, rfl, _, rfl, ifN (by decide +kernel) ⟨_, rfl, rfl, _, rfl, ifS rfl ⟨_, rfl, _, rfl, fun b dx hb hdx hne => ⟨b, dx, a1, a2, rfl, upd_same, rfl, ?_⟩⟩⟩⟩
     have s3 := mk_same (o := .own b) (o' := .ins (C .b) dx []) (o'' := .ins (C .b) dx (f2 a1 a2)) hb hdx
     exact k1 (.both t1 t2) (av.trans (two_yes e1 e2)) b _ ((s1.trans s2).trans s3) ⟨dx, a1, a2, upd_same, hA1.same (s2.trans s3), hA2.same s3⟩
   ·match ds, hd with
    | [d1, d2], _ =>
     obtain ⟨p, x0, x1, x2, rfl, ha, _, h1, h2⟩ := hp.t3
     have av := a_either (n := n) hz
     refine ⟨_, rfl, rfl, _, rfl, ifN (by decide +kernel) ⟨_, rfl, rfl, _, rfl, ifN (by decide +kernel) ⟨_, rfl, rfl, _, rfl, ifN (by decide +kernel) ⟨_, rfl, p, _, 1, x1, rfl, rfl, SqT.of ha, atI_nat (j := 1) rfl, _, rfl, _, _, rfl, rfl,
      x1, _, d1, rfl, by omega, h1, hf.2.1, fun t1 e1 a1 H1 s1 hA1 => ?_, fun e1 H1 s1 => k2 (by rw [av]; exact two_no1 e1) H1 s1⟩⟩⟩⟩
     refine ⟨_, rfl, rfl, _, rfl, ifN (by decide +kernel) ⟨_, rfl, p, _, 2, x2, rfl, rfl, SqT.of (s1 _ _ ha), atI_nat (j := 2) rfl, _, rfl, _, _, rfl, rfl,
      x2, _, d2, rfl, by omega, h2.same s1, hf.2.2.1, fun t2 e2 a2 H2 s2 hA2 => ?_, fun e2 H2 s2 => k2 (by rw [av]; exact two_no2 e1 e2) H2 (s1.trans s2)⟩⟩
     refine ⟨_, rfl, rfl, _, rfl, ifN (by decide +kernel) ⟨_, rfl, rfl, _, rfl, ifN (by decide +kernel) ⟨_, rfl, _, rfl, fun b dx hb hdx hne => ⟨b, dx, a1, a2, rfl, upd_same, rfl, ?_⟩⟩⟩⟩
     have s3 := mk_same (o := .own b) (o' := .ins (C .e) dx []) (o'' := .ins (C .e) dx (f2 a1 a2)) hb hdx
     exact k1 (.either t1 t2) (av.trans (two_yes e1 e2)) b _ ((s1.trans s2).trans s3) ⟨dx, a1, a2, upd_same, hA1.same (s2.trans s3), hA2.same s3⟩
   ·match ds, hd with
    | [d1], _ =>
     obtain ⟨p, x0, x1, rfl, ha, _, h1⟩ := hp.t2
     have av : askOf (n + 1) (.tuple [.str "not", d1]) = (askOf n d1).map .no := a_not hz
     refine ⟨_, rfl, rfl, _, rfl, ifN (by decide +kernel) ⟨_, rfl, rfl, _, rfl, ifN (by decide +kernel) ⟨_, rfl, rfl, _, rfl, ifN (by decide +kernel) ⟨_, rfl, p, _, 1, x1, rfl, rfl, SqT.of ha, atI_nat (j := 1) rfl, _, rfl, _, _, rfl, rfl,
      x1, _, d1, rfl, by omega, h1, hf.2.1, fun t1 e1 a1 H1 s1 hA1 => ?_, fun e1 H1 s1 => k2 (by rw [av, e1]; rfl) H1 s1⟩⟩⟩⟩
     refine ⟨_, rfl, rfl, _, rfl, ifS rfl ⟨_, rfl, fun b dx hb hdx hne => ⟨b, dx, .ref a1, rfl, upd_same, rfl, ?_⟩⟩⟩
     have s3 := mk_same (o := .own b) (o' := .ins (C .o) dx []) (o'' := .ins (C .o) dx (f1 a1)) hb hdx
     exact k1 (.no t1) (by rw [av, e1]; rfl) b _ (s1.trans s3) ⟨dx, a1, upd_same, hA1.same s3⟩
end
theorem At.kids_dep : ∀ {t k : At}, k ∈ t.kids -> k.dep + 1 <= t.dep
 | .near a b _, k, h => by
  show k.dep + 1 <= max a.dep b.dep + 1
  have h' : k = a \/ k = b := by simpa [At.kids] using h
  rcases h' with rfl | rfl <;> omega
 | .both a b, k, h => by
  show k.dep + 1 <= max a.dep b.dep + 1
  have h' : k = a \/ k = b := by simpa [At.kids] using h
  rcases h' with rfl | rfl <;> omega
 | .either a b, k, h => by
  show k.dep + 1 <= max a.dep b.dep + 1
  have h' : k = a \/ k = b := by simpa [At.kids] using h
  rcases h' with rfl | rfl <;> omega
 | .no a, k, h => by
  show k.dep + 1 <= a.dep + 1
  have h' : k = a := by simpa [At.kids] using h
  rw [h']
  omega
 | .word _, k, h => by simp [At.kids] at h
 | .start _, k, h => by simp [At.kids] at h
 | .row _, k, h => by simp [At.kids] at h
theorem At.many_kids : ∀ t : At, t.many = 1 + (t.kids.map At.many).sum
 | .near a b _ => by show 1 + (a.many + b.many) = 1 + (a.many + (b.many + 0)); omega
 | .both a b => by show 1 + (a.many + b.many) = 1 + (a.many + (b.many + 0)); omega
 | .either a b => by show 1 + (a.many + b.many) = 1 + (a.many + (b.many + 0)); omega
 | .no a => by show 1 + a.many = 1 + (a.many + 0); omega
 | .word _ => rfl
 | .start _ => rfl
 | .row _ => rfl
theorem le_sum {x : Nat} : ∀ {l : List Nat}, x ∈ l -> x <= l.sum
 | y :: l, h => by
  rw [List.sum_cons]
  rcases List.mem_cons.mp h with rfl | h
  ·omega
  ·have := le_sum h
   omega
theorem At.kids_many {t k : At} (h : k ∈ t.kids) : k.many <= t.many := by
 have := le_sum (List.mem_map.mpr ⟨k, h, rfl⟩ : k.many ∈ t.kids.map At.many)
 rw [At.many_kids t]
 omega
theorem At.kids_len (t : At) : t.kids.length <= 2 := by cases t <;> simp [At.kids]
theorem pow2 {a b x y : Nat} (h1 : x + 1 <= 2 ^ (a + 1)) (h2 : y + 1 <= 2 ^ (b + 1)) : 1 + (x + y) + 1 <= 2 ^ (max a b + 1 + 1) := by
 rw [Nat.pow_succ]
 have e1 : 2 ^ (a + 1) <= 2 ^ (max a b + 1) := Nat.pow_le_pow_right (by decide) (by omega)
 have e2 : 2 ^ (b + 1) <= 2 ^ (max a b + 1) := Nat.pow_le_pow_right (by decide) (by omega)
 omega
theorem At.many_pow : ∀ t : At, t.many + 1 <= 2 ^ (t.dep + 1)
 | .near a b _ => pow2 (At.many_pow a) (At.many_pow b)
 | .both a b => pow2 (At.many_pow a) (At.many_pow b)
 | .either a b => pow2 (At.many_pow a) (At.many_pow b)
 | .no a => by
  have := At.many_pow a
  show 1 + a.many + 1 <= 2 ^ (a.dep + 1 + 1)
  rw [Nat.pow_succ]
  have h1 := Nat.one_le_two_pow (n := a.dep + 1)
  omega
 | .word _ => Nat.le_refl _
 | .start _ => Nat.le_refl _
 | .row _ => Nat.le_refl _
theorem two_some {n : Nat} {d : PyData} {k : At -> At -> Option At} {t : At} (h : two n d k = some t) : ∃ a b, askOf n (arg d 1) = some a /\ askOf n (arg d 2) = some b /\ k a b = some t := by
 unfold two at h
 cases ha : askOf n (arg d 1) with
 | none => rw [ha] at h; cases h
 | some a =>
  rw [ha] at h
  have h' : (askOf n (arg d 2)).bind (fun b => k a b) = some t := h
  cases hb : askOf n (arg d 2) with
  | none => rw [hb] at h'; cases h'
  | some b =>
   rw [hb] at h'
   exact ⟨a, b, rfl, rfl, h'⟩
theorem askOf_dep : ∀ {n : Nat} {d : PyData} {t : At}, askOf n d = some t -> t.dep + 1 <= n
 | 0, _, _, h => by cases h
 | n + 1, d, t, h => by
  cases hz : nmOf d with
  | none => rw [ask_none hz] at h; cases h
  | some z =>
   obtain ⟨ds, _, hc⟩ := nm_cases hz
   rcases hc with ⟨rfl, _⟩ | ⟨rfl, _⟩ | ⟨rfl, _⟩ | ⟨rfl, _⟩ | ⟨rfl, _⟩ | ⟨rfl, _⟩ | ⟨rfl, _⟩
   ·rw [a_word hz] at h
    obtain ⟨y, _, rfl⟩ := Option.map_eq_some_iff.mp h
    exact Nat.succ_le_succ (Nat.zero_le _)
   ·rw [a_start hz] at h
    obtain ⟨y, _, rfl⟩ := Option.map_eq_some_iff.mp h
    exact Nat.succ_le_succ (Nat.zero_le _)
   ·rw [a_row hz] at h
    obtain ⟨y, _, rfl⟩ := Option.map_eq_some_iff.mp h
    exact Nat.succ_le_succ (Nat.zero_le _)
   ·rw [a_near hz] at h
    obtain ⟨a, b, h1, h2, h3⟩ := two_some h
    obtain ⟨y, _, rfl⟩ := Option.map_eq_some_iff.mp h3
    have d1 := askOf_dep h1
    have d2 := askOf_dep h2
    show max a.dep b.dep + 1 + 1 <= n + 1
    omega
   ·rw [a_both hz] at h
    obtain ⟨a, b, h1, h2, h3⟩ := two_some h
    cases h3
    have d1 := askOf_dep h1
    have d2 := askOf_dep h2
    show max a.dep b.dep + 1 + 1 <= n + 1
    omega
   ·rw [a_either hz] at h
    obtain ⟨a, b, h1, h2, h3⟩ := two_some h
    cases h3
    have d1 := askOf_dep h1
    have d2 := askOf_dep h2
    show max a.dep b.dep + 1 + 1 <= n + 1
    omega
   ·rw [a_not hz] at h
    obtain ⟨a, h1, rfl⟩ := Option.map_eq_some_iff.mp h
    have d1 := askOf_dep h1
    show a.dep + 1 + 1 <= n + 1
    omega
noncomputable def ofD (d : PyData) : Option At := (askOf 8 d).bind fun t => if t.many <= 40 then some t else none
section
variable {P : Program} {w : World} {K : PySem.W.Frag} {mg : Str -> Option Value} {base : Heap} {C fi fk : Kn -> Addr} {fdi fdk : Kn -> FuncData} {CB : Addr}
theorem b_sum : bootBuiltins "sum" = some (.builtin "sum") := by decide +kernel
noncomputable def spMany (C : Kn -> Addr) (n : Nat) : Sp := fun vs H Q _ => ∃ (a : Addr) (t : At), vs = [.ref a] /\ AskAt C H a t /\ t.dep <= n /\ t.many <= 100000 /\ ∀ H', Same H H' -> Q (.int ((t.many : Nat) : Int)) H'
noncomputable def spM (C : Kn -> Addr) : Nat -> Sp
 | 0 => fun _ _ _ _ => False
 | n + 1 => spMany C n
theorem scMany : FnScope ["ask"] ["ask"] (defScope sMany) := ⟨rfl, rfl, rfl, by decide +kernel, rfl, by decide +kernel, by decide +kernel⟩
theorem ndKid : (["kid"] : List Str).Nodup := by decide +kernel
theorem pd_at {α β : Type} {F : α -> β -> Prop} : ∀ {l : List α} {m : List β}, Paired F l m -> ∀ {i : Nat} {a : α}, l[i]? = some a -> ∃ b, m[i]? = some b /\ F a b
 | _, _, .cons r t, 0, a, e => by
  simp at e
  exact ⟨_, rfl, e ▸ r⟩
 | _, _, .cons r t, i + 1, a, e => by
  obtain ⟨b, e1, e2⟩ := pd_at t (i := i) (by simpa using e)
  exact ⟨b, by simpa using e1, e2⟩
 | _, _, .nil, 0, a, e => by simp at e
 | _, _, .nil, i + 1, a, e => by simp at e
seal PSs PS PE PT PA PG PI PGs PIfs in
theorem ok_many1 {f : Addr} {fd : FuncData} (D : Df K mg "many_in" sMany f fd) (T : Txt mg) (Cl : Cs K C) (M : Mt K C "kids" qKids mKids fk fdk) (n : Nat) (GM : FnOk P w K mg base CX0 (n + 1) f fd ["ask"] (spM C n)) : FnOk P w K mg base CX0 (n + 2) f fd ["ask"] (spMany C n) := by
 have bM := binds1 (p := "ask") D.F fun _ _ _ _ _ _ _ => rfl
 have GK : ∀ i, FnOk P w K mg base CX0 (n + 1) (fk i) (fdk i) ["self"] (spKids C i) := fun i => (ok_kids Cl M i).mono (by omega)
 have hz : (sizeLine : Nat) = 16777216 := sizeLine_eq
 refine D.F.ok scMany (fun vs H Q E h => ?_) (fun cdv A outer s H vs Q E hr h => ?_)
 ·obtain ⟨a, t, rfl, _⟩ := h
  rfl
 ·obtain ⟨a, t, rfl, hA, hd, hm, k⟩ := h
  refine ⟨_, pss_one (ps_ret (pe_op op_add pe_int (pe_callB (call_sumN rfl) rfl T.sum b_sum (pa_cons (pe_comp (own := 1) (caps := []) (N := ["kid"]) (N0 := ["ask"]) (sc0 := defScope sMany) rfl
    (pi_list (pe_methP0 (pv 0) Cl.cl M.M GK hr (biKids M) pass0)) (fun _ _ _ => pg_name (i := 0) ndKid rfl (Or.inl rfl)) (fun _ _ _ => pf_none)
    (fun _ _ _ => pe_call GM hr rfl D.m D.F.kp bM .nil pass0 (pa_cons (pv 0) pa_nil)) (gk_name (by decide)) rfl rfl
    (by decide +kernel) rfl (by decide +kernel) (by decide +kernel) rfl (by decide +kernel)) pa_nil)))), ?_⟩
  obtain ⟨dp, fp, ep, lp⟩ := hA.ob
  refine ⟨_, rfl, t.kn, a, dp, fp, rfl, ep, lp _ nf_kids, a, t, rfl, hA, rfl, fun l xs hl hK => ?_⟩
  have kl := t.kids_len
  have xl := Gn.Paired.len hK
  refine ⟨l, rfl, ⟨_, SqL.of upd_same⟩, comp_itl (xs := xs) (fun i ys H' => Same H H' /\ H' l = some (.lst xs) /\ ys = (t.kids.take i).map fun k => V.int ((k.many : Nat) : Int)) (by omega) (fun i ys H' ⟨_, e, _⟩ => SqL.of e) ⟨same_upd hl, upd_same, rfl⟩ ?_ ?_⟩
  ·rintro i y ys H' N hy ⟨sm, el, rfl⟩ hN
   obtain ⟨kd, hkd, p, rfl, hp⟩ := pd_at hK hy
   have hin := List.mem_of_getElem? hkd
   have d1 := At.kids_dep hin
   have m1 := At.kids_many hin
   refine g1 ?_
   match n, GM, hd with
   | 0, _, hd => omega
   | n + 1, _, hd =>
    refine ⟨_, rfl, p, kd, rfl, hp.same sm, by omega, by omega, fun H2 s2 => hN _ _ ⟨sm.trans s2, s2 _ _ el, ?_⟩⟩
    rw [List.take_add_one, hkd, List.map_append]
    rfl
  ·rintro ys H' ⟨sm, el, rfl⟩ _ p hp
   have mk := t.many_kids
   have e1 : (t.kids.take xs.length).map (fun k => V.int ((k.many : Nat) : Int)) = (t.kids.map At.many).map fun (n : Nat) => V.int (n : Int) := by
    rw [xl, List.take_length, List.map_map]
    rfl
   refine ⟨p, t.kids.map At.many, rfl, SqL.of (by rw [upd_same, e1]), by omega, _, _, rfl, rfl, ?_⟩
   have := k _ (sm.upf (o := .lst ((t.kids.take xs.length).map fun k => V.int ((k.many : Nat) : Int))) hp)
   rw [mk] at this
   exact this
theorem ok_many {f : Addr} {fd : FuncData} (D : Df K mg "many_in" sMany f fd) (T : Txt mg) (Cl : Cs K C) (M : Mt K C "kids" qKids mKids fk fdk) : ∀ n : Nat, FnOk P w K mg base CX0 (n + 2) f fd ["ask"] (spMany C n)
 | 0 => ok_many1 D T Cl M 0 ok_none
 | n + 1 => ok_many1 D T Cl M (n + 1) (ok_many D T Cl M n)
noncomputable def spAskOf (C : Kn -> Addr) (CB : Addr) : Sp := fun vs H Q E => ∃ (x : V) (dd : PyData), vs = [x] /\ PdV true H x dd /\ fitD dd /\
 (∀ t, ofD dd = some t -> ∀ a H', Same H H' -> AskAt C H' a t -> Q (.ref a) H') /\ (ofD dd = none -> ∀ H', Same H H' -> E (.ref CB) none H')
theorem scAskOf : FnScope ["told", "ask"] ["told"] (defScope sAskOf) := ⟨rfl, rfl, rfl, by decide +kernel, rfl, by decide +kernel, by decide +kernel⟩
seal PSs PS PE PT PA PG PI PGs PIfs in
theorem ok_askof {f fw fm : Addr} {fd fdw fdm : FuncData} (D : Df K mg "ask_of" sAskOf f fd) (DW : Df K mg "ask_within" sWithin fw fdw) (DM : Df K mg "many_in" sMany fm fdm) (T : Txt mg) (X : Ex K mg "BadAsk" CB)
  (GW : FnOk P w K mg base (CX1 P w) 13 fw fdw ["told", "deep"] (spWithin C CB 8)) (GM : FnOk P w K mg base CX0 9 fm fdm ["ask"] (spMany C 7)) : FnOk P w K mg base (CX1 P w) 14 f fd ["told"] (spAskOf C CB) := by
 obtain ⟨t1, c1⟩ := T.cDeep
 obtain ⟨t2, c2⟩ := T.cAll
 have bW := DW.F.binds (ps := ["told", "deep"]) fun _ _ _ _ _ _ us hl => us2 (fun _ _ => rfl) us hl
 have bM := binds1 (p := "ask") DM.F fun _ _ _ _ _ _ _ => rfl
 have GM' := GM.mono (show 9 <= 13 by decide)
 refine D.F.ok1 scAskOf (fun vs H Q E h => ?_) (fun cdv A outer s H vs Q E hr h => ?_)
 ·obtain ⟨x, dd, rfl, _⟩ := h
  rfl
 ·obtain ⟨x, dd, rfl, hp, hf, k1, k2⟩ := h
  refine ⟨_, pss_cons (ps_set (i := 1) scAskOf.nd rfl (Or.inl rfl) (pe_call GW hr rfl DW.m DW.F.kp bW .nil (pass_out (E' := E) (fun _ _ _ h => h)) (pa_cons (pv 0) (pa_cons (pe_glob (v := .int 8) rfl c1 ⟨_, rfl⟩) pa_nil))))
   (pss_cons (ps_if (pt_cmpR op_gt (pe_call GM' hr rfl DM.m DM.F.kp bM .nil pass0 (pa_cons (pv 1) pa_nil)) (pe_glob (v := .int 40) rfl c2 ⟨_, rfl⟩) (nomark _)) (pss_one (ps_raise rfl X.q PySem.F.excBase_ValueError (by decide +kernel) PySem.F.excBase_ValueError rfl X.m (pa_cons pe_str pa_nil) raise_out)) pss_nil)
   (pss_one (ps_ret (pv 1)))), ?_⟩
  refine ⟨_, rfl, x, 8, dd, rfl, rfl, hp, hf, fun t ht a H1 s1 hA => ?_, fun e H1 s1 => k2 (by unfold ofD; rw [e]; rfl) H1 s1⟩
  have dp := askOf_dep ht
  have mp := t.many_pow
  have m256 : (2 : Nat) ^ (t.dep + 1) <= 2 ^ 8 := Nat.pow_le_pow_right (by decide) (by omega)
  have m8 : (2 : Nat) ^ 8 = 256 := rfl
  have ov : ofD dd = if t.many <= 40 then some t else none := by unfold ofD; rw [ht]; rfl
  refine ⟨_, rfl, a, t, rfl, hA, by omega, by omega, fun H2 s2 => ⟨_, _, rfl, rfl, _, rfl, ?_⟩⟩
  by_cases hm : (40 : Int) < ((t.many : Nat) : Int)
  ·rw [decide_eq_true hm]
   exact iteT ⟨one_line, k2 (by rw [ov, if_neg (by omega)]) H2 (s1.trans s2)⟩
  ·rw [decide_eq_false hm]
   exact iteF ⟨_, rfl, k1 t (by rw [ov, if_pos (by omega)]) a H2 (s1.trans s2) (hA.same s2)⟩
end
noncomputable abbrev Wd (z : Str) : Prop := rowV 2000 (.str z) = true
noncomputable def Gd : At -> Prop
 | .word z => Wd z
 | .start z => Wd z
 | .row zs => 2 <= zs.length /\ zs.length <= 8 /\ ∀ z ∈ zs, Wd z
 | .near a b n => (lfk a.kn = true /\ lfk b.kn = true) /\ (0 <= n /\ n <= 20) /\ Gd a /\ Gd b
 | .both a b => Gd a /\ Gd b
 | .either a b => Gd a /\ Gd b
 | .no a => Gd a
theorem At.lf_dep {t : At} (h : lfk t.kn = true) : t.dep = 0 := by cases t <;> first | rfl | cases h
noncomputable def At.nm : At -> Str
 | .word _ => "word" | .start _ => "start" | .row _ => "row" | .near _ _ _ => "near" | .both _ _ => "both" | .either _ _ => "either" | .no _ => "not"
theorem len_w : valV lens (.inr "word") = some (.int 2) := by decide +kernel
theorem len_s : valV lens (.inr "start") = some (.int 2) := by decide +kernel
theorem len_r : valV lens (.inr "row") = some (.int 2) := by decide +kernel
theorem len_n : valV lens (.inr "near") = some (.int 4) := by decide +kernel
theorem len_b : valV lens (.inr "both") = some (.int 3) := by decide +kernel
theorem len_e : valV lens (.inr "either") = some (.int 3) := by decide +kernel
theorem len_o : valV lens (.inr "not") = some (.int 2) := by decide +kernel
theorem nm_of {z : Str} {ds : List PyData} (h : valV lens (.inr z) = some (.int ((ds.length + 1 : Nat) : Int))) : nmOf (.tuple (.str z :: ds)) = some z := by
 show (if valV lens (.inr z) = some (.int ((ds.length + 1 : Nat) : Int)) then some z else none) = _
 rw [if_pos h]
theorem nm_not {z : Str} {ds : List PyData} {i : Int} (h : valV lens (.inr z) = some (.int i)) (hi : i ≠ ((ds.length + 1 : Nat) : Int)) : nmOf (.tuple (.str z :: ds)) = none := by
 show (if valV lens (.inr z) = some (.int ((ds.length + 1 : Nat) : Int)) then some z else none) = _
 rw [if_neg (fun e => hi (by rw [h] at e; exact V.int.inj (Option.some.inj e)))]
theorem nm_told : ∀ t : At, nmOf t.told = some t.nm
 | .word z => nm_of len_w
 | .start z => nm_of len_s
 | .row zs => nm_of len_r
 | .near a b n => nm_of len_n
 | .both a b => nm_of len_b
 | .either a b => nm_of len_e
 | .no a => nm_of len_o
theorem wd_told {z : Str} (h : Wd z) : wd (.str z) = some z := if_pos h
theorem zs_told : ∀ {zs : List Str}, (∀ z ∈ zs, Wd z) -> zsOf (zs.map .str) = some zs
 | [], _ => rfl
 | z :: zs, h => by
  show (match wd (.str z) with | none => none | some z => (zsOf (zs.map .str)).map (z :: ·)) = _
  rw [wd_told (h z (by simp)), zs_told fun y hy => h y (by simp [hy])]
  rfl
theorem ask_told : ∀ (n : Nat) (t : At), Gd t -> askOf n t.told = if t.dep < n then some t else none
 | 0, t, _ => by rw [if_neg (by omega)]; rfl
 | n + 1, .word z, h => by
  rw [a_word (nm_told (.word z)), if_pos (show (At.word z).dep < n + 1 from Nat.succ_pos n)]
  show (wd (.str z)).map _ = _
  rw [wd_told h]
  rfl
 | n + 1, .start z, h => by
  rw [a_start (nm_told (.start z)), if_pos (show (At.start z).dep < n + 1 from Nat.succ_pos n)]
  show (wd (.str z)).map _ = _
  rw [wd_told h]
  rfl
 | n + 1, .row zs, h => by
  rw [a_row (nm_told (.row zs)), if_pos (show (At.row zs).dep < n + 1 from Nat.succ_pos n)]
  show (if 2 <= (zs.map PyData.str).length /\ (zs.map PyData.str).length <= 8 then zsOf (zs.map .str) else none).map _ = _
  rw [List.length_map, if_pos ⟨h.1, h.2.1⟩, zs_told h.2.2]
  rfl
 | n + 1, .no a, h => by
  rw [a_not (nm_told (.no a))]
  show (askOf n a.told).map _ = _
  rw [ask_told n a h]
  by_cases q : a.dep < n
  ·rw [if_pos q, if_pos (show (At.no a).dep < n + 1 by show a.dep + 1 < n + 1; omega)]
   rfl
  ·rw [if_neg q, if_neg (show ¬ (At.no a).dep < n + 1 by show ¬ a.dep + 1 < n + 1; omega)]
   rfl
 | n + 1, .both a b, h => by
  rw [a_both (nm_told (.both a b))]
  show ((askOf n a.told).bind fun a => (askOf n b.told).bind fun b => some (At.both a b)) = _
  rw [ask_told n a h.1, ask_told n b h.2]
  by_cases q : a.dep < n
  ·by_cases q2 : b.dep < n
   ·rw [if_pos q, if_pos q2, if_pos (show (At.both a b).dep < n + 1 by show max a.dep b.dep + 1 < n + 1; omega)]
    rfl
   ·rw [if_pos q, if_neg q2, if_neg (show ¬ (At.both a b).dep < n + 1 by show ¬ max a.dep b.dep + 1 < n + 1; omega)]
    rfl
  ·rw [if_neg q, if_neg (show ¬ (At.both a b).dep < n + 1 by show ¬ max a.dep b.dep + 1 < n + 1; omega)]
   rfl
 | n + 1, .either a b, h => by
  rw [a_either (nm_told (.either a b))]
  show ((askOf n a.told).bind fun a => (askOf n b.told).bind fun b => some (At.either a b)) = _
  rw [ask_told n a h.1, ask_told n b h.2]
  by_cases q : a.dep < n
  ·by_cases q2 : b.dep < n
   ·rw [if_pos q, if_pos q2, if_pos (show (At.either a b).dep < n + 1 by show max a.dep b.dep + 1 < n + 1; omega)]
    rfl
   ·rw [if_pos q, if_neg q2, if_neg (show ¬ (At.either a b).dep < n + 1 by show ¬ max a.dep b.dep + 1 < n + 1; omega)]
    rfl
  ·rw [if_neg q, if_neg (show ¬ (At.either a b).dep < n + 1 by show ¬ max a.dep b.dep + 1 < n + 1; omega)]
   rfl
 | n + 1, .near a b m, h => by
  obtain ⟨⟨l1, l2⟩, hm, g1, g2⟩ := h
  rw [a_near (nm_told (.near a b m))]
  show ((askOf n a.told).bind fun a => (askOf n b.told).bind fun b => (nearOf a b (.int m)).map (At.near a b)) = _
  rw [ask_told n a g1, ask_told n b g2]
  have d1 := At.lf_dep l1
  have d2 := At.lf_dep l2
  by_cases q : 0 < n
  ·rw [if_pos (by omega), if_pos (by omega), if_pos (show (At.near a b m).dep < n + 1 by show max a.dep b.dep + 1 < n + 1; omega)]
   show (nearOf a b (.int m)).map _ = _
   have e : nearOf a b (.int m) = some m := by
    unfold nearOf
    rw [l1, l2, if_pos (show (true && true) = true from rfl)]
    show (if 0 <= m /\ m <= 20 then some m else none) = _
    rw [if_pos hm]
   rw [e]
   rfl
  ·rw [if_neg (by omega), if_neg (show ¬ (At.near a b m).dep < n + 1 by show ¬ max a.dep b.dep + 1 < n + 1; omega)]
   rfl
theorem of_told {t : At} (h : Gd t) : ofD t.told = if t.dep <= 7 /\ t.many <= 40 then some t else none := by
 unfold ofD
 rw [ask_told 8 t h]
 by_cases q : t.dep < 8
 ·rw [if_pos q]
  show (if t.many <= 40 then some t else none) = _
  by_cases q2 : t.many <= 40
  ·rw [if_pos q2, if_pos ⟨by omega, q2⟩]
  ·rw [if_neg q2, if_neg (fun z => q2 z.2)]
 ·rw [if_neg q, if_neg (fun z => q (by omega))]
  rfl
theorem wd_fit {z : Str} (h : Wd z) : z.length <= 5000 := by
 have h' : (decide (1 <= z.length) && decide (z.length <= 2000) && z.cps.toList.all isS) = true := h
 simp at h'
 omega
theorem fit_strs : ∀ {zs : List Str}, (∀ z ∈ zs, Wd z) -> fitDs (zs.map .str)
 | [], _ => trivial
 | z :: zs, h => ⟨wd_fit (h z (by simp)), fit_strs fun y hy => h y (by simp [hy])⟩
theorem fit_told : ∀ {t : At}, Gd t -> fitD t.told
 | .word z, h => ⟨by show (4 : Nat) <= 5000; decide, wd_fit h, trivial⟩
 | .start z, h => ⟨by show (5 : Nat) <= 5000; decide, wd_fit h, trivial⟩
 | .row zs, h => ⟨by show (3 : Nat) <= 5000; decide, fit_strs h.2.2, trivial⟩
 | .near a b n, h => ⟨by show (4 : Nat) <= 5000; decide, fit_told h.2.2.1, fit_told h.2.2.2, trivial, trivial⟩
 | .both a b, h => ⟨by show (4 : Nat) <= 5000; decide, fit_told h.1, fit_told h.2, trivial⟩
 | .either a b, h => ⟨by show (6 : Nat) <= 5000; decide, fit_told h.1, fit_told h.2, trivial⟩
 | .no a, h => ⟨by show (3 : Nat) <= 5000; decide, fit_told h, trivial⟩
noncomputable def Bad (d : PyData) : Prop := fitD d /\ ∀ n, askOf n d = none
theorem Bad.of {d : PyData} (b : Bad d) : ofD d = none := by unfold ofD; rw [b.2]; rfl
theorem bad_nm {d : PyData} (f : fitD d) (h : nmOf d = none) : Bad d := ⟨f, fun n => by
 cases n with
 | zero => rfl
 | succ n => exact ask_none h⟩
theorem bad_one {d d1 : PyData} {z : Str} (f : fitD d) (e : arg d 1 = d1) (hz : nmOf d = some z) (hw : z = "word" \/ z = "start") (h : wd d1 = none) : Bad d := ⟨f, fun n => by
 subst e
 cases n with
 | zero => rfl
 | succ n =>
  rcases hw with rfl | rfl
  ·rw [a_word hz, h]; rfl
  ·rw [a_start hz, h]; rfl⟩
theorem bad_row {d d1 : PyData} (f : fitD d) (e : arg d 1 = d1) (hz : nmOf d = some "row") (h : rowOf d1 = none) : Bad d := ⟨f, fun n => by
 subst e
 cases n with
 | zero => rfl
 | succ n => rw [a_row hz, h]; rfl⟩
theorem two_none {n : Nat} {d : PyData} {k : At -> At -> Option At} (h : ∀ a b, askOf n (arg d 1) = some a -> askOf n (arg d 2) = some b -> k a b = none) : two n d k = none := by
 cases ha : askOf n (arg d 1) with
 | none => exact two_no1 ha
 | some a =>
  cases hb : askOf n (arg d 2) with
  | none => exact two_no2 ha hb
  | some b => rw [two_yes ha hb]; exact h a b ha hb
theorem bad_near {d d1 d2 d3 : PyData} (f : fitD d) (e1 : arg d 1 = d1) (e2 : arg d 2 = d2) (e3 : arg d 3 = d3) (hz : nmOf d = some "near") (h : ∀ n a b, askOf n d1 = some a -> askOf n d2 = some b -> nearOf a b d3 = none) : Bad d := ⟨f, fun n => by
 subst e1 e2 e3
 cases n with
 | zero => rfl
 | succ n =>
  rw [a_near hz]
  exact two_none fun a b ha hb => by rw [h n a b ha hb]; rfl⟩
theorem near_far {a b : At} {d : PyData} (h : farOf d = none) : nearOf a b d = none := by unfold nearOf; rw [h]; split <;> rfl
theorem near_l {a b : At} {d : PyData} (h : lfk a.kn = false) : nearOf a b d = none := by unfold nearOf; rw [h]; rfl
theorem near_r {a b : At} {d : PyData} (h : lfk b.kn = false) : nearOf a b d = none := by unfold nearOf; rw [h, Bool.and_false]; rfl
theorem bad_both {d d1 d2 : PyData} {z : Str} (f : fitD d) (e1 : arg d 1 = d1) (e2 : arg d 2 = d2) (hz : nmOf d = some z) (hw : z = "both" \/ z = "either") (h : (∀ n, askOf n d1 = none) \/ ∀ n, askOf n d2 = none) : Bad d := ⟨f, fun n => by
 subst e1 e2
 cases n with
 | zero => rfl
 | succ n =>
  rcases hw with rfl | rfl
  ·rw [a_both hz]
   exact two_none fun a b ha hb => h.elim (fun q => by rw [q] at ha; cases ha) fun q => by rw [q] at hb; cases hb
  ·rw [a_either hz]
   exact two_none fun a b ha hb => h.elim (fun q => by rw [q] at ha; cases ha) fun q => by rw [q] at hb; cases hb⟩
theorem bad_no {d d1 : PyData} (f : fitD d) (e : arg d 1 = d1) (hz : nmOf d = some "not") (h : ∀ n, askOf n d1 = none) : Bad d := ⟨f, fun n => by
 subst e
 cases n with
 | zero => rfl
 | succ n => rw [a_not hz, h]; rfl⟩
theorem ask_not_kn {d : PyData} {n : Nat} {a : At} (hz : nmOf d = some "not") (h : askOf n d = some a) : lfk a.kn = false := by
 cases n with
 | zero => cases h
 | succ n =>
  rw [a_not hz] at h
  obtain ⟨b, _, rfl⟩ := Option.map_eq_some_iff.mp h
  rfl
theorem ask_near_kn {d : PyData} {n : Nat} {a : At} (hz : nmOf d = some "near") (h : askOf n d = some a) : lfk a.kn = false := by
 cases n with
 | zero => cases h
 | succ n =>
  rw [a_near hz] at h
  obtain ⟨x, y, _, _, h3⟩ := two_some h
  obtain ⟨m, _, rfl⟩ := Option.map_eq_some_iff.mp h3
  rfl
noncomputable abbrev Cn := L2.St -> Hp -> Prop
noncomputable def Mo (c : Cn) : Prop := ∀ σ H H', c σ H -> Same H H' -> c σ H'
noncomputable def tD (l : Bool) (c : Cn) (d : PyData) : TE := fun σ H Q => c σ H /\ ∀ x H', Same H H' -> PdV l H' x d -> Q x H'
noncomputable def tDs (l : Bool) (c : Cn) (ds : List PyData) : TA := fun σ H Q => c σ H /\ ∀ xs H', Same H H' -> PdVs l H' xs ds -> Q xs H'
section
variable {X : Cx} {l : Bool} {c : Cn} {e : Expr} {es : List Expr} {d : PyData} {ds : List PyData}
theorem PA.imp {t t' : TA} (h : PA X es t) (i : ∀ σ H Q, t' σ H Q -> t σ H Q) : PA X es t' := fun pos pins s σ H Q I q => h pos pins s σ H Q I (i σ H Q q)
theorem pd_nil : PA X [] (tDs l c []) := PA.imp pa_nil fun _ H _ ⟨_, k⟩ => k [] H (Same.refl H) .nil
theorem pd_cons (mo : Mo c) (he : PE X e (tD l c d)) (hr : PA X es (tDs l c ds)) (hs : starEach (e :: es) X.env = (false, eval e X.env) :: starEach es X.env := by rfl) : PA X (e :: es) (tDs l c (d :: ds)) :=
 PA.imp (pa_cons he hr hs) fun σ H Q ⟨hc, k⟩ => ⟨hc, fun x H1 s1 p1 => ⟨mo _ _ _ hc s1, fun xs H2 s2 p2 => k _ H2 (s1.trans s2) (.cons (p1.same s2) p2)⟩⟩
theorem pd_tup {x1 : _} {pos : Pos} (h : PA X es (tDs l c ds)) (hl : ds.length <= 100 := by exact Nat.le_of_ble_eq_true rfl) : PE X (.Tuple es x1 pos) (tD l c (.tuple ds)) :=
 PE.imp (pe_tup h) fun σ H Q ⟨hc, k⟩ => ⟨hc, fun xs H1 s1 p1 => ⟨by rw [p1.len, sizeLine_eq]; omega, fun p hp => k _ _ (s1.upf hp) (.tup upd_same (PdVs.same (same_upd hp) p1))⟩⟩
theorem pd_lst {pos : Pos} (h : PA X es (tDs true c ds)) (hl : ds.length <= 100 := by exact Nat.le_of_ble_eq_true rfl) : PE X (.List es pos) (tD true c (.list ds)) :=
 PE.imp (pe_lst h) fun σ H Q ⟨hc, k⟩ => ⟨hc, fun xs H1 s1 p1 => ⟨by rw [p1.len, sizeLine_eq]; omega, fun p hp => k _ _ (s1.upf hp) (.lst rfl upd_same (PdVs.same (same_upd hp) p1))⟩⟩
theorem pd_of {v : V} (h : PE X e (tC v)) (q : ∀ H, PdV l H v d) : PE X e (tD l c d) := PE.imp h fun _ H _ ⟨_, k⟩ => k v H (Same.refl H) (q H)
theorem pd_v {i : Nat} (h : PE X e (tVar i)) (q : ∀ σ H, c σ H -> ∃ x, σ[i]? = some (some x) /\ PdV l H x d) : PE X e (tD l c d) := PE.imp h fun σ H _ ⟨hc, k⟩ => by
 obtain ⟨x, e, p⟩ := q σ H hc
 exact ⟨x, e, k x H (Same.refl H) p⟩
theorem pd_plus {i : Nat} {z y : Str} {a b : Expr} {pos : Pos} (ha : PE X a (tVar i)) (hb : PE X b (tC (.str y))) (q : ∀ σ H, c σ H -> σ[i]? = some (some (.str z))) (hz : z.length + y.length <= 5000) : PE X (.BinOp a .Add b pos) (tD l c (.str (z ++ y))) :=
 PE.imp (pe_op op_add_str ha hb) fun σ H Q ⟨hc, k⟩ => ⟨_, q σ H hc, z, y, rfl, rfl, by rw [sizeLine_eq]; omega, k _ H (Same.refl H) (.str _)⟩
theorem pd_neg {i : Int} {a : Expr} {pos : Pos} (ha : PE X a (tC (.int i))) : PE X (.UnaryOp .USub a pos) (tD l c (.int (-i))) :=
 PE.imp (pe_un un_neg ha) fun σ H Q ⟨hc, k⟩ => ⟨i, rfl, k _ H (Same.refl H) (.int _)⟩
noncomputable def tL (c : Cn) (ds : List PyData) : TE := fun σ H Q => c σ H /\ ∀ a xs H0, Same H H0 -> PdVs true H0 xs ds -> H0 a = none -> Q (.ref a) (upd H0 a (.lst xs))
theorem pd_L {pos : Pos} (h : PA X es (tDs true c ds)) (hl : ds.length <= 100 := by exact Nat.le_of_ble_eq_true rfl) : PE X (.List es pos) (tL c ds) :=
 PE.imp (pe_lst h) fun σ H Q ⟨hc, k⟩ => ⟨hc, fun xs H1 s1 p1 => ⟨by rw [p1.len, sizeLine_eq]; omega, fun p hp => k p xs H1 s1 p1 hp⟩⟩
noncomputable def SomeAt (i : Nat) (ds : List PyData) : Cn := fun σ H => ∃ a xs, σ[i]? = some (some (.ref a)) /\ H a = some (.lst xs) /\ PdVs true H xs ds
noncomputable def tCat (c : Cn) (i : Nat) (ds0 ds : List PyData) : TE := fun σ H Q => c σ H /\ SomeAt i ds0 σ H /\ ∀ a xs H0, Same H H0 -> PdVs true H0 xs (ds0 ++ ds) -> H0 a = none -> Q (.ref a) (upd H0 a (.lst xs))
theorem PdVs.cat {H : Hp} : ∀ {xs ys : List V} {ds es : List PyData}, PdVs l H xs ds -> PdVs l H ys es -> PdVs l H (xs ++ ys) (ds ++ es)
 | _, _, _, _, .nil, h => h
 | _, _, _, _, .cons r t, h => .cons r (PdVs.cat t h)
theorem pd_cat {i : Nat} {ds0 : List PyData} {a b : Expr} {pos : Pos} (ha : PE X a (tVar i)) (hb : PE X b (tL c ds)) (hl : ds0.length + ds.length <= 1000 := by exact Nat.le_of_ble_eq_true rfl) : PE X (.BinOp a .Add b pos) (tCat c i ds0 ds) :=
 PE.imp (pe_op op_cat ha hb) fun σ H Q ⟨hc, ⟨a, xs, e, ea, p⟩, k⟩ => ⟨_, e, hc, fun b ys H0 s0 p0 f0 => by
  have hab : a ≠ b := ne_of_none (s0 _ _ ea) f0
  refine ⟨a, b, xs, ys, rfl, rfl, by rw [upd_ne hab]; exact s0 _ _ ea, upd_same, by rw [p.len, p0.len, sizeLine_eq]; omega, fun q hq => ?_⟩
  have s1 : Same H0 (upd H0 b (.lst ys)) := same_upd f0
  exact k q _ _ (s0.trans s1) (PdVs.cat (PdVs.same (s0.trans s1) p) (PdVs.same s1 p0)) hq⟩
end
noncomputable abbrev pl (wz : Str) : PyData := .tuple [.str "word", .str wz]
noncomputable def o1 (dg : PyData) (wz : Str) : List PyData := [.none, .str wz, .list [.str "word", .str wz], .tuple [.str "word"], .tuple [.str "word", .str (wz ++ "A")], .tuple [.str "word", .str ""], .tuple [.str "word", .int 5], .tuple [.str "word", .list [.str wz]]]
noncomputable def o2 (dg : PyData) (wz : Str) : List PyData := [.tuple [.str "start", .str wz, .str wz], .tuple [.str "start", .str "a b"], .tuple [.str "row", .tuple [.str wz]], .tuple [.str "row", .list [.str wz, .str wz]]]
noncomputable def o3 (dg : PyData) (wz : Str) : List PyData := [.tuple [.str "row", .tuple (List.replicate 9 (.str wz))], .tuple [.str "row", .tuple [.str wz, .str (wz ++ " ")]], .tuple [.str "row", .none], .tuple [.str "near", dg, dg]]
noncomputable def o4 (dg : PyData) (wz : Str) : List PyData := [.tuple [.str "near", dg, .tuple [.str "word", .str wz], .int 21]]
noncomputable def o5 (dg : PyData) (wz : Str) : List PyData := [.tuple [.str "near", pl wz, pl wz, .int (-1)], .tuple [.str "near", pl wz, pl wz, .bool true], .tuple [.str "near", pl wz, pl wz, .str "3"]]
noncomputable def o6 (dg : PyData) (wz : Str) : List PyData := [.tuple [.str "near", .tuple [.str "not", pl wz], pl wz, .int 3], .tuple [.str "near", pl wz, .tuple [.str "near", pl wz, pl wz, .int 1], .int 2]]
noncomputable def o7 (dg : PyData) (wz : Str) : List PyData := [.tuple [.str "both", dg], .tuple [.str "either", dg, dg, dg], .tuple [.str "both", dg, .none], .tuple [.str "not"], .tuple [.str "not", dg, dg]]
noncomputable def o8 (dg : PyData) (wz : Str) : List PyData := [.tuple [.str "no", dg], .tuple [.int 1, dg], .tuple [.list [.str "word"], .str wz], .tuple [], .tuple [.bool true, .str wz], .tuple [.str "near", pl wz, pl wz, .int 21]]
theorem PdVs.rep {l : Bool} {H : Hp} {x : V} {d : PyData} (h : PdV l H x d) : ∀ n : Nat, PdVs l H (List.replicate n x) (List.replicate n d)
 | 0 => .nil
 | n + 1 => .cons h (PdVs.rep h n)
theorem pd_rep {X : Cx} {l : Bool} {c : Cn} {d : PyData} {a b : Expr} {pos : Pos} (ha : PE X a (tD l c (.tuple [d]))) (hb : PE X b (tC (.int 9))) : PE X (.BinOp a .Mult b pos) (tD l c (.tuple (List.replicate 9 d))) :=
 PE.imp (pe_op op_repT ha hb) fun σ H Q ⟨hc, k⟩ => ⟨hc, fun x H1 s1 p1 => by
  cases p1 with
  | tup ha hs => cases hs with
   | cons h0 hs' => cases hs' with
    | nil => exact ⟨_, 9, _, rfl, rfl, ha, by decide, by simp, by rw [sizeLine_eq]; exact Nat.le_of_ble_eq_true rfl, fun p hp => k _ _ (s1.upf hp) (.tup upd_same (PdVs.same (same_upd hp) (PdVs.rep h0 9)))⟩⟩
structure MC (c : Cn) (dg : PyData) (wz : Str) : Prop where
 mo : Mo c
 g : ∀ {l : Bool} σ H, c σ H -> ∃ x, σ[1]? = some (some x) /\ PdV l H x dg
 w : ∀ {l : Bool} σ H, c σ H -> ∃ x, σ[2]? = some (some x) /\ PdV l H x (.str wz)
 ws : ∀ σ H, c σ H -> σ[2]? = some (some (.str wz))
noncomputable def c1 (xg : V) (dg : PyData) (wz : Str) : Cn := fun σ H => σ[1]? = some (some xg) /\ σ[2]? = some (some (.str wz)) /\ PdV false H xg dg
noncomputable def c2 (xg : V) (dg : PyData) (wz : Str) : Cn := fun σ H => c1 xg dg wz σ H /\ ∃ x, σ[4]? = some (some x) /\ PdV true H x (pl wz)
theorem mc1 {xg : V} {dg : PyData} {wz : Str} : MC (c1 xg dg wz) dg wz := ⟨fun _ _ _ ⟨a, b, p⟩ s => ⟨a, b, p.same s⟩, fun _ _ ⟨a, _, p⟩ => ⟨_, a, p.any⟩, fun _ _ ⟨_, b, _⟩ => ⟨_, b, .str _⟩, fun _ _ ⟨_, b, _⟩ => b⟩
theorem mc2 {xg : V} {dg : PyData} {wz : Str} : MC (c2 xg dg wz) dg wz := ⟨fun _ _ _ ⟨q, x, e, p⟩ s => ⟨mc1.mo _ _ _ q s, x, e, p.same s⟩, fun _ _ q => mc1.g _ _ q.1, fun _ _ q => mc1.w _ _ q.1, fun _ _ q => mc1.ws _ _ q.1⟩
section
variable {P : Program} {w : World} {K : PySem.W.Frag} {mg : Str -> Option Value} {base : Heap}
noncomputable def spOdd : Sp := fun vs H Q _ => ∃ (n : Int) (xg : V) (dg : PyData) (wz : Str), vs = [.int n, xg, .str wz] /\ PdV false H xg dg /\ wz.length <= 13 /\
 ∀ x d H', Same H H' -> PdV true H' x d -> d ∈ o1 dg wz ++ o2 dg wz ++ o3 dg wz ++ o4 dg wz ++ o5 dg wz ++ o6 dg wz ++ o7 dg wz ++ o8 dg wz -> Q x H'
theorem scOdd : FnScope ["_law_number_here", "_law_good", "_law_word", "_law_some", "_law_plain_here"] ["_law_number_here", "_law_good", "_law_word"] (defScope lOdd) := ⟨rfl, rfl, rfl, by decide +kernel, rfl, by decide +kernel, by decide +kernel⟩
seal PSs PS PE PT PA PG PI PGs PIfs in
theorem ok_odd {f : Addr} {fd : FuncData} (D : Df K mg "_law_odd" lOdd f fd) : FnOk P w K mg base CX0 1 f fd ["_law_number_here", "_law_good", "_law_word"] spOdd := by
 refine D.F.ok scOdd (fun vs H Q E h => ?_) (fun cdv A outer s H vs Q E hr h => ?_)
 ·obtain ⟨n, xg, dg, wz, rfl, _⟩ := h
  rfl
 ·obtain ⟨n, xg, dg, wz, rfl, hg, hw, k⟩ := h
  have hl : ∀ {y : Str}, y.length = 1 -> wz.length + y.length <= 5000 := fun {y} e => by omega
  have m1 : MC (c1 xg dg wz) dg wz := mc1
  have m2 : MC (c2 xg dg wz) dg wz := mc2
  have p2 : ∀ σ H, c2 xg dg wz σ H -> ∃ x, σ[4]? = some (some x) /\ PdV true H x (pl wz) := fun _ _ q => q.2
  refine ⟨_, (pss_cons (ps_set (i := 3) scOdd.nd rfl (Or.inl rfl) (pd_L (pd_cons m1.mo (pd_of pe_non fun _ => .non) (pd_cons m1.mo (pd_v (pv 2) m1.w) (pd_cons m1.mo (pd_lst (pd_cons m1.mo (pd_of pe_str fun _ => .str _) (pd_cons m1.mo (pd_v (pv 2) m1.w) pd_nil))) (pd_cons m1.mo (pd_tup (pd_cons m1.mo (pd_of pe_str fun _ => .str _) pd_nil)) (pd_cons m1.mo (pd_tup (pd_cons m1.mo (pd_of pe_str fun _ => .str _) (pd_cons m1.mo (pd_plus (pv 2) pe_str m1.ws (hl rfl)) pd_nil))) (pd_cons m1.mo (pd_tup (pd_cons m1.mo (pd_of pe_str fun _ => .str _) (pd_cons m1.mo (pd_of pe_str fun _ => .str _) pd_nil))) (pd_cons m1.mo (pd_tup (pd_cons m1.mo (pd_of pe_str fun _ => .str _) (pd_cons m1.mo (pd_of pe_int fun _ => .int 5) pd_nil))) (pd_cons m1.mo (pd_tup (pd_cons m1.mo (pd_of pe_str fun _ => .str _) (pd_cons m1.mo (pd_lst (pd_cons m1.mo (pd_v (pv 2) m1.w) pd_nil)) pd_nil))) pd_nil))))))))))
   (pss_cons (ps_set (i := 3) scOdd.nd rfl (Or.inl rfl) (pd_cat (ds0 := o1 dg wz) (pv 3) (pd_L (pd_cons m1.mo (pd_tup (pd_cons m1.mo (pd_of pe_str fun _ => .str _) (pd_cons m1.mo (pd_v (pv 2) m1.w) (pd_cons m1.mo (pd_v (pv 2) m1.w) pd_nil)))) (pd_cons m1.mo (pd_tup (pd_cons m1.mo (pd_of pe_str fun _ => .str _) (pd_cons m1.mo (pd_of pe_str fun _ => .str _) pd_nil))) (pd_cons m1.mo (pd_tup (pd_cons m1.mo (pd_of pe_str fun _ => .str _) (pd_cons m1.mo (pd_tup (pd_cons m1.mo (pd_v (pv 2) m1.w) pd_nil)) pd_nil))) (pd_cons m1.mo (pd_tup (pd_cons m1.mo (pd_of pe_str fun _ => .str _) (pd_cons m1.mo (pd_lst (pd_cons m1.mo (pd_v (pv 2) m1.w) (pd_cons m1.mo (pd_v (pv 2) m1.w) pd_nil))) pd_nil))) pd_nil)))))))
   (pss_cons (ps_set (i := 3) scOdd.nd rfl (Or.inl rfl) (pd_cat (ds0 := (o1 dg wz ++ o2 dg wz)) (pv 3) (pd_L (pd_cons m1.mo (pd_tup (pd_cons m1.mo (pd_of pe_str fun _ => .str _) (pd_cons m1.mo (pd_rep (pd_tup (pd_cons m1.mo (pd_v (pv 2) m1.w) pd_nil)) pe_int) pd_nil))) (pd_cons m1.mo (pd_tup (pd_cons m1.mo (pd_of pe_str fun _ => .str _) (pd_cons m1.mo (pd_tup (pd_cons m1.mo (pd_v (pv 2) m1.w) (pd_cons m1.mo (pd_plus (pv 2) pe_str m1.ws (hl rfl)) pd_nil))) pd_nil))) (pd_cons m1.mo (pd_tup (pd_cons m1.mo (pd_of pe_str fun _ => .str _) (pd_cons m1.mo (pd_of pe_non fun _ => .non) pd_nil))) (pd_cons m1.mo (pd_tup (pd_cons m1.mo (pd_of pe_str fun _ => .str _) (pd_cons m1.mo (pd_v (pv 1) m1.g) (pd_cons m1.mo (pd_v (pv 1) m1.g) pd_nil)))) pd_nil)))))))
   (pss_cons (ps_expr (pe_bm PySem.F.plainAttrs_list PySem.F.slot_list_append PySem.F.type_list_append mt_append (pv 3) (pa_cons (pd_tup (l := false) (pd_cons m1.mo (pd_of pe_str fun _ => .str _) (pd_cons m1.mo (pd_v (pv 1) m1.g) (pd_cons m1.mo (pd_tup (pd_cons m1.mo (pd_of pe_str fun _ => .str _) (pd_cons m1.mo (pd_v (pv 2) m1.w) pd_nil))) (pd_cons m1.mo (pd_of pe_int fun _ => .int 21) pd_nil))))) pa_nil)))
   (pss_cons (ps_set (i := 4) scOdd.nd rfl (Or.inl rfl) (pd_tup (l := true) (pd_cons m1.mo (pd_of pe_str fun _ => .str _) (pd_cons m1.mo (pd_v (pv 2) m1.w) pd_nil))))
   (pss_cons (ps_set (i := 3) scOdd.nd rfl (Or.inl rfl) (pd_cat (ds0 := (o1 dg wz ++ o2 dg wz ++ o3 dg wz ++ o4 dg wz)) (pv 3) (pd_L (pd_cons m2.mo (pd_tup (pd_cons m2.mo (pd_of pe_str fun _ => .str _) (pd_cons m2.mo (pd_v (pv 4) p2) (pd_cons m2.mo (pd_v (pv 4) p2) (pd_cons m2.mo (pd_neg pe_int) pd_nil))))) (pd_cons m2.mo (pd_tup (pd_cons m2.mo (pd_of pe_str fun _ => .str _) (pd_cons m2.mo (pd_v (pv 4) p2) (pd_cons m2.mo (pd_v (pv 4) p2) (pd_cons m2.mo (pd_of pe_bl fun _ => .bl true) pd_nil))))) (pd_cons m2.mo (pd_tup (pd_cons m2.mo (pd_of pe_str fun _ => .str _) (pd_cons m2.mo (pd_v (pv 4) p2) (pd_cons m2.mo (pd_v (pv 4) p2) (pd_cons m2.mo (pd_of pe_str fun _ => .str _) pd_nil))))) pd_nil))))))
   (pss_cons (ps_set (i := 3) scOdd.nd rfl (Or.inl rfl) (pd_cat (ds0 := (o1 dg wz ++ o2 dg wz ++ o3 dg wz ++ o4 dg wz ++ o5 dg wz)) (pv 3) (pd_L (pd_cons m2.mo (pd_tup (pd_cons m2.mo (pd_of pe_str fun _ => .str _) (pd_cons m2.mo (pd_tup (pd_cons m2.mo (pd_of pe_str fun _ => .str _) (pd_cons m2.mo (pd_v (pv 4) p2) pd_nil))) (pd_cons m2.mo (pd_v (pv 4) p2) (pd_cons m2.mo (pd_of pe_int fun _ => .int 3) pd_nil))))) (pd_cons m2.mo (pd_tup (pd_cons m2.mo (pd_of pe_str fun _ => .str _) (pd_cons m2.mo (pd_v (pv 4) p2) (pd_cons m2.mo (pd_tup (pd_cons m2.mo (pd_of pe_str fun _ => .str _) (pd_cons m2.mo (pd_v (pv 4) p2) (pd_cons m2.mo (pd_v (pv 4) p2) (pd_cons m2.mo (pd_of pe_int fun _ => .int 1) pd_nil))))) (pd_cons m2.mo (pd_of pe_int fun _ => .int 2) pd_nil))))) pd_nil)))))
   (pss_cons (ps_set (i := 3) scOdd.nd rfl (Or.inl rfl) (pd_cat (ds0 := (o1 dg wz ++ o2 dg wz ++ o3 dg wz ++ o4 dg wz ++ o5 dg wz ++ o6 dg wz)) (pv 3) (pd_L (pd_cons m2.mo (pd_tup (pd_cons m2.mo (pd_of pe_str fun _ => .str _) (pd_cons m2.mo (pd_v (pv 1) m2.g) pd_nil))) (pd_cons m2.mo (pd_tup (pd_cons m2.mo (pd_of pe_str fun _ => .str _) (pd_cons m2.mo (pd_v (pv 1) m2.g) (pd_cons m2.mo (pd_v (pv 1) m2.g) (pd_cons m2.mo (pd_v (pv 1) m2.g) pd_nil))))) (pd_cons m2.mo (pd_tup (pd_cons m2.mo (pd_of pe_str fun _ => .str _) (pd_cons m2.mo (pd_v (pv 1) m2.g) (pd_cons m2.mo (pd_of pe_non fun _ => .non) pd_nil)))) (pd_cons m2.mo (pd_tup (pd_cons m2.mo (pd_of pe_str fun _ => .str _) pd_nil)) (pd_cons m2.mo (pd_tup (pd_cons m2.mo (pd_of pe_str fun _ => .str _) (pd_cons m2.mo (pd_v (pv 1) m2.g) (pd_cons m2.mo (pd_v (pv 1) m2.g) pd_nil)))) pd_nil))))))))
   (pss_cons (ps_set (i := 3) scOdd.nd rfl (Or.inl rfl) (pd_cat (ds0 := (o1 dg wz ++ o2 dg wz ++ o3 dg wz ++ o4 dg wz ++ o5 dg wz ++ o6 dg wz ++ o7 dg wz)) (pv 3) (pd_L (pd_cons m2.mo (pd_tup (pd_cons m2.mo (pd_of pe_str fun _ => .str _) (pd_cons m2.mo (pd_v (pv 1) m2.g) pd_nil))) (pd_cons m2.mo (pd_tup (pd_cons m2.mo (pd_of pe_int fun _ => .int 1) (pd_cons m2.mo (pd_v (pv 1) m2.g) pd_nil))) (pd_cons m2.mo (pd_tup (pd_cons m2.mo (pd_lst (pd_cons m2.mo (pd_of pe_str fun _ => .str _) pd_nil)) (pd_cons m2.mo (pd_v (pv 2) m2.w) pd_nil))) (pd_cons m2.mo (pd_tup pd_nil) (pd_cons m2.mo (pd_tup (pd_cons m2.mo (pd_of pe_bl fun _ => .bl true) (pd_cons m2.mo (pd_v (pv 2) m2.w) pd_nil))) (pd_cons m2.mo (pd_tup (pd_cons m2.mo (pd_of pe_str fun _ => .str _) (pd_cons m2.mo (pd_v (pv 4) p2) (pd_cons m2.mo (pd_v (pv 4) p2) (pd_cons m2.mo (pd_of pe_int fun _ => .int 21) pd_nil))))) pd_nil)))))))))
   (pss_one (ps_ret (pe_ix ix_list (pv 3) (pe_op op_mod (pv 0) pe_int) (fun _ _ => rfl))))))))))))), ?_⟩
  refine ⟨⟨rfl, rfl, hg⟩, fun a1 xs1 H1 s1 q1 f1 => ?_⟩
  have t1 := s1.upf (o := .lst xs1) f1
  refine ⟨⟨rfl, rfl, hg.same t1⟩, ⟨a1, xs1, rfl, upd_same, PdVs.same (same_upd f1) q1⟩, fun a2 xs2 H2 s2 q2 f2 => ?_⟩
  have t2 := t1.trans (s2.upf (o := .lst xs2) f2)
  refine ⟨⟨rfl, rfl, hg.same t2⟩, ⟨a2, xs2, rfl, upd_same, PdVs.same (same_upd f2) q2⟩, fun a3 xs3 H3 s3 q3 f3 => ?_⟩
  have t3 := t2.trans (s3.upf (o := .lst xs3) f3)
  refine ⟨_, rfl, .inl ⟨rfl, _, SqL.of upd_same⟩, ⟨rfl, rfl, hg.same t3⟩, fun x4 H4 s4 q4 => ⟨a3, xs3, x4, rfl, rfl, s4 _ _ upd_same, by rw [q3.len, sizeLine_eq]; exact Nat.le_of_ble_eq_true rfl, ?_⟩⟩
  have h34 : H4 a3 = some (.lst xs3) := s4 _ _ upd_same
  have k4 : Keep H4 (upd H4 a3 (.lst (xs3 ++ [x4]))) := Keep.lst h34
  have t4 : Same H3 (upd H4 a3 (.lst (xs3 ++ [x4]))) := fun b u e => by
   have hb : b ≠ a3 := ne_of_none e f3
   rw [upd_ne hb]
   exact s4 _ _ (same_upd f3 _ _ e)
  have t4' := (t2.trans s3).trans t4
  have q4' : PdVs true (upd H4 a3 (.lst (xs3 ++ [x4]))) (xs3 ++ [x4]) (o1 dg wz ++ o2 dg wz ++ o3 dg wz ++ o4 dg wz) := PdVs.cat (PdVs.same t4 q3) (.cons (PdV.any (q4.keep k4)) .nil)
  generalize hG4 : upd H4 a3 (.lst (xs3 ++ [x4])) = G4 at t4' q4'
  have e4 : G4 a3 = some (.lst (xs3 ++ [x4])) := by rw [<- hG4]; exact upd_same
  refine ⟨⟨rfl, rfl, hg.same t4'⟩, fun x5 H5 s5 q5 => ?_⟩
  refine ⟨⟨⟨rfl, rfl, (hg.same t4').same s5⟩, x5, rfl, q5⟩, ⟨a3, _, rfl, s5 _ _ e4, PdVs.same s5 q4'⟩, fun a6 xs6 H6 s6 q6 f6 => ?_⟩
  have t6 := s6.upf (o := .lst xs6) f6
  refine ⟨⟨⟨rfl, rfl, ((hg.same t4').same s5).same t6⟩, x5, rfl, q5.same t6⟩, ⟨a6, _, rfl, upd_same, PdVs.same (same_upd f6) q6⟩, fun a7 xs7 H7 s7 q7 f7 => ?_⟩
  have t7 := t6.trans (s7.upf (o := .lst xs7) f7)
  refine ⟨⟨⟨rfl, rfl, ((hg.same t4').same s5).same t7⟩, x5, rfl, q5.same t7⟩, ⟨a7, _, rfl, upd_same, PdVs.same (same_upd f7) q7⟩, fun a8 xs8 H8 s8 q8 f8 => ?_⟩
  have t8 := t7.trans (s8.upf (o := .lst xs8) f8)
  refine ⟨⟨⟨rfl, rfl, ((hg.same t4').same s5).same t8⟩, x5, rfl, q5.same t8⟩, ⟨a8, _, rfl, upd_same, PdVs.same (same_upd f8) q8⟩, fun a9 xs9 H9 s9 q9 f9 => ?_⟩
  have t9 := t8.trans (s9.upf (o := .lst xs9) f9)
  refine ⟨_, rfl, _, rfl, _, _, rfl, rfl, (by show (0 : Int) < 33; decide), ?_⟩
  obtain ⟨j, hj, hjl⟩ := mod_ix (r := n) (n := 33) (by decide)
  have l9 : xs9.length = 33 := q9.len
  have hjx : j < xs9.length := by omega
  obtain ⟨d, hd, hp⟩ := PdVs.get q9 (List.getElem?_eq_getElem hjx)
  exact ⟨a9, _, _, xs9[j], rfl, rfl, SqL.of upd_same, by rw [<- hj]; exact atI_nat (List.getElem?_eq_getElem hjx), k _ d _ ((t4'.trans s5).trans t9) (hp.same (same_upd f9)) (List.mem_of_getElem? hd)⟩
end
theorem no_A (z : Str) : rowV 2000 (.str (z ++ "A")) = false := by
 show (decide _ && decide _ && (z ++ ("A" : Str)).cps.toList.all isS) = false
 rw [PySem.Str.cps_append, Array.toList_append, List.all_append]
 have : (("A" : Str).cps.toList.all isS) = false := by decide +kernel
 rw [this]
 simp
theorem no_sp (z : Str) : rowV 2000 (.str (z ++ " ")) = false := by
 show (decide _ && decide _ && (z ++ (" " : Str)).cps.toList.all isS) = false
 rw [PySem.Str.cps_append, Array.toList_append, List.all_append]
 have : ((" " : Str).cps.toList.all isS) = false := by decide +kernel
 rw [this]
 simp
theorem wd_no {z : Str} (h : rowV 2000 (.str z) = false) : wd (.str z) = none := if_neg (by rw [h]; decide)
theorem nm_no (dg : PyData) : nmOf (.tuple [.str "no", dg]) = none := if_neg (t := some (Str.ofString "no")) (show ¬ valV lens (.inr "no") = some (.int ((1 + 1 : Nat) : Int)) by decide +kernel)
theorem odd_bad {dg : PyData} {wz : Str} (fg : fitD dg) (hw : wz.length <= 13) {d : PyData} (h : d ∈ o1 dg wz ++ o2 dg wz ++ o3 dg wz ++ o4 dg wz ++ o5 dg wz ++ o6 dg wz ++ o7 dg wz ++ o8 dg wz) : Bad d := by
 have fw : fitD (.str wz) := by show wz.length <= 5000; omega
 have fA : fitD (.str (wz ++ "A")) := by show (wz ++ ("A" : Str)).length <= 5000; rw [PySem.Str.length_append]; have : ("A" : Str).length = 1 := rfl; omega
 have fS : fitD (.str (wz ++ " ")) := by show (wz ++ (" " : Str)).length <= 5000; rw [PySem.Str.length_append]; have : (" " : Str).length = 1 := rfl; omega
 have f0 : ∀ {z : Str}, z.length <= 9 -> fitD (.str z) := fun {z} e => by show z.length <= 5000; omega
 have fp : fitD (pl wz) := ⟨f0 (by decide +kernel), fw, trivial⟩
 simp only [List.mem_append, o1, o2, o3, o4, o5, o6, o7, o8, List.mem_cons, List.not_mem_nil, or_false] at h
 rcases h with (((((((h | h | h | h | h | h | h | h) | (h | h | h | h)) | (h | h | h | h)) | h) | (h | h | h)) | (h | h)) | (h | h | h | h | h)) | (h | h | h | h | h | h)
 all_goals subst h
 ·exact bad_nm trivial rfl
 ·exact bad_nm fw rfl
 ·exact bad_nm ⟨f0 (by decide +kernel), fw, trivial⟩ rfl
 ·exact bad_nm ⟨f0 (by decide +kernel), trivial⟩ (nm_not len_w (by simp))
 ·exact bad_one ⟨f0 (by decide +kernel), fA, trivial⟩ rfl (nm_of len_w) (.inl rfl) (wd_no (no_A wz))
 ·exact bad_one ⟨f0 (by decide +kernel), f0 (by decide +kernel), trivial⟩ rfl (nm_of len_w) (.inl rfl) (wd_no (by decide +kernel))
 ·exact bad_one ⟨f0 (by decide +kernel), trivial, trivial⟩ rfl (nm_of len_w) (.inl rfl) rfl
 ·exact bad_one ⟨f0 (by decide +kernel), ⟨fw, trivial⟩, trivial⟩ rfl (nm_of len_w) (.inl rfl) rfl
 ·exact bad_nm ⟨f0 (by decide +kernel), fw, fw, trivial⟩ (nm_not len_s (by simp))
 ·exact bad_one ⟨f0 (by decide +kernel), f0 (by decide +kernel), trivial⟩ rfl (nm_of len_s) (.inr rfl) (wd_no (by decide +kernel))
 ·exact bad_row ⟨f0 (by decide +kernel), ⟨fw, trivial⟩, trivial⟩ rfl (nm_of len_r) rfl
 ·exact bad_row ⟨f0 (by decide +kernel), ⟨fw, fw, trivial⟩, trivial⟩ rfl (nm_of len_r) rfl
 ·exact bad_row ⟨f0 (by decide +kernel), ⟨fw, fw, fw, fw, fw, fw, fw, fw, fw, trivial⟩, trivial⟩ rfl (nm_of len_r) rfl
 ·refine bad_row ⟨f0 (by decide +kernel), ⟨fw, fS, trivial⟩, trivial⟩ rfl (nm_of len_r) ?_
  show (if 2 <= 2 /\ 2 <= 8 then zsOf [.str wz, .str (wz ++ " ")] else none) = none
  rw [if_pos ⟨by decide, by decide⟩]
  exact zsOf_bad (i := 1) rfl (wd_no (no_sp wz))
 ·exact bad_row ⟨f0 (by decide +kernel), trivial, trivial⟩ rfl (nm_of len_r) rfl
 ·exact bad_nm ⟨f0 (by decide +kernel), fg, fg, trivial⟩ (nm_not len_n (by simp))
 ·exact bad_near ⟨f0 (by decide +kernel), fg, fp, trivial, trivial⟩ rfl rfl rfl (nm_of len_n) fun _ _ _ _ _ => near_far rfl
 ·exact bad_near ⟨f0 (by decide +kernel), fp, fp, trivial, trivial⟩ rfl rfl rfl (nm_of len_n) fun _ _ _ _ _ => near_far rfl
 ·exact bad_near ⟨f0 (by decide +kernel), fp, fp, trivial, trivial⟩ rfl rfl rfl (nm_of len_n) fun _ _ _ _ _ => near_far rfl
 ·exact bad_near ⟨f0 (by decide +kernel), fp, fp, f0 (by decide +kernel), trivial⟩ rfl rfl rfl (nm_of len_n) fun _ _ _ _ _ => near_far rfl
 ·exact bad_near ⟨f0 (by decide +kernel), ⟨f0 (by decide +kernel), fp, trivial⟩, fp, trivial, trivial⟩ rfl rfl rfl (nm_of len_n) fun _ _ _ h1 _ => near_l (ask_not_kn (nm_of (ds := [pl wz]) len_o) h1)
 ·exact bad_near ⟨f0 (by decide +kernel), fp, ⟨f0 (by decide +kernel), fp, fp, trivial, trivial⟩, trivial, trivial⟩ rfl rfl rfl (nm_of len_n) fun _ _ _ _ h2 => near_r (ask_near_kn (nm_of (ds := [pl wz, pl wz, .int 1]) len_n) h2)
 ·exact bad_nm ⟨f0 (by decide +kernel), fg, trivial⟩ (nm_not len_b (by simp))
 ·exact bad_nm ⟨f0 (by decide +kernel), fg, fg, fg, trivial⟩ (nm_not len_e (by simp))
 ·exact bad_both ⟨f0 (by decide +kernel), fg, trivial, trivial⟩ rfl rfl (nm_of len_b) (.inl rfl) (.inr (bad_nm (d := .none) trivial rfl).2)
 ·exact bad_nm ⟨f0 (by decide +kernel), trivial⟩ (nm_not len_o (by simp))
 ·exact bad_nm ⟨f0 (by decide +kernel), fg, fg, trivial⟩ (nm_not len_o (by simp))
 ·exact bad_nm ⟨f0 (by decide +kernel), fg, trivial⟩ (nm_no dg)
 ·exact bad_nm ⟨trivial, fg, trivial⟩ rfl
 ·exact bad_nm ⟨⟨f0 (by decide +kernel), trivial⟩, fw, trivial⟩ rfl
 ·exact bad_nm trivial rfl
 ·exact bad_nm ⟨trivial, fw, trivial⟩ rfl
 ·exact bad_near ⟨f0 (by decide +kernel), fp, fp, trivial, trivial⟩ rfl rfl rfl (nm_of len_n) fun _ _ _ _ _ => near_far rfl
theorem wm_wd {z : Str} (h : Wm z) : Wd z := by
 show (decide (1 <= z.length) && decide (z.length <= 2000) && z.cps.toList.all isS) = true
 rw [decide_eq_true h.2.2, decide_eq_true (by have := h.1; omega), h.2.1]
 rfl
theorem wm_slice {z : Str} {k : Int} (h : Wm z) (h1 : 1 <= k) (h2 : k <= z.length) : Wm (Txt.slice z none (some k)) := by
 have l6 : (z.cps.toList.length : Int) = z.length := by simp [Str.length]
 have e1 : Txt.slice z none (some k) = _ := PySem.StrLaws.sliceText_to ⟨by omega, by omega⟩
 have l := Txt.slice_le z none (some k)
 refine ⟨by have := h.1; omega, slice_all _ _ h.2.1, ?_⟩
 rw [e1, str_len', List.length_take, List.length_drop]
 omega
theorem wm_and : Wm "and" := ⟨by decide +kernel, by decide +kernel, by decide +kernel⟩
theorem wm_or : Wm "or" := ⟨by decide +kernel, by decide +kernel, by decide +kernel⟩
theorem wm_not : Wm "not" := ⟨by decide +kernel, by decide +kernel, by decide +kernel⟩
section
variable {P : Program} {w : World} {K : PySem.W.Frag} {mg : Str -> Option Value} {base : Heap}
noncomputable def MenuAt (H : Hp) (a : Addr) (ws : List Str) : Prop := H a = some (.lst (ws.map V.str)) /\ ws.length = 5 /\ ∀ z ∈ ws, Wm z
noncomputable def tRowP : TE := fun σ H Q => ∃ (n : Int) (a : Addr) (ws : List Str) (o : Option V) (m : Nat), σ = [some (.int n), some (.ref a), o, some (.int ((m : Nat) : Int))] /\ MenuAt H a ws /\ 2 <= m /\ m <= 8 /\
 ∀ x (zs : List Str) H', Same H H' -> zs.length = m -> (∀ z ∈ zs, Wd z) -> PdV false H' x (.tuple [.str "row", .tuple (zs.map .str)]) -> Q x H'
noncomputable def spPlain : Sp := fun vs H Q _ => ∃ (n : Int) (a : Addr) (ws : List Str), vs = [.int n, .ref a] /\ MenuAt H a ws /\ ∀ x t H', Same H H' -> PdV false H' x t.told -> lfk t.kn = true -> Gd t -> Q x H'
theorem scPlain : FnScope ["_law_number_here", "_law_menu_here", "_law_word", "_law_size"] ["_law_number_here", "_law_menu_here"] (defScope lPlain) := ⟨rfl, rfl, rfl, by decide +kernel, rfl, by decide +kernel, by decide +kernel⟩
theorem ndPlain : (["_law_k", "_law_menu_here", "_law_number_here"] : List Str).Nodup := by decide +kernel
theorem MenuAt.at {H : Hp} {a : Addr} {ws : List Str} (h : MenuAt H a ws) {j : Nat} (hj : j < 5) : ∃ z, Wm z /\ (ws.map V.str)[j]? = some (.str z) := by
 have hj' : j < ws.length := by rw [h.2.1]; exact hj
 exact ⟨ws[j], h.2.2 _ (List.getElem_mem hj'), by rw [List.getElem?_map, List.getElem?_eq_getElem hj']; rfl⟩
seal PSs PS PE PT PA PG PI PGs PIfs in
theorem ok_plain {f fm : Addr} {fd fdm : FuncData} (D : Df K mg "_law_plain" lPlain f fd) (DM : Df K mg "_law_mixed" lMixed fm fdm) (T : Txt mg) : FnOk P w K mg base CX0 2 f fd ["_law_number_here", "_law_menu_here"] spPlain := by
 have GM : FnOk P w K mg base CX0 1 fm fdm ["_law_number_here", "_law_k"] spMixed := ok_mixed DM
 have bM := DM.F.binds (ps := ["_law_number_here", "_law_k"]) fun _ _ _ _ _ _ us hl => us2 (fun _ _ => rfl) us hl
 refine D.F.ok scPlain (fun vs H Q E h => ?_) (fun cdv A outer s H vs Q E hr h => ?_)
 ·obtain ⟨n, a, ws, rfl, _⟩ := h
  rfl
 ·obtain ⟨n, a, ws, rfl, hM, kk⟩ := h
  have hl : (sizeLine : Nat) = 16777216 := sizeLine_eq
  refine ⟨_, pss_cons (ps_set (i := 2) scPlain.nd rfl (Or.inl rfl) (pe_ix ix_list (pv 1) (pe_op op_mod (pe_op op_fdiv (pv 0) pe_int) pe_int) (fun _ _ => rfl)))
   (pss_cons (ps_ifJ (pt_cmpR op_eq (pe_op op_mod (pe_op op_fdiv (pv 0) pe_int) pe_int) pe_int (nomark _)) (pss_one (ps_set (i := 2) scPlain.nd rfl (Or.inl rfl) (pe_ix ix_list (pe_lst (pa_cons pe_str (pa_cons pe_str (pa_cons pe_str pa_nil)))) (pe_op op_mod (pe_op op_fdiv (pv 0) pe_int) pe_int) (fun _ _ => rfl)))) pss_nil)
   (pss_cons (ps_if (pt_cmpR op_eq (pe_op op_mod (pv 0) pe_int) pe_int (nomark _)) (pss_one (ps_ret (pe_tup (pa_cons pe_str (pa_cons (pv 2) pa_nil))))) pss_nil)
   (pss_cons (ps_if (pt_cmpR op_eq (pe_op op_mod (pv 0) pe_int) pe_int (nomark _)) (pss_one (ps_ret (pe_tup (pa_cons pe_str (pa_cons (pe_slice sl_str (pv 2) po_none (po_some (pe_op op_add pe_int (pe_op op_mod (pe_op op_fdiv (pv 0) pe_int) (pe_callB call_len_str rfl T.len b_len (pa_cons (pv 2) pa_nil)))))) pa_nil))))) pss_nil)
   (pss_cons (ps_set (i := 3) scPlain.nd rfl (Or.inl rfl) (pe_op op_add pe_int (pe_op op_mod (pe_op op_fdiv (pv 0) pe_int) (pe_ix ix_list (pe_lst (pa_cons pe_int (pa_cons pe_int pa_nil))) (pe_callTy call_int1 rfl T.int b_int (pa_cons (pe_cmpR op_eq (pe_op op_mod (pe_op op_fdiv (pv 0) pe_int) pe_int) pe_int rfl) pa_nil)) (fun _ _ => rfl)))))
   (pss_one (ps_ret (PE.imp (t' := tRowP) (pe_tup (pa_cons pe_str (pa_cons (pe_callTy call_tuple_of rfl T.tuple b_tuple (pa_cons (pe_comp (own := 1) (caps := [1, 0]) (N := ["_law_k", "_law_menu_here", "_law_number_here"])
     (N0 := ["_law_number_here", "_law_menu_here", "_law_word", "_law_size"]) (sc0 := defScope lPlain) rfl (pi_range1 rfl T.range (pa_cons (pv 3) pa_nil)) (fun _ _ _ => pg_name (i := 0) ndPlain rfl (Or.inl rfl)) (fun _ _ _ => pf_none)
     (fun _ _ _ => pe_ix (ix_listK (K := K) rfl) (pv 1) (pe_op op_mod (pe_call GM hr rfl DM.m DM.F.kp bM .nil pass0 (pa_cons (pv 2) (pa_cons (pe_op op_add pe_int (pv 0)) pa_nil))) pe_int) (fun _ _ => rfl)) (gk_name (by decide)) rfl rfl
     (by decide +kernel) rfl (by decide +kernel) (by decide +kernel) rfl (by decide +kernel)) pa_nil)) pa_nil))) ?mR))))))), ?_⟩
  rotate_left
  refine ⟨_, rfl, _, rfl, _, _, rfl, rfl, ⟨by decide, by decide⟩, _, _, rfl, rfl, (by show (0 : Int) < 5; decide), ?_⟩
  obtain ⟨j, hj, hjl⟩ := mod_ix (r := n / 3) (n := 5) (by decide)
  obtain ⟨z0, hz0, ez0⟩ := hM.at (j := j) (by omega)
  refine ⟨a, _, _, .str z0, rfl, rfl, SqL.of hM.1, by rw [<- hj]; exact atI_nat ez0, ?_⟩
  refine ⟨fun σ' H' => Same H H' /\ ∃ z : Str, Wm z /\ σ' = [some (.int n), some (.ref a), some (.str z), none], ?_, ?_⟩
  ·refine ⟨_, rfl, _, _, rfl, rfl, ⟨by decide, by decide⟩, _, _, rfl, rfl, (by show (0 : Int) < 6; decide), rfl, _, rfl, ?_⟩
   refine ite2 (fun _ => ?_) (fun _ => ⟨Same.refl H, z0, hz0, rfl⟩)
   refine ⟨three_line, fun p hp => ⟨_, rfl, _, _, rfl, rfl, ⟨by decide, by decide⟩, _, _, rfl, rfl, (by show (0 : Int) < 3; decide), ?_⟩⟩
   obtain ⟨i, hi, hil⟩ := mod_ix (r := n / 90) (n := 3) (by decide)
   have sm : Same H (upd H p (.lst [.str "and", .str "or", .str "not"])) := same_upd hp
   match i, hil, hi with
   | 0, _, hi => exact ⟨p, _, _, .str "and", rfl, rfl, SqL.of upd_same, by rw [<- hi]; exact atI_nat rfl, sm, "and", wm_and, rfl⟩
   | 1, _, hi => exact ⟨p, _, _, .str "or", rfl, rfl, SqL.of upd_same, by rw [<- hi]; exact atI_nat rfl, sm, "or", wm_or, rfl⟩
   | 2, _, hi => exact ⟨p, _, _, .str "not", rfl, rfl, SqL.of upd_same, by rw [<- hi]; exact atI_nat rfl, sm, "not", wm_not, rfl⟩
   | i + 3, h, _ => omega
  ·rintro σ' H1 ⟨s1, z, hz, rfl⟩
   have hM1 : MenuAt H1 a ws := ⟨s1 _ _ hM.1, hM.2⟩
   refine ⟨_, rfl, _, _, rfl, rfl, (by show (0 : Int) < 3; decide), rfl, _, rfl, ?_⟩
   refine ite2 (fun _ => ?_) (fun _ => ?_)
   ·exact ⟨_, rfl, two_line, fun p hp => kk _ (.word z) _ (s1.upf hp) (.tup upd_same (.cons (.str _) (.cons (.str _) .nil))) rfl (wm_wd hz)⟩
   refine ⟨_, rfl, _, _, rfl, rfl, (by show (0 : Int) < 3; decide), rfl, _, rfl, ?_⟩
   refine ite2 (fun _ => ?_) (fun _ => ?_)
   ·have z1 := hz.2.2
    have z13 := hz.1
    refine ⟨_, rfl, _, rfl, _, _, rfl, rfl, ⟨by decide, by decide⟩, _, rfl, z, rfl, by omega, _, _, rfl, rfl, (by show (0 : Int) < ((z.length : Nat) : Int); omega), _, _, rfl, rfl, _, rfl, z, rfl, by omega, two_line, fun p hp => ?_⟩
    have e0 := Int.emod_nonneg (n / 15) (show ((z.length : Nat) : Int) ≠ 0 by omega)
    have e1 := Int.emod_lt_of_pos (n / 15) (show (0 : Int) < ((z.length : Nat) : Int) by omega)
    exact kk _ (.start _) _ (s1.upf hp) (.tup upd_same (.cons (.str _) (.cons (.str _) .nil))) rfl (wm_wd (wm_slice hz (by omega) (by omega)))
   refine ⟨_, rfl, _, _, rfl, rfl, ⟨by decide, by decide⟩, two_line, fun p hp => ?_⟩
   have s2 : Same H1 (upd H1 p (.lst [.int 2, .int 7])) := same_upd hp
   refine ⟨_, rfl, _, _, rfl, rfl, ⟨by decide, by decide⟩, _, _, rfl, rfl, (by show (0 : Int) < 4; decide), rfl, .inr ⟨_, rfl, ?_⟩⟩
   have fin : ∀ k : Int, 0 < k -> k <= 7 -> ∀ H2, Same H1 H2 -> tRowP [some (.int n), some (.ref a), some (.str z), some (.int (2 + n / 15 % k))] H2 Q := fun k k0 k7 H2 s3 => by
    have e0 := Int.emod_nonneg (n / 15) (show k ≠ 0 by omega)
    have e1 := Int.emod_lt_of_pos (n / 15) k0
    obtain ⟨m, hm⟩ := Int.eq_ofNat_of_zero_le (show 0 <= 2 + n / 15 % k by omega)
    rw [hm]
    refine ⟨n, a, ws, _, m, rfl, ⟨s3 _ _ hM1.1, hM1.2⟩, by omega, by omega, fun x zs H' s4 hzl hzs hx => ?_⟩
    exact kk x (.row zs) H' ((s1.trans s3).trans s4) hx rfl ⟨by omega, by omega, hzs⟩
   generalize decide (V.int (n / 105 % 4) = V.int 1) = b
   cases b with
   | false => exact ⟨p, _, 0, .int 2, rfl, rfl, SqL.of upd_same, atI_nat (j := 0) rfl, _, _, rfl, rfl, (by show (0 : Int) < 2; decide), _, _, rfl, rfl, fin 2 (by decide) (by decide) _ s2⟩
   | true => exact ⟨p, _, 1, .int 7, rfl, rfl, SqL.of upd_same, atI_nat (j := 1) rfl, _, _, rfl, rfl, (by show (0 : Int) < 7; decide), _, _, rfl, rfl, fin 7 (by decide) (by decide) _ s2⟩
  case mR =>
   rintro σ H Q ⟨n, a, ws, o, m, rfl, hM, m2, m8, k⟩
   refine ⟨_, rfl, m, rfl, by omega, by omega, ?_⟩
   refine comp_itr (fun i ys H' => H' = H /\ ∃ zs : List Str, zs.length = i /\ (∀ z ∈ zs, Wd z) /\ ys = zs.map V.str) (by rw [hl]; omega) ⟨rfl, [], rfl, fun z hz => by simp at hz, rfl⟩ ?_ ?_
   ·rintro i ys H' N hi ⟨rfl, zs, hzl, hzs, rfl⟩ hN
    have hi' : i < m := by omega
    refine g1 ?_
    refine ⟨_, rfl, _, rfl, _, rfl, _, _, rfl, rfl, _, _, rfl, by omega, by omega, fun r r0 r1 => ?_⟩
    obtain ⟨j, hj, hjl⟩ := mod_ix (r := r) (n := 5) (by decide)
    obtain ⟨z0, hz0, ez0⟩ := hM.at (j := j) (by omega)
    refine ⟨_, _, rfl, rfl, (by show (0 : Int) < 5; decide), a, _, _, .str z0, rfl, rfl, SqL.of hM.1, by rw [<- hj]; exact atI_nat ez0, hN _ _ ⟨rfl, zs ++ [z0], by simp [hzl], fun z hz => ?_, by rw [List.map_append]; rfl⟩⟩
    rcases List.mem_append.mp hz with q | q
    ·exact hzs z q
    ·have e : z = z0 := by simpa using q
     rw [e]
     exact wm_wd hz0
   ·rintro ys H' ⟨rfl, zs, hzl, hzs, rfl⟩ _ p hp
    refine ⟨p, _, rfl, .inl ⟨SqL.of upd_same, fun q hq => ?_⟩⟩
    refine ⟨two_line, fun t ht => ?_⟩
    exact k _ zs _ (((same_upd hp).upf hq).upf ht) (by omega) hzs (.tup upd_same (.cons (.str _) (.cons (.tup (same_upd ht _ _ upd_same) (PdVs.strs zs)) .nil)))
end
noncomputable def SX (c : Addr) (H H' : Hp) : Prop := ∀ b o, b ≠ c -> H b = some o -> H' b = some o
theorem sx_upd {H : Hp} {c : Addr} {o : HO} : SX c H (upd H c o) := fun b u hb e => by rw [upd_ne hb]; exact e
theorem SX.same {c : Addr} {H H1 H2 : Hp} (s : SX c H H1) (t : Same H1 H2) : SX c H H2 := fun b o hb e => t _ _ (s b o hb e)
theorem SX.trans {c : Addr} {H H1 H2 : Hp} (s : SX c H H1) (t : SX c H1 H2) : SX c H H2 := fun b o hb e => t _ _ hb (s b o hb e)
theorem SX.of {c : Addr} {H H1 : Hp} (s : Same H H1) : SX c H H1 := fun b o _ e => s _ _ e
theorem SX.base {c : Addr} {B H H1 : Hp} (s : SX c H H1) (t : Same B H) (n : B c = none) : Same B H1 := fun b o e => s b o (ne_of_none e n) (t _ _ e)
theorem SX.keep {c : Addr} {H H1 : Hp} {xs : List V} (s : SX c H H1) (h : H c = some (.lst xs)) : Keep H H1 :=
 ⟨fun b C dx fs e => s b _ (ne_of e h (by intro z; cases z)) e, fun b ys e => s b _ (ne_of e h (by intro z; cases z)) e⟩
theorem PT.imp {X : Cx} {e : Expr} {t t' : TT} (h : PT X e t) (i : ∀ σ H Q, t' σ H Q -> t σ H Q) : PT X e t' := fun pins s σ H Q I q => h pins s σ H Q I (i σ H Q q)
theorem At.lf_many {t : At} (h : lfk t.kn = true) : t.many = 1 := by cases t <;> first | rfl | cases h
section
variable {P : Program} {w : World} {K : PySem.W.Frag} {mg : Str -> Option Value} {base : Heap}
noncomputable def spTree (K : PySem.W.Frag) (n : Nat) : Sp := fun vs H Q _ => ∃ (sc c me : Addr) (ns : List Int) (ws : List Str) (a : Nat) (k : Int) (B : Hp), vs = [.ref sc, .ref c, .int k, .ref me] /\ k = (n : Int) /\ 1 <= n /\ Same B H /\ B c = none /\ SqL K B sc (ns.map V.int) /\ ns.length <= 63 /\ MenuAt B me ws /\
 H c = some (.lst [.int ((a : Nat) : Int)]) /\ a + 2 ^ n <= 900 /\
 ∀ x t (a' : Nat) H', SX c H H' -> H' c = some (.lst [.int ((a' : Nat) : Int)]) -> PdV false H' x t.told -> Gd t -> t.dep + 1 <= n -> a' + 1 <= a + 2 ^ n -> t.many + 2 * min a 16 <= 1 + 2 * min a' 16 -> Q x H'
noncomputable def spT (K : PySem.W.Frag) : Nat -> Sp
 | 0 => fun _ _ _ _ => False
 | n + 1 => spTree K n
noncomputable def tCut : TT := fun σ H Q => ∃ (c : Addr) (k a r : Int), σ[1]? = some (some (.ref c)) /\ σ[2]? = some (some (.int k)) /\ σ[4]? = some (some (.int r)) /\ H c = some (.lst [.int a]) /\ Q (decide (k < 2 \/ 16 < a \/ r % 9 < 2)) H
theorem scTree : FnScope ["_law_script", "_law_at", "_law_deep", "_law_menu_here", "_law_number_here", "_law_far", "_law_one"] ["_law_script", "_law_at", "_law_deep", "_law_menu_here"] (defScope lTree) := ⟨rfl, rfl, rfl, by decide +kernel, rfl, by decide +kernel, by decide +kernel⟩
seal PSs PS PE PT PA PG PI PGs PIfs in
theorem ok_tree1 {f fm fn fp : Addr} {fd fdm fdn fdp : FuncData} (D : Df K mg "_law_tree" lTree f fd) (DM : Df K mg "_law_mixed" lMixed fm fdm) (DN : Df K mg "_law_number" lNumber fn fdn) (DP : Df K mg "_law_plain" lPlain fp fdp) (T : Txt mg) (n : Nat)
  (GT : FnOk P w K mg base CX0 (n + 2) f fd ["_law_script", "_law_at", "_law_deep", "_law_menu_here"] (spT K n)) : FnOk P w K mg base CX0 (n + 3) f fd ["_law_script", "_law_at", "_law_deep", "_law_menu_here"] (spTree K n) := by
 have GM : FnOk P w K mg base CX0 (n + 2) fm fdm ["_law_number_here", "_law_k"] spMixed := (ok_mixed DM).mono (by omega)
 have bM := DM.F.binds (ps := ["_law_number_here", "_law_k"]) fun _ _ _ _ _ _ us hl => us2 (fun _ _ => rfl) us hl
 have GN : FnOk P w K mg base CX0 (n + 2) fn fdn ["_law_script", "_law_k"] (spNumber K) := (ok_number DN DM T).mono (by omega)
 have bN := DN.F.binds (ps := ["_law_script", "_law_k"]) fun _ _ _ _ _ _ us hl => us2 (fun _ _ => rfl) us hl
 have GP : FnOk P w K mg base CX0 (n + 2) fp fdp ["_law_number_here", "_law_menu_here"] spPlain := (ok_plain DP DM T).mono (by omega)
 have bP := DP.F.binds (ps := ["_law_number_here", "_law_menu_here"]) fun _ _ _ _ _ _ us hl => us2 (fun _ _ => rfl) us hl
 have bT := D.F.binds (ps := ["_law_script", "_law_at", "_law_deep", "_law_menu_here"]) fun _ _ _ _ _ _ us hl => match us, hl with | [_, _, _, _], _ => rfl
 refine D.F.ok scTree (fun vs H Q E h => ?_) (fun cdv A outer s H vs Q E hr h => ?_)
 ·obtain ⟨sc, c, me, ns, ws, a, k, B, rfl, _⟩ := h
  rfl
 ·obtain ⟨sc, c, me, ns, ws, a, k, B, rfl, rfl, hn, sB, nB, hS, hlen, hM, hc, ha, kk⟩ := h
  refine ⟨_, pss_cons (ps_asg (pe_op op_add (pe_ix ix_list (pv 1) pe_int (fun _ _ => rfl)) pe_int) (pg_sub (pv 1) pe_int set_list))
   (pss_cons (ps_set (i := 4) scTree.nd rfl (Or.inl rfl) (pe_call GN hr rfl DN.m DN.F.kp bN .nil pass0 (pa_cons (pv 0) (pa_cons (pe_ix ix_list (pv 1) pe_int (fun _ _ => rfl)) pa_nil))))
   (pss_cons (ps_if (PT.imp (t' := tCut) (PW.pt (pw_or (pt_cmpR op_lt (pv 2) pe_int (nomark _)) (pw_or (pt_cmpR op_gt (pe_ix ix_list (pv 1) pe_int (fun _ _ => rfl)) pe_int (nomark _)) (pw_or1 (pt_cmpR op_lt (pe_op op_mod (pv 4) pe_int) pe_int (nomark _)))))) ?mC)
    (pss_one (ps_ret (pe_call GP hr rfl DP.m DP.F.kp bP .nil pass0 (pa_cons (pe_op op_fdiv (pv 4) pe_int) (pa_cons (pv 3) pa_nil))))) pss_nil)
   (pss_cons (ps_if (pt_cmpR op_eq (pe_op op_mod (pv 4) pe_int) pe_int (nomark _))
    (pss_cons (ps_set (i := 5) scTree.nd rfl (Or.inl rfl) (pe_op op_mod (pe_op op_fdiv (pv 4) pe_int) (pe_ix ix_list (pe_lst (pa_cons pe_int (pa_cons pe_int pa_nil))) (pe_op op_mod (pe_op op_fdiv (pv 4) pe_int) pe_int) (fun _ _ => rfl))))
    (pss_one (ps_ret (pe_tup (pa_cons pe_str (pa_cons (pe_call GP hr rfl DP.m DP.F.kp bP .nil pass0 (pa_cons (pe_op op_fdiv (pv 4) pe_int) (pa_cons (pv 3) pa_nil)))
     (pa_cons (pe_call GP hr rfl DP.m DP.F.kp bP .nil pass0 (pa_cons (pe_call GM hr rfl DM.m DM.F.kp bM .nil pass0 (pa_cons (pv 4) (pa_cons pe_int pa_nil))) (pa_cons (pv 3) pa_nil))) (pa_cons (pv 5) pa_nil)))))))) pss_nil)
   (pss_cons (ps_if (pt_cmpR op_eq (pe_op op_mod (pv 4) pe_int) pe_int (nomark _))
    (pss_one (ps_ret (pe_tup (pa_cons pe_str (pa_cons (pe_call GT hr rfl D.m D.F.kp bT .nil pass0 (pa_cons (pv 0) (pa_cons (pv 1) (pa_cons (pe_op op_sub (pv 2) pe_int) (pa_cons (pv 3) pa_nil))))) pa_nil))))) pss_nil)
   (pss_cons (ps_set (i := 6) scTree.nd rfl (Or.inl rfl) (pe_call GT hr rfl D.m D.F.kp bT .nil pass0 (pa_cons (pv 0) (pa_cons (pv 1) (pa_cons (pe_op op_sub (pv 2) pe_int) (pa_cons (pv 3) pa_nil))))))
   (pss_one (ps_ret (pe_tup (pa_cons (pe_ix ix_list (pe_lst (pa_cons pe_str (pa_cons pe_str pa_nil))) (pe_op op_mod (pv 4) pe_int) (fun _ _ => rfl)) (pa_cons (pv 6)
    (pa_cons (pe_call GT hr rfl D.m D.F.kp bT .nil pass0 (pa_cons (pv 0) (pa_cons (pv 1) (pa_cons (pe_op op_sub (pv 2) pe_int) (pa_cons (pv 3) pa_nil))))) pa_nil))))))))))), ?_⟩
  rotate_left
  ·have p2 : 1 <= 2 ^ n := Nat.one_le_two_pow
   refine ⟨_, rfl, c, _, 0, _, rfl, rfl, SqL.of hc, atI_nat (j := 0) rfl, _, _, rfl, rfl, ?_⟩
   refine ⟨_, rfl, c, _, _, 0, rfl, rfl, hc, rfl, ?_⟩
   have x1 : SX c H (upd H c (.lst [.int (((a + 1 : Nat)) : Int)])) := sx_upd
   have b1 := x1.base sB nB
   refine ⟨_, rfl, _, rfl, c, _, 0, _, rfl, rfl, SqL.of upd_same, atI_nat (j := 0) rfl, sc, ns, a + 1, rfl, b1.seq hS, hlen, by omega, fun r H2 r0 r1 s2 => ?_⟩
   have hc2 : H2 c = some (.lst [.int (((a + 1 : Nat)) : Int)]) := s2 _ _ upd_same
   have x2 := x1.same s2
   have b2 := x2.base sB nB
   have menu : ∀ {H3 : Hp}, Same B H3 -> MenuAt H3 me ws := fun s => ⟨s _ _ hM.1, hM.2⟩
   refine ⟨c, _, _, r, rfl, rfl, rfl, hc2, ?_⟩
   by_cases cut : ((n : Nat) : Int) < 2 \/ (16 : Int) < ((a + 1 : Nat) : Int) \/ r % 9 < 2
   ·rw [decide_eq_true cut]
    refine iteT ⟨_, rfl, _, _, rfl, rfl, ⟨by decide, by decide⟩, _, rfl, _, me, ws, rfl, menu b2, fun x t H3 s3 hx lk gd => ?_⟩
    have hd := At.lf_dep lk
    have hm := At.lf_many lk
    have pn : 2 <= 2 ^ n := by
     have : 2 ^ 1 <= 2 ^ n := Nat.pow_le_pow_right (by decide) hn
     simpa using this
    exact kk x t (a + 1) H3 (x2.same s3) (s3 _ _ hc2) hx gd (by omega) (by omega) (by omega)
   rw [decide_eq_false cut]
   obtain ⟨m, rfl⟩ : ∃ m, n = m + 1 := ⟨n - 1, by omega⟩
   have hm1 : 1 <= m := by omega
   have pe : 2 ^ (m + 1) = 2 ^ m + 2 ^ m := by rw [Nat.pow_succ]; omega
   have pm : 2 <= 2 ^ m := by
    have : 2 ^ 1 <= 2 ^ m := Nat.pow_le_pow_right (by decide) hm1
    simpa using this
   refine iteF ⟨_, rfl, _, _, rfl, rfl, (by show (0 : Int) < 9; decide), rfl, _, rfl, ?_⟩
   refine ite2 (fun _ => ?_) (fun _ => ?_)
   ·refine ⟨_, rfl, _, _, rfl, rfl, ⟨by decide, by decide⟩, two_line, fun p hp => ⟨_, rfl, _, _, rfl, rfl, ⟨by decide, by decide⟩, _, _, rfl, rfl, (by show (0 : Int) < 2; decide), ?_⟩⟩
    have s3 : Same H2 (upd H2 p (.lst [.int 3, .int 21])) := same_upd hp
    obtain ⟨i, hi, hil⟩ := mod_ix (r := r / 9) (n := 2) (by decide)
    obtain ⟨q, hq, hq21, eq⟩ : ∃ q : Int, 0 < q /\ q <= 21 /\ ([V.int 3, V.int 21])[i]? = some (V.int q) := by
     match i, hil with
     | 0, _ => exact ⟨3, by decide, by decide, rfl⟩
     | 1, _ => exact ⟨21, by decide, by decide, rfl⟩
     | i + 2, h => omega
    refine ⟨p, _, _, .int q, rfl, rfl, SqL.of upd_same, by rw [<- hi]; exact atI_nat eq, _, _, rfl, rfl, hq, ?_⟩
    have f0 := Int.emod_nonneg (r / 18) (show q ≠ 0 by omega)
    have f1 := Int.emod_lt_of_pos (r / 18) hq
    refine ⟨_, rfl, _, _, rfl, rfl, ⟨by decide, by decide⟩, _, rfl, _, me, ws, rfl, menu (b2.trans s3), fun x1 t1 H4 s4 hx1 l1 g1 => ?_⟩
    refine ⟨_, rfl, _, 5, rfl, by decide, by decide, fun r2 _ _ => ⟨_, rfl, _, me, ws, rfl, menu ((b2.trans s3).trans s4), fun x2' t2 H5 s5 hx2 l2 g2 => ?_⟩⟩
    refine ⟨_, rfl, four_line, fun u hu => ?_⟩
    have d1 := At.lf_dep l1
    have d2 := At.lf_dep l2
    have m1 := At.lf_many l1
    have m2 := At.lf_many l2
    refine kk _ (.near t1 t2 (r / 18 % q)) (a + 1) _ ((((x2.same s3).same s4).same s5).same (same_upd hu)) (same_upd hu _ _ (s5 _ _ (s4 _ _ (s3 _ _ hc2)))) ?_ ⟨⟨l1, l2⟩, ⟨f0, by omega⟩, g1, g2⟩ (by show max t1.dep t2.dep + 1 + 1 <= m + 1; omega) (by omega) (by show 1 + (t1.many + t2.many) + 2 * min a 16 <= 1 + 2 * min (a + 1) 16; omega)
    exact .tup upd_same (.cons (.str _) (.cons ((hx1.same s5).same (same_upd hu)) (.cons (hx2.same (same_upd hu)) (.cons (.int _) .nil))))
   refine ⟨_, rfl, _, _, rfl, rfl, (by show (0 : Int) < 9; decide), rfl, _, rfl, ?_⟩
   refine ite2 (fun _ => ?_) (fun _ => ?_)
   ·refine ⟨_, rfl, _, rfl, _, rfl, _, _, rfl, rfl, _, rfl, sc, c, me, ns, ws, a + 1, _, B, rfl, by omega, hm1, b2, nB, hS, hlen, hM, hc2, by omega, fun x t a' H3 x3 hc3 hx gd hd h1 h2 => ?_⟩
    refine ⟨two_line, fun u hu => ?_⟩
    exact kk _ (.no t) a' _ ((x2.trans x3).same (same_upd hu)) (same_upd hu _ _ hc3) (.tup upd_same (.cons (.str _) (.cons (hx.same (same_upd hu)) .nil))) gd (by show t.dep + 1 + 1 <= m + 1; omega) (by omega) (by show 1 + t.many + 2 * min a 16 <= 1 + 2 * min a' 16; omega)
   refine ⟨_, rfl, _, rfl, _, rfl, _, _, rfl, rfl, _, rfl, sc, c, me, ns, ws, a + 1, _, B, rfl, by omega, hm1, b2, nB, hS, hlen, hM, hc2, by omega, fun x t a' H3 x3 hc3 hx gd hd h1 h2 => ?_⟩
   have b3 := x3.base b2 nB
   refine ⟨two_line, fun p hp => ⟨_, rfl, _, _, rfl, rfl, (by show (0 : Int) < 2; decide), ?_⟩⟩
   obtain ⟨i, hi, hil⟩ := mod_ix (r := r) (n := 2) (by decide)
   obtain ⟨nm, cc, c1, c2, c3, c4, eq⟩ : ∃ (nm : Str) (cc : At -> At -> At), (∀ a b, (cc a b).told = .tuple [.str nm, a.told, b.told]) /\ (∀ a b, (cc a b).dep = max a.dep b.dep + 1) /\ (∀ a b, (cc a b).many = 1 + (a.many + b.many)) /\ (∀ a b, Gd a -> Gd b -> Gd (cc a b)) /\ ([V.str "both", V.str "either"])[i]? = some (V.str nm) := by
    match i, hil with
    | 0, _ => exact ⟨"both", .both, fun _ _ => rfl, fun _ _ => rfl, fun _ _ => rfl, fun _ _ h1 h2 => ⟨h1, h2⟩, rfl⟩
    | 1, _ => exact ⟨"either", .either, fun _ _ => rfl, fun _ _ => rfl, fun _ _ => rfl, fun _ _ h1 h2 => ⟨h1, h2⟩, rfl⟩
    | i + 2, h => omega
   have s4 : Same H3 (upd H3 p (.lst [.str "both", .str "either"])) := same_upd hp
   refine ⟨p, _, _, .str nm, rfl, rfl, SqL.of upd_same, by rw [<- hi]; exact atI_nat eq, _, rfl, ?_⟩
   refine ⟨_, rfl, _, rfl, _, rfl, _, _, rfl, rfl, _, rfl, sc, c, me, ns, ws, a', _, B, rfl, by omega, hm1, b3.trans s4, nB, hS, hlen, hM, s4 _ _ hc3, by omega, fun y t2 a2 H5 x5 hc5 hy gd2 hd2 h3 h4 => ?_⟩
   refine ⟨three_line, fun u hu => ?_⟩
   have ky : PdV false (upd H5 u (.tup [.str nm, x, y])) x t.told := ((hx.same s4).keep (x5.keep (s4 _ _ hc3))).same (same_upd hu)
   exact kk _ (cc t t2) a2 _ ((((x2.trans x3).same s4).trans x5).same (same_upd hu)) (same_upd hu _ _ hc5) (by rw [c1]; exact .tup upd_same (.cons (.str _) (.cons ky (.cons (hy.same (same_upd hu)) .nil)))) (c4 _ _ gd gd2) (by rw [c2]; omega) (by omega) (by rw [c3]; omega)
  case mC =>
   rintro σ H Q ⟨c, k, a, r, e1, e2, e4, hc, q⟩
   refine ⟨_, e2, _, _, rfl, rfl, _, rfl, ?_⟩
   by_cases h1 : k < 2
   ·rw [decide_eq_true h1]
    rw [decide_eq_true (.inl h1)] at q
    exact iteT q
   ·rw [decide_eq_false h1]
    refine iteF ⟨_, e1, c, _, 0, _, rfl, rfl, SqL.of hc, atI_nat (j := 0) rfl, _, _, rfl, rfl, _, rfl, ?_⟩
    by_cases h2 : 16 < a
    ·rw [decide_eq_true h2]
     rw [decide_eq_true (.inr (.inl h2))] at q
     exact iteT q
    ·rw [decide_eq_false h2]
     refine iteF ⟨_, e4, _, _, rfl, rfl, (by show (0 : Int) < 9; decide), _, _, rfl, rfl, _, rfl, ?_⟩
     have : decide (k < 2 \/ 16 < a \/ r % 9 < 2) = decide (r % 9 < 2) := by simp [h1, h2]
     rw [this] at q
     exact q
theorem ok_tree {f fm fn fp : Addr} {fd fdm fdn fdp : FuncData} (D : Df K mg "_law_tree" lTree f fd) (DM : Df K mg "_law_mixed" lMixed fm fdm) (DN : Df K mg "_law_number" lNumber fn fdn) (DP : Df K mg "_law_plain" lPlain fp fdp) (T : Txt mg) :
  ∀ n : Nat, FnOk P w K mg base CX0 (n + 3) f fd ["_law_script", "_law_at", "_law_deep", "_law_menu_here"] (spTree K n)
 | 0 => ok_tree1 D DM DN DP T 0 ok_none
 | n + 1 => ok_tree1 D DM DN DP T (n + 1) (ok_tree D DM DN DP T n)
end
noncomputable def At.rest : At -> List PyData
 | .word z => [.str z] | .start z => [.str z] | .row zs => [.tuple (zs.map .str)] | .near a b n => [a.told, b.told, .int n] | .both a b => [a.told, b.told] | .either a b => [a.told, b.told] | .no a => [a.told]
theorem At.told_eq (t : At) : t.told = .tuple (.str t.nm :: t.rest) := by cases t <;> rfl
theorem PdV.t0 {l : Bool} {H : Hp} {x : V} {z : Str} {ds : List PyData} (h : PdV l H x (.tuple (.str z :: ds))) : ∃ p xs, x = .ref p /\ H p = some (.tup (.str z :: xs)) /\ PdVs l H xs ds := by
 cases h with
 | tup ha hs => cases hs with
  | cons h0 hs => cases h0 with
   | str _ => exact ⟨_, _, rfl, ha, hs⟩
theorem iteFb {b : Bool} {A B : Prop} (h : b = false) (q : B) : if b = true then A else B := by rw [h]; exact iteF q
theorem iteTb {b : Bool} {A B : Prop} (h : b = true) (q : A) : if b = true then A else B := by rw [h]; exact iteT q
theorem PdVs.one {l : Bool} {H : Hp} {xs : List V} {a : PyData} (h : PdVs l H xs [a]) : ∃ x, xs = [x] /\ PdV l H x a := by
 cases h with
 | cons h0 hs => cases hs with
  | nil => exact ⟨_, rfl, h0⟩
theorem PdVs.two {l : Bool} {H : Hp} {xs : List V} {a b : PyData} (h : PdVs l H xs [a, b]) : ∃ x y, xs = [x, y] /\ PdV l H x a /\ PdV l H y b := by
 cases h with
 | cons h0 hs => cases hs with
  | cons h1 hs => cases hs with
   | nil => exact ⟨_, _, rfl, h0, h1⟩
noncomputable def At.isTwo : At -> Bool
 | .near _ _ _ => true | .both _ _ => true | .either _ _ => true | _ => false
theorem in_two (t : At) : inV (.str t.nm) [.str "both", .str "either", .str "near"] = t.isTwo := by
 cases t with
 | word z => exact (show inV (V.str "word") [.str "both", .str "either", .str "near"] = false by decide +kernel)
 | start z => exact (show inV (V.str "start") [.str "both", .str "either", .str "near"] = false by decide +kernel)
 | row z => exact (show inV (V.str "row") [.str "both", .str "either", .str "near"] = false by decide +kernel)
 | near a b n => exact (show inV (V.str "near") [.str "both", .str "either", .str "near"] = true by decide +kernel)
 | both a b => exact (show inV (V.str "both") [.str "both", .str "either", .str "near"] = true by decide +kernel)
 | either a b => exact (show inV (V.str "either") [.str "both", .str "either", .str "near"] = true by decide +kernel)
 | no a => exact (show inV (V.str "not") [.str "both", .str "either", .str "near"] = false by decide +kernel)
section
variable {P : Program} {w : World} {K : PySem.W.Frag} {mg : Str -> Option Value} {base : Heap}
noncomputable def spLK : Sp := fun vs H Q _ => ∃ (x : V) (t : At), vs = [x] /\ PdV false H x t.told /\ ∀ l xs H', Same H H' -> H l = none -> H' l = some (.lst xs) -> PdVs false H' xs (t.kids.map At.told) -> Q (.ref l) H'
theorem scLK : FnScope ["_law_told"] ["_law_told"] (defScope lKids) := ⟨rfl, rfl, rfl, by decide +kernel, rfl, by decide +kernel, by decide +kernel⟩
seal PSs PS PE PT PA PG PI PGs PIfs in
theorem ok_lk {f : Addr} {fd : FuncData} (D : Df K mg "_law_kids" lKids f fd) : FnOk P w K mg base CX0 1 f fd ["_law_told"] spLK := by
 refine D.F.ok scLK (fun vs H Q E h => ?_) (fun cdv A outer s H vs Q E hr h => ?_)
 ·obtain ⟨x, t, rfl, _⟩ := h
  rfl
 ·obtain ⟨x, t, rfl, hp, k⟩ := h
  refine ⟨_, pss_cons (ps_if (pt_cmpR op_in_seq (pe_ix ix_tup (pv 0) pe_int (fun _ _ => rfl)) (pe_tup (pa_cons pe_str (pa_cons pe_str (pa_cons pe_str pa_nil)))) (by with_unfolding_all rfl)) (pss_one (ps_ret (pe_lst (pa_cons (pe_ix ix_tup (pv 0) pe_int (fun _ _ => rfl)) (pa_cons (pe_ix ix_tup (pv 0) pe_int (fun _ _ => rfl)) pa_nil))))) pss_nil)
   (pss_one (ps_ret (pe_ifExp (pt_cmpR op_eq (pe_ix ix_tup (pv 0) pe_int (fun _ _ => rfl)) pe_str (nomark _)) (pe_lst (pa_cons (pe_ix ix_tup (pv 0) pe_int (fun _ _ => rfl)) pa_nil)) (pe_lst pa_nil)))), ?_⟩
  obtain ⟨p, xs, rfl, ha, hs⟩ := (t.told_eq ▸ hp).t0
  refine ⟨_, rfl, p, _, 0, _, rfl, rfl, SqT.of ha, atI_nat (j := 0) rfl, three_line, fun q hq => ⟨q, _, rfl, .inr (SqT.of upd_same), rfl, rfl, _, rfl, ?_⟩⟩
  have s1 : Same H (upd H q (.tup [.str "both", .str "either", .str "near"])) := same_upd hq
  have e := in_two t
  have ha1 := s1 _ _ ha
  have two : ∀ a b, t.rest.take 2 = [a, b] -> t.kids.map At.told = [a, b] -> ∃ x1 x2, xs[0]? = some x1 /\ xs[1]? = some x2 /\ PdVs false H [x1, x2] (t.kids.map At.told) := fun a b e1 e2 => by
   have h2 : ∀ {xs : List V} {ds : List PyData}, PdVs false H xs ds -> ds.take 2 = [a, b] -> ∃ x1 x2, xs[0]? = some x1 /\ xs[1]? = some x2 /\ PdVs false H [x1, x2] [a, b] := fun hs e => by
    cases hs with
    | nil => simp at e
    | cons h0 hs => cases hs with
     | nil => simp at e
     | cons h1 hs =>
      simp at e
      obtain ⟨rfl, rfl⟩ := e
      exact ⟨_, _, rfl, rfl, .cons h0 (.cons h1 .nil)⟩
   rw [e2]
   exact h2 hs e1
  have ht : t.isTwo = true -> ∃ a b, t.rest.take 2 = [a, b] /\ t.kids.map At.told = [a, b] := fun h => by
   cases t with
   | near a b n => exact ⟨_, _, rfl, rfl⟩
   | both a b => exact ⟨_, _, rfl, rfl⟩
   | either a b => exact ⟨_, _, rfl, rfl⟩
   | word z => cases h
   | start z => cases h
   | row z => cases h
   | no a => cases h
  cases hq2 : t.isTwo with
  | true =>
   obtain ⟨a, b, e1, e2⟩ := ht hq2
   obtain ⟨x1, x2, g1, g2, hk⟩ := two a b e1 e2
   exact iteTb (b := inV (.str t.nm) [.str "both", .str "either", .str "near"]) (e.trans hq2)
    ⟨_, rfl, p, _, 1, x1, rfl, rfl, SqT.of ha1, atI_nat (j := 1) (by simpa using g1), _, rfl, p, _, 2, x2, rfl, rfl, SqT.of ha1, atI_nat (j := 2) (by simpa using g2), two_line, fun l hl => k l _ _ (s1.upf hl) (Same.free s1 hl) upd_same (PdVs.same (s1.upf hl) hk)⟩
  | false =>
  refine iteFb (b := inV (.str t.nm) [.str "both", .str "either", .str "near"]) (e.trans hq2) ?_
  cases t with
  | near a b n => cases hq2
  | both a b => cases hq2
  | either a b => cases hq2
  | no a =>
   obtain ⟨x1, rfl, h1⟩ := PdVs.one hs
   exact ⟨_, rfl, p, _, 0, _, rfl, rfl, SqT.of ha1, atI_nat (j := 0) rfl, rfl, _, rfl, ifS rfl ⟨_, rfl, p, _, 1, x1, rfl, rfl, SqT.of ha1, atI_nat (j := 1) rfl, one_line, fun l hl => k l _ _ (s1.upf hl) (Same.free s1 hl) upd_same (PdVs.same (s1.upf hl) (.cons h1 .nil))⟩⟩
  | word z => exact ⟨_, rfl, p, _, 0, _, rfl, rfl, SqT.of ha1, atI_nat (j := 0) rfl, rfl, _, rfl, ifN (a := "word") (by decide +kernel) ⟨no_line, fun l hl => k l _ _ (s1.upf hl) (Same.free s1 hl) upd_same .nil⟩⟩
  | start z => exact ⟨_, rfl, p, _, 0, _, rfl, rfl, SqT.of ha1, atI_nat (j := 0) rfl, rfl, _, rfl, ifN (a := "start") (by decide +kernel) ⟨no_line, fun l hl => k l _ _ (s1.upf hl) (Same.free s1 hl) upd_same .nil⟩⟩
  | row z => exact ⟨_, rfl, p, _, 0, _, rfl, rfl, SqT.of ha1, atI_nat (j := 0) rfl, rfl, _, rfl, ifN (a := "row") (by decide +kernel) ⟨no_line, fun l hl => k l _ _ (s1.upf hl) (Same.free s1 hl) upd_same .nil⟩⟩
noncomputable def notsT : Nat -> At -> At
 | 0, t => t
 | n + 1, t => .no (notsT n t)
theorem nots_dep (t : At) : ∀ n, (notsT n t).dep = t.dep + n
 | 0 => rfl
 | n + 1 => by show (notsT n t).dep + 1 = _; rw [nots_dep t n]; omega
theorem nots_many (t : At) : ∀ n, (notsT n t).many = t.many + n
 | 0 => rfl
 | n + 1 => by show 1 + (notsT n t).many = _; rw [nots_many t n]; omega
theorem nots_gd {t : At} (h : Gd t) : ∀ n, Gd (notsT n t)
 | 0 => h
 | n + 1 => nots_gd h n
noncomputable def spNots : Sp := fun vs H Q _ => ∃ (x : V) (t : At) (n : Nat), vs = [x, .int ((n : Nat) : Int)] /\ n <= 5000 /\ PdV false H x t.told /\ ∀ y H', Same H H' -> PdV false H' y (notsT n t).told -> Q y H'
theorem scNots : FnScope ["_law_told", "_law_many", "_law_k"] ["_law_told", "_law_many"] (defScope lNots) := ⟨rfl, rfl, rfl, by decide +kernel, rfl, by decide +kernel, by decide +kernel⟩
seal PSs PS PE PT PA PG PI PGs PIfs in
theorem ok_nots {f : Addr} {fd : FuncData} (D : Df K mg "_law_nots" lNots f fd) (T : Txt mg) : FnOk P w K mg base CX0 1 f fd ["_law_told", "_law_many"] spNots := by
 refine D.F.ok scNots (fun vs H Q E h => ?_) (fun cdv A outer s H vs Q E hr h => ?_)
 ·obtain ⟨x, t, n, rfl, _⟩ := h
  rfl
 ·obtain ⟨x, t, n, rfl, hn, hp, k⟩ := h
  refine ⟨_, pss_cons (ps_for PassesOwn.never rfl (pi_range1 rfl T.range (pa_cons (pv 1) pa_nil)) (pg_name (i := 2) scNots.nd rfl (Or.inl rfl))
    (pss_one (ps_set (i := 0) scNots.nd rfl (Or.inl rfl) (pe_tup (pa_cons pe_str (pa_cons (pv 0) pa_nil))))))
   (pss_one (ps_ret (pv 0))), ?_⟩
  refine ⟨_, rfl, _, rfl, by omega, by omega, for_range (fun i σ H' => ∃ (y : V) (o : Option V), σ = [some y, some (.int ((n : Nat) : Int)), o] /\ Same H H' /\ PdV false H' y (notsT i t).told) ?_ ?_ ?_⟩
  ·exact ⟨x, none, rfl, Same.refl H, hp⟩
  ·rintro i σ H' hi ⟨y, o, rfl, sm, hy⟩
   exact ⟨_, rfl, two_line, fun q hq => ⟨_, _, rfl, sm.upf hq, .tup upd_same (.cons (.str _) (.cons (hy.same (same_upd hq)) .nil))⟩⟩
  ·rintro σ H' ⟨y, o, rfl, sm, hy⟩
   exact ⟨_, rfl, k y H' sm (by simpa using hy)⟩
noncomputable def wideT : Nat -> Nat -> At -> At
 | 0, _, t => t
 | j + 1, k, t => if k <= 1 then t else .both (wideT j (k / 2) t) (wideT j (k - k / 2) t)
theorem wide_one (j : Nat) (t : At) : wideT j 1 t = t := by cases j <;> rfl
theorem wide_many (t : At) : ∀ j k, 1 <= k -> k <= 2 ^ j -> (wideT j k t).many + 1 = k * (t.many + 1)
 | 0, k, h1, h2 => by
  have : k = 1 := by simp at h2; omega
  subst this
  show t.many + 1 = _
  omega
 | j + 1, k, h1, h2 => by
  rw [Nat.pow_succ] at h2
  unfold wideT
  by_cases h : k <= 1
  ·have : k = 1 := by omega
   subst this
   rw [if_pos (Nat.le_refl 1)]
   omega
  ·rw [if_neg h]
   show 1 + ((wideT j (k / 2) t).many + (wideT j (k - k / 2) t).many) + 1 = _
   have e1 := wide_many t j (k / 2) (by omega) (by omega)
   have e2 := wide_many t j (k - k / 2) (by omega) (by omega)
   have e3 : k * (t.many + 1) = k / 2 * (t.many + 1) + (k - k / 2) * (t.many + 1) := by rw [<- Nat.add_mul]; congr 1; omega
   omega
theorem wide_dep (t : At) : ∀ j k, (wideT j k t).dep <= t.dep + j
 | 0, k => Nat.le_refl _
 | j + 1, k => by
  unfold wideT
  by_cases h : k <= 1
  ·rw [if_pos h]; omega
  ·rw [if_neg h]
   show max (wideT j (k / 2) t).dep (wideT j (k - k / 2) t).dep + 1 <= _
   have e1 := wide_dep t j (k / 2)
   have e2 := wide_dep t j (k - k / 2)
   omega
theorem wide_gd {t : At} (h : Gd t) : ∀ j k, Gd (wideT j k t)
 | 0, k => h
 | j + 1, k => by
  unfold wideT
  by_cases q : k <= 1
  ·rw [if_pos q]; exact h
  ·rw [if_neg q]; exact ⟨wide_gd h j _, wide_gd h j _⟩
noncomputable def spWide (j : Nat) : Sp := fun vs H Q _ => ∃ (x : V) (t : At) (k : Nat) (i : Int), vs = [.int i, x] /\ i = (k : Int) /\ 1 <= k /\ k <= 2 ^ j /\ PdV false H x t.told /\ ∀ y H', Same H H' -> PdV false H' y (wideT j k t).told -> Q y H'
noncomputable def spWd : Nat -> Sp
 | 0 => fun _ _ _ _ => False
 | j + 1 => spWide j
theorem scWide : FnScope ["_law_many", "_law_plain_here"] ["_law_many", "_law_plain_here"] (defScope lWide) := ⟨rfl, rfl, rfl, by decide +kernel, rfl, by decide +kernel, by decide +kernel⟩
seal PSs PS PE PT PA PG PI PGs PIfs in
theorem ok_wide1 {f : Addr} {fd : FuncData} (D : Df K mg "_law_wide" lWide f fd) (j : Nat) (GW : FnOk P w K mg base CX0 j f fd ["_law_many", "_law_plain_here"] (spWd j)) : FnOk P w K mg base CX0 (j + 1) f fd ["_law_many", "_law_plain_here"] (spWide j) := by
 have bW := D.F.binds (ps := ["_law_many", "_law_plain_here"]) fun _ _ _ _ _ _ us hl => us2 (fun _ _ => rfl) us hl
 refine D.F.ok scWide (fun vs H Q E h => ?_) (fun cdv A outer s H vs Q E hr h => ?_)
 ·obtain ⟨x, t, k, i, rfl, _⟩ := h
  rfl
 ·obtain ⟨x, t, k, i, rfl, rfl, hk, hj, hp, kk⟩ := h
  refine ⟨_, pss_cons (ps_if (pt_cmpR op_eq (pv 0) pe_int (nomark _)) (pss_one (ps_ret (pv 1))) pss_nil)
   (pss_one (ps_ret (pe_tup (pa_cons pe_str (pa_cons (pe_call GW hr rfl D.m D.F.kp bW .nil pass0 (pa_cons (pe_op op_fdiv (pv 0) pe_int) (pa_cons (pv 1) pa_nil)))
    (pa_cons (pe_call GW hr rfl D.m D.F.kp bW .nil pass0 (pa_cons (pe_op op_sub (pv 0) (pe_op op_fdiv (pv 0) pe_int)) (pa_cons (pv 1) pa_nil))) pa_nil)))))), ?_⟩
  refine ⟨_, rfl, rfl, _, rfl, ?_⟩
  by_cases h1 : k = 1
  ·subst h1
   rw [wide_one] at kk
   exact iteT ⟨_, rfl, kk x H (Same.refl H) hp⟩
  ·have hne : decide (V.int ((k : Nat) : Int) = V.int 1) = false := decide_eq_false (fun z => by have := V.int.inj z; omega)
   rw [hne]
   match j, GW, hj, kk with
   | 0, _, hj, _ => exact absurd hj (by simp; omega)
   | j + 1, _, hj, kk =>
    rw [Nat.pow_succ] at hj
    refine iteF ⟨_, rfl, _, _, rfl, rfl, ⟨by decide, by decide⟩, _, rfl, x, t, k / 2, _, rfl, by omega, by omega, by omega, hp, fun y1 H1 s1 p1 => ?_⟩
    refine ⟨_, rfl, _, rfl, _, _, rfl, rfl, ⟨by decide, by decide⟩, _, _, rfl, rfl, _, rfl, x, t, k - k / 2, _, rfl, by omega, by omega, by omega, hp.same s1, fun y2 H2 s2 p2 => ?_⟩
    refine ⟨three_line, fun q hq => kk _ _ ((s1.trans s2).upf hq) ?_⟩
    have e : wideT (j + 1) k t = .both (wideT j (k / 2) t) (wideT j (k - k / 2) t) := if_neg (by omega)
    rw [e]
    exact .tup upd_same (.cons (.str _) (.cons ((p1.same s2).same (same_upd hq)) (.cons (p2.same (same_upd hq)) .nil)))
theorem ok_wide {f : Addr} {fd : FuncData} (D : Df K mg "_law_wide" lWide f fd) : ∀ j : Nat, FnOk P w K mg base CX0 (j + 1) f fd ["_law_many", "_law_plain_here"] (spWide j)
 | 0 => ok_wide1 D 0 ok_none
 | j + 1 => ok_wide1 D (j + 1) (ok_wide D j)
end
theorem wd_ok {z : Str} (h : Wd z) : PyData.strOk z = true := by
 have h' : (decide (1 <= z.length) && decide (z.length <= 2000) && z.cps.toList.all isS) = true := h
 rw [Bool.and_eq_true] at h'
 unfold PyData.strOk
 rw [<- Array.all_toList]
 refine List.all_eq_true.mpr fun c hc => ?_
 have := isS_lt (List.all_eq_true.mp h'.2 c hc)
 exact decide_eq_true (by omega)
theorem nm_ok (t : At) : PyData.strOk t.nm = true := by
 cases t with
 | word z => exact (show PyData.strOk "word" = true by decide +kernel)
 | start z => exact (show PyData.strOk "start" = true by decide +kernel)
 | row z => exact (show PyData.strOk "row" = true by decide +kernel)
 | near a b n => exact (show PyData.strOk "near" = true by decide +kernel)
 | both a b => exact (show PyData.strOk "both" = true by decide +kernel)
 | either a b => exact (show PyData.strOk "either" = true by decide +kernel)
 | no a => exact (show PyData.strOk "not" = true by decide +kernel)
theorem lay_strs : ∀ {zs : List Str}, (∀ z ∈ zs, Wd z) -> PyData.canLayAll0 (zs.map .str) = true
 | [], _ => rfl
 | z :: zs, h => by
  show (PyData.strOk z && PyData.canLayAll0 (zs.map .str)) = true
  rw [wd_ok (h z (by simp)), lay_strs fun y hy => h y (by simp [hy])]
  rfl
theorem lay_told : ∀ {t : At}, Gd t -> t.told.canLay0 = true
 | .word z, h => by
  show (PyData.strOk (At.word z).nm && (PyData.strOk z && true)) = true
  rw [nm_ok, wd_ok h]
  rfl
 | .start z, h => by
  show (PyData.strOk (At.start z).nm && (PyData.strOk z && true)) = true
  rw [nm_ok, wd_ok h]
  rfl
 | .row zs, h => by
  show (PyData.strOk (At.row zs).nm && (PyData.canLayAll0 (zs.map .str) && true)) = true
  rw [nm_ok, lay_strs h.2.2]
  rfl
 | .near a b n, h => by
  show (PyData.strOk (At.near a b n).nm && (a.told.canLay0 && (b.told.canLay0 && (true && true)))) = true
  rw [nm_ok, lay_told h.2.2.1, lay_told h.2.2.2]
  rfl
 | .both a b, h => by
  show (PyData.strOk (At.both a b).nm && (a.told.canLay0 && (b.told.canLay0 && true))) = true
  rw [nm_ok, lay_told h.1, lay_told h.2]
  rfl
 | .either a b, h => by
  show (PyData.strOk (At.either a b).nm && (a.told.canLay0 && (b.told.canLay0 && true))) = true
  rw [nm_ok, lay_told h.1, lay_told h.2]
  rfl
 | .no a, h => by
  show (PyData.strOk (At.no a).nm && (a.told.canLay0 && true)) = true
  rw [nm_ok, lay_told (t := a) h]
  rfl
theorem lay_tolds : ∀ {ts : List At}, (∀ t ∈ ts, Gd t) -> (PyData.list (ts.map At.told)).canLay0 = true
 | [], _ => rfl
 | t :: ts, h => by
  show (t.told.canLay0 && PyData.canLayAll0 (ts.map At.told)) = true
  rw [lay_told (h t (by simp))]
  exact lay_tolds (ts := ts) fun y hy => h y (by simp [hy])
theorem Gd.kids : ∀ {t : At}, Gd t -> ∀ k ∈ t.kids, Gd k
 | .near a b n, h, k, hk => by
  have : k = a \/ k = b := by simpa [At.kids] using hk
  rcases this with rfl | rfl
  ·exact h.2.2.1
  ·exact h.2.2.2
 | .both a b, h, k, hk => by
  have : k = a \/ k = b := by simpa [At.kids] using hk
  rcases this with rfl | rfl
  ·exact h.1
  ·exact h.2
 | .either a b, h, k, hk => by
  have : k = a \/ k = b := by simpa [At.kids] using hk
  rcases this with rfl | rfl
  ·exact h.1
  ·exact h.2
 | .no a, h, k, hk => by
  have : k = a := by simpa [At.kids] using hk
  rw [this]
  exact h
 | .word _, _, k, hk => by simp [At.kids] at hk
 | .start _, _, k, hk => by simp [At.kids] at hk
 | .row _, _, k, hk => by simp [At.kids] at hk
theorem eqv_nil (ts : List At) : PyData.eqv (.list (ts.map At.told)) (.list []) = ts.isEmpty := by cases ts <;> rfl
theorem nm_no_leaves {t : At} (h : t.nm = "not") : t.leaves = [] := by
 cases t with
 | no a => rfl
 | word z => exact absurd h (show ¬ ("word" : Str) = "not" by decide +kernel)
 | start z => exact absurd h (show ¬ ("start" : Str) = "not" by decide +kernel)
 | row z => exact absurd h (show ¬ ("row" : Str) = "not" by decide +kernel)
 | near a b n => exact absurd h (show ¬ ("near" : Str) = "not" by decide +kernel)
 | both a b => exact absurd h (show ¬ ("both" : Str) = "not" by decide +kernel)
 | either a b => exact absurd h (show ¬ ("either" : Str) = "not" by decide +kernel)
theorem leaf_leaves {t : At} (h : ¬ t.nm = "not") (e : (decide (t.nm = "near") || t.kids.isEmpty) = true) : t.leaves = [t] := by
 cases t with
 | no a => exact absurd rfl h
 | word z => rfl
 | start z => rfl
 | row z => rfl
 | near a b n => rfl
 | both a b => exact absurd e (by rw [decide_eq_false (show ¬ (At.both a b).nm = "near" from show ¬ ("both" : Str) = "near" by decide +kernel)]; simp [At.kids])
 | either a b => exact absurd e (by rw [decide_eq_false (show ¬ (At.either a b).nm = "near" from show ¬ ("either" : Str) = "near" by decide +kernel)]; simp [At.kids])
theorem two_leaves {t : At} (h : ¬ t.nm = "not") (e : (decide (t.nm = "near") || t.kids.isEmpty) = false) (g : Gd t) : ∃ a b, t.rest = [a.told, b.told] /\ t.leaves = a.leaves ++ b.leaves /\ a.dep + 1 <= t.dep /\ b.dep + 1 <= t.dep /\ t.many = 1 + (a.many + b.many) /\ Gd a /\ Gd b := by
 cases t with
 | no a => exact absurd rfl h
 | word z => exact absurd e (by simp [At.kids])
 | start z => exact absurd e (by simp [At.kids])
 | row z => exact absurd e (by simp [At.kids])
 | near a b n => exact absurd e (by rw [decide_eq_true (show (At.near a b n).nm = "near" from rfl)]; simp)
 | both a b => exact ⟨a, b, rfl, rfl, by show _ <= max a.dep b.dep + 1; omega, by show _ <= max a.dep b.dep + 1; omega, rfl, g.1, g.2⟩
 | either a b => exact ⟨a, b, rfl, rfl, by show _ <= max a.dep b.dep + 1; omega, by show _ <= max a.dep b.dep + 1; omega, rfl, g.1, g.2⟩
section
variable {P : Program} {w : World} {K : PySem.W.Frag} {mg : Str -> Option Value} {base : Heap}
noncomputable def spLL (n : Nat) : Sp := fun vs H Q _ => ∃ (x : V) (t : At), vs = [x] /\ PdV false H x t.told /\ Gd t /\ t.dep <= n /\ t.many <= 1000 /\ ∀ l xs H', Same H H' -> H l = none -> H' l = some (.lst xs) -> PdVs false H' xs (t.leaves.map At.told) -> Q (.ref l) H'
noncomputable def spL (n : Nat) : Sp := match n with
 | 0 => fun _ _ _ _ => False
 | n + 1 => spLL n
theorem scLL : FnScope ["_law_told"] ["_law_told"] (defScope lLeaves) := ⟨rfl, rfl, rfl, by decide +kernel, rfl, by decide +kernel, by decide +kernel⟩
noncomputable def tNk (K : PySem.W.Frag) : TT := fun σ H Q => ∃ (x : V) (t : At), σ[0]? = some (some x) /\ PdV false H x t.told /\ Gd t /\ ∀ H', Same H H' -> Q (decide (t.nm = "near") || t.kids.isEmpty) H'
seal PSs PS PE PT PA PG PI PGs PIfs in
theorem ok_ll1 {f fk : Addr} {fd fdk : FuncData} (D : Df K mg "_law_leaves" lLeaves f fd) (DK : Df K mg "_law_kids" lKids fk fdk) (n : Nat) (GL : FnOk P w K mg base CX0 (n + 1) f fd ["_law_told"] (spL n)) : FnOk P w K mg base CX0 (n + 2) f fd ["_law_told"] (spLL n) := by
 have GK : FnOk P w K mg base CX0 (n + 1) fk fdk ["_law_told"] spLK := (ok_lk DK).mono (by omega)
 have bK := binds1 (p := "_law_told") DK.F fun _ _ _ _ _ _ _ => rfl
 have bL := binds1 (p := "_law_told") D.F fun _ _ _ _ _ _ _ => rfl
 have hz : (sizeLine : Nat) = 16777216 := sizeLine_eq
 refine D.F.ok scLL (fun vs H Q E h => ?_) (fun cdv A outer s H vs Q E hr h => ?_)
 ·obtain ⟨x, t, rfl, _⟩ := h
  rfl
 ·obtain ⟨x, t, rfl, hp, gd, hd, hm, k⟩ := h
  refine ⟨_, pss_cons (ps_if (pt_cmpR op_eq (pe_ix ix_tup (pv 0) pe_int (fun _ _ => rfl)) pe_str (nomark _)) (pss_one (ps_ret (pe_lst pa_nil))) pss_nil)
   (pss_cons (ps_if (PT.imp (t' := tNk K) (PW.pt (pw_or (pt_cmpR op_eq (pe_ix ix_tup (pv 0) pe_int (fun _ _ => rfl)) pe_str (nomark _)) (pw_or1 (pt_cmpR (op_eqD hr.units100) (pe_call GK hr rfl DK.m DK.F.kp bK .nil pass0 (pa_cons (pv 0) pa_nil)) (pe_lst pa_nil) (nomark _))))) ?mC)
    (pss_one (ps_ret (pe_lst (pa_cons (pv 0) pa_nil)))) pss_nil)
   (pss_one (ps_ret (pe_op op_cat (pe_call GL hr rfl D.m D.F.kp bL .nil pass0 (pa_cons (pe_ix ix_tup (pv 0) pe_int (fun _ _ => rfl)) pa_nil)) (pe_call GL hr rfl D.m D.F.kp bL .nil pass0 (pa_cons (pe_ix ix_tup (pv 0) pe_int (fun _ _ => rfl)) pa_nil)))))), ?_⟩
  rotate_left
  ·obtain ⟨p, xs, rfl, ha, hs⟩ := (t.told_eq ▸ hp).t0
   refine ⟨_, rfl, p, _, 0, _, rfl, rfl, SqT.of ha, atI_nat (j := 0) rfl, rfl, _, rfl, ?_⟩
   have own : t.leaves = [t] -> ∀ H1, Same H H1 -> ∀ l, H1 l = none -> Q (.ref l) (upd H1 l (.lst [.ref p])) := fun e H1 s1 l hl => k l _ _ (s1.upf hl) (Same.free s1 hl) upd_same (by rw [e]; exact .cons (hp.same (s1.upf hl)) .nil)
   by_cases e3 : t.nm = "not"
   ·exact ifS e3 ⟨no_line, fun l hl => k l _ _ (same_upd hl) hl upd_same (by rw [nm_no_leaves e3]; exact .nil)⟩
   refine ifN e3 ⟨_, t, rfl, hp, gd, fun H1 s1 => ?_⟩
   cases e2 : (decide (t.nm = "near") || t.kids.isEmpty) with
   | true => exact iteT ⟨_, rfl, one_line, own (leaf_leaves e3 e2) H1 s1⟩
   | false =>
    obtain ⟨a, b, er, el, d1, d2, m1, g1, g2⟩ := two_leaves e3 e2 gd
    rw [er] at hs
    obtain ⟨x1, x2, rfl, h1, h2⟩ := PdVs.two hs
    have ha1 := s1 _ _ ha
    match n, GL, hd with
    | 0, _, hd => omega
    | n + 1, _, hd =>
     refine iteF ⟨_, rfl, p, _, 1, x1, rfl, rfl, SqT.of ha1, atI_nat (j := 1) rfl, x1, a, rfl, h1.same s1, g1, by omega, by omega, fun l1 ys1 H2 s2 fl1 el1 q1 => ?_⟩
     refine ⟨_, rfl, p, _, 2, x2, rfl, rfl, SqT.of (s2 _ _ ha1), atI_nat (j := 2) rfl, x2, b, rfl, (h2.same s1).same s2, g2, by omega, by omega, fun l2 ys2 H3 s3 fl2 el2 q2 => ?_⟩
     have n1 := q1.len
     have n2 := q2.len
     have v1 := At.leaves_le a
     have v2 := At.leaves_le b
     rw [List.length_map] at n1 n2
     refine ⟨l1, l2, ys1, ys2, rfl, rfl, s3 _ _ el1, el2, by omega, fun l hl => ?_⟩
     have s4 := ((s1.trans s2).trans s3).upf (o := .lst (ys1 ++ ys2)) hl
     exact k l _ _ s4 (Same.free ((s1.trans s2).trans s3) hl) upd_same (by rw [el, List.map_append]; exact PdVs.cat (PdVs.same (s3.upf hl) q1) (PdVs.same (same_upd hl) q2))
  case mC =>
   rintro σ H Q ⟨x, t, e0, hp, gd, k⟩
   obtain ⟨p, xs, rfl, ha, hs⟩ := (t.told_eq ▸ hp).t0
   refine ⟨_, e0, p, _, 0, _, rfl, rfl, SqT.of ha, atI_nat (j := 0) rfl, rfl, _, rfl, ?_⟩
   by_cases h : t.nm = "near"
   ·rw [decide_eq_true h, Bool.true_or] at k
    exact ifS h (k H (Same.refl H))
   ·rw [decide_eq_false h, Bool.false_or] at k
    refine ifN h ⟨_, e0, _, t, rfl, hp, fun l xs H' s1 fl el hk => ⟨no_line, fun q hq => ?_⟩⟩
    refine ⟨.list (t.kids.map At.told), .list [], .lst (SqL.of (same_upd hq _ _ el)) (PdVs.dt (PdVs.same (same_upd hq) hk)), .lst (SqL.of upd_same) .nil, lay_tolds gd.kids, rfl, Nat.le_trans (Nat.min_le_right _ _) (by decide), _, rfl, ?_⟩
    rw [eqv_nil]
    exact k _ (s1.upf hq)
theorem ok_ll {f fk : Addr} {fd fdk : FuncData} (D : Df K mg "_law_leaves" lLeaves f fd) (DK : Df K mg "_law_kids" lKids fk fdk) : ∀ n : Nat, FnOk P w K mg base CX0 (n + 2) f fd ["_law_told"] (spLL n)
 | 0 => ok_ll1 D DK 0 ok_none
 | n + 1 => ok_ll1 D DK (n + 1) (ok_ll D DK n)
end
theorem f_nm {z : Str} (h : z.length <= 9) : fitD (.str z) := by show z.length <= 5000; omega
theorem bad_n {d : PyData} (h : Bad d) : Bad (.tuple [.str "not", d]) := bad_no ⟨f_nm (by decide +kernel), h.1, trivial⟩ rfl (nm_of len_o) h.2
theorem bad_l {z : Str} {d e : PyData} (hz : z = "both" \/ z = "either") (h : Bad d) (f : fitD e) : Bad (.tuple [.str z, d, e]) := by
 rcases hz with rfl | rfl
 ·exact bad_both ⟨f_nm (by decide +kernel), h.1, f, trivial⟩ rfl rfl (nm_of len_b) (.inl rfl) (.inl h.2)
 ·exact bad_both ⟨f_nm (by decide +kernel), h.1, f, trivial⟩ rfl rfl (nm_of len_e) (.inr rfl) (.inl h.2)
theorem bad_r {z : Str} {d e : PyData} (hz : z = "both" \/ z = "either") (h : Bad e) (f : fitD d) : Bad (.tuple [.str z, d, e]) := by
 rcases hz with rfl | rfl
 ·exact bad_both ⟨f_nm (by decide +kernel), f, h.1, trivial⟩ rfl rfl (nm_of len_b) (.inl rfl) (.inr h.2)
 ·exact bad_both ⟨f_nm (by decide +kernel), f, h.1, trivial⟩ rfl rfl (nm_of len_e) (.inr rfl) (.inr h.2)
theorem sp_cases {t : At} (h : ¬ t.nm = "near") (e : t.kids ≠ []) (g : Gd t) : (∃ a, t = .no a) \/ (∃ a b, t.rest = [a.told, b.told] /\ (t.nm = "both" \/ t.nm = "either") /\ ¬ t.nm = "not" /\ a.dep + 1 <= t.dep /\ b.dep + 1 <= t.dep /\ Gd a /\ Gd b) := by
 cases t with
 | no a => exact .inl ⟨a, rfl⟩
 | word z => exact absurd rfl e
 | start z => exact absurd rfl e
 | row z => exact absurd rfl e
 | near a b n => exact absurd rfl h
 | both a b => exact .inr ⟨a, b, rfl, .inl rfl, (show ¬ ("both" : Str) = "not" by decide +kernel), by show _ <= max a.dep b.dep + 1; omega, by show _ <= max a.dep b.dep + 1; omega, g.1, g.2⟩
 | either a b => exact .inr ⟨a, b, rfl, .inr rfl, (show ¬ ("either" : Str) = "not" by decide +kernel), by show _ <= max a.dep b.dep + 1; omega, by show _ <= max a.dep b.dep + 1; omega, g.1, g.2⟩
section
variable {P : Program} {w : World} {K : PySem.W.Frag} {mg : Str -> Option Value} {base : Heap} {C : Kn -> Addr}
noncomputable def spSp (n : Nat) : Sp := fun vs H Q _ => ∃ (x y : V) (t : At) (m : Int) (dy : PyData), vs = [x, .int m, y] /\ PdV false H x t.told /\ Gd t /\ t.dep <= n /\ PdV true H y dy /\ Bad dy /\ ∀ u d H', Same H H' -> PdV true H' u d -> Bad d -> Q u H'
noncomputable def spS (n : Nat) : Sp := match n with
 | 0 => fun _ _ _ _ => False
 | n + 1 => spSp n
noncomputable def tSp (K : PySem.W.Frag) : TT := fun σ H Q => ∃ (x : V) (t : At) (l : Addr) (xs : List V) (m : Int), σ[0]? = some (some x) /\ σ[1]? = some (some (.int m)) /\ σ[3]? = some (some (.ref l)) /\ PdV false H x t.told /\ Gd t /\ H l = some (.lst xs) /\ PdVs false H xs (t.kids.map At.told) /\
 ∀ (b : Bool) H', Same H H' -> (b = false -> ¬ t.nm = "near" /\ t.kids ≠ []) -> Q b H'
theorem scSp : FnScope ["_law_told", "_law_number_here", "_law_odd_here", "_law_kids_here"] ["_law_told", "_law_number_here", "_law_odd_here"] (defScope lSpoilt) := ⟨rfl, rfl, rfl, by decide +kernel, rfl, by decide +kernel, by decide +kernel⟩
seal PSs PS PE PT PA PG PI PGs PIfs in
theorem ok_sp1 {f fk : Addr} {fd fdk : FuncData} (D : Df K mg "_law_spoilt" lSpoilt f fd) (DK : Df K mg "_law_kids" lKids fk fdk) (n : Nat) (GS : FnOk P w K mg base CX0 (n + 1) f fd ["_law_told", "_law_number_here", "_law_odd_here"] (spS n)) : FnOk P w K mg base CX0 (n + 2) f fd ["_law_told", "_law_number_here", "_law_odd_here"] (spSp n) := by
 have GK : FnOk P w K mg base CX0 (n + 1) fk fdk ["_law_told"] spLK := (ok_lk DK).mono (by omega)
 have bK := binds1 (p := "_law_told") DK.F fun _ _ _ _ _ _ _ => rfl
 have bS := D.F.binds (ps := ["_law_told", "_law_number_here", "_law_odd_here"]) fun _ _ _ _ _ _ us hl => match us, hl with | [_, _, _], _ => rfl
 refine D.F.ok scSp (fun vs H Q E h => ?_) (fun cdv A outer s H vs Q E hr h => ?_)
 ·obtain ⟨x, y, t, m, dy, rfl, _⟩ := h
  rfl
 ·obtain ⟨x, y, t, m, dy, rfl, hp, gd, hd, hy, bd, k⟩ := h
  refine ⟨_, pss_cons (ps_set (i := 3) scSp.nd rfl (Or.inl rfl) (pe_call GK hr rfl DK.m DK.F.kp bK .nil pass0 (pa_cons (pv 0) pa_nil)))
   (pss_cons (ps_if (PT.imp (t' := tSp K) (PW.pt (pw_or (pt_cmpR op_eq (pe_ix ix_tup (pv 0) pe_int (fun _ _ => rfl)) pe_str (nomark _)) (pw_or (pt_cmpR (op_eqD hr.units100) (pv 3) (pe_lst pa_nil) (nomark _)) (pw_or1 (pt_cmpR op_eq (pe_op op_mod (pv 1) pe_int) pe_int (nomark _)))))) ?mC)
    (pss_one (ps_ret (pv 2))) pss_nil)
   (pss_cons (ps_if (pt_cmpR op_eq (pe_ix ix_tup (pv 0) pe_int (fun _ _ => rfl)) pe_str (nomark _)) (pss_one (ps_ret (pe_tup (pa_cons pe_str (pa_cons (pe_call GS hr rfl D.m D.F.kp bS .nil pass0 (pa_cons (pe_ix ix_tup (pv 0) pe_int (fun _ _ => rfl)) (pa_cons (pe_op op_fdiv (pv 1) pe_int) (pa_cons (pv 2) pa_nil)))) pa_nil))))) pss_nil)
   (pss_cons (ps_if (pt_cmpR op_eq (pe_op op_mod (pe_op op_fdiv (pv 1) pe_int) pe_int) pe_int (nomark _)) (pss_one (ps_ret (pe_tup (pa_cons (pe_ix ix_tup (pv 0) pe_int (fun _ _ => rfl)) (pa_cons (pe_call GS hr rfl D.m D.F.kp bS .nil pass0 (pa_cons (pe_ix ix_tup (pv 0) pe_int (fun _ _ => rfl)) (pa_cons (pe_op op_fdiv (pv 1) pe_int) (pa_cons (pv 2) pa_nil)))) (pa_cons (pe_ix ix_tup (pv 0) pe_int (fun _ _ => rfl)) pa_nil)))))) pss_nil)
   (pss_one (ps_ret (pe_tup (pa_cons (pe_ix ix_tup (pv 0) pe_int (fun _ _ => rfl)) (pa_cons (pe_ix ix_tup (pv 0) pe_int (fun _ _ => rfl)) (pa_cons (pe_call GS hr rfl D.m D.F.kp bS .nil pass0 (pa_cons (pe_ix ix_tup (pv 0) pe_int (fun _ _ => rfl)) (pa_cons (pe_op op_fdiv (pv 1) pe_int) (pa_cons (pv 2) pa_nil)))) pa_nil))))))))), ?_⟩
  rotate_left
  ·refine ⟨_, rfl, x, t, rfl, hp, fun l xs H1 s1 fl el q1 => ?_⟩
   refine ⟨x, t, l, xs, m, rfl, rfl, rfl, hp.same s1, gd, el, q1, fun b H2 s2 hb => ?_⟩
   have s12 := s1.trans s2
   cases b with
   | true => exact iteT ⟨_, rfl, k y dy H2 s12 (hy.same s12) bd⟩
   | false =>
    obtain ⟨h1, h2⟩ := hb rfl
    obtain ⟨p, ys, rfl, ha, hs⟩ := (t.told_eq ▸ hp).t0
    have ha2 := s12 _ _ ha
    refine iteF ⟨_, rfl, p, _, 0, _, rfl, rfl, SqT.of ha2, atI_nat (j := 0) rfl, rfl, _, rfl, ?_⟩
    rcases sp_cases h1 h2 gd with ⟨a, rfl⟩ | ⟨a, b, er, ez, en, d1, d2, g1, g2⟩
    ·obtain ⟨x1, rfl, p1⟩ := PdVs.one hs
     match n, GS, hd with
     | 0, _, hd => exact absurd hd (by show ¬ a.dep + 1 <= 0; omega)
     | n + 1, _, hd =>
      have hd' : a.dep + 1 <= n + 1 := hd
      exact ifS rfl ⟨_, rfl, p, _, 1, x1, rfl, rfl, SqT.of ha2, atI_nat (j := 1) rfl, _, rfl, _, _, rfl, rfl, ⟨by decide, by decide⟩, _, rfl, x1, y, a, _, dy, rfl, p1.same s12, gd, by omega, hy.same s12, bd, fun u d H3 s3 hu bu => ⟨two_line, fun q hq => k _ _ _ ((s12.trans s3).upf hq) (.tup upd_same (.cons (.str _) (.cons (hu.same (same_upd hq)) .nil))) (bad_n bu)⟩⟩
    ·rw [er] at hs
     obtain ⟨x1, x2, rfl, p1, p2⟩ := PdVs.two hs
     match n, GS, hd with
     | 0, _, hd => omega
     | n + 1, _, hd =>
      refine ifN en ⟨_, rfl, _, _, rfl, rfl, ⟨by decide, by decide⟩, _, _, rfl, rfl, (by show (0 : Int) < 2; decide), rfl, _, rfl, ?_⟩
      refine ite2 (fun _ => ?_) (fun _ => ?_)
      ·refine ⟨_, rfl, p, _, 0, _, rfl, rfl, SqT.of ha2, atI_nat (j := 0) rfl, _, rfl, p, _, 1, x1, rfl, rfl, SqT.of ha2, atI_nat (j := 1) rfl, _, rfl, _, _, rfl, rfl, ⟨by decide, by decide⟩, _, rfl, x1, y, a, _, dy, rfl, p1.same s12, g1, by omega, hy.same s12, bd, fun u d H3 s3 hu bu => ?_⟩
       refine ⟨_, rfl, p, _, 2, x2, rfl, rfl, SqT.of (s3 _ _ ha2), atI_nat (j := 2) rfl, three_line, fun q hq => ?_⟩
       exact k _ _ _ ((s12.trans s3).upf hq) (.tup upd_same (.cons (.str _) (.cons (hu.same (same_upd hq)) (.cons (PdV.any (p2.same ((s12.trans s3).upf hq))) .nil)))) (bad_l ez bu (fit_told g2))
      ·refine ⟨_, rfl, p, _, 0, _, rfl, rfl, SqT.of ha2, atI_nat (j := 0) rfl, _, rfl, p, _, 1, x1, rfl, rfl, SqT.of ha2, atI_nat (j := 1) rfl, _, rfl, p, _, 2, x2, rfl, rfl, SqT.of ha2, atI_nat (j := 2) rfl, _, rfl, _, _, rfl, rfl, ⟨by decide, by decide⟩, _, rfl, x2, y, b, _, dy, rfl, p2.same s12, g2, by omega, hy.same s12, bd, fun u d H3 s3 hu bu => ?_⟩
       refine ⟨three_line, fun q hq => ?_⟩
       exact k _ _ _ ((s12.trans s3).upf hq) (.tup upd_same (.cons (.str _) (.cons (PdV.any (p1.same ((s12.trans s3).upf hq))) (.cons (hu.same (same_upd hq)) .nil)))) (bad_r ez bu (fit_told g1))
  case mC =>
   rintro σ H Q ⟨x, t, l, xs, m, e0, e1, e3, hp, gd, el, q1, k⟩
   obtain ⟨p, ys, rfl, ha, hs⟩ := (t.told_eq ▸ hp).t0
   refine ⟨_, e0, p, _, 0, _, rfl, rfl, SqT.of ha, atI_nat (j := 0) rfl, rfl, _, rfl, ?_⟩
   by_cases h : t.nm = "near"
   ·exact ifS h (k true H (Same.refl H) fun z => by cases z)
   ·refine ifN h ⟨_, e3, no_line, fun q hq => ?_⟩
    refine ⟨.list (t.kids.map At.told), .list [], .lst (SqL.of (same_upd hq _ _ el)) (PdVs.dt (PdVs.same (same_upd hq) q1)), .lst (SqL.of upd_same) .nil, lay_tolds gd.kids, rfl, Nat.le_trans (Nat.min_le_right _ _) (by decide), _, rfl, ?_⟩
    rw [eqv_nil]
    cases hk : t.kids.isEmpty with
    | true => exact iteT (k true _ (same_upd hq) fun z => by cases z)
    | false =>
     refine iteF ⟨_, e1, _, _, rfl, rfl, (by show (0 : Int) < 4; decide), rfl, _, rfl, ?_⟩
     exact k _ _ (same_upd hq) fun _ => ⟨h, fun z => by rw [z] at hk; cases hk⟩
theorem ok_sp {f fk : Addr} {fd fdk : FuncData} (D : Df K mg "_law_spoilt" lSpoilt f fd) (DK : Df K mg "_law_kids" lKids fk fdk) : ∀ n : Nat, FnOk P w K mg base CX0 (n + 2) f fd ["_law_told", "_law_number_here", "_law_odd_here"] (spSp n)
 | 0 => ok_sp1 D DK 0 ok_none
 | n + 1 => ok_sp1 D DK (n + 1) (ok_sp D DK n)
structure RX (K : PySem.W.Frag) (mg : Str -> Option Value) (CH CB o1 o2 o3 o4 o5 o6 o7 o8 p1 p2 p3 p4 : Addr) : Prop where
 h : mg "HallError" = some (.ref CH)
 b : mg "BadAsk" = some (.ref CB)
 m1 : mg "BadKept" = some (.ref o1)
 m2 : mg "BadKey" = some (.ref o2)
 m3 : mg "BadNumber" = some (.ref o3)
 m4 : mg "BadParts" = some (.ref o4)
 m5 : mg "BadRow" = some (.ref o5)
 m6 : mg "BadSpan" = some (.ref o6)
 m7 : mg "BadText" = some (.ref o7)
 m8 : mg "BadWord" = some (.ref o8)
 n1 : mg "NoAsk" = some (.ref p1)
 n2 : mg "NoLine" = some (.ref p2)
 n3 : mg "NoText" = some (.ref p3)
 n4 : mg "Twice" = some (.ref p4)
 x : PySem.W.ExcCls K CB
 e : PySem.W.exmOne K (.ref CB) (.ref CH) = some true
 o : PySem.W.kitAny K (.ref CB) ([o1, o2, o3, o4, o5, o6, o7, o8].map Value.ref) = some false
 p : PySem.W.kitAny K (.ref CB) ([p1, p2, p3, p4].map Value.ref) = some false
 k : PySem.W.kitOne K (.ref CB) (.ref CB) = some true
 v : PySem.W.kitOne K (.ref CB) (.type "ValueError") = some true
noncomputable def spRef : Sp := fun vs H Q _ => ∃ (x : V) (d : PyData), vs = [x] /\ PdV true H x d /\ fitD d /\ ofD d = none /\ ∀ H', Same H H' -> Q (.bl true) H'
theorem scRef : FnScope ["_law_told", "e", "_law_other"] ["_law_told"] (defScope lRefused) := ⟨rfl, rfl, rfl, by decide +kernel, rfl, by decide +kernel, by decide +kernel⟩
variable {CH CB o1 o2 o3 o4 o5 o6 o7 o8 p1 p2 p3 p4 : Addr}
seal PSs PS PE PT PA PG PI PGs PIfs in
theorem ok_ref {f fo : Addr} {fd fdo : FuncData} (D : Df K mg "_law_refused" lRefused f fd) (X : RX K mg CH CB o1 o2 o3 o4 o5 o6 o7 o8 p1 p2 p3 p4) (DO : Df K mg "ask_of" sAskOf fo fdo) (GO : FnOk P w K mg base (CX1 P w) 14 fo fdo ["told"] (spAskOf C CB)) (T : Txt mg) :
  FnOk P w K mg base CX0 15 f fd ["_law_told"] spRef := by
 have bO := binds1 (p := "told") DO.F fun _ _ _ _ _ _ _ => rfl
 refine D.F.ok scRef (fun vs H Q E h => ?_) (fun cdv A outer s H vs Q E hr h => ?_)
 ·obtain ⟨x, d, rfl, _⟩ := h
  rfl
 ·obtain ⟨x, d, rfl, hp, hf, ho, kk⟩ := h
  refine ⟨_, pss_cons (ps_try (CH := CH) (i := 1) (fun σ cls _ H' => σ = [some x, none, none] /\ Same H H' /\ cls = .ref CB) rfl rfl scRef.nd rfl rfl rfl X.h
    (fun p xe hx => pss_one (ps_expr (pe_callS GO hr rfl DO.m DO.F.kp bO .nil hx (pa_cons (pv 0) pa_nil))))
    (fun ea p => pss_cons (ps_set (i := 2) scRef.nd rfl (Or.inl rfl) (pe_callB (call_isiEK (K := K) rfl) rfl T.isi b_isi (pa_cons (pv 1) (pa_cons (pe_tup (pa_cons (pe_glob (v := .ref o1) rfl X.m1 rfl) (pa_cons (pe_glob (v := .ref o2) rfl X.m2 rfl) (pa_cons (pe_glob (v := .ref o3) rfl X.m3 rfl) (pa_cons (pe_glob (v := .ref o4) rfl X.m4 rfl)
      (pa_cons (pe_glob (v := .ref o5) rfl X.m5 rfl) (pa_cons (pe_glob (v := .ref o6) rfl X.m6 rfl) (pa_cons (pe_glob (v := .ref o7) rfl X.m7 rfl) (pa_cons (pe_glob (v := .ref o8) rfl X.m8 rfl) pa_nil))))))))) pa_nil))))
     (pss_cons (ps_set (i := 2) scRef.nd rfl (Or.inl rfl) (pe_or (pv 2) (pe_one (pe_callB (call_isiEK (K := K) rfl) rfl T.isi b_isi (pa_cons (pv 1) (pa_cons (pe_tup (pa_cons (pe_glob (v := .ref p1) rfl X.n1 rfl) (pa_cons (pe_glob (v := .ref p2) rfl X.n2 rfl) (pa_cons (pe_glob (v := .ref p3) rfl X.n3 rfl) (pa_cons (pe_glob (v := .ref p4) rfl X.n4 rfl) pa_nil))))) pa_nil))))))
     (pss_one (ps_ret (pe_and (pe_callB (call_isiEK (K := K) rfl) rfl T.isi b_isi (pa_cons (pv 1) (pa_cons (pe_glob (v := .ref CB) rfl X.b rfl) pa_nil)))
      (pe_and (pe_callB (call_isiEK (K := K) rfl) rfl T.isi b_isi (pa_cons (pv 1) (pa_cons (pe_bltn (v := .ty "ValueError") rfl T.val b_val rfl) pa_nil))) (pe_one (pe_not (pv 2)))))))))
   ) (pss_one (ps_ret pe_bl)), ?_⟩
  refine ⟨?_, ?_⟩
  ·exact ⟨_, rfl, x, d, rfl, hp, hf, fun t ht => (by rw [ho] at ht; cases ht), fun _ H' s' => ⟨rfl, s', rfl⟩⟩
  ·rintro σ' cls H' ea ⟨rfl, sm, rfl⟩ hn
   have hH : upd H' ea (ExcO ea CB) ea = some (ExcO ea CB) := upd_same
   have sE : Same H (upd H' ea (ExcO ea CB)) := sm.upf hn
   refine ⟨_, rfl, X.e, ?_⟩
   generalize upd H' ea (ExcO ea CB) = H1 at hH sE ⊢
   refine ⟨_, rfl, (by show 8 <= sizeLine; decide), fun q hq => ⟨ea, CB, _, _, rfl, same_upd hq _ _ hH, X.x, .inr (.inr ⟨q, [o1, o2, o3, o4, o5, o6, o7, o8], rfl, upd_same, X.o⟩), ?_⟩⟩
   have s2 : Same H1 (upd H1 q (.tup ([o1, o2, o3, o4, o5, o6, o7, o8].map V.ref))) := same_upd hq
   refine ⟨_, rfl, _, rfl, iteF ⟨_, rfl, (by show 4 <= sizeLine; decide), fun r hr' => ⟨ea, CB, _, _, rfl, same_upd hr' _ _ (s2 _ _ hH), X.x, .inr (.inr ⟨r, [p1, p2, p3, p4], rfl, upd_same, X.p⟩), ?_⟩⟩⟩
   have hH3 := same_upd (o := .tup ([p1, p2, p3, p4].map V.ref)) hr' _ _ (s2 _ _ hH)
   refine ⟨_, rfl, ea, CB, _, _, rfl, hH3, X.x, .inr (.inl ⟨_, rfl, X.k⟩), _, rfl, iteT ⟨_, rfl, ea, CB, _, _, rfl, hH3, X.x, .inl ⟨_, rfl, X.v⟩, _, rfl, iteT ⟨_, rfl, _, rfl, kk _ ((sE.trans s2).upf hr')⟩⟩⟩
end
mutual
noncomputable def okD : PyData -> Prop
 | .tuple ds => ds.length <= 100 /\ okDs ds
 | _ => True
noncomputable def okDs : List PyData -> Prop
 | [] => True
 | d :: ds => okD d /\ okDs ds
end
theorem okDs_get : ∀ {ds : List PyData} {i : Nat} {d : PyData}, okDs ds -> ds[i]? = some d -> okD d
 | _ :: _, 0, _, h, e => by
  simp at e
  rw [<- e]
  exact h.1
 | _ :: ds, i + 1, _, h, e => okDs_get (ds := ds) (i := i) h.2 (by simpa using e)
theorem okDs_str : ∀ zs : List Str, okDs (zs.map .str)
 | [] => trivial
 | _ :: zs => ⟨trivial, okDs_str zs⟩
theorem ok_data : ∀ {t : At}, Gd t -> okD t.told
 | .word z, h => ⟨by show 2 <= 100; decide, trivial, trivial, trivial⟩
 | .start z, h => ⟨by show 2 <= 100; decide, trivial, trivial, trivial⟩
 | .row zs, h => ⟨by show 2 <= 100; decide, trivial, ⟨by rw [List.length_map]; have := h.2.1; omega, okDs_str zs⟩, trivial⟩
 | .near a b n, h => ⟨by show 4 <= 100; decide, trivial, ok_data h.2.2.1, ok_data h.2.2.2, trivial, trivial⟩
 | .both a b, h => ⟨by show 3 <= 100; decide, trivial, ok_data h.1, ok_data h.2, trivial⟩
 | .either a b, h => ⟨by show 3 <= 100; decide, trivial, ok_data h.1, ok_data h.2, trivial⟩
 | .no a, h => ⟨by show 2 <= 100; decide, trivial, ok_data (t := a) h, trivial⟩
theorem depth_get : ∀ {ds : List PyData} {i : Nat} {d : PyData}, ds[i]? = some d -> d.depth <= PyData.depthAll ds
 | x :: ds, 0, d, e => by
  have : x = d := by simpa using e
  rw [this]
  exact Nat.le_max_left _ _
 | x :: ds, i + 1, d, e => Nat.le_trans (depth_get (ds := ds) (i := i) (by simpa using e)) (Nat.le_max_right _ _)
theorem depth_strs : ∀ zs : List Str, PyData.depthAll (zs.map .str) = 0
 | [] => rfl
 | z :: zs => by show max 0 (PyData.depthAll (zs.map .str)) = 0; rw [depth_strs zs]; rfl
theorem depth_told : ∀ t : At, t.told.depth <= t.dep + 2
 | .word z => by show max 0 (max 0 0) + 1 <= 0 + 2; decide
 | .start z => by show max 0 (max 0 0) + 1 <= 0 + 2; decide
 | .row zs => by
  show max 0 (max (PyData.depthAll (zs.map .str) + 1) 0) + 1 <= 0 + 2
  rw [depth_strs]
  decide
 | .near a b n => by
  have h1 := depth_told a
  have h2 := depth_told b
  show max 0 (max a.told.depth (max b.told.depth (max 0 0))) + 1 <= max a.dep b.dep + 1 + 2
  omega
 | .both a b => by
  have h1 := depth_told a
  have h2 := depth_told b
  show max 0 (max a.told.depth (max b.told.depth 0)) + 1 <= max a.dep b.dep + 1 + 2
  omega
 | .either a b => by
  have h1 := depth_told a
  have h2 := depth_told b
  show max 0 (max a.told.depth (max b.told.depth 0)) + 1 <= max a.dep b.dep + 1 + 2
  omega
 | .no a => by
  have h1 := depth_told a
  show max 0 (max a.told.depth 0) + 1 <= a.dep + 1 + 2
  omega
section
variable {P : Program} {w : World} {K : PySem.W.Frag} {mg : Str -> Option Value} {base : Heap}
noncomputable def isBoolD : PyData -> Bool
 | .bool _ => true
 | _ => false
theorem kit_boolD (d : PyData) : PySem.W.kitOne K (.type (tyn d)) (.type "bool") = some (isBoolD d) := by cases d <;> kernel_rfl
theorem PdV.flat {H : Hp} {x y : V} {d : PyData} (h : isTupD d = false) (hx : PdV false H x d) (hy : PdV false H y d) : x = y /\ scal x x = true := by
 cases hx with
 | non => cases hy with
  | non => exact ⟨rfl, rfl⟩
 | bl b => cases hy with
  | bl _ => exact ⟨rfl, rfl⟩
 | int i => cases hy with
  | int _ => exact ⟨rfl, rfl⟩
 | str z => cases hy with
  | str _ => exact ⟨rfl, rfl⟩
 | lst e _ _ => cases e
 | tup _ _ => cases h
noncomputable def spAl (n : Nat) : Sp := fun vs H Q _ => ∃ (x y : V) (d : PyData), vs = [x, y] /\ PdV false H x d /\ PdV false H y d /\ okD d /\ d.depth <= n /\ ∀ H', Same H H' -> Q (.bl true) H'
noncomputable def spA (n : Nat) : Sp := match n with
 | 0 => fun _ _ _ _ => False
 | n + 1 => spAl n
theorem scAl : FnScope ["_law_found", "_law_due"] ["_law_found", "_law_due"] (defScope lAlike) := ⟨rfl, rfl, rfl, by decide +kernel, rfl, by decide +kernel, by decide +kernel⟩
theorem nd2 : (["_law_one", "_law_other"] : List Str).Nodup := by decide +kernel
theorem all_true : ∀ n : Nat, (List.replicate n true).all id = true
 | 0 => rfl
 | n + 1 => by rw [List.replicate_succ, List.all_cons, all_true n]; rfl
seal PSs PS PE PT PA PG PI PGs PIfs in
theorem ok_al1 {f : Addr} {fd : FuncData} (D : Df K mg "_law_alike" lAlike f fd) (T : Txt mg) (n : Nat) (GA : FnOk P w K mg base CX0 n f fd ["_law_found", "_law_due"] (spA n)) : FnOk P w K mg base CX0 (n + 1) f fd ["_law_found", "_law_due"] (spAl n) := by
 have bA := D.F.binds (ps := ["_law_found", "_law_due"]) fun _ _ _ _ _ _ us hl => us2 (fun _ _ => rfl) us hl
 have hz : (sizeLine : Nat) = 16777216 := sizeLine_eq
 refine D.F.ok scAl (fun vs H Q E h => ?_) (fun cdv A outer s H vs Q E hr h => ?_)
 ·obtain ⟨x, y, d, rfl, _⟩ := h
  rfl
 ·obtain ⟨x, y, d, rfl, hx, hy, hd, hn, k⟩ := h
  refine ⟨_, pss_cons (ps_if (pt_val (pe_callB call_isi rfl T.isi b_isi (pa_cons (pv 1) (pa_cons (pe_bltn (v := .ty "tuple") rfl T.tuple b_tuple rfl) pa_nil))))
    (pss_cons (ps_if (PW.pt (pw_or (pt_not (pt_val (pe_callB call_isi rfl T.isi b_isi (pa_cons (pv 0) (pa_cons (pe_bltn (v := .ty "tuple") rfl T.tuple b_tuple rfl) pa_nil))))) (pw_or1 (pt_cmpR op_ne (pe_callB call_len_seq rfl T.len b_len (pa_cons (pv 0) pa_nil)) (pe_callB call_len_seq rfl T.len b_len (pa_cons (pv 1) pa_nil)) (nomark _))))) (pss_one (ps_ret pe_bl)) pss_nil)
    (pss_one (ps_ret (pe_callB (call_all_bools rfl) rfl T.all b_all (pa_cons (pe_comp (own := 2) (caps := []) (N := ["_law_one", "_law_other"]) (N0 := ["_law_found", "_law_due"]) (sc0 := defScope lAlike) rfl (pi_zipT rfl T.zip (pa_cons (pv 0) (pa_cons (pv 1) pa_nil)))
     (fun _ _ _ => pg_tup (n := 2) rfl (pgs_cons (pg_name (i := 0) nd2 rfl (Or.inl rfl)) (pgs_cons (pg_name (i := 1) nd2 rfl (Or.inl rfl)) pgs_nil))) (fun _ _ _ => pf_none)
     (fun _ _ _ => pe_call GA hr rfl D.m D.F.kp bA .nil pass0 (pa_cons (pv 0) (pa_cons (pv 1) pa_nil))) (gk_tup (gks_cons (gk_name (by decide)) (gks_cons (gk_name (by decide)) gks_nil))) rfl rfl
     (by decide +kernel) rfl (by decide +kernel) (by decide +kernel) rfl (by decide +kernel)) pa_nil))))) pss_nil)
   (pss_one (ps_ret (pe_and (pe_cmpR op_eq (pe_callB call_isi rfl T.isi b_isi (pa_cons (pv 0) (pa_cons (pe_bltn (v := .ty "bool") rfl T.bool b_bool rfl) pa_nil))) (pe_callB call_isi rfl T.isi b_isi (pa_cons (pv 1) (pa_cons (pe_bltn (v := .ty "bool") rfl T.bool b_bool rfl) pa_nil))) rfl)
    (pe_one (pe_cmpR op_eq (pv 0) (pv 1) rfl))))), ?_⟩
  refine ⟨_, rfl, y, .ty "tuple", _, _, rfl, hy.ty, .inl ⟨_, rfl, kit_tupD d⟩, _, rfl, ?_⟩
  cases hT : isTupD d with
  | false =>
   obtain ⟨rfl, hsc⟩ := PdV.flat hT hx hy
   refine iteF ⟨_, rfl, x, .ty "bool", _, _, rfl, hx.ty, .inl ⟨_, rfl, kit_boolD d⟩, _, rfl, x, .ty "bool", _, _, rfl, hy.ty, .inl ⟨_, rfl, kit_boolD d⟩, rfl, _, rfl, ?_⟩
   refine iteTb (b := decide (V.bl (isBoolD d) = V.bl (isBoolD d))) (decide_eq_true rfl) ⟨_, rfl, _, rfl, hsc, ?_⟩
   have e : decide (x = x) = true := decide_eq_true rfl
   show Q (.bl (decide (x = x))) H
   rw [e]
   exact k H (Same.refl H)
  | true =>
   cases hx with
   | tup ha hs =>
    rename_i a xs ds
    cases hy with
    | tup hb hs2 =>
     rename_i b ys
     have l1 := hs.len
     have l2 := hs2.len
     refine iteT ⟨_, rfl, .ref a, .ty "tuple", _, _, rfl, PdV.ty (PdV.tup ha hs), .inl ⟨_, rfl, kit_tupD _⟩, _, rfl, ?_⟩
     refine iteF ⟨_, rfl, a, xs, rfl, .inr (SqT.of ha), _, rfl, b, ys, rfl, .inr (SqT.of hb), rfl, _, rfl, ?_⟩
     have hne : (!decide (V.int ((xs.length : Nat) : Int) = V.int ((ys.length : Nat) : Int))) = false := by rw [l1, l2, decide_eq_true rfl]; rfl
     refine iteFb (b := !decide (V.int ((xs.length : Nat) : Int) = V.int ((ys.length : Nat) : Int))) hne ?_
     have h100 : ds.length <= 100 := hd.1
     refine ⟨_, rfl, _, rfl, a, b, xs, ys, rfl, ha, hb, ?_⟩
     refine comp_izt (xs := xs) (ys := ys) (fun i zs H' => Same H H' /\ zs = (List.replicate i true).map V.bl) (by omega) (by omega) (fun i zs H' ⟨sm, _⟩ => ⟨sm _ _ ha, sm _ _ hb⟩) ⟨Same.refl H, rfl⟩ ?_ ?_
     ·rintro i u v zs H' t N hu hv ⟨sm, rfl⟩ ht hN
      obtain ⟨d1, e1, q1⟩ := hs.get hu
      obtain ⟨d2, e2, q2⟩ := hs2.get hv
      have ed : d1 = d2 := Option.some.inj (e1.symm.trans e2)
      subst ed
      have hdep := depth_get e1
      have hn' : PyData.depthAll ds + 1 <= n := hn
      have sT : Same H (upd H' t (.tup [u, v])) := sm.upf ht
      refine ⟨t, _, rfl, SqT.of upd_same, rfl, _, _, rfl, _, _, rfl, rfl, nif ?_⟩
      match n, GA, hn' with
      | 0, _, hn' => omega
      | n + 1, _, hn' =>
       refine ⟨_, rfl, _, rfl, u, v, d1, rfl, q1.same sT, q2.same sT, okDs_get hd.2 e1, by omega, fun H2 s2 => hN _ _ ⟨sT.trans s2, ?_⟩⟩
       rw [List.replicate_succ', List.map_append]
       rfl
     ·rintro zs H' ⟨sm, rfl⟩ _ p hp
      refine ⟨p, List.replicate xs.length true, rfl, SqL.of upd_same, ?_⟩
      rw [all_true]
      exact k _ (sm.upf hp)
   | non => cases hT
   | bl b => cases hT
   | int i => cases hT
   | str z => cases hT
   | lst e _ _ => cases hT
theorem ok_al {f : Addr} {fd : FuncData} (D : Df K mg "_law_alike" lAlike f fd) (T : Txt mg) : ∀ n : Nat, FnOk P w K mg base CX0 (n + 1) f fd ["_law_found", "_law_due"] (spAl n)
 | 0 => ok_al1 D T 0 ok_none
 | n + 1 => ok_al1 D T (n + 1) (ok_al D T n)
end
theorem dt_bools {K : PySem.W.Frag} {H : Hp} : ∀ (ns : List Bool), DtVs K H (ns.map V.bl) (ns.map PyData.bool)
 | [] => .nil
 | n :: ns => .cons (.bl n) (dt_bools ns)
theorem lay_bools : ∀ (ns : List Bool), (PyData.list (ns.map PyData.bool)).canLay0 = true
 | [] => rfl
 | n :: ns => lay_bools ns
noncomputable def names : List Str := ["word", "start", "row", "near", "both", "either", "not"]
noncomputable def kinds (i : Kn) : List Bool := [decide (i = .w), decide (i = .s), decide (i = .r), decide (i = .n), decide (i = .b), decide (i = .e), decide (i = .o)]
theorem kinds_nm (t : At) : names.map (fun z => decide (V.str t.nm = V.str z)) = kinds t.kn := by
 cases t with
 | word z => exact (show names.map (fun z => decide (V.str "word" = V.str z)) = kinds .w by decide +kernel)
 | start z => exact (show names.map (fun z => decide (V.str "start" = V.str z)) = kinds .s by decide +kernel)
 | row z => exact (show names.map (fun z => decide (V.str "row" = V.str z)) = kinds .r by decide +kernel)
 | near a b n => exact (show names.map (fun z => decide (V.str "near" = V.str z)) = kinds .n by decide +kernel)
 | both a b => exact (show names.map (fun z => decide (V.str "both" = V.str z)) = kinds .b by decide +kernel)
 | either a b => exact (show names.map (fun z => decide (V.str "either" = V.str z)) = kinds .e by decide +kernel)
 | no a => exact (show names.map (fun z => decide (V.str "not" = V.str z)) = kinds .o by decide +kernel)
theorem At.leaves_in : ∀ {t u : At}, u ∈ t.leaves -> u.dep <= t.dep /\ (Gd t -> Gd u)
 | .word z, u, h => by
  have e : u = .word z := by simpa [At.leaves] using h
  rw [e]
  exact ⟨Nat.le_refl _, id⟩
 | .start z, u, h => by
  have e : u = .start z := by simpa [At.leaves] using h
  rw [e]
  exact ⟨Nat.le_refl _, id⟩
 | .row z, u, h => by
  have e : u = .row z := by simpa [At.leaves] using h
  rw [e]
  exact ⟨Nat.le_refl _, id⟩
 | .near a b n, u, h => by
  have e : u = .near a b n := by simpa [At.leaves] using h
  rw [e]
  exact ⟨Nat.le_refl _, id⟩
 | .no a, u, h => by simp [At.leaves] at h
 | .both a b, u, h => by
  have h' : u ∈ a.leaves ++ b.leaves := h
  rcases List.mem_append.mp h' with q | q
  ·have := At.leaves_in q
   exact ⟨by show _ <= max a.dep b.dep + 1; omega, fun g => this.2 g.1⟩
  ·have := At.leaves_in q
   exact ⟨by show _ <= max a.dep b.dep + 1; omega, fun g => this.2 g.2⟩
 | .either a b, u, h => by
  have h' : u ∈ a.leaves ++ b.leaves := h
  rcases List.mem_append.mp h' with q | q
  ·have := At.leaves_in q
   exact ⟨by show _ <= max a.dep b.dep + 1; omega, fun g => this.2 g.1⟩
  ·have := At.leaves_in q
   exact ⟨by show _ <= max a.dep b.dep + 1; omega, fun g => this.2 g.2⟩
theorem depth_list {m : Nat} : ∀ {ts : List At}, (∀ t ∈ ts, t.dep <= m) -> (PyData.list (ts.map At.told)).depth <= m + 3
 | [], _ => by show 0 + 1 <= m + 3; omega
 | t :: ts, h => by
  have h1 := depth_told t
  have h2 := h t (by simp)
  have h3 : PyData.depthAll (ts.map At.told) + 1 <= m + 3 := depth_list (ts := ts) fun y hy => h y (by simp [hy])
  show max t.told.depth (PyData.depthAll (ts.map At.told)) + 1 <= m + 3
  omega
theorem sum_take {α : Type} {f : α -> Nat} : ∀ {l : List α} {i : Nat} {x : α}, l[i]? = some x -> ((l.take i).map f).sum + f x <= (l.map f).sum /\ ((l.take (i + 1)).map f).sum = ((l.take i).map f).sum + f x
 | y :: l, 0, x, h => by
  have e : y = x := by simpa using h
  subst e
  simp
 | y :: l, i + 1, x, h => by
  have := sum_take (f := f) (l := l) (i := i) (x := x) (by simpa using h)
  simp only [List.take_succ_cons, List.map_cons, List.sum_cons]
  omega
noncomputable def HeldOk (H : Hp) (h : Addr) (hs : List V) : Prop := ∀ v ∈ hs, ∃ (p a b : Addr) (xs : List V), v = .ref p /\ H p = some (.tup [.ref a, .ref b]) /\ H a = some (.lst xs) /\ H b = some (.lst xs) /\ a ≠ h /\ b ≠ h /\ ∀ u ∈ xs, ∃ q, u = V.ref q
theorem HeldOk.sx {H H' : Hp} {h : Addr} {hs ys : List V} (s : SX h H H') (e : H h = some (.lst ys)) (o : HeldOk H h hs) : HeldOk H' h hs := fun v hv => by
 obtain ⟨p, a, b, xs, e1, e2, e3, e4, n1, n2, r⟩ := o v hv
 exact ⟨p, a, b, xs, e1, s _ _ (ne_of e2 e (by intro z; cases z)) e2, s _ _ n1 e3, s _ _ n2 e4, n1, n2, r⟩
theorem HeldOk.app {H : Hp} {h : Addr} {hs ys : List V} (o : HeldOk H h hs) (o2 : HeldOk H h ys) : HeldOk H h (hs ++ ys) := fun v hv => (List.mem_append.mp hv).elim (o v) (o2 v)
theorem asl_refs {C : Kn -> Addr} {H : Hp} : ∀ {xs : List V} {ts : List At}, AsL C H xs ts -> ∀ u ∈ xs, ∃ q, u = V.ref q
 | _, _, .cons ⟨p, e, _⟩ t, u, hu => by
  rcases List.mem_cons.mp hu with rfl | hu
  ·exact ⟨p, e⟩
  ·exact asl_refs t u hu
structure IsX (K : PySem.W.Frag) (C : Kn -> Addr) (CA : Addr) : Prop where
 kk : ∀ i j, PySem.W.kitOne K (.ref (C i)) (.ref (C j)) = some (decide (i = j))
 ka : ∀ i, PySem.W.kitOne K (.ref (C i)) (.ref CA) = some true
section
variable {P : Program} {w : World} {K : PySem.W.Frag} {mg : Str -> Option Value} {base : Heap} {C ft fk fl : Kn -> Addr} {fdt fdk fdl : Kn -> FuncData} {CA : Addr}
theorem comp_told {l : Addr} {ys : List V} {ts : List At} {te : TE} {σ0 : L2.St} {H : Hp} {Q : VK} {n : Nat} (e : H l = some (.lst ys)) (hA : AsL C H ys ts) (hl : ts.length <= 1000) (hd : ∀ u ∈ ts, u.dep <= n)
  (hte : ∀ (p : Addr) (u : At) H1 (R : VK), AskAt C H1 p u -> u.dep <= n -> (∀ x H', Same H1 H' -> PdV false H' x u.told -> R x H') -> te (σ0.set 0 (some (.ref p))) H1 R)
  (k : ∀ q zs H', Same H H' -> H' q = none -> PdVs false H' zs (ts.map At.told) -> Q (.ref q) (upd H' q (.lst zs))) : CompR (Itl K l) (gName 0) tNoIf te σ0 Q H := by
 have hz : (sizeLine : Nat) = 16777216 := sizeLine_eq
 have hlen := Gn.Paired.len hA
 refine comp_itl (xs := ys) (fun i zs H' => Same H H' /\ PdVs false H' zs ((ts.take i).map At.told)) (by omega) (fun i zs H' ⟨s, _⟩ => SqL.of (s _ _ e)) ⟨Same.refl H, .nil⟩ ?_ ?_
 ·rintro i y zs H' N hy ⟨sm, q⟩ hN
  obtain ⟨u, hu, p, rfl, hp⟩ := pd_at hA hy
  refine g1 (hte p u H' _ (hp.same sm) (hd u (List.mem_of_getElem? hu)) fun x H2 s2 hx => hN _ _ ⟨sm.trans s2, ?_⟩)
  rw [List.take_add_one, hu, List.map_append]
  exact PdVs.cat (PdVs.same s2 q) (.cons hx .nil)
 ·rintro zs H' ⟨sm, q⟩ _ p hp
  rw [hlen, List.take_length] at q
  exact k p zs H' sm hp q
noncomputable def spI (C : Kn -> Addr) (n : Nat) : Sp := fun vs H Q _ => ∃ (a h : Addr) (x : V) (t : At) (hs : List V), vs = [.ref a, x, .ref h] /\ AskAt C H a t /\ PdV false H x t.told /\ Gd t /\ t.dep <= n /\ n <= 50 /\ H h = some (.lst hs) /\ HeldOk H h hs /\ hs.length + 2 * t.many <= 1000 /\
 ∀ hs' H', SX h H H' -> H' h = some (.lst hs') -> HeldOk H' h hs' -> hs'.length = hs.length + 2 * t.many -> Q (.bl true) H'
noncomputable def spJ (C : Kn -> Addr) : Nat -> Sp
 | 0 => fun _ _ _ _ => False
 | n + 1 => spI C n
theorem scIs : FnScope ["_law_ask", "_law_told", "_law_held", "_law_kinds", "_law_due", "_law_kids_here", "_law_leaves_here", "_law_kid"] ["_law_ask", "_law_told", "_law_held"] (defScope lIs) := ⟨rfl, rfl, rfl, by decide +kernel, rfl, by decide +kernel, by decide +kernel⟩
noncomputable abbrev NI : List Str := ["_law_ask", "_law_told", "_law_held", "_law_kinds", "_law_due", "_law_kids_here", "_law_leaves_here", "_law_kid"]
noncomputable def tDue : TE := fun σ H Q => ∃ (a h : Addr) (x : V) (t : At) (o : Option V), σ = [some (.ref a), some x, some (.ref h), o, none, none, none, none] /\ PdV false H x t.told /\ ∀ z H', Same H H' -> H' z = some (.lst ((kinds t.kn).map V.bl)) -> Q (.ref z) H'
theorem ndW2 : (["_law_word", "_law_told"] : List Str).Nodup := by decide +kernel
theorem ndLf : (["_law_leaf"] : List Str).Nodup := by decide +kernel
seal PSs PS PE PT PA PG PI PGs PIfs in
theorem ok_is1 {f fa gk gl : Addr} {fd fda fgk fgl : FuncData} (D : Df K mg "_law_is" lIs f fd) (DA : Df K mg "_law_alike" lAlike fa fda) (DK : Df K mg "_law_kids" lKids gk fgk) (DL : Df K mg "_law_leaves" lLeaves gl fgl) (T : Txt mg) (Cl : Cs K C) (NM : Nm mg C) (hAsk : mg "Ask" = some (.ref CA)) (X : IsX K C CA)
  (MT : Mt K C "told" qTold mTold ft fdt) (MK : Mt K C "kids" qKids mKids fk fdk) (ML : Mt K C "leaves" qLeav mLeav fl fdl) (n : Nat) (GI : FnOk P w K mg base CX0 (n + 3) f fd ["_law_ask", "_law_told", "_law_held"] (spJ C n)) : FnOk P w K mg base CX0 (n + 4) f fd ["_law_ask", "_law_told", "_law_held"] (spI C n) := by
 have GA : FnOk P w K mg base CX0 (n + 3) fa fda ["_law_found", "_law_due"] (spAl (n + 2)) := ok_al DA T (n + 2)
 have bA := DA.F.binds (ps := ["_law_found", "_law_due"]) fun _ _ _ _ _ _ us hl => us2 (fun _ _ => rfl) us hl
 have GK : FnOk P w K mg base CX0 (n + 3) gk fgk ["_law_told"] spLK := (ok_lk DK).mono (by omega)
 have bK := binds1 (p := "_law_told") DK.F fun _ _ _ _ _ _ _ => rfl
 have GL : FnOk P w K mg base CX0 (n + 3) gl fgl ["_law_told"] (spLL n) := (ok_ll DL DK n).mono (by omega)
 have bL := binds1 (p := "_law_told") DL.F fun _ _ _ _ _ _ _ => rfl
 have GT : ∀ i, FnOk P w K mg base CX0 (n + 3) (ft i) (fdt i) ["self"] (spTold C n i) := fun i => (ok_told Cl MT n i).mono (by omega)
 have GKd : ∀ i, FnOk P w K mg base CX0 (n + 3) (fk i) (fdk i) ["self"] (spKids C i) := fun i => (ok_kids Cl MK i).mono (by omega)
 have GLv : ∀ i, FnOk P w K mg base CX0 (n + 3) (fl i) (fdl i) ["self"] (spLeav C n i) := fun i => (ok_leav Cl ML n i).mono (by omega)
 have bI := D.F.binds (ps := ["_law_ask", "_law_told", "_law_held"]) fun _ _ _ _ _ _ us hl => match us, hl with | [_, _, _], _ => rfl
 have hz : (sizeLine : Nat) = 16777216 := sizeLine_eq
 refine D.F.ok scIs (fun vs H Q E h => ?_) (fun cdv A outer s H vs Q E hr h => ?_)
 ·obtain ⟨a, h, x, t, hs, rfl, _⟩ := h
  rfl
 ·obtain ⟨a, h, x, t, hs, rfl, hA, hp, gd, hd, hn50, hh, ho, hcap, kk⟩ := h
  refine ⟨_, pss_cons (ps_set (i := 3) scIs.nd rfl (Or.inl rfl) (pe_lst (pa_cons (pe_callB call_isi rfl T.isi b_isi (pa_cons (pv 0) (pa_cons (pe_glob (v := .ref (C .w)) rfl NM.w rfl) pa_nil))) (pa_cons (pe_callB call_isi rfl T.isi b_isi (pa_cons (pv 0) (pa_cons (pe_glob (v := .ref (C .s)) rfl NM.s rfl) pa_nil)))
     (pa_cons (pe_callB call_isi rfl T.isi b_isi (pa_cons (pv 0) (pa_cons (pe_glob (v := .ref (C .r)) rfl NM.r rfl) pa_nil))) (pa_cons (pe_callB call_isi rfl T.isi b_isi (pa_cons (pv 0) (pa_cons (pe_glob (v := .ref (C .n)) rfl NM.n rfl) pa_nil))) pa_nil))))))
   (pss_cons (ps_set (i := 3) scIs.nd rfl (Or.inl rfl) (pe_op op_cat (pv 3) (pe_lst (pa_cons (pe_callB call_isi rfl T.isi b_isi (pa_cons (pv 0) (pa_cons (pe_glob (v := .ref (C .b)) rfl NM.b rfl) pa_nil))) (pa_cons (pe_callB call_isi rfl T.isi b_isi (pa_cons (pv 0) (pa_cons (pe_glob (v := .ref (C .e)) rfl NM.e rfl) pa_nil)))
     (pa_cons (pe_callB call_isi rfl T.isi b_isi (pa_cons (pv 0) (pa_cons (pe_glob (v := .ref (C .o)) rfl NM.o rfl) pa_nil))) pa_nil))))))
   (pss_cons (ps_setC (i := 4) (t' := tDue) scIs.nd rfl (Or.inl rfl) (own := 1) (caps := [1]) (N := ["_law_word", "_law_told"]) (N0 := NI) (sc0 := defScope lIs) rfl (pi_tup (pe_tup (pa_cons pe_str (pa_cons pe_str (pa_cons pe_str (pa_cons pe_str (pa_cons pe_str (pa_cons pe_str (pa_cons pe_str pa_nil)))))))))
     (fun _ _ _ => pg_name (i := 0) ndW2 rfl (Or.inl rfl)) (fun _ _ _ => pf_none) (fun _ _ _ => pe_cmpR op_eq (pe_ix (ix_tupK (K := K) rfl) (pv 1) pe_int (fun _ _ => rfl)) (pv 0) rfl) (gk_name (by decide)) rfl rfl
     (by decide +kernel) rfl (by decide +kernel) (by decide +kernel) rfl (by decide +kernel) ?mD)
   (pss_cons (ps_if (PW.pt (pw_or (pt_cmpR (op_neD hr.units100) (pv 3) (pv 4) (nomark _)) (pw_or (pt_not (pt_val (pe_callB call_isi rfl T.isi b_isi (pa_cons (pv 0) (pa_cons (pe_glob (v := .ref CA) rfl hAsk rfl) pa_nil)))))
     (pw_or1 (pt_not (pt_val (pe_call GA hr rfl DA.m DA.F.kp bA .nil pass0 (pa_cons (pe_methP0 (pv 0) Cl.cl MT.M GT hr (biTold MT) pass0) (pa_cons (pv 1) pa_nil))))))))) (pss_one (ps_ret pe_bl)) pss_nil)
   (pss_cons (ps_set (i := 5) scIs.nd rfl (Or.inl rfl) (pe_methP0 (pv 0) Cl.cl MK.M GKd hr (biKids MK) pass0))
   (pss_cons (ps_set (i := 6) scIs.nd rfl (Or.inl rfl) (pe_methP0 (pv 0) Cl.cl ML.M GLv hr (biLeav ML) pass0))
   (pss_cons (ps_if (PW.pt (pw_or (pt_not (pt_val (pe_callB call_isi rfl T.isi b_isi (pa_cons (pv 5) (pa_cons (pe_bltn (v := .ty "list") rfl T.list b_list rfl) pa_nil))))) (pw_or (pt_not (pt_val (pe_callB call_isi rfl T.isi b_isi (pa_cons (pv 6) (pa_cons (pe_bltn (v := .ty "list") rfl T.list b_list rfl) pa_nil)))))
     (pw_or1 (pt_cmpR op_ne (pe_callB call_len_seq rfl T.len b_len (pa_cons (pv 5) pa_nil)) (pe_callB call_len_seq rfl T.len b_len (pa_cons (pe_call GK hr rfl DK.m DK.F.kp bK .nil pass0 (pa_cons (pv 1) pa_nil)) pa_nil)) (nomark _)))))) (pss_one (ps_ret pe_bl)) pss_nil)
   (pss_cons (ps_if (pt_cmpR (op_neD hr.units100) (pe_comp (own := 1) (caps := []) (N := ["_law_leaf"]) (N0 := NI) (sc0 := defScope lIs) rfl (pi_list (pv 6)) (fun _ _ _ => pg_name (i := 0) ndLf rfl (Or.inl rfl)) (fun _ _ _ => pf_none)
     (fun _ _ _ => pe_methP0 (pv 0) Cl.cl MT.M GT hr (biTold MT) pass0) (gk_name (by decide)) rfl rfl (by decide +kernel) rfl (by decide +kernel) (by decide +kernel) rfl (by decide +kernel)) (pe_call GL hr rfl DL.m DL.F.kp bL .nil pass0 (pa_cons (pv 1) pa_nil)) (nomark _)) (pss_one (ps_ret pe_bl)) pss_nil)
   (pss_cons (ps_expr (pe_bm PySem.F.plainAttrs_list PySem.F.slot_list_append PySem.F.type_list_append mt_append (pv 5) (pa_cons (pv 0) pa_nil)))
   (pss_cons (ps_expr (pe_bm PySem.F.plainAttrs_list PySem.F.slot_list_append PySem.F.type_list_append mt_append (pv 2) (pa_cons (pe_tup (pa_cons (pv 5) (pa_cons (pe_callTy call_list_of rfl T.list b_list (pa_cons (pv 5) pa_nil)) pa_nil))) pa_nil)))
   (pss_cons (ps_expr (pe_bm0 PySem.F.plainAttrs_list PySem.F.slot_list_clear PySem.F.type_list_clear mt_clear (pv 6)))
   (pss_cons (ps_if (pt_cmpR (op_neD hr.units100) (pe_comp (own := 1) (caps := []) (N := ["_law_leaf"]) (N0 := NI) (sc0 := defScope lIs) rfl (pi_list (pe_methP0 (pv 0) Cl.cl ML.M GLv hr (biLeav ML) pass0)) (fun _ _ _ => pg_name (i := 0) ndLf rfl (Or.inl rfl)) (fun _ _ _ => pf_none)
     (fun _ _ _ => pe_methP0 (pv 0) Cl.cl MT.M GT hr (biTold MT) pass0) (gk_name (by decide)) rfl rfl (by decide +kernel) rfl (by decide +kernel) (by decide +kernel) rfl (by decide +kernel)) (pe_call GL hr rfl DL.m DL.F.kp bL .nil pass0 (pa_cons (pv 1) pa_nil)) (nomark _)) (pss_one (ps_ret pe_bl)) pss_nil)
   (pss_cons (ps_expr (pe_bm PySem.F.plainAttrs_list PySem.F.slot_list_append PySem.F.type_list_append mt_append (pv 2) (pa_cons (pe_tup (pa_cons (pv 6) (pa_cons (pe_lst pa_nil) pa_nil))) pa_nil)))
   (pss_cons (ps_for PassesOwn.never rfl (pi_zip rfl T.zip (pa_cons (pe_methP0 (pv 0) Cl.cl MK.M GKd hr (biKids MK) pass0) (pa_cons (pe_call GK hr rfl DK.m DK.F.kp bK .nil pass0 (pa_cons (pv 1) pa_nil)) pa_nil))) (pg_tup (n := 2) rfl (pgs_cons (pg_name (i := 7) scIs.nd rfl (Or.inl rfl)) (pgs_cons (pg_name (i := 4) scIs.nd rfl (Or.inl rfl)) pgs_nil)))
     (pss_one (ps_if (pt_not (pt_val (pe_call GI hr rfl D.m D.F.kp bI .nil pass0 (pa_cons (pv 7) (pa_cons (pv 4) (pa_cons (pv 2) pa_nil)))))) (pss_one (ps_ret pe_bl)) pss_nil)))
   (pss_one (ps_ret (pe_cmpR op_eq (pe_callB call_len_seq rfl T.len b_len (pa_cons (pe_methP0 (pv 0) Cl.cl MK.M GKd hr (biKids MK) pass0) pa_nil)) (pe_callB call_len_seq rfl T.len b_len (pa_cons (pe_call GK hr rfl DK.m DK.F.kp bK .nil pass0 (pa_cons (pv 1) pa_nil)) pa_nil)) rfl)))))))))))))))), ?_⟩
  rotate_left
  ·have own : ∀ {H' : Hp}, Keep H H' -> ∃ dx fs, H' a = some (.ins (C t.kn) dx fs) /\ ∀ m, NoF m -> fs.lookup m = none := fun kp => (hA.keep kp).ob
   have ty : ∀ {H' : Hp}, Keep H H' -> TyOf K H' (.ref a) (.ref (C t.kn)) := fun kp => by
    obtain ⟨dx, fs, e, _⟩ := own kp
    exact (Cl.ic _).ty e
   have T0 := ty (Keep.of (Same.refl H))
   refine ⟨_, rfl, .ref a, .ref (C .w), _, _, rfl, T0, .inr ⟨_, rfl, X.kk _ _⟩, _, rfl, .ref a, .ref (C .s), _, _, rfl, T0, .inr ⟨_, rfl, X.kk _ _⟩, _, rfl, .ref a, .ref (C .r), _, _, rfl, T0, .inr ⟨_, rfl, X.kk _ _⟩, _, rfl, .ref a, .ref (C .n), _, _, rfl, T0, .inr ⟨_, rfl, X.kk _ _⟩, four_line, fun p1 hp1 => ?_⟩
   have s1 : Same H (upd H p1 (.lst ([decide (t.kn = .w), decide (t.kn = .s), decide (t.kn = .r), decide (t.kn = .n)].map V.bl))) := same_upd hp1
   have T1 := ty (Keep.of s1)
   refine ⟨_, rfl, _, rfl, .ref a, .ref (C .b), _, _, rfl, T1, .inr ⟨_, rfl, X.kk _ _⟩, _, rfl, .ref a, .ref (C .e), _, _, rfl, T1, .inr ⟨_, rfl, X.kk _ _⟩, _, rfl, .ref a, .ref (C .o), _, _, rfl, T1, .inr ⟨_, rfl, X.kk _ _⟩, three_line, fun p2 hp2 => ?_⟩
   refine ⟨p1, p2, _, _, rfl, rfl, same_upd hp2 _ _ upd_same, upd_same, by show 4 + 3 <= sizeLine; decide, fun p3 hp3 => ?_⟩
   have s3 : Same H _ := (s1.upf (o := .lst ([decide (t.kn = .b), decide (t.kn = .e), decide (t.kn = .o)].map V.bl)) hp2).upf (o := .lst ((kinds t.kn).map V.bl)) hp3
   refine ⟨a, h, x, t, _, rfl, hp.same s3, fun p4 H4 s4 e4 => ?_⟩
   have e3 : H4 p3 = some (.lst ((kinds t.kn).map V.bl)) := s4 _ _ upd_same
   have s04 := s3.trans s4
   clear s3 s1 T1
   refine ⟨_, rfl, _, rfl, .list ((kinds t.kn).map .bool), .list ((kinds t.kn).map .bool), .lst (SqL.of e3) (dt_bools _), .lst (SqL.of e4) (dt_bools _), lay_bools _, lay_bools _, (by show min (max 0 (max 0 (max 0 (max 0 (max 0 (max 0 (max 0 0)))))) + 1) _ <= 100; omega), _, rfl, ?_⟩
   refine iteFb (b := !PyData.eqv (.list ((kinds t.kn).map .bool)) (.list ((kinds t.kn).map .bool))) (by rw [eqv_same (lay_bools _)]; rfl) ?_
   refine ⟨_, rfl, .ref a, .ref CA, _, _, rfl, ty (Keep.of s04), .inr ⟨_, rfl, X.ka _⟩, _, rfl, iteF ?_⟩
   obtain ⟨dx, fs, ea, lf⟩ := own (Keep.of s04)
   refine ⟨_, rfl, t.kn, a, dx, fs, rfl, ea, lf _ nf_told, a, t, rfl, hA.same s04, hd, rfl, fun y H5 s5 hy => ?_⟩
   refine ⟨_, rfl, y, x, t.told, rfl, hy, (hp.same s04).same s5, ok_data gd, by have := depth_told t; omega, fun H6 s6 => ⟨_, rfl, iteF ?_⟩⟩
   have s06 := (s04.trans s5).trans s6
   clear s04 s5 s6 hy ea lf
   obtain ⟨dx, fs, ea, lf⟩ := own (Keep.of s06)
   refine ⟨_, rfl, t.kn, a, dx, fs, rfl, ea, lf _ nf_kids, a, t, rfl, hA.same s06, rfl, fun l xs hl hK => ?_⟩
   have s07 : Same H (upd H6 l (.lst xs)) := s06.upf hl
   have el : upd H6 l (.lst xs) l = some (.lst xs) := upd_same
   have hlH : H l = none := Same.free s06 hl
   have hK7 : AsL C (upd H6 l (.lst xs)) xs t.kids := AsL.same (same_upd hl) hK
   generalize upd H6 l (.lst xs) = H7 at s07 el hK7
   clear ea lf s06 hl hK
   obtain ⟨dx, fs, ea, lf⟩ := own (Keep.of s07)
   refine ⟨_, rfl, t.kn, a, dx, fs, rfl, ea, lf _ nf_leaves, a, t, rfl, hA.same s07, hd, by omega, rfl, fun l2 ys H8 s8 f8 el2 hL => ?_⟩
   have s08 := s07.trans s8
   have hl2H : H l2 = none := Same.free s07 f8
   have hll : l ≠ l2 := ne_of_none el f8
   have el8 := s8 _ _ el
   have hK8 := AsL.same s8 hK7
   clear s07 s8 f8 ea lf el hK7
   have xl := Gn.Paired.len hK8
   have kl := t.kids_len
   refine ⟨_, rfl, .ref l, .ty "list", _, _, rfl, .lst el8, .inl ⟨_, rfl, kit_ll⟩, _, rfl, iteF ⟨_, rfl, .ref l2, .ty "list", _, _, rfl, .lst el2, .inl ⟨_, rfl, kit_ll⟩, _, rfl, iteF ?_⟩⟩
   refine ⟨_, rfl, l, xs, rfl, .inl (SqL.of el8), _, rfl, x, t, rfl, hp.same s08, fun l3 zs H9 s9 f9 e9 q9 => ⟨l3, zs, rfl, .inl (SqL.of e9), rfl, _, rfl, ?_⟩⟩
   have zl : zs.length = t.kids.length := by have := q9.len; rw [List.length_map] at this; exact this
   refine iteFb (b := !decide (V.int ((xs.length : Nat) : Int) = V.int ((zs.length : Nat) : Int))) (by rw [xl, zl, decide_eq_true rfl]; rfl) ?_
   have s09 := s08.trans s9
   have el9 := s9 _ _ el8
   have el29 := s9 _ _ el2
   have hL9 := AsL.same s9 hL
   have hK9 := AsL.same s9 hK8
   clear s08 s9 e9 q9 f9 el8 el2 hL hK8 zl
   have lvl := At.leaves_le t
   have hld : ∀ u ∈ t.leaves, u.dep <= n := fun u hu => Nat.le_trans (At.leaves_in hu).1 hd
   have hlg : ∀ u ∈ t.leaves, Gd u := fun u hu => (At.leaves_in hu).2 gd
   have hte : ∀ (p : Addr) (u : At) H1 (R : VK), AskAt C H1 p u -> u.dep <= n -> (∀ x H', Same H1 H' -> PdV false H' x u.told -> R x H') -> tMethP C "told" (spTold C n) E0 (tVar 0) tNil (([none] : L2.St).set 0 (some (.ref p))) H1 R := fun p u H1 R hu hdu kR => by
    obtain ⟨dx, fs, ea, lf⟩ := hu.ob
    exact ⟨_, rfl, u.kn, p, dx, fs, rfl, ea, lf _ nf_told, p, u, rfl, hu, hdu, rfl, kR⟩
   have hdp := depth_list hld
   refine ⟨_, rfl, l2, rfl, ⟨_, SqL.of el29⟩, comp_told (σ0 := [none]) el29 hL9 (by omega) hld hte fun q0 zs0 H10 s10 f10 q10 => ?_⟩
   refine ⟨_, rfl, x, t, rfl, hp.same ((s09.trans s10).upf f10), gd, hd, by omega, fun l4 ws H11 s11 f11 e11 q11 => ?_⟩
   refine ⟨.list (t.leaves.map At.told), .list (t.leaves.map At.told), .lst (SqL.of (s11 _ _ upd_same)) (PdVs.dt (PdVs.same ((same_upd f10).trans s11) q10)), .lst (SqL.of e11) (PdVs.dt q11), lay_tolds hlg, lay_tolds hlg, by omega, _, rfl, ?_⟩
   refine iteFb (b := !PyData.eqv (.list (t.leaves.map At.told)) (.list (t.leaves.map At.told))) (by rw [eqv_same (lay_tolds hlg)]; rfl) ?_
   have s911 := (s10.upf (o := .lst zs0) f10).trans s11
   have s011 := s09.trans s911
   have el11 := s911 _ _ el9
   have el211 := s911 _ _ el29
   have rf : ∀ u ∈ xs ++ [V.ref a], ∃ q, u = V.ref q := fun u hu => by
    rcases List.mem_append.mp hu with q | q
    ·exact asl_refs hK9 u q
    ·exact ⟨a, by simpa using q⟩
   clear s911 s11 s10 e11 q11 f11 q10 f10 s09 el9 el29 hL9 hK9
   refine ⟨_, rfl, .inl ⟨rfl, _, SqL.of el11⟩, _, rfl, l, xs, _, rfl, rfl, el11, by omega, ?_⟩
   have hlh : h ≠ l := ne_of_none hh hlH
   have hlh2 : h ≠ l2 := ne_of_none hh hl2H
   have sc : Same H (upd H11 l (.lst (xs ++ [.ref a]))) := fun b o e => by rw [upd_ne (ne_of_none e hlH)]; exact s011 _ _ e
   have ec : upd H11 l (.lst (xs ++ [.ref a])) l = some (.lst (xs ++ [.ref a])) := upd_same
   have ec2 : upd H11 l (.lst (xs ++ [.ref a])) l2 = some (.lst ys) := by rw [upd_ne (Ne.symm hll)]; exact el211
   generalize upd H11 l (.lst (xs ++ [.ref a])) = Hc at sc ec ec2
   clear s011 el11 el211
   refine ⟨_, rfl, .inl ⟨rfl, _, SqL.of (sc _ _ hh)⟩, _, rfl, _, rfl, l, _, rfl, .inl (SqL.of ec), fun c hc => ⟨two_line, fun q hq => ?_⟩⟩
   have hcl : l ≠ c := ne_of_none ec hc
   have hcl2 : l2 ≠ c := ne_of_none ec2 hc
   have hch : h ≠ c := ne_of_none (sc _ _ hh) hc
   have q1 : ∀ {b : Addr} {o : HO}, Hc b = some o -> b ≠ q := fun {b o} e => ne_of_none (same_upd hc _ _ e) hq
   have qc : c ≠ q := ne_of_none (upd_same : upd Hc c (.lst (xs ++ [.ref a])) c = _) hq
   have hhd : upd (upd Hc c (.lst (xs ++ [.ref a]))) q (.tup [.ref l, .ref c]) h = some (.lst hs) := by rw [upd_ne (q1 (sc _ _ hh)), upd_ne hch]; exact sc _ _ hh
   refine ⟨h, hs, _, rfl, rfl, hhd, by omega, ?_⟩
   have xd : SX h H (upd (upd (upd Hc c (.lst (xs ++ [.ref a]))) q (.tup [.ref l, .ref c])) h (.lst (hs ++ [.ref q]))) := fun b o hb e => by
    rw [upd_ne hb, upd_ne (q1 (sc _ _ e)), upd_ne (ne_of_none (sc _ _ e) hc)]
    exact sc _ _ e
   have dh : upd (upd (upd Hc c (.lst (xs ++ [.ref a]))) q (.tup [.ref l, .ref c])) h (.lst (hs ++ [.ref q])) h = some (.lst (hs ++ [.ref q])) := upd_same
   have dl : upd (upd (upd Hc c (.lst (xs ++ [.ref a]))) q (.tup [.ref l, .ref c])) h (.lst (hs ++ [.ref q])) l = some (.lst (xs ++ [.ref a])) := by rw [upd_ne (Ne.symm hlh), upd_ne (q1 ec), upd_ne hcl]; exact ec
   have dl2 : upd (upd (upd Hc c (.lst (xs ++ [.ref a]))) q (.tup [.ref l, .ref c])) h (.lst (hs ++ [.ref q])) l2 = some (.lst ys) := by rw [upd_ne (Ne.symm hlh2), upd_ne (q1 ec2), upd_ne hcl2]; exact ec2
   have dc : upd (upd (upd Hc c (.lst (xs ++ [.ref a]))) q (.tup [.ref l, .ref c])) h (.lst (hs ++ [.ref q])) c = some (.lst (xs ++ [.ref a])) := by rw [upd_ne (Ne.symm hch), upd_ne qc]; exact upd_same
   have dq : upd (upd (upd Hc c (.lst (xs ++ [.ref a]))) q (.tup [.ref l, .ref c])) h (.lst (hs ++ [.ref q])) q = some (.tup [.ref l, .ref c]) := by rw [upd_ne (Ne.symm (q1 (sc _ _ hh)))]; exact upd_same
   have nc2 : l2 ≠ c := hcl2
   generalize upd (upd (upd Hc c (.lst (xs ++ [.ref a]))) q (.tup [.ref l, .ref c])) h (.lst (hs ++ [.ref q])) = Hd at xd dh dl dl2 dc dq
   clear hhd q1 qc hq hc ec ec2 sc
   refine ⟨_, rfl, .inl ⟨rfl, _, SqL.of dl2⟩, l2, ys, rfl, rfl, dl2, ?_⟩
   have xe : SX h H (upd Hd l2 (.lst [])) := fun b o hb e => by rw [upd_ne (ne_of_none e hl2H)]; exact xd _ _ hb e
   have eh : upd Hd l2 (.lst []) h = some (.lst (hs ++ [.ref q])) := by rw [upd_ne hlh2]; exact dh
   have ell : upd Hd l2 (.lst []) l = some (.lst (xs ++ [.ref a])) := by rw [upd_ne hll]; exact dl
   have ell2 : upd Hd l2 (.lst []) l2 = some (.lst []) := upd_same
   have elc : upd Hd l2 (.lst []) c = some (.lst (xs ++ [.ref a])) := by rw [upd_ne (Ne.symm nc2)]; exact dc
   have elq : upd Hd l2 (.lst []) q = some (.tup [.ref l, .ref c]) := by rw [upd_ne (ne_of dq dl2 (by intro z; cases z))]; exact dq
   generalize upd Hd l2 (.lst []) = He at xe eh ell ell2 elc elq
   clear xd dh dl dl2 dc dq
   have ke : Keep H He := xe.keep hh
   obtain ⟨dx, fs, ea, lf⟩ := own ke
   refine ⟨_, rfl, t.kn, a, dx, fs, rfl, ea, lf _ nf_leaves, a, t, rfl, hA.keep ke, hd, by omega, rfl, fun l5 ys5 H12 s12 f12 e12 hL12 => ?_⟩
   refine ⟨l5, rfl, ⟨_, SqL.of e12⟩, comp_told (σ0 := [none]) e12 hL12 (by omega) hld hte fun q0 zs0 H13 s13 f13 q13 => ?_⟩
   refine ⟨_, rfl, x, t, rfl, ((hp.keep ke).same s12).same (s13.upf f13), gd, hd, by omega, fun l4 ws H14 s14 f14 e14 q14 => ?_⟩
   refine ⟨.list (t.leaves.map At.told), .list (t.leaves.map At.told), .lst (SqL.of (s14 _ _ upd_same)) (PdVs.dt (PdVs.same ((same_upd f13).trans s14) q13)), .lst (SqL.of e14) (PdVs.dt q14), lay_tolds hlg, lay_tolds hlg, by omega, _, rfl, ?_⟩
   refine iteFb (b := !PyData.eqv (.list (t.leaves.map At.told)) (.list (t.leaves.map At.told))) (by rw [eqv_same (lay_tolds hlg)]; rfl) ?_
   have se14 := (s12.trans (s13.upf (o := .lst zs0) f13)).trans s14
   have x14 := xe.same se14
   have h14 := se14 _ _ eh
   have l14 := se14 _ _ ell
   have l214 := se14 _ _ ell2
   have c14 := se14 _ _ elc
   have q14' := se14 _ _ elq
   clear se14 s12 s13 s14 f12 f13 f14 e12 e14 q13 q14 hL12 ea lf xe eh ell ell2 elc elq ke
   refine ⟨_, rfl, .inl ⟨rfl, _, SqL.of h14⟩, _, rfl, no_line, fun e he => ⟨two_line, fun q2 hq2 => ?_⟩⟩
   have ne : ∀ {b : Addr} {o : HO}, H14 b = some o -> b ≠ e /\ b ≠ q2 := fun {b o} eb => ⟨ne_of_none eb he, ne_of_none (same_upd he _ _ eb) hq2⟩
   have eq2 : e ≠ q2 := ne_of_none (upd_same : upd H14 e (.lst []) e = _) hq2
   refine ⟨h, _, _, rfl, rfl, (by rw [upd_ne (ne h14).2, upd_ne (ne h14).1]; exact h14), by simp; omega, ?_⟩
   have look : ∀ {b : Addr} {o : HO}, b ≠ h -> H14 b = some o -> upd (upd (upd H14 e (.lst [])) q2 (.tup [.ref l2, .ref e])) h (.lst (hs ++ [.ref q] ++ [.ref q2])) b = some o := fun {b o} hb eb => by
    rw [upd_ne hb, upd_ne (ne eb).2, upd_ne (ne eb).1]
    exact eb
   have xf : SX h H (upd (upd (upd H14 e (.lst [])) q2 (.tup [.ref l2, .ref e])) h (.lst (hs ++ [.ref q] ++ [.ref q2]))) := fun b o hb eb => look hb (x14 _ _ hb eb)
   have hf : upd (upd (upd H14 e (.lst [])) q2 (.tup [.ref l2, .ref e])) h (.lst (hs ++ [.ref q] ++ [.ref q2])) h = some (.lst (hs ++ [.ref q] ++ [.ref q2])) := upd_same
   have of : HeldOk (upd (upd (upd H14 e (.lst [])) q2 (.tup [.ref l2, .ref e])) h (.lst (hs ++ [.ref q] ++ [.ref q2]))) h (hs ++ [.ref q] ++ [.ref q2]) := by
    refine HeldOk.app (HeldOk.app (ho.sx xf hh) fun v hv => ?_) fun v hv => ?_
    ·have ev : v = .ref q := by simpa using hv
     exact ⟨q, l, c, _, ev, look (ne_of q14' h14 (by intro z; cases z)) q14', look (Ne.symm hlh) l14, look (Ne.symm hch) c14, Ne.symm hlh, Ne.symm hch, rf⟩
    ·have ev : v = .ref q2 := by simpa using hv
     refine ⟨q2, l2, e, [], ev, ?_, look (Ne.symm hlh2) l214, ?_, Ne.symm hlh2, Ne.symm (ne h14).1, fun u hu => by simp at hu⟩
     ·rw [upd_ne (Ne.symm (ne h14).2)]
      exact upd_same
     ·rw [upd_ne (Ne.symm (ne h14).1), upd_ne eq2]
      exact upd_same
   generalize upd (upd (upd H14 e (.lst [])) q2 (.tup [.ref l2, .ref e])) h (.lst (hs ++ [.ref q] ++ [.ref q2])) = Hf at xf hf of
   clear look ne eq2 he hq2 x14 h14 l14 l214 c14 q14' rf
   have kf : Keep H Hf := xf.keep hh
   obtain ⟨dx, fs, ea, lf⟩ := own kf
   refine ⟨_, rfl, t.kn, a, dx, fs, rfl, ea, lf _ nf_kids, a, t, rfl, hA.keep kf, rfl, fun l6 xs6 hl6 hK6 => ?_⟩
   refine ⟨_, rfl, x, t, rfl, (hp.keep kf).same (same_upd hl6), fun l7 zs7 H16 s16 f16 e16 q16 => ?_⟩
   have e6 : H16 l6 = some (.lst xs6) := s16 _ _ upd_same
   have sf16 := (same_upd (o := .lst xs6) hl6).trans s16
   have h16 := sf16 _ _ hf
   have o16 : HeldOk H16 h (hs ++ [.ref q] ++ [.ref q2]) := of.sx (SX.of sf16) hf
   have K16 := AsL.same sf16 hK6
   have x16 := xf.same sf16
   have nl6 : l6 ≠ h := Ne.symm (ne_of_none hf hl6)
   have nl7 : l7 ≠ h := Ne.symm (ne_of_none (same_upd hl6 _ _ hf) f16)
   have xl6 := Gn.Paired.len K16
   have zl7 : zs7.length = t.kids.length := by have := q16.len; rw [List.length_map] at this; exact this
   clear sf16 s16 f16 hl6 hK6 ea lf
   have mk := t.many_kids
   refine ⟨l6, l7, xs6, zs7, rfl, e6, e16, ?_⟩
   refine for_izl (xs := xs6) (ys := zs7) (fun i σ H' => ∃ (o4 o7 : Option V) (hs' : List V), σ = [some (.ref a), some x, some (.ref h), some (.ref p3), o4, some (.ref l), some (.ref l2), o7] /\ SX h H16 H' /\ H' h = some (.lst hs') /\ HeldOk H' h hs' /\ hs'.length = hs.length + 2 + 2 * ((t.kids.take i).map At.many).sum) (by omega) ?_ ?_ ?_ ?_
   ·exact ⟨_, _, _, rfl, fun _ _ _ e => e, h16, o16, by simp⟩
   ·rintro i σ H' _ ⟨o4, o7, hs', rfl, sx, _⟩
    exact ⟨sx _ _ nl6 e6, sx _ _ nl7 e16⟩
   ·rintro i y z σ H' tt hy hz' ⟨o4, o7, hs', rfl, sx, hh', oo, hlen⟩ htt
    obtain ⟨kd, hkd, p, rfl, hkp⟩ := pd_at K16 hy
    obtain ⟨d, hd1, hd2⟩ := q16.get hz'
    have ed : d = kd.told := by
     rw [List.getElem?_map, hkd] at hd1
     exact (Option.some.inj hd1).symm
    subst ed
    have hin := List.mem_of_getElem? hkd
    have kdd := At.kids_dep hin
    have sT : Same H' (upd H' tt (.tup [.ref p, z])) := same_upd htt
    have kp : Keep H16 H' := sx.keep h16
    obtain ⟨t1, t2⟩ := sum_take (f := At.many) hkd
    refine ⟨tt, _, rfl, SqT.of upd_same, rfl, _, _, rfl, _, _, rfl, rfl, ?_⟩
    match n, GI, hd, hn50 with
    | 0, _, hd, _ => omega
    | n + 1, _, hd, hn50 =>
     refine ⟨_, rfl, _, rfl, _, rfl, p, h, z, kd, hs', rfl, (hkp.keep kp).same sT, (hd2.keep kp).same sT, gd.kids kd hin, by omega, by omega, sT _ _ hh', oo.sx (SX.of sT) hh', by omega, fun hs2 H2 x2 e2 o2 n2 => ⟨_, rfl, iteF ?_⟩⟩
     exact ⟨_, _, hs2, rfl, (sx.same sT).trans x2, e2, o2, by omega⟩
   ·rintro σ H' ⟨o4, o7, hs', rfl, sx, hh', oo, hlen⟩
    rw [xl6, List.take_length] at hlen
    have k' : Keep H H' := (x16.trans sx).keep hh
    obtain ⟨dx, fs, ea, lf⟩ := own k'
    refine ⟨_, rfl, t.kn, a, dx, fs, rfl, ea, lf _ nf_kids, a, t, rfl, hA.keep k', rfl, fun l8 xs8 hl8 hK8 => ⟨l8, xs8, rfl, .inl (SqL.of upd_same), ?_⟩⟩
    have x8 := Gn.Paired.len hK8
    refine ⟨_, rfl, x, t, rfl, (hp.keep k').same (same_upd hl8), fun l9 zs9 H18 s18 f18 e18 q18 => ⟨l9, zs9, rfl, .inl (SqL.of e18), rfl, ?_⟩⟩
    have z9 : zs9.length = t.kids.length := by have := q18.len; rw [List.length_map] at this; exact this
    have eb : decide (V.int ((xs8.length : Nat) : Int) = V.int ((zs9.length : Nat) : Int)) = true := by rw [x8, z9]; exact decide_eq_true rfl
    show Q (.bl (decide (V.int ((xs8.length : Nat) : Int) = V.int ((zs9.length : Nat) : Int)))) H18
    rw [eb]
    have s8' := (same_upd (o := .lst xs8) hl8).trans s18
    exact kk hs' H18 ((x16.trans sx).same s8') (s8' _ _ hh') (oo.sx (SX.of s8') hh') (by omega)
  case mD =>
   rintro σ H Q ⟨a, h, x, t, o, rfl, hp, k⟩
   obtain ⟨p, xs, rfl, ha, hs⟩ := (t.told_eq ▸ hp).t0
   refine ⟨by show 7 <= sizeLine; decide, fun q hq => ⟨q, rfl, ⟨_, SqT.of upd_same⟩, ?_⟩⟩
   refine comp_itt (xs := names.map V.str) (fun i ys H' => H' = upd H q (.tup (names.map V.str)) /\ ys = ((names.take i).map fun z => V.bl (decide (V.str t.nm = V.str z)))) (by show 7 < sizeLine; decide) (fun i ys H' ⟨e, _⟩ => by rw [e]; exact SqT.of upd_same) ⟨rfl, rfl⟩ ?_ ?_
   ·rintro i y ys H' N hy ⟨rfl, rfl⟩ hN
    rw [List.getElem?_map] at hy
    cases hz : names[i]? with
    | none => rw [hz] at hy; cases hy
    | some z =>
     rw [hz] at hy
     have e : V.str z = y := Option.some.inj hy
     subst e
     refine g1 ⟨_, rfl, p, _, 0, _, rfl, rfl, SqT.of (same_upd hq _ _ ha), atI_nat (j := 0) rfl, _, rfl, rfl, hN _ _ ⟨rfl, ?_⟩⟩
     rw [List.take_add_one, hz, List.map_append]
     rfl
   ·rintro ys H' ⟨rfl, rfl⟩ _ r hr'
    refine k r _ ((same_upd hq).upf hr') ?_
    rw [upd_same, List.length_map, List.take_length, <- kinds_nm t, List.map_map]
    rfl
theorem ok_lis {f fa gk gl : Addr} {fd fda fgk fgl : FuncData} (D : Df K mg "_law_is" lIs f fd) (DA : Df K mg "_law_alike" lAlike fa fda) (DK : Df K mg "_law_kids" lKids gk fgk) (DL : Df K mg "_law_leaves" lLeaves gl fgl) (T : Txt mg) (Cl : Cs K C) (NM : Nm mg C) (hAsk : mg "Ask" = some (.ref CA)) (X : IsX K C CA)
  (MT : Mt K C "told" qTold mTold ft fdt) (MK : Mt K C "kids" qKids mKids fk fdk) (ML : Mt K C "leaves" qLeav mLeav fl fdl) : ∀ n : Nat, FnOk P w K mg base CX0 (n + 4) f fd ["_law_ask", "_law_told", "_law_held"] (spI C n)
 | 0 => ok_is1 D DA DK DL T Cl NM hAsk X MT MK ML 0 ok_none
 | n + 1 => ok_is1 D DA DK DL T Cl NM hAsk X MT MK ML (n + 1) (ok_lis D DA DK DL T Cl NM hAsk X MT MK ML n)
end
theorem FnOk.any {P : Program} {w : World} {K : PySem.W.Frag} {mg : Str -> Option Value} {base : Heap} {CX : CXT} {k N : Nat} {f : Addr} {fd : FuncData} {ps : List Str} {sp : Nat -> Sp} (F : ∀ n, n <= N -> FnOk P w K mg base CX k f fd ps (sp n)) :
  FnOk P w K mg base CX k f fd ps (fun vs H Q E => ∃ n, n <= N /\ sp n vs H Q E) :=
 ⟨fun vs H Q E ⟨n, hn, q⟩ => (F n hn).len vs H Q E q, fun A outer s H args us vs Q E hr he hb hv ⟨n, hn, q⟩ => (F n hn).run A outer s H args us vs Q E hr he hb hv q⟩
noncomputable def greatA (tp tn : At) : List At := [notsT 8 tp, notsT 7 tn, wideT 5 21 tp, .no (.no (wideT 5 20 tp))]
noncomputable def greatB (tp tn : At) : List At := [wideT 5 11 tn, notsT 2000 tp]
noncomputable def justA (tp tn : At) : List At := [notsT 7 tp, notsT 6 tn, .no (wideT 5 20 tp), wideT 5 18 tp]
noncomputable def justB (tp tn : At) : List At := [.no (wideT 5 10 tn)]
theorem great_bad {tp tn : At} (g1 : Gd tp) (g2 : Gd tn) (d1 : tp.dep = 0) (d2 : tn.dep = 1) (m1 : tp.many = 1) (m2 : tn.many = 3) : ∀ u ∈ greatA tp tn ++ greatB tp tn, Gd u /\ ofD u.told = none := by
 have no : ∀ u : At, Gd u -> ¬ (u.dep <= 7 /\ u.many <= 40) -> Gd u /\ ofD u.told = none := fun u g h => ⟨g, by rw [of_told g, if_neg h]⟩
 have w21 := wide_many tp 5 21 (by decide) (by decide)
 have w20 := wide_many tp 5 20 (by decide) (by decide)
 have w11 := wide_many tn 5 11 (by decide) (by decide)
 rw [m1] at w21 w20
 rw [m2] at w11
 intro u hu
 simp only [greatA, greatB, List.mem_append, List.mem_cons, List.not_mem_nil, or_false] at hu
 rcases hu with (rfl | rfl | rfl | rfl) | (rfl | rfl)
 ·exact no _ (nots_gd g1 8) (by rw [nots_dep]; omega)
 ·exact no _ (nots_gd g2 7) (by rw [nots_dep]; omega)
 ·exact no _ (wide_gd g1 5 21) (by omega)
 ·exact no (.no (.no (wideT 5 20 tp))) (wide_gd g1 5 20) (by show ¬ ((wideT 5 20 tp).dep + 1 + 1 <= 7 /\ 1 + (1 + (wideT 5 20 tp).many) <= 40); omega)
 ·exact no _ (wide_gd g2 5 11) (by omega)
 ·exact no _ (nots_gd g1 2000) (by rw [nots_dep]; omega)
theorem just_good {tp tn : At} (g1 : Gd tp) (g2 : Gd tn) (d1 : tp.dep = 0) (d2 : tn.dep = 1) (m1 : tp.many = 1) (m2 : tn.many = 3) : ∀ u ∈ justA tp tn ++ justB tp tn, Gd u /\ u.dep <= 7 /\ u.many <= 40 := by
 have w20 := wide_many tp 5 20 (by decide) (by decide)
 have w18 := wide_many tp 5 18 (by decide) (by decide)
 have w10 := wide_many tn 5 10 (by decide) (by decide)
 have e20 := wide_dep tp 5 20
 have e18 := wide_dep tp 5 18
 have e10 := wide_dep tn 5 10
 rw [m1] at w20 w18
 rw [m2] at w10
 intro u hu
 simp only [justA, justB, List.mem_append, List.mem_cons, List.not_mem_nil, or_false] at hu
 rcases hu with (rfl | rfl | rfl | rfl) | rfl
 ·exact ⟨nots_gd g1 7, by rw [nots_dep]; omega, by rw [nots_many]; omega⟩
 ·exact ⟨nots_gd g2 6, by rw [nots_dep]; omega, by rw [nots_many]; omega⟩
 ·exact ⟨wide_gd g1 5 20, by show (wideT 5 20 tp).dep + 1 <= 7; omega, by show 1 + (wideT 5 20 tp).many <= 40; omega⟩
 ·exact ⟨wide_gd g1 5 18, by omega, by omega⟩
 ·exact ⟨wide_gd g2 5 10, by show (wideT 5 10 tn).dep + 1 <= 7; omega, by show 1 + (wideT 5 10 tn).many <= 40; omega⟩
section
variable {P : Program} {w : World} {K : PySem.W.Frag} {mg : Str -> Option Value} {base : Heap} {C : Kn -> Addr} {CB : Addr}
noncomputable def spLaw (K : PySem.W.Frag) : Sp := fun vs H Q _ => ∃ (a : Addr) (ns : List Int), vs = [.ref a] /\ SqL K H a (ns.map V.int) /\ ns.length <= 63 /\ ∀ H', Q (.bl true) H'
noncomputable abbrev NL : List Str := ["_law_script", "_law_menu_here", "_law_told", "_law_held", "_law_number_here", "_law_plain_here", "_law_near", "_law_great", "_law_just", "_law_way"]
theorem scLaw : FnScope NL ["_law_script"] (defScope lLaw) := ⟨rfl, rfl, rfl, by decide +kernel, rfl, by decide +kernel, by decide +kernel⟩
theorem ndOC : (["_law_one", "_law_copy"] : List Str).Nodup := by decide +kernel
noncomputable def tGs (A : At -> At -> List At) : TE := fun σ H Q => ∃ (xp xn : V) (tp tn : At), σ[5]? = some (some xp) /\ σ[6]? = some (some xn) /\ PdV false H xp tp.told /\ PdV false H xn tn.told /\ ∀ a xs H0, Same H H0 -> PdVs false H0 xs ((A tp tn).map At.told) -> H0 a = none -> Q (.ref a) (upd H0 a (.lst xs))
noncomputable abbrev tGreat : TE := tGs greatA
noncomputable abbrev tJust : TE := tGs justA
noncomputable def tGreat2 : TE := fun σ H Q => ∃ (xp xn : V) (tp tn : At) (g : Addr) (ys : List V), σ[5]? = some (some xp) /\ σ[6]? = some (some xn) /\ PdV false H xp tp.told /\ PdV false H xn tn.told /\ σ[7]? = some (some (.ref g)) /\ H g = some (.lst ys) /\ PdVs false H ys ((greatA tp tn).map At.told) /\
 ∀ a xs H0, Same H H0 -> PdVs false H0 xs ((greatA tp tn ++ greatB tp tn).map At.told) -> H0 a = none -> Q (.ref a) (upd H0 a (.lst xs))
set_option maxHeartbeats 8000000 in
seal PSs PS PE PT PA PG PI PGs PIfs in
theorem ok_law {f fMe fNu fTr fPl fOd fSp fRe fWi fNo fIs fO : Addr} {fd fdMe fdNu fdTr fdPl fdOd fdSp fdRe fdWi fdNo fdIs fdO : FuncData} (D : Df K mg "law" lLaw f fd) (T : Txt mg)
  (DMe : Df K mg "_law_menu" lMenu fMe fdMe) (GMe : FnOk P w K mg base CX0 2 fMe fdMe ["_law_number_here"] spMenu)
  (DNu : Df K mg "_law_number" lNumber fNu fdNu) (GNu : FnOk P w K mg base CX0 2 fNu fdNu ["_law_script", "_law_k"] (spNumber K))
  (DTr : Df K mg "_law_tree" lTree fTr fdTr) (GTr : ∀ n, FnOk P w K mg base CX0 (n + 3) fTr fdTr ["_law_script", "_law_at", "_law_deep", "_law_menu_here"] (spTree K n))
  (DPl : Df K mg "_law_plain" lPlain fPl fdPl) (GPl : FnOk P w K mg base CX0 2 fPl fdPl ["_law_number_here", "_law_menu_here"] spPlain)
  (DOd : Df K mg "_law_odd" lOdd fOd fdOd) (GOd : FnOk P w K mg base CX0 1 fOd fdOd ["_law_number_here", "_law_good", "_law_word"] spOdd)
  (DSp : Df K mg "_law_spoilt" lSpoilt fSp fdSp) (GSp : FnOk P w K mg base CX0 9 fSp fdSp ["_law_told", "_law_number_here", "_law_odd_here"] (spSp 7))
  (DRe : Df K mg "_law_refused" lRefused fRe fdRe) (GRe : FnOk P w K mg base CX0 15 fRe fdRe ["_law_told"] spRef)
  (DWi : Df K mg "_law_wide" lWide fWi fdWi) (GWi : FnOk P w K mg base CX0 6 fWi fdWi ["_law_many", "_law_plain_here"] (spWide 5))
  (DNo : Df K mg "_law_nots" lNots fNo fdNo) (GNo : FnOk P w K mg base CX0 1 fNo fdNo ["_law_told", "_law_many"] spNots)
  (DIs : Df K mg "_law_is" lIs fIs fdIs) (GIs : FnOk P w K mg base CX0 11 fIs fdIs ["_law_ask", "_law_told", "_law_held"] (spI C 7))
  (DO : Df K mg "ask_of" sAskOf fO fdO) (GO : FnOk P w K mg base (CX1 P w) 14 fO fdO ["told"] (spAskOf C CB)) : FnOk P w K mg base CX0 16 f fd ["_law_script"] (spLaw K) := by
 have bMe := binds1 (p := "_law_number_here") DMe.F fun _ _ _ _ _ _ _ => rfl
 have bNu := DNu.F.binds (ps := ["_law_script", "_law_k"]) fun _ _ _ _ _ _ us hl => us2 (fun _ _ => rfl) us hl
 have bTr := DTr.F.binds (ps := ["_law_script", "_law_at", "_law_deep", "_law_menu_here"]) fun _ _ _ _ _ _ us hl => match us, hl with | [_, _, _, _], _ => rfl
 have bPl := DPl.F.binds (ps := ["_law_number_here", "_law_menu_here"]) fun _ _ _ _ _ _ us hl => us2 (fun _ _ => rfl) us hl
 have bOd := DOd.F.binds (ps := ["_law_number_here", "_law_good", "_law_word"]) fun _ _ _ _ _ _ us hl => match us, hl with | [_, _, _], _ => rfl
 have bSp := DSp.F.binds (ps := ["_law_told", "_law_number_here", "_law_odd_here"]) fun _ _ _ _ _ _ us hl => match us, hl with | [_, _, _], _ => rfl
 have bRe := binds1 (p := "_law_told") DRe.F fun _ _ _ _ _ _ _ => rfl
 have bWi := DWi.F.binds (ps := ["_law_many", "_law_plain_here"]) fun _ _ _ _ _ _ us hl => us2 (fun _ _ => rfl) us hl
 have bNo := DNo.F.binds (ps := ["_law_told", "_law_many"]) fun _ _ _ _ _ _ us hl => us2 (fun _ _ => rfl) us hl
 have bIs := DIs.F.binds (ps := ["_law_ask", "_law_told", "_law_held"]) fun _ _ _ _ _ _ us hl => match us, hl with | [_, _, _], _ => rfl
 have bO := binds1 (p := "told") DO.F fun _ _ _ _ _ _ _ => rfl
 have G1 := GMe.mono (show 2 <= 15 by decide)
 have G2 := GNu.mono (show 2 <= 15 by decide)
 have G3 : FnOk P w K mg base CX0 15 fTr fdTr ["_law_script", "_law_at", "_law_deep", "_law_menu_here"] (fun vs H Q E => ∃ n, n <= 8 /\ spTree K n vs H Q E) := FnOk.any fun n hn => (GTr n).mono (by omega)
 have G4 := GPl.mono (show 2 <= 15 by decide)
 have G5 := GOd.mono (show 1 <= 15 by decide)
 have G6 := GSp.mono (show 9 <= 15 by decide)
 have G8 := GWi.mono (show 6 <= 15 by decide)
 have G9 := GNo.mono (show 1 <= 15 by decide)
 have Ga := GIs.mono (show 11 <= 15 by decide)
 have Gb := GO.mono (show 14 <= 15 by decide)
 refine D.F.ok scLaw (fun vs H Q E h => ?_) (fun cdv A outer s H vs Q E hr h => ?_)
 ·obtain ⟨a, ns, rfl, _⟩ := h
  rfl
 ·obtain ⟨a, ns, rfl, hS, hns, kk⟩ := h
  have hz : (sizeLine : Nat) = 16777216 := sizeLine_eq
  refine ⟨_, pss_cons (ps_set (i := 1) scLaw.nd rfl (Or.inl rfl) (pe_call G1 hr rfl DMe.m DMe.F.kp bMe .nil pass0 (pa_cons (pe_call G2 hr rfl DNu.m DNu.F.kp bNu .nil pass0 (pa_cons (pv 0) (pa_cons pe_int pa_nil))) pa_nil)))
   (pss_cons (ps_set (i := 2) scLaw.nd rfl (Or.inl rfl) (pe_call G3 hr rfl DTr.m DTr.F.kp bTr .nil pass0 (pa_cons (pv 0) (pa_cons (pe_lst (pa_cons pe_int pa_nil)) (pa_cons (pe_op op_add pe_int (pe_op op_mod (pe_call G2 hr rfl DNu.m DNu.F.kp bNu .nil pass0 (pa_cons (pv 0) (pa_cons pe_int pa_nil))) pe_int)) (pa_cons (pv 1) pa_nil))))))
   (pss_cons (ps_set (i := 3) scLaw.nd rfl (Or.inl rfl) (pe_lst pa_nil))
   (pss_cons (ps_if (pt_not (pt_val (pe_call Ga hr rfl DIs.m DIs.F.kp bIs .nil pass0 (pa_cons (pe_call Gb hr rfl DO.m DO.F.kp bO .nil passN (pa_cons (pv 2) pa_nil)) (pa_cons (pv 2) (pa_cons (pv 3) pa_nil)))))) (pss_one (ps_ret pe_bl)) pss_nil)
   (pss_cons (ps_set (i := 4) scLaw.nd rfl (Or.inl rfl) (pe_call G2 hr rfl DNu.m DNu.F.kp bNu .nil pass0 (pa_cons (pv 0) (pa_cons pe_int pa_nil))))
   (pss_cons (ps_set (i := 5) scLaw.nd rfl (Or.inl rfl) (pe_call G4 hr rfl DPl.m DPl.F.kp bPl .nil pass0 (pa_cons (pv 4) (pa_cons (pv 1) pa_nil))))
   (pss_cons (ps_if (pt_not (pt_val (pe_call GRe hr rfl DRe.m DRe.F.kp bRe .nil pass0 (pa_cons (pe_call G6 hr rfl DSp.m DSp.F.kp bSp .nil pass0 (pa_cons (pv 2) (pa_cons (pe_call G2 hr rfl DNu.m DNu.F.kp bNu .nil pass0 (pa_cons (pv 0) (pa_cons pe_int pa_nil)))
     (pa_cons (pe_call G5 hr rfl DOd.m DOd.F.kp bOd .nil pass0 (pa_cons (pe_call G2 hr rfl DNu.m DNu.F.kp bNu .nil pass0 (pa_cons (pv 0) (pa_cons pe_int pa_nil))) (pa_cons (pv 2) (pa_cons (pe_ix ix_list (pv 1) pe_int (fun _ _ => rfl)) pa_nil)))) pa_nil)))) pa_nil)))) (pss_one (ps_ret pe_bl)) pss_nil)
   (pss_cons (ps_set (i := 6) scLaw.nd rfl (Or.inl rfl) (pe_tup (pa_cons pe_str (pa_cons (pv 5) (pa_cons (pe_tup (pa_cons pe_str (pa_cons (pe_ix ix_list (pv 1) pe_int (fun _ _ => rfl)) pa_nil))) (pa_cons (pe_op op_mod (pv 4) pe_int) pa_nil))))))
   (pss_cons (ps_set (i := 7) scLaw.nd rfl (Or.inl rfl) (PE.imp (t' := tGreat) (pe_lst (pa_cons (pe_call G9 hr rfl DNo.m DNo.F.kp bNo .nil pass0 (pa_cons (pv 5) (pa_cons pe_int pa_nil))) (pa_cons (pe_call G9 hr rfl DNo.m DNo.F.kp bNo .nil pass0 (pa_cons (pv 6) (pa_cons pe_int pa_nil)))
     (pa_cons (pe_call G8 hr rfl DWi.m DWi.F.kp bWi .nil pass0 (pa_cons pe_int (pa_cons (pv 5) pa_nil))) (pa_cons (pe_tup (pa_cons pe_str (pa_cons (pe_tup (pa_cons pe_str (pa_cons (pe_call G8 hr rfl DWi.m DWi.F.kp bWi .nil pass0 (pa_cons pe_int (pa_cons (pv 5) pa_nil))) pa_nil))) pa_nil))) pa_nil))))) ?mG))
   (pss_cons (ps_set (i := 7) scLaw.nd rfl (Or.inl rfl) (PE.imp (t' := tGreat2) (pe_op op_cat (pv 7) (pe_lst (pa_cons (pe_call G8 hr rfl DWi.m DWi.F.kp bWi .nil pass0 (pa_cons pe_int (pa_cons (pv 6) pa_nil))) (pa_cons (pe_call G9 hr rfl DNo.m DNo.F.kp bNo .nil pass0 (pa_cons (pv 5) (pa_cons pe_int pa_nil))) pa_nil)))) ?mH))
   (pss_cons (ps_set (i := 8) scLaw.nd rfl (Or.inl rfl) (PE.imp (t' := tJust) (pe_lst (pa_cons (pe_call G9 hr rfl DNo.m DNo.F.kp bNo .nil pass0 (pa_cons (pv 5) (pa_cons pe_int pa_nil))) (pa_cons (pe_call G9 hr rfl DNo.m DNo.F.kp bNo .nil pass0 (pa_cons (pv 6) (pa_cons pe_int pa_nil)))
     (pa_cons (pe_tup (pa_cons pe_str (pa_cons (pe_call G8 hr rfl DWi.m DWi.F.kp bWi .nil pass0 (pa_cons pe_int (pa_cons (pv 5) pa_nil))) pa_nil))) (pa_cons (pe_call G8 hr rfl DWi.m DWi.F.kp bWi .nil pass0 (pa_cons pe_int (pa_cons (pv 5) pa_nil))) pa_nil))))) ?mJ))
   (pss_cons (ps_expr (pe_bm PySem.F.plainAttrs_list PySem.F.slot_list_append PySem.F.type_list_append mt_append (pv 8) (pa_cons (pe_tup (pa_cons pe_str (pa_cons (pe_call G8 hr rfl DWi.m DWi.F.kp bWi .nil pass0 (pa_cons pe_int (pa_cons (pv 6) pa_nil))) pa_nil))) pa_nil)))
   (pss_cons (ps_set (i := 9) scLaw.nd rfl (Or.inl rfl) (pe_op op_mod (pe_op op_fdiv (pv 4) pe_int) pe_int))
   (pss_cons (ps_if (PW.pt (pw_or (pt_not (pt_val (pe_call GRe hr rfl DRe.m DRe.F.kp bRe .nil pass0 (pa_cons (pe_ix ix_list (pv 7) (pv 9) (fun _ _ => rfl)) pa_nil)))) (pw_or (pt_not (pt_val (pe_call GRe hr rfl DRe.m DRe.F.kp bRe .nil pass0 (pa_cons (pe_ix ix_list (pv 7) pe_int (fun _ _ => rfl)) pa_nil))))
     (pw_or1 (pt_not (pt_val (pe_call Ga hr rfl DIs.m DIs.F.kp bIs .nil pass0 (pa_cons (pe_call Gb hr rfl DO.m DO.F.kp bO .nil passN (pa_cons (pe_ix ix_list (pv 8) (pv 9) (fun _ _ => rfl)) pa_nil)) (pa_cons (pe_ix ix_list (pv 8) (pv 9) (fun _ _ => rfl)) (pa_cons (pv 3) pa_nil)))))))))) (pss_one (ps_ret pe_bl)) pss_nil)
   (pss_one (ps_ret (pe_cmpR (op_eqD hr.units100) (pe_comp (own := 2) (caps := []) (N := ["_law_one", "_law_copy"]) (N0 := NL) (sc0 := defScope lLaw) rfl (pi_list (pv 3))
     (fun _ _ _ => pg_tup (n := 2) rfl (pgs_cons (pg_name (i := 0) ndOC rfl (Or.inl rfl)) (pgs_cons (pg_name (i := 1) ndOC rfl (Or.inl rfl)) pgs_nil))) (fun _ _ _ => pf_one (pt_cmpR (op_neS hr.units100) (pv 0) (pv 1) (nomark _)))
     (fun _ _ _ => pv 0) (gk_tup (gks_cons (gk_name (by decide)) (gks_cons (gk_name (by decide)) gks_nil))) rfl rfl (by decide +kernel) rfl (by decide +kernel) (by decide +kernel) rfl (by decide +kernel)) (pe_lst pa_nil) rfl)))))))))))))))), ?_⟩
  rotate_left
  rotate_left
  rotate_left
  ·refine ⟨_, rfl, a, ns, 0, rfl, hS, hns, by decide, fun r0 H1 _ _ s1 => ⟨r0, rfl, fun me H2 ws s2 e2 hw5 hwm => ?_⟩⟩
   have s02 := s1.trans s2
   have hM2 : MenuAt H2 me ws := ⟨e2, hw5, hwm⟩
   have hS2 := s02.seq hS
   clear s1 s2 hS e2
   refine ⟨_, rfl, one_line, fun c hc => ⟨_, rfl, a, ns, 40, rfl, (same_upd hc).seq hS2, hns, by decide, fun r H3 _ _ s3 => ⟨_, _, rfl, rfl, (by show (0 : Int) < 8; decide), _, _, rfl, rfl, _, rfl, ?_⟩⟩⟩
   have e0 := Int.emod_nonneg r (show (8 : Int) ≠ 0 by decide)
   have e1 := Int.emod_lt_of_pos r (show (0 : Int) < 8 by decide)
   obtain ⟨n, hn⟩ := Int.eq_ofNat_of_zero_le (show 0 <= 1 + r % 8 by omega)
   have hn8 : n <= 8 := by omega
   have p8 : 2 ^ n <= 2 ^ 8 := Nat.pow_le_pow_right (by decide) hn8
   have p256 : (2 : Nat) ^ 8 = 256 := rfl
   refine ⟨n, hn8, a, c, me, ns, ws, 0, _, H2, rfl, hn, by omega, (same_upd hc).trans s3, hc, hS2, hns, hM2, s3 _ _ upd_same, by omega, fun x t a' H4 x4 c4 hx gd hd ha hm => ?_⟩
   have b4 : Same H2 H4 := x4.base ((same_upd hc).trans s3) hc
   have hS4 := b4.seq hS2
   have hM4 : MenuAt H4 me ws := ⟨b4 _ _ hM2.1, hM2.2⟩
   have hm33 : t.many <= 33 := by omega
   have hd7 : t.dep <= 7 := by omega
   clear b4 x4 c4 hS2 hM2 s3 hc p8 p256 hm ha hd
   have own := of_told gd
   rw [if_pos ⟨hd7, by omega⟩] at own
   refine ⟨no_line, fun h hh => ?_⟩
   refine ⟨_, rfl, x, t.told, rfl, PdV.any (hx.same (same_upd hh)), fit_told gd, fun u hu aa H6 s6 hA => ?_, fun e => by rw [own] at e; cases e⟩
   have eu : t = u := Option.some.inj (own.symm.trans hu)
   subst eu
   have s46 : Same H4 H6 := (same_upd hh).trans s6
   refine ⟨_, rfl, _, rfl, aa, h, x, t, [], rfl, hA, hx.same s46, gd, hd7, by decide, s6 _ _ upd_same, (fun v hv => by simp at hv), by simp; omega, fun hs7 H7 x7 e7 o7 n7 => ⟨_, rfl, iteF ?_⟩⟩
   have s47 : Same H4 H7 := x7.base s46 hh
   simp only [List.length_nil, Nat.zero_add] at n7
   clear s46 x7 hA s6 hu
   refine ⟨_, rfl, a, ns, 41, rfl, s47.seq hS4, hns, by decide, fun r5 H8 r50 r51 s8 => ?_⟩
   have s48 := s47.trans s8
   refine ⟨_, rfl, _, rfl, r5, me, ws, rfl, ⟨s48 _ _ hM4.1, hM4.2⟩, fun xp tp H9 s9 hxp lk gp => ?_⟩
   have s49 := s48.trans s9
   have s79 := s8.trans s9
   obtain ⟨z0, hz0, ez0⟩ := hM4.at (j := 0) (by decide)
   obtain ⟨z1, hz1, ez1⟩ := hM4.at (j := 1) (by decide)
   refine ⟨_, rfl, _, rfl, a, ns, 42, rfl, s49.seq hS4, hns, by decide, fun r6 H10 _ _ s10 => ?_⟩
   have s4a := s49.trans s10
   refine ⟨_, rfl, a, ns, 43, rfl, s4a.seq hS4, hns, by decide, fun r7 H11 _ _ s11 => ?_⟩
   have s4b := s4a.trans s11
   refine ⟨_, rfl, _, rfl, me, _, 0, .str z0, rfl, rfl, SqL.of (s4b _ _ hM4.1), atI_nat (j := 0) ez0, r7, x, t.told, z0, rfl, hx.same s4b, hz0.1, fun y d H12 s12 hy hdm => ?_⟩
   refine ⟨x, y, t, r6, d, rfl, hx.same (s4b.trans s12), gd, hd7, hy, odd_bad (fit_told gd) hz0.1 hdm, fun u d2 H13 s13 hu bd2 => ?_⟩
   refine ⟨u, d2, rfl, hu, bd2.1, bd2.of, fun H14 s14 => ⟨_, rfl, iteF ?_⟩⟩
   have s4e := ((s4b.trans s12).trans s13).trans s14
   have s9e := (((s10.trans s11).trans s12).trans s13).trans s14
   have s7e := s79.trans s9e
   have hxp14 := hxp.same s9e
   clear s48 s49 s79 s4a s4b s9e s8 s9 s10 s11 s12 s13 s14 hu hy bd2 hdm
   refine ⟨_, rfl, _, rfl, me, _, 1, .str z1, rfl, rfl, SqL.of (s4e _ _ hM4.1), atI_nat (j := 1) ez1, two_line, fun q1 hq1 => ⟨_, rfl, _, _, rfl, rfl, (by show (0 : Int) < 21; decide), four_line, fun q2 hq2 => ?_⟩⟩
   have f0 := Int.emod_nonneg r5 (show (21 : Int) ≠ 0 by decide)
   have f1 := Int.emod_lt_of_pos r5 (show (0 : Int) < 21 by decide)
   have sq := (same_upd (o := .tup [.str "word", .str z1]) hq1).upf (o := .tup [.str "near", xp, .ref q1, .int (r5 % 21)]) hq2
   have hxn : PdV false (upd (upd H14 q1 (.tup [.str "word", .str z1])) q2 (.tup [.str "near", xp, .ref q1, .int (r5 % 21)])) (.ref q2) (At.near tp (.word z1) (r5 % 21)).told :=
    .tup upd_same (.cons (.str _) (.cons (hxp14.same sq) (.cons (.tup (same_upd hq2 _ _ upd_same) (.cons (.str _) (.cons (.str _) .nil))) (.cons (.int _) .nil))))
   have hxp16 := hxp14.same sq
   have s716 := s7e.trans sq
   generalize upd (upd H14 q1 (.tup [.str "word", .str z1])) q2 (.tup [.str "near", xp, .ref q1, .int (r5 % 21)]) = H16 at hxn hxp16 s716
   clear sq s7e hxp14 s4e hxp hq1 hq2
   have gn : Gd (At.near tp (.word z1) (r5 % 21)) := ⟨⟨lk, rfl⟩, ⟨f0, by omega⟩, gp, wm_wd hz1⟩
   have dp := At.lf_dep lk
   have mp := At.lf_many lk
   have dn : (At.near tp (.word z1) (r5 % 21)).dep = 1 := by show max tp.dep 0 + 1 = 1; rw [dp]; rfl
   have mn : (At.near tp (.word z1) (r5 % 21)).many = 3 := by show 1 + (tp.many + 1) = 3; rw [mp]
   generalize At.near tp (.word z1) (r5 % 21) = tn at hxn gn dn mn
   have GB := great_bad gp gn dp dn mp mn
   have JG := just_good gp gn dp dn mp mn
   refine ⟨xp, .ref q2, tp, tn, rfl, rfl, hxp16, hxn, fun g ys H17 s17 q17 f17 => ?_⟩
   have t17 := s17.upf (o := .lst ys) f17
   refine ⟨xp, .ref q2, tp, tn, g, ys, rfl, rfl, hxp16.same t17, hxn.same t17, rfl, upd_same, PdVs.same (same_upd f17) q17, fun g2 ys2 H18 s18 q18 f18 => ?_⟩
   have t18 := t17.trans (s18.upf (o := .lst ys2) f18)
   refine ⟨xp, .ref q2, tp, tn, rfl, rfl, hxp16.same t18, hxn.same t18, fun j zs H19 s19 q19 f19 => ?_⟩
   have t19 := t18.trans s19
   have l19 : zs.length = 4 := q19.len
   refine ⟨_, rfl, .inl ⟨rfl, _, SqL.of upd_same⟩, _, rfl, .ref q2, tn, 10, _, rfl, rfl, by decide, by decide, hxn.same (t19.upf f19), fun w1 H20 s20 q20 => ⟨two_line, fun w2 hw2 => ⟨j, zs, .ref w2, rfl, rfl, same_upd hw2 _ _ (s20 _ _ upd_same), by omega, ?_⟩⟩⟩
   have ej : upd H20 w2 (.tup [.str "not", w1]) j = some (.lst zs) := same_upd hw2 _ _ (s20 _ _ upd_same)
   have s1920 : Same H19 (upd H20 w2 (.tup [.str "not", w1])) := ((same_upd f19).trans s20).upf hw2
   have sZ : Same H19 (upd (upd H20 w2 (.tup [.str "not", w1])) j (.lst (zs ++ [.ref w2]))) := fun b o e => by rw [upd_ne (ne_of_none e f19)]; exact s1920 _ _ e
   have kZ : Keep (upd H20 w2 (.tup [.str "not", w1])) (upd (upd H20 w2 (.tup [.str "not", w1])) j (.lst (zs ++ [.ref w2]))) := Keep.lst ej
   have wZ : PdV false (upd (upd H20 w2 (.tup [.str "not", w1])) j (.lst (zs ++ [.ref w2]))) (.ref w2) (At.no (wideT 5 10 tn)).told := PdV.keep kZ (.tup upd_same (.cons (.str _) (.cons (q20.same (same_upd hw2)) .nil)))
   have jZ : upd (upd H20 w2 (.tup [.str "not", w1])) j (.lst (zs ++ [.ref w2])) j = some (.lst (zs ++ [.ref w2])) := upd_same
   generalize upd (upd H20 w2 (.tup [.str "not", w1])) j (.lst (zs ++ [.ref w2])) = HZ at sZ wZ jZ
   have JZ : PdVs false HZ (zs ++ [.ref w2]) ((justA tp tn ++ justB tp tn).map At.told) := by rw [List.map_append]; exact PdVs.cat (PdVs.same sZ q19) (.cons wZ .nil)
   have g18 : H19 g2 = some (.lst ys2) := s19 _ _ upd_same
   have GZ : HZ g2 = some (.lst ys2) := sZ _ _ g18
   have QZ : PdVs false HZ ys2 ((greatA tp tn ++ greatB tp tn).map At.told) := PdVs.same (((same_upd f18).trans s19).trans sZ) q18
   have s7Z := (s716.trans t19).trans sZ
   have hZ := s7Z _ _ e7
   have oZ := o7.sx (SX.of s7Z) e7
   have nz5 : (zs ++ [V.ref w2]).length = 5 := by rw [List.length_append, l19]; rfl
   have l18 : ys2.length = 6 := q18.len
   clear kZ s1920 ej hw2 q20 s20 q19 f19 s19 t18 t17 q18 f18 s18 q17 f17 s17 s716 hxp16 hxn t19 g18 sZ wZ s7Z e7 o7
   refine ⟨_, rfl, _, _, rfl, rfl, ⟨by decide, by decide⟩, _, _, rfl, rfl, (by show (0 : Int) < 5; decide), ?_⟩
   obtain ⟨i, hi, hil⟩ := mod_ix (r := r5 / 21) (n := 5) (by decide)
   have pick : ∀ {l : List At} {vs : List V} {k : Nat}, PdVs false HZ vs (l.map At.told) -> k < vs.length -> ∃ v u, vs[k]? = some v /\ u ∈ l /\ PdV false HZ v u.told := fun {l vs k} q hk => by
    obtain ⟨d, hd, hp⟩ := q.get (List.getElem?_eq_getElem hk)
    rw [List.getElem?_map] at hd
    cases hu : l[k]? with
    | none => rw [hu] at hd; cases hd
    | some u =>
     rw [hu] at hd
     have e : u.told = d := Option.some.inj hd
     exact ⟨_, u, List.getElem?_eq_getElem hk, List.mem_of_getElem? hu, e ▸ hp⟩
   obtain ⟨v1, u1, ev1, hu1, pv1⟩ := pick QZ (k := i) (by omega)
   obtain ⟨v2, u2, ev2, hu2, pv2⟩ := pick QZ (k := 5) (by omega)
   obtain ⟨v3, u3, ev3, hu3, pv3⟩ := pick JZ (k := i) (by omega)
   obtain ⟨gd1, of1⟩ := GB u1 hu1
   obtain ⟨gd2, of2⟩ := GB u2 hu2
   obtain ⟨gd3, dp3, mn3⟩ := JG u3 hu3
   have own3 := of_told gd3
   rw [if_pos ⟨dp3, mn3⟩] at own3
   refine ⟨_, rfl, _, rfl, g2, _, _, v1, rfl, rfl, SqL.of GZ, by rw [<- hi]; exact atI_nat ev1, v1, u1.told, rfl, PdV.any pv1, fit_told gd1, of1, fun H21 s21 => ⟨_, rfl, iteF ?_⟩⟩
   refine ⟨_, rfl, g2, _, 5, v2, rfl, rfl, SqL.of (s21 _ _ GZ), atI_nat (j := 5) ev2, v2, u2.told, rfl, PdV.any (pv2.same s21), fit_told gd2, of2, fun H22 s22 => ⟨_, rfl, iteF ?_⟩⟩
   have s2z := s21.trans s22
   refine ⟨_, rfl, _, rfl, j, _, _, v3, rfl, rfl, SqL.of (s2z _ _ jZ), by rw [<- hi]; exact atI_nat ev3, v3, u3.told, rfl, PdV.any (pv3.same s2z), fit_told gd3, fun u hu ab H23 s23 hA3 => ?_, fun e => by rw [own3] at e; cases e⟩
   have eu3 : u3 = u := Option.some.inj (own3.symm.trans hu)
   subst eu3
   have s3z := s2z.trans s23
   refine ⟨_, rfl, _, rfl, j, _, _, v3, rfl, rfl, SqL.of (s3z _ _ jZ), by rw [<- hi]; exact atI_nat ev3, _, rfl, ab, h, v3, u3, hs7, rfl, hA3, pv3.same s3z, gd3, dp3, by decide, s3z _ _ hZ, oZ.sx (SX.of s3z) hZ, by omega, fun hs8 H24 x24 e24 o24 n24 => ⟨_, rfl, iteF ?_⟩⟩
   refine ⟨_, rfl, h, rfl, ⟨_, SqL.of e24⟩, comp_itl (xs := hs8) (fun i ys H' => H' = H24 /\ ys = []) (by omega) (fun i ys H' ⟨e, _⟩ => by rw [e]; exact SqL.of e24) ⟨rfl, rfl⟩ ?_ ?_⟩
   ·rintro k y ys H' N hy ⟨rfl, rfl⟩ hN
    obtain ⟨p, aa, bb, us, rfl, ep, eaa, ebb, _, _, rf⟩ := o24 y (List.mem_of_getElem? hy)
    refine ⟨p, _, rfl, SqT.of ep, rfl, _, _, rfl, _, _, rfl, rfl, ?_⟩
    exact ⟨_, rfl, _, rfl, aa, bb, us, rfl, rfl, eaa, ebb, rf, _, rfl, iteF (hN _ _ ⟨rfl, rfl⟩)⟩
   ·rintro ys H' ⟨rfl, rfl⟩ _ p hp
    refine ⟨no_line, fun q hq => ?_⟩
    exact ⟨.list [], .list [], .lst (SqL.of (same_upd hq _ _ upd_same)) .nil, .lst (SqL.of upd_same) .nil, rfl, rfl, by decide, kk _⟩
  case mG =>
   rintro σ H Q ⟨xp, xn, tp, tn, e5, e6, p5, p6, k⟩
   refine ⟨_, e5, xp, tp, 8, rfl, by decide, p5, fun y1 H1 s1 q1 => ?_⟩
   refine ⟨_, e6, xn, tn, 7, rfl, by decide, p6.same s1, fun y2 H2 s2 q2 => ?_⟩
   have s12 := s1.trans s2
   refine ⟨_, e5, xp, tp, 21, _, rfl, rfl, by decide, by decide, p5.same s12, fun y3 H3 s3 q3 => ?_⟩
   have s13 := s12.trans s3
   refine ⟨_, e5, xp, tp, 20, _, rfl, rfl, by decide, by decide, p5.same s13, fun y4 H4 s4 q4 => ⟨two_line, fun r1 hr1 => ⟨two_line, fun r2 hr2 => ⟨four_line, fun a ha => ?_⟩⟩⟩⟩
   have sr := (same_upd (o := .tup [.str "not", y4]) hr1).upf (o := .tup [.str "not", .ref r1]) hr2
   exact k a _ _ ((s13.trans s4).trans sr) (.cons (q1.same (((s2.trans s3).trans s4).trans sr)) (.cons (q2.same ((s3.trans s4).trans sr)) (.cons (q3.same (s4.trans sr)) (.cons (.tup upd_same (.cons (.str _) (.cons (.tup (same_upd hr2 _ _ upd_same) (.cons (.str _) (.cons (q4.same sr) .nil))) .nil))) .nil)))) ha
  case mH =>
   rintro σ H Q ⟨xp, xn, tp, tn, g, ys, e5, e6, p5, p6, e7, eg, pg, k⟩
   have lg : ys.length = 4 := pg.len
   refine ⟨_, e7, _, e6, xn, tn, 11, _, rfl, rfl, by decide, by decide, p6, fun y1 H1 s1 q1 => ?_⟩
   refine ⟨_, e5, xp, tp, 2000, rfl, by decide, p5.same s1, fun y2 H2 s2 q2 => ⟨two_line, fun b hb => ?_⟩⟩
   have s12 := s1.trans s2
   refine ⟨g, b, ys, _, rfl, rfl, same_upd hb _ _ (s12 _ _ eg), upd_same, by show ys.length + 2 <= sizeLine; omega, fun a ha => ?_⟩
   refine k a _ _ (s12.upf hb) ?_ ha
   rw [List.map_append]
   exact PdVs.cat (PdVs.same (s12.upf hb) pg) (.cons (q1.same (s2.upf hb)) (.cons (q2.same (same_upd hb)) .nil))
  case mJ =>
   rintro σ H Q ⟨xp, xn, tp, tn, e5, e6, p5, p6, k⟩
   refine ⟨_, e5, xp, tp, 7, rfl, by decide, p5, fun y1 H1 s1 q1 => ?_⟩
   refine ⟨_, e6, xn, tn, 6, rfl, by decide, p6.same s1, fun y2 H2 s2 q2 => ?_⟩
   have s12 := s1.trans s2
   refine ⟨_, e5, xp, tp, 20, _, rfl, rfl, by decide, by decide, p5.same s12, fun y3 H3 s3 q3 => ⟨two_line, fun r1 hr1 => ?_⟩⟩
   have s13 := (s12.trans s3).upf (o := .tup [.str "not", y3]) hr1
   refine ⟨_, e5, xp, tp, 18, _, rfl, rfl, by decide, by decide, p5.same s13, fun y4 H4 s4 q4 => ⟨four_line, fun a ha => ?_⟩⟩
   have sr : Same H3 H4 := (same_upd hr1).trans s4
   exact k a _ _ (s13.trans s4) (.cons (q1.same ((s2.trans s3).trans sr)) (.cons (q2.same (s3.trans sr)) (.cons (.tup (s4 _ _ upd_same) (.cons (.str _) (.cons (q3.same sr) .nil))) (.cons q4 .nil)))) ha
end
noncomputable def sel {α : Type} (a0 a1 a2 a3 a4 a5 a6 : α) : Kn -> α
 | .w => a0 | .s => a1 | .r => a2 | .n => a3 | .b => a4 | .e => a5 | .o => a6
section
variable {P : Program} {w : World} {K : PySem.W.Frag} {mg : Str -> Option Value} {base h : Heap}
theorem txt_mk (X : K.In h) (G : h.Ns mainGlobals mg) {t0 t1 t2 t3 t4 t5 t6 : Tok}
  (n0 : PySem.W.nsIn K mainGlobals "isinstance" = some none)
  (n1 : PySem.W.nsIn K mainGlobals "int" = some none)
  (n2 : PySem.W.nsIn K mainGlobals "bool" = some none)
  (n3 : PySem.W.nsIn K mainGlobals "str" = some none)
  (n4 : PySem.W.nsIn K mainGlobals "list" = some none)
  (n5 : PySem.W.nsIn K mainGlobals "tuple" = some none)
  (n6 : PySem.W.nsIn K mainGlobals "len" = some none)
  (n7 : PySem.W.nsIn K mainGlobals "all" = some none)
  (n8 : PySem.W.nsIn K mainGlobals "range" = some none)
  (n9 : PySem.W.nsIn K mainGlobals "ValueError" = some none)
  (n10 : PySem.W.nsIn K mainGlobals "zip" = some none)
  (n11 : PySem.W.nsIn K mainGlobals "sum" = some none)
  (c0 : PySem.W.nsIn K mainGlobals "SMALL_SIGNS" = some (some (.str "abcdefghijklmnopqrstuvwxyz0123456789" t0)))
  (c1 : PySem.W.nsIn K mainGlobals "MOST_WORD_SIGNS" = some (some (.int 2000 t1)))
  (c2 : PySem.W.nsIn K mainGlobals "LEAST_IN_ROW" = some (some (.int 2 t2)))
  (c3 : PySem.W.nsIn K mainGlobals "MOST_IN_ROW" = some (some (.int 8 t3)))
  (c4 : PySem.W.nsIn K mainGlobals "MOST_FAR" = some (some (.int 20 t4)))
  (c5 : PySem.W.nsIn K mainGlobals "MOST_DEEP" = some (some (.int 8 t5)))
  (c6 : PySem.W.nsIn K mainGlobals "MOST_IN_ALL" = some (some (.int 40 t6)))
  : Txt mg where
 isi := PySem.W.mg_none_of X G n0
 int := PySem.W.mg_none_of X G n1
 bool := PySem.W.mg_none_of X G n2
 str := PySem.W.mg_none_of X G n3
 list := PySem.W.mg_none_of X G n4
 tuple := PySem.W.mg_none_of X G n5
 len := PySem.W.mg_none_of X G n6
 all := PySem.W.mg_none_of X G n7
 range := PySem.W.mg_none_of X G n8
 val := PySem.W.mg_none_of X G n9
 zip := PySem.W.mg_none_of X G n10
 sum := PySem.W.mg_none_of X G n11
 cSmall := ⟨t0, PySem.W.mg_of X G c0⟩
 cWord := ⟨t1, PySem.W.mg_of X G c1⟩
 cLR := ⟨t2, PySem.W.mg_of X G c2⟩
 cMR := ⟨t3, PySem.W.mg_of X G c3⟩
 cFar := ⟨t4, PySem.W.mg_of X G c4⟩
 cDeep := ⟨t5, PySem.W.mg_of X G c5⟩
 cAll := ⟨t6, PySem.W.mg_of X G c6⟩
theorem kd_mk (P : Program) {d : Addr} {ep : Nat} {t0 u0 t1 u1 t2 u2 t3 u3 t4 u4 t5 u5 t6 u6 : Tok} (X : K.In h) (G : h.Ns mainGlobals mg) (a : PySem.W.nsIn K mainGlobals "TOLD_LENGTHS" = some (some (.ref d))) (ns : (d == sysModules) = false)
  (l : K.lookup d = some ⟨.type "dict", none, .dict #[⟨PyData.keyHash w.params "word", .str "word" t0, .int 2 u0⟩, ⟨PyData.keyHash w.params "start", .str "start" t1, .int 2 u1⟩, ⟨PyData.keyHash w.params "row", .str "row" t2, .int 2 u2⟩, ⟨PyData.keyHash w.params "near", .str "near" t3, .int 4 u3⟩, ⟨PyData.keyHash w.params "both", .str "both" t4, .int 3 u4⟩, ⟨PyData.keyHash w.params "either", .str "either" t5, .int 3 u5⟩, ⟨PyData.keyHash w.params "not", .str "not" t6, .int 2 u6⟩] ep, #[]⟩) : ∃ d, mg "TOLD_LENGTHS" = some (.ref d) /\ KD P w K d lens := by
 refine ⟨d, PySem.W.mg_of X G a, ns, fun h' X' => ⟨[((.inr "word" : Key), .int 2 u0), ((.inr "start" : Key), .int 2 u1), ((.inr "row" : Key), .int 2 u2), ((.inr "near" : Key), .int 4 u3), ((.inr "both" : Key), .int 3 u4), ((.inr "either" : Key), .int 3 u5), ((.inr "not" : Key), .int 2 u6)], ?_, _, _, _, X' _ _ l, ?_, rfl, ?_, ?_, ?_⟩⟩
 ·exact .cons ⟨rfl, _, rfl⟩ (.cons ⟨rfl, _, rfl⟩ (.cons ⟨rfl, _, rfl⟩ (.cons ⟨rfl, _, rfl⟩ (.cons ⟨rfl, _, rfl⟩ (.cons ⟨rfl, _, rfl⟩ (.cons ⟨rfl, _, rfl⟩ (.nil)))))))
 ·exact ⟨rfl, rfl, rfl⟩
 ·intro e he
  simp at he
  rcases he with rfl | rfl | rfl | rfl | rfl | rfl | rfl
  ·exact ⟨.inr "word", keyIs_str "word" t0, rfl⟩
  ·exact ⟨.inr "start", keyIs_str "start" t1, rfl⟩
  ·exact ⟨.inr "row", keyIs_str "row" t2, rfl⟩
  ·exact ⟨.inr "near", keyIs_str "near" t3, rfl⟩
  ·exact ⟨.inr "both", keyIs_str "both" t4, rfl⟩
  ·exact ⟨.inr "either", keyIs_str "either" t5, rfl⟩
  ·exact ⟨.inr "not", keyIs_str "not" t6, rfl⟩
 ·exact .cons (keyIs_str "word" t0) rfl (.cons (keyIs_str "start" t1) rfl (.cons (keyIs_str "row" t2) rfl (.cons (keyIs_str "near" t3) rfl (.cons (keyIs_str "both" t4) rfl (.cons (keyIs_str "either" t5) rfl (.cons (keyIs_str "not" t6) rfl (.nil)))))))
 ·show ([.inr "word", .inr "start", .inr "row", .inr "near", .inr "both", .inr "either", .inr "not"] : List Key).Nodup
  decide +kernel
structure All (K : PySem.W.Frag) (mg : Str -> Option Value) (C fi ft fk fl : Kn -> Addr) (di dt dk dl : Kn -> FuncData) (CA CH CB o1 o2 o3 o4 o5 o6 o7 o8 p1 p2 p3 p4 : Addr) : Prop where
 cs : Cs K C
 nm : Nm mg C
 I : In K C fi di
 MT : Mt K C "told" qTold mTold ft dt
 MK : Mt K C "kids" qKids mKids fk dk
 ML : Mt K C "leaves" qLeav mLeav fl dl
 ask : mg "Ask" = some (.ref CA)
 X : IsX K C CA
 hK : ∀ i, PySem.W.kitAny K (.ref (C i)) ([C .w, C .s, C .r].map Value.ref) = some (lfk i)
 rx : RX K mg CH CB o1 o2 o3 o4 o5 o6 o7 o8 p1 p2 p3 p4
 ex : Ex K mg "BadAsk" CB
noncomputable def Clss (K : PySem.W.Frag) (mg : Str -> Option Value) : Prop := ∃ C fi ft fk fl di dt dk dl CA CH CB o1 o2 o3 o4 o5 o6 o7 o8 p1 p2 p3 p4, All K mg C fi ft fk fl di dt dk dl CA CH CB o1 o2 o3 o4 o5 o6 o7 o8 p1 p2 p3 p4
theorem cl_mk {cw cs cr cn cb ce co CA CH CB o1 o2 o3 o4 o5 o6 o7 o8 p1 p2 p3 p4 : Addr} {fIw : Addr} {odIw anIw : Option Addr} {slIw : Array (Option Value)} {ocIw kVIw dcIw pmIw cdIw ctIw : Value} {fTw : Addr} {odTw anTw : Option Addr} {slTw : Array (Option Value)} {ocTw kVTw dcTw pmTw cdTw ctTw : Value} {fKw : Addr} {odKw anKw : Option Addr} {slKw : Array (Option Value)} {ocKw kVKw dcKw pmKw cdKw ctKw : Value} {fLw : Addr} {odLw anLw : Option Addr} {slLw : Array (Option Value)} {ocLw kVLw dcLw pmLw cdLw ctLw : Value} {fIs : Addr} {odIs anIs : Option Addr} {slIs : Array (Option Value)} {ocIs kVIs dcIs pmIs cdIs ctIs : Value} {fTs : Addr} {odTs anTs : Option Addr} {slTs : Array (Option Value)} {ocTs kVTs dcTs pmTs cdTs ctTs : Value} {fKs : Addr} {odKs anKs : Option Addr} {slKs : Array (Option Value)} {ocKs kVKs dcKs pmKs cdKs ctKs : Value} {fLs : Addr} {odLs anLs : Option Addr} {slLs : Array (Option Value)} {ocLs kVLs dcLs pmLs cdLs ctLs : Value} {fIr : Addr} {odIr anIr : Option Addr} {slIr : Array (Option Value)} {ocIr kVIr dcIr pmIr cdIr ctIr : Value} {fTr : Addr} {odTr anTr : Option Addr} {slTr : Array (Option Value)} {ocTr kVTr dcTr pmTr cdTr ctTr : Value} {fKr : Addr} {odKr anKr : Option Addr} {slKr : Array (Option Value)} {ocKr kVKr dcKr pmKr cdKr ctKr : Value} {fLr : Addr} {odLr anLr : Option Addr} {slLr : Array (Option Value)} {ocLr kVLr dcLr pmLr cdLr ctLr : Value} {fIn : Addr} {odIn anIn : Option Addr} {slIn : Array (Option Value)} {ocIn kVIn dcIn pmIn cdIn ctIn : Value} {fTn : Addr} {odTn anTn : Option Addr} {slTn : Array (Option Value)} {ocTn kVTn dcTn pmTn cdTn ctTn : Value} {fKn : Addr} {odKn anKn : Option Addr} {slKn : Array (Option Value)} {ocKn kVKn dcKn pmKn cdKn ctKn : Value} {fLn : Addr} {odLn anLn : Option Addr} {slLn : Array (Option Value)} {ocLn kVLn dcLn pmLn cdLn ctLn : Value} {fIb : Addr} {odIb anIb : Option Addr} {slIb : Array (Option Value)} {ocIb kVIb dcIb pmIb cdIb ctIb : Value} {fTb : Addr} {odTb anTb : Option Addr} {slTb : Array (Option Value)} {ocTb kVTb dcTb pmTb cdTb ctTb : Value} {fKb : Addr} {odKb anKb : Option Addr} {slKb : Array (Option Value)} {ocKb kVKb dcKb pmKb cdKb ctKb : Value} {fLb : Addr} {odLb anLb : Option Addr} {slLb : Array (Option Value)} {ocLb kVLb dcLb pmLb cdLb ctLb : Value} {fIe : Addr} {odIe anIe : Option Addr} {slIe : Array (Option Value)} {ocIe kVIe dcIe pmIe cdIe ctIe : Value} {fTe : Addr} {odTe anTe : Option Addr} {slTe : Array (Option Value)} {ocTe kVTe dcTe pmTe cdTe ctTe : Value} {fKe : Addr} {odKe anKe : Option Addr} {slKe : Array (Option Value)} {ocKe kVKe dcKe pmKe cdKe ctKe : Value} {fLe : Addr} {odLe anLe : Option Addr} {slLe : Array (Option Value)} {ocLe kVLe dcLe pmLe cdLe ctLe : Value} {fIo : Addr} {odIo anIo : Option Addr} {slIo : Array (Option Value)} {ocIo kVIo dcIo pmIo cdIo ctIo : Value} {fTo : Addr} {odTo anTo : Option Addr} {slTo : Array (Option Value)} {ocTo kVTo dcTo pmTo cdTo ctTo : Value} {fKo : Addr} {odKo anKo : Option Addr} {slKo : Array (Option Value)} {ocKo kVKo dcKo pmKo cdKo ctKo : Value} {fLo : Addr} {odLo anLo : Option Addr} {slLo : Array (Option Value)} {ocLo kVLo dcLo pmLo cdLo ctLo : Value} {cdB : ClassData}
  (X : K.In h) (G : h.Ns mainGlobals mg)
  (hn : PySem.W.specialIn K (.builtin "object.__class__") "__get__" = some (some (.builtin "getset_descriptor.__get__")))
  (ht : PySem.W.takesIn K (.builtin "object.__class__") = some true)
  (aw : PySem.W.nsIn K mainGlobals "Word" = some (some (.ref cw)))
  (pgw : PySem.W.plainGet K cw Str.empty = true)
  (hdw : PySem.W.hasDictIn K cw = true)
  (pow : PySem.W.plainOver K cw = true)
  (saw : PySem.W.findIn K (.ref cw) "__setattr__" = some (some (.builtin "object.__setattr__")))
  (mkw : PySem.W.makesIn K cw = true)
  (kcw : PySem.W.keepIn K (.ref cw) = true)
  (haw : PySem.W.findIn K (.ref cw) "__class__" = some (some (.builtin "object.__class__")))
  (hmw : PySem.W.mroIn K cw (.type "object") = some true)
  (nWw : PySem.W.findIn K (.ref cw) "word" = some none)
  (nRw : PySem.W.findIn K (.ref cw) "side_by_side" = some none)
  (n1w : PySem.W.findIn K (.ref cw) "one" = some none)
  (n2w : PySem.W.findIn K (.ref cw) "other" = some none)
  (n3w : PySem.W.findIn K (.ref cw) "far" = some none)
  (aIw : PySem.W.findIn K (.ref cw) "__init__" = some (some (.ref fIw)))
  (iIw : PySem.W.isFn K (.ref fIw) = true)
  (lIw : K.lookup fIw = some ⟨ocIw, odIw, .func (PySem.W.fnOf "__init__" "Word.__init__" (defArgs (inClass cW 0)) (defBody (inClass cW 0)) (defScope (inClass cW 0)) .none kVIw dcIw pmIw anIw cdIw ctIw), slIw⟩)
  (cIw : PySem.W.codeIn K cdIw "Word.__init__" = true)
  (kIw : PySem.W.keepIn K (.ref fIw) = true)
  (aTw : PySem.W.findIn K (.ref cw) "told" = some (some (.ref fTw)))
  (iTw : PySem.W.isFn K (.ref fTw) = true)
  (lTw : K.lookup fTw = some ⟨ocTw, odTw, .func (PySem.W.fnOf "told" "Word.told" (defArgs (inClass cW 1)) (defBody (inClass cW 1)) (defScope (inClass cW 1)) .none kVTw dcTw pmTw anTw cdTw ctTw), slTw⟩)
  (cTw : PySem.W.codeIn K cdTw "Word.told" = true)
  (kTw : PySem.W.keepIn K (.ref fTw) = true)
  (aKw : PySem.W.findIn K (.ref cw) "kids" = some (some (.ref fKw)))
  (iKw : PySem.W.isFn K (.ref fKw) = true)
  (lKw : K.lookup fKw = some ⟨ocKw, odKw, .func (PySem.W.fnOf "kids" "Ask.kids" (defArgs (inClass cAsk 0)) (defBody (inClass cAsk 0)) (defScope (inClass cAsk 0)) .none kVKw dcKw pmKw anKw cdKw ctKw), slKw⟩)
  (cKw : PySem.W.codeIn K cdKw "Ask.kids" = true)
  (kKw : PySem.W.keepIn K (.ref fKw) = true)
  (aLw : PySem.W.findIn K (.ref cw) "leaves" = some (some (.ref fLw)))
  (iLw : PySem.W.isFn K (.ref fLw) = true)
  (lLw : K.lookup fLw = some ⟨ocLw, odLw, .func (PySem.W.fnOf "leaves" "Ask.leaves" (defArgs (inClass cAsk 1)) (defBody (inClass cAsk 1)) (defScope (inClass cAsk 1)) .none kVLw dcLw pmLw anLw cdLw ctLw), slLw⟩)
  (cLw : PySem.W.codeIn K cdLw "Ask.leaves" = true)
  (kLw : PySem.W.keepIn K (.ref fLw) = true)
  (as : PySem.W.nsIn K mainGlobals "Start" = some (some (.ref cs)))
  (pgs : PySem.W.plainGet K cs Str.empty = true)
  (hds : PySem.W.hasDictIn K cs = true)
  (pos : PySem.W.plainOver K cs = true)
  (sas : PySem.W.findIn K (.ref cs) "__setattr__" = some (some (.builtin "object.__setattr__")))
  (mks : PySem.W.makesIn K cs = true)
  (kcs : PySem.W.keepIn K (.ref cs) = true)
  (has : PySem.W.findIn K (.ref cs) "__class__" = some (some (.builtin "object.__class__")))
  (hms : PySem.W.mroIn K cs (.type "object") = some true)
  (nWs : PySem.W.findIn K (.ref cs) "word" = some none)
  (nRs : PySem.W.findIn K (.ref cs) "side_by_side" = some none)
  (n1s : PySem.W.findIn K (.ref cs) "one" = some none)
  (n2s : PySem.W.findIn K (.ref cs) "other" = some none)
  (n3s : PySem.W.findIn K (.ref cs) "far" = some none)
  (aIs : PySem.W.findIn K (.ref cs) "__init__" = some (some (.ref fIs)))
  (iIs : PySem.W.isFn K (.ref fIs) = true)
  (lIs : K.lookup fIs = some ⟨ocIs, odIs, .func (PySem.W.fnOf "__init__" "Start.__init__" (defArgs (inClass cS 0)) (defBody (inClass cS 0)) (defScope (inClass cS 0)) .none kVIs dcIs pmIs anIs cdIs ctIs), slIs⟩)
  (cIs : PySem.W.codeIn K cdIs "Start.__init__" = true)
  (kIs : PySem.W.keepIn K (.ref fIs) = true)
  (aTs : PySem.W.findIn K (.ref cs) "told" = some (some (.ref fTs)))
  (iTs : PySem.W.isFn K (.ref fTs) = true)
  (lTs : K.lookup fTs = some ⟨ocTs, odTs, .func (PySem.W.fnOf "told" "Start.told" (defArgs (inClass cS 1)) (defBody (inClass cS 1)) (defScope (inClass cS 1)) .none kVTs dcTs pmTs anTs cdTs ctTs), slTs⟩)
  (cTs : PySem.W.codeIn K cdTs "Start.told" = true)
  (kTs : PySem.W.keepIn K (.ref fTs) = true)
  (aKs : PySem.W.findIn K (.ref cs) "kids" = some (some (.ref fKs)))
  (iKs : PySem.W.isFn K (.ref fKs) = true)
  (lKs : K.lookup fKs = some ⟨ocKs, odKs, .func (PySem.W.fnOf "kids" "Ask.kids" (defArgs (inClass cAsk 0)) (defBody (inClass cAsk 0)) (defScope (inClass cAsk 0)) .none kVKs dcKs pmKs anKs cdKs ctKs), slKs⟩)
  (cKs : PySem.W.codeIn K cdKs "Ask.kids" = true)
  (kKs : PySem.W.keepIn K (.ref fKs) = true)
  (aLs : PySem.W.findIn K (.ref cs) "leaves" = some (some (.ref fLs)))
  (iLs : PySem.W.isFn K (.ref fLs) = true)
  (lLs : K.lookup fLs = some ⟨ocLs, odLs, .func (PySem.W.fnOf "leaves" "Ask.leaves" (defArgs (inClass cAsk 1)) (defBody (inClass cAsk 1)) (defScope (inClass cAsk 1)) .none kVLs dcLs pmLs anLs cdLs ctLs), slLs⟩)
  (cLs : PySem.W.codeIn K cdLs "Ask.leaves" = true)
  (kLs : PySem.W.keepIn K (.ref fLs) = true)
  (ar : PySem.W.nsIn K mainGlobals "Row" = some (some (.ref cr)))
  (pgr : PySem.W.plainGet K cr Str.empty = true)
  (hdr : PySem.W.hasDictIn K cr = true)
  (por : PySem.W.plainOver K cr = true)
  (sar : PySem.W.findIn K (.ref cr) "__setattr__" = some (some (.builtin "object.__setattr__")))
  (mkr : PySem.W.makesIn K cr = true)
  (kcr : PySem.W.keepIn K (.ref cr) = true)
  (har : PySem.W.findIn K (.ref cr) "__class__" = some (some (.builtin "object.__class__")))
  (hmr : PySem.W.mroIn K cr (.type "object") = some true)
  (nWr : PySem.W.findIn K (.ref cr) "word" = some none)
  (nRr : PySem.W.findIn K (.ref cr) "side_by_side" = some none)
  (n1r : PySem.W.findIn K (.ref cr) "one" = some none)
  (n2r : PySem.W.findIn K (.ref cr) "other" = some none)
  (n3r : PySem.W.findIn K (.ref cr) "far" = some none)
  (aIr : PySem.W.findIn K (.ref cr) "__init__" = some (some (.ref fIr)))
  (iIr : PySem.W.isFn K (.ref fIr) = true)
  (lIr : K.lookup fIr = some ⟨ocIr, odIr, .func (PySem.W.fnOf "__init__" "Row.__init__" (defArgs (inClass cR 0)) (defBody (inClass cR 0)) (defScope (inClass cR 0)) .none kVIr dcIr pmIr anIr cdIr ctIr), slIr⟩)
  (cIr : PySem.W.codeIn K cdIr "Row.__init__" = true)
  (kIr : PySem.W.keepIn K (.ref fIr) = true)
  (aTr : PySem.W.findIn K (.ref cr) "told" = some (some (.ref fTr)))
  (iTr : PySem.W.isFn K (.ref fTr) = true)
  (lTr : K.lookup fTr = some ⟨ocTr, odTr, .func (PySem.W.fnOf "told" "Row.told" (defArgs (inClass cR 1)) (defBody (inClass cR 1)) (defScope (inClass cR 1)) .none kVTr dcTr pmTr anTr cdTr ctTr), slTr⟩)
  (cTr : PySem.W.codeIn K cdTr "Row.told" = true)
  (kTr : PySem.W.keepIn K (.ref fTr) = true)
  (aKr : PySem.W.findIn K (.ref cr) "kids" = some (some (.ref fKr)))
  (iKr : PySem.W.isFn K (.ref fKr) = true)
  (lKr : K.lookup fKr = some ⟨ocKr, odKr, .func (PySem.W.fnOf "kids" "Ask.kids" (defArgs (inClass cAsk 0)) (defBody (inClass cAsk 0)) (defScope (inClass cAsk 0)) .none kVKr dcKr pmKr anKr cdKr ctKr), slKr⟩)
  (cKr : PySem.W.codeIn K cdKr "Ask.kids" = true)
  (kKr : PySem.W.keepIn K (.ref fKr) = true)
  (aLr : PySem.W.findIn K (.ref cr) "leaves" = some (some (.ref fLr)))
  (iLr : PySem.W.isFn K (.ref fLr) = true)
  (lLr : K.lookup fLr = some ⟨ocLr, odLr, .func (PySem.W.fnOf "leaves" "Ask.leaves" (defArgs (inClass cAsk 1)) (defBody (inClass cAsk 1)) (defScope (inClass cAsk 1)) .none kVLr dcLr pmLr anLr cdLr ctLr), slLr⟩)
  (cLr : PySem.W.codeIn K cdLr "Ask.leaves" = true)
  (kLr : PySem.W.keepIn K (.ref fLr) = true)
  (an : PySem.W.nsIn K mainGlobals "Near" = some (some (.ref cn)))
  (pgn : PySem.W.plainGet K cn Str.empty = true)
  (hdn : PySem.W.hasDictIn K cn = true)
  (pon : PySem.W.plainOver K cn = true)
  (san : PySem.W.findIn K (.ref cn) "__setattr__" = some (some (.builtin "object.__setattr__")))
  (mkn : PySem.W.makesIn K cn = true)
  (kcn : PySem.W.keepIn K (.ref cn) = true)
  (han : PySem.W.findIn K (.ref cn) "__class__" = some (some (.builtin "object.__class__")))
  (hmn : PySem.W.mroIn K cn (.type "object") = some true)
  (nWn : PySem.W.findIn K (.ref cn) "word" = some none)
  (nRn : PySem.W.findIn K (.ref cn) "side_by_side" = some none)
  (n1n : PySem.W.findIn K (.ref cn) "one" = some none)
  (n2n : PySem.W.findIn K (.ref cn) "other" = some none)
  (n3n : PySem.W.findIn K (.ref cn) "far" = some none)
  (aIn : PySem.W.findIn K (.ref cn) "__init__" = some (some (.ref fIn)))
  (iIn : PySem.W.isFn K (.ref fIn) = true)
  (lIn : K.lookup fIn = some ⟨ocIn, odIn, .func (PySem.W.fnOf "__init__" "Near.__init__" (defArgs (inClass cN 0)) (defBody (inClass cN 0)) (defScope (inClass cN 0)) .none kVIn dcIn pmIn anIn cdIn ctIn), slIn⟩)
  (cIn : PySem.W.codeIn K cdIn "Near.__init__" = true)
  (kIn : PySem.W.keepIn K (.ref fIn) = true)
  (aTn : PySem.W.findIn K (.ref cn) "told" = some (some (.ref fTn)))
  (iTn : PySem.W.isFn K (.ref fTn) = true)
  (lTn : K.lookup fTn = some ⟨ocTn, odTn, .func (PySem.W.fnOf "told" "Near.told" (defArgs (inClass cN 1)) (defBody (inClass cN 1)) (defScope (inClass cN 1)) .none kVTn dcTn pmTn anTn cdTn ctTn), slTn⟩)
  (cTn : PySem.W.codeIn K cdTn "Near.told" = true)
  (kTn : PySem.W.keepIn K (.ref fTn) = true)
  (aKn : PySem.W.findIn K (.ref cn) "kids" = some (some (.ref fKn)))
  (iKn : PySem.W.isFn K (.ref fKn) = true)
  (lKn : K.lookup fKn = some ⟨ocKn, odKn, .func (PySem.W.fnOf "kids" "Near.kids" (defArgs (inClass cN 3)) (defBody (inClass cN 3)) (defScope (inClass cN 3)) .none kVKn dcKn pmKn anKn cdKn ctKn), slKn⟩)
  (cKn : PySem.W.codeIn K cdKn "Near.kids" = true)
  (kKn : PySem.W.keepIn K (.ref fKn) = true)
  (aLn : PySem.W.findIn K (.ref cn) "leaves" = some (some (.ref fLn)))
  (iLn : PySem.W.isFn K (.ref fLn) = true)
  (lLn : K.lookup fLn = some ⟨ocLn, odLn, .func (PySem.W.fnOf "leaves" "Ask.leaves" (defArgs (inClass cAsk 1)) (defBody (inClass cAsk 1)) (defScope (inClass cAsk 1)) .none kVLn dcLn pmLn anLn cdLn ctLn), slLn⟩)
  (cLn : PySem.W.codeIn K cdLn "Ask.leaves" = true)
  (kLn : PySem.W.keepIn K (.ref fLn) = true)
  (ab : PySem.W.nsIn K mainGlobals "Both" = some (some (.ref cb)))
  (pgb : PySem.W.plainGet K cb Str.empty = true)
  (hdb : PySem.W.hasDictIn K cb = true)
  (pob : PySem.W.plainOver K cb = true)
  (sab : PySem.W.findIn K (.ref cb) "__setattr__" = some (some (.builtin "object.__setattr__")))
  (mkb : PySem.W.makesIn K cb = true)
  (kcb : PySem.W.keepIn K (.ref cb) = true)
  (hab : PySem.W.findIn K (.ref cb) "__class__" = some (some (.builtin "object.__class__")))
  (hmb : PySem.W.mroIn K cb (.type "object") = some true)
  (nWb : PySem.W.findIn K (.ref cb) "word" = some none)
  (nRb : PySem.W.findIn K (.ref cb) "side_by_side" = some none)
  (n1b : PySem.W.findIn K (.ref cb) "one" = some none)
  (n2b : PySem.W.findIn K (.ref cb) "other" = some none)
  (n3b : PySem.W.findIn K (.ref cb) "far" = some none)
  (aIb : PySem.W.findIn K (.ref cb) "__init__" = some (some (.ref fIb)))
  (iIb : PySem.W.isFn K (.ref fIb) = true)
  (lIb : K.lookup fIb = some ⟨ocIb, odIb, .func (PySem.W.fnOf "__init__" "Both.__init__" (defArgs (inClass cB 0)) (defBody (inClass cB 0)) (defScope (inClass cB 0)) .none kVIb dcIb pmIb anIb cdIb ctIb), slIb⟩)
  (cIb : PySem.W.codeIn K cdIb "Both.__init__" = true)
  (kIb : PySem.W.keepIn K (.ref fIb) = true)
  (aTb : PySem.W.findIn K (.ref cb) "told" = some (some (.ref fTb)))
  (iTb : PySem.W.isFn K (.ref fTb) = true)
  (lTb : K.lookup fTb = some ⟨ocTb, odTb, .func (PySem.W.fnOf "told" "Both.told" (defArgs (inClass cB 1)) (defBody (inClass cB 1)) (defScope (inClass cB 1)) .none kVTb dcTb pmTb anTb cdTb ctTb), slTb⟩)
  (cTb : PySem.W.codeIn K cdTb "Both.told" = true)
  (kTb : PySem.W.keepIn K (.ref fTb) = true)
  (aKb : PySem.W.findIn K (.ref cb) "kids" = some (some (.ref fKb)))
  (iKb : PySem.W.isFn K (.ref fKb) = true)
  (lKb : K.lookup fKb = some ⟨ocKb, odKb, .func (PySem.W.fnOf "kids" "Both.kids" (defArgs (inClass cB 3)) (defBody (inClass cB 3)) (defScope (inClass cB 3)) .none kVKb dcKb pmKb anKb cdKb ctKb), slKb⟩)
  (cKb : PySem.W.codeIn K cdKb "Both.kids" = true)
  (kKb : PySem.W.keepIn K (.ref fKb) = true)
  (aLb : PySem.W.findIn K (.ref cb) "leaves" = some (some (.ref fLb)))
  (iLb : PySem.W.isFn K (.ref fLb) = true)
  (lLb : K.lookup fLb = some ⟨ocLb, odLb, .func (PySem.W.fnOf "leaves" "Both.leaves" (defArgs (inClass cB 4)) (defBody (inClass cB 4)) (defScope (inClass cB 4)) .none kVLb dcLb pmLb anLb cdLb ctLb), slLb⟩)
  (cLb : PySem.W.codeIn K cdLb "Both.leaves" = true)
  (kLb : PySem.W.keepIn K (.ref fLb) = true)
  (ae : PySem.W.nsIn K mainGlobals "Either" = some (some (.ref ce)))
  (pge : PySem.W.plainGet K ce Str.empty = true)
  (hde : PySem.W.hasDictIn K ce = true)
  (poe : PySem.W.plainOver K ce = true)
  (sae : PySem.W.findIn K (.ref ce) "__setattr__" = some (some (.builtin "object.__setattr__")))
  (mke : PySem.W.makesIn K ce = true)
  (kce : PySem.W.keepIn K (.ref ce) = true)
  (hae : PySem.W.findIn K (.ref ce) "__class__" = some (some (.builtin "object.__class__")))
  (hme : PySem.W.mroIn K ce (.type "object") = some true)
  (nWe : PySem.W.findIn K (.ref ce) "word" = some none)
  (nRe : PySem.W.findIn K (.ref ce) "side_by_side" = some none)
  (n1e : PySem.W.findIn K (.ref ce) "one" = some none)
  (n2e : PySem.W.findIn K (.ref ce) "other" = some none)
  (n3e : PySem.W.findIn K (.ref ce) "far" = some none)
  (aIe : PySem.W.findIn K (.ref ce) "__init__" = some (some (.ref fIe)))
  (iIe : PySem.W.isFn K (.ref fIe) = true)
  (lIe : K.lookup fIe = some ⟨ocIe, odIe, .func (PySem.W.fnOf "__init__" "Either.__init__" (defArgs (inClass cE 0)) (defBody (inClass cE 0)) (defScope (inClass cE 0)) .none kVIe dcIe pmIe anIe cdIe ctIe), slIe⟩)
  (cIe : PySem.W.codeIn K cdIe "Either.__init__" = true)
  (kIe : PySem.W.keepIn K (.ref fIe) = true)
  (aTe : PySem.W.findIn K (.ref ce) "told" = some (some (.ref fTe)))
  (iTe : PySem.W.isFn K (.ref fTe) = true)
  (lTe : K.lookup fTe = some ⟨ocTe, odTe, .func (PySem.W.fnOf "told" "Either.told" (defArgs (inClass cE 1)) (defBody (inClass cE 1)) (defScope (inClass cE 1)) .none kVTe dcTe pmTe anTe cdTe ctTe), slTe⟩)
  (cTe : PySem.W.codeIn K cdTe "Either.told" = true)
  (kTe : PySem.W.keepIn K (.ref fTe) = true)
  (aKe : PySem.W.findIn K (.ref ce) "kids" = some (some (.ref fKe)))
  (iKe : PySem.W.isFn K (.ref fKe) = true)
  (lKe : K.lookup fKe = some ⟨ocKe, odKe, .func (PySem.W.fnOf "kids" "Either.kids" (defArgs (inClass cE 3)) (defBody (inClass cE 3)) (defScope (inClass cE 3)) .none kVKe dcKe pmKe anKe cdKe ctKe), slKe⟩)
  (cKe : PySem.W.codeIn K cdKe "Either.kids" = true)
  (kKe : PySem.W.keepIn K (.ref fKe) = true)
  (aLe : PySem.W.findIn K (.ref ce) "leaves" = some (some (.ref fLe)))
  (iLe : PySem.W.isFn K (.ref fLe) = true)
  (lLe : K.lookup fLe = some ⟨ocLe, odLe, .func (PySem.W.fnOf "leaves" "Either.leaves" (defArgs (inClass cE 4)) (defBody (inClass cE 4)) (defScope (inClass cE 4)) .none kVLe dcLe pmLe anLe cdLe ctLe), slLe⟩)
  (cLe : PySem.W.codeIn K cdLe "Either.leaves" = true)
  (kLe : PySem.W.keepIn K (.ref fLe) = true)
  (ao : PySem.W.nsIn K mainGlobals "Not" = some (some (.ref co)))
  (pgo : PySem.W.plainGet K co Str.empty = true)
  (hdo : PySem.W.hasDictIn K co = true)
  (poo : PySem.W.plainOver K co = true)
  (sao : PySem.W.findIn K (.ref co) "__setattr__" = some (some (.builtin "object.__setattr__")))
  (mko : PySem.W.makesIn K co = true)
  (kco : PySem.W.keepIn K (.ref co) = true)
  (hao : PySem.W.findIn K (.ref co) "__class__" = some (some (.builtin "object.__class__")))
  (hmo : PySem.W.mroIn K co (.type "object") = some true)
  (nWo : PySem.W.findIn K (.ref co) "word" = some none)
  (nRo : PySem.W.findIn K (.ref co) "side_by_side" = some none)
  (n1o : PySem.W.findIn K (.ref co) "one" = some none)
  (n2o : PySem.W.findIn K (.ref co) "other" = some none)
  (n3o : PySem.W.findIn K (.ref co) "far" = some none)
  (aIo : PySem.W.findIn K (.ref co) "__init__" = some (some (.ref fIo)))
  (iIo : PySem.W.isFn K (.ref fIo) = true)
  (lIo : K.lookup fIo = some ⟨ocIo, odIo, .func (PySem.W.fnOf "__init__" "Not.__init__" (defArgs (inClass cO 0)) (defBody (inClass cO 0)) (defScope (inClass cO 0)) .none kVIo dcIo pmIo anIo cdIo ctIo), slIo⟩)
  (cIo : PySem.W.codeIn K cdIo "Not.__init__" = true)
  (kIo : PySem.W.keepIn K (.ref fIo) = true)
  (aTo : PySem.W.findIn K (.ref co) "told" = some (some (.ref fTo)))
  (iTo : PySem.W.isFn K (.ref fTo) = true)
  (lTo : K.lookup fTo = some ⟨ocTo, odTo, .func (PySem.W.fnOf "told" "Not.told" (defArgs (inClass cO 1)) (defBody (inClass cO 1)) (defScope (inClass cO 1)) .none kVTo dcTo pmTo anTo cdTo ctTo), slTo⟩)
  (cTo : PySem.W.codeIn K cdTo "Not.told" = true)
  (kTo : PySem.W.keepIn K (.ref fTo) = true)
  (aKo : PySem.W.findIn K (.ref co) "kids" = some (some (.ref fKo)))
  (iKo : PySem.W.isFn K (.ref fKo) = true)
  (lKo : K.lookup fKo = some ⟨ocKo, odKo, .func (PySem.W.fnOf "kids" "Not.kids" (defArgs (inClass cO 3)) (defBody (inClass cO 3)) (defScope (inClass cO 3)) .none kVKo dcKo pmKo anKo cdKo ctKo), slKo⟩)
  (cKo : PySem.W.codeIn K cdKo "Not.kids" = true)
  (kKo : PySem.W.keepIn K (.ref fKo) = true)
  (aLo : PySem.W.findIn K (.ref co) "leaves" = some (some (.ref fLo)))
  (iLo : PySem.W.isFn K (.ref fLo) = true)
  (lLo : K.lookup fLo = some ⟨ocLo, odLo, .func (PySem.W.fnOf "leaves" "Not.leaves" (defArgs (inClass cO 4)) (defBody (inClass cO 4)) (defScope (inClass cO 4)) .none kVLo dcLo pmLo anLo cdLo ctLo), slLo⟩)
  (cLo : PySem.W.codeIn K cdLo "Not.leaves" = true)
  (kLo : PySem.W.keepIn K (.ref fLo) = true)
  (aA : PySem.W.nsIn K mainGlobals "Ask" = some (some (.ref CA)))
  (qww : PySem.W.kitOne K (.ref cw) (.ref cw) = some true)
  (qws : PySem.W.kitOne K (.ref cw) (.ref cs) = some false)
  (qwr : PySem.W.kitOne K (.ref cw) (.ref cr) = some false)
  (qwn : PySem.W.kitOne K (.ref cw) (.ref cn) = some false)
  (qwb : PySem.W.kitOne K (.ref cw) (.ref cb) = some false)
  (qwe : PySem.W.kitOne K (.ref cw) (.ref ce) = some false)
  (qwo : PySem.W.kitOne K (.ref cw) (.ref co) = some false)
  (qAw : PySem.W.kitOne K (.ref cw) (.ref CA) = some true)
  (qLw : PySem.W.kitAny K (.ref cw) [.ref cw, .ref cs, .ref cr] = some true)
  (qsw : PySem.W.kitOne K (.ref cs) (.ref cw) = some false)
  (qss : PySem.W.kitOne K (.ref cs) (.ref cs) = some true)
  (qsr : PySem.W.kitOne K (.ref cs) (.ref cr) = some false)
  (qsn : PySem.W.kitOne K (.ref cs) (.ref cn) = some false)
  (qsb : PySem.W.kitOne K (.ref cs) (.ref cb) = some false)
  (qse : PySem.W.kitOne K (.ref cs) (.ref ce) = some false)
  (qso : PySem.W.kitOne K (.ref cs) (.ref co) = some false)
  (qAs : PySem.W.kitOne K (.ref cs) (.ref CA) = some true)
  (qLs : PySem.W.kitAny K (.ref cs) [.ref cw, .ref cs, .ref cr] = some true)
  (qrw : PySem.W.kitOne K (.ref cr) (.ref cw) = some false)
  (qrs : PySem.W.kitOne K (.ref cr) (.ref cs) = some false)
  (qrr : PySem.W.kitOne K (.ref cr) (.ref cr) = some true)
  (qrn : PySem.W.kitOne K (.ref cr) (.ref cn) = some false)
  (qrb : PySem.W.kitOne K (.ref cr) (.ref cb) = some false)
  (qre : PySem.W.kitOne K (.ref cr) (.ref ce) = some false)
  (qro : PySem.W.kitOne K (.ref cr) (.ref co) = some false)
  (qAr : PySem.W.kitOne K (.ref cr) (.ref CA) = some true)
  (qLr : PySem.W.kitAny K (.ref cr) [.ref cw, .ref cs, .ref cr] = some true)
  (qnw : PySem.W.kitOne K (.ref cn) (.ref cw) = some false)
  (qns : PySem.W.kitOne K (.ref cn) (.ref cs) = some false)
  (qnr : PySem.W.kitOne K (.ref cn) (.ref cr) = some false)
  (qnn : PySem.W.kitOne K (.ref cn) (.ref cn) = some true)
  (qnb : PySem.W.kitOne K (.ref cn) (.ref cb) = some false)
  (qne : PySem.W.kitOne K (.ref cn) (.ref ce) = some false)
  (qno : PySem.W.kitOne K (.ref cn) (.ref co) = some false)
  (qAn : PySem.W.kitOne K (.ref cn) (.ref CA) = some true)
  (qLn : PySem.W.kitAny K (.ref cn) [.ref cw, .ref cs, .ref cr] = some false)
  (qbw : PySem.W.kitOne K (.ref cb) (.ref cw) = some false)
  (qbs : PySem.W.kitOne K (.ref cb) (.ref cs) = some false)
  (qbr : PySem.W.kitOne K (.ref cb) (.ref cr) = some false)
  (qbn : PySem.W.kitOne K (.ref cb) (.ref cn) = some false)
  (qbb : PySem.W.kitOne K (.ref cb) (.ref cb) = some true)
  (qbe : PySem.W.kitOne K (.ref cb) (.ref ce) = some false)
  (qbo : PySem.W.kitOne K (.ref cb) (.ref co) = some false)
  (qAb : PySem.W.kitOne K (.ref cb) (.ref CA) = some true)
  (qLb : PySem.W.kitAny K (.ref cb) [.ref cw, .ref cs, .ref cr] = some false)
  (qew : PySem.W.kitOne K (.ref ce) (.ref cw) = some false)
  (qes : PySem.W.kitOne K (.ref ce) (.ref cs) = some false)
  (qer : PySem.W.kitOne K (.ref ce) (.ref cr) = some false)
  (qen : PySem.W.kitOne K (.ref ce) (.ref cn) = some false)
  (qeb : PySem.W.kitOne K (.ref ce) (.ref cb) = some false)
  (qee : PySem.W.kitOne K (.ref ce) (.ref ce) = some true)
  (qeo : PySem.W.kitOne K (.ref ce) (.ref co) = some false)
  (qAe : PySem.W.kitOne K (.ref ce) (.ref CA) = some true)
  (qLe : PySem.W.kitAny K (.ref ce) [.ref cw, .ref cs, .ref cr] = some false)
  (qow : PySem.W.kitOne K (.ref co) (.ref cw) = some false)
  (qos : PySem.W.kitOne K (.ref co) (.ref cs) = some false)
  (qor : PySem.W.kitOne K (.ref co) (.ref cr) = some false)
  (qon : PySem.W.kitOne K (.ref co) (.ref cn) = some false)
  (qob : PySem.W.kitOne K (.ref co) (.ref cb) = some false)
  (qoe : PySem.W.kitOne K (.ref co) (.ref ce) = some false)
  (qoo : PySem.W.kitOne K (.ref co) (.ref co) = some true)
  (qAo : PySem.W.kitOne K (.ref co) (.ref CA) = some true)
  (qLo : PySem.W.kitAny K (.ref co) [.ref cw, .ref cs, .ref cr] = some false)
  (aH : PySem.W.nsIn K mainGlobals "HallError" = some (some (.ref CH)))
  (aB : PySem.W.nsIn K mainGlobals "BadAsk" = some (some (.ref CB)))
  (xB : PySem.W.excIn K CB [.type "ValueError", .type "Exception", .type "BaseException", .type "object"] "ValueError.__new__" = true)
  (m1 : PySem.W.nsIn K mainGlobals "BadKept" = some (some (.ref o1)))
  (m2 : PySem.W.nsIn K mainGlobals "BadKey" = some (some (.ref o2)))
  (m3 : PySem.W.nsIn K mainGlobals "BadNumber" = some (some (.ref o3)))
  (m4 : PySem.W.nsIn K mainGlobals "BadParts" = some (some (.ref o4)))
  (m5 : PySem.W.nsIn K mainGlobals "BadRow" = some (some (.ref o5)))
  (m6 : PySem.W.nsIn K mainGlobals "BadSpan" = some (some (.ref o6)))
  (m7 : PySem.W.nsIn K mainGlobals "BadText" = some (some (.ref o7)))
  (m8 : PySem.W.nsIn K mainGlobals "BadWord" = some (some (.ref o8)))
  (y1 : PySem.W.nsIn K mainGlobals "NoAsk" = some (some (.ref p1)))
  (y2 : PySem.W.nsIn K mainGlobals "NoLine" = some (some (.ref p2)))
  (y3 : PySem.W.nsIn K mainGlobals "NoText" = some (some (.ref p3)))
  (y4 : PySem.W.nsIn K mainGlobals "Twice" = some (some (.ref p4)))
  (clB : PySem.W.clsIn K CB = some cdB)
  (gaB : PySem.W.findIn K (.ref CB) "__getattribute__" = some (some (.builtin "BaseException.__getattribute__")))
  (hkB : PySem.W.findIn K (.ref CB) "__getattr__" = some none)
  (haB : PySem.W.findIn K (.ref CB) "__class__" = some (some (.builtin "object.__class__")))
  (hmB : PySem.W.mroIn K CB (.type "object") = some true)
  (hbB : PySem.W.mroIn K CB (.type "BaseException") = some true)
  (eB : PySem.W.exmOne K (.ref CB) (.ref CH) = some true)
  (oB : PySem.W.kitAny K (.ref CB) [.ref o1, .ref o2, .ref o3, .ref o4, .ref o5, .ref o6, .ref o7, .ref o8] = some false)
  (pB : PySem.W.kitAny K (.ref CB) [.ref p1, .ref p2, .ref p3, .ref p4] = some false)
  (kB : PySem.W.kitOne K (.ref CB) (.ref CB) = some true)
  (vB : PySem.W.kitOne K (.ref CB) (.type "ValueError") = some true)
  : Clss K mg := by
 refine ⟨(sel cw cs cr cn cb ce co), (sel fIw fIs fIr fIn fIb fIe fIo), (sel fTw fTs fTr fTn fTb fTe fTo), (sel fKw fKs fKr fKn fKb fKe fKo), (sel fLw fLs fLr fLn fLb fLe fLo), (sel (PySem.W.fnOf "__init__" "Word.__init__" (defArgs (inClass cW 0)) (defBody (inClass cW 0)) (defScope (inClass cW 0)) .none kVIw dcIw pmIw anIw cdIw ctIw) (PySem.W.fnOf "__init__" "Start.__init__" (defArgs (inClass cS 0)) (defBody (inClass cS 0)) (defScope (inClass cS 0)) .none kVIs dcIs pmIs anIs cdIs ctIs) (PySem.W.fnOf "__init__" "Row.__init__" (defArgs (inClass cR 0)) (defBody (inClass cR 0)) (defScope (inClass cR 0)) .none kVIr dcIr pmIr anIr cdIr ctIr) (PySem.W.fnOf "__init__" "Near.__init__" (defArgs (inClass cN 0)) (defBody (inClass cN 0)) (defScope (inClass cN 0)) .none kVIn dcIn pmIn anIn cdIn ctIn) (PySem.W.fnOf "__init__" "Both.__init__" (defArgs (inClass cB 0)) (defBody (inClass cB 0)) (defScope (inClass cB 0)) .none kVIb dcIb pmIb anIb cdIb ctIb) (PySem.W.fnOf "__init__" "Either.__init__" (defArgs (inClass cE 0)) (defBody (inClass cE 0)) (defScope (inClass cE 0)) .none kVIe dcIe pmIe anIe cdIe ctIe) (PySem.W.fnOf "__init__" "Not.__init__" (defArgs (inClass cO 0)) (defBody (inClass cO 0)) (defScope (inClass cO 0)) .none kVIo dcIo pmIo anIo cdIo ctIo)), (sel (PySem.W.fnOf "told" "Word.told" (defArgs (inClass cW 1)) (defBody (inClass cW 1)) (defScope (inClass cW 1)) .none kVTw dcTw pmTw anTw cdTw ctTw) (PySem.W.fnOf "told" "Start.told" (defArgs (inClass cS 1)) (defBody (inClass cS 1)) (defScope (inClass cS 1)) .none kVTs dcTs pmTs anTs cdTs ctTs) (PySem.W.fnOf "told" "Row.told" (defArgs (inClass cR 1)) (defBody (inClass cR 1)) (defScope (inClass cR 1)) .none kVTr dcTr pmTr anTr cdTr ctTr) (PySem.W.fnOf "told" "Near.told" (defArgs (inClass cN 1)) (defBody (inClass cN 1)) (defScope (inClass cN 1)) .none kVTn dcTn pmTn anTn cdTn ctTn) (PySem.W.fnOf "told" "Both.told" (defArgs (inClass cB 1)) (defBody (inClass cB 1)) (defScope (inClass cB 1)) .none kVTb dcTb pmTb anTb cdTb ctTb) (PySem.W.fnOf "told" "Either.told" (defArgs (inClass cE 1)) (defBody (inClass cE 1)) (defScope (inClass cE 1)) .none kVTe dcTe pmTe anTe cdTe ctTe) (PySem.W.fnOf "told" "Not.told" (defArgs (inClass cO 1)) (defBody (inClass cO 1)) (defScope (inClass cO 1)) .none kVTo dcTo pmTo anTo cdTo ctTo)), (sel (PySem.W.fnOf "kids" "Ask.kids" (defArgs (inClass cAsk 0)) (defBody (inClass cAsk 0)) (defScope (inClass cAsk 0)) .none kVKw dcKw pmKw anKw cdKw ctKw) (PySem.W.fnOf "kids" "Ask.kids" (defArgs (inClass cAsk 0)) (defBody (inClass cAsk 0)) (defScope (inClass cAsk 0)) .none kVKs dcKs pmKs anKs cdKs ctKs) (PySem.W.fnOf "kids" "Ask.kids" (defArgs (inClass cAsk 0)) (defBody (inClass cAsk 0)) (defScope (inClass cAsk 0)) .none kVKr dcKr pmKr anKr cdKr ctKr) (PySem.W.fnOf "kids" "Near.kids" (defArgs (inClass cN 3)) (defBody (inClass cN 3)) (defScope (inClass cN 3)) .none kVKn dcKn pmKn anKn cdKn ctKn) (PySem.W.fnOf "kids" "Both.kids" (defArgs (inClass cB 3)) (defBody (inClass cB 3)) (defScope (inClass cB 3)) .none kVKb dcKb pmKb anKb cdKb ctKb) (PySem.W.fnOf "kids" "Either.kids" (defArgs (inClass cE 3)) (defBody (inClass cE 3)) (defScope (inClass cE 3)) .none kVKe dcKe pmKe anKe cdKe ctKe) (PySem.W.fnOf "kids" "Not.kids" (defArgs (inClass cO 3)) (defBody (inClass cO 3)) (defScope (inClass cO 3)) .none kVKo dcKo pmKo anKo cdKo ctKo)), (sel (PySem.W.fnOf "leaves" "Ask.leaves" (defArgs (inClass cAsk 1)) (defBody (inClass cAsk 1)) (defScope (inClass cAsk 1)) .none kVLw dcLw pmLw anLw cdLw ctLw) (PySem.W.fnOf "leaves" "Ask.leaves" (defArgs (inClass cAsk 1)) (defBody (inClass cAsk 1)) (defScope (inClass cAsk 1)) .none kVLs dcLs pmLs anLs cdLs ctLs) (PySem.W.fnOf "leaves" "Ask.leaves" (defArgs (inClass cAsk 1)) (defBody (inClass cAsk 1)) (defScope (inClass cAsk 1)) .none kVLr dcLr pmLr anLr cdLr ctLr) (PySem.W.fnOf "leaves" "Ask.leaves" (defArgs (inClass cAsk 1)) (defBody (inClass cAsk 1)) (defScope (inClass cAsk 1)) .none kVLn dcLn pmLn anLn cdLn ctLn) (PySem.W.fnOf "leaves" "Both.leaves" (defArgs (inClass cB 4)) (defBody (inClass cB 4)) (defScope (inClass cB 4)) .none kVLb dcLb pmLb anLb cdLb ctLb) (PySem.W.fnOf "leaves" "Either.leaves" (defArgs (inClass cE 4)) (defBody (inClass cE 4)) (defScope (inClass cE 4)) .none kVLe dcLe pmLe anLe cdLe ctLe) (PySem.W.fnOf "leaves" "Not.leaves" (defArgs (inClass cO 4)) (defBody (inClass cO 4)) (defScope (inClass cO 4)) .none kVLo dcLo pmLo anLo cdLo ctLo)), CA, CH, CB, o1, o2, o3, o4, o5, o6, o7, o8, p1, p2, p3, p4, ?_⟩
 refine ⟨⟨fun i => match i with | .w => ⟨⟨pgw, hdw, pow, saw⟩, haw, hn, ht, hmw⟩ | .s => ⟨⟨pgs, hds, pos, sas⟩, has, hn, ht, hms⟩ | .r => ⟨⟨pgr, hdr, por, sar⟩, har, hn, ht, hmr⟩ | .n => ⟨⟨pgn, hdn, pon, san⟩, han, hn, ht, hmn⟩ | .b => ⟨⟨pgb, hdb, pob, sab⟩, hab, hn, ht, hmb⟩ | .e => ⟨⟨pge, hde, poe, sae⟩, hae, hn, ht, hme⟩ | .o => ⟨⟨pgo, hdo, poo, sao⟩, hao, hn, ht, hmo⟩, fun i => match i with | .w => nWw | .s => nWs | .r => nWr | .n => nWn | .b => nWb | .e => nWe | .o => nWo, fun i => match i with | .w => nRw | .s => nRs | .r => nRr | .n => nRn | .b => nRb | .e => nRe | .o => nRo, fun i => match i with | .w => n1w | .s => n1s | .r => n1r | .n => n1n | .b => n1b | .e => n1e | .o => n1o, fun i => match i with | .w => n2w | .s => n2s | .r => n2r | .n => n2n | .b => n2b | .e => n2e | .o => n2o, fun i => match i with | .w => n3w | .s => n3s | .r => n3r | .n => n3n | .b => n3b | .e => n3e | .o => n3o⟩, ⟨PySem.W.mg_of X G aw, PySem.W.mg_of X G as, PySem.W.mg_of X G ar, PySem.W.mg_of X G an, PySem.W.mg_of X G ab, PySem.W.mg_of X G ae, PySem.W.mg_of X G ao⟩, ⟨fun i => match i with | .w => fun_mk lIw cIw kIw | .s => fun_mk lIs cIs kIs | .r => fun_mk lIr cIr kIr | .n => fun_mk lIn cIn kIn | .b => fun_mk lIb cIb kIb | .e => fun_mk lIe cIe kIe | .o => fun_mk lIo cIo kIo, fun i => match i with | .w => ⟨mkw, aIw, iIw, kcw⟩ | .s => ⟨mks, aIs, iIs, kcs⟩ | .r => ⟨mkr, aIr, iIr, kcr⟩ | .n => ⟨mkn, aIn, iIn, kcn⟩ | .b => ⟨mkb, aIb, iIb, kcb⟩ | .e => ⟨mke, aIe, iIe, kce⟩ | .o => ⟨mko, aIo, iIo, kco⟩⟩, ⟨fun i => match i with | .w => fun_mk lTw cTw kTw | .s => fun_mk lTs cTs kTs | .r => fun_mk lTr cTr kTr | .n => fun_mk lTn cTn kTn | .b => fun_mk lTb cTb kTb | .e => fun_mk lTe cTe kTe | .o => fun_mk lTo cTo kTo, fun i => match i with | .w => ⟨aTw, iTw, kTw⟩ | .s => ⟨aTs, iTs, kTs⟩ | .r => ⟨aTr, iTr, kTr⟩ | .n => ⟨aTn, iTn, kTn⟩ | .b => ⟨aTb, iTb, kTb⟩ | .e => ⟨aTe, iTe, kTe⟩ | .o => ⟨aTo, iTo, kTo⟩⟩, ⟨fun i => match i with | .w => fun_mk lKw cKw kKw | .s => fun_mk lKs cKs kKs | .r => fun_mk lKr cKr kKr | .n => fun_mk lKn cKn kKn | .b => fun_mk lKb cKb kKb | .e => fun_mk lKe cKe kKe | .o => fun_mk lKo cKo kKo, fun i => match i with | .w => ⟨aKw, iKw, kKw⟩ | .s => ⟨aKs, iKs, kKs⟩ | .r => ⟨aKr, iKr, kKr⟩ | .n => ⟨aKn, iKn, kKn⟩ | .b => ⟨aKb, iKb, kKb⟩ | .e => ⟨aKe, iKe, kKe⟩ | .o => ⟨aKo, iKo, kKo⟩⟩, ⟨fun i => match i with | .w => fun_mk lLw cLw kLw | .s => fun_mk lLs cLs kLs | .r => fun_mk lLr cLr kLr | .n => fun_mk lLn cLn kLn | .b => fun_mk lLb cLb kLb | .e => fun_mk lLe cLe kLe | .o => fun_mk lLo cLo kLo, fun i => match i with | .w => ⟨aLw, iLw, kLw⟩ | .s => ⟨aLs, iLs, kLs⟩ | .r => ⟨aLr, iLr, kLr⟩ | .n => ⟨aLn, iLn, kLn⟩ | .b => ⟨aLb, iLb, kLb⟩ | .e => ⟨aLe, iLe, kLe⟩ | .o => ⟨aLo, iLo, kLo⟩⟩, PySem.W.mg_of X G aA, ⟨?kk, fun i => match i with | .w => qAw | .s => qAs | .r => qAr | .n => qAn | .b => qAb | .e => qAe | .o => qAo⟩, fun i => match i with | .w => qLw | .s => qLs | .r => qLr | .n => qLn | .b => qLb | .e => qLe | .o => qLo, ?rx, ⟨PySem.W.mg_of X G aB, xB⟩⟩
 ·intro i j
  cases i with
  | w => cases j with
   | w => exact qww
   | s => exact qws
   | r => exact qwr
   | n => exact qwn
   | b => exact qwb
   | e => exact qwe
   | o => exact qwo
  | s => cases j with
   | w => exact qsw
   | s => exact qss
   | r => exact qsr
   | n => exact qsn
   | b => exact qsb
   | e => exact qse
   | o => exact qso
  | r => cases j with
   | w => exact qrw
   | s => exact qrs
   | r => exact qrr
   | n => exact qrn
   | b => exact qrb
   | e => exact qre
   | o => exact qro
  | n => cases j with
   | w => exact qnw
   | s => exact qns
   | r => exact qnr
   | n => exact qnn
   | b => exact qnb
   | e => exact qne
   | o => exact qno
  | b => cases j with
   | w => exact qbw
   | s => exact qbs
   | r => exact qbr
   | n => exact qbn
   | b => exact qbb
   | e => exact qbe
   | o => exact qbo
  | e => cases j with
   | w => exact qew
   | s => exact qes
   | r => exact qer
   | n => exact qen
   | b => exact qeb
   | e => exact qee
   | o => exact qeo
  | o => cases j with
   | w => exact qow
   | s => exact qos
   | r => exact qor
   | n => exact qon
   | b => exact qob
   | e => exact qoe
   | o => exact qoo
 ·exact ⟨PySem.W.mg_of X G aH, PySem.W.mg_of X G aB, PySem.W.mg_of X G m1, PySem.W.mg_of X G m2, PySem.W.mg_of X G m3, PySem.W.mg_of X G m4, PySem.W.mg_of X G m5, PySem.W.mg_of X G m6, PySem.W.mg_of X G m7, PySem.W.mg_of X G m8, PySem.W.mg_of X G y1, PySem.W.mg_of X G y2, PySem.W.mg_of X G y3, PySem.W.mg_of X G y4, ⟨by rw [clB]; rfl, gaB, hkB, haB, hn, ht, hmB, hbB⟩, eB, oB, pB, kB, vB⟩
theorem law_all (T : Txt mg) (X : Clss K mg) (KL : ∃ d, mg "TOLD_LENGTHS" = some (.ref d) /\ KD P w K d lens)
  (d_sWhole : ∃ f fd, Df K mg "is_whole" sWhole f fd)
  (d_sRow : ∃ f fd, Df K mg "is_small_row" sRow f fd)
  (d_sWord : ∃ f fd, Df K mg "is_word" sWord f fd)
  (d_sName : ∃ f fd, Df K mg "need_name" sName f fd)
  (d_sAWord : ∃ f fd, Df K mg "asked_word" sAWord f fd)
  (d_sARow : ∃ f fd, Df K mg "asked_row" sARow f fd)
  (d_sANear : ∃ f fd, Df K mg "asked_near" sANear f fd)
  (d_sWithin : ∃ f fd, Df K mg "ask_within" sWithin f fd)
  (d_sMany : ∃ f fd, Df K mg "many_in" sMany f fd)
  (d_sAskOf : ∃ f fd, Df K mg "ask_of" sAskOf f fd)
  (d_lMixed : ∃ f fd, Df K mg "_law_mixed" lMixed f fd)
  (d_lNumber : ∃ f fd, Df K mg "_law_number" lNumber f fd)
  (d_lMenu : ∃ f fd, Df K mg "_law_menu" lMenu f fd)
  (d_lPlain : ∃ f fd, Df K mg "_law_plain" lPlain f fd)
  (d_lTree : ∃ f fd, Df K mg "_law_tree" lTree f fd)
  (d_lKids : ∃ f fd, Df K mg "_law_kids" lKids f fd)
  (d_lLeaves : ∃ f fd, Df K mg "_law_leaves" lLeaves f fd)
  (d_lIs : ∃ f fd, Df K mg "_law_is" lIs f fd)
  (d_lAlike : ∃ f fd, Df K mg "_law_alike" lAlike f fd)
  (d_lOdd : ∃ f fd, Df K mg "_law_odd" lOdd f fd)
  (d_lSpoilt : ∃ f fd, Df K mg "_law_spoilt" lSpoilt f fd)
  (d_lRefused : ∃ f fd, Df K mg "_law_refused" lRefused f fd)
  (d_lWide : ∃ f fd, Df K mg "_law_wide" lWide f fd)
  (d_lNots : ∃ f fd, Df K mg "_law_nots" lNots f fd)
  {f : Addr} {fd : FuncData} (D : Df K mg "law" lLaw f fd) : FnOk P w K mg base CX0 16 f fd ["_law_script"] (spLaw K) := by
 obtain ⟨C, fi, ft, fk, fl, di, dt, dk, dl, CA, CH, CB, o1, o2, o3, o4, o5, o6, o7, o8, p1, p2, p3, p4, Z⟩ := X
 obtain ⟨d, hd, KD1⟩ := KL
 obtain ⟨_, _, D_sWhole⟩ := d_sWhole
 obtain ⟨_, _, D_sRow⟩ := d_sRow
 obtain ⟨_, _, D_sWord⟩ := d_sWord
 obtain ⟨_, _, D_sName⟩ := d_sName
 obtain ⟨_, _, D_sAWord⟩ := d_sAWord
 obtain ⟨_, _, D_sARow⟩ := d_sARow
 obtain ⟨_, _, D_sANear⟩ := d_sANear
 obtain ⟨_, _, D_sWithin⟩ := d_sWithin
 obtain ⟨_, _, D_sMany⟩ := d_sMany
 obtain ⟨_, _, D_sAskOf⟩ := d_sAskOf
 obtain ⟨_, _, D_lMixed⟩ := d_lMixed
 obtain ⟨_, _, D_lNumber⟩ := d_lNumber
 obtain ⟨_, _, D_lMenu⟩ := d_lMenu
 obtain ⟨_, _, D_lPlain⟩ := d_lPlain
 obtain ⟨_, _, D_lTree⟩ := d_lTree
 obtain ⟨_, _, D_lKids⟩ := d_lKids
 obtain ⟨_, _, D_lLeaves⟩ := d_lLeaves
 obtain ⟨_, _, D_lIs⟩ := d_lIs
 obtain ⟨_, _, D_lAlike⟩ := d_lAlike
 obtain ⟨_, _, D_lOdd⟩ := d_lOdd
 obtain ⟨_, _, D_lSpoilt⟩ := d_lSpoilt
 obtain ⟨_, _, D_lRefused⟩ := d_lRefused
 obtain ⟨_, _, D_lWide⟩ := d_lWide
 obtain ⟨_, _, D_lNots⟩ := d_lNots
 have gWord := ok_word (P := P) (w := w) (base := base) D_sWord D_sRow T
 have gAW := ok_aword D_sAWord D_sWord Z.ex gWord
 have gName := ok_name (P := P) (w := w) (base := base) D_sName T Z.ex hd KD1
 have gAR := ok_arow D_sARow D_sAWord T Z.cs Z.I Z.nm.r Z.ex gAW
 have gAN := ok_anear (P := P) (w := w) (base := base) D_sANear D_sWhole T Z.cs Z.I Z.nm.w Z.nm.s Z.nm.r Z.nm.n Z.ex Z.hK
 have gW : ∀ n : Nat, FnOk P w K mg base (CX1 P w) (n + 5) _ _ ["told", "deep"] (spWithin C CB n) := fun n => by
  induction n with
  | zero => exact ok_within1 D_sWithin D_sName D_sAWord D_sARow D_sANear Z.cs Z.I Z.nm Z.ex gName gAW gAR gAN 0 ok_none
  | succ n ih => exact ok_within1 D_sWithin D_sName D_sAWord D_sARow D_sANear Z.cs Z.I Z.nm Z.ex gName gAW gAR gAN (n + 1) ih
 have gO := ok_askof D_sAskOf D_sWithin D_sMany T Z.ex (gW 8) (ok_many D_sMany T Z.cs Z.MK 7)
 have gNumber := ok_number (P := P) (w := w) (base := base) D_lNumber D_lMixed T
 have gPlain := ok_plain (P := P) (w := w) (base := base) D_lPlain D_lMixed T
 exact ok_law D T D_lMenu (ok_menu D_lMenu D_lMixed T) D_lNumber gNumber D_lTree (ok_tree D_lTree D_lMixed D_lNumber D_lPlain T) D_lPlain gPlain D_lOdd (ok_odd D_lOdd) D_lSpoilt (ok_sp D_lSpoilt D_lKids 7) D_lRefused (ok_ref D_lRefused Z.rx D_sAskOf gO T) D_lWide (ok_wide D_lWide 5) D_lNots (ok_nots D_lNots T)
  D_lIs (ok_lis D_lIs D_lAlike D_lKids D_lLeaves T Z.cs Z.nm Z.ask Z.X Z.MT Z.MK Z.ML 7) D_sAskOf gO
theorem law_mk {f fa : Addr} {oc kV doc pm cd ct : Value} {od an : Option Addr} {sl : Array (Option Value)} (X : K.In h) (G : h.Ns mainGlobals mg) (hfa : mg "law" = some (.ref fa)) (a : PySem.W.nsIn K mainGlobals "law" = some (some (.ref f)))
  (l : K.lookup f = some ⟨oc, od, .func (PySem.W.fnOf "law" "law" (defArgs lLaw) (defBody lLaw) (defScope lLaw) .none kV doc pm an cd ct), sl⟩) (c : PySem.W.codeIn K cd "law" = true) (k : PySem.W.keepIn K (.ref f) = true)
  (ok : ∀ (fd : FuncData) (base : Heap), Df K mg "law" lLaw f fd -> FnOk P w K mg base CX0 16 f fd ["_law_script"] (spLaw K)) :
  ∃ fd : FuncData, (∀ (s : Shared) (v : Value), BindsTo s fd ⟨[v], []⟩ [("_law_script", v)]) /\ ∀ base : Heap, K.In base -> base.Ns mainGlobals mg -> FnOk P w K mg base CX0 16 fa fd ["_law_script"] (spLaw K) := by
 have e := hfa.symm.trans (PySem.W.mg_of X G a)
 cases e
 exact ⟨PySem.W.fnOf "law" "law" (defArgs lLaw) (defBody lLaw) (defScope lLaw) .none kV doc pm an cd ct, fun s v => .of_eq rfl, fun base _ _ => ok _ base ⟨fun_mk l c k, PySem.W.mg_of X G a⟩⟩
end
theorem walk {l : PySem.W.OpenLaw} {q : Program} {loose : List Str} {XP : (Str -> Option Value) -> Heap -> Prop} {YP : World -> Heap -> Prop} {d : DefRec} {K : Params -> PySem.W.Frag} (hn : l.most = some 63) (hdf : d.params.defaults = [])
  (hY : ∀ (w : World) (h : Heap), YP w h -> (K w.params).In h)
  (F : ∀ (w : World) (mg : Str -> Option Value) (fa : Addr) (h : Heap), (K w.params).In h -> h.Ns mainGlobals mg -> mg d.name = some (.ref fa) ->
   ∃ fd : FuncData, (∀ (s : Shared) (u : Value), BindsTo s fd ⟨[u], []⟩ [("_law_script", u)]) /\ ∀ base : Heap, (K w.params).In base -> base.Ns mainGlobals mg -> FnOk l.prog w (K w.params) mg base CX0 16 fa fd ["_law_script"] (spLaw (K w.params))) :
  PySem.W.WalkO q loose XP YP l.row.toRowW d [] (fun f vs => PySem.call f vs) :=
 walkB (n := 63) (k := 16) (x := "_law_script") (sp := spLaw) hn (by decide) hdf ⟨rfl, by decide, by decide⟩ hY F fun K H a ns hl hb hS => ⟨a, ns, rfl, hS, hl, fun _ => rfl⟩
end K11
open PySem PySem.W PyProof.Rows
set_option maxRecDepth 100000 in
set_option maxHeartbeats 0 in
theorem PySem.Challenge.cw_findhall_k11_asks_told_holds : PySem.Challenge.rw_findhall_k11_asks_told.Holds := by
 refine H11.head ?_
 k_fill
 refine K11.walk (l := PySem.Challenge.rw_findhall_k11_asks_told) rfl rfl (fun w h Y => PySem.W.kIn_of Y) ?F
 case F =>
  intro w mg fa h KX G hmg
  have hC : K11.Clss (L2.KOf KX) mg := by
   dsimp only [L2.KOf]
   refine' K11.cl_mk KX G ?hn ?ht ?aw ?pgw ?hdw ?pow ?saw ?mkw ?kcw ?haw ?hmw ?nWw ?nRw ?n1w ?n2w ?n3w ?aIw ?iIw ?lIw ?cIw ?kIw ?aTw ?iTw ?lTw ?cTw ?kTw ?aKw ?iKw ?lKw ?cKw ?kKw ?aLw ?iLw ?lLw ?cLw ?kLw ?as ?pgs ?hds ?pos ?sas ?mks ?kcs ?has ?hms ?nWs ?nRs ?n1s ?n2s ?n3s ?aIs ?iIs ?lIs ?cIs ?kIs ?aTs ?iTs ?lTs ?cTs ?kTs ?aKs ?iKs ?lKs ?cKs ?kKs ?aLs ?iLs ?lLs ?cLs ?kLs ?ar ?pgr ?hdr ?por ?sar ?mkr ?kcr ?har ?hmr ?nWr ?nRr ?n1r ?n2r ?n3r ?aIr ?iIr ?lIr ?cIr ?kIr ?aTr ?iTr ?lTr ?cTr ?kTr ?aKr ?iKr ?lKr ?cKr ?kKr ?aLr ?iLr ?lLr ?cLr ?kLr ?an ?pgn ?hdn ?pon ?san ?mkn ?kcn ?han ?hmn ?nWn ?nRn ?n1n ?n2n ?n3n ?aIn ?iIn ?lIn ?cIn ?kIn ?aTn ?iTn ?lTn ?cTn ?kTn ?aKn ?iKn ?lKn ?cKn ?kKn ?aLn ?iLn ?lLn ?cLn ?kLn ?ab ?pgb ?hdb ?pob ?sab ?mkb ?kcb ?hab ?hmb ?nWb ?nRb ?n1b ?n2b ?n3b ?aIb ?iIb ?lIb ?cIb ?kIb ?aTb ?iTb ?lTb ?cTb ?kTb ?aKb ?iKb ?lKb ?cKb ?kKb ?aLb ?iLb ?lLb ?cLb ?kLb ?ae ?pge ?hde ?poe ?sae ?mke ?kce ?hae ?hme ?nWe ?nRe ?n1e ?n2e ?n3e ?aIe ?iIe ?lIe ?cIe ?kIe ?aTe ?iTe ?lTe ?cTe ?kTe ?aKe ?iKe ?lKe ?cKe ?kKe ?aLe ?iLe ?lLe ?cLe ?kLe ?ao ?pgo ?hdo ?poo ?sao ?mko ?kco ?hao ?hmo ?nWo ?nRo ?n1o ?n2o ?n3o ?aIo ?iIo ?lIo ?cIo ?kIo ?aTo ?iTo ?lTo ?cTo ?kTo ?aKo ?iKo ?lKo ?cKo ?kKo ?aLo ?iLo ?lLo ?cLo ?kLo ?aA ?qww ?qws ?qwr ?qwn ?qwb ?qwe ?qwo ?qAw ?qLw ?qsw ?qss ?qsr ?qsn ?qsb ?qse ?qso ?qAs ?qLs ?qrw ?qrs ?qrr ?qrn ?qrb ?qre ?qro ?qAr ?qLr ?qnw ?qns ?qnr ?qnn ?qnb ?qne ?qno ?qAn ?qLn ?qbw ?qbs ?qbr ?qbn ?qbb ?qbe ?qbo ?qAb ?qLb ?qew ?qes ?qer ?qen ?qeb ?qee ?qeo ?qAe ?qLe ?qow ?qos ?qor ?qon ?qob ?qoe ?qoo ?qAo ?qLo ?aH ?aB ?xB ?m1 ?m2 ?m3 ?m4 ?m5 ?m6 ?m7 ?m8 ?y1 ?y2 ?y3 ?y4 ?clB ?gaB ?hkB ?haB ?hmB ?hbB ?eB ?oB ?pB ?kB ?vB
   (case hn => k_is)
   (case ht => k_is)
   (case aw => k_is)
   (case pgw => k_is)
   (case hdw => k_is)
   (case pow => k_is)
   (case saw => k_is)
   (case mkw => k_is)
   (case kcw => k_is)
   (case haw => k_is)
   (case hmw => k_is)
   (case nWw => k_is)
   (case nRw => k_is)
   (case n1w => k_is)
   (case n2w => k_is)
   (case n3w => k_is)
   (case aIw => k_is)
   (case iIw => k_is)
   (case lIw => k_is)
   (case cIw => k_is)
   (case kIw => k_is)
   (case aTw => k_is)
   (case iTw => k_is)
   (case lTw => k_is)
   (case cTw => k_is)
   (case kTw => k_is)
   (case aKw => k_is)
   (case iKw => k_is)
   (case lKw => k_is)
   (case cKw => k_is)
   (case kKw => k_is)
   (case aLw => k_is)
   (case iLw => k_is)
   (case lLw => k_is)
   (case cLw => k_is)
   (case kLw => k_is)
   (case as => k_is)
   (case pgs => k_is)
   (case hds => k_is)
   (case pos => k_is)
   (case sas => k_is)
   (case mks => k_is)
   (case kcs => k_is)
   (case has => k_is)
   (case hms => k_is)
   (case nWs => k_is)
   (case nRs => k_is)
   (case n1s => k_is)
   (case n2s => k_is)
   (case n3s => k_is)
   (case aIs => k_is)
   (case iIs => k_is)
   (case lIs => k_is)
   (case cIs => k_is)
   (case kIs => k_is)
   (case aTs => k_is)
   (case iTs => k_is)
   (case lTs => k_is)
   (case cTs => k_is)
   (case kTs => k_is)
   (case aKs => k_is)
   (case iKs => k_is)
   (case lKs => k_is)
   (case cKs => k_is)
   (case kKs => k_is)
   (case aLs => k_is)
   (case iLs => k_is)
   (case lLs => k_is)
   (case cLs => k_is)
   (case kLs => k_is)
   (case ar => k_is)
   (case pgr => k_is)
   (case hdr => k_is)
   (case por => k_is)
   (case sar => k_is)
   (case mkr => k_is)
   (case kcr => k_is)
   (case har => k_is)
   (case hmr => k_is)
   (case nWr => k_is)
   (case nRr => k_is)
   (case n1r => k_is)
   (case n2r => k_is)
   (case n3r => k_is)
   (case aIr => k_is)
   (case iIr => k_is)
   (case lIr => k_is)
   (case cIr => k_is)
   (case kIr => k_is)
   (case aTr => k_is)
   (case iTr => k_is)
   (case lTr => k_is)
   (case cTr => k_is)
   (case kTr => k_is)
   (case aKr => k_is)
   (case iKr => k_is)
   (case lKr => k_is)
   (case cKr => k_is)
   (case kKr => k_is)
   (case aLr => k_is)
   (case iLr => k_is)
   (case lLr => k_is)
   (case cLr => k_is)
   (case kLr => k_is)
   (case an => k_is)
   (case pgn => k_is)
   (case hdn => k_is)
   (case pon => k_is)
   (case san => k_is)
   (case mkn => k_is)
   (case kcn => k_is)
   (case han => k_is)
   (case hmn => k_is)
   (case nWn => k_is)
   (case nRn => k_is)
   (case n1n => k_is)
   (case n2n => k_is)
   (case n3n => k_is)
   (case aIn => k_is)
   (case iIn => k_is)
   (case lIn => k_is)
   (case cIn => k_is)
   (case kIn => k_is)
   (case aTn => k_is)
   (case iTn => k_is)
   (case lTn => k_is)
   (case cTn => k_is)
   (case kTn => k_is)
   (case aKn => k_is)
   (case iKn => k_is)
   (case lKn => k_is)
   (case cKn => k_is)
   (case kKn => k_is)
   (case aLn => k_is)
   (case iLn => k_is)
   (case lLn => k_is)
   (case cLn => k_is)
   (case kLn => k_is)
   (case ab => k_is)
   (case pgb => k_is)
   (case hdb => k_is)
   (case pob => k_is)
   (case sab => k_is)
   (case mkb => k_is)
   (case kcb => k_is)
   (case hab => k_is)
   (case hmb => k_is)
   (case nWb => k_is)
   (case nRb => k_is)
   (case n1b => k_is)
   (case n2b => k_is)
   (case n3b => k_is)
   (case aIb => k_is)
   (case iIb => k_is)
   (case lIb => k_is)
   (case cIb => k_is)
   (case kIb => k_is)
   (case aTb => k_is)
   (case iTb => k_is)
   (case lTb => k_is)
   (case cTb => k_is)
   (case kTb => k_is)
   (case aKb => k_is)
   (case iKb => k_is)
   (case lKb => k_is)
   (case cKb => k_is)
   (case kKb => k_is)
   (case aLb => k_is)
   (case iLb => k_is)
   (case lLb => k_is)
   (case cLb => k_is)
   (case kLb => k_is)
   (case ae => k_is)
   (case pge => k_is)
   (case hde => k_is)
   (case poe => k_is)
   (case sae => k_is)
   (case mke => k_is)
   (case kce => k_is)
   (case hae => k_is)
   (case hme => k_is)
   (case nWe => k_is)
   (case nRe => k_is)
   (case n1e => k_is)
   (case n2e => k_is)
   (case n3e => k_is)
   (case aIe => k_is)
   (case iIe => k_is)
   (case lIe => k_is)
   (case cIe => k_is)
   (case kIe => k_is)
   (case aTe => k_is)
   (case iTe => k_is)
   (case lTe => k_is)
   (case cTe => k_is)
   (case kTe => k_is)
   (case aKe => k_is)
   (case iKe => k_is)
   (case lKe => k_is)
   (case cKe => k_is)
   (case kKe => k_is)
   (case aLe => k_is)
   (case iLe => k_is)
   (case lLe => k_is)
   (case cLe => k_is)
   (case kLe => k_is)
   (case ao => k_is)
   (case pgo => k_is)
   (case hdo => k_is)
   (case poo => k_is)
   (case sao => k_is)
   (case mko => k_is)
   (case kco => k_is)
   (case hao => k_is)
   (case hmo => k_is)
   (case nWo => k_is)
   (case nRo => k_is)
   (case n1o => k_is)
   (case n2o => k_is)
   (case n3o => k_is)
   (case aIo => k_is)
   (case iIo => k_is)
   (case lIo => k_is)
   (case cIo => k_is)
   (case kIo => k_is)
   (case aTo => k_is)
   (case iTo => k_is)
   (case lTo => k_is)
   (case cTo => k_is)
   (case kTo => k_is)
   (case aKo => k_is)
   (case iKo => k_is)
   (case lKo => k_is)
   (case cKo => k_is)
   (case kKo => k_is)
   (case aLo => k_is)
   (case iLo => k_is)
   (case lLo => k_is)
   (case cLo => k_is)
   (case kLo => k_is)
   (case aA => k_is)
   (case qww => kit_is)
   (case qws => kit_is)
   (case qwr => kit_is)
   (case qwn => kit_is)
   (case qwb => kit_is)
   (case qwe => kit_is)
   (case qwo => kit_is)
   (case qAw => kit_is)
   (case qLw => kit_is)
   (case qsw => kit_is)
   (case qss => kit_is)
   (case qsr => kit_is)
   (case qsn => kit_is)
   (case qsb => kit_is)
   (case qse => kit_is)
   (case qso => kit_is)
   (case qAs => kit_is)
   (case qLs => kit_is)
   (case qrw => kit_is)
   (case qrs => kit_is)
   (case qrr => kit_is)
   (case qrn => kit_is)
   (case qrb => kit_is)
   (case qre => kit_is)
   (case qro => kit_is)
   (case qAr => kit_is)
   (case qLr => kit_is)
   (case qnw => kit_is)
   (case qns => kit_is)
   (case qnr => kit_is)
   (case qnn => kit_is)
   (case qnb => kit_is)
   (case qne => kit_is)
   (case qno => kit_is)
   (case qAn => kit_is)
   (case qLn => kit_is)
   (case qbw => kit_is)
   (case qbs => kit_is)
   (case qbr => kit_is)
   (case qbn => kit_is)
   (case qbb => kit_is)
   (case qbe => kit_is)
   (case qbo => kit_is)
   (case qAb => kit_is)
   (case qLb => kit_is)
   (case qew => kit_is)
   (case qes => kit_is)
   (case qer => kit_is)
   (case qen => kit_is)
   (case qeb => kit_is)
   (case qee => kit_is)
   (case qeo => kit_is)
   (case qAe => kit_is)
   (case qLe => kit_is)
   (case qow => kit_is)
   (case qos => kit_is)
   (case qor => kit_is)
   (case qon => kit_is)
   (case qob => kit_is)
   (case qoe => kit_is)
   (case qoo => kit_is)
   (case qAo => kit_is)
   (case qLo => kit_is)
   (case aH => k_is)
   (case aB => k_is)
   (case xB => k_exc)
   (case m1 => k_is)
   (case m2 => k_is)
   (case m3 => k_is)
   (case m4 => k_is)
   (case m5 => k_is)
   (case m6 => k_is)
   (case m7 => k_is)
   (case m8 => k_is)
   (case y1 => k_is)
   (case y2 => k_is)
   (case y3 => k_is)
   (case y4 => k_is)
   (case clB => k_is)
   (case gaB => k_is)
   (case hkB => k_is)
   (case haB => k_is)
   (case hmB => k_is)
   (case hbB => k_is)
   (case eB => kts_exm)
   (case oB => kit_is)
   (case pB => kit_is)
   (case kB => kit_is)
   (case vB => kit_is)
  have T : K11.Txt mg := by
   refine' K11.txt_mk KX G ?n0 ?n1 ?n2 ?n3 ?n4 ?n5 ?n6 ?n7 ?n8 ?n9 ?n10 ?n11 ?c0 ?c1 ?c2 ?c3 ?c4 ?c5 ?c6
   (case n0 => k_is)
   (case n1 => k_is)
   (case n2 => k_is)
   (case n3 => k_is)
   (case n4 => k_is)
   (case n5 => k_is)
   (case n6 => k_is)
   (case n7 => k_is)
   (case n8 => k_is)
   (case n9 => k_is)
   (case n10 => k_is)
   (case n11 => k_is)
   (case c0 => k_is)
   (case c1 => k_is)
   (case c2 => k_is)
   (case c3 => k_is)
   (case c4 => k_is)
   (case c5 => k_is)
   (case c6 => k_is)
  have KL : ∃ d, mg "TOLD_LENGTHS" = some (.ref d) /\ L2.KD PySem.Challenge.rw_findhall_k11_asks_told.prog w (L2.KOf KX) d K11.lens := by
   dsimp only [L2.KOf]
   refine' K11.kd_mk _ KX G ?a ?ns ?l
   (case a => k_is)
   (case ns => decide)
   (case l => k_is)
  have d_sWhole : ∃ f fd, Gn.Df (L2.KOf KX) mg "is_whole" K11.sWhole f fd := by
   dsimp only [L2.KOf]
   refine' Gn.df_mk KX G ?a ?l ?c ?k
   (case a => k_is); (case l => k_is); (case c => k_is); (case k => k_is)
  have d_sRow : ∃ f fd, Gn.Df (L2.KOf KX) mg "is_small_row" K11.sRow f fd := by
   dsimp only [L2.KOf]
   refine' Gn.df_mk KX G ?a ?l ?c ?k
   (case a => k_is); (case l => k_is); (case c => k_is); (case k => k_is)
  have d_sWord : ∃ f fd, Gn.Df (L2.KOf KX) mg "is_word" K11.sWord f fd := by
   dsimp only [L2.KOf]
   refine' Gn.df_mk KX G ?a ?l ?c ?k
   (case a => k_is); (case l => k_is); (case c => k_is); (case k => k_is)
  have d_sName : ∃ f fd, Gn.Df (L2.KOf KX) mg "need_name" K11.sName f fd := by
   dsimp only [L2.KOf]
   refine' Gn.df_mk KX G ?a ?l ?c ?k
   (case a => k_is); (case l => k_is); (case c => k_is); (case k => k_is)
  have d_sAWord : ∃ f fd, Gn.Df (L2.KOf KX) mg "asked_word" K11.sAWord f fd := by
   dsimp only [L2.KOf]
   refine' Gn.df_mk KX G ?a ?l ?c ?k
   (case a => k_is); (case l => k_is); (case c => k_is); (case k => k_is)
  have d_sARow : ∃ f fd, Gn.Df (L2.KOf KX) mg "asked_row" K11.sARow f fd := by
   dsimp only [L2.KOf]
   refine' Gn.df_mk KX G ?a ?l ?c ?k
   (case a => k_is); (case l => k_is); (case c => k_is); (case k => k_is)
  have d_sANear : ∃ f fd, Gn.Df (L2.KOf KX) mg "asked_near" K11.sANear f fd := by
   dsimp only [L2.KOf]
   refine' Gn.df_mk KX G ?a ?l ?c ?k
   (case a => k_is); (case l => k_is); (case c => k_is); (case k => k_is)
  have d_sWithin : ∃ f fd, Gn.Df (L2.KOf KX) mg "ask_within" K11.sWithin f fd := by
   dsimp only [L2.KOf]
   refine' Gn.df_mk KX G ?a ?l ?c ?k
   (case a => k_is); (case l => k_is); (case c => k_is); (case k => k_is)
  have d_sMany : ∃ f fd, Gn.Df (L2.KOf KX) mg "many_in" K11.sMany f fd := by
   dsimp only [L2.KOf]
   refine' Gn.df_mk KX G ?a ?l ?c ?k
   (case a => k_is); (case l => k_is); (case c => k_is); (case k => k_is)
  have d_sAskOf : ∃ f fd, Gn.Df (L2.KOf KX) mg "ask_of" K11.sAskOf f fd := by
   dsimp only [L2.KOf]
   refine' Gn.df_mk KX G ?a ?l ?c ?k
   (case a => k_is); (case l => k_is); (case c => k_is); (case k => k_is)
  have d_lMixed : ∃ f fd, Gn.Df (L2.KOf KX) mg "_law_mixed" K11.lMixed f fd := by
   dsimp only [L2.KOf]
   refine' Gn.df_mk KX G ?a ?l ?c ?k
   (case a => k_is); (case l => k_is); (case c => k_is); (case k => k_is)
  have d_lNumber : ∃ f fd, Gn.Df (L2.KOf KX) mg "_law_number" K11.lNumber f fd := by
   dsimp only [L2.KOf]
   refine' Gn.df_mk KX G ?a ?l ?c ?k
   (case a => k_is); (case l => k_is); (case c => k_is); (case k => k_is)
  have d_lMenu : ∃ f fd, Gn.Df (L2.KOf KX) mg "_law_menu" K11.lMenu f fd := by
   dsimp only [L2.KOf]
   refine' Gn.df_mk KX G ?a ?l ?c ?k
   (case a => k_is); (case l => k_is); (case c => k_is); (case k => k_is)
  have d_lPlain : ∃ f fd, Gn.Df (L2.KOf KX) mg "_law_plain" K11.lPlain f fd := by
   dsimp only [L2.KOf]
   refine' Gn.df_mk KX G ?a ?l ?c ?k
   (case a => k_is); (case l => k_is); (case c => k_is); (case k => k_is)
  have d_lTree : ∃ f fd, Gn.Df (L2.KOf KX) mg "_law_tree" K11.lTree f fd := by
   dsimp only [L2.KOf]
   refine' Gn.df_mk KX G ?a ?l ?c ?k
   (case a => k_is); (case l => k_is); (case c => k_is); (case k => k_is)
  have d_lKids : ∃ f fd, Gn.Df (L2.KOf KX) mg "_law_kids" K11.lKids f fd := by
   dsimp only [L2.KOf]
   refine' Gn.df_mk KX G ?a ?l ?c ?k
   (case a => k_is); (case l => k_is); (case c => k_is); (case k => k_is)
  have d_lLeaves : ∃ f fd, Gn.Df (L2.KOf KX) mg "_law_leaves" K11.lLeaves f fd := by
   dsimp only [L2.KOf]
   refine' Gn.df_mk KX G ?a ?l ?c ?k
   (case a => k_is); (case l => k_is); (case c => k_is); (case k => k_is)
  have d_lIs : ∃ f fd, Gn.Df (L2.KOf KX) mg "_law_is" K11.lIs f fd := by
   dsimp only [L2.KOf]
   refine' Gn.df_mk KX G ?a ?l ?c ?k
   (case a => k_is); (case l => k_is); (case c => k_is); (case k => k_is)
  have d_lAlike : ∃ f fd, Gn.Df (L2.KOf KX) mg "_law_alike" K11.lAlike f fd := by
   dsimp only [L2.KOf]
   refine' Gn.df_mk KX G ?a ?l ?c ?k
   (case a => k_is); (case l => k_is); (case c => k_is); (case k => k_is)
  have d_lOdd : ∃ f fd, Gn.Df (L2.KOf KX) mg "_law_odd" K11.lOdd f fd := by
   dsimp only [L2.KOf]
   refine' Gn.df_mk KX G ?a ?l ?c ?k
   (case a => k_is); (case l => k_is); (case c => k_is); (case k => k_is)
  have d_lSpoilt : ∃ f fd, Gn.Df (L2.KOf KX) mg "_law_spoilt" K11.lSpoilt f fd := by
   dsimp only [L2.KOf]
   refine' Gn.df_mk KX G ?a ?l ?c ?k
   (case a => k_is); (case l => k_is); (case c => k_is); (case k => k_is)
  have d_lRefused : ∃ f fd, Gn.Df (L2.KOf KX) mg "_law_refused" K11.lRefused f fd := by
   dsimp only [L2.KOf]
   refine' Gn.df_mk KX G ?a ?l ?c ?k
   (case a => k_is); (case l => k_is); (case c => k_is); (case k => k_is)
  have d_lWide : ∃ f fd, Gn.Df (L2.KOf KX) mg "_law_wide" K11.lWide f fd := by
   dsimp only [L2.KOf]
   refine' Gn.df_mk KX G ?a ?l ?c ?k
   (case a => k_is); (case l => k_is); (case c => k_is); (case k => k_is)
  have d_lNots : ∃ f fd, Gn.Df (L2.KOf KX) mg "_law_nots" K11.lNots f fd := by
   dsimp only [L2.KOf]
   refine' Gn.df_mk KX G ?a ?l ?c ?k
   (case a => k_is); (case l => k_is); (case c => k_is); (case k => k_is)
  refine' K11.law_mk KX G hmg ?a ?l ?c ?k fun fd base D => K11.law_all T hC KL d_sWhole d_sRow d_sWord d_sName d_sAWord d_sARow d_sANear d_sWithin d_sMany d_sAskOf d_lMixed d_lNumber d_lMenu d_lPlain d_lTree d_lKids d_lLeaves d_lIs d_lAlike d_lOdd d_lSpoilt d_lRefused d_lWide d_lNots D
  (case a => k_is); (case l => k_is); (case c => k_is); (case k => k_is)
