import PyProof.Rows.All
import Wide.All
import OpenK.AllK
import Wide.FinOn
import PyProof.EqAt
import PyProof.EqKinds
import PyProof.TupleCall
import Lean
import PySem.Challenge.RW_findhall_k25_a_house_by_a_dict
noncomputable section
set_option Elab.async false
set_option linter.all false
set_option compiler.extract_closed false
set_option maxRecDepth 100000
set_option maxHeartbeats 4000000
namespace H25
open PySem PySem.W PyProof.Rows
abbrev pQ : Program := PySem.Challenge.pw_findhall_k25_a_house_by_a_dict
def vQ : Program := PySem.W.view pQ [0, 2, 3, 4, 5, 6, 7, 8, 9, 10, 12, 13, 14, 15, 16, 17, 18, 19, 20, 21, 22, 25, 26, 27, 28, 29, 30, 32, 33, 34, 35, 36, 37, 38, 40, 41, 42, 43, 44, 46, 47, 48, 49, 50, 51, 53, 54, 55, 56, 58, 59, 60, 61, 62, 64, 65, 68, 69, 71, 72, 73, 74, 75, 76, 77, 78, 79, 80, 81, 82, 83, 84, 85, 86]
def lQ : List Str := [Str.ofString "need_number", Str.ofString "poured"]
def xQ (s : Shared) : Bool := xlAt vQ [] s && recOk (RowW.records PySem.Challenge.rw_findhall_k25_a_house_by_a_dict.row.toRowW) s
def sQ (w : World) (os : OsState) : Shared := ⟨boot_heap w.params, Array.mk [], boot_drawn, boot_toks, os⟩
def topRunT (tb : String -> Option Builtin) (p : Program) (w : World) (n₀ : Nat) (ann : Option Value) : Nat -> SharedT -> Thread -> Option SharedT
 | 0, _, _ => none
 | n + 1, s, t => match through t with
  | true => some s
  | false => match stepOk n₀ ann t with
   | false => none
   | true => match stepT (denote tb) p w s t with
    | some (s', t') => topRunT tb p w n₀ ann n s' t'
    | none => none
theorem topRun_of {tb : String -> Option Builtin} {p : Program} {w : World} {n₀ : Nat} {ann : Option Value} : ∀ {n : Nat} {s s' : SharedT} {t : Thread}, topRunT tb p w n₀ ann n s t = some s' -> topRun tb p w n₀ ann n s.abs t = some s'.abs
 | 0, _, _, _, h => by cases h
 | n + 1, s, s', t, h => by
  unfold topRunT at h
  unfold topRun
  cases he : through t with
  | true => rw [he] at h; cases h; rfl
  | false =>
   rw [he] at h
   cases hk : stepOk n₀ ann t with
   | false => rw [hk] at h; cases h
   | true =>
    rw [hk] at h
    cases hs : stepT (denote tb) p w s t with
    | none => rw [hs] at h; cases h
    | some r => obtain ⟨s₂, t₂⟩ := r; rw [hs] at h; rw [stepT_spec hs]; exact topRun_of h
def buildT : List Obj -> BT -> Nat -> Option BT
 | [], t, _ => some t
 | o :: r, t, n => match ((t.ins n o).get n).isSome with
  | true => buildT r (t.ins n o) (n + 1)
  | false => none
theorem build_of : ∀ {l : List Obj} {t t' : BT} {n : Nat} (life : Life), buildT l t n = some t' -> absHeap t' (n + l.length) life = ⟨(absHeap t n life).objs ++ l.toArray, life⟩
 | [], t, t', n, life, h => by
  cases h
  show absHeap t n life = _
  unfold absHeap
  simp
 | o :: r, t, t', n, life, h => by
  unfold buildT at h
  cases hs : ((t.ins n o).get n).isSome with
  | false => rw [hs] at h; cases h
  | true =>
   rw [hs] at h
   have e := build_of life h
   rw [show n + (o :: r).length = n + 1 + r.length by rw [List.length_cons]; omega, e, absHeap_ins hs]
   show Heap.mk _ _ = Heap.mk _ _
   congr 1
   show (absHeap t n life).objs.push o ++ r.toArray = (absHeap t n life).objs ++ (o :: r).toArray
   apply Array.ext'
   simp
def annQ (w : World) (os : OsState) : Option Value := (sQ w os).heap.nsMap mainGlobals (Str.ofString "__annotations__")
def topQ (w : World) (os : OsState) : Option Shared := match buildT (boot_heap w.params).objs.toList .nil 0 with
 | none => none
 | some t => (topRunT treeTable pQ w (boot_heap w.params).objs.size (annQ w os) 20000 ⟨t, (boot_heap w.params).objs.size, (boot_heap w.params).life, Array.mk [], boot_drawn, boot_toks, os⟩ (topStub pQ)).map SharedT.abs
theorem topQ_run {w : World} {os : OsState} {s : Shared} (h : topQ w os = some s) : topRun treeTable pQ w (sQ w os).heap.objs.size ((sQ w os).heap.nsMap mainGlobals (Str.ofString "__annotations__")) 20000 (sQ w os) (topStub pQ) = some s := by
 unfold topQ at h
 cases hb : buildT (boot_heap w.params).objs.toList .nil 0 with
 | none => rw [hb] at h; cases h
 | some t =>
  rw [hb] at h
  obtain ⟨x, hx, e⟩ := Option.map_eq_some_iff.mp h
  have q := topRun_of hx
  have a : absHeap t (boot_heap w.params).objs.size (boot_heap w.params).life = boot_heap w.params := by
   have := build_of (boot_heap w.params).life hb
   rw [Nat.zero_add, Array.length_toList] at this
   rw [this]
   show Heap.mk _ _ = _
   have e0 : (absHeap .nil 0 (boot_heap w.params).life).objs = #[] := by unfold absHeap BT.list; simp
   rw [e0]
   simp
  have es : SharedT.abs ⟨t, (boot_heap w.params).objs.size, (boot_heap w.params).life, Array.mk [], boot_drawn, boot_toks, os⟩ = sQ w os := by
   unfold SharedT.abs sQ
   rw [a]
  rw [es] at q
  rw [<- e]
  exact q
def okQ (h : Heap) (s : Shared) : Bool := staticsOk (importedModules pQ.main.body) h s.heap && namesBound pQ s.heap && gensDone s && laidKept h s.heap
def seenQ (s : Shared) := openSeen vQ lQ (importedModules pQ.main.body) xQ true s
def goodQ := openGood vQ lQ
def ok9 (w : World) (os : OsState) (s : Shared) : Bool := okQ (boot_heap w.params) s && ((sQ w os).heap.isNs mainGlobals && (sQ w os).gens.size == 0)
def seenA (s : Shared) := (fun x => (x.1, x.2.1, x.2.2.1, x.2.2.2.1, x.2.2.2.2.1, x.2.2.2.2.2.1, x.2.2.2.2.2.2.1, x.2.2.2.2.2.2.2.1, x.2.2.2.2.2.2.2.2)) (seenQ s)
def goodA := (true, (fun x => (x.1, x.2.1, x.2.2.1, x.2.2.2.1, x.2.2.2.2.1, x.2.2.2.2.2.1, x.2.2.2.2.2.2.1, x.2.2.2.2.2.2.2.1, x.2.2.2.2.2.2.2.2)) goodQ)
def runA (w : World) (os : OsState) := (topQ w os).map fun s => (ok9 w os s, seenA s)
def runK (as : List Nat) (w : World) (os : OsState) := (topQ w os).map fun s => as.map s.heap.get?
def _root_.PySem.W.Fast.tw14598715356260435866 := PySem.W.boot_o_0
theorem _root_.PySem.W.Fast.te14598715356260435866 : PySem.W.boot_o_0 = PySem.W.Fast.tw14598715356260435866 := rfl
def _root_.PySem.W.Fast.tw13375506243513147648 := PySem.Challenge.pw_findhall_k25_a_house_by_a_dict
theorem _root_.PySem.W.Fast.te13375506243513147648 : PySem.Challenge.pw_findhall_k25_a_house_by_a_dict = PySem.W.Fast.tw13375506243513147648 := rfl
lay_quick runA goodA
theorem hA0 : ∀ w os, PySem.W.Fast.tw10399992531308792006 (World.withFollow w "special-get-raises" false) os = some PySem.W.Fast.tw8384704725217133102 := fun w os => by kernel_rfl
theorem hA1 : ∀ w os, PySem.W.Fast.tw10399992531308792006 (World.withFollow w "special-get-raises" true) os = some PySem.W.Fast.tw8384704725217133102 := fun w os => by kernel_rfl
lay_quick runK
theorem rA (w : World) (os : OsState) : runA w os = some goodA := by
 have k : ∀ b, runA (World.withFollow w "special-get-raises" b) os = some goodA := fun b => by
  rw [PySem.W.Fast.te10399992531308792006, PySem.W.Fast.te8384704725217133102]
  cases b
  ·exact hA0 w os
  ·exact hA1 w os
 have := k (w.params.followText "special-get-raises")
 rwa [World.withFollow_self] at this
theorem spl {as : List Nat} {V : World -> List (Option Obj)} {w : World} {os : OsState} (k : ∀ b, PySem.W.Fast.tw3832472070835567319 as (World.withFollow w "special-get-raises" b) os = some (V (World.withFollow w "special-get-raises" b))) : PySem.W.Fast.tw3832472070835567319 as w os = some (V w) := by
 have := k (w.params.followText "special-get-raises")
 rwa [World.withFollow_self] at this
theorem topFrom_some {tb : String -> Option Builtin} {p : Program} {w : World} {N : Nat} {s0 s : Shared} (h1 : (s0.heap.isNs mainGlobals && s0.gens.size == 0) = true) (h2 : topRun tb p w s0.heap.objs.size (s0.heap.nsMap mainGlobals (Str.ofString "__annotations__")) N s0 (topStub p) = some s)
  (h3 : (staticsOk (importedModules p.main.body) s0.heap s.heap && namesBound p s.heap && gensDone s && laidKept s0.heap s.heap) = true) : topFrom tb p w N s0 = some s := by
 unfold topFrom
 rw [h1]
 dsimp only
 rw [h2]
 dsimp only [Option.bind]
 rw [h3]
theorem openEnds_some {tb : String -> Option Builtin} {p : Program} {w : World} {N : Nat} {s0 s : Shared} (a : fencedOpening tb p w N = some s0) (b : topFrom tb p w N s0 = some s) : openEnds tb p w N = some s := by
 unfold openEnds
 rw [a]
 exact b
theorem map_at {α β : Type} {o : Option α} {s : α} {f : α -> β} {b : β} (h : o = some s) (e : o.map f = some b) : f s = b := by
 subst h
 exact Option.some.inj e
theorem map_some' {α β : Type} {o : Option α} {f : α -> β} {b : β} (e : o.map f = some b) : ∃ s, o = some s := by
 cases o with
 | none => cases e
 | some s => exact ⟨s, rfl⟩
theorem pair_of {α β σ : Type} {f : σ -> α} {g : σ -> β} {o : Option σ} {s : σ} {a : α} {b : β} (e : o = some s) (h1 : f s = a) (h2 : g s = b) : o.map (fun s => (f s, g s)) = some (a, b) := by
 subst e
 subst h1
 subst h2
 rfl
theorem sh_eq {s : Shared} {h : Heap} {g : Array GenState} {d : Drawn} {k : Nat} (a : s.heap = h) (b : s.gens = g) (c : s.drawn = d) (e : s.toks = k) : s = ⟨h, g, d, k, s.os⟩ := by
 cases s
 cases a
 cases b
 cases c
 cases e
 rfl
theorem opQ : opening pQ = plainProg pQ.main.scope.names := by kernel_rfl
theorem feQ (s : Shared) : fenceModules? pQ s = some s := by kernel_rfl
theorem seen_eq {s : Shared} (aA : seenA s = goodA.2) : seenQ s = goodQ :=
 Prod.ext (congrArg (fun y => y.1) aA) (Prod.ext (congrArg (fun y => y.2.1) aA) (Prod.ext (congrArg (fun y => y.2.2.1) aA) (Prod.ext (congrArg (fun y => y.2.2.2.1) aA) (Prod.ext (congrArg (fun y => y.2.2.2.2.1) aA) (Prod.ext (congrArg (fun y => y.2.2.2.2.2.1) aA) (Prod.ext (congrArg (fun y => y.2.2.2.2.2.2.1) aA) (Prod.ext (congrArg (fun y => y.2.2.2.2.2.2.2.1) aA) ((congrArg (fun y => y.2.2.2.2.2.2.2.2) aA)))))))))
theorem end_of {as : List Nat} {V : World -> List (Option Obj)} {w : World} {os : OsState} {s : Shared} (ht : topQ w os = some s) (hs0 : fencedOpening treeTable pQ w 20000 = some (sQ w os)) (e : runK as w os = some (V w)) :
  openEnds treeTable pQ w 20000 = some s /\ seenQ s = goodQ /\ as.map s.heap.get? = V w := by
 have d0 := map_at (f := fun (s : Shared) => (ok9 w os s, seenA s)) ht (rA w os)
 have d1 : ok9 w os s = true := congrArg (fun y => y.1) d0
 have dA : seenA s = goodA.2 := congrArg (fun y => y.2) d0
 obtain ⟨d2, d3⟩ := Bool.and_eq_true_iff.mp d1
 exact ⟨openEnds_some hs0 (topFrom_some d3 (topQ_run ht) d2), seen_eq dA , map_at (f := fun (s : Shared) => as.map s.heap.get?) ht e⟩
theorem hl_of {as : List Nat} {V : World -> List (Option Obj)} (h : ∀ w os, PySem.W.Fast.tw3832472070835567319 as w os = some (V w)) : LeftO pQ vQ lQ xQ (fun s => as.map s.heap.get?) V 20000 := fun w => by
 obtain ⟨s0, hs0, hv⟩ := Option.map_eq_some_iff.mp (boot_open (p := pQ) (N := 20000) opQ rfl feQ w)
 have es : s0 = sQ w s0.os := sh_eq (congrArg (fun x => x.1) hv) (congrArg (fun x => x.2.1) hv) (congrArg (fun x => x.2.2.1) hv) (congrArg (fun x => x.2.2.2) hv)
 rw [es] at hs0
 obtain ⟨s, ht⟩ := map_some' (rA w s0.os)
 have e : runK as w s0.os = some (V w) := by rw [PySem.W.Fast.te3832472070835567319]; exact h w s0.os
 obtain ⟨e1, e2, e3⟩ := end_of ht hs0 e
 exact pair_of (f := seenQ) (g := fun s => as.map s.heap.get?) (a := goodQ) e1 e2 e3
theorem dry {p : Prop} (_ : True) (h : p) : p := h
end H25
section
open PySem PySem.W PyProof.Rows
local macro_rules | `(tactic| o_head $H:term) => `(tactic| refine H25.dry ?hw ?hc)
local macro_rules | `(tactic| w_witness2) => `(tactic| trivial)
open_top H25.pre for PySem.Challenge.rw_findhall_k25_a_house_by_a_dict
end
namespace H25
open PySem PySem.W PyProof.Rows
noncomputable def asQ : List Addr := [2, 3, 15, 17, 18, 20, 21, 22, 29, 30, 31, 32, 35, 42, 43, 44, 47, 54, 55, 56, 59, 66, 67, 68, 71, 78, 79, 80, 83, 90, 91, 92, 95, 102, 103, 104, 107, 114, 115, 116, 119, 126, 127, 128, 131, 133, 134, 136, 137, 138, 140, 141, 143, 144, 145, 148, 149, 150, 153, 154, 155, 157, 158, 160, 161, 162, 164, 165, 167, 168, 169, 171, 172, 174, 175, 176, 177, 179, 180, 182, 183, 184, 186, 187, 189, 190, 191, 193, 194, 196, 197, 198, 200, 201, 203, 204, 205, 207, 208, 210, 211, 212, 214, 215, 217, 218, 219, 221, 222, 224, 225, 226, 229, 230, 231, 233, 234, 236, 237, 238, 240, 241, 243, 244, 245, 248, 249, 250, 252, 253, 255, 256, 257, 259, 260, 262, 263, 264, 266, 267, 269, 270, 271, 273, 274, 276, 277, 278, 281, 282, 283, 285, 286, 288, 289, 290, 292, 293, 295, 296, 297, 299, 300, 302, 303, 304, 306, 307, 309, 310, 311, 313, 314, 316, 317, 325, 326, 329, 330, 331, 333, 334, 336, 337, 338, 340, 341, 343, 344, 345, 347, 348, 350, 351, 352, 354, 355, 357, 358, 359, 361, 362, 364, 365, 366, 368, 369, 371, 372, 373, 375, 376, 378, 379, 380, 382, 383, 385, 386, 387, 389, 390, 392, 393, 394, 396, 397, 399, 400, 401, 403, 404, 406, 407, 408, 410, 411, 413, 414, 415, 416, 417, 418, 419, 429, 431, 432, 434, 435, 436, 438, 439, 441, 442, 443, 445, 446, 448, 449, 450, 451, 452, 453, 454, 457, 464, 466, 467, 469, 470, 471, 473, 474, 476, 477, 478, 480, 481, 483, 484, 485, 488, 489, 490, 491, 492, 495, 502, 504, 505, 507, 508, 509, 511, 512, 514, 515, 516, 518, 519, 521, 522, 523, 526, 527, 528, 529, 530, 533, 540, 542, 543, 545, 546, 547, 549, 550, 552, 553, 554, 556, 557, 559, 560, 561, 563, 564, 566, 567, 568, 569, 570, 573, 576, 577, 578, 580, 581, 583, 584, 585, 587, 588, 590, 591, 592, 594, 595, 597, 598, 599, 601, 602, 604, 605, 606, 608, 609, 611, 612, 613, 614, 616, 617, 619, 620, 621, 623, 624, 626, 627, 635, 637, 638, 640, 641, 642, 644, 645, 647, 648, 649, 651, 652, 654, 655, 656, 658, 659, 661, 662, 663, 666, 667, 668, 670, 671, 673, 674, 675, 678, 679, 680, 682, 683, 685, 686, 687, 690, 691, 692, 695, 696, 697, 700, 701, 702, 704, 705, 707, 708, 709, 712, 713, 714, 715, 717, 718, 720, 721, 722, 723, 725, 726, 728, 729, 730, 731, 732, 733, 734, 737, 739, 740, 742, 743, 744, 746, 747, 749, 750, 751, 754, 755, 756, 758, 759, 761, 762, 763, 766, 767, 768, 771, 772, 773, 775, 776, 778, 779, 780, 782, 783, 785, 786, 787, 789, 790, 792, 793, 794, 796, 797, 799, 800, 801, 803, 804, 806, 807, 808, 811, 812, 813, 816, 817, 818, 821, 822, 823, 825, 826, 828, 829, 830, 833, 834]
noncomputable abbrev hkQ : Hook := kHook H25.pre.heap_39 asQ (fun _ => by kernel_rfl)
theorem kF : ∀ w os, PySem.W.Fast.tw3832472070835567319 asQ (World.withFollow w "special-get-raises" false) os = some (Hook.val hkQ (World.withFollow w "special-get-raises" false)) := fun w os => by kernel_rfl
theorem kT : ∀ w os, PySem.W.Fast.tw3832472070835567319 asQ (World.withFollow w "special-get-raises" true) os = some (Hook.val hkQ (World.withFollow w "special-get-raises" true)) := fun w os => by kernel_rfl
theorem kB (w : World) (os : OsState) : ∀ b, PySem.W.Fast.tw3832472070835567319 asQ (World.withFollow w "special-get-raises" b) os = some (Hook.val hkQ (World.withFollow w "special-get-raises" b))
 | false => kF w os
 | true => kT w os
end H25
section
open PySem PySem.W PyProof.Rows
local macro_rules | `(tactic| o_head $H:term) => `(tactic|
 refine holds_open
  (q := H25.vQ) (loose := H25.lQ)
  (Xt := H25.xQ) (XP := XL H25.vQ [])
  (Yf := Hook.obs H25.hkQ)
  (Ya := Hook.val H25.hkQ) (YP := Hook.says H25.hkQ)
  (N := 20000)
  (H25.hl_of fun w os => H25.spl (H25.kB w os))
  (Hook.of H25.hkQ) (Hook.keeps H25.hkQ)
  (fun s e => xl_of s (Bool.and_eq_true_iff.mp e).1)
  XL.keeps rfl rfl rfl
  (fun s e => recFacts_of (Bool.and_eq_true_iff.mp e).2)
  rfl
  (by first | assumption | decide +kernel)
  (by decide +kernel)
  ⟨rfl, rfl, rfl, rfl, rfl, by decide +kernel⟩
  ?hw ?hc)
open_top H25.head for PySem.Challenge.rw_findhall_k25_a_house_by_a_dict
end
open _root_ renaming List→LR,if_neg→LX,decide_eq_false→LY,if_pos→LZ,decide_eq_true→Mb,Option→Mc,Array→Nd,of_decide_eq_true→Nh,congrArg→Nl,Bool→Nw,False→Om,String→OE,decide_eq_false_iff_not→OW,DecidableEq→Qd,beq_self_eq_true→Rj,if_false→RE,if_true→RP
open PySem renaming Addr→LS,Value→LW,Shared→Me,FuncData→Mj,wpAny_bind→Mn,Program→Mq,sizeLine_eq→Mt,mainGlobals→Mw,model→My,wpAny→MD,World→MT,Paired→MY,wpAny_pure→Nf,starEach→Ni,Spec→Nk,Heap→Nn,Around→Np,Stmt→Nr,Expr→Nv,bootBuiltins→Ny,wpAny_mono→NI,compareOp→NX,wpAny_truthy_bool→Oc,wpAny_Call_Name_kw→Of,mem_of_lookup→Ov,wpAny_holding→OA,attributeBase→OB,sysModules→OF,wpAny_passesOwn→OI,behindInMarks→OM,wpAny_getItem_str_slice→OU,PyData→OV,strIterType→OZ,tupleKind_room_in1→O2,wpAny_execs_nil→O7,noteFrame→O9,backTo→Pb,NameKind→Pk,setFlight→Pp,sliceBounds→PL,wpAny_Call_method0_late→PM,foldedSetIterable→PQ,cLine→PR,codeAny_mono→PU,wpAny_pyIter_enum→PY,handleBy→P0,call_meetsIn→P1,call_meets→P8,strLen_append→Qc,Scope→Qe,binaryOp→Qg,unbindBehindTheSuite→Qi,letOwnedTupleGo→Qp,post_val_or_str→Qs,evalArgs_none→Qz,codeAny→QE,assignEach→QK,recursionLimit→QM,wpAny_call→QO,wpAny_newFunctionEnv_cells→QP,typeIs_str→QQ,wpAny_pyIter_list→QX,keywordEach→Q3,wpAny_eqBool_str→Rb,tupleKind→Rc,holding→Rm,Builtin→Rr,valueAt→Rt,subscripted→RD,listText→RG,swapsWith→RH,getMethod→RI,BindsTo→RJ,callerA→RK,bindArgs→RM,backToKw→RN,getItem→RO,typeOf→RQ,atKey→RR
open PySem.Str renaming ofString→LU,length→NB,length_append→NM,empty→NU
open List renaming length_map→LV,length_append→Md,map_append→Mf,mem_cons_of_mem→Mg,mem_cons_self→Mi,length_cons→Ms,size_toArray→Mu,mem_append_right→MA,take_length→MG,length_take→ML,length→MQ,append_nil→MR,mem_append_left→MX,take_of_length_le→MZ,map_cons→Nb,append_assoc→Nc,flatten_append→Nm,replicate→ND,map_map→NG,mem_map_of_mem→NH,length_drop→NJ,nodup_nil→NK,lookup_cons→NO,range→NQ,take_append_drop→NR,flatten_cons→NS,filter_cons→NY,take_add_one→N2,mem_singleton→N8,drop_length→Oh,mem_append→Ot,map_congr_left→Ox,all_cons→OC,nil_sublist→OD,drop_eq_getElem_cons→OH,sublist_append_left→ON,sum_cons→OO,length_reverse→OR,lookup→OY,length_pos_of_mem→O5,all_append→O8,length_range→Pf,mem_of_mem_take→Pn,getElem_mem→Pq,rel_of_pairwise_cons→Pu,eq_of_mem_replicate→Py,sum_append→PB,drop_of_length_le→P2,length_replicate→P6,not_mem_nil→Qa,replicate_succ'→Qj,reverse_reverse→Qk,mem_of_mem_drop→Qm,of_mem_zip→Qr,nil_append→Qu,filterMap_cons→Qy,filter_sublist→QA,filter_append→QS,sublist_append_right→QV,take_sublist→Q4,reverse_cons→Q8,mem_cons→Ra,map_nil→Ro,all_map→Ru,range_succ→Ry,take_left→RF
open Nat renaming le_refl→Ma,le_trans→Mr,lt_of_lt_of_le→Mx,zero_le→MM,ne_of_lt→MV,lt_irrefl→Nq,le_succ→NC,le_succ_of_le→Od,lt_or_ge→Ol,min_le_left→Ou,lt_succ_self→OT,lt_succ_of_lt→Pd,succ_le_succ→Pt,zero_add→P5,mul_le_mul_right→Qo,min_eq_left→Qv,le_of_lt→QC,ne_of_gt→QD,succ_mul→Rv,not_lt_zero→Rx
open Or renaming inl→Mh,inr→Rq
open Option.some renaming inj→Ml
open PySem.W renaming Frag→Mm,Frag→Mz,findIn→MU,kitOne→Ng,keepIn→Nx,codeIn→NA,fnOf→NN,mg_none_of→N1,nsIn→N6,mg_of→Oa,isFn→Oy,kia_one→OJ,emptyDict→OX,exmOne→Pl,instObj→P7,callWith_K→QF,excIn→QH,plainGet→QL,hasDictIn→QY,mroIn→QZ,hideAll→Rf,cellsFrom_some→Rg,methodCall_KW→Rw,plainOver→RC
open PySem.Heap renaming lt_size→Mv,size_push→Pj,SameBut→Po,FlyingW→QG
open Bool renaming false_ne_true→MC,and_eq_true→MO,false_and→OS,true_and→Px,false_eq_true→PF,and_false→PV,not_eq_true'→PZ,eq_iff_iff→Qq
open PySem.Value renaming ref→ME,none→Oo,int→PH,str→PJ,bool→Rl
open Sum renaming inr→MF,inl→Ob
open PySem.PassesOwn renaming never→MK,leaving→Pe
open PySem.F renaming slot_list_append→MN,plainAttrs_list→MP,type_list_append→MS,excBase_ValueError→Na,excBase_ValueError→NV,plainAttrs_str→NZ,plainAttrs_dict→OL,slot_dict_setdefault→O3,slot_list_extend→PD,plainAttrs_list→PN,type_dict_setdefault→P4,slot_str_split→P9,type_list_extend→QR,args_str_split_2→QT,entry_str_split→Q9,slot_str_join→Rz,type_str_join→RA
open PySem.Unicode renaming isSpace→M9
open PySem.PyData renaming str→Nj,list→NP,depthAll→NW,shown→N7,bool→O0,showableAll→O6,hasDictAll→Pg,shownAll→Qx,depth→QI,eqv→RL
open Ne renaming symm→Nt
open False renaming elim→Nu
open PySem.NameKind renaming free→Nz,cell→Qb
open Int renaming toNat_natCast→NF,zero_add→Oj,toNat_of_nonneg→Ow,emod_lt_of_pos→O1,emod_nonneg→Pz
open PySem.Builtin.Str renaming occurrences→NT
open List.Sublist renaming refl→N3
open PyProof.Rows renaming callWith_type1→N9,seqObj→O4,envOfC→Pc,AllBare→QB,sortedS→Q6
open Classical renaming byContradiction→Oe
open PySem.Obj renaming mapSeq→Og
open Nat.succ renaming inj→Oi
open True renaming intro→Oq
open PySem.Calls renaming callWith_builtin→Oz,evalArgs_plain→Qh,Name_function_global→QJ,spliced_cons→QN,call_function_entry→QU,spliced_nil→Q0
open PySem.StrLaws renaming sliceText_to→OG,sliceText_plain→Qn,sliceText_from→Qw,occ_length_le_len→QW
open ForInStep renaming yield→OK
open Array renaming length_toList→OP,toList_extract→Ql,toList_map→Rk
open PySem.Builtin.Int renaming intBits→OQ
open List.cons renaming inj→Pa
open Sum.inr renaming inj→Ph
open PySem.Builtin.List renaming listTooLong→Pw
open PySem.WalksT renaming enumerateD→PX
open Option renaming map_some→Qt,isSome_map→Q5
open Prod.mk renaming inj→Q7
open PySem.W.WData renaming int→Rh
open PySem.Spec renaming ltCps→Ri
open PySem.Around renaming under→Rn
open Sum.inl renaming inj→RB
namespace L2
open PySem PySem.Spec PyProof.Rows
theorem _root_.dkq {p:Prop} [Decidable p] (h:decide p=true:=by kernel_rfl):p:=Nh h
noncomputable abbrev Key:=Sum Int Str
noncomputable def mz:Key->LW->Nw
 |.inl k,v=>Value.isInt k v
 |.inr x,v=>Value.isStrOf x v
noncomputable def IK(w:MT):Key->Int
 |.inl k=>hashInt k
 |.inr x=>hashStr w x
theorem jI:∀{k:Key} {v:LW},mz k v=true->(∃ i t,k=Ob i/\v=PH i t)\/(∃ x t,k=MF x/\v=PJ x t)
 |.inl i,v,h=>by
  obtain⟨t,e⟩:=Value.isInt_shape (k:=i) (v:=v) h;exact .inl ⟨i,t,rfl,e⟩
 |.inr x,v,h=>by
  obtain⟨t,e⟩:=Value.isStrOf_shape (x:=x) (v:=v) h;exact .inr ⟨x,t,rfl,e⟩
theorem Hz(i:Int)(t:Tok):mz (.inl i) (.int i t)=true:=by simp[mz,Value.isInt]
theorem Em(x:Str)(t:Tok):mz (.inr x) (.str x t)=true:=by simp[mz,Value.isStrOf]
theorem K0(a b:Int):decide ((Ob a:Key)=Ob b)=(a==b):=by
 by_cases e:a=b
 ·subst e;simp
 ·have h:¬ (Ob a:Key)=Ob b:=λq=>e (RB q)
  rw[LY h];exact(beq_eq_false_iff_ne.mpr e).symm
theorem Cp(a b:Str):decide ((MF a:Key)=MF b)=decide (a=b):=by
 by_cases e:a=b
 ·subst e;simp
 ·have h:¬ (MF a:Key)=MF b:=λq=>e (Ph q)
  rw[LY h,LY e]
theorem Kd(a:Int)(b:Str):decide ((Ob a:Key)=MF b)=false:=LY (λq=>nomatch q)
theorem HR(a:Str)(b:Int):decide ((MF a:Key)=Ob b)=false:=LY (λq=>nomatch q)
noncomputable def eW(prog:Mq)(w:MT):PySem.KeyKind prog w Key where
 is:=mz
 hash:=IK w
 inj:=λv a b ha hb=>by
  rcases jI ha with ⟨i,t,rfl,rfl⟩|⟨x,t,rfl,rfl⟩
  ·rcases jI hb with ⟨j,u,rfl,e⟩|⟨y,u,rfl,e⟩
   ·injection e with e1 _;rw[e1]
   ·exact nomatch e
  ·rcases jI hb with ⟨j,u,rfl,e⟩|⟨y,u,rfl,e⟩
   ·exact nomatch e
   ·injection e with e1 _;rw[e1]
 byValue:=λk v h=>by
  rcases jI h with ⟨i,t,rfl,rfl⟩|⟨x,t,rfl,rfl⟩<;>rfl
 pyHash:=λI h=>by
  rcases jI I with ⟨i,t,rfl,rfl⟩|⟨x,t,rfl,rfl⟩
  ·exact wpAny_pyHash_int h
  ·exact wpAny_pyHash_str h
 eqBool:=λJ I h=>by
  rcases jI J with ⟨i,t,rfl,rfl⟩|⟨x,t,rfl,rfl⟩
  ·rcases jI I with ⟨j,u,rfl,rfl⟩|⟨y,u,rfl,rfl⟩
   ·rw[K0] at h;exact wpAny_eqBool_int h
   ·rw[Kd] at h;exact SeqAt.EqAt.int_str i t y u _ _ _ _ h
  ·rcases jI I with ⟨j,u,rfl,rfl⟩|⟨y,u,rfl,rfl⟩
   ·rw[HR] at h;exact SeqAt.EqAt.str_int x t j u _ _ _ _ h
   ·rw[Cp] at h;exact Rb h
 «strs»:=λk x t v h=>by
  rcases jI h with ⟨i,u,rfl,e⟩|⟨y,u,rfl,e⟩
  ·exact nomatch e
  ·injection e with e1 _;subst e1;cases v<;>rfl
theorem Kr(prog:Mq)(w:MT)(i:Int)(t:Tok):(eW prog w).is (.inl i) (.int i t)=true:=Hz i t
theorem Gu(prog:Mq)(w:MT)(x:Str)(t:Tok):(eW prog w).is (.inr x) (.str x t)=true:=Em x t
inductive V where
 |non|bl (b : Nw)|int (i : Int)|str (x : Str)|byt (b : Nd UInt8)|flt (b : UInt64)|ref (a : LS)|ty (n : OE)
 deriving Qd
noncomputable def RelV:V->LW->Prop
 |.non,u=>u=Oo
 |.bl b,u=>u=Rl b
 |.int i,u=>∃ t,u=PH i t
 |.str x,u=>∃ t,u=PJ x t
 |.byt b,u=>∃ t,u=Value.bytes b t
 |.flt b,u=>∃ t,u=Value.float b t
 |.ref a,u=>u=ME a
 |.ty n,u=>u=Value.type n
noncomputable abbrev Vals:LR V->LR LW->Prop:=MY RelV
theorem Vals.length {xs:LR V}{us:LR LW}(r:Vals xs us):xs.length=us.length:=Paired.length r
theorem Vals.get:∀{xs:LR V} {us:LR LW} {i:Nat} {x:V},Vals xs us->xs[i]? =some x->∃ u,us[i]? =some u/\RelV x u
 |_,_,_,_,.nil,e=>by simp at e
 |_,_,0,_,.cons r _,e=>by simp at e;subst e;exact⟨_,rfl,r⟩
 |_,_,i+1,x,.cons _ t,e=>by
  obtain⟨u,h1,h2⟩:=Vals.get (i:=i) (x:=x) t (by simpa using e);exact⟨u,by simpa using h1,h2⟩
theorem Vals.set {x:V}{u:LW}(r:RelV x u):∀{xs:LR V} {us:LR LW} (i:Nat),Vals xs us->Vals (xs.set i x) (us.set i u)
 |_,_,_,.nil=> .nil
 |_,_,0,.cons _ t=> .cons r t
 |_,_,i+1,.cons q t=> .cons q (Vals.set r i t)
theorem Vals.append:∀{xs ys:LR V} {us ws:LR LW},Vals xs us->Vals ys ws->Vals (xs++ys) (us++ws)
 |_,_,_,_,.nil,s=>s
 |_,_,_,_,.cons r t,s=> .cons r (Vals.append t s)
theorem Vals.take:∀{xs:LR V} {us:LR LW} (n:Nat),Vals xs us->Vals (xs.take n) (us.take n)
 |_,_,0,_=> .nil
 |_,_,_+1,.nil=> .nil
 |_,_,n+1,.cons r t=> .cons r (Vals.take n t)
theorem Vals.drop:∀{xs:LR V} {us:LR LW} (n:Nat),Vals xs us->Vals (xs.drop n) (us.drop n)
 |_,_,0,r=>r
 |_,_,_+1,.nil=> .nil
 |_,_,n+1,.cons _ t=>Vals.drop n t
noncomputable def gF:Mc V->Mc LW->Prop
 |some v,some u=>RelV v u
 |none,none=>True
 |_,_=>Om
noncomputable def KV{κ:Type}:LR (κ×V)->LR (κ×LW)->Prop:=MY λ(p:κ×V) (q:κ×LW)=>p.1=q.1/\RelV p.2 q.2
noncomputable def kV:Key->V
 |.inl i=> .int i
 |.inr x=> .str x
inductive HO where
 |lst (xs : LR V)
 |tup (xs : LR V)
 |dK (kvs : LR (Key × V))|dT (kvs : LR (LR Key × V))
 |set (S : Int -> Nw) (n : Nat)
 |ins (C dx : LS) (fs : LR (Str × V))
 |own (x : LS)
 |xd (fs : LR (Str × V))
 |met (f x : LS)
 |rng (lo hi : Int)
 |frz (o : Obj) (u : HO)
 |tbl (ps : Nd LW)
 |ext (φ : Nn -> Prop)
noncomputable abbrev Hp:=LS->Mc HO
noncomputable def upd(H:Hp)(a:LS)(o:HO):Hp:=λb=>if b=a then some o else H b
theorem cT{H:Hp}{a:LS}{o:HO}:upd H a o a=some o:=by unfold upd;rw[LZ rfl]
theorem cW{H:Hp}{a b:LS}{o:HO}(h:b≠a):upd H a o b=H b:=by unfold upd;rw[LX h]
theorem mf{H:Hp}{a:LS}{o u:HO}:upd (upd H a o) a u=upd H a u:=by
 funext b;unfold upd;split<;>rfl
theorem EK{H:Hp}{a b:LS}{o u:HO}(h:H a=some o)(h':H b=some u)(d:o≠u):a≠b:=by
 intro e;subst e;rw[h] at h';exact d (Ml h')
theorem dF{H:Hp}{a b:LS}{o:HO}(h:H a=some o)(h':H b=none):a≠b:=by
 intro e;subst e;rw[h] at h';cases h'
section
variable (P : Mq) (w : MT)
noncomputable def eC(H:Hp)(h:Nn)(a:LS):HO->Prop
 |.lst xs=>xs.length<=sizeLine/\∃(I:LR LW) (n:Nat),Vals xs I/\h.get? a=some {cls:= .type "list",data:= .seq I.toArray n}
 |.tup xs=>xs.length<=sizeLine/\∃ I:LR LW,Vals xs I/\IsTup h a I.toArray
 |.dK kvs=>kvs.length<=sizeLine/\(a==OF)=false/\∃ vs,KV kvs vs/\h.DictOf (eW P w) a vs
 |.dT kvs=>kvs.length<=sizeLine/\(a==OF)=false/\∃ xs:LR (LR Key×LS×LW),
   MY (λ(p:LR Key×V) (q:LR Key×LS×LW)=>p.1=q.1/\H q.2.1=some (.tup (p.1.map kV))/\RelV p.2 q.2.2) kvs xs/\
   ∃ o es ep,h.get? a=some o/\o.ExactDict/\o.data= .dict es ep/\es.toList=xs.map (entryOfKey (Rc (eW P w)))/\(xs.map (·.1)).Nodup
 |.set S n=>h.SetOf (intKind P w) a S n
 |.ins C dx fs=>H dx=some (.own a)/\fs.length<=1000/\dx≠a/\h.get? a=some (P7 C dx)/\
   ∃ mA,h.Ns1 dx mA/\(∀ f,gF (fs.lookup f) (mA f))/\PySem.Within mA (fs.map (·.1))
 |.own _=>∃ o,h.get? a=some o
 |.xd fs=>∃ mA,h.Ns1 a mA/\∀ f,gF (fs.lookup f) (mA f)
 |.rng lo hi=>∃ t u v,h.get? a=some {cls:= .type "range",data:= .fields #[.int lo t,.int hi u,.int 1 v]}
 |.frz o u=>h.get? a=some o/\eC H h a u
 |.tbl ps=>h.get? a=some {cls:= .none,data:= .fields ps}
 |.met f x=>h.get? a=some (W.methodObj (.ref f) (.ref x))
 |.ext J=>J h/\(∃ o,h.get? a=some o)/\∀ h1 h2:Nn,J h1->(∀ o,h1.get? a=some o->h2.get? a=some o)->J h2
noncomputable def eS(H:Hp)(h:Nn):Prop:=∀ a o,H a=some o->eC P w H h a o
end
section
variable {P : Mq} {w : MT} {H H' : Hp} {h h' : Nn} {a : LS} {o : HO}
theorem eC.lt (x:eC P w H h a o):a<h.objs.size:=by
 cases o with
 |lst xs=>obtain⟨_,_,_,_,e⟩:=x;exact Mv e
 |tup xs=>obtain⟨_,_,_,p⟩:=x;exact p.lt
 |dK kvs=>obtain⟨_,_,_,_,o,_,_,e,_⟩:=x;exact Mv e
 |dT kvs=>obtain⟨_,_,_,_,o,_,_,e,_⟩:=x;exact Mv e
 |set S n=>obtain⟨o,_,_,_,e,_⟩:=x;exact Mv e
 |ins C dx fs=>obtain⟨_,_,_,e,_⟩:=x;exact Mv e
 |own y=>obtain⟨_,e⟩:=x;exact Mv e
 |xd fs=>obtain⟨_,⟨_,_,_,e,_⟩,_⟩:=x;exact Mv e
 |rng lo hi=>obtain⟨_,_,_,e⟩:=x;exact Mv e
 |frz I u=>obtain⟨e,_⟩:=x;exact Mv e
 |tbl ps=>exact Mv (show h.get? a=some _ from x)
 |met f y=>exact Mv (show h.get? a=some _ from x)
 |ext J=>obtain⟨_,⟨_,e⟩,_⟩:=x;exact Mv e
theorem Paired.mapP {α β:Type}{F G:α->β->Prop}:∀{l₁:LR α} {l₂:LR β},MY F l₁ l₂->(∀ a b,F a b->G a b)->MY G l₁ l₂
 |_,_,.nil,_=> .nil
 |_,_,.cons r t,f=> .cons (f _ _ r) (Paired.mapP t f)
theorem eC.stay (x:eC P w H h a o)(k:∀ b u,(b=a\/H b=some (.own a))->h.get? b=some u->h'.get? b=some u)
  (ho:∀ b,H b=some (.own a)->H' b=some (.own a))(ht:∀ b xs,H b=some (.tup xs)->H' b=some (.tup xs)):eC P w H' h' a o:=by
 induction o with
 |lst xs=>obtain⟨z,J,n,r,e⟩:=x;exact⟨z,J,n,r,k _ _ (.inl rfl) e⟩
 |tup xs=>obtain⟨z,J,r,I,e,c⟩:=x;exact⟨z,J,r,I,k _ _ (.inl rfl) e,c⟩
 |dK kvs=>obtain⟨z,y,vs,r,I,es,ep,e,c⟩:=x;exact⟨z,y,vs,r,I,es,ep,k _ _ (.inl rfl) e,c⟩
 |dT kvs=>
  obtain⟨z,y,xs,r,I,es,ep,e,c⟩:=x;exact⟨z,y,xs,Paired.mapP r λp q z=>⟨z.1,ht _ _ z.2.1,z.2.2⟩,I,es,ep,k _ _ (.inl rfl) e,c⟩
 |set S n=>obtain⟨I,es,ep,t,e,c⟩:=x;exact⟨I,es,ep,t,k _ _ (.inl rfl) e,c⟩
 |ins C dx fs=>
  obtain⟨d,z,ne,e,mA,⟨U,es,ep,e2,c⟩,r⟩:=x;exact⟨ho _ d,z,ne,k _ _ (.inl rfl) e,mA,⟨U,es,ep,k _ _ (.inr d) e2,c⟩,r⟩
 |own y=>obtain⟨I,e⟩:=x;exact⟨I,k _ _ (.inl rfl) e⟩
 |xd fs=>obtain⟨mA,⟨U,es,ep,e,c⟩,r⟩:=x;exact⟨mA,⟨U,es,ep,k _ _ (.inl rfl) e,c⟩,r⟩
 |rng lo hi=>obtain⟨t,u,v,e⟩:=x;exact⟨t,u,v,k _ _ (.inl rfl) e⟩
 |frz I u ih=>obtain⟨e,q⟩:=x;exact⟨k _ _ (.inl rfl) e,ih q⟩
 |tbl ps=>
  have e:h.get? a=some {cls:= .none,data:= .fields ps}:=x
  show h'.get? a=some {cls:= .none,data:= .fields ps};exact k a _ (.inl rfl) e
 |met f y=>
  have e:h.get? a=some (W.methodObj (.ref f) (.ref y)):=x
  show h'.get? a=some (W.methodObj (.ref f) (.ref y));exact k a _ (.inl rfl) e
 |ext φ=>obtain⟨p,⟨o,e⟩,st⟩:=x;exact⟨st _ _ p λo q=>k _ _ (.inl rfl) q,⟨o,k _ _ (.inl rfl) e⟩,st⟩
theorem eS.lt (x:eS P w H h)(e:H a=some o):a<h.objs.size:=(x a o e).lt
theorem eS.fresh (x:eS P w H h)(e:h.objs.size<=a):H a=none:=by
 cases q:H a with
 |none=>rfl
 |some u=>exact absurd (Mx (x.lt q) e) (Nq _)
theorem eS.kept (x:eS P w H h)(k:∀ b u,h.get? b=some u->h'.get? b=some u):eS P w H h':=λa o e=>
 (x a o e).stay (λb u _ q=>k b u q) (λ_ q=>q) λ_ _ q=>q
theorem eS.laid (x:eS P w H h)(k:∀ b u,h.get? b=some u->h'.get? b=some u)(hp:h.objs.size<=a)(new:eC P w (upd H a o) h' a o):eS P w (upd H a o) h':=λb u e=>by
 have hn:=x.fresh hp;by_cases hb:b=a
 ·subst hb;rw[cT] at e;cases e;exact new
 ·rw[cW hb] at e;exact(x b u e).stay (λc v _ q=>k c v q) (λc q=>by rw[cW (dF q hn)];exact q) λc xs q=>by rw[cW (dF q hn)];exact q
end
noncomputable def Rd(H:Hp)(a:LS)(u:HO):Prop:=H a=some u\/∃ o,H a=some (.frz o u)
theorem Rd.ok {P:Mq}{w:MT}{H:Hp}{h:Nn}{a:LS}{u:HO}(r:Rd H a u)(x:eS P w H h):eC P w H h a u:=by
 rcases r with r|⟨o,r⟩
 ·exact x a u r
 ·obtain⟨_,q⟩:=x a _ r;exact q
noncomputable def pV:Mc HO->Prop
 |some (.lst _)=>True
 |some (.dK _)=>True
 |some (.dT _)=>True
 |some (.set _ _)=>True
 |some (.ins _ _ _)=>True
 |some (.ext _)=>True
 |_=>Om
section
variable {P : Mq} {w : MT} {H : Hp} {h h' : Nn} {x e : LS} {o' : HO}
theorem eS.write (ok:eS P w H h)(mu:pV (H x))(he:e=x\/H e=some (.own x))(k:∀ b u,b≠e->h.get? b=some u->h'.get? b=some u)(heo:∃ u,h'.get? e=some u)
  (new:eC P w (upd H x o') h' x o'):eS P w (upd H x o') h':=λb u q=>by
 have J:∀ c y,H c=some (.own y)->c≠x:=λc y r z=>by subst z;rw[r] at mu;exact mu
 have U:∀ c xs,H c=some (.tup xs)->c≠x:=λc xs r z=>by subst z;rw[r] at mu;exact mu
 by_cases hb:b=x
 ·subst hb;rw[cT] at q;cases q;exact new
 ·rw[cW hb] at q;by_cases I:b=e
  ·have q':H b=some (.own x):=by
    rcases he with z|z
    ·exact absurd (I.trans z) hb
    ·rw[I];exact z
   rw[q] at q';cases q';obtain⟨v,hv⟩:=heo;exact⟨v,by rw[I];exact hv⟩
  ·refine(ok b u q).stay (λc v hc r=>k c v ?_ r) (λc r=>by rw[cW (J c b r)];exact r) λc xs r=>by rw[cW (U c xs r)];exact r
   rcases hc with rfl|hc
   ·exact I
   ·rintro rfl;rcases he with z|z
    ·exact J c b hc z
    ·rw[hc] at z;cases z;exact hb rfl
end
structure Un (fs ex : LR LS) (H H' : Hp) (h h' : Nn) : Prop where
 keep : ∀ b o, h.get? b = some o -> H b = none -> b ∉ fs -> b ∉ ex -> h'.get? b = some o
 slot : ∀ b o, h.get? b = some o -> H b = none -> b ∈ fs -> b ∉ ex -> ∃ sl, h'.get? b = some { o with slots := sl }
 free : ∀ b o, h.get? b = some o -> H b = none -> b ∉ ex -> H' b = none
 there : ∀ b o, h.get? b = some o -> b ∉ ex -> ∃ o', h'.get? b = some o'
 tups : ∀ b xs, H b = some (.tup xs) -> H' b = some (.tup xs)
 frzs : ∀ b o u, H b = some (.frz o u) -> H' b = some (.frz o u)
 tbls : ∀ b ps, H b = some (.tbl ps) -> ∃ more, H' b = some (.tbl (ps ++ more))
section
variable {fs fs' ex ex' : LR LS} {H H1 H2 : Hp} {h h1 h2 h' : Nn} {a x e : LS} {o : HO}
theorem Un.any (u:Un fs ex H H1 h h1){b:LS}{ob:Obj}(q:h.get? b=some ob)(n:H b=none)(hx:b∉ex):∃ sl,h1.get? b=some {ob with slots:=sl}:=by
 by_cases hb:b∈fs
 ·exact u.slot b ob q n hb hx
 ·exact⟨ob.slots,u.keep b ob q n hb hx⟩
theorem Un.kept (k:∀ b u,h.get? b=some u->h'.get? b=some u):Un fs ex H H h h':=
 ⟨λb I q _ _ _=>k b I q,λb I q _ _ _=>⟨I.slots,k b I q⟩,λ_ _ _ n _=>n,λb I q _=>⟨I,k b I q⟩,λ_ _ q=>q,λ_ _ _ q=>q,λ_ ps q=>⟨#[],by rw[q];simp⟩⟩
theorem Un.refl:Un fs ex H H h h:=Un.kept λ_ _ q=>q
theorem Un.laid (k:∀ b u,h.get? b=some u->h'.get? b=some u)(hp:h.objs.size<=a)(hn:H a=none):Un fs ex H (upd H a o) h h' where
 keep:=λb u q _ _ _=>k b u q
 slot:=λb u q _ _ _=>⟨u.slots,k b u q⟩
 free:=λb u q n _=>by rw[cW (MV (Mx (Mv q) hp))];exact n
 there:=λb u q _=>⟨u,k b u q⟩
 tups:=λb xs q=>by rw[cW (dF q hn)];exact q
 frzs:=λb u xs q=>by rw[cW (dF q hn)];exact q
 tbls:=λb ps q=>⟨#[],by rw[cW (dF q hn),q];simp⟩
theorem Un.write (mu:pV (H x))(he:e=x\/H e=some (.own x))(k:∀ b u,b≠e->h.get? b=some u->h'.get? b=some u)(heo:∃ u,h'.get? e=some u):Un fs ex H (upd H x o) h h':=by
 have J:∀ b,H b=none->b≠x:=λb n z=>by subst z;rw[n] at mu;exact mu
 have hb:∀ b,H b=none->b≠e:=λb n z=>by
  subst z;rcases he with r|r
  ·exact J b n r
  ·rw[n] at r;cases r
 have hm:∀ b u,H b=some u->¬ pV (some u)->b≠x:=λb u q nm z=>by subst z;rw[q] at mu;exact nm mu
 refine⟨λb u q n _ _=>k b u (hb b n) q,λb u q n _ _=>⟨u.slots,k b u (hb b n) q⟩,λb u q n _=>by rw[cW (J b n)];exact n,λb u q _=>?_,
  λb xs q=>by rw[cW (hm b _ q λz=>z)];exact q,λb u xs q=>by rw[cW (hm b _ q λz=>z)];exact q,λb ps q=>⟨#[],by rw[cW (hm b _ q λz=>z),q];simp⟩⟩;by_cases I:b=e
 ·subst I;exact heo
 ·exact⟨u,k b u I q⟩
end
noncomputable def qD(h:Nn)(H:Hp):LR LS:=(NQ h.objs.size).filter λa=>(H a).isSome
noncomputable def km(h:Nn)(H:Hp):Nn:=Rf h (qD h H)
theorem J4(h:Nn)(H:Hp):(km h H).objs.size=h.objs.size:=W.hideAll_size _ _
theorem Jh{h:Nn}{H:Hp}{b:LS}{o:Obj}(e:h.get? b=some o)(n:H b=none):(km h H).get? b=some o:=
 W.hideAll_get _ e λhm=>by
  have q:(H b).isSome=true:=(List.mem_filter.mp hm).2;rw[n] at q;simp at q
theorem Jx{h:Nn}{H:Hp}{b:LS}{o:Obj}(e:(km h H).get? b=some o):h.get? b=some o/\H b=none:=by
 have I:h.get? b=some o:=W.of_hideAll (qD h H) e;refine⟨I,?_⟩;cases q:H b with
 |none=>rfl
 |some x=>
  have hm:b∈qD h H:=List.mem_filter.mpr ⟨List.mem_range.mpr (Mv I),by simp[q]⟩
  have z:(km h H).get? b=none:=W.hideAll_none (qD h H) hm;rw[z] at e;cases e
structure Mod (K : Mm) (mg : Str -> Mc LW) (base : Nn) : Prop where
 kin : K.In base
 glob : base.Ns Mw mg
 blt : ∃ mb, base.Ns builtinsNs mb /\ ∀ x : Str, x ≠ "__name__" -> mb x = Ny x
 nolimit : base.NoLimit
structure Cx where
 prog : Mq
 w : MT
 K : Mm
 mg : Str -> Mc LW
 base : Nn
 A : Np
 N : LR Str
 s₀ : Me
 H₀ : Hp
 env : Env
 outer : LR Env
 stack : LR Env
 ex : LR LS
 fn : Str -> Nw
 calm : Nw
 pn : LR (LS × Obj)
 xe : LW -> Me -> Prop
noncomputable def eE(l:LR Env):LR LS:=l.filterMap (·.frame)
noncomputable abbrev Cx.fs (X:Cx):LR LS:=eE X.outer
noncomputable def oX(sc:Qe)(x:Str):Prop:=sc.names.lookup x=some .local\/sc.names.lookup x=some .cell\/sc.names.lookup x=some .free
noncomputable def Loc(sc:Qe)(x:Str):Prop:=sc.names.lookup x=some .local\/sc.names.lookup x=some .cell
noncomputable def Look(env:Env)(h:Nn)(m:Str->Mc LW)(x:Str)(u:LW):Prop:=
 (env.kindOf x=some .local/\m x=some u)\/((env.kindOf x=some .cell\/env.kindOf x=some .free)/\∃ c,env.cells.lookup x=some c/\h.IsCell c (some u))
structure Cx.Ok (X : Cx) : Prop where
 mod : Mod X.K X.mg X.base
 kind : X.env.scope.kind = .function
 glob : X.env.globals = Mw
 blt : X.env.builtins = builtinsNs
 above : X.s₀.heap.objs.size<=X.env.locals
 inj : ∀ x y c, X.env.cells.lookup x = some c -> X.env.cells.lookup y = some c -> x = y
 has : ∀ x, (X.env.kindOf x = some .cell \/ X.env.kindOf x = some .free) -> ∃ c, X.env.cells.lookup x = some c
 cab : ∀ x c, X.fn x = true -> X.env.cells.lookup x = some c -> X.s₀.heap.objs.size<=c
 hd : X.calm = true -> X.A.handled = none
 frames : X.A.frames = some X.stack
 stk : X.stack = X.outer \/ (X.stack = X.env :: X.outer /\ X.env.frame = some X.env.locals)
 exf : ∀ b ∈ X.ex, b ≠ X.env.locals /\ ∀ x c, X.env.cells.lookup x = some c -> c ≠ b
 bs : ∀ b o, X.base.get? b = some o -> X.s₀.heap.get? b = some o /\ X.H₀ b = none
 bsz : X.base.objs.size<=X.s₀.heap.objs.size
 noex : ∀ b o, X.base.get? b = some o -> b ∉ X.ex
 exfs : ∀ b ∈ X.ex, b ∉ X.fs
 funs : X.s₀.heap.FunFrames X.base X.outer
 frf : ∀ b ∈ X.fs, X.H₀ b = none
structure Inv (X : Cx) (pins : LR (LS × Obj)) (σ : LR (Mc V)) (H : Hp) (s : Me) : Prop where
 ok : X.Ok
 os : s.os = X.s₀.os
 bare : QB s.gens
 base : Un X.fs X.ex X.H₀ H X.s₀.heap s.heap
 loc : ∃ m, s.heap.Ns X.env.locals m /\ ∀ (i : Nat) (x : Str) (v : V), X.N[i]? = some x -> σ[i]? = some (some v) -> oX X.env.scope x -> ∃ u, RelV v u /\ Look X.env s.heap m x u
 cell : ∀ x c, X.env.cells.lookup x = some c -> ∃ v, s.heap.IsCell c v
 free : H X.env.locals = none
 freeC : ∀ x c, X.env.cells.lookup x = some c -> H c = none
 pin : ∀ p ∈ X.pn ++ pins, s.heap.get? p.1 = some p.2 /\ H p.1 = none /\ p.1 ≠ X.env.locals /\ p.1 ∉ X.fs /\ ∀ v, p.2.data ≠ .cell v
 hok : eS X.prog X.w H s.heap
 len : σ.length = X.N.length
section
variable {X : Cx} {pins : LR (LS × Obj)} {σ : LR (Mc V)} {H H' : Hp} {s : Me} {h' : Nn}
theorem Cx.Ok.nofr (ok:X.Ok){b:LS}{o:Obj}(e:X.base.get? b=some o):b∉X.fs:=λhb=>by
 have:=(ok.funs.mem hb).1;rw[e] at this;cases this
theorem Inv.bs (I:Inv X pins σ H s):∀ b o,X.base.get? b=some o->s.heap.get? b=some o/\H b=none:=λb o e=>
 ⟨I.base.keep b o (I.ok.bs b o e).1 (I.ok.bs b o e).2 (I.ok.nofr e) (I.ok.noex b o e),I.base.free b o (I.ok.bs b o e).1 (I.ok.bs b o e).2 (I.ok.noex b o e)⟩
theorem Inv.bk (I:Inv X pins σ H s):∀ b o,X.base.get? b=some o->s.heap.get? b=some o:=λb o e=>(I.bs b o e).1
theorem Inv.mod (I:Inv X pins σ H s):Mod X.K X.mg X.base:=I.ok.mod
theorem Inv.kIn (I:Inv X pins σ H s):X.K.In s.heap:=I.ok.mod.kin.keeps I.bk
theorem Inv.fr (I:Inv X pins σ H s):∃ m,Fr X.base X.env.locals s.heap m:=
 let ⟨m,hn,_⟩:=I.loc
 ⟨m,hn,I.bk,Mr I.ok.bsz I.ok.above⟩
theorem Inv.lt (I:Inv X pins σ H s):X.env.locals<s.heap.objs.size:=let ⟨_,hn,_⟩:=I.loc;hn.lt
theorem Inv.sz (I:Inv X pins σ H s):X.s₀.heap.objs.size<=s.heap.objs.size:=Mr I.ok.above (QC I.lt)
theorem Inv.nofs (I:Inv X pins σ H s){a:LS}(h:s.heap.objs.size<=a):a∉X.fs:=λhb=>by
 obtain⟨_,o,J,_⟩:=I.ok.funs.mem hb;exact absurd (Mx (Mv J) (Mr I.sz h)) (Nq _)
theorem Inv.cne (I:Inv X pins σ H s):∀ x c,X.env.cells.lookup x=some c->c≠X.env.locals:=λx c e z=>by
 obtain⟨v,o,ho,hd⟩:=I.cell x c e;obtain⟨m,⟨o',es,ep,J,U,_⟩,_⟩:=I.loc;rw[z,J] at ho;cases ho;rw[U] at hd;cases hd
theorem Inv.funs (I:Inv X pins σ H s):s.heap.FunFrames X.base X.outer:=by
 have all:∀(l:LR Env),(∀ b∈eE l,b∈X.fs)->X.s₀.heap.FunFrames X.base l->s.heap.FunFrames X.base l:=by
  intro l;induction l with
  |nil=>intro _ _;trivial
  |cons env r U=>
   intro hs hl;obtain⟨hk,⟨L,o,hf,hn,ho,hd⟩,hr⟩:=hl;have J:L∈X.fs:=hs L (by unfold eE;rw[Qy,hf];exact Mi);obtain⟨sl,e⟩:=I.base.slot L o ho (I.ok.frf L J) J λz=>I.ok.exfs L z J
   exact⟨hk,⟨L,_,hf,hn,e,hd⟩,U (λb hb=>hs b (by unfold eE;rw[Qy,hf];exact Mg _ hb)) hr⟩
 exact all X.outer (λ_ hb=>hb) I.ok.funs
theorem Inv.stack (I:Inv X pins σ H s):s.heap.FunFrames X.base X.stack:=by
 rcases I.ok.stk with e|⟨e,hf⟩
 ·rw[e];exact I.funs
 ·rw[e];obtain⟨m,hn,_⟩:=I.loc;refine .cons (by rw[I.ok.kind];decide) hf hn ?_ I.funs;exact Heap.get?_none_of_le (Mr I.ok.bsz I.ok.above)
theorem Inv.stkSub (I:Inv X pins σ H s):∀ b∈eE X.stack,b∈X.env.locals::X.fs:=λb hb=>by
 rcases I.ok.stk with e|⟨e,hf⟩
 ·rw[e] at hb;exact Mg _ hb
 ·rw[e] at hb;unfold eE at hb;rw[Qy,hf] at hb;exact hb
theorem Inv.stkFree (I:Inv X pins σ H s):∀ b∈eE X.stack,H b=none:=λb hb=>by
 rcases List.mem_cons.mp (I.stkSub b hb) with e|hb
 ·rw[e];exact I.free
 ·obtain⟨_,o,J,_⟩:=I.ok.funs.mem hb;exact I.base.free b o J (I.ok.frf b hb) λz=>I.ok.exfs b z hb
theorem Inv.step {g':Nd GenState}{t':Nat}{d':Drawn}{ch:LR LS}(I:Inv X pins σ H s)
  (hch:∀ b∈ch,(b∈X.ex\/X.s₀.heap.objs.size<=b)/\b≠X.env.locals/\(∀ x c,X.env.cells.lookup x=some c->c≠b)/\∀ p∈X.pn++pins,p.1≠b)
  (keep:∀ b o,b≠X.env.locals->b∉X.fs->b∉ch->s.heap.get? b=some o->H b=none->h'.get? b=some o)
  (slot:∀ b o,b≠X.env.locals->b∈X.fs->b∉ch->s.heap.get? b=some o->H b=none->∃ sl,h'.get? b=some {o with slots:=sl})(free:∀ b o,b∉ch->s.heap.get? b=some o->H b=none->H' b=none)
  (there:∀ b o,b∉ch->s.heap.get? b=some o->∃ o',h'.get? b=some o')
  (tups:∀ b xs,H b=some (.tup xs)->H' b=some (.tup xs))(frzs:∀ b o u,H b=some (.frz o u)->H' b=some (.frz o u))(tbls:∀ b ps,H b=some (.tbl ps)->∃ more,H' b=some (.tbl (ps++more)))
  (ns:∀ m,s.heap.Ns X.env.locals m->h'.Ns X.env.locals m)(hok:eS X.prog X.w H' h')(hg:QB g'):
  Inv X pins σ H' {s with heap:=h',gens:=g',drawn:=d',toks:=t'}:=by
 have iU:∀ b o,X.s₀.heap.get? b=some o->b≠X.env.locals:=λb o e=>MV (Mx (Mv e) I.ok.above)
 have aa:∀ b o,X.s₀.heap.get? b=some o->b∉X.ex->b∉ch:=λb o e J hb=>by
  rcases(hch b hb).1 with z|z
  ·exact J z
  ·exact absurd (Mx (Mv e) z) (Nq _)
 have cellK:∀ x c,X.env.cells.lookup x=some c->∀ v,s.heap.IsCell c v->h'.IsCell c v:=λx c e v ⟨o,ho,hd⟩=>by
  have U:c∉ch:=λz=>(hch c z).2.2.1 x c e rfl
  by_cases hc:c∈X.fs
  ·obtain⟨sl,q⟩:=slot c o (I.cne x c e) hc U ho (I.freeC x c e);exact⟨_,q,hd⟩
  ·exact⟨o,keep c o (I.cne x c e) hc U ho (I.freeC x c e),hd⟩
 refine⟨I.ok,I.os,hg,⟨λb o e n hb J=>?_,λb o e n hb J=>?_,λb o e n J=>?_,λb o e J=>?_,λb xs e=>tups b xs (I.base.tups b xs e),λb o xs e=>frzs b o xs (I.base.frzs b o xs e),λb ps e=>?_⟩,?_,λx c e=>?_,?_,λx c e=>?_,λp hp=>?_,hok,I.len⟩
 ·exact keep b o (iU b o e) hb (aa b o e J) (I.base.keep b o e n hb J) (I.base.free b o e n J)
 ·obtain⟨sl,e1⟩:=I.base.slot b o e n hb J;obtain⟨ab,e2⟩:=slot b _ (iU b o e) hb (aa b o e J) e1 (I.base.free b o e n J);exact⟨ab,e2⟩
 ·obtain⟨o',e1⟩:=I.base.there b o e J;exact free b o' (aa b o e J) e1 (I.base.free b o e n J)
 ·obtain⟨o',e1⟩:=I.base.there b o e J;exact there b o' (aa b o e J) e1
 ·obtain⟨m1,e1⟩:=I.base.tbls b ps e;obtain⟨m2,e2⟩:=tbls b _ e1;exact⟨m1++m2,by rw[e2,Array.append_assoc]⟩
 ·obtain⟨m,hn,hl⟩:=I.loc;refine⟨m,ns m hn,λi x v e1 e2 e3=>?_⟩;obtain⟨u,r,l⟩:=hl i x v e1 e2 e3;refine⟨u,r,?_⟩;rcases l with l|⟨k,c,e,z⟩
  ·exact .inl l
  ·exact .inr ⟨k,c,e,cellK x c e _ z⟩
 ·obtain⟨v,z⟩:=I.cell x c e;exact⟨v,cellK x c e v z⟩
 ·obtain⟨m,⟨o,_,_,ho,_⟩,_⟩:=I.loc;exact free _ o (λz=>(hch _ z).2.1 rfl) ho I.free
 ·obtain⟨v,o,ho,hd⟩:=I.cell x c e;exact free c o (λz=>(hch c z).2.2.1 x c e rfl) ho (I.freeC x c e)
 ·obtain⟨e,n,ne,nf,d⟩:=I.pin p hp;have U:p.1∉ch:=λz=>(hch p.1 z).2.2.2 p hp rfl
  exact⟨keep p.1 p.2 ne nf U e n,free p.1 p.2 U e n,ne,nf,d⟩
theorem Inv.un {t':Nat}(I:Inv X pins σ H s)(u:Un X.fs [] H H' s.heap h')(hok:eS X.prog X.w H' h'):Inv X pins σ H' {s with heap:=h',toks:=t'}:=by
 obtain⟨m,⟨o,es,ep,ho,r⟩,_⟩:=id I.loc;obtain⟨sl,hL⟩:=u.any ho I.free (by simp);exact I.step (g':=s.gens) (d':=s.drawn) (ch:=[]) (λ_ z=>nomatch z) (λb o _ hb _ e n=>u.keep b o e n hb (by simp)) (λb o _ hb _ e n=>u.slot b o e n hb (by simp)) (λb o _ e n=>u.free b o e n (by simp)) (λb o _ e=>u.there b o e (by simp)) u.tups u.frzs u.tbls (λm' hm=>by
  obtain⟨o',U,aa,J,r'⟩:=hm;rw[ho] at J;cases J;exact⟨_,U,aa,hL,r'⟩) hok I.bare
theorem Inv.call {g':Nd GenState}{t':Nat}{d':Drawn}{ch:LR LS}(I:Inv X pins σ H s)(u:Un (eE X.stack) ch H H' s.heap h')(hok:eS X.prog X.w H' h')(hg:QB g')
  (hch:∀ b∈ch,(b∈X.ex\/X.s₀.heap.objs.size<=b)/\b≠X.env.locals/\(∀ x c,X.env.cells.lookup x=some c->c≠b)/\∀ p∈X.pn++pins,p.1≠b):
  Inv X pins σ H' {s with heap:=h',gens:=g',drawn:=d',toks:=t'}:=by
 obtain⟨m,⟨o,es,ep,ho,r⟩,_⟩:=id I.loc;obtain⟨sl,hL⟩:=u.any ho I.free λz=>(hch _ z).2.1 rfl
 exact I.step (ch:=ch) hch (λb o hL hb J e n=>u.keep b o e n (λz=>(List.mem_cons.mp (I.stkSub b z)).elim hL hb) J) (λb o _ _ J e n=>u.any e n J) (λb o J e n=>u.free b o e n J) (λb o J e=>u.there b o e J) u.tups u.frzs u.tbls (λm' hm=>by
  obtain⟨o',aa,ab,U,r'⟩:=hm;rw[ho] at U;cases U;exact⟨_,aa,ab,hL,r'⟩) hok hg
theorem Inv.turned {t':Nat}{it:LS}(I:Inv X pins σ H s)(k:∀ b o,b≠it->s.heap.get? b=some o->h'.get? b=some o)(hn:H it=none)(hL:it≠X.env.locals)
  (h1:it∈X.ex\/X.s₀.heap.objs.size<=it)(h2:∀ x c,X.env.cells.lookup x=some c->c≠it)(h3:∀ p∈X.pn++pins,p.1≠it):Inv X pins σ H {s with heap:=h',toks:=t'}:=by
 have U:∀ b u,H b=some u->b≠it:=λb u e z=>by rw[z,hn] at e;cases e
 refine I.step (g':=s.gens) (d':=s.drawn) (ch:=[it]) (λb hb=>?_) (λb o _ _ J e _=>k b o (λz=>J (by simp[z])) e) (λb o _ _ J e _=>⟨o.slots,k b o (λz=>J (by simp[z])) e⟩) (λ_ _ _ _ n=>n)
  (λb o J e=>⟨o,k b o (λz=>J (by simp[z])) e⟩) (λ_ _ e=>e) (λ_ _ _ e=>e) (λb ps e=>⟨#[],by rw[e];simp⟩) (λm hm=>?_) (λb u e=>?_) I.bare
 ·have e:b=it:=by simpa using hb
  subst e;exact⟨h1,hL,h2,h3⟩
 ·obtain⟨o,es,ep,ho,r⟩:=hm;exact⟨o,es,ep,k _ o (Nt hL) ho,r⟩
 ·refine(I.hok b u e).stay (λc v J q=>k c v ?_ q) (λ_ q=>q) λ_ _ q=>q
  rcases J with z|z
  ·rw[z];exact U b u e
  ·exact U c _ z
theorem Inv.tok (I:Inv X pins σ H s)(t:Nat):Inv X pins σ H {s with toks:=t}:=I.un (h':=s.heap) (t':=t) Un.refl I.hok
theorem Inv.kept {t':Nat}(I:Inv X pins σ H s)(k:∀ b u,s.heap.get? b=some u->h'.get? b=some u):Inv X pins σ H {s with heap:=h',toks:=t'}:=I.un (Un.kept k) (I.hok.kept k)
theorem Inv.laid {a:LS}{o:HO}{t':Nat}(I:Inv X pins σ H s)(k:∀ b u,s.heap.get? b=some u->h'.get? b=some u)(hp:s.heap.objs.size<=a)(new:eC X.prog X.w (upd H a o) h' a o):
  Inv X pins σ (upd H a o) {s with heap:=h',toks:=t'}:=I.un (Un.laid k hp (I.hok.fresh hp)) (I.hok.laid k hp new)
theorem Inv.write {x e:LS}{o:HO}{t':Nat}(I:Inv X pins σ H s)(mu:pV (H x))(he:e=x\/H e=some (.own x))(k:∀ b u,b≠e->s.heap.get? b=some u->h'.get? b=some u)(heo:∃ u,h'.get? e=some u)
  (new:eC X.prog X.w (upd H x o) h' x o):Inv X pins σ (upd H x o) {s with heap:=h',toks:=t'}:=I.un (Un.write mu he k heo) (I.hok.write mu he k heo new)
theorem Inv.weak {σ':LR (Mc V)}(I:Inv X pins σ H s)(hl:σ'.length=σ.length)(w:∀(i:Nat) v,σ'[i]? =some (some v)->σ[i]? =some (some v)):Inv X pins σ' H s:=
 ⟨I.ok,I.os,I.bare,I.base,let ⟨m,hn,hl'⟩:=I.loc;⟨m,hn,λi x v J U e3=>hl' i x v J (w i v U) e3⟩,I.cell,I.free,I.freeC,I.pin,I.hok,hl.trans I.len⟩
theorem Inv.pins_of {pins':LR (LS×Obj)}(I:Inv X pins σ H s)(h:∀ p∈pins',s.heap.get? p.1=some p.2/\H p.1=none/\p.1≠X.env.locals/\p.1∉X.fs/\∀ v,p.2.data≠ .cell v):Inv X pins' σ H s:=
 ⟨I.ok,I.os,I.bare,I.base,I.loc,I.cell,I.free,I.freeC,λp J=>(List.mem_append.mp J).elim (λz=>I.pin p (MX _ z)) (h p),I.hok,I.len⟩
theorem uK{N:LR Str}(hN:N.Nodup){i j:Nat}{x:Str}(a:N[i]? =some x)(b:N[j]? =some x):i=j:=by
 obtain⟨h1,I⟩:=List.getElem?_eq_some_iff.mp a;obtain⟨h2,J⟩:=List.getElem?_eq_some_iff.mp b;exact(List.getElem_inj hN).mp (I.trans J.symm)
theorem AO{M:Model}{A:Np}{E:LW->Me->Prop}{i:Nat}{x:Str}{v:V}{u:LW}{Q:Unit->Me->Prop}(I:Inv X pins σ H s)(hN:X.N.Nodup)(hi:X.N[i]? =some x)(hx:Loc X.env.scope x)(r:RelV v u)
  (h:∀ s',Inv X pins (σ.set i (some v)) H s'->(∃ a,Po a s.heap s'.heap/\(a=X.env.locals\/X.env.cells.lookup x=some a))->Q () s')(hf:X.fn x=true\/X.env.scope.names.lookup x=some .local:=by first|exact .inl rfl|exact .inr rfl|assumption):MD M A (storeName X.env x u) Q E s:=by
 obtain⟨m,hn,hl⟩:=id I.loc;have ae:(X.env.scope.kind == .class||(X.env.scope.kind == .module&&X.env.locals != X.env.globals))=false:=by rw[I.ok.kind];rfl
 have aa:i<σ.length:=by rw[I.len];exact(List.getElem?_eq_some_iff.mp hi).1
 have cne:=I.cne
 have tracked:∀{a:LS} {h':Nn},(∃ o,s.heap.get? a=some o/\H a=none)->Po a s.heap h'->eS X.prog X.w H h':=λ{a h'} ha hs b ob e=>by
  obtain⟨_,_,U⟩:=ha;refine(I.hok b ob e).stay (λc w' hc q=>(hs.2 c ?_).trans q) (λ_ q=>q) λ_ _ q=>q
  rintro rfl;rcases hc with rfl|hc
  ·rw[U] at e;cases e
  ·rw[U] at hc;cases hc
 rcases hx with hk|hk
 ·refine wpAny_storeName_local hk hn (λh' aj hs=>?_) ae;obtain⟨oL,_,_,ak,_⟩:=id hn;refine h _ ⟨I.ok,I.os,I.bare,⟨λb o e n hb hx=>?_,λb o e n hb hx=>?_,I.base.free,λb o e hx=>?_,I.base.tups,I.base.frzs,I.base.tbls⟩,⟨_,aj,λj y v' J e2 e3=>?_⟩,λy c e=>?_,I.free,I.freeC,λp hp=>?_,tracked ⟨oL,ak,I.free⟩ hs,by simpa using I.len⟩ ⟨_,hs,.inl rfl⟩
  ·exact(hs.2 b (MV (Mx (Mv e) I.ok.above))).trans (I.base.keep b o e n hb hx)
  ·obtain⟨sl,J⟩:=I.base.slot b o e n hb hx;exact⟨sl,(hs.2 b (MV (Mx (Mv e) I.ok.above))).trans J⟩
  ·obtain⟨o',J⟩:=I.base.there b o e hx;exact⟨o',(hs.2 b (MV (Mx (Mv e) I.ok.above))).trans J⟩
  ·by_cases hj:j=i
   ·subst hj;rw[hi] at J;cases J;rw[List.getElem?_set_self aa] at e2;cases e2;exact⟨u,r,.inl ⟨hk,by simp⟩⟩
   ·rw[List.getElem?_set_ne (Nt hj)] at e2;obtain⟨u',r',q⟩:=hl j y v' J e2 e3;refine⟨u',r',?_⟩;rcases q with ⟨k,e⟩|⟨k,c,e,z⟩
    ·refine .inl ⟨k,?_⟩;have:y≠x:=λe=>hj (uK hN J (e ▸ hi))
     simp[this,e]
    ·exact .inr ⟨k,c,e,z.sameBut hs (cne y c e)⟩
  ·obtain⟨w',z⟩:=I.cell y c e;exact⟨w',z.sameBut hs (cne y c e)⟩
  ·obtain⟨e,n,ne,nf,d⟩:=I.pin p hp;exact⟨(hs.2 p.1 ne).trans e,n,ne,nf,d⟩
 ·have ab:X.fn x=true:=by
   rcases hf with z|z
   ·exact z
   ·rw[z] at hk;cases hk
  obtain⟨c,hc⟩:=I.ok.has x (.inl hk);obtain⟨w',z⟩:=I.cell x c hc;refine wpAny_storeName_cell I.ok.kind hk hc z (λh' af hs=>?_);obtain⟨oc,ag,ah⟩:=id z;refine h {s with heap:=h'} ⟨I.ok,I.os,I.bare,⟨λb o e n hb hx=>?_,λb o e n hb hx=>?_,I.base.free,λb o e hx=>?_,I.base.tups,I.base.frzs,I.base.tbls⟩,⟨m,hn.sameBut hs (Nt (cne x c hc)),λj y v' J e2 e3=>?_⟩,λy c' e=>?_,I.free,I.freeC,λp hp=>?_,tracked ⟨oc,ag,I.freeC x c hc⟩ hs,by simpa using I.len⟩ ⟨c,hs,.inr hc⟩
  ·exact(hs.2 b (MV (Mx (Mv e) (I.ok.cab x c ab hc)))).trans (I.base.keep b o e n hb hx)
  ·obtain⟨sl,J⟩:=I.base.slot b o e n hb hx;exact⟨sl,(hs.2 b (MV (Mx (Mv e) (I.ok.cab x c ab hc)))).trans J⟩
  ·obtain⟨o',J⟩:=I.base.there b o e hx;exact⟨o',(hs.2 b (MV (Mx (Mv e) (I.ok.cab x c ab hc)))).trans J⟩
  ·by_cases hj:j=i
   ·subst hj;rw[hi] at J;cases J;rw[List.getElem?_set_self aa] at e2;cases e2;exact⟨u,r,.inr ⟨.inl hk,c,hc,af⟩⟩
   ·rw[List.getElem?_set_ne (Nt hj)] at e2;obtain⟨u',r',q⟩:=hl j y v' J e2 e3;refine⟨u',r',?_⟩;rcases q with q|⟨k,c',e,z'⟩
    ·exact .inl q
    ·refine .inr ⟨k,c',e,z'.sameBut hs ?_⟩;rintro rfl;exact hj (uK hN J (I.ok.inj _ _ _ e hc ▸ hi))
  ·by_cases ai:c'=c
   ·subst ai;exact⟨_,af⟩
   ·obtain⟨w2,z2⟩:=I.cell y c' e;exact⟨w2,z2.sameBut hs ai⟩
  ·obtain⟨e,n,ne,nf,d⟩:=I.pin p hp;refine⟨(hs.2 p.1 ?_).trans e,n,ne,nf,d⟩;intro q;rw[q,ag] at e;have q':oc=p.2:=Ml e;exact d w' (by rw[<-q'];exact ah)
theorem qj{M:Model}{A:Np}{E:LW->Me->Prop}{i:Nat}{x:Str}{v:V}{u:LW}{Q:Unit->Me->Prop}(I:Inv X pins σ H s)(hN:X.N.Nodup)(hi:X.N[i]? =some x)(hx:Loc X.env.scope x)(r:RelV v u)
  (h:∀ s',Inv X pins (σ.set i (some v)) H s'->Q () s')(hf:X.fn x=true\/X.env.scope.names.lookup x=some .local:=by first|exact .inl rfl|exact .inr rfl|assumption):MD M A (storeName X.env x u) Q E s:=
 AO I hN hi hx r (λs' J _=>h s' J) hf
theorem Inv.call' {s':Me}{ch:LR LS}(I:Inv X pins σ H s)(ho:s'.os=s.os)(u:Un (eE X.stack) ch H H' s.heap s'.heap)(hok:eS X.prog X.w H' s'.heap)(hg:QB s'.gens)
  (hch:∀ b∈ch,(b∈X.ex\/X.s₀.heap.objs.size<=b)/\b≠X.env.locals/\(∀ x c,X.env.cells.lookup x=some c->c≠b)/\∀ p∈X.pn++pins,p.1≠b):Inv X pins σ H' s':=by
 obtain⟨h',g',d',t',o'⟩:=s';have e:o'=s.os:=ho;subst e;exact I.call (g':=g') (t':=t') (d':=d') u hok hg hch
end
noncomputable abbrev XK:=LW->Mc LS->Hp->Prop
noncomputable abbrev St:=LR (Mc V)
noncomputable abbrev VK:=V->Hp->Prop
noncomputable abbrev TE:=St->Hp->VK->Prop
noncomputable abbrev TT:=St->Hp->(Nw->Hp->Prop)->Prop
noncomputable abbrev TA:=St->Hp->(LR V->Hp->Prop)->Prop
structure Ends where
 nx : St -> Hp -> Prop
 rt : VK
 bk : St -> Hp -> Prop := λ_ _ => Om
 ct : St -> Hp -> Prop := λ_ _ => Om
noncomputable abbrev TS:=Ends->St->Hp->Prop
noncomputable def EP(X:Cx)(pins:LR (LS×Obj))(σ:St)(Q:VK)(u:LW)(s':Me):Prop:=∃ v H',Inv X pins σ H' s'/\RelV v u/\Q v H'
noncomputable def TP(X:Cx)(pins:LR (LS×Obj))(σ:St)(Q:Nw->Hp->Prop)(b:Nw)(s':Me):Prop:=∃ H',Inv X pins σ H' s'/\Q b H'
noncomputable def AP(X:Cx)(pins:LR (LS×Obj))(σ:St)(Q:LR V->Hp->Prop)(us:LR LW)(s':Me):Prop:=∃ vs H',Inv X pins σ H' s'/\Vals vs us/\Q vs H'
noncomputable def SP(X:Cx)(pins:LR (LS×Obj))(D:Ends)(f:Flow)(s':Me):Prop:=
 match f with
 |.next=>∃ I H',Inv X pins I H' s'/\D.nx I H'
 |.brk=>∃ I H',Inv X pins I H' s'/\D.bk I H'
 |.cont=>∃ I H',Inv X pins I H' s'/\D.ct I H'
 |.ret u=>∃ v I H',Inv X pins I H' s'/\RelV v u/\D.rt v H'
noncomputable def PE(X:Cx)(e:Nv)(t:TE):Prop:=
 ∀(pins:LR (LS×Obj)) (s:Me) (σ:St) (H:Hp) (Q:VK),Inv X pins σ H s->t σ H Q->MD (My X.prog X.w) X.A (eval e X.env) (EP X pins σ Q) X.xe s
noncomputable def PT(X:Cx)(e:Nv)(t:TT):Prop:=
 ∀(pins:LR (LS×Obj)) (s:Me) (σ:St) (H:Hp) (Q:Nw->Hp->Prop),Inv X pins σ H s->t σ H Q->MD (My X.prog X.w) X.A (isTrue e X.env (eval e X.env)) (TP X pins σ Q) X.xe s
noncomputable def PW(X:Cx)(e:Nv)(t:TT):Prop:=
 ∀(whole:Sem LW) (pins:LR (LS×Obj)) (s:Me) (σ:St) (H:Hp) (Q:Nw->Hp->Prop),Inv X pins σ H s->t σ H Q->MD (My X.prog X.w) X.A (isTrue e X.env whole) (TP X pins σ Q) X.xe s
theorem PW.pt {X:Cx}{e:Nv}{t:TT}(h:PW X e t):PT X e t:=h _
noncomputable def PA(X:Cx)(es:LR Nv)(t:TA):Prop:=
 ∀(pos:Pos) (pins:LR (LS×Obj)) (s:Me) (σ:St) (H:Hp) (Q:LR V->Hp->Prop),Inv X pins σ H s->t σ H Q->MD (My X.prog X.w) X.A (spliced (Pb pos (Ni es X.env))) (AP X pins σ Q) X.xe s
noncomputable def PS(X:Cx)(st:Nr)(t:TS):Prop:=
 ∀(pins:LR (LS×Obj)) (s:Me) (σ:St) (H:Hp) (D:Ends),Inv X pins σ H s->t D σ H->MD (My X.prog X.w) X.A (exec st X.env) (SP X pins D) X.xe s
noncomputable def dj(X:Cx)(st:LR Nr)(t:TS):Prop:=
 ∀(pins:LR (LS×Obj)) (s:Me) (σ:St) (H:Hp) (D:Ends),Inv X pins σ H s->t D σ H->MD (My X.prog X.w) X.A (execs st X.env) (SP X pins D) X.xe s
theorem dh{α:Type}{t:Sem α}{Q Q':α->Me->Prop}{M:Model}{A:Np}{E:LW->Me->Prop}{s:Me}(h:MD M A t Q E s)(hQ:∀ a s,Q a s->Q' a s):MD M A t Q' E s:=NI h hQ λ_ _ x=>x
section
variable {X : Cx}
noncomputable def je(i:Nat):TE:=λσ H Q=>∃ v,σ[i]? =some (some v)/\Q v H
noncomputable def tC(v:V):TE:=λ_ H Q=>Q v H
theorem Kk{i:Nat}{x:Str}{pos:Pos}(hN:X.N[i]? =some x)(hv:oX X.env.scope x)(hd:(x==("__debug__":Str))=false:=by decide)(hcd:(x==("__classdict__":Str))=false:=by decide):PE X (.Name x pos) (je i):=by
 intro pins s σ H Q I h;obtain⟨v,e,h⟩:=h;obtain⟨m,hn,hl⟩:=I.loc;obtain⟨u,r,l⟩:=hl i x v hN e hv;have fin:EP X pins σ Q u s:=⟨v,H,I,r,h⟩;rcases l with ⟨hk,hm⟩|⟨hk,c,U,J⟩
 ·exact wpAny_Name (wpAny_loadName_local I.ok.kind hk hn hm fin) hd
 ·rcases hk with hk|hk
  ·exact wpAny_Name (wpAny_loadName_cell I.ok.kind hk U J fin) hd
  ·exact wpAny_Name (wpAny_loadName_free I.ok.kind hk U J fin hcd) hd
theorem cX{i j pos}:PE X (.Constant (.int i) j pos) (tC (.int i)):=λ_ _ _ H _ I h=>wpAny_Constant_int ⟨.int i,H,I.tok _,⟨_,rfl⟩,h⟩
theorem fN{b j pos}:PE X (.Constant (.bool b) j pos) (tC (.bl b)):=λ_ _ _ H _ I h=>Constant_bool ⟨.bl b,H,I,rfl,h⟩
theorem qS{j pos}:PE X (.Constant .none j pos) (tC .non):=λ_ _ _ H _ I h=>Constant_none ⟨.non,H,I,rfl,h⟩
theorem dq{x j pos}:PE X (.Constant (.str x) j pos) (tC (.str x)):=λ_ _ _ H _ I h=>Calls.Constant_str ⟨.str x,H,I.tok _,⟨_,rfl⟩,h⟩
noncomputable def Gl(X:Cx)(x:Str):Prop:=X.env.kindOf x=some .globalImplicit
theorem lb{E:LW->Me->Prop}{pins:LR (LS×Obj)}{s:Me}{σ:St}{H:Hp}{x:Str}{u:LW}{pos:Pos}{Q:LW->Me->Prop}(I:Inv X pins σ H s)(hg:Gl X x)(hm:X.mg x=some u)(h:Q u s)
  (hd:(x==("__debug__":Str))=false:=by decide):MD (My X.prog X.w) X.A (eval (.Name x pos) X.env) Q E s:=
 QJ I.ok.kind hg (Calls.loadGlobal_global (by rw[I.ok.glob];exact I.mod.glob.keeps I.bk) hm h) hd
theorem mh{E:LW->Me->Prop}{pins:LR (LS×Obj)}{s:Me}{σ:St}{H:Hp}{x:Str}{u:LW}{pos:Pos}{Q:LW->Me->Prop}(I:Inv X pins σ H s)(hg:Gl X x)(hm:X.mg x=none)(hv:Ny x=some u)(h:Q u s)
  (hn:x≠"__name__":=by decide)(hd:(x==("__debug__":Str))=false:=by decide):MD (My X.prog X.w) X.A (eval (.Name x pos) X.env) Q E s:=by
 obtain⟨J,h1,h2⟩:=I.mod.blt;exact QJ I.ok.kind hg (Calls.loadGlobal_builtin (by rw[I.ok.glob];exact I.mod.glob.keeps I.bk) hm (by rw[I.ok.blt];exact h1.keeps I.bk) ((h2 x hn).trans hv) h) hd
theorem gJ{x:Str}{v:V}{u:LW}{pos:Pos}(hg:Gl X x)(hm:X.mg x=some u)(r:RelV v u)(hd:(x==("__debug__":Str))=false:=by decide):PE X (.Name x pos) (tC v):=
 λ_ _ _ H _ I h=>lb I hg hm ⟨v,H,I,r,h⟩ hd
theorem iF{x:Str}{v:V}{u:LW}{pos:Pos}(hg:Gl X x)(hm:X.mg x=none)(hv:Ny x=some u)(r:RelV v u)(hn:x≠"__name__":=by decide)(hd:(x==("__debug__":Str))=false:=by decide):PE X (.Name x pos) (tC v):=
 λ_ _ _ H _ I h=>mh I hg hm hv ⟨v,H,I,r,h⟩ hn hd
variable {a b : Nv} {ta tb : TE} {pos : Pos}
noncomputable def PC(X:Cx)(op:CmpOp)(a b:Nv)(t:TE):Prop:=
 ∀(pins:LR (LS×Obj)) (s:Me) (σ:St) (H:Hp) (Q:VK),Inv X pins σ H s->t σ H Q->
  MD (My X.prog X.w) X.A (eval a X.env) (λv I=>MD (My X.prog X.w) X.A (eval b X.env) (λu J=>MD (My X.prog X.w) X.A (NX op v u) (EP X pins σ Q) X.xe J) X.xe I) X.xe s
theorem z8(b:Nv){op:CmpOp}(h:op≠ .In)(h2:op≠ .NotIn):OM op b=false:=by
 have I:(op==CmpOp.In)=false:=by cases op<;>first|rfl|exact absurd rfl h
 have J:(op==CmpOp.NotIn)=false:=by cases op<;>first|rfl|exact absurd rfl h2
 cases b<;>simp[OM,I,J]
noncomputable def LM(ta:TE):TE:=λσ H Q=>ta σ H λx H1=>Q (.bl (decide (x= .non))) H1
noncomputable def Cu(ta:TE):TE:=λσ H Q=>ta σ H λx H1=>Q (.bl (!decide (x= .non))) H1
theorem RelV.none_iff {x:V}{v:LW}(r:RelV x v):(v==Oo)=decide (x= .non):=by
 cases x with
 |non=>cases r;rfl
 |bl _=>cases r;rfl
 |int _=>obtain⟨t,rfl⟩:=r;rfl
 |str _=>obtain⟨t,rfl⟩:=r;rfl
 |byt _=>obtain⟨t,rfl⟩:=r;rfl
 |flt _=>obtain⟨t,rfl⟩:=r;rfl
 |ref _=>cases r;rfl
 |ty _=>cases r;rfl
theorem ui{j pos'}(ha:PE X a ta):PC X .Is a (.Constant .none j pos') (LM ta):=by
 intro pins s σ H Q I h;refine dh (ha pins s σ H _ I h) λv s1 ⟨x,H1,J,U,q1⟩=>?_
 exact Constant_none (is_none_gen ⟨.bl _,H1,J,by rw[U.none_iff];rfl,q1⟩)
theorem wW{j pos'}(ha:PE X a ta):PC X .IsNot a (.Constant .none j pos') (Cu ta):=by
 intro pins s σ H Q I h;refine dh (ha pins s σ H _ I h) λv s1 ⟨x,H1,J,U,q1⟩=>?_
 exact Constant_none (isnot_none_gen ⟨.bl _,H1,J,by rw[U.none_iff];rfl,q1⟩)
noncomputable def tB(t:TE):TT:=λσ H Q=>t σ H λx H1=>∃ c,x= .bl c/\Q c H1
theorem AN{op:CmpOp}{t:TE}(h:PC X op a b t)(h1:OM op b=false:=by first|exact z8 _ (by decide) (by decide)|rfl):PE X (.Compare a [op] [b] pos) t:=λpins s σ H Q I hw=>wpAny_Compare1 (h pins s σ H Q I hw) h1
theorem iZ{op:CmpOp}{t:TE}(h:PC X op a b t)(h1:OM op b=false:=by first|exact z8 _ (by decide) (by decide)|rfl):PT X (.Compare a [op] [b] pos) (tB t):=by
 intro pins s σ H Q I hw;refine wpAny_isTrue_Compare1 (dh (h pins s σ H _ I hw) λv s1 h1=>dh h1 λu s2 h2=>dh h2 λc s3 ⟨x,H1,J,U,q1⟩=>?_) h1;obtain⟨d,rfl,q⟩:=q1;cases U;exact Oc ⟨H1,J,q⟩
theorem fM{e:Nv}{t:TE}(h:PE X e t)(he:∀ whole,isTrue e X.env whole=(do let v<-whole;standAt e.pos;Rm [v] (truthy v)):=by intro _;rfl):PT X e (tB t):=by
 intro pins s σ H Q I hw;refine isTrue_plain (dh (h pins s σ H _ I hw) λv s1 ⟨x,H1,J,U,q1⟩=>?_) (he _);obtain⟨d,rfl,q⟩:=q1;cases U;exact Oc ⟨H1,J,q⟩
variable {tA tB' : TT} {rest : LR Nv}
noncomputable def Hn(t u:TT):TT:=λσ H Q=>t σ H λc H1=>if c=true then u σ H1 Q else Q false H1
noncomputable def DI(t u:TT):TT:=λσ H Q=>t σ H λc H1=>if c=true then Q true H1 else u σ H1 Q
noncomputable def JW(t:TT):TT:=λσ H Q=>t σ H λc H1=>Q (!c) H1
theorem lT(ha:PT X a tA):PW X (.BoolOp .And [a] pos) tA:=by
 intro J pins s σ H Q I h;refine isTrue_and (dh (ha pins s σ H Q I h) λc s1 e=>?_);cases c with
 |true=>exact isTrue_and_nil e
 |false=>exact e
theorem jc(ha:PT X a tA):PW X (.BoolOp .Or [a] pos) tA:=by
 intro J pins s σ H Q I h;refine isTrue_or (dh (ha pins s σ H Q I h) λc s1 e=>?_);cases c with
 |false=>exact isTrue_or_nil e
 |true=>exact e
theorem mj(ha:PT X a tA)(hb:PW X (.BoolOp .And (b::rest) pos) tB'):PW X (.BoolOp .And (a::b::rest) pos) (Hn tA tB'):=by
 intro U pins s σ H Q I h;refine isTrue_and (dh (ha pins s σ H _ I h) λc s1 ⟨H1,J,q1⟩=>?_);cases c with
 |true=>exact hb U pins s1 σ H1 Q J q1
 |false=>exact⟨H1,J,q1⟩
theorem iw(ha:PT X a tA)(hb:PW X (.BoolOp .Or (b::rest) pos) tB'):PW X (.BoolOp .Or (a::b::rest) pos) (DI tA tB'):=by
 intro U pins s σ H Q I h;refine isTrue_or (dh (ha pins s σ H _ I h) λc s1 ⟨H1,J,q1⟩=>?_);cases c with
 |true=>exact⟨H1,J,q1⟩
 |false=>exact hb U pins s1 σ H1 Q J q1
theorem f9(ha:PT X a tA):PT X (.UnaryOp .Not a pos) (JW tA):=by
 intro pins s σ H Q I h;exact isTrue_not (ha pins s σ H (λc H1=>Q (!c) H1) I h)
noncomputable def Hf(ta tb:TE):TE:=λσ H Q=>ta σ H λx H1=>∃ c,x= .bl c/\if c=true then tb σ H1 Q else Q (.bl false) H1
noncomputable def Ct(ta tb:TE):TE:=λσ H Q=>ta σ H λx H1=>∃ c,x= .bl c/\if c=true then Q (.bl true) H1 else tb σ H1 Q
noncomputable def Ho(ta:TE):TE:=λσ H Q=>ta σ H λx H1=>∃ c,x= .bl c/\Q (.bl (!c)) H1
theorem kD{op}{t:TE}(h:PE X a t):PE X (.BoolOp op [a] pos) t:=λpins s σ H Q I hw=>BoolOp_one (h pins s σ H Q I hw)
theorem kd(ha:PE X a ta)(hb:PE X (.BoolOp .And (b::rest) pos) tb):PE X (.BoolOp .And (a::b::rest) pos) (Hf ta tb):=by
 intro pins s σ H Q I h;refine BoolOp_and (dh (ha pins s σ H _ I h) λv s1 ⟨x,H1,J,U,q1⟩=>?_);obtain⟨c,rfl,q1⟩:=q1;cases U;refine Oc ?_;cases c with
 |true=>exact hb pins s1 σ H1 Q J q1
 |false=>exact⟨.bl false,H1,J,rfl,q1⟩
theorem Ib(ha:PE X a ta)(hb:PE X (.BoolOp .Or (b::rest) pos) tb):PE X (.BoolOp .Or (a::b::rest) pos) (Ct ta tb):=by
 intro pins s σ H Q I h;refine BoolOp_or (dh (ha pins s σ H _ I h) λv s1 ⟨x,H1,J,U,q1⟩=>?_);obtain⟨c,rfl,q1⟩:=q1;cases U;refine Oc ?_;cases c with
 |false=>exact hb pins s1 σ H1 Q J q1
 |true=>exact⟨.bl true,H1,J,rfl,q1⟩
theorem xm(ha:PE X a ta):PE X (.UnaryOp .Not a pos) (Ho ta):=by
 intro pins s σ H Q I h;refine UnaryOp_ (dh (ha pins s σ H _ I h) λv s1 ⟨x,H1,J,U,q1⟩=>?_);obtain⟨c,rfl,q1⟩:=q1;cases U;exact not_of (Oc ⟨.bl (!c),H1,J,rfl,q1⟩)
noncomputable def Hi(t:TT)(ta tb:TE):TE:=λσ H Q=>t σ H λc H1=>if c=true then ta σ H1 Q else tb σ H1 Q
theorem r6{c:Nv}(hc:PT X c tA)(ha:PE X a ta)(hb:PE X b tb):PE X (.IfExp c a b pos) (Hi tA ta tb):=by
 intro pins s σ H Q I h;refine wpAny_IfExp (dh (hc pins s σ H _ I h) λd s1 ⟨H1,J,q1⟩=>?_);cases d with
 |true=>exact ha pins s1 σ H1 Q J q1
 |false=>exact hb pins s1 σ H1 Q J q1
end
noncomputable def cS(K:Mm)(H:Hp)(a:LS)(xs:LR V):Prop:=
 Rd H a (.lst xs)\/
  ∃(o:Obj) (I:Nd LW) (n:Nat),K.lookup a=some o/\o.cls= .type "list"/\o.dict=none/\o.data= .seq I n/\I.size<=sizeLine/\Vals xs I.toList
noncomputable def dY(K:Mm)(H:Hp)(a:LS)(xs:LR V):Prop:=
 Rd H a (.tup xs)\/
  ∃(o:Obj) (I:Nd LW) (n:Nat),K.lookup a=some o/\o.cls= .type "tuple"/\o.data= .seq I n/\I.size<=sizeLine/\Vals xs I.toList
noncomputable def JB:LW->Mc V
 |.none=>some .non
 |.bool b=>some (.bl b)
 |.int i _=>some (.int i)
 |.str x _=>some (.str x)
 |.bytes b _=>some (.byt b)
 |.float b _=>some (.flt b)
 |.ref a=>some (.ref a)
 |.type n=>some (.ty n)
 |_=>none
theorem RelV.abs {x:V}{u:LW}(r:RelV x u):JB u=some x:=by
 cases x with
 |non=>cases r;rfl
 |bl _=>cases r;rfl
 |int _=>obtain⟨t,rfl⟩:=r;rfl
 |str _=>obtain⟨t,rfl⟩:=r;rfl
 |byt _=>obtain⟨t,rfl⟩:=r;rfl
 |flt _=>obtain⟨t,rfl⟩:=r;rfl
 |ref _=>cases r;rfl
 |ty _=>cases r;rfl
theorem RelV.inj {x y:V}{u:LW}(r:RelV x u)(q:RelV y u):x=y:=Ml (r.abs.symm.trans q.abs)
theorem Vals.inj:∀{xs ys:LR V} {us:LR LW},Vals xs us->Vals ys us->xs=ys
 |_,_,_,.nil,.nil=>rfl
 |_,_,_,.cons r t,.cons I t'=>by rw[r.inj I,Vals.inj t t']
section
variable {X : Cx} {pins : LR (LS × Obj)} {σ : St} {H : Hp} {s : Me} {a : LS} {xs ys : LR V}
theorem cS.of {K:Mm}(h:H a=some (.lst xs)):cS K H a xs:= .inl (.inl h)
theorem dY.of {K:Mm}(h:H a=some (.tup xs)):dY K H a xs:= .inl (.inl h)
theorem Inv.list (I:Inv X pins σ H s)(h:cS X.K H a xs):∃ its:LR LW,Vals xs its/\PlainL s.heap a its.toArray/\xs.length<=sizeLine:=by
 rcases h with h|⟨o,its,n,hk,J,hd,hs,U,r⟩
 ·obtain⟨z,its,n,r,e⟩:=h.ok I.hok;exact⟨its,r,⟨_,n,e,rfl,rfl,rfl⟩,z⟩
 ·refine⟨its.toList,r,⟨o,n,I.kIn a o hk,J,hd,by simpa using hs⟩,?_⟩;have e:=r.length;simp only[OP] at e
  lia
theorem Inv.tuple (I:Inv X pins σ H s)(h:dY X.K H a xs):∃ its:LR LW,Vals xs its/\IsTup s.heap a its.toArray/\xs.length<=sizeLine:=by
 rcases h with h|⟨o,its,n,hk,J,hs,U,r⟩
 ·obtain⟨z,its,r,p⟩:=h.ok I.hok;exact⟨its,r,p,z⟩
 ·refine⟨its.toList,r,⟨o,I.kIn a o hk,J,n,by simpa using hs⟩,?_⟩;have e:=r.length;simp only[OP] at e
  lia
theorem Inv.list_inj (I:Inv X pins σ H s)(h:cS X.K H a xs)(h':cS X.K H a ys):xs=ys:=by
 obtain⟨J,r,⟨o,n,e,_,_,d⟩,_⟩:=I.list h;obtain⟨its',r',⟨o',n',U,_,_,d'⟩,_⟩:=I.list h';rw[e] at U;cases U;rw[d] at d';injection d' with d1 _;have:J=its':=by simpa using Nl Array.toList d1
 subst this;exact r.inj r'
theorem Inv.tuple_inj (I:Inv X pins σ H s)(h:dY X.K H a xs)(h':dY X.K H a ys):xs=ys:=by
 obtain⟨J,r,⟨o,e,_,n,d⟩,_⟩:=I.tuple h;obtain⟨its',r',⟨o',U,_,n',d'⟩,_⟩:=I.tuple h';rw[e] at U;cases U;rw[d] at d';injection d' with d1 _;have:J=its':=by simpa using Nl Array.toList d1
 subst this;exact r.inj r'
end
noncomputable abbrev Cx.wish (X:Cx)(E:LW->Me->Prop):Cx:={X with xe:=E}
noncomputable abbrev Cx.nox (X:Cx):Cx:=X.wish λ_ _=>Om
theorem Cx.Ok.wish {X:Cx}(ok:X.Ok)(E:LW->Me->Prop):(X.wish E).Ok:=
 ⟨ok.mod,ok.kind,ok.glob,ok.blt,ok.above,ok.inj,ok.has,ok.cab,ok.hd,ok.frames,ok.stk,ok.exf,ok.bs,ok.bsz,ok.noex,ok.exfs,ok.funs,ok.frf⟩
theorem Cx.Ok.unwish {X:Cx}{E:LW->Me->Prop}(ok:(X.wish E).Ok):X.Ok:=
 ⟨ok.mod,ok.kind,ok.glob,ok.blt,ok.above,ok.inj,ok.has,ok.cab,ok.hd,ok.frames,ok.stk,ok.exf,ok.bs,ok.bsz,ok.noex,ok.exfs,ok.funs,ok.frf⟩
section
variable {X : Cx} {pins : LR (LS × Obj)} {σ : St} {H : Hp} {s : Me} {E : LW -> Me -> Prop}
theorem Inv.wish (I:Inv X pins σ H s)(E:LW->Me->Prop):Inv (X.wish E) pins σ H s:=⟨I.ok.wish E,I.os,I.bare,I.base,I.loc,I.cell,I.free,I.freeC,I.pin,I.hok,I.len⟩
theorem Inv.unwish (I:Inv (X.wish E) pins σ H s):Inv X pins σ H s:=⟨I.ok.unwish,I.os,I.bare,I.base,I.loc,I.cell,I.free,I.freeC,I.pin,I.hok,I.len⟩
theorem SP.unwish {D:Ends}{f:Flow}{s':Me}(h:SP (X.wish E) pins D f s'):SP X pins D f s':=by
 cases f with
 |next=>obtain⟨J,H',I,q⟩:=h;exact⟨J,H',I.unwish,q⟩
 |brk=>obtain⟨J,H',I,q⟩:=h;exact⟨J,H',I.unwish,q⟩
 |cont=>obtain⟨J,H',I,q⟩:=h;exact⟨J,H',I.unwish,q⟩
 |ret u=>obtain⟨v,J,H',I,r,q⟩:=h;exact⟨v,J,H',I.unwish,r,q⟩
theorem dj.nox {st:LR Nr}{t:TS}(h:dj X.nox st t):dj X st t:=λpins s σ H D I hw=>
 NI (h pins s σ H D (I.wish _) hw) (λ_ _ q=>q.unwish) λ_ _ z=>Nu z
end
section
variable {X : Cx} {st : Nr} {rest : LR Nr} {t u : TS} {e : Nv} {te : TE} {pos : Pos}
noncomputable def CB:TS:=λD σ H=>D.nx σ H
noncomputable def oH(t u:TS):TS:=λD σ H=>t {D with nx:=u D} σ H
theorem dO:dj X [] CB:=λ_ _ σ H _ I h=>O7 ⟨σ,H,I,h⟩
theorem cU(h1:PS X st t)(h2:dj X rest u):dj X (st::rest) (oH t u):=by
 intro pins s σ H D I h;refine wpAny_execs_cons (dh (h1 pins s σ H {D with nx:=u D} I h) λf s1 q=>?_);cases f with
 |next=>
  obtain⟨J,H',U,q⟩:=q;exact h2 pins s1 J H' D U q
 |ret v=>exact q
 |brk=>exact q
 |cont=>exact q
theorem cY(h1:PS X st t):dj X [st] t:=by
 intro pins s σ H D I h;refine wpAny_execs_cons (dh (h1 pins s σ H D I h) λf s1 q=>?_);cases f with
 |next=>exact O7 q
 |ret v=>exact q
 |brk=>exact q
 |cont=>exact q
theorem Inv.quiet {pins:LR (LS×Obj)}{σ:St}{H:Hp}{s:Me}(I:Inv X pins σ H s):interactive X.env=false:=by simp[interactive,I.ok.kind]
noncomputable def CD(te:TE):TS:=λD σ H=>te σ H λ_ H1=>D.nx σ H1
theorem fv(he:PE X e te)(hs:RH e none pos.line X.env=pure false:=by rfl):PS X (.Expr e pos) (CD te):=by
 intro pins s σ H D I h;exact wpAny_Expr_any (dh (he pins s σ H _ I h) λv s1 ⟨x,H1,J,U,q1⟩=>⟨σ,H1,J,q1⟩) I.quiet hs
noncomputable def xQ(te:TE):TS:=λD σ H=>te σ H D.rt
theorem dg(he:PE X e te):PS X (.Return (some e) pos) (xQ te):=by
 intro pins s σ H D I h;exact wpAny_Return_some (dh (he pins s σ H _ I h) λv s1 ⟨x,H1,J,U,q1⟩=>⟨x,σ,H1,J,U,q1⟩)
noncomputable def K9(c:TT)(t u:TS):TS:=λD σ H=>c σ H λb H1=>if b=true then t D σ H1 else u D σ H1
theorem dP{c:Nv}{a b:LR Nr}{tc:TT}(hc:PT X c tc)(ha:dj X a t)(hb:dj X b u):PS X (.If c a b pos) (K9 tc t u):=by
 intro pins s σ H D I h;refine wpAny_If (dh (hc pins s σ H _ I h) λd s1 ⟨H1,J,q1⟩=>?_);cases d with
 |true=>exact ha pins s1 σ H1 D J q1
 |false=>exact hb pins s1 σ H1 D J q1
noncomputable def Ce:TS:=λ_ _ _=>Om
theorem jj:PS X st Ce:=λ_ _ _ _ _ _ h=>h.elim
end
noncomputable abbrev TG:=V->St->Hp->(St->Hp->Prop)->Prop
noncomputable abbrev jy:=LR V->St->Hp->(St->Hp->Prop)->Prop
noncomputable def PG(X:Cx)(target:Nv)(t:TG):Prop:=
 ∀(pins:LR (LS×Obj)) (s:Me) (σ:St) (H:Hp) (v:V) (u:LW) (Q:St->Hp->Prop),Inv X pins σ H s->RelV v u->t v σ H Q->
  MD (My X.prog X.w) X.A (assign target X.env u) (λ_ s'=>∃ I H',Inv X pins I H' s'/\Q I H') X.xe s
noncomputable def dE(X:Cx)(ts:LR Nv)(t:jy):Prop:=
 ∀(pins:LR (LS×Obj)) (s:Me) (σ:St) (H:Hp) (vs:LR V) (us:LR LW) (Q:St->Hp->Prop),Inv X pins σ H s->Vals vs us->t vs σ H Q->
  MD (My X.prog X.w) X.A (assignInOrder ((QK ts X.env).map (·.2)) us) (λ_ s'=>∃ I H',Inv X pins I H' s'/\Q I H') X.xe s
noncomputable abbrev uj:=V->V->V->Hp->(Hp->Prop)->Prop
noncomputable def xM(X:Cx)(t:uj):Prop:=
 ∀(pins:LR (LS×Obj)) (s:Me) (σ:St) (H:Hp) (o i v:V) (I J u:LW) (Q:Hp->Prop),Inv X pins σ H s->RelV o I->RelV i J->RelV v u->t o i v H Q->
  MD (My X.prog X.w) X.A (setItem I J u) (λ_ s'=>∃ H',Inv X pins σ H' s'/\Q H') X.xe s
noncomputable abbrev sS:=V->V->Hp->VK->Prop
noncomputable def wx(X:Cx)(op:Operator)(t:sS):Prop:=
 ∀(pins:LR (LS×Obj)) (s:Me) (σ:St) (H:Hp) (x y:V) (v u:LW) (Q:VK),Inv X pins σ H s->RelV x v->RelV y u->t x y H Q->
  MD (My X.prog X.w) X.A (inplaceOp op v u) (EP X pins σ Q) X.xe s
section
variable {X : Cx} {pos : Pos}
noncomputable def lh(i:Nat):TG:=λv σ H Q=>Q (σ.set i (some v)) H
theorem dB{i:Nat}{x:Str}(hN:X.N.Nodup)(hi:X.N[i]? =some x)(hx:Loc X.env.scope x)(hf:X.fn x=true\/X.env.scope.names.lookup x=some .local:=by first|exact .inl rfl|exact .inr rfl|assumption):PG X (.Name x pos) (lh i):=by
 intro pins s σ H v u Q I r h;exact wpAny_assign_Name (qj I hN hi hx r (λs' J=>⟨_,H,J,h⟩) hf)
noncomputable def xC:jy:=λvs σ H Q=>vs=[]/\Q σ H
noncomputable def yX(t:TG)(u:jy):jy:=λvs σ H Q=>∃ v r,vs=v::r/\t v σ H λI H'=>u r I H' Q
theorem il:dE X [] xC:=by
 intro pins s σ H vs us Q I r h;obtain⟨e,h⟩:=h;subst e;cases r;exact assignInOrder_nil ⟨σ,H,I,h⟩
theorem fe{e:Nv}{es:LR Nv}{t:TG}{u:jy}(h1:PG X e t)(h2:dE X es u)
  (hs:(QK (e::es) X.env).map (·.2)=assign e X.env::(QK es X.env).map (·.2):=by rfl):dE X (e::es) (yX t u):=by
 intro pins s σ H vs us Q I r h;obtain⟨v,vr,U,h⟩:=h;subst U;cases r with
 |cons r rr=>
  rw[hs];refine assignInOrder_cons (dh (h1 pins s σ H _ _ _ I r h) λ_ s1 ⟨J,H1,I1,q1⟩=>?_);exact h2 pins s1 J H1 _ _ Q I1 rr q1
noncomputable def xy(K:Mm)(n:Nat)(t:jy):TG:=λv σ H Q=>∃ a xs,v= .ref a/\dY K H a xs/\xs.length=n/\t xs σ H Q
theorem ir{es:LR Nv}{k:Nat}{t:jy}{n:Nat}(hc:X.calm=true)(h:dE X es t)
  (hn:(QK es X.env).length=n:=by rfl)(hst:(QK es X.env).findIdx? (·.1)=none:=by rfl):PG X (.Tuple es k pos) (xy X.K n t):=by
 intro pins s σ H v u Q I r hw;obtain⟨a,xs,U,hq,hl,hw⟩:=hw;subst U;cases r;obtain⟨aa,J,ht,hz⟩:=I.tuple hq;refine assign_Tuple_tuple (I.ok.hd hc) ht (by simp[hn,<-hl,J.length]) hst λh' hx=>?_
 have I1:Inv X pins σ H {s with heap:=h'}:=I.kept (t':=s.toks) λb o e=>hx b o (MV (Mv e)) e
 exact h pins _ σ H xs _ Q I1 (by simpa using J) hw
noncomputable def Fp(to ti:TE)(t:uj):TG:=λv σ H Q=>to σ H λo H1=>ti σ H1 λi H2=>t o i v H2 λI=>Q σ I
theorem ID{o i:Nv}{to ti:TE}{t:uj}(ho:PE X o to)(hi:PE X i ti)(hs:xM X t)
  (ha:∀ v,assign (.Subscript o i pos) X.env v=(do
   let ov<-Rm [v] (eval o X.env)
   let iv<-Rm [v,ov] (eval i X.env)
   standAt pos
   Rm [v,ov,iv] (setItem ov iv v)
   release [v,ov,iv] []):=by intro _;rfl):PG X (.Subscript o i pos) (Fp to ti t):=by
 intro pins s σ H v u Q I r h;rw[ha];refine Mn (OA (dh (ho pins s σ H _ I h) λov s1 ⟨x,H1,J,U,q1⟩=>?_));refine Mn (OA (dh (hi pins s1 σ H1 _ J q1) λiv s2 ⟨y,H2,I2,r2,q2⟩=>?_));refine Mn (wpAny_standAt (Mn (OA (dh (hs pins s2 σ H2 x y v ov iv u _ I2 U r2 r q2) λ_ s3 ⟨H3,I3,q3⟩=>?_))));exact wpAny_release ⟨σ,H3,I3,q3⟩
noncomputable def u9(te:TE)(g:TG):TS:=λD σ H=>te σ H λx H1=>g x σ H1 D.nx
theorem Az{tg e:Nv}{te:TE}{g:TG}(he:PE X e te)(hg:PG X tg g)(hs:swapsWithSole [tg] e pos.line X.env=pure false:=by rfl)(hw:swappedStores [tg] e X.env=pure none:=by rfl)
  (h1:(QK [tg] X.env).map (·.2)=[assign tg X.env]:=by rfl):PS X (.Assign [tg] e pos) (u9 te g):=by
 intro pins s σ H D I h;refine wpAny_Assign_stores (dh (he pins s σ H _ I h) λv s1 ⟨x,H1,J,U,q1⟩=>?_) hs hw;rw[h1];exact dh (hg pins s1 σ H1 x v _ J U q1) λ_ s2 q=>q
theorem di{i:Nat}{x:Str}{e:Nv}{te:TE}{pos':Pos}(hN:X.N.Nodup)(hi:X.N[i]? =some x)(hx:Loc X.env.scope x)(he:PE X e te)(hs:RH e (some (.Name x pos')) pos.line X.env=pure false:=by rfl)(hf:X.fn x=true\/X.env.scope.names.lookup x=some .local:=by first|exact .inl rfl|exact .inr rfl|assumption):
  PS X (.Assign [.Name x pos'] e pos) (u9 te (lh i)):=by
 intro pins s σ H D I h;refine wpAny_Assign_Name (dh (he pins s σ H _ I h) λv s1 ⟨y,H1,J,U,q1⟩=>?_) hs;exact qj J hN hi hx U (λs2 I2=>⟨_,H1,I2,q1⟩) hf
noncomputable def Lh(i:Nat)(te:TE)(ti:sS):TS:=λD σ H=>∃ x,σ[i]? =some (some x)/\te σ H λy H1=>ti x y H1 λz H2=>D.nx (σ.set i (some z)) H2
theorem uq{i:Nat}{x:Str}{e:Nv}{te:TE}{op:Operator}{ti:sS}{pos':Pos}(hN:X.N.Nodup)(hi:X.N[i]? =some x)(hx:Loc X.env.scope x)(he:PE X e te)(ho:wx X op ti)(hf:X.fn x=true\/X.env.scope.names.lookup x=some .local:=by first|exact .inl rfl|exact .inr rfl|assumption):
  PS X (.AugAssign (.Name x pos') op e pos) (Lh i te ti):=by
 intro pins s σ H D I h;obtain⟨v,e1,h⟩:=h;obtain⟨m,hn,hl⟩:=I.loc;have ab:oX X.env.scope x:=by rcases hx with k|k;exact .inl k;exact .inr (.inl k)
 obtain⟨u,r,l⟩:=hl i x v hi e1 ab;refine wpAny_AugAssign_Name ?_;have go:MD (My X.prog X.w) X.A (eval e X.env) (λw U=>MD (My X.prog X.w) X.A (inplaceOp op u w) (λr aa=>MD (My X.prog X.w) X.A (storeName X.env x r) (λ_=>SP X pins D .next) X.xe aa) X.xe U) X.xe s:=by
  refine dh (he pins s σ H _ I h) λw s1 ⟨y,H1,I1,r1,q1⟩=>?_
  refine dh (ho pins s1 σ H1 v y u w _ I1 r r1 q1) λz s2 ⟨zv,H2,I2,r2,q2⟩=>?_
  exact qj I2 hN hi hx r2 (λs3 I3=>⟨_,H2,I3,q2⟩) hf
 rcases l with ⟨hk,hm⟩|⟨hk,c,hc,J⟩
 ·exact wpAny_loadName_local I.ok.kind hk hn hm go
 ·rcases hk with hk|hk
  ·exact wpAny_loadName_cell I.ok.kind hk hc J go
  ·rcases hx with k|k
   ·have:X.env.scope.names.lookup x=some .free:=hk;rw[k] at this;cases this
   ·have:X.env.scope.names.lookup x=some .free:=hk;rw[k] at this;cases this
noncomputable def yK(f:Int->Int->Int):sS:=λx y H Q=>∃ i j,x= .int i/\y= .int j/\Q (.int (f i j)) H
theorem zh:wx X .Add (yK λi j=>i+j):=by
 intro pins s σ H x y v u Q I J U h;obtain⟨i,j,e1,e2,q⟩:=h;subst e1;subst e2;obtain⟨t,rfl⟩:=J;obtain⟨t',rfl⟩:=U;exact iadd_int ⟨.int _,H,I.tok _,⟨_,rfl⟩,q⟩
theorem HB:wx X .Sub (yK λi j=>i-j):=by
 intro pins s σ H x y v u Q I J U h;obtain⟨i,j,e1,e2,q⟩:=h;subst e1;subst e2;obtain⟨t,rfl⟩:=J;obtain⟨t',rfl⟩:=U;exact isub_int ⟨.int _,H,I.tok _,⟨_,rfl⟩,q⟩
noncomputable def zC(c:TT)(tb:TS):TS:=λD σ H=>∃ W:Nat->St->Hp->Prop,(∃ m,W m σ H)/\∀ m σ H,W m σ H->
 c σ H λb H1=>if b=true then ∃ N:St->Hp->Prop,(∀ I H',N I H'->∃ J,J<m/\W J I H')/\tb {D with nx:=N,ct:=N,bk:=D.nx} σ H1 else D.nx σ H1
theorem tQ{c:Nv}{body:LR Nr}{tc:TT}{tb:TS}(hp:PassesOwn (My X.prog X.w) X.A X.env X.xe)(hc:PT X c tc)(hb:dj X body tb):PS X (.While c body [] pos) (zC tc tb):=by
 intro pins s σ H D I h;obtain⟨W,⟨m0,w0⟩,turn⟩:=h;refine wpAny_While (codeAny_whileLoop (λn s'=>∃ aa H',Inv X pins aa H' s'/\W n aa H') ?_ m0 ⟨σ,H,I,w0⟩);rintro n s1 ⟨U,H1,I1,w1⟩;refine OI hp (dh (hc pins s1 U H1 _ I1 (turn n U H1 w1)) λb s2 ⟨H2,I2,q2⟩=>?_);cases b with
 |true=>
  obtain⟨N,hN,q2⟩:=q2;rw[LZ rfl];refine OI hp (dh (hb pins s2 U H2 _ I2 q2) λf s3 q3=>?_);cases f with
  |next=>
   obtain⟨J,H3,I3,n3⟩:=q3;obtain⟨m',hm,w3⟩:=hN J H3 n3;exact⟨m',hm,J,H3,I3,w3⟩
  |cont=>
   obtain⟨J,H3,I3,n3⟩:=q3;obtain⟨m',hm,w3⟩:=hN J H3 n3;exact⟨m',hm,J,H3,I3,w3⟩
  |brk=>exact q3
  |ret v=>exact q3
 |false=>
  rw[LX MC];exact O7 ⟨U,H2,I2,q2⟩
end
structure It where
 go : Nat -> Hp -> Prop
 yld : Nat -> Hp -> V -> Hp -> Prop
 stop : Nat -> Hp -> Prop
noncomputable def jH(X:Cx)(pins:LR (LS×Obj))(H:Hp)(b:LS):Prop:=
 H b=none/\b≠X.env.locals/\b∉X.fs/\(b∈X.ex\/X.s₀.heap.objs.size<=b)/\(∀ x c,X.env.cells.lookup x=some c->c≠b)/\∀ p∈X.pn++pins,p.1≠b
theorem Inv.fpOk {X:Cx}{pins:LR (LS×Obj)}{σ:St}{H H':Hp}{s:Me}{b:LS}(I:Inv X pins σ H s)(hb:s.heap.objs.size<=b)(hn:H' b=none):jH X pins H' b:=by
 refine⟨hn,QD (Mx I.lt hb),I.nofs hb,.inr (Mr I.sz hb),λx c e z=>?_,λp J z=>?_⟩
 ·obtain⟨v,q⟩:=I.cell x c e;exact absurd (Mx q.lt (by rw[z];exact hb)) (Nq _)
 ·exact absurd (Mx (Mv (I.pin p J).1) (by rw[z];exact hb)) (Nq _)
structure Turn (P : Mq) (w : MT) (K : Mm) (tg : Nv) (J : It) (fp : LR LS) (it : LS) (tn : Nat -> Nn -> Prop) : Prop where
 mem : it ∈ fp
 obj : ∀ i h, tn i h -> ∀ b ∈ fp, ∃ o, h.get? b = some o /\ ∀ v, o.data ≠ .cell v
 keep : ∀ i h h', tn i h -> (∀ b ∈ fp, ∀ o, h.get? b = some o -> h'.get? b = some o) -> tn i h'
 item : ∀ (X : Cx), X.prog = P -> X.w = w -> X.K = K -> X.calm = true -> ∀ (i : Nat) (pins : LR (LS × Obj)) (s : Me) (σ : St) (H : Hp) (E : LW -> Me -> Prop), Inv X pins σ H s -> (∀ b ∈ fp, jH X pins H b) -> tn i s.heap -> J.go i H ->
  MD (My P w) X.A (pyNext (.ref it)) (λr s1 => ∃ u, r = some u /\
   MD (My P w) X.A (Qp tg (.ref it) u) (λ_ s2 => ∃ x H', Inv X pins σ H' s2 /\ RelV x u /\ J.yld i H x H' /\ tn (i+1) s2.heap /\ ∀ b ∈ fp, H' b = none) E s1) E s
 done : ∀ (X : Cx), X.prog = P -> X.w = w -> X.K = K -> X.calm = true -> ∀ (i : Nat) (pins : LR (LS × Obj)) (s : Me) (σ : St) (H : Hp) (E : LW -> Me -> Prop), Inv X pins σ H s -> (∀ b ∈ fp, jH X pins H b) -> tn i s.heap -> J.stop i H ->
  MD (My P w) X.A (pyNext (.ref it)) (λr s1 => r = none /\ Inv X pins σ H s1) E s
 self : ∀ (A : Np) (i : Nat) (s : Me) (Q : LW -> Me -> Prop) (E : LW -> Me -> Prop), tn i s.heap -> Q (.ref it) s -> MD (My P w) A (pyIter (.ref it)) Q E s
noncomputable abbrev TI:=St->Hp->(It->Hp->Prop)->Prop
noncomputable def Bj(X:Cx)(pins:LR (LS×Obj))(σ:St)(tg:Nv)(R:It->Hp->Prop)(itv:LW)(s2:Me):Prop:=
 ∃(it:LS) (fp:LR LS) (tn:Nat->Nn->Prop) (J:It) (H':Hp),itv= .ref it/\Inv X pins σ H' s2/\Turn X.prog X.w X.K tg J fp it tn/\tn 0 s2.heap/\(∀ b∈fp,jH X pins H' b)/\R J H'
noncomputable def PI(X:Cx)(tg iter:Nv)(wi:TI):Prop:=
 ∀(pins:LR (LS×Obj)) (s:Me) (σ:St) (H:Hp) (R:It->Hp->Prop),Inv X pins σ H s->wi σ H R->
  MD (My X.prog X.w) X.A (eval iter X.env) (λv s1=>MD (My X.prog X.w) X.A (pyIter v) (Bj X pins σ tg R) X.xe s1) X.xe s
theorem mZ {M : Model} {A : Np} {E : LW -> Me -> Prop} {s : Me} {tg : Nv} {it : LS} {u : LW} {o : Obj} {n : OE} {vs : Nd LW} {Q : Unit -> Me -> Prop} (ho : s.heap.get? it = some o) (hc : o.cls = .type n) (hd : o.data = .fields vs)
  (hn : ["enumerate", "zip", "dict_itemiterator", "dict_reverseitemiterator", "odict_iterator", "itertools.zip_longest", "itertools.pairwise"].contains n = false) (hQ : Q () s) : MD M A (Qp tg (.ref it) u) Q E s := by
 unfold Qp
 cases tg <;> first
  | exact Nf hQ
  | (cases u <;> first
    | exact Nf hQ
    | (refine Mn (wpAny_load ho ?_)
       rw [hc, hd]
       show MD M A (if (["enumerate", "zip", "dict_itemiterator", "dict_reverseitemiterator", "odict_iterator", "itertools.zip_longest", "itertools.pairwise"].contains n && vs[0]? == some (rawInt _)) = true then _ else _) Q E s
       rw [LX (by intro h; rw [hn, OS] at h; cases h)]
       exact Nf hQ))
noncomputable def nU(K:Mm)(a:LS):It:=
 ⟨λi H=>∃ xs x,cS K H a xs/\xs[i]? =some x,λi H x H'=>H'=H/\∀ xs,cS K H a xs->xs[i]? =some x,λi H=>∃ xs,cS K H a xs/\xs.length<=i⟩
noncomputable def p6(K:Mm)(a:LS):It:=
 ⟨λi H=>∃ xs x,dY K H a xs/\xs[i]? =some x,λi H x H'=>H'=H/\∀ xs,dY K H a xs->xs[i]? =some x,λi H=>∃ xs,dY K H a xs/\xs.length<=i⟩
noncomputable def lV(lo:Int)(n:Nat):It:=⟨λi _=>i<n,λi H x H'=>H'=H/\x= .int (lo+i),λi _=>n<=i⟩
theorem HK{P:Mq}{w:MT}{K:Mm}{tg:Nv}(a it:LS):Turn P w K tg (nU K a) [it] it (λi h=>h.IsListIter it a i) where
 mem:=by simp
 obj:=λi h st b hb=>by
  have e:b=it:=by simpa using hb
  subst e;obtain⟨o,e,c,d⟩:=st;exact⟨o,e,λv z=>by rw[d] at z;cases z⟩
 keep:=λi h h' st k=>st.at λo e=>k it (by simp) o e
 item:=by
  intro X hP hw hK hc i pins s σ H E I hf st hg;subst hP hw hK;obtain⟨xs,x,U,hx⟩:=hg;obtain⟨aa,rv,p,hz⟩:=I.list U;obtain⟨u,hu,ru⟩:=rv.get hx;obtain⟨f0,f1,f2,f3,f4,f5⟩:=hf it (by simp);refine wpAny_pyNext_list_item st p.isList (x:=u) (by simpa using hu) λh' J sb=>?_
  have I1:Inv X pins σ H {s with heap:=h'}:=I.turned (t':=s.toks) (λb o hb e=>(sb.2 b hb).trans e) f0 f1 f3 f4 f5;obtain⟨o,e,c,d⟩:=id J;exact⟨u,rfl,mZ (s:={s with heap:=h'}) e c d (by decide) ⟨x,H,I1,ru,⟨rfl,λys hy=>by rw[I.list_inj hy U];exact hx⟩,J,λb hb=>(hf b hb).1⟩⟩
 done:=by
  intro X hP hw hK hc i pins s σ H E I hf st hg;subst hP hw hK;obtain⟨xs,U,hx⟩:=hg;obtain⟨aa,rv,p,hz⟩:=I.list U;obtain⟨f0,f1,f2,f3,f4,f5⟩:=hf it (by simp);have hl:=rv.length;exact wpAny_pyNext_list_end (I.ok.hd hc) st p.isList (by simp;lia) λh' eb=>⟨rfl,I.turned (t':=s.toks) (λb o hb e=>eb b o hb e) f0 f1 f3 f4 f5⟩
 self:=λ_ _ _ _ _ st h=>wpAny_pyIter_listiter st h
theorem D9{P:Mq}{w:MT}{K:Mm}{tg:Nv}(a it:LS):Turn P w K tg (p6 K a) [it] it (λi h=>h.IsTupleIter it a i) where
 mem:=by simp
 obj:=λi h st b hb=>by
  have e:b=it:=by simpa using hb
  subst e;obtain⟨o,e,c,d⟩:=st;exact⟨o,e,λv z=>by rw[d] at z;cases z⟩
 keep:=λi h h' st k=>st.at λo e=>k it (by simp) o e
 item:=by
  intro X hP hw hK hc i pins s σ H E I hf st hg;subst hP hw hK;obtain⟨xs,x,hq,hx⟩:=hg;obtain⟨J,rv,p,hz⟩:=I.tuple hq;obtain⟨u,hu,ru⟩:=rv.get hx;obtain⟨f0,f1,f2,f3,f4,f5⟩:=hf it (by simp);refine wpAny_pyNext_tuple_item st (show s.heap.IsTuple a J.toArray from p) (x:=u) (by simpa using hu) λh' U sb=>?_
  have I1:Inv X pins σ H {s with heap:=h'}:=I.turned (t':=s.toks) (λb o hb e=>(sb.2 b hb).trans e) f0 f1 f3 f4 f5;obtain⟨o,e,c,d⟩:=id U;exact⟨u,rfl,mZ (s:={s with heap:=h'}) e c d (by decide) ⟨x,H,I1,ru,⟨rfl,λys hy=>by rw[I.tuple_inj hy hq];exact hx⟩,U,λb hb=>(hf b hb).1⟩⟩
 done:=by
  intro X hP hw hK hc i pins s σ H E I hf st hg;subst hP hw hK;obtain⟨xs,hq,hx⟩:=hg;obtain⟨J,rv,p,hz⟩:=I.tuple hq;obtain⟨f0,f1,f2,f3,f4,f5⟩:=hf it (by simp);have hl:=rv.length;exact wpAny_pyNext_tuple_end (I.ok.hd hc) st (show s.heap.IsTuple a J.toArray from p) (by simp;lia) λh' eb=>⟨rfl,I.turned (t':=s.toks) (λb o hb e=>eb b o hb e) f0 f1 f3 f4 f5⟩
 self:=λ_ _ _ _ _ st h=>wpAny_pyIter_tupleiter st h
theorem Fb{P:Mq}{w:MT}{K:Mz}{tg:Nv}(it:LS)(lo:Int)(n:Nat):Turn P w K tg (lV lo n) [it] it (λi h=>IsRangeIter h it (lo+(i:Nat)*1) ((n:Int)-(i:Nat)) 1) where
 mem:=by simp
 obj:=λi h st b hb=>by
  have e:b=it:=by simpa using hb
  subst e;exact⟨_,st,λv z=>by
   have z':Data.fields _=Data.cell v:=z;cases z'⟩
 keep:=λi h h' st k=>k it (by simp) _ st
 item:=by
  intro X U hw hK hc i pins s σ H E I hf st hg;subst U hw hK;obtain⟨f0,f1,f2,f3,f4,f5⟩:=hf it (by simp);have W:=Walks.range (prog:=X.prog) (w:=X.w) (I.ok.hd hc) it lo 1 n;refine W.item i s _ _ hg st λv h' tk hv J kk=>?_
  obtain⟨t,rfl⟩:=hv;have I1:Inv X pins σ H {s with heap:=h',toks:=tk}:=I.turned (λb o hb e=>kk b o (by simpa using hb) e) f0 f1 f3 f4 f5;refine⟨_,rfl,mZ (s:={s with heap:=h',toks:=tk}) (n:="range_iterator") J rfl rfl (by decide) ⟨.int (lo+i),H,I1,⟨t,?_⟩,⟨rfl,rfl⟩,J,λb hb=>(hf b hb).1⟩⟩;rw[Int.mul_one]
 done:=by
  intro X U hw hK hc i pins s σ H E I hf st hg;subst U hw hK;obtain⟨f0,f1,f2,f3,f4,f5⟩:=hf it (by simp);exact wpAny_pyNext_range_end (I.ok.hd hc) st (by have:n<=i:=hg;lia) λh' eb=>⟨rfl,I.turned (t':=s.toks) (λb o hb e=>eb b o hb e) f0 f1 f3 f4 f5⟩
 self:=λ_ _ _ _ _ st h=>wpAny_pyIter_rangeiter st h
section
variable {X : Cx} {tg : Nv}
noncomputable def Cw(K:Mm)(tl:TE):TI:=λσ H R=>tl σ H λx H1=>∃ a,x= .ref a/\(∃ xs,cS K H1 a xs)/\R (nU K a) H1
noncomputable def KI(K:Mm)(tl:TE):TI:=λσ H R=>tl σ H λx H1=>∃ a,x= .ref a/\(∃ xs,dY K H1 a xs)/\R (p6 K a) H1
theorem eZ{l:Nv}{tl:TE}(hl:PE X l tl):PI X tg l (Cw X.K tl):=by
 intro pins s σ H R I h;refine dh (hl pins s σ H _ I h) λv s1 ⟨x,H1,J,U,q1⟩=>?_
 obtain⟨a,e,⟨xs,hq⟩,q⟩:=q1;subst e;cases U;obtain⟨aa,rv,p,hz⟩:=J.list hq;refine QX p.isList ?_;refine⟨s1.heap.objs.size,[s1.heap.objs.size],_,_,H1,rfl,J.kept (t':=s1.toks) λb o e=>Heap.get?_push_of_some _ e,HK a _,⟨_,Heap.get?_push_size _ rfl,rfl,rfl⟩,λb hb=>?_,q⟩;have e:b=s1.heap.objs.size:=by simpa using hb
 subst e;exact J.fpOk (Ma _) (J.hok.fresh (Ma _))
theorem BP{l:Nv}{tl:TE}(hl:PE X l tl):PI X tg l (KI X.K tl):=by
 intro pins s σ H R I h;refine dh (hl pins s σ H _ I h) λv s1 ⟨x,H1,J,r1,q1⟩=>?_
 obtain⟨a,e,⟨xs,hq⟩,q⟩:=q1;subst e;cases r1;obtain⟨U,rv,p,hz⟩:=J.tuple hq;refine wpAny_pyIter_tuple (show s1.heap.IsTuple a U.toArray from p) ?_;refine⟨s1.heap.objs.size,[s1.heap.objs.size],_,_,H1,rfl,J.kept (t':=s1.toks) λb o e=>Heap.get?_push_of_some _ e,D9 a _,⟨_,Heap.get?_push_size _ rfl,rfl,rfl⟩,λb hb=>?_,q⟩;have e:b=s1.heap.objs.size:=by simpa using hb
 subst e;exact J.fpOk (Ma _) (J.hok.fresh (Ma _))
theorem Ft{pins:LR (LS×Obj)}{σ:St}{H:Hp}{s:Me}{R:It->Hp->Prop}{E:LW->Me->Prop}{lo hi:Int}{t u v:Tok}{tk:Nat}(I:Inv X pins σ H s)(h1: -(2 ^ 62)<=lo)(h2:lo<2 ^ 62)(h3: -(2 ^ 62)<=hi)(h4:hi<2 ^ 62)
  (q:R (lV lo (hi-lo).toNat) H):MD (My X.prog X.w) X.A (pyIter (.ref s.heap.objs.size)) (Bj X pins σ tg R) E {s with heap:=s.heap.push {cls:= .type "range",data:= .fields #[.int lo t,.int hi u,.int 1 v]},toks:=tk}:=by
 refine wpAny_pyIter_range (IsRange.new ..) (small_one h1 h2 h3 h4) ?_;have J:Inv X pins σ H {s with heap:=s.heap.push {cls:= .type "range",data:= .fields #[.int lo t,.int hi u,.int 1 v]},toks:=tk}:=I.kept λb o e=>Heap.get?_push_of_some _ e
 refine⟨(s.heap.push {cls:= .type "range",data:= .fields #[.int lo t,.int hi u,.int 1 v]}).objs.size,[(s.heap.push {cls:= .type "range",data:= .fields #[.int lo t,.int hi u,.int 1 v]}).objs.size],_,_,H,rfl,
  J.kept (t':=tk) λb o e=>Heap.get?_push_of_some _ e,Fb _ lo (hi-lo).toNat,?_,λb hb=>?_,q⟩
 ·have U:lo+((0:Nat):Int)*1=lo:=by simp
  have e2:(((hi-lo).toNat:Nat):Int)-((0:Nat):Int)=Builtin.Range.rangeSize lo hi 1:=by rw[rangeSize_one];split<;>lia
  show IsRangeIter _ _ (lo+((0:Nat):Int)*1) ((((hi-lo).toNat:Nat):Int)-((0:Nat):Int)) 1;rw[U,e2];exact Heap.get?_push_size _ rfl
 ·have e:b=(s.heap.push {cls:= .type "range",data:= .fields #[.int lo t,.int hi u,.int 1 v]}).objs.size:=by simpa using hb
  subst e;exact J.fpOk (Ma _) (J.hok.fresh (Ma _))
noncomputable def ET(ta:TA):TI:=λσ H R=>ta σ H λvs H1=>∃ j:Int,vs=[.int j]/\ -(2 ^ 62)<=j/\j<2 ^ 62/\R (lV 0 j.toNat) H1
theorem iO{a:Nv}{ta:TA}{p pos:Pos}(hg:Gl X "range")(hm:X.mg "range"=none)(ha:PA X [a] ta)(hs:Ni [a] X.env=[(false,eval a X.env)]:=by rfl):PI X tg (.Call (.Name "range" p) [a] [] pos) (ET ta):=by
 intro pins s σ H R I h;refine Call_ (mh I hg hm boot_range (N9 (dh (ha pos pins s σ H _ I h) λus s1 ⟨vs,H1,J,U,q1⟩=>?_) hs rfl));obtain⟨j,e,q1,q2,q⟩:=q1;subst e;cases U with
 |cons r rr=>
  cases rr;obtain⟨t,rfl⟩:=r;exact call_range_1 (Ft J (by lia) (by lia) q1 q2 (by simpa using q))
noncomputable def Jd(wi:TI)(g:TG)(tb:TS):TS:=λD σ H=>wi σ H λJ H1=>∃ W:Nat->Nat->St->Hp->Prop,(∃ m,W 0 m σ H1)/\∀ i m σ H,W i m σ H->
 (J.stop i H/\D.nx σ H)\/(J.go i H/\∃ N:St->Hp->Prop,(∀ I H',N I H'->∃ m',m'<m/\W (i+1) m' I H')/\∀ x H',J.yld i H x H'->g x σ H' λU H2=>tb {D with nx:=N,ct:=N,bk:=D.nx} U H2)
noncomputable def pf(fp:LR LS)(h:Nn):LR (LS×Obj):=fp.filterMap λb=>(h.get? b).map λo=>(b,o)
theorem qN{fp:LR LS}{h:Nn}{b:LS}{o:Obj}(hb:b∈fp)(e:h.get? b=some o):(b,o)∈pf fp h:=List.mem_filterMap.mpr ⟨b,hb,by rw[e];rfl⟩
theorem Jl{fp:LR LS}{h:Nn}{p:LS×Obj}(hp:p∈pf fp h):p.1∈fp/\h.get? p.1=some p.2:=by
 obtain⟨b,hb,e⟩:=List.mem_filterMap.mp hp;cases q:h.get? b with
 |none=>rw[q] at e;cases e
 |some o=>
  rw[q] at e;have I:(b,o)=p:=Ml e;subst I;exact⟨hb,q⟩
theorem Inv.pinned {pins:LR (LS×Obj)}{σ:St}{H:Hp}{s:Me}{fp:LR LS}(I:Inv X pins σ H s)(hf:∀ b∈fp,jH X pins H b)(ho:∀ b∈fp,∃ o,s.heap.get? b=some o/\∀ v,o.data≠ .cell v):Inv X (pins++pf fp s.heap) σ H s:=
 I.pins_of λp U=>(List.mem_append.mp U).elim (λz=>I.pin p (MA _ z)) λz=>by
  obtain⟨hb,e⟩:=Jl z;obtain⟨f0,f1,f2,_⟩:=hf p.1 hb;obtain⟨o,J,d⟩:=ho p.1 hb;rw[e] at J;cases J;exact⟨e,f0,f1,f2,d⟩
theorem Inv.unpinned {pins pl:LR (LS×Obj)}{σ:St}{H:Hp}{s:Me}(I:Inv X (pins++pl) σ H s):Inv X pins σ H s:=I.pins_of λp J=>I.pin p (MA _ (MX _ J))
theorem fx{iter:Nv}{body:LR Nr}{wi:TI}{g:TG}{tb:TS}{pos:Pos}(hp:PassesOwn (My X.prog X.w) X.A X.env X.xe)(hc:X.calm=true)(hi:PI X tg iter wi)(hg:PG X tg g)(hb:dj X body tb)
  (hs:∀ x,PQ iter X.env x=pure x:=by intro _;rfl):PS X (.For tg iter body [] pos) (Jd wi g tb):=by
 intro pins s σ H D I h;refine wpAny_For (dh (hi pins s σ H _ I h) λv s1 h1=>dh h1 λaq s2 h2=>?_) hs;obtain⟨it,fp,tn,J,H2,e,I2,T,ai,f2,W,⟨m0,w0⟩,turn⟩:=h2;subst e;have aa:∀{H':Hp},(∀ b∈fp,H' b=none)->∀ b∈fp,jH X pins H' b:=λhn b hb=>⟨hn b hb,(f2 b hb).2⟩
 refine codeAny_forLoop_any (λn s'=>∃ i ab H',Inv X pins ab H' s'/\tn i s'.heap/\(∀ b∈fp,H' b=none)/\W i n ab H') ?_ m0 ⟨0,σ,H2,I2,ai,λb hb=>(f2 b hb).1,w0⟩;rintro n s3 ⟨i,ae,H3,I3,ag,ah,w3⟩;rcases turn i n ae H3 w3 with ⟨stop,qn⟩|⟨go,N,hN,step⟩
 ·refine OI hp (dh (T.done X rfl rfl rfl hc i pins s3 ae H3 X.xe I3 (aa ah) ag stop) λr s4 ⟨hr,I4⟩=>?_);subst hr;exact O7 ⟨ae,H3,I4,qn⟩
 ·refine OI hp (dh (T.item X rfl rfl rfl hc i pins s3 ae H3 X.xe I3 (aa ah) ag go) λr s4 ⟨u,hr,h4⟩=>?_);subst hr;refine OI hp (dh h4 λ_ s5 ⟨x,H5,I5,r5,y5,af,aj⟩=>?_);have ak:=I5.pinned (aa aj) (T.obj _ _ af);refine OI hp (dh (hg _ s5 ae H5 x u _ ak r5 (step x H5 y5)) λ_ s6 ⟨ao,H6,I6,q6⟩=>?_);refine OI hp (dh (hb _ s6 ao H6 _ I6 q6) λf s7 q7=>?_);have again:∀{U:St} {H7:Hp},Inv X (pins++pf fp s5.heap) U H7 s7->N U H7->∃ m,m<n/\∃ i ab H',Inv X pins ab H' s7/\tn i s7.heap/\(∀ b∈fp,H' b=none)/\W i m ab H':=λ{U H7} I7 n7=>by
   obtain⟨m',hm,w7⟩:=hN U H7 n7;refine⟨m',hm,i+1,U,H7,I7.unpinned,T.keep _ _ _ af λb hb o e=>(I7.pin (b,o) (MA _ (MA _ (qN hb e)))).1,λb hb=>?_,w7⟩;obtain⟨o,e,d⟩:=T.obj _ _ af b hb;exact(I7.pin (b,o) (MA _ (MA _ (qN hb e)))).2.1
  cases f with
  |next=>obtain⟨U,H7,I7,n7⟩:=q7;exact again I7 n7
  |cont=>obtain⟨U,H7,I7,n7⟩:=q7;exact again I7 n7
  |brk=>obtain⟨U,H7,I7,q7⟩:=q7;exact⟨U,H7,I7.unpinned,q7⟩
  |ret v=>obtain⟨x7,U,H7,I7,r7,q7⟩:=q7;exact⟨x7,U,H7,I7.unpinned,r7,q7⟩
end
theorem iW{K:Mz}{a:LS}{xs:LR V}{g:TG}{tb:TS}{D:Ends}{σ:St}{H:Hp}(Pv:Nat->St->Hp->Prop)(h0:Pv 0 σ H)(hl:∀ i σ H,i<=xs.length->Pv i σ H->cS K H a xs)
  (hs:∀ i x σ H,xs[i]? =some x->Pv i σ H->g x σ H λσ2 H2=>tb {D with nx:=Pv (i+1),ct:=Pv (i+1),bk:=D.nx} σ2 H2)(hd:∀ σ H,Pv xs.length σ H->D.nx σ H):
  ∃ W:Nat->Nat->St->Hp->Prop,(∃ m,W 0 m σ H)/\∀ i m σ H,W i m σ H->
   ((nU K a).stop i H/\D.nx σ H)\/((nU K a).go i H/\∃ N:St->Hp->Prop,(∀ σ' H',N σ' H'->∃ m',m'<m/\W (i+1) m' σ' H')/\∀ x H',(nU K a).yld i H x H'->g x σ H' λσ2 H2=>tb {D with nx:=N,ct:=N,bk:=D.nx} σ2 H2):=by
 refine⟨λi m σ H=>m=xs.length-i/\i<=xs.length/\Pv i σ H,⟨xs.length,by simp,MM _,h0⟩,?_⟩;rintro i m σ H ⟨rfl,hi,p⟩;have q:=hl i σ H hi p;by_cases I:i<xs.length
 ·refine .inr ⟨⟨xs,xs[i],q,by simp[I]⟩,Pv (i+1),λσ' H' J=>⟨xs.length-(i+1),by lia,rfl,I,J⟩,λx H' y=>?_⟩;obtain⟨e,y⟩:=y;subst e;exact hs i x σ _ (y xs q) p
 ·have e:i=xs.length:=by lia
  subst e;exact .inl ⟨⟨xs,q,Ma _⟩,hd σ H p⟩
theorem yM{K:Mz}{a:LS}{xs:LR V}{g:TG}{tb:TS}{D:Ends}{σ:St}{H:Hp}(Pv:Nat->St->Hp->Prop)(h0:Pv 0 σ H)(hl:∀ i σ H,i<=xs.length->Pv i σ H->dY K H a xs)
  (hs:∀ i x σ H,xs[i]? =some x->Pv i σ H->g x σ H λσ2 H2=>tb {D with nx:=Pv (i+1),ct:=Pv (i+1),bk:=D.nx} σ2 H2)(hd:∀ σ H,Pv xs.length σ H->D.nx σ H):
  ∃ W:Nat->Nat->St->Hp->Prop,(∃ m,W 0 m σ H)/\∀ i m σ H,W i m σ H->
   ((p6 K a).stop i H/\D.nx σ H)\/((p6 K a).go i H/\∃ N:St->Hp->Prop,(∀ σ' H',N σ' H'->∃ m',m'<m/\W (i+1) m' σ' H')/\∀ x H',(p6 K a).yld i H x H'->g x σ H' λσ2 H2=>tb {D with nx:=N,ct:=N,bk:=D.nx} σ2 H2):=by
 refine⟨λi m σ H=>m=xs.length-i/\i<=xs.length/\Pv i σ H,⟨xs.length,by simp,MM _,h0⟩,?_⟩;rintro i m σ H ⟨rfl,hi,p⟩;have q:=hl i σ H hi p;by_cases I:i<xs.length
 ·refine .inr ⟨⟨xs,xs[i],q,by simp[I]⟩,Pv (i+1),λσ' H' J=>⟨xs.length-(i+1),by lia,rfl,I,J⟩,λx H' y=>?_⟩;obtain⟨e,y⟩:=y;subst e;exact hs i x σ _ (y xs q) p
 ·have e:i=xs.length:=by lia
  subst e;exact .inl ⟨⟨xs,q,Ma _⟩,hd σ H p⟩
theorem mm{lo:Int}{n:Nat}{g:TG}{tb:TS}{D:Ends}{σ:St}{H:Hp}(Pv:Nat->St->Hp->Prop)(h0:Pv 0 σ H)
  (hs:∀ i σ H,i<n->Pv i σ H->g (.int (lo+i)) σ H λσ2 H2=>tb {D with nx:=Pv (i+1),ct:=Pv (i+1),bk:=D.nx} σ2 H2)(hd:∀ σ H,Pv n σ H->D.nx σ H):
  ∃ W:Nat->Nat->St->Hp->Prop,(∃ m,W 0 m σ H)/\∀ i m σ H,W i m σ H->
   ((lV lo n).stop i H/\D.nx σ H)\/((lV lo n).go i H/\∃ N:St->Hp->Prop,(∀ σ' H',N σ' H'->∃ m',m'<m/\W (i+1) m' σ' H')/\∀ x H',(lV lo n).yld i H x H'->g x σ H' λσ2 H2=>tb {D with nx:=N,ct:=N,bk:=D.nx} σ2 H2):=by
 refine⟨λi m σ H=>m=n-i/\i<=n/\Pv i σ H,⟨n,by simp,MM _,h0⟩,?_⟩;rintro i m σ H ⟨rfl,hi,p⟩;by_cases I:i<n
 ·refine .inr ⟨I,Pv (i+1),λσ' H' J=>⟨n-(i+1),by lia,rfl,I,J⟩,λx H' y=>?_⟩;obtain⟨e,y⟩:=y;subst e y;exact hs i σ _ I p
 ·have e:i=n:=by lia
  subst e;exact .inl ⟨Ma _,hd σ H p⟩
theorem vM{c:TT}{tb:TS}{D:Ends}{σ:St}{H:Hp}(Pv:St->Hp->Prop)(μ:St->Hp->Nat)(h0:Pv σ H)
  (hs:∀ σ H,Pv σ H->c σ H λb H1=>if b=true then tb {D with nx:=λσ' H'=>Pv σ' H'/\μ σ' H'<μ σ H,ct:=λσ' H'=>Pv σ' H'/\μ σ' H'<μ σ H,bk:=D.nx} σ H1 else D.nx σ H1)
  (mono:∀ σ H Q Q',(∀ b H1,Q b H1->Q' b H1)->c σ H Q->c σ H Q'):zC c tb D σ H:=by
 refine⟨λm σ H=>m=μ σ H/\Pv σ H,⟨_,rfl,h0⟩,?_⟩;rintro m σ H ⟨rfl,p⟩;refine mono σ H _ _ (λb H1 q=>?_) (hs σ H p);cases b with
 |true=>exact⟨_,λσ' H' ⟨I,l⟩=>⟨_,l,rfl,I⟩,q⟩
 |false=>exact q
noncomputable abbrev R2:=V->V->Hp->VK->Prop
noncomputable def fz(X:Cx)(f:LW->LW->Sem LW)(r:R2):Prop:=
 ∀(pins:LR (LS×Obj)) (s:Me) (σ:St) (H:Hp) (x y:V) (v u:LW) (Q:VK),Inv X pins σ H s->RelV x v->RelV y u->r x y H Q->
  MD (My X.prog X.w) X.A (f v u) (EP X pins σ Q) X.xe s
noncomputable def gy(X:Cx)(f:LW)(r:LR V->Hp->VK->Prop):Prop:=
 ∀(pins:LR (LS×Obj)) (s:Me) (σ:St) (H:Hp) (xs:LR V) (us:LR LW) (Q:VK),Inv X pins σ H s->Vals xs us->r xs H Q->
  MD (My X.prog X.w) X.A (call f us) (EP X pins σ Q) X.xe s
noncomputable def nW(r:R2)(ta tb:TE):TE:=λσ H Q=>ta σ H λx H1=>tb σ H1 λy H2=>r x y H2 Q
noncomputable def rI(C:Int->Int->Prop)(g:Int->Int->V):R2:=λx y H Q=>∃ i j,x= .int i/\y= .int j/\C i j/\Q (g i j) H
noncomputable def lS(g:Int->Int->V):R2:=λx y H Q=>∃ i j,x= .int i/\y= .int j/\Q (g i j) H
section
variable {X : Cx} {a b c : Nv} {ta tb tc : TE} {pos : Pos}
theorem we(ha:PE X a ta)(hb:PE X b tb){pins:LR (LS×Obj)}{s:Me}{σ:St}{H:Hp}{R:V->V->Hp->Prop}(I:Inv X pins σ H s)
  (h:ta σ H λx H1=>tb σ H1 λy H2=>R x y H2){Q:LW->Me->Prop}{f:LW->LW->Sem LW}
  (hf:∀ v u s2 x y H2,Inv X pins σ H2 s2->RelV x v->RelV y u->R x y H2->MD (My X.prog X.w) X.A (f v u) Q X.xe s2):
  MD (My X.prog X.w) X.A (eval a X.env) (λv s₁=>MD (My X.prog X.w) X.A (eval b X.env) (λu s₂=>MD (My X.prog X.w) X.A (f v u) Q X.xe s₂) X.xe s₁) X.xe s:=by
 refine dh (ha pins s σ H _ I h) λv s1 ⟨x,H1,J,U,q1⟩=>?_
 refine dh (hb pins s1 σ H1 _ J q1) λu s2 ⟨y,H2,I2,r2,q2⟩=>?_
 exact hf v u s2 x y H2 I2 U r2 q2
theorem de{op:Operator}{r:R2}(ho:fz X (Qg op) r)(ha:PE X a ta)(hb:PE X b tb):PE X (.BinOp a op b pos) (nW r ta tb):=by
 intro pins s σ H Q I h;exact wpAny_BinOp (we ha hb I h λv u s2 x y H2 J U ry q=>ho pins s2 σ H2 x y v u Q J U ry q)
theorem tJ{f:LW->LW->Sem LW}{C:Int->Int->Prop}{g:Int->Int->Int}
  (rule:∀(i j:Int) (t u:Tok) (s:Me) (Q:LW->Me->Prop) (E:LW->Me->Prop),C i j->Q (.int (g i j) s.toks) {s with toks:=s.toks+1}->MD (My X.prog X.w) X.A (f (.int i t) (.int j u)) Q E s):
  fz X f (rI C λi j=> .int (g i j)):=by
 intro pins s σ H x y v u Q I J U h;obtain⟨i,j,rfl,rfl,hc,q⟩:=h;obtain⟨t,rfl⟩:=J;obtain⟨t',rfl⟩:=U;exact rule i j t t' s _ _ hc ⟨.int (g i j),H,I.tok _,⟨_,rfl⟩,q⟩
theorem BX{f:LW->LW->Sem LW}{g:Int->Int->Int}
  (rule:∀(i j:Int) (t u:Tok) (s:Me) (Q:LW->Me->Prop) (E:LW->Me->Prop),Q (.int (g i j) s.toks) {s with toks:=s.toks+1}->MD (My X.prog X.w) X.A (f (.int i t) (.int j u)) Q E s):
  fz X f (lS λi j=> .int (g i j)):=by
 intro pins s σ H x y v u Q I J U h;obtain⟨i,j,rfl,rfl,q⟩:=h;obtain⟨t,rfl⟩:=J;obtain⟨t',rfl⟩:=U;exact rule i j t t' s _ _ ⟨.int (g i j),H,I.tok _,⟨_,rfl⟩,q⟩
theorem uw{f:LW->LW->Sem LW}{g:Int->Int->Nw}
  (rule:∀(i j:Int) (t u:Tok) (s:Me) (Q:LW->Me->Prop) (E:LW->Me->Prop),Q (.bool (g i j)) s->MD (My X.prog X.w) X.A (f (.int i t) (.int j u)) Q E s):
  fz X f (lS λi j=> .bl (g i j)):=by
 intro pins s σ H x y v u Q I J U h;obtain⟨i,j,rfl,rfl,q⟩:=h;obtain⟨t,rfl⟩:=J;obtain⟨t',rfl⟩:=U;exact rule i j t t' s _ _ ⟨.bl (g i j),H,I,rfl,q⟩
noncomputable def Ji(i j:Int):Prop:=0<j/\j<1073741824
noncomputable def tZ(i j:Int):Prop:=(-(2 ^ 64)<i/\i<2 ^ 64)\/(-(2 ^ 64)<j/\j<2 ^ 64)
theorem tZ.ok {i j:Int}(h:tZ i j):IntMulOk i j:=by
 rcases h with ⟨h1,h2⟩|⟨h1,h2⟩
 ·exact .of_left (intBits_le_64 h1 h2)
 ·exact .of_right (intBits_le_64 h1 h2)
theorem eP:fz X (Qg .Add) (lS λi j=> .int (i+j)):=BX λ_ _ _ _ _ _ _ q=>add_int q
theorem kT:fz X (Qg .Sub) (lS λi j=> .int (i-j)):=BX λ_ _ _ _ _ _ _ q=>sub_int q
theorem jg:fz X (Qg .Mult) (rI tZ λi j=> .int (i*j)):=tJ λ_ _ _ _ _ _ _ I q=>mul_int q I.ok
theorem gz:fz X (Qg .FloorDiv) (rI Ji λi j=> .int (i/j)):=tJ λi j _ _ _ _ _ I q=>by
 have h1:(0:Int)<j:=I.1
 have h2:j<1073741824:=I.2;exact floordiv_int (by lia) (by rw[Int.fdiv_eq_ediv_of_nonneg i (by lia)];exact q) (.inl (PyProof.noPylong_small (by lia)))
theorem eR:fz X (Qg .Mod) (rI (λ_ j=>0<j) λi j=> .int (i%j)):=tJ λi j _ _ _ _ _ I q=>by
 have h1:(0:Int)<j:=I;exact mod_int' (by lia) (by rw[Int.fmod_eq_emod_of_nonneg i (by lia)];exact q)
end
noncomputable def xG:V->V->Nw
 |.non,.non=>true|.non,.int _=>true|.int _,.non=>true|.non,.bl _=>true|.bl _,.non=>true|.non,.str _=>true|.str _,.non=>true
 |.int _,.int _=>true|.bl _,.bl _=>true|.str _,.str _=>true|.byt _,.byt _=>true
 |.int _,.str _=>true|.str _,.int _=>true|.bl _,.str _=>true|.str _,.bl _=>true
 |_,_=>false
noncomputable def HU:R2:=λx y H Q=>xG x y=true/\Q (.bl (decide (x=y))) H
noncomputable def IQ:R2:=λx y H Q=>xG x y=true/\Q (.bl (!decide (x=y))) H
theorem um{i j:Int}:decide (V.int i=V.int j)=(i==j):=by
 rw[Qq];simp
theorem Ac{i j:Nw}:decide (V.bl i=V.bl j)=(i==j):=by
 rw[Qq];simp
theorem BO{i j:Str}:decide (V.str i=V.str j)=(i==j):=by
 rw[Qq];simp
theorem yb{i j:Nd UInt8}:decide (V.byt i=V.byt j)=(i.toList==j.toList):=by
 rw[Qq];cases i;cases j;simp
section
variable {X : Cx} {a b c : Nv} {ta tb tc : TE} {pos : Pos}
theorem fq{pins:LR (LS×Obj)}{σ:St}{H:Hp}{s:Me}{Q:VK}{k k':Nw}(I:Inv X pins σ H s)(q:Q (.bl k) H)(e:k=k'):EP X pins σ Q (.bool k') s:=by
 subst e;exact⟨.bl k,H,I,rfl,q⟩
theorem fV:fz X (NX .Eq) HU:=by
 intro pins s σ H x y v u Q I U J h;obtain⟨hs,q⟩:=h;cases x with
 |non=>
  cases U;cases y with
  |non=>cases J;exact PySem.EqNone.eq_none_none (fq I q (by simp))
  |bl j=>cases J;exact PySem.EqNone.eq_none_bool (fq I q (by simp))
  |int j=>obtain⟨t',rfl⟩:=J;exact PySem.EqNone.eq_none_int (fq I q (by simp))
  |str j=>obtain⟨t',rfl⟩:=J;exact PySem.EqNone.eq_none_str (fq I q (by simp))
  |_=>exact absurd (show false=true from hs) MC
 |bl i=>
  cases U;cases y with
  |non=>cases J;exact PySem.EqNone.eq_bool_none (fq I q (by simp))
  |bl j=>cases J;exact eq_bool (fq I q Ac)
  |str j=>obtain⟨t',rfl⟩:=J;exact PySem.EqMixed.eq_bool_str (fq I q (by simp))
  |_=>exact absurd (show false=true from hs) MC
 |int i=>
  obtain⟨t,rfl⟩:=U;cases y with
  |non=>cases J;exact PySem.EqNone.eq_int_none (fq I q (by simp))
  |int j=>obtain⟨t',rfl⟩:=J;exact eq_int (fq I q um)
  |str j=>obtain⟨t',rfl⟩:=J;exact PySem.EqMixed.eq_int_str (fq I q (by simp))
  |_=>exact absurd (show false=true from hs) MC
 |str i=>
  obtain⟨t,rfl⟩:=U;cases y with
  |non=>cases J;exact PySem.EqNone.eq_str_none (fq I q (by simp))
  |bl j=>cases J;exact PySem.EqMixed.eq_str_bool (fq I q (by simp))
  |int j=>obtain⟨t',rfl⟩:=J;exact PySem.EqMixed.eq_str_int (fq I q (by simp))
  |str j=>obtain⟨t',rfl⟩:=J;exact eq_str (fq I q BO)
  |_=>exact absurd (show false=true from hs) MC
 |byt i=>
  obtain⟨t,rfl⟩:=U;cases y with
  |byt j=>obtain⟨t',rfl⟩:=J;exact W.eq_bytes (fq I q yb)
  |_=>exact absurd (show false=true from hs) MC
 |_=>cases y<;>exact absurd (show false=true from hs) MC
theorem qt:fz X (NX .NotEq) IQ:=by
 intro pins s σ H x y v u Q I U J h;obtain⟨hs,q⟩:=h;cases x with
 |non=>
  cases U;cases y with
  |non=>cases J;exact PySem.EqNone.ne_none_none (fq I q (by simp))
  |bl j=>cases J;exact PySem.EqNone.ne_none_bool (fq I q (by simp))
  |int j=>obtain⟨t',rfl⟩:=J;exact PySem.EqNone.ne_none_int (fq I q (by simp))
  |str j=>obtain⟨t',rfl⟩:=J;exact PySem.EqNone.ne_none_str (fq I q (by simp))
  |_=>exact absurd (show false=true from hs) MC
 |bl i=>
  cases U;cases y with
  |non=>cases J;exact PySem.EqNone.ne_bool_none (fq I q (by simp))
  |bl j=>cases J;exact ne_bool (fq I q (Nl not Ac))
  |str j=>obtain⟨t',rfl⟩:=J;exact PySem.EqMixed.ne_bool_str (fq I q (by simp))
  |_=>exact absurd (show false=true from hs) MC
 |int i=>
  obtain⟨t,rfl⟩:=U;cases y with
  |non=>cases J;exact PySem.EqNone.ne_int_none (fq I q (by simp))
  |int j=>obtain⟨t',rfl⟩:=J;exact ne_int (fq I q (Nl not um))
  |str j=>obtain⟨t',rfl⟩:=J;exact PySem.EqMixed.ne_int_str (fq I q (by simp))
  |_=>exact absurd (show false=true from hs) MC
 |str i=>
  obtain⟨t,rfl⟩:=U;cases y with
  |non=>cases J;exact PySem.EqNone.ne_str_none (fq I q (by simp))
  |bl j=>cases J;exact PySem.EqMixed.ne_str_bool (fq I q (by simp))
  |int j=>obtain⟨t',rfl⟩:=J;exact PySem.EqMixed.ne_str_int (fq I q (by simp))
  |str j=>obtain⟨t',rfl⟩:=J;exact ne_str (fq I q (Nl not BO))
  |_=>exact absurd (show false=true from hs) MC
 |byt i=>
  obtain⟨t,rfl⟩:=U;cases y with
  |byt j=>obtain⟨t',rfl⟩:=J;exact W.ne_bytes (fq I q (Nl not yb))
  |_=>exact absurd (show false=true from hs) MC
 |_=>cases y<;>exact absurd (show false=true from hs) MC
theorem kh:fz X (NX .Lt) (lS λi j=> .bl (decide (i<j))):=uw λ_ _ _ _ _ _ _ q=>lt_int q
theorem iL:fz X (NX .Gt) (lS λi j=> .bl (decide (j<i))):=uw λ_ _ _ _ _ _ _ q=>gt_int q
theorem wO:fz X (NX .GtE) (lS λi j=> .bl (decide (j<=i))):=uw λ_ _ _ _ _ _ _ q=>ge_int q
theorem Fw:fz X (NX .In) (λx y H Q=>∃ i j,x= .str i/\y= .str j/\Q (.bl (!(NT j i 0 j.length 1).isEmpty)) H):=by
 intro pins s σ H x y v u Q I J U h;obtain⟨i,j,rfl,rfl,q⟩:=h;obtain⟨t,rfl⟩:=J;obtain⟨t',rfl⟩:=U;exact in_str (fq I q rfl)
theorem dH(b:Nv){op:CmpOp}(h:op≠ .In:=by decide)(h2:op≠ .NotIn:=by decide):OM op b=false:=by
 have I:(op==CmpOp.In)=false:=by cases op<;>first|rfl|exact absurd rfl h
 have J:(op==CmpOp.NotIn)=false:=by cases op<;>first|rfl|exact absurd rfl h2
 cases b<;>simp[OM,I,J]
theorem jq{op:CmpOp}{r:R2}(ho:fz X (NX op) r)(ha:PE X a ta)(hb:PE X b tb)(hm:OM op b=false):PE X (.Compare a [op] [b] pos) (nW r ta tb):=by
 intro pins s σ H Q I h;exact wpAny_Compare1 (we ha hb I h λv u s2 x y H2 J U ry q=>ho pins s2 σ H2 x y v u Q J U ry q) hm
noncomputable def J0(t:TE):TT:=λσ H Q=>t σ H λx H'=>∃ k,x= .bl k/\Q k H'
theorem dU{op:CmpOp}{r:R2}(ho:fz X (NX op) r)(ha:PE X a ta)(hb:PE X b tb)(hm:OM op b=false):PT X (.Compare a [op] [b] pos) (J0 (nW r ta tb)):=by
 intro pins s σ H Q I h;refine wpAny_isTrue_Compare1 (dh (ha pins s σ H _ I h) λv s1 ⟨x,H1,J,U,q1⟩=>dh (hb pins s1 σ H1 _ J q1) λu s2 ⟨y,H2,I2,r2,q2⟩=>
  dh (ho pins s2 σ H2 x y v u _ I2 U r2 q2) λc s3 ⟨z,H3,I3,r3,k,e,q3⟩=>?_) hm;subst e;cases r3;exact Oc ⟨H3,I3,q3⟩
noncomputable def Kb(r r':R2)(ta tb tc:TE):TE:=λσ H Q=>ta σ H λx H1=>tb σ H1 λy H2=>r x y H2 λz I=>∃ k,z= .bl k/\
 (if k=true then tc σ I λJ U=>r' y J U Q else Q (.bl false) I)
theorem K2{op op':CmpOp}{r r':R2}(ho:fz X (NX op) r)(ho':fz X (NX op') r')(ha:PE X a ta)(hb:PE X b tb)(hc:PE X c tc)
  (hm:lastMarks [op,op'] [b,c]=false:=by with_unfolding_all rfl):PE X (.Compare a [op,op'] [b,c] pos) (Kb r r' ta tb tc):=by
 intro pins s σ H Q I h;refine Compare_chain (dh (ha pins s σ H _ I h) λv s1 ⟨x,H1,I1,r1,q1⟩=>chain_link (dh (hb pins s1 σ H1 _ I1 q1) λu s2 ⟨y,H2,I2,J,q2⟩=>
  dh (ho pins s2 σ H2 x y v u _ I2 r1 J q2) λd s3 ⟨z,U,I3,r3,k,e,q3⟩=>?_)) hm;subst e;cases r3;refine Oc ?_;cases k with
 |false=>exact ite_ff ⟨.bl false,U,I3,rfl,q3⟩
 |true=>exact ite_tt (chain_last (dh (hc pins s3 σ U _ I3 q3) λw' s4 ⟨z',H4,I4,r4,q4⟩=>ho' pins s4 σ H4 y z' u w' Q I4 J r4 q4))
theorem nJ:(sizeLine:Nat)<2 ^ 63:=by rw[Mt];decide
theorem kZ:fz X (Qg .Add) (λx y H Q=>∃ i j,x= .str i/\y= .str j/\i.length+j.length<=sizeLine/\Q (.str (i++j)) H):=by
 intro pins s σ H x y v u Q I J U h;obtain⟨i,j,rfl,rfl,hz,q⟩:=h;obtain⟨t,rfl⟩:=J;obtain⟨t',rfl⟩:=U;exact add_str (λt' tk=>⟨.str (i++j),H,I.tok _,⟨_,rfl⟩,q⟩) hz
theorem vals1{x:V}{us:LR LW}(r:Vals [x] us):∃ u,us=[u]/\RelV x u:=by
 cases r with
 |cons I J=>cases J;exact⟨_,rfl,I⟩
theorem vals2{x y:V}{us:LR LW}(r:Vals [x,y] us):∃ u w',us=[u,w']/\RelV x u/\RelV y w':=by
 cases r with
 |cons I J=>
  cases J with
  |cons U r4=>cases r4;exact⟨_,_,rfl,I,U⟩
theorem Hr:gy X (.builtin "ord") (λxs H Q=>∃ x,xs=[.str x]/\x.length=1/\Q (.int (x.cps.getD 0 0:Nat)) H):=by
 intro pins s σ H xs us Q I r h;obtain⟨x,rfl,J,q⟩:=h;obtain⟨u,rfl,t,rfl⟩:=vals1 r;exact ord_of_one J ⟨.int _,H,I.tok _,⟨_,rfl⟩,q⟩
end
structure lN (h : Nn) (x dx C : LS) (mA : Str -> Mc LW) : Prop where
 obj : h.get? x = some (P7 C dx)
 ns : h.Ns1 dx mA
 ne : dx ≠ x
theorem JU{h:Nn}{dx:LS}{mA:Str->Mc LW}(n:h.Ns1 dx mA):∃ od,h.get? dx=some od/\∀ name,W.lookIn name od=some (mA name):=by
 obtain⟨o,es,ep,J,hd,hk,_,hm⟩:=n;refine⟨o,J,λname=>?_⟩;have e:=hm name;unfold nsFind findBy at e;rw[<-Array.find?_toList] at e;unfold W.lookIn;rw[hd];dsimp only;split
 ·rename_i y q;rw[q] at e;exact Nl some e
 ·rename_i q;rw[q] at e;have a:es.toList.any (·.refKey)=false:=by
   rw[List.any_eq_false];intro y U;obtain⟨z,t,I⟩:=hk y (Array.mem_toList_iff.mp U);simp[DictEntry.refKey,I]
  have a':¬ es.toList.any (·.refKey)=true:=by rw[a];exact MC
  rw[LX a'];exact Nl some e
theorem lN.look {h:Nn}{x dx C:LS}{mA:Str->Mc LW}(I:lN h x dx C mA):∃ od,W.InstAt h x (P7 C dx) C (some od)/\∀ name,W.lookIn name od=some (mA name):=
 let ⟨od,ho,hl⟩:=JU I.ns
 ⟨od,⟨I.obj,rfl,rfl,ho⟩,hl⟩
section
variable {prog : Mq} {w : MT} {A : Np} {E : LW -> Me -> Prop} {s : Me} {K : Mz} {x dx C f : LS} {mA : Str -> Mc LW} {name : Str} {v : LW}
theorem get_map{expr:Nw}{Q:LW->Me->Prop}(X:K.In s.heap)(I:lN s.heap x dx C mA)(hg:QL K C name=true)(hh:QY K C=true)
  (ha:MU K (.ref C) name=some none)(hv:mA name=some v)(hv':W.handedIn v=true)(h:Q v {s with toks:=s.toks+1}):
  MD (My prog w) A (getAttr (.ref x) name expr) Q E s:=by
 obtain⟨U,J,hl⟩:=I.look;exact W.get_value X J (W.plainGet_of hg).1 (W.findObj_own hh ha rfl (by rw[hl,hv])) hv' h
theorem EA{pl:Sem Nw}{Q:LW×LR LW->Me->Prop}(X:K.In s.heap)(I:lN s.heap x dx C mA)(hg:QL K C name=true)
  (hf:MU K (.ref C) name=some (some (.ref f)))(ht:Oy K (.ref f)=true)(hv:mA name=none)(h:Q (.ref f,[.ref x]) s):
  MD (My prog w) A (RI (.ref x) name pl) Q E s:=by
 obtain⟨U,J,hl⟩:=I.look;exact W.method_fn X J (W.plainGet_of hg).1 (W.plainGet_of hg).2 hf (beq_iff_eq.mp ht) (by show(W.lookIn name U).map (·.isSome)=some false;rw[hl,hv];rfl) h
theorem C4{ns:LR Str}{Q:Unit->Me->Prop}(X:K.In s.heap)(I:lN s.heap x dx C mA)
  (hs:MU K (.ref C) "__setattr__"=some (some (.builtin "object.__setattr__")))(hp:RC K C=true)(ht:W.takerIn K C name=some none)(hh:QY K C=true)
  (hw:PySem.Within mA ns)(hsz:ns.length<=sizeLine)
  (h:∀ h',lN h' x dx C (λy=>if y=name then some v else mA y)->Po dx s.heap h'->Q () {s with heap:=h',toks:=s.toks+2}):
  MD (My prog w) A (setAttr (.ref x) name v) Q E s:=by
 obtain⟨od,J,hl⟩:=I.look;refine W.set_plain X J hs (W.osa_open (s:={s with toks:=s.toks+1}) (r:=none) X J hp ht λb=>?_);obtain⟨cd,hc,ab⟩:=W.any_some hh;have hx:s.heap.get? x=some ⟨.ref C,some dx,.plain,#[]⟩:=I.obj;refine Mn (Nf (Mn (Mn (wpAny_loadPart hx (Mn (W.Looks.here (s:={s with toks:=s.toks+1}) (W.looks_clsIn X hc) ?_))))));rw[ab];refine Nf (a:=some dx) (Mn (Nf (Mn ?_)));refine wpAny_nsSet1 (s:={s with toks:=s.toks+1}) I.ns λh' U aa=>?_
 obtain⟨oD,ah,ai,ae,af,ag⟩:=U.count (PySem.Within.cons name v hw);refine Mn (wpAny_lookBehind ae (by rw[af];exact pastItsLine_dict (Mr ag (by rw[Ms];lia))) ?_);exact Nf (h _ ⟨(aa.2 _ (Nt I.ne)).trans I.obj,U,I.ne⟩ aa)
theorem LB{R:Result->Me->Prop}{vs:LR LW}{kw:LR (Str×LW)}(X:K.In s.heap)(hm:W.makesIn K C=true)
  (hi:MU K (.ref C) "__init__"=some (some (.ref f)))(hf:W.typeIn K (.ref f)=some (.type "function"))
  (h:QE (My prog w) (A.under (.builtin "type.__call__" ⟨.ref C::vs,kw⟩)) (.call (.ref f) ⟨.ref (s.heap.objs.size+1)::vs,kw⟩) (W.InitBack (s.heap.objs.size+1) R)
   {s with heap:=(s.heap.push OX).push (P7 C s.heap.objs.size)}):
  QE (My prog w) A (.call (.ref C) ⟨vs,kw⟩) R s:=by
 obtain⟨I,g,d,t,os⟩:=s;exact W.make_core (W.makes_of X hm) (W.looks_findIn X hi) (λself=>W.bind_fn X self hf) (.inl rfl) h
end
noncomputable def dM(f:Str)(v:V):LR (Str×V)->LR (Str×V)
 |[]=>[(f,v)]
 |(g,x)::r=>if g=f then (g,v)::r else (g,x)::dM f v r
theorem fR(f g:Str)(v:V):∀ fs:LR (Str×V),(dM f v fs).lookup g=if g=f then some v else fs.lookup g
 |[]=>by
  show OY g [(f,v)]=_;by_cases h:g=f
  ·have hb:(g==f)=true:=beq_iff_eq.mpr h;simp only[OY,hb,LZ h]
  ·have hb:(g==f)=false:=beq_eq_false_iff_ne.mpr h;simp only[OY,hb,LX h]
 |(k,x)::r=>by
  have I:=fR f g v r;rw[show dM f v ((k,x)::r)=(if k=f then (k,v)::r else (k,x)::dM f v r) from rfl];by_cases hk:k=f
  ·rw[LZ hk];by_cases h:g=k
   ·have hb:(g==k)=true:=beq_iff_eq.mpr h;simp only[OY,hb,LZ (h.trans hk)]
   ·have hb:(g==k)=false:=beq_eq_false_iff_ne.mpr h;simp only[OY,hb,LX (λe:g=f=>h (e.trans hk.symm))]
  ·rw[LX hk];by_cases h:g=k
   ·have hb:(g==k)=true:=beq_iff_eq.mpr h;simp only[OY,hb,LX (λe:g=f=>hk (h.symm.trans e))]
   ·have hb:(g==k)=false:=beq_eq_false_iff_ne.mpr h;simp only[OY,hb];exact I
theorem wR(f:Str)(v:V):∀ fs:LR (Str×V),f∈(dM f v fs).map (·.1)/\∀ g,g∈fs.map (·.1)->g∈(dM f v fs).map (·.1)
 |[]=>⟨by simp[dM],λg h=>by simp at h⟩
 |(k,x)::r=>by
  obtain⟨I,J⟩:=wR f v r;rw[show dM f v ((k,x)::r)=(if k=f then (k,v)::r else (k,x)::dM f v r) from rfl];by_cases hk:k=f
  ·rw[LZ hk];subst hk;exact⟨by simp,λg h=>by simpa using h⟩
  ·rw[LX hk];refine⟨?_,λg h=>?_⟩
   ·rw[Nb];exact Mg _ I
   ·rw[Nb] at h ⊢;rcases List.mem_cons.mp h with e|e
    ·exact List.mem_cons.mpr (.inl e)
    ·exact Mg _ (J g e)
theorem Ay(f:Str)(v:V):∀ fs:LR (Str×V),(dM f v fs).length<=fs.length+1
 |[]=>by simp[dM]
 |(k,x)::r=>by
  have I:=Ay f v r;rw[show dM f v ((k,x)::r)=(if k=f then (k,v)::r else (k,x)::dM f v r) from rfl];by_cases hk:k=f
  ·rw[LZ hk,Ms,Ms];lia
  ·rw[LX hk,Ms,Ms];lia
theorem gF.some_of {v:V}{o:Mc LW}(r:gF (some v) o):∃ u,o=some u/\RelV v u:=by
 cases o with
 |none=>exact(show Om from r).elim
 |some u=>exact⟨u,rfl,r⟩
theorem gF.none_of {o:Mc LW}(r:gF none o):o=none:=by
 cases o with
 |none=>rfl
 |some u=>exact(show Om from r).elim
theorem LJ{v:V}{u:LW}(r:RelV v u):W.handedIn u=true:=by
 cases v with
 |non=>cases (show u=Oo from r);rfl
 |bl b=>cases (show u=Rl b from r);rfl
 |int i=>obtain⟨t,e⟩:=(show ∃ t,u=PH i t from r);cases e;rfl
 |str x=>obtain⟨t,e⟩:=(show ∃ t,u=PJ x t from r);cases e;rfl
 |byt b=>obtain⟨t,e⟩:=(show ∃ t,u=Value.bytes b t from r);cases e;rfl
 |flt b=>obtain⟨t,e⟩:=(show ∃ t,u=Value.float b t from r);cases e;rfl
 |ref a=>cases (show u=ME a from r);rfl
 |ty n=>cases (show u=Value.type n from r);rfl
section
variable {P : Mq} {w : MT} {H H' : Hp} {h h' : Nn} {a C dx : LS} {fs fs' : LR (Str × V)}
theorem qX(hok:eS P w H h)(e:H a=some (.ins C dx fs)):∃ mA,lN h a dx C mA/\(∀ f,gF (fs.lookup f) (mA f))/\PySem.Within mA (fs.map (·.1))/\fs.length<=1000/\H dx=some (.own a):=by
 obtain⟨d,z,ne,I,mA,n,r,q⟩:=(show eC P w H h a (.ins C dx fs) from hok a _ e);exact⟨mA,⟨I,n,ne⟩,r,q,z,d⟩
end
structure iG (K : Mm) (C : LS) : Prop where
 pg : QL K C NU = true
 hd : QY K C = true
 po : RC K C = true
 sa : MU K (.ref C) "__setattr__" = some (some (.builtin "object.__setattr__"))
theorem iG.get {K:Mm}{C:LS}(c:iG K C)(f:Str):QL K C f=true:=c.pg
noncomputable def ja(K:Mm)(C:LS)(f:Str):Prop:=MU K (.ref C) f=some none
theorem ja.taker {K:Mm}{C:LS}{f:Str}(n:ja K C f):W.takerIn K C f=some none:=by
 unfold W.takerIn;rw[show MU K (.ref C) f=some none from n];rfl
structure Meth (K : Mm) (C : LS) (m : Str) (f : LS) : Prop where
 at_ : MU K (.ref C) m = some (some (.ref f))
 fn : Oy K (.ref f) = true
 kp : Nx K (.ref f) = true
section
variable {X : Cx} {pins : LR (LS × Obj)} {σ : St} {H : Hp} {s : Me} {a C dx : LS} {fs : LR (Str × V)} {f : Str} {v : V} {A : Np} {E : LW -> Me -> Prop}
theorem E6{b:Nw}{Q:LW->Me->Prop}(I:Inv X pins σ H s)(e:H a=some (.ins C dx fs))(c:iG X.K C)(n:ja X.K C f)(l:fs.lookup f=some v)
  (h:∀ u s',Inv X pins σ H s'->RelV v u->Q u s'):MD (My X.prog X.w) A (getAttr (.ref a) f b) Q E s:=by
 obtain⟨mA,O,r,_,_,_⟩:=qX I.hok e;obtain⟨u,U,J⟩:=gF.some_of (v:=v) (o:=mA f) (by rw[<-l];exact r f);exact get_map I.kIn O (c.get f) c.hd n U (LJ J) (h u _ (I.tok _) J)
theorem wC{m:Str}{g:LS}{pl:Sem Nw}{Q:LW×LR LW->Me->Prop}(I:Inv X pins σ H s)(e:H a=some (.ins C dx fs))(c:iG X.K C)(k:Meth X.K C m g)(l:fs.lookup m=none)
  (h:Q (.ref g,[.ref a]) s):MD (My X.prog X.w) A (RI (.ref a) m pl) Q E s:=by
 obtain⟨mA,O,r,_,_,_⟩:=qX I.hok e;have hn:mA m=none:=gF.none_of (by rw[<-l];exact r m);exact EA I.kIn O (c.get m) k.at_ k.fn hn h
theorem Gi{y:V}{u:LW}{Q:Unit->Me->Prop}(I:Inv X pins σ H s)(e:H a=some (.ins C dx fs))(c:iG X.K C)(n:ja X.K C f)(hl:fs.length<1000)(ry:RelV y u)
  (h:∀ s',Inv X pins σ (upd H a (.ins C dx (dM f y fs))) s'->Q () s'):MD (My X.prog X.w) A (setAttr (.ref a) f u) Q E s:=by
 obtain⟨mA,O,r,U,_,ho⟩:=qX I.hok e;have hz:(fs.map (·.1)).length<=sizeLine:=by rw[LV,Mt];lia
 refine C4 I.kIn O c.sa c.po n.taker c.hd U hz λh' J sb=>h _ ?_
 have hd:∃ o,h'.get? dx=some o:=let ⟨o,_,_,e',_⟩:=J.ns;⟨o,e'⟩;refine I.write (x:=a) (e:=dx) (by rw[e];exact Oq) (.inr ho) (λb q hb z=>(sb.2 b hb).trans z) hd ?_;refine⟨by rw[cW O.ne];exact ho,?_,O.ne,J.obj,_,J.ns,λg=>?_,λg hg=>?_⟩
 ·have:=Ay f y fs;lia
 ·show gF ((dM f y fs).lookup g) (if g=f then some u else mA g);rw[fR];by_cases q:g=f
  ·rw[LZ q,LZ q];exact ry
  ·rw[LX q,LX q];exact r g
 ·by_cases q:g=f
  ·rw[q];exact(wR f y fs).1
  ·refine(wR f y fs).2 g (U g λz=>hg ?_);show(if g=f then some u else mA g)=none;rw[LX q];exact z
theorem Inv.made (I:Inv X pins σ H s):Inv X pins σ (upd (upd H s.heap.objs.size (.own (s.heap.objs.size+1))) (s.heap.objs.size+1) (.ins C s.heap.objs.size []))
  {s with heap:=(s.heap.push OX).push (P7 C s.heap.objs.size)}:=by
 have J:(s.heap.push OX).get? s.heap.objs.size=some OX:=Heap.get?_push_size s.heap rfl
 have U:((s.heap.push OX).push (P7 C s.heap.objs.size)).get? (s.heap.objs.size+1)=some (P7 C s.heap.objs.size):=by
  have:=Heap.get?_push_size (s.heap.push OX) (o:=P7 C s.heap.objs.size) rfl
  rwa [Pj] at this
 have e3:(s.heap.push OX).Ns s.heap.objs.size (λ_=>none):=⟨OX,#[],_,J,rfl,(λe he=>absurd he (by simp)),λ_=>rfl⟩
 have I1:=I.laid (a:=s.heap.objs.size) (o:= .own (s.heap.objs.size+1)) (h':=s.heap.push OX) (t':=s.toks) (λb u q=>Heap.get?_push_of_some _ q) (Ma _) ⟨_,J⟩;refine I1.laid (a:=s.heap.objs.size+1) (o:= .ins C s.heap.objs.size []) (t':=s.toks) (λb u q=>Heap.get?_push_of_some _ q) (Nat.le_of_eq (Pj _ _)) ?_;have ne:s.heap.objs.size≠s.heap.objs.size+1:=MV (OT _);refine⟨by rw[cW ne,cT],MM _,ne,U,λ_=>none,(Heap.Ns1.of_empty e3).at λo q=>Heap.get?_push_of_some _ q,λ_=>Oq,λy hy=>absurd rfl hy⟩
theorem KJ{prog:Mq}{w:MT}{env:Env}{e:Nv}{f:Str}{pos:Pos}{s:Me}{Q:LW->Me->Prop}(hb:OB e f env (eval e env)=eval e env)
  (h:MD (My prog w) A (eval e env) (λo s₁=>MD (My prog w) A (getAttr o f true) Q E s₁) E s):MD (My prog w) A (eval (.Attribute e f pos) env) Q E s:=
 Attribute_any_ h (by rw[arm_eval_Attribute,hb])
end
noncomputable def vR(K:Mm)(ta:TE)(f:Str):TE:=λσ H Q=>ta σ H λx H1=>∃ a C dx fs v,x= .ref a/\H1 a=some (.ins C dx fs)/\iG K C/\ja K C f/\fs.lookup f=some v/\Q v H1
noncomputable def BI(K:Mm)(ta tv:TE)(f:Str):TS:=λD σ H=>tv σ H λy H1=>ta σ H1 λx H2=>∃ a C dx fs,x= .ref a/\H2 a=some (.ins C dx fs)/\iG K C/\ja K C f/\fs.length<1000/\
 D.nx σ (upd H2 a (.ins C dx (dM f y fs)))
section
variable {X : Cx} {o e value : Nv} {f : Str} {pos pos' tpos : Pos} {ta tv : TE}
theorem gm(he:PE X e ta)(hb:OB e f X.env (eval e X.env)=eval e X.env):PE X (.Attribute e f pos) (vR X.K ta f):=by
 intro pins s σ H Q I h;refine KJ hb (dh (he pins s σ H _ I h) λu s1 ⟨x,H1,J,U,a,C,dx,fs,v,ex,ea,c,n,l,q⟩=>?_);subst ex;obtain rfl:u=ME a:=U;exact E6 J ea c n l λu' s2 I2 ru=>⟨v,H1,I2,ru,q⟩
theorem kg(ha:PE X o ta)(hv:PE X value tv)(hs:RH value (some (.Attribute o f pos')) pos.line X.env=pure false):PS X (.Assign [.Attribute o f pos'] value pos) (BI X.K ta tv f):=by
 intro pins s σ H D I h;refine plainObj_wpAny_Assign_Attribute (dh (hv pins s σ H _ I h) λu s1 ⟨y,H1,J,U,q⟩=>dh (ha pins s1 σ H1 _ J q) λov s2 ⟨x,H2,I2,rx,a,C,dx,fs,ex,ea,c,n,l,q2⟩=>?_) hs;subst ex;obtain rfl:ov=ME a:=rx;exact Gi I2 ea c n l U λs3 I3=>⟨σ,_,I3,q2⟩
end
section
variable {X : Cx} {pins : LR (LS × Obj)} {σ : St} {H : Hp} {s : Me} {A : Np} {E : LW -> Me -> Prop} {Q : LW -> Me -> Prop} {c : LW} {b : Nw}
inductive fO (K : Mm) (H : Hp) : V -> LW -> Prop where
 |non : fO K H .non (.type "NoneType")
 |bl (x : Nw) : fO K H (.bl x) (.type "bool")
 |int (i : Int) : fO K H (.int i) (.type "int")
 |str (x : Str) : fO K H (.str x) (.type "str")
 |flt (x : UInt64) : fO K H (.flt x) (.type "float")
 |lst {a : LS} {xs : LR V} (e : H a = some (.lst xs)) : fO K H (.ref a) (.type "list")
 |frz {a : LS} {o : Obj} {xs : LR V} (e : H a = some (.frz o (.lst xs))) : fO K H (.ref a) (.type "list")
 |tup {a : LS} {xs : LR V} (e : H a = some (.tup xs)) : fO K H (.ref a) (.type "tuple")
 |dK {a : LS} {kvs : LR (Key × V)} (e : H a = some (.dK kvs)) : fO K H (.ref a) (.type "dict")
 |dT {a : LS} {kvs : LR (LR Key × V)} (e : H a = some (.dT kvs)) : fO K H (.ref a) (.type "dict")
 |ins {a C dx : LS} {fs : LR (Str × V)} (e : H a = some (.ins C dx fs)) (cl : iG K C) (ha : MU K (.ref C) "__class__" = some (some (.builtin "object.__class__")))
   (hn : W.specialIn K (.builtin "object.__class__") "__get__" = some (some (.builtin "getset_descriptor.__get__"))) (htk : W.takesIn K (.builtin "object.__class__") = some true)
   (hm : QZ K C (.type "object") = some true) : fO K H (.ref a) (.ref C)
theorem zj{x:V}{u t:LW}(I:Inv X pins σ H s)(rx:RelV x u)(ty:fO X.K H x t)(e:Ng X.K t c=some b)(h:∀ tk,Q (.bool b) {s with toks:=tk}):
  MD (My X.prog X.w) A (call (.builtin "isinstance") [u,c]) Q E s:=by
 cases ty with
 |non=>cases (show u=Oo from rx);exact OJ W.kitx_none I.kIn Oq e (λz=>nomatch z) h
 |bl y=>cases (show u=Rl y from rx);exact OJ W.kitx_bool I.kIn Oq e (λz=>nomatch z) h
 |int i=>obtain⟨t,q⟩:=(show ∃ t,u=PH i t from rx);cases q;exact OJ W.kitx_int I.kIn Oq e (λz=>nomatch z) h
 |str y=>obtain⟨t,q⟩:=(show ∃ t,u=PJ y t from rx);cases q;exact OJ W.kitx_str I.kIn Oq e (λz=>nomatch z) h
 |flt y=>obtain⟨t,q⟩:=(show ∃ t,u=Value.float y t from rx);cases q;exact OJ W.kitx_float I.kIn Oq e (λz=>nomatch z) h
 | @lst a xs U=>
  cases (show u=ME a from rx);obtain⟨_,_,n,_,h1⟩:=(show eC X.prog X.w H s.heap a (.lst xs) from I.hok a _ U);exact OJ W.kitx_list I.kIn ⟨_,h1,rfl⟩ e (λz=>nomatch z) h
 | @frz a ob xs U=>
  cases (show u=ME a from rx);obtain⟨_,_,_,n,_,h1⟩:=(show eC X.prog X.w H s.heap a (.frz ob (.lst xs)) from I.hok a _ U);exact OJ W.kitx_list I.kIn ⟨_,h1,rfl⟩ e (λz=>nomatch z) h
 | @tup a xs U=>
  cases (show u=ME a from rx);obtain⟨_,_,_,p⟩:=(show eC X.prog X.w H s.heap a (.tup xs) from I.hok a _ U);obtain⟨o,h1,h2,_⟩:=p;exact OJ W.kitx_tuple I.kIn ⟨o,h1,h2⟩ e (λz=>nomatch z) h
 | @dK a kvs U=>
  cases (show u=ME a from rx);obtain⟨_,_,vs,_,p⟩:=(show eC X.prog X.w H s.heap a (.dK kvs) from I.hok a _ U);obtain⟨o,es,ep,h1,h2,_⟩:=p;exact OJ W.kitx_dict I.kIn ⟨o,h1,h2.1⟩ e (λz=>nomatch z) h
 | @dT a kvs U=>
  cases (show u=ME a from rx);obtain⟨_,_,xs,_,o,es,ep,h1,h2,_⟩:=(show eC X.prog X.w H s.heap a (.dT kvs) from I.hok a _ U);exact OJ W.kitx_dict I.kIn ⟨o,h1,h2.1⟩ e (λz=>nomatch z) h
 | @ins a C dx fs U cl ha hn aa hm=>
  cases (show u=ME a from rx);obtain⟨mA,O,_⟩:=qX I.hok U;obtain⟨od,J,_⟩:=O.look;exact OJ (W.kitx_own (cl.get _) cl.hd ha hn aa hm) I.kIn J e (λz=>nomatch z) h
end
structure eK (k : Nat) (A : Np) : Prop where
 hd : A.handled = none
 dp : A.depth+3*k+5<QM
 un : A.units+16*k+200<PR
 gd : A.guards = some []
theorem eK.mono {j k:Nat}{A:Np}(r:eK k A)(h:j<=k):eK j A:=⟨r.hd,by have:=r.dp;lia,by have:=r.un;lia,r.gd⟩
theorem eK.deeper {k:Nat}{A:Np}(r:eK (k+1) A)(env:Env):eK k (A.deeper env):=
 ⟨r.hd,by have:=r.dp;show A.depth+1+3*k+5<_;lia,by have:=r.un;show A.units+3+16*k+200<_;lia,r.gd⟩
theorem Lw{A:Np}{C:LS}{us:LR LW}{kw:LR (Str×LW)}:(A.under (.builtin "type.__call__" ⟨.ref C::us,kw⟩)).depth=A.depth+1:=by
 first|rfl|simp[Rn,Code.weight,Code.isCreation,Code.isGuard,Code.isCaller,Code.frames,Code.isFrame,guardIds]
theorem D6{A:Np}{C:LS}{us:LR LW}{kw:LR (Str×LW)}:(A.under (.builtin "type.__call__" ⟨.ref C::us,kw⟩)).units=A.units+1:=by
 first|rfl|simp[Rn,Code.cUnits,Code.frames,Code.isFrame]
theorem CQ{A:Np}{C:LS}{us:LR LW}{kw:LR (Str×LW)}:(A.under (.builtin "type.__call__" ⟨.ref C::us,kw⟩)).guards=A.guards:=by
 cases h:A.guards<;>simp[Rn,Code.guards,pushGuards,Code.isGuard,guardIds,h]
theorem eK.make {k:Nat}{A:Np}(r:eK (k+1) A)(C:LS)(us:LR LW)(kw:LR (Str×LW)):eK k (A.under (.builtin "type.__call__" ⟨.ref C::us,kw⟩)):=
 ⟨r.hd,by have:=r.dp;rw[Lw];lia,by have:=r.un;rw[D6];lia,by rw[CQ];exact r.gd⟩
theorem eK.depth {k:Nat}{A:Np}(r:eK k A):A.depth<QM:=by have:=r.dp;lia
theorem eK.units {k:Nat}{A:Np}(r:eK k A):A.units+64<PR:=by have:=r.un;lia
noncomputable def jB:TA:=λ_ H Q=>Q [] H
noncomputable def mE(ta:TE)(tr:TA):TA:=λσ H Q=>ta σ H λx H1=>tr σ H1 λxs H2=>Q (x::xs) H2
section
variable {X : Cx} {e : Nv} {es : LR Nv} {te : TE} {t : TA} {pos : Pos}
theorem cQ:PA X [] jB:=λ_ _ _ _ H Q I h=>Q0 ⟨[],H,I,.nil,h⟩
theorem cP(ha:PE X e te)(hr:PA X es t)(hs:Ni (e::es) X.env=(false,eval e X.env)::Ni es X.env:=by rfl):PA X (e::es) (mE te t):=by
 intro pos pins s σ H Q I h;rw[hs];show MD _ _ (spliced ((false,eval e X.env)::Pb pos (Ni es X.env))) _ _ s;refine QN (dh (ha pins s σ H _ I h) λu s1 ⟨x,H1,J,U,q1⟩=>?_);exact dh (hr pos pins s1 σ H1 _ J q1) λus s2 ⟨xs,H2,I2,r2,q2⟩=>⟨x::xs,H2,I2,.cons U r2,q2⟩
noncomputable def IY(t:TA):TE:=λσ H Q=>t σ H λxs H1=>xs.length<=sizeLine/\∀ p,H1 p=none->Q (.ref p) (upd H1 p (.tup xs))
noncomputable def rW(t:TA):TE:=λσ H Q=>t σ H λxs H1=>xs.length<=sizeLine/\∀ p,H1 p=none->Q (.ref p) (upd H1 p (.lst xs))
theorem ip{x1}(h:PA X es t):PE X (.Tuple es x1 pos) (IY t):=by
 intro pins s σ H Q I U;refine wpAny_Tuple_spliced (dh (h pos pins s σ H _ I U) λus s1 ⟨xs,H1,J,r,z,q⟩=>⟨by rw[<-r.length];exact z,?_⟩);have hf:H1 s1.heap.objs.size=none:=J.hok.fresh (Ma _);refine⟨.ref s1.heap.objs.size,upd H1 s1.heap.objs.size (.tup xs),J.laid (t':=s1.toks) (λb u e=>Heap.get?_push_of_some _ e) (Ma _) ?_,rfl,q _ hf⟩;exact⟨z,us,r,⟨_,Heap.get?_push_size _ rfl,rfl,_,rfl⟩⟩
theorem dZ(h:PA X es t):PE X (.List es pos) (rW t):=by
 intro pins s σ H Q I U;refine wpAny_List_spliced (dh (h pos pins s σ H _ I U) λus s1 ⟨xs,H1,J,r,z,q⟩=>⟨by rw[<-r.length];exact z,?_⟩);have hf:H1 s1.heap.objs.size=none:=J.hok.fresh (Ma _);refine⟨.ref s1.heap.objs.size,upd H1 s1.heap.objs.size (.lst xs),J.laid (t':=s1.toks) (λb u e=>Heap.get?_push_of_some _ e) (Ma _) ?_,rfl,q _ hf⟩;exact⟨z,us,0,r,Heap.get?_push_size _ rfl⟩
end
noncomputable abbrev Sp:=LR V->Hp->VK->XK->Prop
noncomputable abbrev iq:=LR Env->Hp->Me->XK->LW->Me->Prop
structure jU (P : Mq) (w : MT) (K : Mm) (mg : Str -> Mc LW) (base : Nn) (A : Np) (outer : LR Env) (s : Me) (H : Hp) : Prop where
 frames : A.frames = some outer
 mod : Mod K mg base
 bs : ∀ b o, base.get? b = some o -> s.heap.get? b = some o /\ H b = none
 bsz : base.objs.size<=s.heap.objs.size
 funs : s.heap.FunFrames base outer
 frf : ∀ b ∈ eE outer, H b = none
 hok : eS P w H s.heap
 bare : QB s.gens
noncomputable def CE(outer:LR Env)(P:Mq)(w:MT)(H:Hp)(s:Me)(Q:VK)(u:LW)(s':Me):Prop:=
 ∃ v H',s'.os=s.os/\QB s'.gens/\Un (eE outer) [] H H' s.heap s'.heap/\eS P w H' s'.heap/\RelV v u/\Q v H'
noncomputable def CR(CX:iq)(outer:LR Env)(P:Mq)(w:MT)(H:Hp)(s:Me)(Q:VK)(E:XK)(r:Result)(s':Me):Prop:=
 match r with
 |.ok (.ret u)=>CE outer P w H s Q u s'
 |.ok _=>Om
 |.error e=>CX outer H s E e s'
structure cV (P : Mq) (w : MT) (K : Mm) (mg : Str -> Mc LW) (base : Nn) (CX : iq) (k : Nat) (f : LS) (fd : Mj) (ps : LR Str) (sp : Sp) : Prop where
 len : ∀ vs H Q E, sp vs H Q E -> vs.length = ps.length
 run : ∀ (A : Np) (outer : LR Env) (s : Me) (H : Hp) (args : Args) (us : LR LW) (vs : LR V) (Q : VK) (E : XK), eK k A -> jU P w K mg base A outer s H -> RJ s fd args (ps.zip us) -> Vals vs us -> sp vs H Q E ->
  QE (My P w) A (.call (.ref f) args) (CR CX outer P w H s Q E) s
theorem cV.mono {P:Mq}{w:MT}{K:Mm}{mg:Str->Mc LW}{base:Nn}{CX:iq}{j k:Nat}{f:LS}{fd:Mj}{ps:LR Str}{sp:Sp}(F:cV P w K mg base CX j f fd ps sp)(h:j<=k):
  cV P w K mg base CX k f fd ps sp:=⟨F.len,λA outer s H args us vs Q E I=>F.run A outer s H args us vs Q E (I.mono h)⟩
theorem jU.make {P:Mq}{w:MT}{K:Mm}{mg:Str->Mc LW}{base:Nn}{A:Np}{outer:LR Env}{s:Me}{H:Hp}(e:jU P w K mg base A outer s H)(C:LS)(us:LR LW)(kw:LR (Str×LW)):
  jU P w K mg base (A.under (.builtin "type.__call__" ⟨.ref C::us,kw⟩)) outer s H:=⟨by first|exact e.frames|(simpa[Rn,Code.envs,Code.isFrame,pushEnvs] using e.frames),e.mod,e.bs,e.bsz,e.funs,e.frf,e.hok,e.bare⟩
section
variable {X : Cx} {pins : LR (LS × Obj)} {σ : St} {H : Hp} {s s' : Me}
theorem Inv.env0 (I:Inv X pins σ H s):jU X.prog X.w X.K X.mg X.base X.A X.stack s H:=
 ⟨I.ok.frames,I.ok.mod,I.bs,Mr I.ok.bsz I.sz,I.stack,I.stkFree,I.hok,I.bare⟩
theorem Inv.after {Q:VK}{u:LW}(I:Inv X pins σ H s)(h:CE X.stack X.prog X.w H s Q u s'):EP X pins σ Q u s':=by
 obtain⟨v,H',os,bare,un,hok,r,q⟩:=h;obtain⟨U,g,d,t,J⟩:=s';obtain rfl:J=s.os:=os;exact⟨v,H',I.call (h':=U) (g':=g) (d':=d) (t':=t) (ch:=[]) un hok bare (λb z=>absurd z (by simp)),r,q⟩
end
noncomputable def AF(sp:Sp)(dvs:LR V)(E:XK)(t:TA):TE:=λσ H Q=>t σ H λvs H1=>sp (vs++dvs) H1 Q E
noncomputable def yc(C:LS)(m:Str)(sp:Sp)(dvs:LR V)(E:XK)(ta:TE)(t:TA):TE:=λσ H Q=>ta σ H λx H1=>∃ a dx fs,x= .ref a/\H1 a=some (.ins C dx fs)/\fs.lookup m=none/\
 t σ H1 λvs H2=>sp (x::(vs++dvs)) H2 Q E
noncomputable def zf(C:LS)(sp:Sp)(dvs:LR V)(E:XK)(t:TA):TE:=λσ H Q=>t σ H λvs H1=>∀ x dx,H1 x=none->H1 dx=none->dx≠x->
 sp (.ref x::(vs++dvs)) (upd (upd H1 dx (.own x)) x (.ins C dx [])) (λv H2=>v= .non/\Q (.ref x) H2) E
noncomputable def Binds(K:Mm)(fd:Mj)(ps:LR Str)(ds:LR LW):Prop:=
 ∀(s:Me) (us:LR LW),K.In s.heap->(us++ds).length=ps.length->RJ s fd ⟨us,[]⟩ (ps.zip (us++ds))
theorem Binds.all {K:Mm}{fd:Mj}{ps:LR Str}(h:∀ us:LR LW,us.length=ps.length->RM fd ⟨us,[]⟩=pure (ps.zip us)):Binds K fd ps []:=λs us _ hl=>by
 rw[MR] at hl ⊢;exact .of_eq (h us hl)
noncomputable def Passes(CX:iq)(X:Cx)(E:XK):Prop:=∀(pins:LR (LS×Obj)) (σ:St) (H:Hp) (s:Me) (e:LW) (s':Me),Inv X pins σ H s->CX X.stack H s E e s'->X.xe e s'
section
variable {X : Cx} {CX : iq} {k : Nat} {f C : LS} {fd : Mj} {ps : LR Str} {sp : Sp} {dvs : LR V} {ds : LR LW} {E : XK} {x m : Str} {p pos apos : Pos} {e o : Nv} {es : LR Nv} {ta : TE} {t : TA}
theorem t8{pins:LR (LS×Obj)}{σ:St}{H:Hp}{s:Me}{Q:VK}{us:LR LW}{vs:LR V}(F:cV X.prog X.w X.K X.mg X.base CX k f fd ps sp)(hr:eK k X.A)(hb:Binds X.K fd ps ds)(hd:Vals dvs ds)(hx:Passes CX X E)
  (I:Inv X pins σ H s)(r:Vals vs us)(h:sp (vs++dvs) H Q E):MD (My X.prog X.w) X.A (call (.ref f) us) (EP X pins σ Q) X.xe s:=by
 have U:Vals (vs++dvs) (us++ds):=r.append hd
 have hl:(us++ds).length=ps.length:=by rw[<-U.length];exact F.len _ _ _ _ h
 refine QO (PU (F.run X.A X.stack s H ⟨us,[]⟩ (us++ds) (vs++dvs) Q E hr I.env0 (hb s us I.kIn hl) U h) λr s' J=>?_);cases r with
 |error e=>exact hx pins σ H s e s' I J
 |ok fl=>
  cases fl with
  |ret u=>exact I.after J
  |next=>exact Nu J
  |brk=>exact Nu J
  |cont=>exact Nu J
theorem dw(F:cV X.prog X.w X.K X.mg X.base CX k f fd ps sp)(hr:eK k X.A)(hg:Gl X x)(hm:X.mg x=some (.ref f))(hk:Nx X.K (.ref f)=true)(hb:Binds X.K fd ps ds)(hd:Vals dvs ds)(hx:Passes CX X E)
  (ha:PA X (e::es) t)(hdb:(x==("__debug__":Str))=false:=by decide)(he:Ni (e::es) X.env=(false,eval e X.env)::Ni es X.env:=by rfl)(hpl:(Pb pos (Ni es X.env)).any (·.1)=false:=by rfl):
  PE X (.Call (.Name x p) (e::es) [] pos) (AF sp dvs E t):=by
 intro pins s σ H Q I h;refine Of (lb I hg hm ?_ hdb);refine QF (h₀:=X.base) I.ok.mod.kin hk (dh (ha pos pins s σ H _ I h) λus s1 ⟨vs,H1,J,r,q⟩=>⟨J.kIn,?_⟩) he hpl;exact t8 F hr hb hd hx J r q
theorem gU{pl:Sem Nw}(he:PE X o ta)(c:iG X.K C)(hm:Meth X.K C m f)(F:cV X.prog X.w X.K X.mg X.base CX k f fd ps sp)(hr:eK k X.A)(hb:Binds X.K fd ps ds)(hd:Vals dvs ds)(hx:Passes CX X E)(ha:PA X (e::es) t)
  (hst:Ni (e::es) X.env=(false,eval e X.env)::Ni es X.env:=by rfl)(hpl:(Pb pos (Ni es X.env)).any (·.1)=false:=by rfl)
  (ht:eval (.Call (.Attribute o m apos) (e::es) [] pos) X.env=(do
   let ov<-eval o X.env
   standAt apos.atName
   let (f,first)<-Rm [ov] (RI ov m pl)
   callWith pos f first (Pb pos (Ni (e::es) X.env)) (RN pos (Q3 [] X.env))):=by rfl):
  PE X (.Call (.Attribute o m apos) (e::es) [] pos) (yc C m sp dvs E ta t):=by
 intro pins s σ H Q I h;refine Rw (pl:=pl) (dh (he pins s σ H _ I h) λu s1 ⟨x,H1,J,rx,a,dx,fs,ex,ea,l,q⟩=>?_) ht;subst ex;obtain rfl:u=ME a:=rx;refine wC J ea c hm l ?_;refine QF (first:=[.ref a]) (h₀:=X.base) I.ok.mod.kin hm.kp (dh (ha pos pins s1 σ H1 _ J q) λus s2 ⟨vs,H2,U,r,q2⟩=>⟨U.kIn,?_⟩) hst hpl;exact t8 (us:= .ref a::us) (vs:= .ref a::vs) F hr hb hd hx U (.cons rfl r) q2
theorem g0{pl:Sem Nw}(he:PE X o ta)(c:iG X.K C)(hm:Meth X.K C m f)(F:cV X.prog X.w X.K X.mg X.base CX k f fd ps sp)(hr:eK k X.A)(hb:Binds X.K fd ps ds)(hd:Vals dvs ds)(hx:Passes CX X E)
  (ht:eval (.Call (.Attribute o m apos) [] [] pos) X.env=(do
   let ov<-eval o X.env
   standAt apos.atName
   let (f,first)<-Rm [ov] (RI ov m pl)
   callWith pos f first (Pb pos (Ni [] X.env)) (RN pos (Q3 [] X.env))):=by rfl):
  PE X (.Call (.Attribute o m apos) [] [] pos) (yc C m sp dvs E ta jB):=by
 intro pins s σ H Q I h;refine Rw (pl:=pl) (dh (he pins s σ H _ I h) λu s1 ⟨x,H1,J,U,a,dx,fs,ex,ea,l,q⟩=>?_) ht;subst ex;obtain rfl:u=ME a:=U;refine wC J ea c hm l ?_;exact W.callWith_K0 (first:=[.ref a]) J.kIn hm.kp (t8 (us:=[.ref a]) (vs:=[.ref a]) F hr hb hd hx J (.cons rfl .nil) q)
structure Mk (K : Mm) (C f : LS) : Prop where
 makes : W.makesIn K C = true
 init : MU K (.ref C) "__init__" = some (some (.ref f))
 fn : Oy K (.ref f) = true
 kp : Nx K (.ref C) = true
theorem yu{pins:LR (LS×Obj)}{σ:St}{H:Hp}{s:Me}{Q:VK}{us:LR LW}{vs:LR V}(M:Mk X.K C f)(F:cV X.prog X.w X.K X.mg X.base CX k f fd ps sp)(hr:eK (k+1) X.A)(hb:Binds X.K fd ps ds)(hd:Vals dvs ds)
  (hx:Passes CX X E)(I:Inv X pins σ H s)(r:Vals vs us)
  (h:∀ x dx,H x=none->H dx=none->dx≠x->sp (.ref x::(vs++dvs)) (upd (upd H dx (.own x)) x (.ins C dx [])) (λv H2=>v= .non/\Q (.ref x) H2) E):
  MD (My X.prog X.w) X.A (call (.ref C) us) (EP X pins σ Q) X.xe s:=by
 have hq:=h (s.heap.objs.size+1) s.heap.objs.size (I.hok.fresh (NC _)) (I.hok.fresh (Ma _)) (MV (OT _))
 have U:=Inv.made (C:=C) I
 have r2:Vals (V.ref (s.heap.objs.size+1)::(vs++dvs)) (ME (s.heap.objs.size+1)::(us++ds)):= .cons rfl (r.append hd)
 have hl:(ME (s.heap.objs.size+1)::us++ds).length=ps.length:=by
  have e:=r2.length;rw[F.len _ _ _ _ hq] at e;exact e.symm
 refine QO (LB (f:=f) I.kIn M.makes M.init (beq_iff_eq.mp M.fn) (PU (F.run _ X.stack _ _ ⟨ME (s.heap.objs.size+1)::us,[]⟩ (ME (s.heap.objs.size+1)::(us++ds)) _ _ E (hr.make C us [])
  (U.env0.make C us []) (hb _ (ME (s.heap.objs.size+1)::us) U.kIn hl) r2 hq) λr s' J=>?_));cases r with
 |error e=>exact hx pins σ _ _ e s' U J
 |ok fl=>
  cases fl with
  |ret u=>
   obtain⟨v,H',I3,rv,ev,q3⟩:=U.after J;subst ev;exact⟨rv,⟨V.ref (s.heap.objs.size+1),H',I3,rfl,q3⟩⟩
  |next=>exact Nu J
  |brk=>exact Nu J
  |cont=>exact Nu J
theorem wZ(M:Mk X.K C f)(F:cV X.prog X.w X.K X.mg X.base CX k f fd ps sp)(hr:eK (k+1) X.A)(hg:Gl X x)(hm:X.mg x=some (.ref C))(hb:Binds X.K fd ps ds)(hd:Vals dvs ds)(hx:Passes CX X E)
  (ha:PA X (e::es) t)(hdb:(x==("__debug__":Str))=false:=by decide)(he:Ni (e::es) X.env=(false,eval e X.env)::Ni es X.env:=by rfl)(hpl:(Pb pos (Ni es X.env)).any (·.1)=false:=by rfl):
  PE X (.Call (.Name x p) (e::es) [] pos) (zf C sp dvs E t):=by
 intro pins s σ H Q I h;refine Of (lb I hg hm ?_ hdb);refine QF (h₀:=X.base) I.ok.mod.kin M.kp (dh (ha pos pins s σ H _ I h) λus s1 ⟨vs,H1,J,r,q⟩=>⟨J.kIn,?_⟩) he hpl;exact yu M F hr hb hd hx J r q
theorem y1(M:Mk X.K C f)(F:cV X.prog X.w X.K X.mg X.base CX k f fd ps sp)(hr:eK (k+1) X.A)(hg:Gl X x)(hm:X.mg x=some (.ref C))(hb:Binds X.K fd ps ds)(hd:Vals dvs ds)(hx:Passes CX X E)
  (hdb:(x==("__debug__":Str))=false:=by decide):PE X (.Call (.Name x p) [] [] pos) (zf C sp dvs E jB):=by
 intro pins s σ H Q I h;refine Of (lb I hg hm ?_ hdb);exact W.callWith_K0 I.kIn M.kp (yu (us:=[]) M F hr hb hd hx I .nil h)
end
section
variable {X : Cx} {CX : iq} {k : Nat} {f C : LS} {fd : Mj} {ps ks : LR Str} {sp : Sp} {E : XK} {x m : Str} {p pos apos kpos : Pos} {e o : Nv} {es : LR Nv} {kws : LR Keyword} {te ta : TE} {t tk : TA} {nm : Mc Str}
variable {g : LR LW -> LR LW -> LR LW} {gV : LR V -> LR V -> LR V}
end
structure dC (N P : LR Str) (sc : Qe) : Prop where
 kind : sc.kind = .function
 co : sc.isCoroutine = false
 gen : sc.isGenerator = false
 nd : N.Nodup
 pre : N.take P.length = P
 par : ∀ x ∈ P, sc.names.lookup x = some .local \/ sc.names.lookup x = some .cell
 nofree : ∀ y ∈ sc.names, y.2 ≠ .free
theorem xT{kindOf:Str->Mc Pk}{x:Str}:∀{binds:LR (Str×LW)} {m:Str->Mc LW},(∀ v,(x,v)∉binds)->bindL kindOf binds m x=m x
 |[],_,_=>rfl
 |(n,v)::r,m,h=>by
  unfold bindL;rw[xT λw hw=>h w (Mg _ hw)];split
  ·have:x≠n:=by rintro rfl;exact h v Mi
   simp[this]
  ·rfl
theorem xK{kindOf:Str->Mc Pk}{x:Str}:∀{binds:LR (Str×LW)} {m:Str->Mc LW},(∀ v,(x,v)∉binds)->bindC kindOf binds m x=m x
 |[],_,_=>rfl
 |(n,v)::r,m,h=>by
  unfold bindC;rw[xK λw hw=>h w (Mg _ hw)];split
  ·rfl
  ·have:x≠n:=by rintro rfl;exact h v Mi
   simp[this]
theorem zK{kindOf:Str->Mc Pk}{x:Str}{v:LW}:∀{P:LR Str} {vs:LR LW} {i:Nat} {m:Str->Mc LW},P.Nodup->P[i]? =some x->vs[i]? =some v->kindOf x=some .local->
  bindL kindOf (P.zip vs) m x=some v
 |[],_,_,_,_,h,_,_=>by simp at h
 |_::_,[],_,_,_,_,h,_=>by simp at h
 |p::P,w::vs,0,m,nd,h1,h2,hk=>by
  simp at h1 h2;subst h1;subst h2;show bindL kindOf ((p,w)::P.zip vs) m p=_;unfold bindL;rw[xT λv I=>(List.nodup_cons.mp nd).1 (Qr I).1,LZ hk];simp
 |p::P,w::vs,i+1,m,nd,h1,h2,hk=>by
  show bindL kindOf ((p,w)::P.zip vs) m x=_;unfold bindL;exact zK (i:=i) (List.nodup_cons.mp nd).2 (by simpa using h1) (by simpa using h2) hk
theorem yZ{kindOf:Str->Mc Pk}{x:Str}{v:LW}:∀{P:LR Str} {vs:LR LW} {i:Nat} {m:Str->Mc LW},P.Nodup->P[i]? =some x->vs[i]? =some v->kindOf x≠some .local->
  bindC kindOf (P.zip vs) m x=some v
 |[],_,_,_,_,h,_,_=>by simp at h
 |_::_,[],_,_,_,_,h,_=>by simp at h
 |p::P,w::vs,0,m,nd,h1,h2,hk=>by
  simp at h1 h2;subst h1;subst h2;show bindC kindOf ((p,w)::P.zip vs) m p=_;unfold bindC;rw[xK λv I=>(List.nodup_cons.mp nd).1 (Qr I).1,LX hk];simp
 |p::P,w::vs,i+1,m,nd,h1,h2,hk=>by
  show bindC kindOf ((p,w)::P.zip vs) m x=_;unfold bindC;exact yZ (i:=i) (List.nodup_cons.mp nd).2 (by simpa using h1) (by simpa using h2) hk
noncomputable def start(N:LR Str)(vs:LR V):St:=vs.map some++ND (N.length-vs.length) none
noncomputable def fL(CX:iq)(P:Mq)(w:MT)(K:Mm)(mg:Str->Mc LW)(base:Nn)(N:LR Str)(qual:Str)(scope:Qe)(f:LS)(cd:LW)(A:Np)(outer:LR Env)(s:Me)(H:Hp)(E:XK):Cx where
 prog:=P
 w:=w
 K:=K
 mg:=mg
 base:=base
 A:=A.deeper (Pc qual scope s.heap.objs.size f cd)
 N:=N
 s₀:=s
 H₀:=H
 env:=Pc qual scope s.heap.objs.size f cd
 outer:=outer
 stack:=Pc qual scope s.heap.objs.size f cd::outer
 ex:=[]
 calm:=true
 fn:=λ_=>true
 pn:=[]
 xe:=λe s'=>MD (My P w) (A.deeper (Pc qual scope s.heap.objs.size f cd)) (leaving (Pc qual scope s.heap.objs.size f cd) e) (λ_ I=>CX outer H s E e I) (λJ I=>CX outer H s E J I) s'
theorem zY{sc:Qe}{n:Nat}{x:Str}(h:sc.names.lookup x=some .cell):∃ c,(cellsFrom n sc.names []).lookup x=some c:=by
 have q:=Rg sc.names n [] (.inl h);exact Option.isSome_iff_exists.mp q
theorem zI{CX:iq}{P:Mq}{w:MT}{K:Mm}{mg:Str->Mc LW}{base:Nn}{N ps:LR Str}{qual:Str}{scope:Qe}{f:LS}{cd:LW}{A:Np}{outer:LR Env}{s s1:Me}{H:Hp}{E:XK}{us:LR LW}{vs:LR V}
  (S:dC N ps scope)(hd:A.handled=none)(e0:jU P w K mg base A outer s H)(hl:vs.length=ps.length)(r:Vals vs us)
  (x:InCallC s s.heap.objs.size (bindL (Pc qual scope s.heap.objs.size f cd).kindOf (ps.zip us) λ_=>none) (cellsFrom (s.heap.objs.size+1) scope.names []) (bindC (Pc qual scope s.heap.objs.size f cd).kindOf (ps.zip us) λ_=>none) s1):
  Inv (fL CX P w K mg base N qual scope f cd A outer s H E) [] (start N vs) H s1:=by
 have aa:ps.length<=N.length:=by have:=Nl MQ S.pre;rw[ML] at this;lia
 obtain⟨h1,tk,rfl,hk⟩:=x.done;have I:∀ b:LS,b∉(fL CX P w K mg base N qual scope f cd A outer s H E).ex:=λb z=>absurd (show b∈([]:LR LS) from z) (by simp)
 refine⟨⟨e0.mod,S.kind,rfl,rfl,Ma _,λy z c h1 h2=>?_,λy hy=>?_,λy c _ h=>?_,λ_=>hd,Around.frames_deeper e0.frames,.inr ⟨rfl,rfl⟩,λb z=>absurd z (I b),e0.bs,e0.bsz,λb _ _=>I b,λb z=>absurd z (I b),e0.funs,e0.frf⟩,
  rfl,e0.bare,Un.kept hk,⟨_,x.toInCall.ns,λi y v h1 h2 h3=>?_⟩,λy c h=>⟨_,x.cell y c h⟩,e0.hok.fresh (Ma _),λy c h=>?_,λp J=>absurd (show p∈([]:LR (LS×Obj)) from J) (by simp),e0.hok.kept hk,?_⟩
 ·exact name_of_addr x.apart (Ov h1) (Ov h2)
 ·have hy:scope.names.lookup y=some .cell\/scope.names.lookup y=some .free:=hy;rcases hy with hy|hy
  ·exact zY hy
  ·exact absurd rfl (S.nofree _ (Ov hy))
 ·exact QC (x.above y c (Ov h))
 ·have hi:i<vs.length:=by
   unfold start at h2;by_cases hi:i<vs.length
   ·exact hi
   ·rw[List.getElem?_append_right (by simpa using hi)] at h2;rw[List.getElem?_replicate] at h2;split at h2<;>cases h2
  have ha:vs[i]? =some v:=by
   unfold start at h2;rw[List.getElem?_append_left (by simpa using hi),List.getElem?_map] at h2;cases e:vs[i]? with
   |none=>rw[e] at h2;cases h2
   |some a=>rw[e] at h2;cases h2;rfl
  obtain⟨u,hu,rv⟩:=r.get ha;have J:ps[i]? =some y:=by
   rw[<-S.pre,List.getElem?_take_of_lt (by lia)];exact h1
  have U:ps.Nodup:=by rw[<-S.pre];exact S.nd.sublist (Q4 _ _)
  refine⟨u,rv,?_⟩;rcases S.par y (List.mem_of_getElem? J) with k|k
  ·exact .inl ⟨k,zK U J hu k⟩
  ·obtain⟨c,e⟩:=zY (n:=s.heap.objs.size+1) k;refine .inr ⟨.inl k,c,e,?_⟩;have q:=x.cell y c e;rw[yZ U J hu (by show scope.names.lookup y≠_;rw[k];decide)] at q;exact q
 ·exact e0.hok.fresh (QC (x.above y c (Ov h)))
 ·unfold start;show _=N.length;rw[Md,LV,P6]
  lia
theorem rO{CX:iq}{P:Mq}{w:MT}{K:Mm}{mg:Str->Mc LW}{base:Nn}{k:Nat}{f:LS}{name qual:Str}{params:Arguments}{body:LR Nr}{scope:Qe}{dV kV doc pm cdv ct oc:LW}{an od:Mc LS}
  {osl:Nd (Mc LW)}{N ps:LR Str}{sp:Sp}(lk:K.lookup f=some ⟨oc,od,.func (NN name qual params body scope dV kV doc pm an cdv ct),osl⟩)(hcd:NA K cdv qual=true)(S:dC N ps scope)
  (len:∀ vs H Q E,sp vs H Q E->vs.length=ps.length)
  (hbody:∀(A:Np) (outer:LR Env) (s:Me) (H:Hp) (vs:LR V) (Q:VK) (E:XK),eK k (A.deeper (Pc qual scope s.heap.objs.size f cdv))->sp vs H Q E->
   ∃ t,dj (fL CX P w K mg base N qual scope f cdv A outer s H E) body t/\t {nx:=λ_ H'=>Q .non H',rt:=Q} (start N vs) H):
  cV P w K mg base CX (k+1) f (NN name qual params body scope dV kV doc pm an cdv ct) ps sp:=by
 refine⟨len,λA outer s H args us vs Q E hr e0 hb r ab=>?_⟩;have hl:=len _ _ _ _ ab;have KX:K.In s.heap:=e0.mod.kin.keeps λb o e=>(e0.bs b o e).1
 have lim:s.heap.NoLimit:=e0.mod.nolimit.keeps λb o e=>(e0.bs b o e).1
 have aa:∀ y∈ps.zip us,scope.names.lookup y.1=some .local\/(scope.names.lookup y.1=some .cell/\((cellsFrom (s.heap.objs.size+1) scope.names []).lookup y.1).isSome=true):=λ⟨n,v⟩ hy=>by
  rcases S.par n (Qr hy).1 with q|q
  ·exact .inl q
  ·exact .inr ⟨q,Rg _ _ _ (.inl q)⟩
 refine codeAny_call_function hr.depth (KX _ _ lk) rfl S.co S.gen rfl (W.codeRec_of KX hcd) (hb _ _ _ _ ?_);refine QP S.kind aa λenv he s1 x=>?_
 subst he;refine⟨lim.keeps x.toInCall.keep,codeAny_func ?_⟩;obtain⟨t,ht,hq⟩:=hbody A outer s H vs Q E (hr.deeper _) ab;have I:Inv (fL CX P w K mg base N qual scope f cdv A outer s H E) [] (start N vs) H s1:=zI S hr.hd e0 hl r x;refine NI (ht [] s1 (start N vs) H _ I hq) (λfl s' hs=>?_) λe s' hs=>hs
 have fin:∀{U:St} {H':Hp} {v:V} {u:LW},Inv (fL CX P w K mg base N qual scope f cdv A outer s H E) [] U H' s'->RelV v u->Q v H'->CE outer P w H s Q u s':=
  λ{U H' v u} J rv q=>⟨v,H',J.os,J.bare,J.base,J.hok,rv,q⟩;cases fl with
 |ret u=>
  obtain⟨v,U,H',J,rv,q⟩:=hs;exact fin J rv q
 |next=>
  obtain⟨U,H',J,q⟩:=hs;exact fin (v:=V.non) (u:=Oo) J rfl q
 |brk=>
  obtain⟨_,_,_,q⟩:=hs;exact Nu q
 |cont=>
  obtain⟨_,_,_,q⟩:=hs;exact Nu q
section
variable {X : Cx} {x : Str} {p pos : Pos} {e : Nv} {es : LR Nv} {t : TA} {id T : OE} {r : LR V -> Hp -> VK -> Prop}
noncomputable def vN(r:LR V->Hp->VK->Prop)(t:TA):TE:=λσ H Q=>t σ H λvs H1=>r vs H1 Q
theorem dR(hc:gy X (.builtin id) r)(hg:Gl X x)(hm:X.mg x=none)(hv:Ny x=some (.builtin id))(ha:PA X (e::es) t)(hn:x≠"__name__":=by decide)(hdb:(x==("__debug__":Str))=false:=by decide)
  (he:Ni (e::es) X.env=(false,eval e X.env)::Ni es X.env:=by rfl)(hpl:(Pb pos (Ni es X.env)).any (·.1)=false:=by rfl):PE X (.Call (.Name x p) (e::es) [] pos) (vN r t):=by
 intro pins s σ H Q I h;refine Of (mh I hg hm hv ?_ hn hdb);exact PyProof.Rows.callWith_builtin1 (dh (ha pos pins s σ H _ I h) λus s1 ⟨vs,H1,J,U,q1⟩=>hc pins s1 σ H1 vs us Q J U q1) he hpl
theorem jw(hc:gy X (.type T) r)(hg:Gl X x)(hm:X.mg x=none)(hv:Ny x=some (.type T))(ha:PA X (e::es) t)(hn:x≠"__name__":=by decide)(hdb:(x==("__debug__":Str))=false:=by decide)
  (he:Ni (e::es) X.env=(false,eval e X.env)::Ni es X.env:=by rfl)(hpl:(Pb pos (Ni es X.env)).any (·.1)=false:=by rfl):PE X (.Call (.Name x p) (e::es) [] pos) (vN r t):=by
 intro pins s σ H Q I h;refine Of (mh I hg hm hv ?_ hn hdb);exact N9 (dh (ha pos pins s σ H _ I h) λus s1 ⟨vs,H1,J,U,q1⟩=>hc pins s1 σ H1 vs us Q J U q1) he hpl
end
end L2
namespace HT
open PySem PyProof.Rows
section
open PySem.SeqAt
open PySem.AutoSeq1 (wpAny_loadPart')
open PySem.MeetsSeq PySem.MeetsSeq2 PySem.MeetsSeq3
end
section
variable {prog : Mq} {w : MT} {A : Np} {E : LW -> Me -> Prop} {s : Me}
noncomputable def gX(n d:Nat):Mc Int->Nat
 |none=>d
 |some v=>if v<0 then (v+(n:Int)).toNat else min v.toNat n
theorem BR(n d:Nat):gX n d none=d:=rfl
theorem qP(n d k:Nat):gX n d (some (k:Int))=min k n:=by
 show(if (k:Int)<0 then ((k:Int)+(n:Int)).toNat else min (k:Int).toNat n)=min k n;rw[LX (by lia),NF]
end
end HT
namespace L2
open PySem PySem.Spec PyProof.Rows
noncomputable abbrev TO:=St->Hp->(Mc Int->Hp->Prop)->Prop
noncomputable def PO(X:Cx)(e:Mc Nv)(t:TO):Prop:=
 ∀(pins:LR (LS×Obj)) (s:Me) (σ:St) (H:Hp) (Q:Mc Int->Hp->Prop),Inv X pins σ H s->t σ H Q->
  MD (My X.prog X.w) X.A (evalPart e X.env) (λu s'=>∃ o H',Inv X pins σ H' s'/\IsPart u o/\Q o H') X.xe s
noncomputable def wN:TO:=λ_ H Q=>Q none H
noncomputable def wb(t:TE):TO:=λσ H Q=>t σ H λx H1=>∃ i,x= .int i/\Q (some i) H1
section
variable {X : Cx} {e : Nv} {te : TE} {lo hi : Mc Nv} {tl th : TO} {pos p2 : Pos}
theorem js:PO X none wN:=by
 intro pins s σ H Q I h;rw[evalPart_none];exact Nf ⟨none,H,I,.none,h⟩
theorem gL(h:PE X e te):PO X (some e) (wb te):=by
 intro pins s σ H Q I hw;rw[evalPart_some];refine dh (h pins s σ H _ I hw) λu s1 ⟨x,H1,J,U,q1⟩=>?_
 obtain⟨i,rfl,q⟩:=q1;obtain⟨t,rfl⟩:=U;exact⟨some i,H1,J,.int i t,q⟩
noncomputable def tN(X:Cx)(r:V->Mc Int->Mc Int->Hp->VK->Prop):Prop:=
 ∀(pins:LR (LS×Obj)) (s:Me) (σ:St) (H:Hp) (x:V) (v I J:LW) (lo hi:Mc Int) (sl:LS) (Q:VK),Inv X pins σ H s->RelV x v->s.heap.IsSliceOf sl I J .none->IsPart I lo->IsPart J hi->r x lo hi H Q->
  ∃ T id,typeLookup (.type T) "__getitem__"=pure (some (.builtin id))/\s.TypeIs v T/\MD (My X.prog X.w) X.A (RO v (.ref sl)) (EP X pins σ Q) X.xe s
noncomputable def uY(r:V->Mc Int->Mc Int->Hp->VK->Prop)(te:TE)(tl th:TO):TE:=λσ H Q=>te σ H λx H1=>tl σ H1 λl H2=>th σ H2 λu I=>r x l u I Q
theorem ik{r:V->Mc Int->Mc Int->Hp->VK->Prop}(hr:tN X r)(he:PE X e te)(hl:PO X lo tl)(hu:PO X hi th):PE X (.Subscript e (.Slice lo hi none p2) pos) (uY r te tl th):=by
 intro pins s σ H Q I h;refine Subscript_ (dh (he pins s σ H _ I h) λv s1 ⟨x,H1,I1,r1,q1⟩=>?_);refine wpAny_Slice (dh (hl pins s1 σ H1 _ I1 q1) λJ s2 ⟨l,H2,I2,pl,q2⟩=>dh (hu pins s2 σ H2 _ I2 q2) λU s3 ⟨u,H3,I3,pu,q3⟩=>?_);rw[evalPart_none];refine Nf ?_;have I4:Inv X pins σ H3 {s3 with heap:=s3.heap.push {cls:= .type "slice",data:= .fields #[J,U,.none]}}:=I3.kept (t':=s3.toks) λb ob q=>Heap.get?_push_of_some _ q
 obtain⟨T,id,hT,ht,hg⟩:=hr pins {s3 with heap:=s3.heap.push {cls:= .type "slice",data:= .fields #[J,U,.none]}} σ H3 x v J U l u s3.heap.objs.size Q I4 r1 (Heap.IsSliceOf.new ..) pl pu q3;show MD (My X.prog X.w) X.A (subscriptTail e (.Slice lo hi none p2) v (.ref s3.heap.objs.size)) (EP X pins σ Q) X.xe {s3 with heap:=s3.heap.push {cls:= .type "slice",data:= .fields #[J,U,.none]}};exact tail_any (ops:=[.ref s3.heap.objs.size,v]) ht hT hg (by with_unfolding_all rfl)
noncomputable def ib(xs:LR V)(lo hi:Mc Int):LR V:=(xs.drop (HT.gX xs.length 0 lo)).take (HT.gX xs.length xs.length hi-HT.gX xs.length 0 lo)
theorem Fg(xs:LR V)(lo hi:Mc Int):(ib xs lo hi).length<=xs.length:=by
 unfold ib;rw[ML,NJ]
 lia
end
noncomputable def jT(n:Nat)(i:Int):Mc Nat:=if 0<=i then (if i<n then some i.toNat else none) else if -(n:Int)<=i then some (i+n).toNat else none
noncomputable def iT{α:Type}(xs:LR α)(i:Int):Mc α:=(jT xs.length i).bind λj=>xs[j]?
theorem A8{n:Nat}{i:Int}{j:Nat}(h:jT n i=some j):seqIndex? i n=some j/\j<n/\ -(n:Int)<=i/\i<n:=by
 unfold jT at h;by_cases h0:0<=i
 ·rw[LZ h0] at h;by_cases h1:i<n
  ·rw[LZ h1] at h;have e:i.toNat=j:=Ml h;exact⟨by rw[seqIndex_of h0 h1,e],by lia,by lia,h1⟩
  ·rw[LX h1] at h;cases h
 ·rw[LX h0] at h;by_cases h1: -(n:Int)<=i
  ·rw[LZ h1] at h;have e:(i+n).toNat=j:=Ml h;exact⟨by rw[seqIndex_neg (by lia) h1,e],by lia,h1,by lia⟩
  ·rw[LX h1] at h;cases h
theorem vz{α:Type}{xs:LR α}{i:Int}{v:α}(h:iT xs i=some v):∃ j,seqIndex? i xs.length=some j/\xs[j]? =some v/\j<xs.length/\ -(xs.length:Int)<=i/\i<xs.length:=by
 unfold iT at h;cases e:jT xs.length i with
 |none=>rw[e] at h;cases h
 |some j=>
  rw[e] at h;obtain⟨h1,h2,I,J⟩:=A8 e;exact⟨j,h1,h,h2,I,J⟩
theorem dS{α:Type}{xs:LR α}{j:Nat}{v:α}(h:xs[j]? =some v):iT xs (j:Int)=some v:=by
 have I:j<xs.length:=(List.getElem?_eq_some_iff.mp h).1
 have e:jT xs.length (j:Int)=some j:=by
  unfold jT;rw[LZ (by lia),LZ (by lia)];simp
 unfold iT;rw[e];exact h
noncomputable def Ks(b:Nv):Prop:=∀ o i,RD b false o i=operate [o,i] (RO o i)
noncomputable def pK(X:Cx)(r:R2):Prop:=
 ∀(value slice:Nv) (pins:LR (LS×Obj)) (s:Me) (σ:St) (H:Hp) (x y:V) (v u:LW) (Q:VK),Inv X pins σ H s->RelV x v->RelV y u->r x y H Q->
  RD slice false v u=operate [v,u] (RO v u)->MD (My X.prog X.w) X.A (subscriptTail value slice v u) (EP X pins σ Q) X.xe s
noncomputable def ju(X:Cx)(id:OE)(r:V->LR V->Hp->VK->Prop):Prop:=
 ∀(pins:LR (LS×Obj)) (s:Me) (σ:St) (H:Hp) (x:V) (xs:LR V) (v:LW) (us:LR LW) (Q:VK),Inv X pins σ H s->RelV x v->Vals xs us->r x xs H Q->
  MD (My X.prog X.w) X.A (call (.builtin id) (v::us)) (EP X pins σ Q) X.xe s
section
variable {X : Cx} {a b : Nv} {ta tb : TE} {pos : Pos}
theorem eB{r:R2}(hr:pK X r)(ha:PE X a ta)(hb:PE X b tb)(hs:Ks b):PE X (.Subscript a b pos) (nW r ta tb):=by
 intro pins s σ H Q I h;exact Subscript_ (we ha hb I h λv u s2 x y H2 J U ry q=>hr a b pins s2 σ H2 x y v u Q J U ry q (hs _ _))
noncomputable def Bb(K:Mm):R2:=λx y H Q=>∃ p xs i v,x= .ref p/\y= .int i/\cS K H p xs/\iT xs i=some v/\Q v H
noncomputable def Fu(K:Mm):R2:=λx y H Q=>∃ p xs i v,x= .ref p/\y= .int i/\dY K H p xs/\iT xs i=some v/\Q v H
noncomputable def EU:R2:=λx y H Q=>∃ z i c,x= .str z/\y= .int i/\z.length<=sizeLine/\iT z.cps.toList i=some c/\Q (.str ⟨#[c]⟩) H
theorem eY:pK X (Bb X.K):=by
 intro value slice pins s σ H x y v u Q I rx ry h hs;obtain⟨p,xs,i,z,rfl,rfl,hq,he,q⟩:=h;cases rx;obtain⟨t,rfl⟩:=ry;obtain⟨J,r,pl,hz⟩:=I.list hq;obtain⟨j,h1,h2,h3,h4,h5⟩:=vz he;obtain⟨w,ew,U⟩:=r.get h2;have hl:=r.length;have hn:=nJ;have fin:EP X pins σ Q w s:=⟨z,H,I,U,q⟩;by_cases h0:0<=i
 ·have hj:i.toNat=j:=by
   rw[seqIndex_of h0 h5] at h1;exact Ml h1
  exact item_listR pl.isList h0 (by lia) (by rw[hj];simpa using ew) fin hs
 ·have hj:(i+(J.toArray.size:Int)).toNat=j:=by
   rw[seqIndex_neg (by lia) h4] at h1;rw[Mu,<-hl];exact Ml h1
  exact subscriptTail_builtinR (x:=w) pl.isList.typeIs slot_list_getitem.lookup
   (wpAny_getItem_list_neg (Q:=λr s'=>r=w/\EP X pins σ Q r s') pl.isList (by lia) (by rw[Mu]<;>lia) (by lia) (by rw[hj];simpa using ew) ⟨rfl,fin⟩) hs
theorem nr:pK X (Fu X.K):=by
 intro value slice pins s σ H x y v u Q I U ry h hs;obtain⟨p,xs,i,z,rfl,rfl,hq,he,q⟩:=h;cases U;obtain⟨t,rfl⟩:=ry;obtain⟨aa,r,pl,hz⟩:=I.tuple hq;obtain⟨j,h1,h2,h3,h4,h5⟩:=vz he;obtain⟨w,ew,J⟩:=r.get h2;have hl:=r.length;have hn:=nJ;have fin:EP X pins σ Q w s:=⟨z,H,I,J,q⟩;exact subscriptTail_builtinR (x:=w) pl.typeIs slot_tuple_getitem.lookup
  (getItem_tuple (j:=j) (Q:=λr s'=>r=w/\EP X pins σ Q r s') pl (by lia) (by lia) (by rw[Mu,<-hl];exact h1) (by simpa using ew) ⟨rfl,fin⟩) hs
theorem sZ:pK X EU:=by
 intro value slice pins s σ H x y v u Q I J U h hs;obtain⟨z,i,c,rfl,rfl,hz,he,q⟩:=h;obtain⟨t,rfl⟩:=J;obtain⟨t',rfl⟩:=U;obtain⟨j,h1,h2,h3,h4,h5⟩:=vz he;have hl:z.cps.toList.length=z.length:=by simp[NB]
 rw[hl] at h1 h4 h5;have hn:=nJ;exact tail_any (QQ s z t) slot_str_getitem.lookup (getItem_str (c:=c) (by
  have e1:decide (i < -(2 ^ 63:Int))=false:=LY (by lia)
  have e2:decide (i ≥ 2 ^ 63)=false:=LY (by lia);rw[e1,e2,Bool.or_false]) (by rw[h1];simpa using h2) ⟨.str ⟨#[c]⟩,H,I.tok _,⟨_,rfl⟩,q⟩) hs
theorem Cf(its:LR LW)(n j:Nat)(u:LW):Og (·.setIfInBounds j u) {cls:= .type "list",data:= .seq its.toArray n}={cls:= .type "list",data:= .seq (its.set j u).toArray n}:=by
 simp[Og]
theorem Inv.lst {pins:LR (LS×Obj)}{σ:St}{H:Hp}{s:Me}{p:LS}{xs:LR V}(I:Inv X pins σ H s)(h:H p=some (.lst xs)):
  ∃(its:LR LW) (n:Nat),Vals xs its/\s.heap.get? p=some {cls:= .type "list",data:= .seq its.toArray n}/\xs.length<=sizeLine:=by
 obtain⟨z,its,n,r,e⟩:=I.hok p _ h;exact⟨its,n,r,e,z⟩
theorem Inv.lstUpd {pins:LR (LS×Obj)}{σ:St}{H:Hp}{s:Me}{p:LS}{xs ys:LR V}{its its':LR LW}{n n':Nat}{f:Obj->Obj}(I:Inv X pins σ H s)(h:H p=some (.lst xs))
  (ho:s.heap.get? p=some {cls:= .type "list",data:= .seq its.toArray n})(hf:f {cls:= .type "list",data:= .seq its.toArray n}={cls:= .type "list",data:= .seq its'.toArray n'})(r:Vals ys its')(hz:ys.length<=sizeLine)(t:Nat):
  Inv X pins σ (upd H p (.lst ys)) {s with heap:=s.heap.update p f,toks:=t}:=by
 have e:(s.heap.update p f).get? p=some {cls:= .type "list",data:= .seq its'.toArray n'}:=by
  rw[Heap.get?_update_self f ho (by rw[hf]<;>rfl),hf]
 refine I.write (x:=p) (e:=p) (by rw[h];trivial) (.inl rfl) (λb u hb q=>(Heap.get?_update_other _ _ (Nt hb)).trans q) ⟨_,e⟩ ?_;exact⟨hz,its',n',r,e⟩
noncomputable def Ff:V->V->V->Hp->(Hp->Prop)->Prop:=λo i v H Q=>∃ p xs k j,o= .ref p/\i= .int k/\H p=some (.lst xs)/\jT xs.length k=some j/\Q (upd H p (.lst (xs.set j v)))
theorem set_list:xM X Ff:=by
 intro pins s σ H o i v ov iv u Q I ro ri rv h;obtain⟨p,xs,k,j,rfl,rfl,hp,hj,q⟩:=h;cases ro;obtain⟨t,rfl⟩:=ri;obtain⟨J,n,r,U,hz⟩:=I.lst hp;obtain⟨h1,h2,h3,h4⟩:=A8 hj;have hl:=r.length;have hn:=nJ;have I':Inv X pins σ (upd H p (.lst (xs.set j v))) {s with heap:=s.heap.update p (Og (·.setIfInBounds j u))}:=
  I.lstUpd hp U (Cf J n j u) (r.set rv j) (by rw[List.length_set];exact hz) s.toks;by_cases h0:0<=k
 ·have hk:k.toNat=j:=by
   rw[seqIndex_of h0 h4] at h1;exact Ml h1
  exact W.ki_setAt U h0 (by lia) (by rw[Mu,<-hl];exact h4) (by rw[hk];exact⟨_,I',q⟩)
 ·have hk:(k+(J.toArray.size:Int)).toNat=j:=by
   rw[seqIndex_neg (by lia) h3] at h1;rw[Mu,<-hl];exact Ml h1
  exact W.ki_setBack U (by lia) (by rw[Mu,<-hl];exact h3) (by lia) (by rw[hk];exact⟨_,I',q⟩)
theorem EC(lo hi:Mc Int)(n:Nat):(PL lo hi none n).1=((HT.gX n 0 lo:Nat):Int)/\(PL lo hi none n).2.1=((HT.gX n n hi:Nat):Int)/\(PL lo hi none n).2.2=1:=by
 refine⟨?_,?_,rfl⟩
 ·cases lo with
  |none=>simp[PL,HT.gX]
  |some i=>
   simp only[PL,HT.gX,Option.getD_none,show(1:Int)>0 by decide,RP];by_cases h:i<0
   ·simp only[h,RP]<;>lia
   ·simp only[h,RE]<;>lia
 ·cases hi with
  |none=>simp[PL,HT.gX]
  |some i=>
   simp only[PL,HT.gX,Option.getD_none,show(1:Int)>0 by decide,RP];by_cases h:i<0
   ·simp only[h,RP]<;>lia
   ·simp only[h,RE]<;>lia
theorem CL(its:LR LW)(lo hi:Mc Int):slicePick its.toArray lo hi none=((its.drop (HT.gX its.length 0 lo)).take (HT.gX its.length its.length hi-HT.gX its.length 0 lo)).toArray:=by
 obtain⟨h1,h2,I⟩:=EC lo hi its.toArray.size;unfold slicePick;rw[h1,h2,I];simp only[sliceRange_one,pick_run,Mu]<;>rfl
noncomputable def vh(K:Mm):V->Mc Int->Mc Int->Hp->VK->Prop:=λx lo hi H Q=>∃ a xs,x= .ref a/\cS K H a xs/\∀ p,H p=none->Q (.ref p) (upd H p (.lst (ib xs lo hi)))
theorem oC:tN X (vh X.K):=by
 intro pins s σ H x v vl vu lo hi sl Q I J hs pl pu h;obtain⟨a,xs,rfl,U,q⟩:=h;cases J;obtain⟨aa,r,ht,hz⟩:=I.list U;have hlen:=r.length;refine⟨"list",_,slot_list_getitem.lookup,ht.isList.typeIs,?_⟩;refine wpAny_getItem_list_slice ht.isList hs pl pu .none (by simp) ?_ (by rw[Mu]<;>lia);rw[CL,<-hlen];refine⟨.ref s.heap.objs.size,_,I.laid (t':=s.toks) (o:= .lst (ib xs lo hi)) (λb ob q=>Heap.get?_push_of_some _ q) (Ma _) ?_,rfl,q _ (I.hok.fresh (Ma _))⟩;exact⟨Mr (Fg xs lo hi) hz,_,0,(r.drop (HT.gX xs.length 0 lo)).take (HT.gX xs.length xs.length hi-HT.gX xs.length 0 lo),Heap.get?_push_size _ rfl⟩
theorem EF:fz X (NX .NotIn) (λx y H Q=>∃ i j,x= .str i/\y= .str j/\Q (.bl (!(!(NT j i 0 j.length 1).isEmpty))) H):=by
 intro pins s σ H x y v u Q I J U h;obtain⟨i,j,rfl,rfl,q⟩:=h;obtain⟨t,rfl⟩:=J;obtain⟨t',rfl⟩:=U;exact notIn_str ⟨.bl _,H,I,rfl,q⟩
theorem gZ:gy X (.builtin "len") (λxs H Q=>∃ p ys,xs=[.ref p]/\(cS X.K H p ys\/dY X.K H p ys)/\Q (.int ys.length) H):=by
 intro pins s σ H xs us Q I r h;obtain⟨p,ys,rfl,hq,q⟩:=h;obtain⟨u,rfl,rx⟩:=vals1 r;cases rx;have hn:=nJ;rcases hq with hq|hq
 ·obtain⟨J,U,pl,hz⟩:=I.list hq;have hlen:=U.length;exact Calls.call_len_list pl.isList (by simp only[Mu]<;>lia) ⟨.int ys.length,H,I.tok _,⟨s.toks+1,by rw[Mu,hlen]⟩,q⟩
 ·obtain⟨J,U,pl,hz⟩:=I.tuple hq;have hlen:=U.length;exact len_tuple pl (by simp only[Mu]<;>lia) ⟨.int ys.length,H,I.tok _,⟨s.toks+1,by rw[Mu,hlen]⟩,q⟩
theorem vV:gy X (.builtin "len") (λxs H Q=>∃ z,xs=[.str z]/\z.length<=sizeLine/\Q (.int z.length) H):=by
 intro pins s σ H xs us Q I r h;obtain⟨z,rfl,J,q⟩:=h;obtain⟨u,rfl,t,rfl⟩:=vals1 r;have hn:=nJ;exact len_str (by lia) ⟨.int z.length,H,I.tok _,⟨_,rfl⟩,q⟩
theorem qw:gy X (.type "list") (λxs H Q=>∃ p ys,xs=[.ref p]/\(cS X.K H p ys\/dY X.K H p ys)/\∀ l,H l=none->Q (.ref l) (upd H l (.lst ys))):=by
 intro pins s σ H xs us Q I r h;obtain⟨p,ys,rfl,hq,q⟩:=h;obtain⟨u,rfl,rx⟩:=vals1 r;cases rx;have fin:∀(J:LR LW),Vals ys J->ys.length<=sizeLine->∀(h':Nn) (U:Nat),(∀ b o',s.heap.get? b=some o'->h'.get? b=some o')->
   h'.get? s.heap.objs.size=some {cls:= .type "list",dict:=none,data:= .seq J.toArray U,slots:=#[]}->EP X pins σ Q (.ref s.heap.objs.size) {s with heap:=h'}:=λJ r' hz h' U kp e=>
  ⟨.ref s.heap.objs.size,_,I.laid (t':=s.toks) kp (Ma _) (show eC X.prog X.w _ h' _ (.lst ys) from⟨hz,J,U,r',e⟩),rfl,q _ (I.hok.fresh (Ma _))⟩
 rcases hq with hq|hq
 ·obtain⟨J,r',pl,hz⟩:=I.list hq;have hlen:=r'.length;obtain⟨o,ho,hc,n,hd⟩:=pl.isList;exact call_list_seq p (.inl rfl) ho hc hd (λh' U kp e=>fin J r' hz h' U kp e) (by simp only[Mu]<;>lia)
 ·obtain⟨J,r',pl,hz⟩:=I.tuple hq;have hlen:=r'.length;obtain⟨o,ho,hc,n,hd⟩:=pl;exact call_list_seq p (.inr rfl) ho hc hd (λh' U kp e=>fin J r' hz h' U kp e) (by simp only[Mu]<;>lia)
theorem zP:gy X (.type "tuple") (λxs H Q=>∃ p ys,xs=[.ref p]/\((cS X.K H p ys/\∀ l,H l=none->Q (.ref l) (upd H l (.tup ys)))\/(dY X.K H p ys/\Q (.ref p) H))):=by
 intro pins s σ H xs us Q I r h;obtain⟨p,ys,rfl,h⟩:=h;obtain⟨u,rfl,rx⟩:=vals1 r;cases rx;rcases h with ⟨U,q⟩|⟨U,q⟩
 ·obtain⟨J,r',pl,hz⟩:=I.list U;have hlen:=r'.length;refine call_tuple_list pl.isList (λh' kp=>?_) (by simp only[Mu]<;>lia);have I1:Inv X pins σ H {s with heap:=h'}:=I.kept (t':=s.toks) kp;have I2:Inv X pins σ (upd H h'.objs.size (.tup ys)) {s with heap:=h'.push {cls:= .type "tuple",data:= .seq J.toArray}}:=
   I1.laid (t':=s.toks) (λb o e=>Heap.get?_push_of_some _ e) (Ma _) (show eC X.prog X.w _ _ _ (.tup ys) from⟨hz,J,r',IsTup.new _ _⟩);exact⟨.ref h'.objs.size,_,I2,rfl,q _ (I1.hok.fresh (Ma _))⟩
 ·obtain⟨J,r',pl,hz⟩:=I.tuple U;exact call_tuple_same pl ⟨.ref p,H,I,rfl,q⟩
noncomputable def rY(K:Mm)(T:OE)(x:V)(H:Hp):Prop:=match x with
 |.str _=>T="str"
 |.int _=>T="int"
 |.ref p=>(T="list"/\∃ xs,cS K H p xs)\/(T="tuple"/\∃ o,K.lookup p=some o/\o.cls= .type "tuple"/\o.dict=none)\/
   (T="dict"/\((∃ kvs,H p=some (.dK kvs))\/∃ kvs,H p=some (.dT kvs)))\/(T="set"/\∃ S n,H p=some (.set S n))
 |_=>Om
theorem rD{pins:LR (LS×Obj)}{σ:St}{H:Hp}{s:Me}{T:OE}{x:V}{v:LW}(I:Inv X pins σ H s)(r:RelV x v)(ty:rY X.K T x H):
  s.TypeIs v T/\∀ a,v= .ref a->∃ ob,s.heap.get? a=some ob/\ob.dict=none:=by
 cases x with
 |str z=>
  obtain⟨t,rfl⟩:=r;cases (show T="str" from ty);exact⟨QQ s z t,λ_ e=>nomatch e⟩
 |int i=>
  obtain⟨t,rfl⟩:=r;cases (show T="int" from ty);exact⟨typeIs_int s i t,λ_ e=>nomatch e⟩
 |ref p=>
  cases r;rcases ty with ⟨rfl,xs,U⟩|⟨rfl,o,hk,hc,hd⟩|⟨rfl,hk⟩|⟨rfl,S,n,hk⟩
  ·obtain⟨aa,_,pl,_⟩:=I.list U;refine⟨pl.isList.typeIs,λa e=>?_⟩;cases e;obtain⟨o,n,e,c,hd,_⟩:=pl;exact⟨o,e,hd⟩
  ·refine⟨⟨o,I.kIn p o hk,hc⟩,λa e=>?_⟩;cases e;exact⟨o,I.kIn _ o hk,hd⟩
  ·have z:∃ o,s.heap.get? p=some o/\o.ExactDict:=by
    rcases hk with ⟨kvs,hk⟩|⟨kvs,hk⟩
    ·obtain⟨_,_,_,_,o,_,_,e,ex,_⟩:=I.hok p _ hk;exact⟨o,e,ex⟩
    ·obtain⟨_,_,_,_,o,_,_,e,ex,_⟩:=I.hok p _ hk;exact⟨o,e,ex⟩
   obtain⟨o,e,ex⟩:=z;refine⟨⟨o,e,ex.1⟩,λa J=>?_⟩;cases J;exact⟨o,e,ex.2.1⟩
  ·obtain⟨o,_,_,_,e,ex,_⟩:=I.hok p _ hk;refine⟨⟨o,e,ex.1⟩,λa J=>?_⟩;cases J;exact⟨o,e,ex.2.1⟩
 |_=>exact Nu ty
noncomputable def yG(K:Mm)(T:OE)(r:V->LR V->Hp->VK->Prop)(to:TE):TE:=λσ H Q=>to σ H λx H1=>rY K T x H1/\r x [] H1 Q
noncomputable def BB(K:Mm)(T:OE)(r:V->LR V->Hp->VK->Prop)(to:TE)(t:TA):TE:=λσ H Q=>to σ H λx H1=>rY K T x H1/\t σ H1 λxs H2=>r x xs H2 Q
variable {o e : Nv} {es : LR Nv} {to : TE} {t : TA} {name : Str} {apos cpos : Pos} {T id : OE} {r : V -> LR V -> Hp -> VK -> Prop}
theorem pQ(pa:PlainAttrs T)(slot:Slot T name id)(hty:RQ (.builtin id)=pure (.type "method_descriptor"))(hm:ju X id r)(ho:PE X o to)
  (hbase:OB o name X.env (eval o X.env)=eval o X.env:=by rfl)(hline:(apos.endLine==cpos.line)=true:=by rfl):PE X (.Call (.Attribute o name apos) [] [] cpos) (yG X.K T r to):=by
 intro pins s σ H Q I h;refine PM hbase hline (dh (ho pins s σ H _ I h) λv s1 ⟨x,H1,J,U,ty,q1⟩=>?_);obtain⟨h1,h2⟩:=rD J U ty;exact⟨T,id,pa,slot,hty,h1,h2,Oz rfl (Qz (hm pins s1 σ H1 x [] v [] Q J U .nil q1))⟩
theorem eV(pa:PlainAttrs T)(slot:Slot T name id)(hty:RQ (.builtin id)=pure (.type "method_descriptor"))(hm:ju X id r)(ho:PE X o to)(ha:PA X (e::es) t)
  (hbase:OB o name X.env (eval o X.env)=eval o X.env:=by rfl)
  (hfew:((Pb cpos (Ni (e::es) X.env)).all (λx=> !x.1)&&(RN cpos (Q3 [] X.env)).all (λx=>x.1.isSome)
   && decide ((e::es).length+([]:LR Keyword).length+(if ([]:LR Keyword).isEmpty then 0 else 1)<30))=true:=by rfl)
  (hline:(apos.endLine==cpos.line)=true:=by rfl)(hs:Ni (e::es) X.env=(false,eval e X.env)::Ni es X.env:=by rfl)(hplain:(Pb cpos (Ni es X.env)).any (·.1)=false:=by rfl):
  PE X (.Call (.Attribute o name apos) (e::es) [] cpos) (BB X.K T r to t):=by
 intro pins s σ H Q I h;refine wpAny_Call_method_late hbase hfew hline rfl (dh (ho pins s σ H _ I h) λv s1 ⟨x,H1,J,U,ty,q1⟩=>?_);obtain⟨h1,h2⟩:=rD J U ty;refine⟨T,id,pa,slot,hty,h1,h2,?_⟩;have hA:=ha cpos pins s1 σ H1 _ J q1;rw[hs] at hA ⊢;refine Oz (by show(false||(Pb cpos (Ni es X.env)).any (·.1))=false;rw[hplain]<;>rfl) (Qh ?_);exact dh hA λus s2 ⟨vs,H2,I2,r2,q2⟩=>hm pins s2 σ H2 x vs v us Q I2 U r2 q2
end
noncomputable def qK(X:Cx)(id:OE)(r:V->LR V->Hp->VK->Prop):Prop:=
 ∀(pins:LR (LS×Obj)) (s:Me) (σ:St) (H:Hp) (x:V) (xs:LR V) (v:LW) (us:LR LW) (Q:VK),Inv X pins σ H s->RelV x v->Vals xs us->r x xs H Q->
  MD (My X.prog X.w) X.A (call (.builtin id) (v::us)) (EP X pins σ Q) X.xe s
theorem Vals.one:∀{x:V} {us:LR LW},Vals [x] us->∃ u,us=[u]/\RelV x u
 |_,_,.cons r .nil=>⟨_,rfl,r⟩
theorem Vals.two:∀{x y:V} {us:LR LW},Vals [x,y] us->∃ u v,us=[u,v]/\RelV x u/\RelV y v
 |_,_,_,.cons r (.cons q .nil)=>⟨_,_,rfl,r,q⟩
section
variable {X : Cx} {pins : LR (LS × Obj)} {σ : St} {H : Hp} {s : Me} {l b : LS} {xs ys zs : LR V}
theorem Inv.lset {its its':LR LW}{n:Nat}{f:Nd LW->Nd LW}{t':Nat}(I:Inv X pins σ H s)(hH:H l=some (.lst xs))
  (e:s.heap.get? l=some {cls:= .type "list",data:= .seq its.toArray n})(hf:f its.toArray=its'.toArray)(hv:Vals ys its')(hz:ys.length<=sizeLine):
  Inv X pins σ (upd H l (.lst ys)) {s with heap:=s.heap.update l (Og f),toks:=t'}:=by
 have q:=PySem.IsL.update e f;rw[hf] at q;refine I.write (x:=l) (e:=l) (by rw[hH];exact trivial) (.inl rfl) (λU u hb J=>(Heap.get?_update_other s.heap (Og f) (Nt hb)).trans J) ⟨_,q⟩ ?_;exact⟨hz,its',_,hv,q⟩
theorem Inv.lnew {its:LR LW}{t':Nat}(I:Inv X pins σ H s)(hv:Vals ys its)(hz:ys.length<=sizeLine):
  Inv X pins σ (upd H s.heap.objs.size (.lst ys)) {s with heap:=s.heap.push {cls:= .type "list",data:= .seq its.toArray},toks:=t'}:=
 I.laid (λ_ _ q=>Heap.get?_push_of_some _ q) (Ma _) ⟨hz,its,0,hv,Heap.get?_push_size _ rfl⟩
theorem Inv.fresh (I:Inv X pins σ H s):H s.heap.objs.size=none:=I.hok.fresh (Ma _)
theorem Inv.lstM (I:Inv X pins σ H s)(hH:H l=some (.lst xs)):xs.length<=sizeLine/\∃(its:LR LW) (n:Nat),Vals xs its/\xs.length=its.length/\s.heap.get? l=some {cls:= .type "list",data:= .seq its.toArray n}:=by
 obtain⟨z,its,n,r,e⟩:=I.hok l _ hH;exact⟨z,its,n,r,r.length,e⟩
theorem Hu{n:Nat}(h:n<=sizeLine):Pw n=false:=by
 unfold Pw;exact LY (by lia)
end
section
variable {X : Cx}
noncomputable def Dq:V->LR V->Hp->VK->Prop:=λx vs H Q=>∃ l xs y,x= .ref l/\vs=[y]/\H l=some (.lst xs)/\xs.length<sizeLine/\Q .non (upd H l (.lst (xs++[y])))
theorem gE:qK X "list.append" Dq:=by
 intro pins s σ H x vs v us Q I rx rv h;obtain⟨l,xs,y,rfl,rfl,U,hz,q⟩:=h;cases rx;obtain⟨u,rfl,ru⟩:=rv.one;obtain⟨z,J,n,r,hl,e⟩:=I.lstM U;refine P8 MN ⟨_,e,rfl⟩ F.entry_list_append (F.args_list_append_2 _ _) (PySem.list_append l J.toArray n u (by rw[Mu];lia)) ⟨e,?_⟩;refine⟨.non,_,I.lset (its':=J++[u]) U e (by simp) (r.append (.cons ru .nil)) ?_,rfl,q⟩;rw[Md,List.length_singleton]
 lia
noncomputable def Jb:V->LR V->Hp->VK->Prop:=λx vs H Q=>∃ l b xs zs,x= .ref l/\vs=[.ref b]/\H l=some (.lst xs)/\H b=some (.lst zs)/\xs.length+zs.length<=sizeLine/\Q .non (upd H l (.lst (xs++zs)))
theorem tD:qK X "list.extend" Jb:=by
 intro pins s σ H x vs v us Q I rx rv h;obtain⟨l,b,xs,zs,rfl,rfl,hH,hB,hz,q⟩:=h;cases rx;obtain⟨u,rfl,ru⟩:=rv.one;cases ru;obtain⟨z,U,n,r,hl,e⟩:=I.lstM hH;obtain⟨z2,J,n2,r2,ab,e2⟩:=I.lstM hB;have hsz:U.toArray.size+J.toArray.size<=sizeLine:=by rw[Mu,Mu];lia
 have aa:¬ (!U.toArray.isEmpty&&Pw (U.toArray.size+J.toArray.size))=true:=by
  rw[Hu hsz,PV];exact MC
 refine P8 PD ⟨_,e,rfl⟩ F.entry_list_extend (F.args_list_extend_2 _ _)
  (AutoSeq1.list_extend_list_list_0 l U.toArray n b J.toArray n2 aa (by rw[Mu];lia) (by lia)) ⟨e,e2,?_⟩;refine⟨.non,_,I.lset (its':=U++J) hH e (by simp) (r.append r2) ?_,rfl,q⟩;rw[Md]
 lia
noncomputable def vA:R2:=λx y H Q=>∃ l b xs zs,x= .ref l/\y= .ref b/\H l=some (.lst xs)/\H b=some (.lst zs)/\xs.length+zs.length<=sizeLine/\∀ p,H p=none->Q (.ref p) (upd H p (.lst (xs++zs)))
theorem q5:fz X (Qg .Add) vA:=by
 intro pins s σ H x y v u Q I rx ry h;obtain⟨l,b,xs,zs,rfl,rfl,hH,hB,hz,q⟩:=h;cases rx;cases ry;obtain⟨z,U,n,r,hl,e⟩:=I.lstM hH;obtain⟨z2,J,n2,r2,aa,e2⟩:=I.lstM hB;refine PySem.P.add_list e e2 ?_ (by rw[Mu,Mu];lia);have ea:U.toArray++J.toArray=(U++J).toArray:=by simp
 rw[ea];exact⟨.ref _,_,I.lnew (t':=s.toks) (r.append r2) (by rw[Md];lia),rfl,q _ I.fresh⟩
end
section
variable {prog : Mq} {w : MT} {A : Np} {E : LW -> Me -> Prop} {s : Me}
end
section
variable {X : Cx}
end
end L2
namespace Att
open PySem PySem.W PySem.Calls PyProof.Rows
theorem Kj{P:Params}{h:Nn}:∀(ns:LR Int) (vs:LR LW),WellAll P h vs (ns.map Rh)->IntsAre vs ns:=by
 intro ns;induction ns with
 |nil=>
  intro vs w;rw[Ro] at w;cases w;exact .nil
 |cons n ns I=>
  intro vs w;rw[Nb] at w;cases w with
  |cons a b=>
   cases a;exact .cons _ _ (I _ b)
theorem EE{l:OpenLaw}{n:Nat}(hn:l.most=some n){P:Params}{h:Nn}{args:LR WData}{vals:LR LW}
  (hpre:l.row.toRowW.claim.pre args=true)(hwl:WellAll P h vals args):
  ∃ a vs ns,vals=[ME a]/\args=[WData.list (ns.map Rh)]/\h.get? a=some {cls:= .type "list",data:= .seq vs.toArray}/\IntsAre vs ns/\ns.length<=n:=by
 have aa:WShape.hasAll [] args [.list .int]=true:=(pre_splitW hpre).1
 have hc:l.pre.holds [] {args:=args}=true:=(pre_splitW hpre).2;obtain⟨d,r,rfl,h1,h2⟩:=hasAllW_cons aa;obtain rfl:=hasAllW_nil h2;obtain⟨xs,rfl,h3⟩:=hasW_list h1;obtain⟨ns,rfl⟩:=items_int h3;have hlen:ns.length<=n:=by
  unfold OpenLaw.pre at hc;have J:(WTm.not (.lt (.lit (.int (n:Int))) (.len (.arg 0)))).holds [] {args:=[.list (ns.map .int)]}=true:=by
   have J:=(holds_andW hc).1;rw[hn] at J;exact J
  have U:=condW_of J (w_not (w_lt w_lit (w_len_list (w_arg rfl))));rw[LV] at U;refine Nat.le_of_not_lt λq=>?_
  have q':(n:Int)<((ns.length:Nat):Int):=by lia
  first
   |(rw[Mb q'] at U;exact absurd U (by decide))
   |(simp at U;lia)
 cases hwl with
 |cons w1 w2=>
  cases w2;cases w1 with
  |list ho I=>exact⟨_,_,ns,rfl,rfl,ho,Kj ns _ I,hlen⟩
theorem Gq(l:OpenLaw)(args:LR WData):l.row.toRowW.claim.post args (.bool true) args=true:=
 postW_of (r:=l.row.toRowW) (X:=(true==true))
  (show WShape.has [] (.bool true) .bool=true by first|rfl|decide|simp[WShape.has,WShape.arms,WShape.armsAll])
  (show(WTm.eq .res (.lit (.bool true))).value [] {args:=args,res:=some (.bool true),after:=args}=some (.bool (true==true)) from w_eq_bool (w_res rfl) w_lit) rfl
section
variable {prog : Mq} {w : MT} {A : Np} {E : LW -> Me -> Prop} {s : Me} {K : Frag}
end
end Att
namespace L2
open PySem PySem.Spec PyProof.Rows
theorem zB:∀{vs:LR LW} {ns:LR Int},IntsAre vs ns->Vals (ns.map V.int) vs
 |_,_,.nil=> .nil
 |_,_,.cons n t h=> .cons ⟨t,rfl⟩ (zB h)
noncomputable def ym(H:Hp):Prop:=∀ b,H b=none\/∃ o xs,H b=some (.frz o (.lst xs))
theorem Gb{P:Mq}{w:MT}{K:Mm}{mg mb:Str->Mc LW}{CX:iq}{k:Nat}{fa a:LS}{fd:Mj}{x:Str}{sp:Sp}{s₁:Me}{vs:LR LW}{ns:LR Int}
  (KX:K.In s₁.heap)(hns:s₁.heap.Ns Mw mg)(hb:s₁.heap.Ns builtinsNs mb)(hbb:∀ x:Str,x≠"__name__"->mb x=Ny x)(hlim:s₁.heap.NoLimit)(hg:s₁.gens=#[])
  (ha:s₁.heap.get? a=some {cls:= .type "list",data:= .seq vs.toArray})(hi:IntsAre vs ns)(hl:ns.length<=sizeLine)(hr:eK k RK)
  (F:∀ base:Nn,K.In base->base.Ns Mw mg->cV P w K mg base CX k fa fd [x] sp)(hbind:∀(s:Me) (u:LW),RJ s fd ⟨[u],[]⟩ [(x,u)])
  (hsp:∀ H:Hp,ym H->cS K H a (ns.map V.int)->sp [.ref a] H (λv _=>v= .bl true) λ_ _ _=>Om)
  (hCX:∀ H e s',CX [] H s₁ (λ_ _ _=>Om) e s'->Om):
  QE (My P w) RK (.call (.ref fa) ⟨[.ref a],[]⟩) (λr s'=>r= .ok (.ret (.bool true))/\OldK s₁.heap s'.heap/\s'.os=s₁.os/\QB s'.gens) s₁:=by
 have rv:=zB hi
 have U:=hi.length
 have core:∀ H:Hp,ym H->cS K H a (ns.map V.int)->eS P w H s₁.heap->(∀ b,H b≠none->b=a)->(H a≠none->K.lookup a=none)->
   QE (My P w) RK (.call (.ref fa) ⟨[.ref a],[]⟩) (λr s'=>r= .ok (.ret (.bool true))/\OldK s₁.heap s'.heap/\s'.os=s₁.os/\QB s'.gens) s₁:=by
  intro H hO hS hok hA hK;have I:∀{b:LS} {o:Obj},s₁.heap.get? b=some o->H b=none->(km s₁.heap H).get? b=some o:=λe n=>Jh e n
  have ae:∀{b:LS} {o:Obj} {es:Nd DictEntry} {ep:Nat},s₁.heap.get? b=some o->o.data= .dict es ep->H b=none:=λ{b o es ep} e d=>by
   cases q:H b with
   |none=>rfl
   |some u=>
    have e':b=a:=hA b (by rw[q];simp);subst e';rw[ha] at e;cases e;have d':Data.seq vs.toArray _=Data.dict es ep:=d;cases d'
  have J:∀{b:LS} {m:Str->Mc LW},s₁.heap.Ns b m->(km s₁.heap H).Ns b m:=λ{b m} ⟨o,es,ep,e,d,r⟩=>⟨o,es,ep,I e (ae e d),d,r⟩
  have aa:K.In (km s₁.heap H):=λb o e=>I (KX b o e) (by
   cases q:H b with
   |none=>rfl
   |some u=>
    have e':b=a:=hA b (by rw[q];simp);subst e';rw[hK (by rw[q];simp)] at e;cases e)
  have hM:Mod K mg (km s₁.heap H):=⟨aa,J hns,⟨mb,J hb,hbb⟩,let ⟨mc,h1,h2⟩:=hlim;⟨mc,J h1,h2⟩⟩
  have e0:jU P w K mg (km s₁.heap H) RK [] s₁ H:=⟨rfl,hM,λb o e=>Jx e,Nat.le_of_eq (J4 _ _),trivial,λb hb=>absurd (show b∈([]:LR LS) from hb) (by simp),hok,.of_eq hg⟩;refine PU ((F _ aa (J hns)).run RK [] s₁ H ⟨[.ref a],[]⟩ [.ref a] [.ref a] _ _ hr e0 (hbind s₁ (.ref a)) (.cons rfl .nil) (hsp H hO hS)) λr s' h=>?_
  cases r with
  |error e=>exact(hCX H e s' h).elim
  |ok fl=>
   cases fl with
   |next=>exact Nu h
   |brk=>exact Nu h
   |cont=>exact Nu h
   |ret u=>
    obtain⟨v,H',os,bare,un,ab,r',q⟩:=h;have q':v= .bl true:=q;subst q';obtain rfl:u=Rl true:=r';refine⟨rfl,OldK.of_keep λb o e=>?_,os,bare⟩;cases q:H b with
    |none=>exact un.keep b o e q (by intro z;exact absurd (show b∈([]:LR LS) from z) (by simp)) (by simp)
    |some u=>
     rcases hO b with z|⟨ob,xs,z⟩
     ·rw[q] at z;cases z
     ·have z2:=un.frzs b ob _ z;obtain⟨e1,_⟩:=hok b _ z;obtain⟨e2,_⟩:=ab b _ z2;rw[e] at e1;cases e1;exact e2
 cases hk:K.lookup a with
 |some o=>
  have e:=KX a o hk;rw[ha] at e;cases e;refine core (λ_=>none) (λ_=> .inl rfl) (.inr ⟨_,vs.toArray,_,hk,rfl,rfl,rfl,by rw[Mu,U];exact hl,by simpa using rv⟩) (λb u z=>by have z':(none:Mc HO)=some u:=z;cases z') (λb z=>absurd rfl z) λz=>absurd rfl z
 |none=>
  refine core (λb=>if b=a then some (.frz {cls:= .type "list",data:= .seq vs.toArray} (.lst (ns.map V.int))) else none) (λb=>?_) (.inl (.inr ⟨{cls:= .type "list",data:= .seq vs.toArray},LZ rfl⟩)) (λb u z=>?_) (λb z=>?_) λ_=>hk
  ·by_cases hb:b=a
   ·exact .inr ⟨_,_,LZ hb⟩
   ·exact .inl (LX hb)
  ·by_cases hb:b=a
   ·have z':=(LZ hb).symm.trans z;cases z';subst hb;exact⟨ha,by rw[LV];exact hl,vs,_,rv,ha⟩
   ·have z':=(LX hb).symm.trans z;cases z'
  ·by_cases hb:b=a
   ·exact hb
   ·exact absurd (LX hb) z
noncomputable abbrev dm{K:Mm}{h:Nn}(_:K.In h):Mm:=K
noncomputable def inClass(s:Nr)(j:Nat):Nr:=match s with
 |.ClassDef _ _ _ body _ _ _ _ _ _ _=>body.getD j (.Pass ⟨0,0,0,0⟩)
 |_=> .Pass ⟨0,0,0,0⟩
noncomputable def eU(s:Nr):Arguments:=match s with
 |.FunctionDef _ a _ _ _ _ _ _ _ _=>a
 |_=>{posonlyargs:=[],args:=[],vararg:=none,kwonlyargs:=[],kw_defaults:=[],kwarg:=none,defaults:=[]}
noncomputable def eG(s:Nr):LR Nr:=match s with
 |.FunctionDef _ _ b _ _ _ _ _ _ _=>b
 |_=>[]
noncomputable def c9(s:Nr):Qe:=match s with
 |.FunctionDef _ _ _ _ _ _ sc _ _ _=>sc
 |_=>{kind:= .function,names:=[],isGenerator:=false,isCoroutine:=false}
noncomputable abbrev dc:iq:=λ_ _ _ _ _ _=>Om
noncomputable abbrev E0:XK:=λ_ _ _=>Om
theorem du{X:Cx}:Passes dc X E0:=λ_ _ _ _ _ _ _ h=>h.elim
structure dv (K : Mm) (x qual : Str) (st : Nr) (f : LS) (fd : Mj) : Prop where
 ex : ∃ (oc : LW) (od : Mc LS) (kV doc pm : LW) (an : Mc LS) (cdv ct : LW) (osl : Nd (Mc LW)),
  fd = NN x qual (eU st) (eG st) (c9 st) .none kV doc pm an cdv ct /\ K.lookup f = some ⟨oc, od, .func fd, osl⟩ /\ NA K cdv qual = true
 kp : Nx K (.ref f) = true
section
variable {P : Mq} {w : MT} {K : Mz} {mg : Str -> Mc LW} {base : Nn}
theorem dv.ok {x qual:Str}{st:Nr}{f:LS}{fd:Mj}{N ps:LR Str}{k:Nat}{sp:Sp}(F:dv K x qual st f fd)(S:dC N ps (c9 st))(len:∀ vs H Q E,sp vs H Q E->vs.length=ps.length)
  (hbody:∀(cdv:LW) (A:Np) (outer:LR Env) (s:Me) (H:Hp) (vs:LR V) (Q:VK) (E:XK),eK k (A.deeper (Pc qual (c9 st) s.heap.objs.size f cdv))->sp vs H Q E->
   ∃ t,dj (fL dc P w K mg base N qual (c9 st) f cdv A outer s H E).nox (eG st) t/\t {nx:=λ_ H'=>Q .non H',rt:=Q} (start N vs) H):cV P w K mg base dc (k+1) f fd ps sp:=by
 obtain⟨oc,od,kV,doc,pm,an,cdv,ct,U,rfl,lk,I⟩:=F.ex;refine rO lk I S len λA outer s H vs Q E hr J=>?_
 obtain⟨t,h,q⟩:=hbody cdv A outer s H vs Q E hr J;exact⟨t,h.nox,q⟩
theorem dv.binds {x qual:Str}{st:Nr}{f:LS}{fd:Mj}{ps:LR Str}(F:dv K x qual st f fd)
  (h:∀(kV doc pm:LW) (an:Mc LS) (cdv ct:LW) (us:LR LW),us.length=ps.length->RM (NN x qual (eU st) (eG st) (c9 st) .none kV doc pm an cdv ct) ⟨us,[]⟩=pure (ps.zip us)):Binds K fd ps []:=by
 obtain⟨U,od,kV,doc,pm,an,cdv,ct,I,rfl,lk,J⟩:=F.ex;exact .all (h kV doc pm an cdv ct)
theorem gg{x qual:Str}{st:Nr}{f:LS}{oc:LW}{od an:Mc LS}{osl:Nd (Mc LW)}{kV doc pm cdv ct:LW}(l:K.lookup f=some ⟨oc,od,.func (NN x qual (eU st) (eG st) (c9 st) .none kV doc pm an cdv ct),osl⟩)
  (c:NA K cdv qual=true)(k:Nx K (.ref f)=true):dv K x qual st f (NN x qual (eU st) (eG st) (c9 st) .none kV doc pm an cdv ct):=⟨⟨oc,od,kV,doc,pm,an,cdv,ct,osl,rfl,l,c⟩,k⟩
end
theorem iP{A:Np}{k:Nat}(hr:eK k A):A.units+1<PR:=Nat.lt_of_le_of_lt (Nat.add_le_add_left (by decide:1<=64) _) hr.units
section
variable {X : Cx}
theorem pv(i:Nat){x:Str}{pos:Pos}(hN:X.N[i]? =some x:=by rfl)(hv:oX X.env.scope x:=by first|exact Mh rfl|exact Rq (Mh rfl)|exact Rq (Rq rfl))(hd:(x==("__debug__":Str))=false:=by decide)
  (hcd:(x==("__classdict__":Str))=false:=by decide):PE X (.Name x pos) (je i):=Kk hN hv hd hcd
end
theorem df{A B:Prop}(h:B):if false=true then A else B:=by
 rw[LX MC];exact h
theorem dG{A B:Prop}(h:A):if true=true then A else B:=by
 rw[LZ rfl];exact h
theorem oZ{c A B:Prop} [Decidable c] (h1:c->A)(h2:¬ c->B):if c then A else B:=by
 by_cases h:c
 ·rw[LZ h];exact h1 h
 ·rw[LX h];exact h2 h
noncomputable def cR(H H':Hp):Prop:=∀ b o,H b=some o->H' b=some o
theorem cR.refl (H:Hp):cR H H:=λ_ _ h=>h
theorem cR.trans {H H1 H2:Hp}(a:cR H H1)(b:cR H1 H2):cR H H2:=λc o h=>b c o (a c o h)
theorem cR.free {H H':Hp}(e:cR H H'){l:LS}(h:H' l=Option.none):H l=Option.none:=by
 cases q:H l with
 |none=>rfl
 |some o=>
  rw[e l o q] at h;cases h
theorem cR.seq {K:Mm}{H H':Hp}{a:LS}{xs:LR V}(e:cR H H')(h:cS K H a xs):cS K H' a xs:=by
 rcases h with (h|⟨o,h⟩)|h
 ·exact .inl (.inl (e _ _ h))
 ·exact .inl (.inr ⟨o,e _ _ h⟩)
 ·exact .inr h
end L2
set_option maxHeartbeats 4000000
namespace L2
open PySem PySem.Spec PyProof.Rows
section
variable {X : Cx}
theorem Bf:ju X "str.lower" (λx xs H Q=>∃ z,x= .str z/\xs=[]/\z.length<=5592405/\Q (.str (Txt.lower z)) H):=by
 intro pins s σ H x xs v us Q I J rs h;obtain⟨z,rfl,rfl,U,q⟩:=h;obtain⟨t,rfl⟩:=J;cases rs;exact SCL.lower U λ_=>⟨.str _,H,I.tok _,⟨_,rfl⟩,q⟩
theorem zH:ju X "str.upper" (λx xs H Q=>∃ z,x= .str z/\xs=[]/\z.length<=5592405/\Q (.str (Txt.upper z)) H):=by
 intro pins s σ H x xs v us Q I J rs h;obtain⟨z,rfl,rfl,U,q⟩:=h;obtain⟨t,rfl⟩:=J;cases rs;exact SCL.upper U λ_=>⟨.str _,H,I.tok _,⟨_,rfl⟩,q⟩
theorem F9:ju X "str.strip" (λx xs H Q=>∃ z,x= .str z/\xs=[]/\z.length<=sizeLine/\Q (.str (Txt.strip z)) H):=by
 intro pins s σ H x xs v us Q I J rs h;obtain⟨z,rfl,rfl,U,q⟩:=h;obtain⟨t,rfl⟩:=J;cases rs;exact SCL.strip (λt' k _=>⟨.str _,H,I.tok _,⟨_,rfl⟩,q⟩) U
theorem uz:∀{ys:LR Str} {us:LR LW},Vals (ys.map V.str) us->StrsAre us ys
 |[],_,.nil=> .nil
 |y::ys,_,.cons r t=>by
  obtain⟨k,e⟩:=(show ∃ k,_=PJ y k from r);subst e;exact .cons y k (uz t)
theorem tX:ju X "str.join" (λx xs H Q=>∃ z p ys,x= .str z/\xs=[.ref p]/\cS X.K H p (ys.map V.str)/\(ys.map (·.length)).sum+ys.length*z.length<=16777216/\Q (.str (Txt.join z ys)) H):=by
 intro pins s σ H x xs v us Q I J rs h;obtain⟨z,p,ys,rfl,rfl,U,hz,q⟩:=h;obtain⟨t,rfl⟩:=J;obtain⟨u,rfl,r1⟩:=vals1 rs;cases r1;obtain⟨aa,r,pl,_⟩:=I.list U;exact join_list pl.isList (by simpa using uz r) hz λt' k=>⟨.str _,H,I.tok _,⟨_,rfl⟩,q⟩
noncomputable def Gk:V->Mc Int->Mc Int->Hp->VK->Prop:=λx lo hi H Q=>∃ z,x= .str z/\z.length<=sizeLine/\Q (.str (Txt.slice z lo hi)) H
theorem jS:tN X Gk:=by
 intro pins s σ H x v vl vu lo hi sl Q I rx hs pl pu h;obtain⟨z,rfl,J,q⟩:=h;obtain⟨t,rfl⟩:=rx;refine⟨"str",_,F.slot_str_getitem.lookup,QQ _ _ _,?_⟩;cases pl with
 |none=>
  cases pu with
  |none=>exact OU (l:=none) (u:=none) (st:=none) hs rfl (Qs ⟨Mr (Txt.slice_le z _ _) J,λt' k=>⟨.str (Txt.slice z none none),H,I.tok _,⟨_,rfl⟩,q⟩⟩)
  |int j U=>exact OU (l:=none) (u:=some (j,U)) (st:=none) hs rfl (Qs ⟨Mr (Txt.slice_le z _ _) J,λt' k=>⟨.str (Txt.slice z none (some j)),H,I.tok _,⟨_,rfl⟩,q⟩⟩)
 |int i ti=>
  cases pu with
  |none=>exact OU (l:=some (i,ti)) (u:=none) (st:=none) hs rfl (Qs ⟨Mr (Txt.slice_le z _ _) J,λt' k=>⟨.str (Txt.slice z (some i) none),H,I.tok _,⟨_,rfl⟩,q⟩⟩)
  |int j U=>exact OU (l:=some (i,ti)) (u:=some (j,U)) (st:=none) hs rfl (Qs ⟨Mr (Txt.slice_le z _ _) J,λt' k=>⟨.str (Txt.slice z (some i) (some j)),H,I.tok _,⟨_,rfl⟩,q⟩⟩)
theorem Dh:fz X (Qg .Mult) (λx y H Q=>∃ z n,x= .str z/\y= .int n/\MulOk z n/\Q (.str (Txt.mul z n)) H):=by
 intro pins s σ H x y v u Q I J U h;obtain⟨z,n,rfl,rfl,hz,q⟩:=h;obtain⟨t,rfl⟩:=J;obtain⟨t',rfl⟩:=U;exact SB.mul hz λt' k=>⟨.str _,H,I.tok _,⟨_,rfl⟩,q⟩
theorem ze:fz X (NX .LtE) (λx y H Q=>∃ i j,x= .str i/\y= .str j/\Q (.bl (!(decide (j.cps.toList<i.cps.toList)))) H):=by
 intro pins s σ H x y v u Q I J U h;obtain⟨i,j,rfl,rfl,q⟩:=h;obtain⟨t,rfl⟩:=J;obtain⟨t',rfl⟩:=U;exact PySem.P.le_str ⟨.bl _,H,I,rfl,q⟩
mutual
inductive gc (K : Mz) (H : Hp) : V -> OV -> Prop
 |non : gc K H .non .none
 |bl (b : Nw) : gc K H (.bl b) (.bool b)
 |int (i : Int) : gc K H (.int i) (.int i)
 |str (x : Str) : gc K H (.str x) (.str x)
 |lst {a : LS} {xs : LR V} {ds : LR OV} : cS K H a xs -> fQ K H xs ds -> gc K H (.ref a) (.list ds)
 |tup {a : LS} {xs : LR V} {ds : LR OV} : dY K H a xs -> fQ K H xs ds -> gc K H (.ref a) (.tuple ds)
inductive fQ (K : Mz) (H : Hp) : LR V -> LR OV -> Prop
 |nil : fQ K H [] []
 |cons {x : V} {xs : LR V} {d : OV} {ds : LR OV} : gc K H x d -> fQ K H xs ds -> fQ K H (x :: xs) (d :: ds)
end
mutual
theorem gc.reads {pins : LR (LS × Obj)} {σ : St} {H : Hp} {s : Me} (I : Inv X pins σ H s) : ∀ {x : V} {d : OV} {u : LW}, gc X.K H x d -> RelV x u -> ∃ as, Reads s.heap u d as
 | _, _, _, .non, r => by cases r; exact ⟨_, .none⟩
 | _, _, _, .bl b, r => by cases r; exact ⟨_, .bool b⟩
 | _, _, _, .int i, r => by obtain ⟨t, rfl⟩ := r; exact ⟨_, .int i t⟩
 | _, _, _, .str x, r => by obtain ⟨t, rfl⟩ := r; exact ⟨_, .str x t⟩
 | _, _, _, .lst hq hs, r => by
  cases r
  obtain ⟨its, rv, ⟨o, n, e, c, _, d⟩, _⟩ := I.list hq
  obtain ⟨as, ra⟩ := fQ.reads I hs rv
  exact ⟨_, .list e c d (by simpa using ra)⟩
 | _, _, _, .tup hq hs, r => by
  cases r
  obtain ⟨its, rv, ⟨o, e, c, n, d⟩, _⟩ := I.tuple hq
  obtain ⟨as, ra⟩ := fQ.reads I hs rv
  exact ⟨_, .tuple e c d (by simpa using ra)⟩
theorem fQ.reads {pins : LR (LS × Obj)} {σ : St} {H : Hp} {s : Me} (I : Inv X pins σ H s) : ∀ {xs : LR V} {ds : LR OV} {us : LR LW}, fQ X.K H xs ds -> Vals xs us -> ∃ as, ReadsAll s.heap us ds as
 | _, _, _, .nil, .nil => ⟨_, .nil⟩
 | _, _, _, .cons h hs, .cons r rs => by
  obtain ⟨as, ra⟩ := gc.reads I h r
  obtain ⟨bs, rb⟩ := fQ.reads I hs rs
  exact ⟨_, .cons ra rb⟩
end
noncomputable def Lr(X:Cx):R2:=λx y H Q=>∃ dx I,gc X.K H x dx/\gc X.K H y I/\dx.canLay0=true/\I.canLay0=true/\min dx.depth I.depth<=100/\Q (.bl (RL dx I)) H
noncomputable def Cc(X:Cx):R2:=λx y H Q=>∃ dx I,gc X.K H x dx/\gc X.K H y I/\dx.canLay0=true/\I.canLay0=true/\min dx.depth I.depth<=100/\Q (.bl (!PyData.eqv dx I)) H
theorem Ad(hu:X.A.units+100<PR):fz X (NX .Eq) (Lr X):=by
 intro pins s σ H x y v u Q I U ry h;obtain⟨dx,dy,hx,hy,lx,J,hd,q⟩:=h;obtain⟨as,ra⟩:=hx.reads I U;obtain⟨bs,rb⟩:=hy.reads I ry;exact SeqAt.compareEq_reads ra rb lx J (by(clear J lx;lia)) ⟨.bl _,H,I,rfl,q⟩
theorem EW(hu:X.A.units+100<PR):fz X (NX .NotEq) (Cc X):=by
 intro pins s σ H x y v u Q I U ry h;obtain⟨dx,dy,hx,hy,lx,J,hd,q⟩:=h;obtain⟨as,ra⟩:=hx.reads I U;obtain⟨bs,rb⟩:=hy.reads I ry;exact SeqAt.compareNe_reads ra rb lx J (by(clear J lx;lia)) ⟨.bl _,H,I,rfl,q⟩
theorem sJ:∀{bs:LR Nw} {us:LR LW},Vals (bs.map V.bl) us->∀(i:Nat) (v:LW),us[i]? =some v->∃ b,bs[i]? =some b/\v= .bool b
 |[],_,.nil,i,v,h=>by simp at h
 |b::bs,_,.cons r t,0,v,h=>by
  have I:_=Rl b:=r;subst I;simp at h;exact⟨b,by simp,h.symm⟩
 |b::bs,_,.cons r t,i+1,v,h=>by
  obtain⟨c,J,U⟩:=sJ t i v (by simpa using h);exact⟨c,by simpa using J,U⟩
theorem nG(hc:X.calm=true):gy X (.builtin "all") (λxs H Q=>∃(p:LS) (bs:LR Nw),xs=[.ref p]/\cS X.K H p (bs.map V.bl)/\Q (.bl (bs.all id)) H):=by
 intro pins s σ H xs us Q I r h;obtain⟨p,bs,rfl,hq,q⟩:=h;obtain⟨u,rfl,rx⟩:=vals1 r;cases rx;obtain⟨J,rv,pl,hz⟩:=I.list hq;have hl:=pl.isList;have hlen:=rv.length;rw[LV] at hlen;have U:p<s.heap.objs.size:=by obtain⟨_,e,_⟩:=hl;exact Mv e
 refine call_all_walk (QX hl ?_);refine⟨s.heap.objs.size,[s.heap.objs.size,p],[s.heap.objs.size],J.toArray.size,_,_,λi=>(bs[i]?).getD true,rfl,Walks.list (A:=X.A.in1) (I.ok.hd hc) _ p (MV U) J.toArray,
  ⟨⟨_,Heap.get?_push_size _ rfl,rfl,rfl⟩,hl.push _⟩,λi v s' Q' E' hP hQ=>?_,λh' tk hk=>?_⟩
 ·obtain⟨b,e,rfl⟩:=sJ rv i v (by simpa using hP);simp only[e,Option.getD_some] at hQ;exact Oc hQ
 ·have e:((NQ J.toArray.size).all λi=>(bs[i]?).getD true)=bs.all id:=by
   rw[Mu,<-hlen];exact LSm.range_all bs
  rw[e];exact⟨.bl _,H,I.kept (LSm.kept_iter hk),rfl,q⟩
theorem jb:gy X (.builtin "isinstance") (λxs H Q=>∃ x c t b,xs=[x,c]/\fO X.K H x t/\
  ((∃ n,c= .ty n/\Ng X.K t (.type n)=some b)\/(∃ C,c= .ref C/\Ng X.K t (.ref C)=some b))/\Q (.bl b) H):=by
 intro pins s σ H xs us Q I r h;obtain⟨x,c,t,b,rfl,ty,U,q⟩:=h;obtain⟨u,w',rfl,J,rc⟩:=vals2 r;rcases U with ⟨n,rfl,e⟩|⟨C,rfl,e⟩
 ·cases rc;exact zj I J ty e λtk=>⟨.bl b,H,I.tok tk,rfl,q⟩
 ·cases rc;exact zj I J ty e λtk=>⟨.bl b,H,I.tok tk,rfl,q⟩
end
section
variable {X : Cx} {pins : LR (LS × Obj)} {σ : St} {H H' : Hp} {s : Me} {h' : Nn}
theorem Inv.track {a:LS}{o:HO}(I:Inv X pins σ H s)(hs:X.s₀.heap.get? a=none\/a∈X.ex)(hn:H a=none)(hL:a≠X.env.locals)(hC:∀ x c,X.env.cells.lookup x=some c->c≠a)(hp:∀ p∈X.pn++pins,p.1≠a)
  (new:eC X.prog X.w (upd H a o) s.heap a o):Inv X pins σ (upd H a o) s:=by
 refine⟨I.ok,I.os,I.bare,⟨I.base.keep,I.base.slot,λb U e n hx=>?_,I.base.there,λb xs e=>?_,λb U u e=>?_,λb ps e=>?_⟩,I.loc,I.cell,?_,λx c e=>?_,λp J=>?_,λb u e=>?_,I.len⟩
 ·have hb:b≠a:=by
   rintro rfl;rcases hs with z|z
   ·rw[z] at e;cases e
   ·exact hx z
  rw[cW hb];exact I.base.free b U e n hx
 ·have q:=I.base.tups b xs e;rw[cW (dF q hn)];exact q
 ·have q:=I.base.frzs b U u e;rw[cW (dF q hn)];exact q
 ·obtain⟨m,q⟩:=I.base.tbls b ps e;exact⟨m,by rw[cW (dF q hn)];exact q⟩
 ·rw[cW (Nt hL)];exact I.free
 ·rw[cW (hC x c e)];exact I.freeC x c e
 ·obtain⟨e,n,r⟩:=I.pin p J;exact⟨e,by rw[cW (hp p J)];exact n,r⟩
 ·by_cases hb:b=a
  ·subst hb;rw[cT] at e;cases e;exact new
  ·rw[cW hb] at e;exact(I.hok b u e).stay (λc v _ q=>q) (λc q=>by rw[cW (dF q hn)];exact q) λc xs q=>by rw[cW (dF q hn)];exact q
theorem Inv.turnedL {t':Nat}{fp:LR LS}(I:Inv X pins σ H s)(k:∀ b o,b∉fp->s.heap.get? b=some o->h'.get? b=some o)(hf:∀ b∈fp,jH X pins H b):Inv X pins σ H {s with heap:=h',toks:=t'}:=by
 have U:∀ b u,H b=some u->b∉fp:=λb u e z=>by rw[(hf b z).1] at e;cases e
 refine I.step (g':=s.gens) (d':=s.drawn) (ch:=fp) (λb hb=>?_) (λb o _ _ J e _=>k b o J e) (λb o _ _ J e _=>⟨o.slots,k b o J e⟩) (λ_ _ _ _ n=>n)
  (λb o J e=>⟨o,k b o J e⟩) (λ_ _ e=>e) (λ_ _ _ e=>e) (λb ps e=>⟨#[],by rw[e];simp⟩) (λm hm=>?_) (λb u e=>?_) I.bare
 ·obtain⟨f0,f1,f2,f3,f4,f5⟩:=hf b hb;exact⟨f3,f1,f4,f5⟩
 ·obtain⟨o,es,ep,ho,r⟩:=hm;exact⟨o,es,ep,k _ o (λz=>(hf _ z).2.1 rfl) ho,r⟩
 ·refine(I.hok b u e).stay (λc v J q=>k c v ?_ q) (λ_ q=>q) λ_ _ q=>q
  rcases J with z|z
  ·rw[z];exact U b u e
  ·exact U c _ z
end
noncomputable def uS(x:Str):It:=⟨λi _=>i<x.cps.size,λi H v H'=>H'=H/\∃ c,x.cps[i]? =some c/\v= .str ⟨#[c]⟩,λi _=>i=x.cps.size⟩
theorem Bx{P:Mq}{w:MT}{A:Np}(hh:A.handled=none)(I:LS)(x:Str)(t:Tok):Walks P w A I [I] [I] x.cps.size (SignAt x) (λi h=>h.IsStrIter I (OZ x) x t i):=by
 unfold OZ;cases x.cps.all (· < 128)
 ·exact Walks.strWide hh I x t
 ·exact Walks.strAscii hh I x t
theorem D8{x:Str}:["enumerate","zip","dict_itemiterator","dict_reverseitemiterator","odict_iterator","itertools.zip_longest","itertools.pairwise"].contains (OZ x)=false:=by
 unfold OZ;cases x.cps.all (· < 128)<;>decide
theorem Eh{P:Mq}{w:MT}{K:Mm}{tg:Nv}(x:Str)(t:Tok)(it:LS):Turn P w K tg (uS x) [it] it (λi h=>h.IsStrIter it (OZ x) x t i) where
 mem:=by simp
 obj:=λi h st b hb=>by
  have e:b=it:=by simpa using hb
  subst e;obtain⟨o,e,c,d⟩:=st;exact⟨o,e,λv z=>by rw[d] at z;cases z⟩
 keep:=λi h h' st k=>by
  obtain⟨o,e,r⟩:=st;exact⟨o,k it (by simp) o e,r⟩
 item:=by
  intro X U hw hK hc i pins s σ H E I hf st hg;subst U hw hK;refine(Bx (P:=X.prog) (w:=X.w) (I.ok.hd hc) it x t).item i s _ _ hg st λv h' tk hv J kk=>?_
  obtain⟨c,u,aa,rfl⟩:=hv;have I1:Inv X pins σ H {s with heap:=h',toks:=tk}:=I.turnedL kk hf;obtain⟨o,e,c2,d⟩:=id J;exact⟨_,rfl,mZ (s:={s with heap:=h',toks:=tk}) e c2 d D8 ⟨.str ⟨#[c]⟩,H,I1,⟨u,rfl⟩,⟨rfl,c,aa,rfl⟩,J,λb hb=>(hf b hb).1⟩⟩
 done:=by
  intro X U hw hK hc i pins s σ H E I hf st hg;subst U hw hK;have ab:i=x.cps.size:=hg;subst ab;exact(Bx (P:=X.prog) (w:=X.w) (I.ok.hd hc) it x t).done s _ _ st λh' tk kk=>⟨rfl,I.turnedL kk hf⟩
 self:=λA i s Q E st h=>by
  revert st;unfold OZ;cases x.cps.all (· < 128)
  ·exact λst=>wpAny_pyIter_striter_wide st h
  ·exact λst=>wpAny_pyIter_striter_ascii st h
noncomputable def Iv(tl:TE):TI:=λσ H R=>tl σ H λv H1=>∃ x,v= .str x/\R (uS x) H1
section
variable {X : Cx} {tg : Nv}
theorem va{l:Nv}{tl:TE}(hl:PE X l tl):PI X tg l (Iv tl):=by
 intro pins s σ H R I h;refine dh (hl pins s σ H _ I h) λv s1 ⟨y,H1,J,U,x,e,q⟩=>?_
 subst e;obtain⟨t,rfl⟩:=U;refine wpAny_pyIter_strU ?_;refine⟨s1.heap.objs.size,[s1.heap.objs.size],_,_,H1,rfl,J.kept (t':=s1.toks) λb o e=>Heap.get?_push_of_some _ e,Eh x t _,⟨_,Heap.get?_push_size _ rfl,rfl,rfl⟩,λb hb=>?_,q⟩;have e:b=s1.heap.objs.size:=by simpa using hb
 subst e;exact J.fpOk (Ma _) (J.hok.fresh (Ma _))
end
theorem A6{P:Mq}{w:MT}{A:Np}(hh:A.handled=none)(it:LS)(x:Str)(t:Tok):
  Draws P w A it [it] x.cps.size (λi v=>∃ c u,x.cps[i]? =some c/\v= .str ⟨#[c]⟩ u) (λi h=>h.IsStrIter it (OZ x) x t i):=by
 unfold OZ;cases x.cps.all (· < 128)
 ·exact Draws.strWide hh it x t
 ·exact Draws.strAscii hh it x t
noncomputable def p9(x:Str):It:=⟨λi _=>i<x.cps.size,λi H v H'=>∃ T c,H T=none/\x.cps[i]? =some c/\v= .ref T/\H'=upd H T (.tup [.int i,.str ⟨#[c]⟩]),λi _=>i=x.cps.size⟩
theorem Cb{P:Mq}{w:MT}{K:Mz}{elts:LR Nv}{k:Nat}{pos:Pos}(x:Str)(t:Tok)(e it:LS)(hei:e≠it):
  Turn P w K (.Tuple elts k pos) (p9 x) [e,it] e (λi h=>(∃ old,IsEnum h e it i old)/\h.IsStrIter it (OZ x) x t i) where
 mem:=by simp
 obj:=λi h st b hb=>by
  obtain⟨⟨old,he⟩,o,ho,c,d⟩:=st;rcases List.mem_cons.mp hb with rfl|hb
  ·exact⟨_,he,λv z=>nomatch z⟩
  ·have e:b=it:=by simpa using hb
   subst e;exact⟨o,ho,λv z=>by rw[d] at z;cases z⟩
 keep:=λi h h' st U=>by
  obtain⟨⟨old,he⟩,o,ho,r⟩:=st;exact⟨⟨old,U e (by simp) _ he⟩,o,U it (by simp) o ho,r⟩
 item:=by
  intro X hP hw hK hc i pins s σ H E I hf st hg;subst hP hw hK;have W:=PX (A6 (P:=X.prog) (w:=X.w) (A:=X.A.in1) (I.ok.hd hc) it x t) e hei (by simpa using hei) (by simp);refine W.item i s _ _ hg st λT vals h' tk hv hT ht mid U=>⟨_,rfl,?_⟩
  obtain⟨t',y,⟨c,u,hx,rfl⟩,rfl⟩:=hv;refine W.go elts k pos i T _ _ _ mid λJ aa ab=>?_
  have keep:∀ b o,b∉[e,it]->s.heap.get? b=some o->J.get? b=some o:=λb o hb q=>ab b o hb (U b o hb q)
  have I1:Inv X pins σ H {s with heap:=J,toks:=tk}:=I.turnedL keep hf
  have hn:H T=none:=I.hok.fresh hT
  have ae:T∉[e,it]:=W.apart i T h' mid;obtain⟨ot,af,ag,n,ah⟩:=ht;have I2:Inv X pins σ (upd H T (.tup [.int i,.str ⟨#[c]⟩])) {s with heap:=J,toks:=tk}:=by
   refine I1.track (.inl (Heap.get?_none_of_le (Mr I.sz hT))) hn (QD (Mx I.lt hT)) (λy c' q z=>?_) (λp hp z=>?_) ?_
   ·obtain⟨v,q'⟩:=I.cell y c' q;exact absurd (Mx q'.lt (by rw[z];exact hT)) (Nq _)
   ·exact absurd (Mx (Mv (I.pin p hp).1) (by rw[z];exact hT)) (Nq _)
   ·exact⟨by show 2<=sizeLine;decide,[.int i t',.str ⟨#[c]⟩ u],.cons ⟨_,rfl⟩ (.cons ⟨_,rfl⟩ .nil),ot,ab T ot ae af,ag,n,ah⟩
  refine⟨.ref T,_,I2,rfl,⟨T,c,hn,hx,rfl,rfl⟩,aa,λb hb=>?_⟩;have ai:b≠T:=λz=>ae (z ▸ hb)
  rw[cW ai];exact(hf b hb).1
 done:=by
  intro X hP hw hK hc i pins s σ H E I hf st hg;subst hP hw hK;have aj:i=x.cps.size:=hg;subst aj;have W:=PX (A6 (P:=X.prog) (w:=X.w) (A:=X.A.in1) (I.ok.hd hc) it x t) e hei (by simpa using hei) (by simp);exact W.done s _ _ st λh' tk U=>⟨rfl,I.turnedL U hf⟩
 self:=λA i s Q E st h=>by
  obtain⟨⟨old,he⟩,_⟩:=st;exact PY he h
noncomputable def B5(ta:TA):TI:=λσ H R=>ta σ H λvs H1=>∃ x,vs=[.str x]/\R (p9 x) H1
section
variable {X : Cx}
theorem Gd{elts:LR Nv}{k:Nat}{tpos p pos:Pos}{a:Nv}{ta:TA}(hg:Gl X "enumerate")(hm:X.mg "enumerate"=none)(ha:PA X [a] ta)(hs:Ni [a] X.env=[(false,eval a X.env)]:=by rfl):
  PI X (.Tuple elts k tpos) (.Call (.Name "enumerate" p) [a] [] pos) (B5 ta):=by
 intro pins s σ H R I h;refine Call_ (mh I hg hm boot_enumerate (N9 (dh (ha pos pins s σ H _ I h) λus s1 ⟨vs,H1,J,U,q1⟩=>?_) hs rfl));obtain⟨x,e,q⟩:=q1;subst e;obtain⟨u,rfl,t,rfl⟩:=vals1 U;refine call_enumerate_str λh' he hit hsz hk=>?_
 refine PY he ?_;refine⟨s1.heap.objs.size+1,[s1.heap.objs.size+1,s1.heap.objs.size],_,_,H1,rfl,J.kept (t':=s1.toks) hk,Cb x t _ _ (Nat.succ_ne_self _),⟨⟨_,he⟩,hit⟩,λb hb=>?_,q⟩;rcases List.mem_cons.mp hb with rfl|hb
 ·exact J.fpOk (NC _) (J.hok.fresh (NC _))
 ·have e:b=s1.heap.objs.size:=by simpa using hb
  subst e;exact J.fpOk (Ma _) (J.hok.fresh (Ma _))
end
theorem DE{x:Str}{g:TG}{tb:TS}{D:Ends}{σ:St}{H:Hp}(Pv:Nat->St->Hp->Prop)(h0:Pv 0 σ H)
  (hs:∀ i c σ H T,x.cps[i]? =some c->Pv i σ H->H T=none->g (.ref T) σ (upd H T (.tup [.int i,.str ⟨#[c]⟩])) λσ2 H2=>tb {D with nx:=Pv (i+1),ct:=Pv (i+1),bk:=D.nx} σ2 H2)(hd:∀ σ H,Pv x.cps.size σ H->D.nx σ H):
  ∃ W:Nat->Nat->St->Hp->Prop,(∃ m,W 0 m σ H)/\∀ i m σ H,W i m σ H->
   ((p9 x).stop i H/\D.nx σ H)\/((p9 x).go i H/\∃ N:St->Hp->Prop,(∀ σ' H',N σ' H'->∃ m',m'<m/\W (i+1) m' σ' H')/\∀ y H',(p9 x).yld i H y H'->g y σ H' λσ2 H2=>tb {D with nx:=N,ct:=N,bk:=D.nx} σ2 H2):=by
 refine⟨λi m σ H=>m=x.cps.size-i/\i<=x.cps.size/\Pv i σ H,⟨x.cps.size,by simp,MM _,h0⟩,?_⟩;rintro i m σ H ⟨rfl,hi,p⟩;by_cases I:i<x.cps.size
 ·refine .inr ⟨I,Pv (i+1),λσ' H' J=>⟨x.cps.size-(i+1),by(clear hi;lia),rfl,I,J⟩,λy H' q=>?_⟩;obtain⟨T,c,U,hc,e,e2⟩:=q;subst e e2;exact hs i c σ _ T hc p U
 ·have e:i=x.cps.size:=by lia
  subst e;exact .inl ⟨rfl,hd σ H p⟩
open PySem
noncomputable def jl(env:Env):LR (Str×Pk)->LR (Str×LS)->LR (Str×LS)
 |[],cs=>cs
 |(n,k)::r,cs=>jl env r (if (k==Nz)=true then (n,(env.cells.lookup n).getD 0)::cs else cs)
theorem Ia{scope:Qe}{env:Env}(h:∀ x∈scope.names,x.2= .free->∃ c,env.cells.lookup x.1=some c):closureFor scope env=pure (jl env scope.names []):=by
 unfold closureFor;have go:∀(names:LR (Str×Pk)) (cs:LR (Str×LS)),(∀ x∈names,x.2= .free->∃ c,env.cells.lookup x.1=some c)->
   (forIn names cs λ(x:Str×Pk) (r:LR (Str×LS))=>(match x with
    |(name,kind)=>if (kind==Nz)=true then do let a<-cellOf env name;pure (OK ((name,a)::r)) else pure (OK r):Sem (ForInStep (LR (Str×LS)))))=pure (jl env names cs):=by
  intro names;induction names with
  |nil=>intro cs _;rfl
  |cons x r I=>
   intro cs h;obtain⟨n,k⟩:=x;rw[List.forIn_cons];have J:=λy hy=>h y (Mg _ hy)
   cases hk:(k==Nz) with
   |false=>
    simp only[hk,PF,RE];show(pure (OK cs) >>= _:Sem _)=_;simp only[pure_bind];rw[I cs J];simp only[jl,hk,PF,RE]
   |true=>
    obtain⟨c,U⟩:=h (n,k) Mi (by simpa using hk);have e:cellOf env n=pure c:=by unfold cellOf;rw[show env.cells.lookup n=some c from U]
    simp only[hk,RP,e,pure_bind];rw[I _ J];simp only[jl,hk,RP];rw[show env.cells.lookup n=some c from U];rfl
 exact Nl (λm:Sem (LR (Str×LS))=>m >>= λr=>pure r) (go scope.names [] h)
theorem A4{env:Env}{x:Str}{c:LS}:∀{names:LR (Str×Pk)} {cs:LR (Str×LS)},(jl env names cs).lookup x=some c->cs.lookup x=some c\/((x,Nz)∈names/\c=(env.cells.lookup x).getD 0)
 |[],_,h=> .inl h
 |(n,k)::r,cs,h=>by
  rcases A4 (names:=r) h with q|⟨q,e⟩
  ·cases hk:(k==Nz) with
   |false=>rw[hk] at q;exact .inl q
   |true=>
    rw[hk,LZ rfl] at q;have I:k=Nz:=by simpa using hk
    subst I;cases hx:x==n with
    |true=>
     rw[NO,hx] at q;have e:x=n:=by simpa using hx
     subst e;exact .inr ⟨Mi,(Ml q).symm⟩
    |false=>
     rw[NO,hx] at q;exact .inl q
  ·exact .inr ⟨Mg _ q,e⟩
theorem rA{env:Env}{x:Str}:∀{names:LR (Str×Pk)} {cs:LR (Str×LS)},(x,Nz)∈names\/(∃ c,cs.lookup x=some c)->∃ c,(jl env names cs).lookup x=some c
 |[],_,h=>by
  rcases h with h|h
  ·cases h
  ·exact h
 |(n,k)::r,cs,h=>by
  refine rA (names:=r) ?_;rcases h with h|⟨c,h⟩
  ·rcases List.mem_cons.mp h with e|e
   ·cases e;refine .inr ⟨(env.cells.lookup x).getD 0,?_⟩;rw[LZ (by rfl),NO];simp
   ·exact .inl e
  ·refine .inr ?_;cases hk:(k==Nz) with
   |false=>exact⟨c,h⟩
   |true=>
    rw[LZ rfl,NO];cases hx:x==n with
    |true=>exact⟨_,rfl⟩
    |false=>exact⟨c,h⟩
theorem AG{env:Env}(hf:env.scope.kind= .function):∀{names:LR (Str×Pk)} {x:Str},names.lookup x=some .free->env.kindOf x=some .cell->
  (names.map λ(n,k)=>if (k==Nz&&env.scope.kind == .function&&env.kindOf n==some .cell) then (n,Qb) else (n,k)).lookup x=some .cell
 |[],_,h,_=>by simp at h
 |(n,k)::r,x,h,J=>by
  have U:=@AG env hf r x
  show OY x ((if (k==Nz&&env.scope.kind == .function&&env.kindOf n==some .cell)=true then (n,Qb) else (n,k))::_)=_;cases hx:x==n with
  |true=>
   have e:x=n:=by simpa using hx
   subst e;simp only[NO,hx] at h;cases h;rw[LZ (by rw[hf,J];rfl)];simp[NO]
  |false=>
   simp only[NO,hx] at h;by_cases I:(k==Nz&&env.scope.kind == .function&&env.kindOf n==some .cell)=true
   ·rw[LZ I];simp only[NO,hx];exact U h J
   ·rw[LX I];simp only[NO,hx];exact U h J
theorem ud{env:Env}:∀{names:LR (Str×Pk)} {x:Str} {k':Pk},(∀ y∈names,y.2≠ .cell)->(k'= .cell\/k'= .free)->
  (names.map λ(n,k)=>if (k==Nz&&env.scope.kind == .function&&env.kindOf n==some .cell) then (n,Qb) else (n,k)).lookup x=some k'->(x,Nz)∈names
 |[],_,_,_,_,h=>by simp at h
 |(n,k)::r,x,k',hn,hk,h=>by
  have ih:=@ud env r x k' (λy hy=>hn y (Mg _ hy)) hk
  have h':OY x ((if (k==Nz&&env.scope.kind == .function&&env.kindOf n==some .cell)=true then (n,Qb) else (n,k))::r.map λ(n,k)=>if (k==Nz&&env.scope.kind == .function&&env.kindOf n==some .cell) then (n,Qb) else (n,k))=some k':=h
  have J:k≠ .cell:=hn (n,k) Mi;by_cases I:(k==Nz&&env.scope.kind == .function&&env.kindOf n==some .cell)=true
  ·rw[LZ I,NO] at h';have U:k= .free:=by
    rw[MO,MO] at I;simpa using I.1.1
   cases hx:x==n with
   |true=>
    have e:x=n:=by simpa using hx
    subst e;rw[U];exact Mi
   |false=>rw[hx] at h';exact Mg _ (ih h')
  ·rw[LX I,NO] at h';cases hx:x==n with
   |true=>
    rw[hx] at h';have e:x=n:=by simpa using hx
    subst e;have e2:k=k':=Ml h';subst e2;rcases hk with z|z
    ·exact absurd z J
    ·rw[z];exact Mi
   |false=>rw[hx] at h';exact Mg _ (ih h')
section
variable {prog : Mq} {w : MT} {A : Np} {R : Result -> Me -> Prop} {s : Me}
theorem Jy{elt target iter:Nv}{ifs:LR Nv}{scope:Qe}{pos:Pos}{it acc:LW}{env:Env}(I:Nat->Me->Prop)
  (turn:∀ n s,I n s->MD (My prog w) A (pyNext it) (λr s₁=>match r with
   |none=>R (.ok .next) s₁
   |some v=>MD (My prog w) A (Qp target it v) (λ_ s₀=>MD (My prog w) A (assign target env v) (λ_ s₂=>
     MD (My prog w) A (forIn ifs true λc r=>if r=true then do let ok<-isTrue c env (eval c env);pure (OK ok) else pure (OK r)) (λok s₃=>
      if ok=true then MD (My prog w) A (eval elt env) (λx s₄=>
       MD (My prog w) A (call (.builtin "list.append") [acc,x]) (λ_ s₅=>∃ m,m<n/\I m s₅) (λ_ _=>Om) s₄) (λ_ _=>Om) s₃
      else ∃ m,m<n/\I m s₃) (λ_ _=>Om) s₂) (λ_ _=>Om) s₀) (λ_ _=>Om) s₁) (λ_ _=>Om) s)
  (n:Nat)(h:I n s):
  QE (My prog w) A (.compLoop (.ListComp elt [⟨target,iter,ifs,0⟩] scope pos) 0 it acc env) R s:=by
 refine codeAny_loop rfl I (λn s hI=>?_) n h;show MD _ A ((compTurn (.ListComp elt [⟨target,iter,ifs,0⟩] scope pos) 0 it acc env).onRaise (λx=>do O9 x env;theTreesLotGoes x)) _ _ s;refine wpAny_noted ?_;rw[compTurn_list];refine Mn (wpAny_standAt (Mn (NI (turn n s hI) (λr s₁ J=>?_) λ_ _ h'=>h'.elim)));cases r with
 |none=>exact Nf J
 |some v=>
  refine Mn (NI J (λ_ s₀ h₀=>?_) λ_ _ h'=>h'.elim);refine Mn (NI h₀ (λ_ s₂ aa=>Mn (NI aa (λok s₃ U=>?_) λ_ _ h'=>h'.elim)) λ_ _ h'=>h'.elim);cases ok with
  |false=>exact Nf ⟨rfl,U⟩
  |true=>
   exact Mn (Mn (NI U (λx s₄ ab=>Mn (NI ab (λ_ s₅ ae=>Nf (Nf ⟨rfl,ae⟩)) λ_ _ h'=>h'.elim)) λ_ _ h'=>h'.elim))
end
noncomputable def gr(X:Cx)(scope:Qe)(N:LR Str)(s₀:Me)(H₀:Hp)(ex:LR LS):Cx:=
 {X with N:=N,s₀:=s₀,H₀:=H₀,env:=compEnvC scope (jl X.env scope.names []) s₀.heap.objs.size X.env,outer:=X.stack,ex:=ex,fn:=λ_=>false,pn:=[],xe:=λ_ _=>Om}
section
variable {X : Cx} {c : Nv} {t : TT}
noncomputable def dD(X:Cx)(ifs:LR Nv)(t:TT):Prop:=∀(pins:LR (LS×Obj)) (s:Me) (σ:St) (H:Hp) (Q:Nw->Hp->Prop),Inv X pins σ H s->t σ H Q->
 MD (My X.prog X.w) X.A (forIn ifs true λc r=>if r=true then do let ok<-isTrue c X.env (eval c X.env);pure (OK ok) else pure (OK r)) (TP X pins σ Q) X.xe s
noncomputable def tf:TT:=λ_ H Q=>Q true H
theorem fF:dD X [] tf:=λ_ _ _ H _ I h=>wpAny_tests_nil ⟨H,I,h⟩
theorem Bv(h:PT X c t):dD X [c] t:=λpins s σ H Q I J=>wpAny_tests_one (h pins s σ H Q I J)
end
noncomputable def ng(own:Nat)(g:TG):Prop:=∀ x σ H Q J,g x σ H Q->(∀ I H',Q I H'->I.length=σ.length->(∀ j v,own<=j->σ[j]? =some (some v)->I[j]? =some (some v))->J I H')->g x σ H J
noncomputable def sy(own:Nat)(g:jy):Prop:=∀ xs σ H Q J,g xs σ H Q->(∀ I H',Q I H'->I.length=σ.length->(∀ j v,own<=j->σ[j]? =some (some v)->I[j]? =some (some v))->J I H')->g xs σ H J
theorem eM{own i:Nat}(hi:i<own):ng own (lh i):=λx σ H Q I h k=>k _ H h (by simp) λj v J e=>by rw[List.getElem?_set_ne (by(clear e;lia))];exact e
theorem nB{own:Nat}:sy own xC:=λxs σ H Q I ⟨e,h⟩ k=>⟨e,k σ H h rfl λ_ _ _ e=>e⟩
theorem iX{own:Nat}{t:TG}{u:jy}(h1:ng own t)(h2:sy own u):sy own (yX t u):=λxs σ H Q Q' ⟨v,r,e,h⟩ k=>
 ⟨v,r,e,h1 v σ H _ _ h λJ H' q l1 k1=>h2 r J H' _ _ q λI U q2 l2 k2=>k I U q2 (l2.trans l1) λj w hj e=>k2 j w hj (k1 j w hj e)⟩
theorem oO{own n:Nat}{K:Mm}{t:jy}(h:sy own t):ng own (xy K n t):=λx σ H Q I ⟨a,xs,e,J,hl,q⟩ k=>⟨a,xs,e,J,hl,h xs σ H Q I q k⟩
noncomputable def j7(own:Nat)(caps:LR Nat)(σ:St):St:=ND own none++caps.map λj=>(σ[j]?).join
noncomputable def nO(J:It)(g:TG)(tc:TT)(te:TE)(σ0:St)(Q:VK)(H:Hp):Prop:=
  ∃ W:Nat->Nat->LR V->Hp->Prop,(∃ m,W 0 m [] H)/\∀ i m ys H,W i m ys H->
   (J.stop i H/\ys.length<=sizeLine/\∀ p,H p=none->Q (.ref p) (upd H p (.lst ys)))\/
   (J.go i H/\ys.length<sizeLine/\∀ x H',J.yld i H x H'->g x σ0 H' λI H2=>tc I H2 λb H3=>
    if b=true then te I H3 λy H4=>∃ U,U<m/\W (i+1) U (ys++[y]) H4 else ∃ U,U<m/\W (i+1) U ys H3)
noncomputable def uP(own:Nat)(caps:LR Nat)(wi:TI)(g:TG)(tc:TT)(te:TE):TE:=λσ H Q=>wi σ H λJ H1=>nO J g tc te (j7 own caps σ) Q H1
theorem By{a:LS}{o:Obj}:∀ p∈[(a,o)],p.1=a:=λp I=>by rw[List.mem_singleton.mp I]
section
variable {X : Cx}
theorem Ep{scope:Qe}{N:LR Str}{pins:LR (LS×Obj)}{σ σ':St}{H2 He:Hp}{s2 s1:Me}{hp h':Nn}{fp:LR LS}{ys:LR V}{its:LR LW}{na:Nat}{lo:Obj}
  (I2:Inv X pins σ H2 s2)(f2:∀ b∈fp,jH X pins H2 b)(ehp:hp=s2.heap.push lo)
  (J:Inv (gr X scope N {s2 with heap:=hp} H2 (s2.heap.objs.size::fp)) [(s2.heap.objs.size,{cls:= .type "list",data:= .seq its.toArray na})] σ' He s1)
  (hsb:Po hp.objs.size s1.heap h')(hv:Vals ys its)(hz:ys.length<=sizeLine):
  Inv X pins σ (upd He s2.heap.objs.size (.lst ys)) {s1 with heap:=h'}:=by
 have hC:hp.objs.size=s2.heap.objs.size+1:=by rw[ehp,Pj]
 have below:∀{b:LS} {o:Obj},s2.heap.get? b=some o->b≠hp.objs.size/\b≠s2.heap.objs.size:=λ{b o} e=>by
  have q:=Mv e;exact⟨by rw[hC];exact MV (Pd q),MV q⟩
 have up:∀{b:LS} {o:Obj},s2.heap.get? b=some o->hp.get? b=some o:=λe=>by rw[ehp];exact Heap.get?_push_of_some _ e
 have un:Un (eE X.stack) (s2.heap.objs.size::fp) H2 He hp s1.heap:=J.base
 have nD:∀{b:LS} {o:Obj},s2.heap.get? b=some o->b∉fp->b∉s2.heap.objs.size::fp:=λe U z=>(List.mem_cons.mp z).elim (below e).2 U
 have I:He hp.objs.size=none:=J.free
 have u2:Un (eE X.stack) fp H2 He s2.heap h':=by
  refine⟨λb o e n hb U=>?_,λb o e n hb U=>?_,λb o e n U=>?_,λb o e U=>?_,un.tups,un.frzs,un.tbls⟩
  ·exact(hsb.2 b (below e).1).trans (un.keep b o (up e) n hb (nD e U))
  ·obtain⟨sl,q⟩:=un.slot b o (up e) n hb (nD e U);exact⟨sl,(hsb.2 b (below e).1).trans q⟩
  ·exact un.free b o (up e) n (nD e U)
  ·obtain⟨o',q⟩:=un.there b o (up e) (nD e U);exact⟨o',(hsb.2 b (below e).1).trans q⟩
 have hok:eS X.prog X.w He h':=λb u e=>by
  refine(J.hok b u e).stay (λc v hc q=>(hsb.2 c ?_).trans q) (λ_ q=>q) λ_ _ q=>q
  rintro rfl;rcases hc with z|z
  ·rw[<-z,I] at e;cases e
  ·rw[I] at z;cases z
 have I3:Inv X pins σ He {s1 with heap:=h'}:=I2.call' (s':={s1 with heap:=h'}) (ch:=fp) J.os u2 hok J.bare λb hb=>by
  obtain⟨f0,f1,f3,f4,f5,f6⟩:=f2 b hb;exact⟨f4,f1,f5,f6⟩
 obtain⟨pe,pn,_⟩:=J.pin _ (MA _ Mi);refine I3.track (.inl (Heap.get?_none_of_le I2.sz)) pn (QD I2.lt) (λy c' q z=>?_) (λp aa z=>?_) ?_
 ·obtain⟨v,q'⟩:=I2.cell y c' q;exact absurd q'.lt (by rw[z];exact Nq _)
 ·exact absurd (Mv (I2.pin p aa).1) (by rw[z];exact Nq _)
 ·exact⟨hz,its,na,hv,(hsb.2 _ (by rw[hC];exact MV (OT _))).trans pe⟩
theorem zZ{elt target iter:Nv}{ifs:LR Nv}{scope sc0:Qe}{pos:Pos}{N N0:LR Str}{own:Nat}{caps:LR Nat}{wi:TI}{g:TG}{tc:TT}{te:TE}
  (hcalm:X.calm=true)(hi:PI X target iter wi)
  (hg:∀ s₀ H₀ ex,PG (gr X scope N s₀ H₀ ex) target g)(hc:∀ s₀ H₀ ex,dD (gr X scope N s₀ H₀ ex) ifs tc)(he:∀ s₀ H₀ ex,PE (gr X scope N s₀ H₀ ex) elt te)(hk:ng own g)
  (hX:X.N=N0)(hsc:X.env.scope=sc0)
  (hcell:∀ y∈scope.names,y.2≠ .cell)(hkind:scope.kind= .function)(hnames:∀ y∈scope.names,y.2= .local->scope.names.lookup y.1=some .local)
  (hfree:∀ y∈scope.names,y.2= .free->sc0.names.lookup y.1=some .cell)(hN:N.length=own+caps.length)
  (hcap:∀ p∈caps.zip (N.drop own),N0[p.1]? =some p.2/\scope.names.lookup p.2=some .free)
  (hs:∀ x,PQ iter X.env x=pure x)
  {use:Mc (LW->Sem Unit)}{Qf:LW->Me->Prop}{pins:LR (LS×Obj)}{s:Me}{σ:St}{H:Hp}{Q:VK}{cpos:Pos}(I:Inv X pins σ H s)(h:uP own caps wi g tc te σ H Q)
  (hR:∀(D C:LS) (s':Me) (He:Hp) (ys:LR V) (m:Str->Mc LW) (f:Flow),s'.heap.Ns C m->(∀ h',Po C s'.heap h'->Inv X pins σ (upd He D (.lst ys)) {s' with heap:=h'})->
   jH X pins (upd He D (.lst ys)) C->Q (.ref D) (upd He D (.lst ys))->compPost (My X.prog X.w) X.A X.xe use Qf (.ref D) C (.ok f) s'):
  MD (My X.prog X.w) X.A (comprehension (.ListComp elt [⟨target,iter,ifs,0⟩] scope pos) scope X.env cpos (newList []) false (eval iter X.env) use) Qf X.xe s:=by
 have ab:∀ y∈scope.names,y.2= .free->X.env.kindOf y.1=some .cell:=λy hy e=>by
  show X.env.scope.names.lookup y.1=some .cell;rw[hsc];exact hfree y hy e
 refine wpAny_comprehension_free (use:=use) rfl hs (Ia λy hy e=>I.ok.has y.1 (.inl (ab y hy e))) hkind hnames ?_;refine dh (hi pins s σ H _ I h) λv s1 h1=>dh h1 λaY s2 h2=>?_
 obtain⟨it,fp,tn,J,H2,e,I2,T,aC,f2,W,⟨m0,w0⟩,turn⟩:=h2;subst e;refine wpAny_newObj_type (wpAny_newFunctionEnv hcell (by intro y hy;simp at hy) (λak af ag=>?_) hkind);dsimp only at af ag ⊢;generalize ah:s2.heap.push {cls:= .type "list",dict:=none,data:= .seq ([]:LR LW).toArray}=hp at af ag ⊢;have hC:hp.objs.size=s2.heap.objs.size+1:=by rw[<-ah,Pj]
 have ai:s2.heap.objs.size≠hp.objs.size:=by rw[hC];exact MV (OT _)
 have av:hp.get? s2.heap.objs.size=some {cls:= .type "list",data:= .seq ([]:LR LW).toArray}:=by rw[<-ah];exact Heap.get?_push_size _ rfl
 have up:∀{b:LS} {o:Obj},s2.heap.get? b=some o->hp.get? b=some o:=λe=>by rw[<-ah];exact Heap.get?_push_of_some _ e
 have up1:∀{b:LS} {o:Obj},hp.get? b=some o->ak.get? b=some o:=λ{b o} e=>ag.extBut b o (MV (Mv e)) (Heap.get?_push_of_some _ e)
 have aB:∀{b:LS} {o:Obj},s2.heap.get? b=some o->b<s2.heap.objs.size:=λe=>Mv e
 have aQ:∀ b∈fp,∃ o,s2.heap.get? b=some o:=λb hb=>by obtain⟨o,e,_⟩:=T.obj 0 _ aC b hb;exact⟨o,e⟩
 have aw:∀ b∈fp,b≠hp.objs.size/\b≠s2.heap.objs.size:=λb hb=>by
  obtain⟨o,e⟩:=aQ b hb;have q:=aB e;exact⟨by rw[hC];exact MV (Pd q),MV q⟩
 have aa:∀{x:Str} {c:LS},(jl X.env scope.names []).lookup x=some c->X.env.cells.lookup x=some c/\X.env.kindOf x=some .cell:=λ{x c} q=>by
  rcases A4 q with z|⟨z,e⟩
  ·cases z
  ·have k:=ab _ z rfl;obtain⟨c',ao⟩:=I2.ok.has x (.inl k);rw[ao] at e;have e':c=c':=e;subst e';exact⟨ao,k⟩
 have aj:∀{x:Str} {c:LS},(jl X.env scope.names []).lookup x=some c->c<s2.heap.objs.size:=λq=>by
  obtain⟨v,z⟩:=I2.cell _ _ (aa q).1;exact z.lt
 have aq:∀ b∈eE X.stack,b<s2.heap.objs.size:=λb hb=>by
  obtain⟨_,o,ho,_⟩:=I2.stack.mem hb;exact Mv ho
 have aR:(gr X scope N {s2 with heap:=hp} H2 (s2.heap.objs.size::fp)).Ok:=by
  refine⟨I2.ok.mod,hkind,I2.ok.glob,I2.ok.blt,Ma _,λx y c q1 q2=>I2.ok.inj x y c (aa q1).1 (aa q2).1,λx hx=>?_,(λx c z=>by cases z),I2.ok.hd,I2.ok.frames,.inl rfl,λb hb=>?_,λb o q=>⟨up (I2.bs b o q).1,(I2.bs b o q).2⟩,?_,λb o q hb=>?_,λb hb=>?_,?_,λb hb=>I2.stkFree b hb⟩
  ·rcases hx with hx|hx
   ·exact rA (.inl (ud (env:=X.env) hcell (.inl rfl) hx))
   ·exact rA (.inl (ud (env:=X.env) hcell (.inr rfl) hx))
  ·rcases List.mem_cons.mp hb with rfl|hb
   ·exact⟨by show s2.heap.objs.size≠hp.objs.size;exact ai,λx c q=>MV (aj q)⟩
   ·exact⟨(aw b hb).1,λx c q=>(f2 b hb).2.2.2.2.1 x c (aa q).1⟩
  ·show X.base.objs.size<=hp.objs.size;rw[hC];exact Od (Mr I2.ok.bsz I2.sz)
  ·rcases List.mem_cons.mp hb with rfl|hb
   ·exact Nq _ (aB (I2.bs _ o q).1)
   ·rcases(f2 b hb).2.2.2.1 with z|z
    ·exact I2.ok.noex b o q z
    ·exact Nq _ (Mx (Mv (I2.ok.bs b o q).1) z)
  ·intro z;rcases List.mem_cons.mp hb with rfl|hb
   ·exact Nq _ (aq _ z)
   ·rcases List.mem_cons.mp (I2.stkSub b z) with q|q
    ·exact(f2 b hb).2.1 q
    ·exact(f2 b hb).2.2.1 q
  ·show hp.FunFrames X.base X.stack;exact I2.stack.of_keeps λb o q _=>⟨o,up q,rfl⟩
 have len0:(j7 own caps σ).length=N.length:=by unfold j7;rw[Md,P6,LV,hN]
 have I0:Inv (gr X scope N {s2 with heap:=hp} H2 (s2.heap.objs.size::fp)) [] (j7 own caps σ) H2 {s2 with heap:=ak,toks:=s2.toks+([]:LR (Str×LW)).length}:=by
  refine⟨aR,rfl,I2.bare,Un.kept λb o q=>up1 q,⟨_,af,λi x v e1 e2 e3=>?_⟩,λx c q=>?_,I2.hok.fresh (by show s2.heap.objs.size<=hp.objs.size;rw[hC];exact NC _),λx c q=>I2.freeC x c (aa q).1,λp ae=>absurd (show p∈([]:LR (LS×Obj)) from ae) (by simp),I2.hok.kept λb o q=>up1 (up q),len0⟩
  ·
   unfold j7 at e2;by_cases aJ:i<own
   ·rw[List.getElem?_append_left (by simpa using aJ),List.getElem?_replicate] at e2;split at e2<;>cases e2
   ·rw[List.getElem?_append_right (by simpa using aJ),P6,List.getElem?_map] at e2;cases ec:caps[i-own]? with
    |none=>rw[ec] at e2;cases e2
    |some j=>
     rw[ec] at e2;have ar:(σ[j]?).join=some v:=Ml e2;have aK:σ[j]? =some (some v):=by
      cases q:σ[j]? with
      |none=>rw[q] at ar;cases ar
      |some z=>rw[q] at ar;exact Nl some ar
     have hx:(N.drop own)[i-own]? =some x:=by
      rw[List.getElem?_drop];have:own+(i-own)=i:=by(clear aK ar ec e2 e1 len0 av ai hC ah hN hkind hsc hX hcalm;lia)
      rw[this];exact e1
     have hz:(caps.zip (N.drop own))[i-own]? =some (j,x):=by
      rw[List.getElem?_zip_eq_some];exact⟨ec,hx⟩
     obtain⟨hj,hf⟩:=hcap _ (List.mem_of_getElem? hz);rw[<-hX] at hj;have aL:(x,Nz)∈scope.names:=Ov hf;have aD:=ab _ aL rfl;obtain⟨m,hn,hl⟩:=I2.loc;obtain⟨u,ru,lk⟩:=hl j x v hj aK (.inr (.inl aD));refine⟨u,ru,.inr ⟨.inl (AG I2.ok.kind hf aD),?_⟩⟩;obtain⟨c,ao⟩:=rA (env:=X.env) (cs:=[]) (.inl aL);have aS:=(aa ao).1;rcases lk with ⟨z,_⟩|⟨_,c2,aM,ax⟩
     ·rw[aD] at z;cases z
     ·rw[aS] at aM;cases aM;obtain⟨oc,aE,aF⟩:=ax;exact⟨c,ao,oc,up1 (up aE),aF⟩
  ·obtain⟨v,oc,aE,aF⟩:=I2.cell x c (aa q).1;exact⟨v,oc,up1 (up aE),aF⟩
 have aN:∀{ay:St} {H':Hp} {s':Me} {U:LR LW} {na:Nat},Inv (gr X scope N {s2 with heap:=hp} H2 (s2.heap.objs.size::fp)) [] ay H' s'->H' s2.heap.objs.size=none->
   s'.heap.get? s2.heap.objs.size=some {cls:= .type "list",data:= .seq U.toArray na}->
   Inv (gr X scope N {s2 with heap:=hp} H2 (s2.heap.objs.size::fp)) [(s2.heap.objs.size,{cls:= .type "list",data:= .seq U.toArray na})] ay H' s':=λ{ay H' s' U na} I' hn hd=>I'.pins_of λp ae=>by
  have e:p=(s2.heap.objs.size,{cls:= .type "list",data:= .seq U.toArray na}):=by simpa using ae
  subst e;exact⟨hd,hn,ai,λz=>Nq _ (aq _ z),λv z=>nomatch z⟩
 have aO:∀{H':Hp} {pl:LR (LS×Obj)},(∀ b∈fp,H' b=none)->(∀ p∈pl,p.1=s2.heap.objs.size)->∀ b∈fp,jH (gr X scope N {s2 with heap:=hp} H2 (s2.heap.objs.size::fp)) pl H' b:=λhn aT b hb=>by
  refine⟨hn b hb,(aw b hb).1,λz=>?_,.inl (Mg _ hb),λx c q=>(f2 b hb).2.2.2.2.1 x c (aa q).1,λp ae z=>?_⟩
  ·rcases List.mem_cons.mp (I2.stkSub b z) with q|q
   ·exact(f2 b hb).2.1 q
   ·exact(f2 b hb).2.2.1 q
  ·exact(aw b hb).2 (z.symm.trans (aT p ae))
 have loop:∀ au:Me,au={s2 with heap:=ak,toks:=s2.toks+([]:LR (Str×LW)).length}->
   QE (My X.prog X.w) X.A (.compLoop (.ListComp elt [⟨target,iter,ifs,0⟩] scope pos) 0 (.ref it) (.ref s2.heap.objs.size) (compEnvC scope (jl X.env scope.names []) hp.objs.size X.env))
    (compPost (My X.prog X.w) X.A X.xe use Qf (.ref s2.heap.objs.size) hp.objs.size) au:=by
  rintro au rfl;refine Jy (λn s'=>∃ i ys U na H',Inv (gr X scope N {s2 with heap:=hp} H2 (s2.heap.objs.size::fp)) [] (j7 own caps σ) H' s'/\tn i s'.heap/\(∀ b∈fp,H' b=none)/\H' s2.heap.objs.size=none/\
   Vals ys U/\s'.heap.get? s2.heap.objs.size=some {cls:= .type "list",data:= .seq U.toArray na}/\W i n ys H') ?_ m0
   ⟨0,[],[],0,H2,I0,T.keep _ _ _ aC λb _ o q=>up1 (up q),λb hb=>(f2 b hb).1,I2.hok.fresh (Ma _),.nil,up1 av,w0⟩;rintro n s3 ⟨i,ys,U,na,H3,I3,aP,aU,aG,az,aH,w3⟩;have Ip:=aN I3 aG aH;have f3:=aO (H':=H3) (pl:=[(s2.heap.objs.size,{cls:= .type "list",data:= .seq U.toArray na})]) aU By;rcases turn i n ys H3 w3 with ⟨stop,hz,fin⟩|⟨go,hz,step⟩
  ·refine dh (T.done (gr X scope N {s2 with heap:=hp} H2 (s2.heap.objs.size::fp)) rfl rfl rfl hcalm i _ s3 _ H3 _ Ip f3 aP stop) λr s4 ⟨hr,I4⟩=>?_
   subst hr;obtain⟨m,hn,_⟩:=I4.loc;exact hR _ _ _ _ ys m _ hn (λh' aV=>Ep I2 f2 ah.symm I4 aV az hz) (I2.fpOk (by rw[hC];exact NC _) (by rw[cW (Nt ai)];exact I4.free)) (fin _ (I4.pin _ (MA _ Mi)).2.1)
  ·refine dh (T.item (gr X scope N {s2 with heap:=hp} H2 (s2.heap.objs.size::fp)) rfl rfl rfl hcalm i _ s3 _ H3 _ Ip f3 aP go) λr s4 ⟨u,hr,h4⟩=>?_
   subst hr;refine dh h4 λ_ s5 ⟨x,H5,I5,r5,y5,aI,aW⟩=>?_
   have aX:=I5.pinned (aO (H':=H5) (pl:=[(s2.heap.objs.size,{cls:= .type "list",data:= .seq U.toArray na})]) aW By) (T.obj _ _ aI);refine dh (hg _ _ _ _ s5 _ H5 x u _ aX r5 (hk x _ H5 _ _ (step x H5 y5) λay H' q l k=>(⟨q,l,k⟩:_/\_/\_))) λ_ s6 ⟨aA,H6,I6,q6,l6,k6⟩=>?_
   refine dh (hc _ _ _ _ s6 aA H6 _ I6 q6) λok s7 ⟨H7,I7,q7⟩=>?_
   have weak:∀{H':Hp} {s':Me} {pl:LR (LS×Obj)},Inv (gr X scope N {s2 with heap:=hp} H2 (s2.heap.objs.size::fp)) pl aA H' s'->Inv (gr X scope N {s2 with heap:=hp} H2 (s2.heap.objs.size::fp)) pl (j7 own caps σ) H' s':=λI'=>
    I'.weak l6.symm λj v e=>k6 j v (by
     by_cases hj:j<own
     ·unfold j7 at e;rw[List.getElem?_append_left (by simpa using hj),List.getElem?_replicate] at e;split at e<;>cases e
     ·(clear e l6 hz aH aG len0 av ai hC ah hN hkind hsc hX hcalm;lia)) e
   have after:∀{H':Hp} {s':Me},Inv (gr X scope N {s2 with heap:=hp} H2 (s2.heap.objs.size::fp)) ([(s2.heap.objs.size,{cls:= .type "list",data:= .seq U.toArray na})]++pf fp s5.heap) aA H' s'->
     tn (i+1) s'.heap/\(∀ b∈fp,H' b=none)/\H' s2.heap.objs.size=none/\s'.heap.get? s2.heap.objs.size=some {cls:= .type "list",data:= .seq U.toArray na}:=λI'=>by
    refine⟨T.keep _ _ _ aI λb hb o e=>(I'.pin (b,o) (MA _ (MA _ (qN hb e)))).1,λb hb=>?_,?_,?_⟩
    ·obtain⟨o,e,d⟩:=T.obj _ _ aI b hb;exact(I'.pin (b,o) (MA _ (MA _ (qN hb e)))).2.1
    ·exact(I'.pin _ (MA _ (MX _ Mi))).2.1
    ·exact(I'.pin _ (MA _ (MX _ Mi))).1
   cases ok with
   |false=>
    rw[LX MC];obtain⟨m',hm,w7⟩:=(show ∃ m',m'<n/\W (i+1) m' ys H7 by rw[LX MC] at q7;exact q7);obtain⟨a1,a2,a3,a4⟩:=after I7;exact⟨m',hm,i+1,ys,U,na,H7,(weak I7).pins_of (λp ae=>absurd ae (by simp)),a1,a2,a3,az,a4,w7⟩
   |true=>
    rw[LZ rfl];rw[LZ rfl] at q7;refine dh (he _ _ _ _ s7 aA H7 _ I7 q7) λyv s8 ⟨y,H8,I8,r8,m',hm,w8⟩=>?_
    obtain⟨a1,a2,a3,a4⟩:=after I8;have hl:=az.length;refine P8 MN ⟨_,a4,rfl⟩ F.entry_list_append (F.args_list_append_2 _ _) (PySem.list_append s2.heap.objs.size U.toArray na yv (by rw[Mu];(clear a4 a3 hm l6 aH aG len0 av ai hC ah hN hkind hsc hX hcalm;lia))) ⟨a4,?_⟩;have I9:Inv (gr X scope N {s2 with heap:=hp} H2 (s2.heap.objs.size::fp)) [] (j7 own caps σ) H8 s8:=(weak I8).pins_of (λp ae=>absurd ae (by simp));have q:(s8.heap.update s2.heap.objs.size (Og (·.push yv))).get? s2.heap.objs.size=some {cls:= .type "list",data:= .seq (U++[yv]).toArray (na+1)}:=by
     have q:=PySem.IsL.update a4 (·.push yv);simpa using q
    refine⟨m',hm,i+1,ys++[y],U++[yv],na+1,H8,I9.turned (it:=s2.heap.objs.size) (t':=s8.toks) (λb o hb e=>?_) a3 (ai) (.inl Mi) (λx c z=>MV (aj z)) (λp ae=>absurd (show p∈([]:LR (LS×Obj)) from ae) (by simp)),?_,a2,a3,az.append (.cons r8 .nil),q,w8⟩
    ·rw[Heap.get?_update_other _ _ (Nt hb)];exact e
    ·exact T.keep _ _ _ a1 λb hb o e=>by rw[Heap.get?_update_other _ _ (Nt (aw b hb).2)];exact e
 exact codeAny_compStart_list (loop _ rfl) (T.self _ 0 _ _ _ (T.keep _ _ _ aC λb _ o q=>up1 (up q)) (loop _ rfl))
theorem fP{elt target iter:Nv}{ifs:LR Nv}{scope sc0:Qe}{pos:Pos}{N N0:LR Str}{own:Nat}{caps:LR Nat}{wi:TI}{g:TG}{tc:TT}{te:TE}
  (hcalm:X.calm=true)(hi:PI X target iter wi)
  (hg:∀ s₀ H₀ ex,PG (gr X scope N s₀ H₀ ex) target g)(hc:∀ s₀ H₀ ex,dD (gr X scope N s₀ H₀ ex) ifs tc)(he:∀ s₀ H₀ ex,PE (gr X scope N s₀ H₀ ex) elt te)(hk:ng own g)
  (hX:X.N=N0)(hsc:X.env.scope=sc0)
  (hcell:∀ y∈scope.names,y.2≠ .cell)(hkind:scope.kind= .function)(hnames:∀ y∈scope.names,y.2= .local->scope.names.lookup y.1=some .local)
  (hfree:∀ y∈scope.names,y.2= .free->sc0.names.lookup y.1=some .cell)(hN:N.length=own+caps.length)
  (hcap:∀ p∈caps.zip (N.drop own),N0[p.1]? =some p.2/\scope.names.lookup p.2=some .free)
  (hs:∀ x,PQ iter X.env x=pure x:=by intro _;rfl):
  PE X (.ListComp elt [⟨target,iter,ifs,0⟩] scope pos) (uP own caps wi g tc te):=by
 intro pins s σ H Q I h;rw[eval_ListComp];exact zZ hcalm hi hg hc he hk hX hsc hcell hkind hnames hfree hN hcap hs I h λD C s' He ys m f hn U _ q=>⟨m,hn,λh' J=>⟨.ref D,_,U h' J,rfl,q⟩⟩
end
theorem eC.at {P:Mq}{w:MT}{H:Hp}{h:Nn}{a:LS}{o:HO}(x:eC P w H h a o):∃ ob,h.get? a=some ob:=by
 cases o with
 |lst xs=>obtain⟨_,_,_,_,e⟩:=x;exact⟨_,e⟩
 |tup xs=>obtain⟨_,_,_,ob,e,_⟩:=x;exact⟨_,e⟩
 |dK kvs=>obtain⟨_,_,_,_,o,_,_,e,_⟩:=x;exact⟨_,e⟩
 |dT kvs=>obtain⟨_,_,_,_,o,_,_,e,_⟩:=x;exact⟨_,e⟩
 |set S n=>obtain⟨o,_,_,_,e,_⟩:=x;exact⟨_,e⟩
 |ins C dx fs=>obtain⟨_,_,_,e,_⟩:=x;exact⟨_,e⟩
 |own y=>obtain⟨_,e⟩:=x;exact⟨_,e⟩
 |xd fs=>obtain⟨_,⟨_,_,_,e,_⟩,_⟩:=x;exact⟨_,e⟩
 |rng lo hi=>obtain⟨_,_,_,e⟩:=x;exact⟨_,e⟩
 |frz ob u=>obtain⟨e,_⟩:=x;exact⟨_,e⟩
 |tbl ps=>exact⟨_,show h.get? a=some _ from x⟩
 |met f y=>exact⟨_,show h.get? a=some _ from x⟩
 |ext I=>obtain⟨_,⟨_,e⟩,_⟩:=x;exact⟨_,e⟩
noncomputable def dz(P:Mq)(w:MT):iq:=λouter H s E e s'=>∃(I:LS) (cls J:LW) (B:Nn) (H':Hp),
 e= .ref I/\s'.os=s.os/\QB s'.gens/\Un (eE outer) [] H H' s.heap s'.heap/\eS P w H' s'.heap/\QG B outer I cls J s'.heap/\
 (∀ b o,s.heap.get? b=some o->H b=none->b∉eE outer->B.get? b=some o)/\(∀ b o,s.heap.get? b=some o->b∉eE outer->∃ o',B.get? b=some o')/\
 (∀ b u,H' b=some u->∃ o,B.get? b=some o)/\E cls none H'
theorem dz.no {P:Mq}{w:MT}{outer:LR Env}{H:Hp}{s s':Me}{e:LW}(h:dz P w outer H s (λ_ _ _=>Om) e s'):Om:=by
 obtain⟨_,_,_,_,_,_,_,_,_,_,_,_,_,_,z⟩:=h;exact z
theorem rJ{fs:LR LS}{H H':Hp}{h h1 h2 B base:Nn}{outer:LR Env}(hfs:fs=eE outer)(u:Un fs [] H H' h h1)(k1:∀ b o,h.get? b=some o->H b=none->b∉fs->B.get? b=some o)
  (k3:∀ b o,h.get? b=some o->b∉fs->∃ o',B.get? b=some o')(ff:h1.FunFrames base outer)(st:B.StaysIn h2)(up:h1.UpToSlots h2):Un fs [] H H' h h2:=by
 have fr:∀ b∈fs,∀ o,h1.get? b=some o->∃ sl,h2.get? b=some {o with slots:=sl}:=λb hb o e=>by
  rw[hfs] at hb;obtain⟨_,o',I,nf⟩:=ff.mem hb;rw[e] at I;cases I;exact up b o e nf
 refine⟨λb o e n hb _=>st b o (k1 b o e n hb),λb o e n hb J=>?_,u.free,λb o e J=>?_,u.tups,u.frzs,u.tbls⟩
 ·obtain⟨sl,U⟩:=u.slot b o e n hb J;obtain⟨aa,e2⟩:=fr b hb _ U;exact⟨aa,e2⟩
 ·by_cases hb:b∈fs
  ·obtain⟨o1,U⟩:=u.there b o e J;obtain⟨sl,e2⟩:=fr b hb _ U;exact⟨_,e2⟩
  ·obtain⟨o',I⟩:=k3 b o e hb;exact⟨o',st b o' I⟩
theorem sR{P:Mq}{w:MT}{H:Hp}{h1 h2 B:Nn}(x:eS P w H h1)(k2:∀ b u,H b=some u->∃ o,B.get? b=some o)(s1:B.StaysIn h1)(s2:B.StaysIn h2):eS P w H h2:=λb u e=>by
 refine(x b u e).stay (λc v J q=>?_) (λ_ q=>q) λ_ _ q=>q
 have ht:∃ z,H c=some z:=by
  rcases J with z|z
  ·subst z;exact⟨u,e⟩
  ·exact⟨_,z⟩
 obtain⟨z,U⟩:=ht;obtain⟨o,I⟩:=k2 c z U;have:=s1 c o I;rw[q] at this;cases this;exact s2 c v I
section
variable {P : Mq} {w : MT} {K : Mz} {mg : Str -> Mc LW} {base : Nn} {N : LR Str} {qual : Str} {scope : Qe} {f : LS} {cdv : LW} {A : Np} {outer : LR Env} {s₀ : Me} {H₀ : Hp} {E E' : XK}
noncomputable def Raises(X:Cx)(E:XK):Prop:=∀(pins:LR (LS×Obj)) (σ:St) (H:Hp) (s:Me) (h':Nn) (I:LS) (cls:LW) (args:LR LW),Inv X pins σ H s->Heap.MadeExcOf s.heap h' I cls args->E cls none H->X.xe (.ref I) {s with heap:=h'}
theorem jm:Raises (fL (dz P w) P w K mg base N qual scope f cdv A outer s₀ H₀ E) E:=by
 intro pins σ H s h' ea cls args I hx hE;have stk:=I.stack;have U:∀ env∈(fL (dz P w) P w K mg base N qual scope f cdv A outer s₀ H₀ E).stack,∀ b,env.frame=some b->b∈eE (fL (dz P w) P w K mg base N qual scope f cdv A outer s₀ H₀ E).stack:=λenv he b hb=>List.mem_filterMap.mpr ⟨env,he,hb⟩
 have J:∀{b:LS} {o:Obj},s.heap.get? b=some o->b∉eE (fL (dz P w) P w K mg base N qual scope f cdv A outer s₀ H₀ E).stack->(Rf s.heap (eE (fL (dz P w) P w K mg base N qual scope f cdv A outer s₀ H₀ E).stack)).get? b=some o:=λe hb=>W.hideAll_get _ e hb
 have hL:∀{b:LS} {o:Obj},s₀.heap.get? b=some o->b∉eE outer->b∉eE (fL (dz P w) P w K mg base N qual scope f cdv A outer s₀ H₀ E).stack:=λ{b o} e hb z=>by
  rcases List.mem_cons.mp (I.stkSub b z) with q|q
  ·have h1:=Mv e
   have h2:s₀.heap.objs.size<=(fL (dz P w) P w K mg base N qual scope f cdv A outer s₀ H₀ E).env.locals:=I.ok.above;rw[q] at h1;exact Nq _ (Mx h1 h2)
  ·exact hb q
 show MD (My P w) (A.deeper (Pc qual scope s₀.heap.objs.size f cdv)) (leaving (Pc qual scope s₀.heap.objs.size f cdv) (.ref ea)) _ _ _;refine wpAny_leaves_madeW (s:={s with heap:=h'}) (h:=s.heap) (base:=Rf s.heap (eE (fL (dz P w) P w K mg base N qual scope f cdv A outer s₀ H₀ E).stack)) I.ok.frames rfl (λb o q=>W.of_hideAll _ q) (W.funFrames_hide stk U) hx λaa t fl _ _ up=>?_
 have u0:Un (eE outer) [] H₀ H s₀.heap s.heap:=I.base
 have tr:∀ b u,H b=some u->b∉eE (fL (dz P w) P w K mg base N qual scope f cdv A outer s₀ H₀ E).stack:=λb u e z=>by rw[I.stkFree b z] at e;cases e
 have k1:∀ b o,s₀.heap.get? b=some o->H₀ b=none->b∉eE outer->(Rf s.heap (eE (fL (dz P w) P w K mg base N qual scope f cdv A outer s₀ H₀ E).stack)).get? b=some o:=λb o e n hb=>J (u0.keep b o e n hb (by simp)) (hL e hb)
 have k3:∀ b o,s₀.heap.get? b=some o->b∉eE outer->∃ o',(Rf s.heap (eE (fL (dz P w) P w K mg base N qual scope f cdv A outer s₀ H₀ E).stack)).get? b=some o':=λb o e hb=>by
  obtain⟨o',e'⟩:=u0.there b o e (by simp);exact⟨o',J e' (hL e hb)⟩
 have k2:∀ b u,H b=some u->∃ o,(Rf s.heap (eE (fL (dz P w) P w K mg base N qual scope f cdv A outer s₀ H₀ E).stack)).get? b=some o:=λb u e=>by
  obtain⟨o,eo⟩:=(I.hok b u e).at;exact⟨o,J eo (tr b u e)⟩
 exact⟨ea,cls,.ref t,_,H,rfl,I.os,I.bare,rJ rfl u0 k1 k3 I.funs fl.1 ((Heap.UpToSlots.of_keeps hx.keeps).trans up),sR I.hok k2 (λb o q=>W.of_hideAll _ q) fl.1,fl,k1,k3,k2,hE⟩
theorem gP(hE:∀ cls od H',E' cls od H'->E cls od H'):Passes (dz P w) (fL (dz P w) P w K mg base N qual scope f cdv A outer s₀ H₀ E) E':=by
 intro pins σ H s e s' I h;obtain⟨ea,cls,a0,B,H',rfl,os,bare,un,hok,fl,k1,k3,k2,U⟩:=h;have stk:(fL (dz P w) P w K mg base N qual scope f cdv A outer s₀ H₀ E).stack=Pc qual scope s₀.heap.objs.size f cdv::outer:=rfl;have ae:eE (fL (dz P w) P w K mg base N qual scope f cdv A outer s₀ H₀ E).stack=s₀.heap.objs.size::eE outer:=rfl;have J:Un (eE outer) [] H₀ H s₀.heap s.heap:=I.base;have aa:∀{b:LS} {o:Obj},s₀.heap.get? b=some o->b∉eE outer->b∉eE (fL (dz P w) P w K mg base N qual scope f cdv A outer s₀ H₀ E).stack:=λ{b o} e hb z=>by
  rw[ae] at z;rcases List.mem_cons.mp z with q|q
  ·have h1:=Mv e;rw[q] at h1;exact Nq _ h1
  ·exact hb q
 show MD (My P w) (A.deeper (Pc qual scope s₀.heap.objs.size f cdv)) (leaving (Pc qual scope s₀.heap.objs.size f cdv) (.ref ea)) _ _ _;refine wpAny_leaves_onW I.ok.frames rfl fl λag ab up=>?_
 have u1:Un (eE outer) [] H₀ H' s₀.heap s'.heap:=by
  refine⟨λb o e n hb U=>?_,λb o e n hb U=>?_,λb o e n U=>?_,λb o e U=>?_,λb xs q=>un.tups b xs (J.tups b xs q),λb ob u q=>un.frzs b ob u (J.frzs b ob u q),λb ps q=>?_⟩
  ·exact un.keep b o (J.keep b o e n hb U) (J.free b o e n U) (aa e hb) (by simp)
  ·obtain⟨sl,e1⟩:=J.slot b o e n hb U;obtain⟨af,e2⟩:=un.any e1 (J.free b o e n U) (by simp);exact⟨af,e2⟩
  ·obtain⟨o',e1⟩:=J.there b o e U;exact un.free b o' e1 (J.free b o e n U) (by simp)
  ·obtain⟨o',e1⟩:=J.there b o e U;exact un.there b o' e1 (by simp)
  ·obtain⟨m1,e1⟩:=J.tbls b ps q;obtain⟨m2,e2⟩:=un.tbls b _ e1;exact⟨m1++m2,by rw[e2,Array.append_assoc]⟩
 have K1:∀ b o,s₀.heap.get? b=some o->H₀ b=none->b∉eE outer->B.get? b=some o:=λb o e n hb=>k1 b o (J.keep b o e n hb (by simp)) (J.free b o e n (by simp)) (aa e hb)
 have K3:∀ b o,s₀.heap.get? b=some o->b∉eE outer->∃ o',B.get? b=some o':=λb o e hb=>by
  obtain⟨o',e1⟩:=J.there b o e (by simp);exact k3 b o' e1 (aa e hb)
 have ff:s'.heap.FunFrames B outer:=by
  obtain⟨_,_,⟨_,_,r⟩,_⟩:=fl;exact r
 exact⟨ea,cls,a0,B,H',rfl,os.trans I.os,bare,rJ rfl u1 K1 K3 ff ab.1 up,sR hok k2 fl.1 ab.1,ab,K1,K3,k2,hE _ _ _ U⟩
end
theorem CG{K:Mm}{h:Nn}{C:LS}{bmB:LR LW}{newId:OE}(X:K.In h)(q:QH K C bmB newId=true):
  ∃ bm N nm qn bs hdct sn sub ab col dd k0 k1 k2 k3 k5 mN,h.get? C=some (excClassObj nm qn C N bs bm hdct sn sub ab col dd k0 k1 k2 k3 k5 newId)/\h.Ns N mN/\mN "__init__"=none/\OwnTail h bmB bm:=by
 unfold QH at q;split at q
 ·rename_i dd cd sl ho;split at q
  ·rename_i C' bm k0 k1 k2 k3 n k5 hm hs;simp only[MO,beq_iff_eq,PZ] at q;obtain⟨⟨⟨⟨⟨rfl,rfl⟩,I⟩,ht⟩,hok⟩,J⟩:=q;obtain⟨nm,bs,mro,ns,qn,hd,sn,sub,ab,col,del⟩:=cd;dsimp only at hm I hok J;subst hm I;have U:sl=#[k0,k1,k2,k3,some (.builtin n),k5]:=by
    obtain⟨l⟩:=sl;simp only at hs;rw[hs]
   subst U;exact⟨bm,ns,nm,qn,bs,hd,sn,sub,ab,col,dd,k0,k1,k2,k3,k5,_,X _ _ ho,.of_isNs (W.isNs_of_in X hok),W.nsMap_none_of_in X hok J,W.tail_of_in X ht⟩
  ·cases q
 ·cases q
section
variable {X : Cx} {E : XK}
noncomputable def D3(C:LS)(E:XK)(t:TA):TS:=λ_ σ H=>t σ H λvs H1=>vs.length<=sizeLine/\E (.ref C) none H1
theorem ji{x:Str}{C:LS}{e:Nv}{es:LR Nv}{t:TA}{np cpos pos:Pos}{B Bn newId nid initId inN:OE}{bmB bmN:LR LW}(hcalm:X.calm=true)(hq:QH X.K C bmB newId=true)
  (Fn:ExcBaseFacts Bn newId inN bmN)(hBn:bmB.contains (.type Bn)=true)(FB:ExcBaseFacts B nid initId bmB)(hg:Gl X x)(hm:X.mg x=some (.ref C))(ha:PA X (e::es) t)(hR:Raises X E)
  (hdb:(x==("__debug__":Str))=false:=by decide)(he:Ni (e::es) X.env=(false,eval e X.env)::Ni es X.env:=by rfl)(hpl:(Pb cpos (Ni es X.env)).any (·.1)=false:=by rfl):
  PS X (.Raise (some (.Call (.Name x np) (e::es) [] cpos)) none pos) (D3 C E t):=by
 intro pins s σ H D I h;obtain⟨tl,N,nm,qn,bs,hdct,sn,sub,ab,col,dd,k0,k1,k2,k3,k5,mN,hC,hN,U,T⟩:=CG I.ok.mod.kin hq;refine wpAny_Raise_call_subU (C:=C) (nm:=nm) (q:=qn) (N:=N) (bs:=bs) (bm:=tl) (hdct:=hdct) (sn:=sn) (sub:=sub) (ab:=ab) (col:=col) (dd:=dd) (k0:=k0) (k1:=k1) (k2:=k2) (k3:=k3) (k5:=k5)
  Fn hBn FB (mN:=mN) (T.hasType FB.hasBase) (I.ok.hd hcalm) (by rw[he];show(false||(Pb cpos (Ni es X.env)).any (·.1))=false;rw[hpl];rfl) U (lb I hg hm ⟨rfl,?_⟩ hdb);have hA:=ha cpos pins s σ H _ I h;rw[he] at hA ⊢;exact Qh (dh hA λus s2 ⟨vs,H2,J,r,hz,hE⟩=>⟨rfl,by rw[<-r.length];exact hz,J.bk _ _ hC,hN.keeps J.bk,T.keeps J.bk,λh' ea mk=>hR pins σ H2 s2 h' ea (.ref C) us J mk hE⟩)
end
section
variable {P : Mq} {w : MT} {K : Mz} {mg : Str -> Mc LW} {base : Nn}
theorem dv.ok1 {x qual:Str}{st:Nr}{f:LS}{fd:Mj}{N ps:LR Str}{k:Nat}{sp:Sp}(F:dv K x qual st f fd)(S:dC N ps (c9 st))(len:∀ vs H Q E,sp vs H Q E->vs.length=ps.length)
  (hbody:∀(cdv:LW) (A:Np) (outer:LR Env) (s:Me) (H:Hp) (vs:LR V) (Q:VK) (E:XK),eK k (A.deeper (Pc qual (c9 st) s.heap.objs.size f cdv))->sp vs H Q E->
   ∃ t,dj (fL (dz P w) P w K mg base N qual (c9 st) f cdv A outer s H E) (eG st) t/\t {nx:=λ_ H'=>Q .non H',rt:=Q} (start N vs) H):cV P w K mg base (dz P w) (k+1) f fd ps sp:=by
 obtain⟨oc,od,kV,doc,pm,an,cdv,ct,U,rfl,lk,I⟩:=F.ex;exact rO lk I S len λA outer s H vs Q E hr J=>hbody cdv A outer s H vs Q E hr J
end
noncomputable def nQ(ea C:LS):HO:= .ext λh=>∃ o vs,h.get? ea=some o/\o.cls= .ref C/\o.data= .fields vs
noncomputable abbrev Cx.tr (X:Cx)(p:LR (LS×Obj))(E:LW->Me->Prop):Cx:={X with pn:=p,xe:=E}
noncomputable def jv(X:Cx)(ea:LS)(p:LR (LS×Obj)):Cx:={X with A:=X.A.mark (some (.ref ea)),calm:=false,xe:=λ_ _=>Om,pn:=p}
noncomputable def oi(CX:iq)(X:Cx)(E:St->XK):Prop:=∀(pins:LR (LS×Obj)) (σ:St) (H:Hp) (s:Me) (e:LW) (s':Me),Inv X pins σ H s->CX X.stack H s (E σ) e s'->X.xe e s'
section
variable {X : Cx} {CX : iq} {k : Nat} {f C : LS} {fd : Mj} {ps : LR Str} {sp : Sp} {dvs : LR V} {ds : LR LW} {E : St -> XK} {x m : Str} {p pos apos : Pos} {e o : Nv} {es : LR Nv} {ta : TE} {t : TA}
theorem Jf{pins:LR (LS×Obj)}{σ:St}{H:Hp}{s:Me}{Q:VK}{us:LR LW}{vs:LR V}(F:cV X.prog X.w X.K X.mg X.base CX k f fd ps sp)(hr:eK k X.A)(hb:Binds X.K fd ps ds)(hd:Vals dvs ds)(hx:oi CX X E)
  (I:Inv X pins σ H s)(r:Vals vs us)(h:sp (vs++dvs) H Q (E σ)):MD (My X.prog X.w) X.A (call (.ref f) us) (EP X pins σ Q) X.xe s:=by
 have U:Vals (vs++dvs) (us++ds):=r.append hd
 have hl:(us++ds).length=ps.length:=by rw[<-U.length];exact F.len _ _ _ _ h
 refine QO (PU (F.run X.A X.stack s H ⟨us,[]⟩ (us++ds) (vs++dvs) Q (E σ) hr I.env0 (hb s us I.kIn hl) U h) λr s' J=>?_);cases r with
 |error e=>exact hx pins σ H s e s' I J
 |ok fl=>
  cases fl with
  |ret u=>exact I.after J
  |next=>exact Nu J
  |brk=>exact Nu J
  |cont=>exact Nu J
end
section
variable {X : Cx} {pins : LR (LS × Obj)} {σ : St} {H : Hp} {s : Me}
theorem Inv.unset {n:Str}{i:Nat}{m:Str->Mc LW}{u:Mc LW}{h':Nn}(I:Inv X pins σ H s)(hN:X.N.Nodup)(hi:X.N[i]? =some n)
  (hl:∀(i:Nat) (x:Str) (v:V),X.N[i]? =some x->σ[i]? =some (some v)->oX X.env.scope x->∃ u,RelV v u/\Look X.env s.heap m x u)
  (hn':h'.Ns X.env.locals (λx=>if x=n then u else m x))(hs:Po X.env.locals s.heap h'):Inv X pins (σ.set i none) H {s with heap:=h'}:=by
 have cne:=I.cne;obtain⟨m0,⟨oL,_,_,aa,_⟩,_⟩:=id I.loc;have tracked:eS X.prog X.w H h':=λb ob e=>by
  refine(I.hok b ob e).stay (λc w' hc q=>(hs.2 c ?_).trans q) (λ_ q=>q) λ_ _ q=>q
  rintro rfl;have hf:=I.free;rcases hc with hc|hc
  ·rw[<-hc,hf] at e;cases e
  ·rw[hf] at hc;cases hc
 refine⟨I.ok,I.os,I.bare,⟨λb o e n hb hx=>?_,λb o e n hb hx=>?_,I.base.free,λb o e hx=>?_,I.base.tups,I.base.frzs,I.base.tbls⟩,⟨_,hn',λj y v' J U e3=>?_⟩,λy c e=>?_,I.free,I.freeC,λp hp=>?_,tracked,by simpa using I.len⟩
 ·exact(hs.2 b (MV (Mx (Mv e) I.ok.above))).trans (I.base.keep b o e n hb hx)
 ·obtain⟨sl,J⟩:=I.base.slot b o e n hb hx;exact⟨sl,(hs.2 b (MV (Mx (Mv e) I.ok.above))).trans J⟩
 ·obtain⟨o',J⟩:=I.base.there b o e hx;exact⟨o',(hs.2 b (MV (Mx (Mv e) I.ok.above))).trans J⟩
 ·by_cases hj:j=i
  ·subst hj;rw[List.getElem?_set] at U;rw[LZ rfl] at U;split at U<;>cases U
  ·rw[List.getElem?_set_ne (Nt hj)] at U;obtain⟨u',r',q⟩:=hl j y v' J U e3;refine⟨u',r',?_⟩;rcases q with ⟨k,e⟩|⟨k,c,e,z⟩
   ·refine .inl ⟨k,?_⟩;have:y≠n:=λe=>hj (uK hN J (e ▸ hi))
    simp[this,e]
   ·exact .inr ⟨k,c,e,z.sameBut hs (cne y c e)⟩
 ·obtain⟨w',z⟩:=I.cell y c e;exact⟨w',z.sameBut hs (cne y c e)⟩
 ·obtain⟨e,n,ne,nf,d⟩:=I.pin p hp;exact⟨(hs.2 p.1 ne).trans e,n,ne,nf,d⟩
theorem sD{n:Str}{i:Nat}{pos:Pos}{Q:Unit->Me->Prop}(I:Inv X pins σ H s)(hN:X.N.Nodup)(hi:X.N[i]? =some n)(hk:X.env.scope.names.lookup n=some .local)
  (h:∀ s',Inv X pins (σ.set i none) H s'->Q () s'):MD (My X.prog X.w) X.A (do bindName X.env n .none;Qi X.env n pos) Q X.xe s:=by
 have J:(X.env.scope.kind == .class||(X.env.scope.kind == .module&&X.env.locals != X.env.globals))=false:=by rw[I.ok.kind];rfl
 refine Mn (wpAny_bindName (qj I hN hi (.inl hk) (show RelV .non .none from rfl) (λs1 I1=>?_) (.inr hk)));obtain⟨m,hn,hl⟩:=id I1.loc;have U:i<σ.length:=by rw[I.len];exact(List.getElem?_eq_some_iff.mp hi).1
 obtain⟨u,ru,lk⟩:=hl i n .non hi (by rw[List.getElem?_set_self U]) (.inl hk);have hm:m n=some u:=by
  rcases lk with ⟨_,e⟩|⟨z,_⟩
  ·exact e
  ·have aa:X.env.kindOf n=some .local:=hk;rw[aa] at z;rcases z with z|z<;>cases z
 unfold Qi;refine wpAny_onRaise (wpAny_unbindName_local hk hn hm J λh' u' ab ae=>?_);have I2:=I1.unset hN hi hl ab ae;rw[List.set_set] at I2;exact h _ I2
end
section
variable {X : Cx}
noncomputable def IW(K:Mm)(CH:LS)(i:Nat)(E:St->XK)(tb ts:TS):TS:=λD σ H=>tb D σ H/\∀ J cls H' U,E J cls none H'->H' U=none->
 ∃ C,cls= .ref C/\Pl K (.ref C) (.ref CH)=some true/\
  ts {nx:=λI H2=>D.nx (I.set i none) H2,rt:=D.rt,bk:=λI H2=>D.bk (I.set i none) H2,ct:=λI H2=>D.ct (I.set i none) H2} (J.set i (some (.ref U))) (upd H' U (nQ U C))
theorem Im{pins:LR (LS×Obj)}{D:Ends}{CH:LS}{i:Nat}{E:St->XK}{x n:Str}{np pos:Pos}{b₀:Nr}{suite:LR Nr}{ts:TS}
  (hstk:X.stack=X.env::X.outer)(hfr:X.env.frame=some X.env.locals)(hN:X.N.Nodup)(hi:X.N[i]? =some n)(hk:X.env.scope.names.lookup n=some .local)(hg:Gl X x)(hm:X.mg x=some (.ref CH))
  (hs:∀ ea p,dj (jv X ea p) (b₀::suite) ts)
  (hc:∀ σ' cls H' ea,E σ' cls none H'->H' ea=none->∃ C,cls= .ref C/\Pl X.K (.ref C) (.ref CH)=some true/\
   ts {nx:=λσ2 H2=>D.nx (σ2.set i none) H2,rt:=D.rt,bk:=λσ2 H2=>D.bk (σ2.set i none) H2,ct:=λσ2 H2=>D.ct (σ2.set i none) H2} (σ'.set i (some (.ref ea))) (upd H' ea (nQ ea C)))
  (hdb:(x==("__debug__":Str))=false:=by decide):
  oi (dz X.prog X.w) (X.tr (X.pn++pins) λe s₁=>MD (My X.prog X.w) X.A (O9 e X.env) (λ_ s₂=>MD (My X.prog X.w) X.A (Pp e none) (λ_ s₃=>
   MD (My X.prog X.w) X.A (P0 e X.env [.ExceptHandler (some (.Name x np)) (some n) (b₀::suite) pos]) (SP X pins D) X.xe s₃) X.xe s₂) X.xe s₁) E:=by
 intro aa σ' H1 s1 e s' J hx;obtain⟨ea,cls,a0,B,H',rfl,os,bare,un,hok,fl,k1,k3,k2,hE⟩:=hx;have aw:QG B (X.env::X.outer) ea cls a0 s'.heap:=hstk ▸ fl;have ag:X.A.frames=some (X.env::X.outer):=hstk ▸ J.ok.frames;have ah:ea∉eE X.stack:=λz=>by
  obtain⟨_,o,ho,nf⟩:=fl.2.2.1.mem z;obtain⟨oe,vs,_,_,_,he,_,hd,_⟩:=fl.2.2.2;rw[he] at ho;cases ho;exact nf vs hd
 have nE:∀{b:LS} {o:Obj},s1.heap.get? b=some o->b≠ea:=λ{b o} q z=>by
  subst z;obtain⟨o',e'⟩:=k3 b o q ah;rw[fl.2.1] at e';cases e'
 have nH:H' ea=none:=by
  cases q:H' ea with
  |none=>rfl
  |some u=>
   obtain⟨o,e'⟩:=k2 ea u q;rw[fl.2.1] at e';cases e'
 have go:∀{h2:Nn},QG B (X.env::X.outer) ea cls a0 h2->s'.heap.UpToSlots h2->Inv (X.tr (X.pn++pins) λe s₁=>MD (My X.prog X.w) X.A (O9 e X.env) (λ_ s₂=>MD (My X.prog X.w) X.A (Pp e none) (λ_ s₃=>
   MD (My X.prog X.w) X.A (P0 e X.env [.ExceptHandler (some (.Name x np)) (some n) (b₀::suite) pos]) (SP X pins D) X.xe s₃) X.xe s₂) X.xe s₁) aa σ' H' {s' with heap:=h2}:=λ{h2} ai up=>
  J.call' (s':={s' with heap:=h2}) (ch:=[]) os (rJ rfl un k1 k3 fl.2.2.1 ai.1 up) (sR hok k2 fl.1 ai.1) bare λb z=>absurd z (by simp)
 have aj:∀{s2:Me} {H2:Hp},Inv (X.tr (X.pn++pins) λe s₁=>MD (My X.prog X.w) X.A (O9 e X.env) (λ_ s₂=>MD (My X.prog X.w) X.A (Pp e none) (λ_ s₃=>
   MD (My X.prog X.w) X.A (P0 e X.env [.ExceptHandler (some (.Name x np)) (some n) (b₀::suite) pos]) (SP X pins D) X.xe s₃) X.xe s₂) X.xe s₁) aa σ' H2 s2->Inv (jv X ea (X.pn++pins)) [] σ' H2 s2:=λI=>
  ⟨⟨I.ok.mod,I.ok.kind,I.ok.glob,I.ok.blt,I.ok.above,I.ok.inj,I.ok.has,I.ok.cab,(λz=>by cases z),I.ok.frames,I.ok.stk,I.ok.exf,I.ok.bs,I.ok.bsz,I.ok.noex,I.ok.exfs,I.ok.funs,I.ok.frf⟩,
   I.os,I.bare,I.base,I.loc,I.cell,I.free,I.freeC,λp hp=>I.pin p (MX _ (by have ab:p∈(X.pn++pins)++[]:=hp;rw[MR] at ab;exact ab)),I.hok,I.len⟩
 refine wpAny_looks_onW ag hfr aw λh4 held ak=>?_
 refine wpAny_landsW held λh5 ae ao=>?_
 obtain⟨C,rfl,aq,ax⟩:=hc σ' cls H' ea hE nH;have I5:=aj (go ae (ak.trans ao));refine wpAny_handleBy_cons (codeAny_handlers_test ?_) (by intro q;cases q);refine lb I5 hg hm ?_ hdb;obtain⟨ob,ay,ar⟩:=ae.there;have LT:W.Looks (My X.prog X.w) h5 (RQ (.ref ea)) (.ref C):=by
  rw[<-ar];exact(W.Looks.ld ay).andThen .now
 refine W.exm_one I5.kIn LT aq _ _ _ _ (λ_ _ q=>q) ?_;refine codeAny_handlers_suite_as (lands_againW ae λh6 au az=>?_);have I6:=aj (go au ((ak.trans ao).trans az));have I7:Inv (jv X ea (X.pn++pins)) [] σ' (upd H' ea (nQ ea C)) {s' with heap:=h6}:=by
  refine I6.track ?_ nH (λz=>?_) (λy c q z=>?_) (λp hp z=>?_) ?_
  ·by_cases hx:ea∈X.ex
   ·exact .inr hx
   ·refine .inl ?_;cases q:X.s₀.heap.get? ea with
    |none=>exact q
    |some o=>
     obtain⟨o',e'⟩:=J.base.there ea o q hx;exact absurd rfl (nE e')
  ·exact ah (by rw[hstk];exact List.mem_filterMap.mpr ⟨X.env,Mi,by rw[hfr];exact Nl some z.symm⟩)
  ·obtain⟨v,oc,aA,_⟩:=J.cell y c q;exact nE aA z
  ·exact nE (J.pin p (MX _ (by have ab:p∈(X.pn++pins)++[]:=hp;rw[MR] at ab;exact ab))).1 z
  ·obtain⟨oe,vs,_,_,_,he,⟨aB,_⟩,hd,_⟩:=au.2.2.2;exact⟨⟨oe,vs,he,aB,hd⟩,⟨oe,he⟩,λh1 h2 ⟨o,ws,q1,q2,q3⟩ k=>⟨o,ws,k o q1,q2,q3⟩⟩
 refine qj (X:=jv X ea (X.pn++pins)) I7 hN hi (.inl hk) (show RelV (.ref ea) (.ref ea) from rfl) (λs8 I8=>?_) (.inr hk);refine NI (hs ea (X.pn++pins) [] s8 _ _ _ I8 ax) (λav s9 h9=>?_) λ_ _ z=>Nu z
 have back:∀{σ2:St} {H2:Hp},Inv (jv X ea (X.pn++pins)) [] σ2 H2 s9->Inv X pins σ2 H2 s9:=λI=>
  ⟨⟨J.ok.mod,J.ok.kind,J.ok.glob,J.ok.blt,J.ok.above,J.ok.inj,J.ok.has,J.ok.cab,J.ok.hd,J.ok.frames,J.ok.stk,J.ok.exf,J.ok.bs,J.ok.bsz,J.ok.noex,J.ok.exfs,J.ok.funs,J.ok.frf⟩,
   I.os,I.bare,I.base,I.loc,I.cell,I.free,I.freeC,λp hp=>I.pin p (MX _ hp),I.hok,I.len⟩
 show MD (My X.prog X.w) X.A (do bindName X.env n .none;Qi X.env n pos) (λ_ s₃=>SP X pins D av s₃) X.xe s9;cases av with
 |next=>
  obtain⟨σ2,H2,I9,q9⟩:=h9;exact sD (back I9) hN hi hk λaf U=>⟨_,H2,U,q9⟩
 |brk=>
  obtain⟨σ2,H2,I9,q9⟩:=h9;exact sD (back I9) hN hi hk λaf U=>⟨_,H2,U,q9⟩
 |cont=>
  obtain⟨σ2,H2,I9,q9⟩:=h9;exact sD (back I9) hN hi hk λaf U=>⟨_,H2,U,q9⟩
 |ret u=>
  obtain⟨v,σ2,H2,I9,rv,q9⟩:=h9;exact sD (back I9) hN hi hk λaf U=>⟨v,_,H2,U,rv,q9⟩
theorem E7{CH:LS}{i:Nat}(E:St->XK){x n:Str}{np hpos pos:Pos}{b₀:Nr}{suite body:LR Nr}{tb ts:TS}
  (hstk:X.stack=X.env::X.outer)(hfr:X.env.frame=some X.env.locals)(hN:X.N.Nodup)(hi:X.N[i]? =some n)(hk:X.env.scope.names.lookup n=some .local)(hg:Gl X x)(hm:X.mg x=some (.ref CH))
  (hb:∀ p xe,oi (dz X.prog X.w) (X.tr p xe) E->dj (X.tr p xe) body tb)(hs:∀ ea p,dj (jv X ea p) (b₀::suite) ts)
  (hdb:(x==("__debug__":Str))=false:=by decide):PS X (.Try body [.ExceptHandler (some (.Name x np)) (some n) (b₀::suite) hpos] [] [] pos) (IW X.K CH i E tb ts):=by
 intro pins s σ H D I h;obtain⟨h1,h2⟩:=h;refine wpAny_Try_except ?_;have I':Inv (X.tr (X.pn++pins) λe aa=>MD (My X.prog X.w) X.A (O9 e X.env) (λ_ ab=>MD (My X.prog X.w) X.A (Pp e none) (λ_ ae=>
   MD (My X.prog X.w) X.A (P0 e X.env [.ExceptHandler (some (.Name x np)) (some n) (b₀::suite) hpos]) (SP X pins D) X.xe ae) X.xe ab) X.xe aa) [] σ H s:=
  ⟨⟨I.ok.mod,I.ok.kind,I.ok.glob,I.ok.blt,I.ok.above,I.ok.inj,I.ok.has,I.ok.cab,I.ok.hd,I.ok.frames,I.ok.stk,I.ok.exf,I.ok.bs,I.ok.bsz,I.ok.noex,I.ok.exfs,I.ok.funs,I.ok.frf⟩,
   I.os,I.bare,I.base,I.loc,I.cell,I.free,I.freeC,λp hp=>I.pin p (by simpa using hp),I.hok,I.len⟩;have back:∀{U:St} {H2:Hp} {s2:Me},Inv (X.tr (X.pn++pins) λe aa=>MD (My X.prog X.w) X.A (O9 e X.env) (λ_ ab=>MD (My X.prog X.w) X.A (Pp e none) (λ_ ae=>
   MD (My X.prog X.w) X.A (P0 e X.env [.ExceptHandler (some (.Name x np)) (some n) (b₀::suite) hpos]) (SP X pins D) X.xe ae) X.xe ab) X.xe aa) [] U H2 s2->Inv X pins U H2 s2:=λJ=>
  ⟨I.ok,J.os,J.bare,J.base,J.loc,J.cell,J.free,J.freeC,λp hp=>J.pin p (MX _ hp),J.hok,J.len⟩
 refine NI (hb _ _ (Im hstk hfr hN hi hk hg hm hs h2 hdb) [] s σ H D I' h1) (λf s1 q=>?_) λe s1 q=>q
 cases f with
 |next=>
  obtain⟨U,H2,J,q⟩:=q;exact O7 ⟨U,H2,back J,q⟩
 |brk=>obtain⟨U,H2,J,q⟩:=q;exact⟨U,H2,back J,q⟩
 |cont=>obtain⟨U,H2,J,q⟩:=q;exact⟨U,H2,back J,q⟩
 |ret u=>obtain⟨v,U,H2,J,r,q⟩:=q;exact⟨v,U,H2,back J,r,q⟩
end
structure gR (k : Nat) (A : Np) : Prop where
 dp : A.depth+3*k+5<QM
 un : A.units+16*k+200<PR
theorem eK.toN {k:Nat}{A:Np}(r:eK k A):gR k A:=⟨r.dp,r.un⟩
theorem gR.mono {j k:Nat}{A:Np}(r:gR k A)(h:j<=k):gR j A:=⟨by have:=r.dp;lia,by have:=r.un;lia⟩
theorem gR.deeper {k:Nat}{A:Np}(r:gR (k+1) A)(env:Env):gR k (A.deeper env):=
 ⟨by have:=r.dp;show A.depth+1+3*k+5<_;lia,by have:=r.un;show A.units+3+16*k+200<_;lia⟩
theorem gR.mark {k:Nat}{A:Np}(r:gR k A)(e:Mc LW):gR k (A.mark e):=⟨r.dp,r.un⟩
theorem gR.depth {k:Nat}{A:Np}(r:gR k A):A.depth<QM:=by have:=r.dp;lia
theorem gR.units {k:Nat}{A:Np}(r:gR k A):A.units+100<PR:=by have:=r.un;lia
theorem eK.units100 {k:Nat}{A:Np}(r:eK k A):A.units+100<PR:=r.toN.units
structure qb (P : Mq) (w : MT) (K : Mm) (mg : Str -> Mc LW) (base : Nn) (k : Nat) (f : LS) (fd : Mj) (ps : LR Str) (sp : LR V -> Hp -> VK -> Prop) : Prop where
 len : ∀ vs H Q, sp vs H Q -> vs.length = ps.length
 run : ∀ (A : Np) (outer : LR Env) (s : Me) (H : Hp) (args : Args) (us : LR LW) (vs : LR V) (Q : VK), gR k A -> jU P w K mg base A outer s H -> RJ s fd args (ps.zip us) -> Vals vs us -> sp vs H Q ->
  QE (My P w) A (.call (.ref f) args) (CR dc outer P w H s Q E0) s
noncomputable def q0(P:Mq)(w:MT)(K:Mm)(mg:Str->Mc LW)(base:Nn)(N:LR Str)(qual:Str)(scope:Qe)(f:LS)(cd:LW)(A:Np)(outer:LR Env)(s:Me)(H:Hp):Cx:=
 {fL dc P w K mg base N qual scope f cd A outer s H E0 with calm:=false,xe:=λ_ _=>Om}
theorem D2{P:Mq}{w:MT}{K:Mm}{mg:Str->Mc LW}{base:Nn}{k:Nat}{f:LS}{name qual:Str}{params:Arguments}{body:LR Nr}{scope:Qe}{dV kV doc pm cdv ct oc:LW}{an od:Mc LS}
  {osl:Nd (Mc LW)}{N ps:LR Str}{sp:LR V->Hp->VK->Prop}(lk:K.lookup f=some ⟨oc,od,.func (NN name qual params body scope dV kV doc pm an cdv ct),osl⟩)(hcd:NA K cdv qual=true)(S:dC N ps scope)
  (len:∀ vs H Q,sp vs H Q->vs.length=ps.length)
  (hbody:∀(A:Np) (outer:LR Env) (s:Me) (H:Hp) (vs:LR V) (Q:VK),gR k (A.deeper (Pc qual scope s.heap.objs.size f cdv))->sp vs H Q->
   ∃ t,dj (q0 P w K mg base N qual scope f cdv A outer s H) body t/\t {nx:=λ_ H'=>Q .non H',rt:=Q} (start N vs) H):
  qb P w K mg base (k+1) f (NN name qual params body scope dV kV doc pm an cdv ct) ps sp:=by
 refine⟨len,λA outer s H args us vs Q hr e0 hb r ae=>?_⟩;have hl:=len _ _ _ ae;have KX:K.In s.heap:=e0.mod.kin.keeps λb o e=>(e0.bs b o e).1
 have lim:s.heap.NoLimit:=e0.mod.nolimit.keeps λb o e=>(e0.bs b o e).1
 have ab:∀ y∈ps.zip us,scope.names.lookup y.1=some .local\/(scope.names.lookup y.1=some .cell/\((cellsFrom (s.heap.objs.size+1) scope.names []).lookup y.1).isSome=true):=λ⟨n,v⟩ hy=>by
  rcases S.par n (Qr hy).1 with q|q
  ·exact .inl q
  ·exact .inr ⟨q,Rg _ _ _ (.inl q)⟩
 refine codeAny_call_function hr.depth (KX _ _ lk) rfl S.co S.gen rfl (W.codeRec_of KX hcd) (hb _ _ _ _ ?_);refine QP S.kind ab λenv he s1 x=>?_
 subst he;refine⟨lim.keeps x.toInCall.keep,codeAny_func ?_⟩;obtain⟨t,ht,hq⟩:=hbody A outer s H vs Q (hr.deeper _) ae;have af:jU P w K mg base {A with handled:=none} outer s H:=⟨e0.frames,e0.mod,e0.bs,e0.bsz,e0.funs,e0.frf,e0.hok,e0.bare⟩;have U:Inv (fL dc P w K mg base N qual scope f cdv {A with handled:=none} outer s H E0) [] (start N vs) H s1:=zI S rfl af hl r x;have I:Inv (q0 P w K mg base N qual scope f cdv A outer s H) [] (start N vs) H s1:=
  ⟨⟨U.ok.mod,U.ok.kind,U.ok.glob,U.ok.blt,U.ok.above,U.ok.inj,U.ok.has,U.ok.cab,(λz=>by cases z),Around.frames_deeper e0.frames,U.ok.stk,U.ok.exf,U.ok.bs,U.ok.bsz,U.ok.noex,U.ok.exfs,U.ok.funs,U.ok.frf⟩,
   U.os,U.bare,U.base,U.loc,U.cell,U.free,U.freeC,U.pin,U.hok,U.len⟩;refine NI (ht [] s1 (start N vs) H _ I hq) (λfl s' hs=>?_) λe s' hs=>Nu hs
 have fin:∀{aa:St} {H':Hp} {v:V} {u:LW},Inv (q0 P w K mg base N qual scope f cdv A outer s H) [] aa H' s'->RelV v u->Q v H'->CE outer P w H s Q u s':=
  λ{aa H' v u} J rv q=>⟨v,H',J.os,J.bare,J.base,J.hok,rv,q⟩;cases fl with
 |ret u=>
  obtain⟨v,aa,H',J,rv,q⟩:=hs;exact fin J rv q
 |next=>
  obtain⟨aa,H',J,q⟩:=hs;exact fin (v:=V.non) (u:=Oo) J rfl q
 |brk=>
  obtain⟨_,_,_,q⟩:=hs;exact Nu q
 |cont=>
  obtain⟨_,_,_,q⟩:=hs;exact Nu q
theorem dv.okN {P:Mq}{w:MT}{K:Mm}{mg:Str->Mc LW}{base:Nn}{x qual:Str}{st:Nr}{f:LS}{fd:Mj}{N ps:LR Str}{k:Nat}{sp:LR V->Hp->VK->Prop}(F:dv K x qual st f fd)(S:dC N ps (c9 st))(len:∀ vs H Q,sp vs H Q->vs.length=ps.length)
  (hbody:∀(cdv:LW) (A:Np) (outer:LR Env) (s:Me) (H:Hp) (vs:LR V) (Q:VK),gR k (A.deeper (Pc qual (c9 st) s.heap.objs.size f cdv))->sp vs H Q->
   ∃ t,dj (q0 P w K mg base N qual (c9 st) f cdv A outer s H) (eG st) t/\t {nx:=λ_ H'=>Q .non H',rt:=Q} (start N vs) H):qb P w K mg base (k+1) f fd ps sp:=by
 obtain⟨oc,od,kV,doc,pm,an,cdv,ct,U,rfl,lk,I⟩:=F.ex;exact D2 lk I S len λA outer s H vs Q hr J=>hbody cdv A outer s H vs Q hr J
noncomputable def JH(sp:LR V->Hp->VK->Prop)(dvs:LR V)(t:TA):TE:=λσ H Q=>t σ H λvs H1=>sp (vs++dvs) H1 Q
section
variable {X : Cx} {k : Nat} {f C : LS} {fd : Mj} {ps : LR Str} {sp : LR V -> Hp -> VK -> Prop} {dvs : LR V} {ds : LR LW} {x m : Str} {p pos apos : Pos} {e o : Nv} {es : LR Nv} {ta : TE} {t : TA}
theorem Ke(F:qb X.prog X.w X.K X.mg X.base k f fd ps sp)(hr:gR k X.A)(hg:Gl X x)(hm:X.mg x=some (.ref f))(hk:Nx X.K (.ref f)=true)(hb:Binds X.K fd ps ds)(hd:Vals dvs ds)
  (ha:PA X (e::es) t)(hdb:(x==("__debug__":Str))=false:=by decide)(he:Ni (e::es) X.env=(false,eval e X.env)::Ni es X.env:=by rfl)(hpl:(Pb pos (Ni es X.env)).any (·.1)=false:=by rfl):
  PE X (.Call (.Name x p) (e::es) [] pos) (JH sp dvs t):=by
 intro pins s σ H Q I h;refine Of (lb I hg hm ?_ hdb);refine QF (h₀:=X.base) I.ok.mod.kin hk (dh (ha pos pins s σ H _ I h) λus s1 ⟨vs,H1,U,r,q⟩=>⟨U.kIn,?_⟩) he hpl;have r2:Vals (vs++dvs) (us++ds):=r.append hd;have hl:(us++ds).length=ps.length:=by rw[<-r2.length];exact F.len _ _ _ q
 refine QO (PU (F.run X.A X.stack s1 H1 ⟨us,[]⟩ (us++ds) (vs++dvs) Q hr U.env0 (hb s1 us U.kIn hl) r2 q) λr s' J=>?_);cases r with
 |error e=>exact Nu J
 |ok fl=>
  cases fl with
  |ret u=>exact U.after J
  |next=>exact Nu J
  |brk=>exact Nu J
  |cont=>exact Nu J
end
end L2
namespace PySem.W
open PySem PySem.Spec PySem.Calls PyProof.Rows PySem.Builtin.ObjectAttr PySem.Builtin.Getset_descriptor PySem.Builtin
structure ExcCls (K : Frag) (C : LS) : Prop where
 cl : (clsIn K C).isSome = true
 ga : findIn K (.ref C) "__getattribute__" = some (some (.builtin "BaseException.__getattribute__"))
 hk : findIn K (.ref C) "__getattr__" = some none
 ha : findIn K (.ref C) "__class__" = some (some (.builtin "object.__class__"))
 hn : specialIn K (.builtin "object.__class__") "__get__" = some (some (.builtin "getset_descriptor.__get__"))
 ht : takesIn K (.builtin "object.__class__") = some true
 hm : mroIn K C (.type "object") = some true
 hb : mroIn K C (.type "BaseException") = some true
section
variable {prog : Mq} {w : MT} {A : Np} {E : LW -> Me -> Prop} {K : Frag} {x C : LS} {ox : Obj}
theorem IC{R:Result->Me->Prop}{h:Nn}{g:Nd GenState}{d:Drawn}{t:Nat}{os:OsState}{tp:LW}(X:K.In h)(L0:Looks (My prog w) h (RQ (.ref x)) (.ref C))(hm:mroIn K C (.type "object")=some true)
  (hq:R (.ok (.ret (.ref C))) ⟨h,g,d,t,os⟩):QE (My prog w) A (.call (.builtin "getset_descriptor.__get__") ⟨[.builtin "object.__class__",.ref x,tp],[]⟩) R ⟨h,g,d,t,os⟩:=by
 have I:=looks_mroIn (M:=My prog w) X hm;refine codeAny_call_builtin KF.slot_gs.plain KF.entry_gs (KF.slot_gs.check _ _ _ _ _ _ _ _ KF.type_class (KF.args_gs _ _ _) ?_);unfold Rr.«getset_descriptor.__get__» descrGet;rw[dga_obj];refine Mn (Nf ?_);unfold descrGetter descrCheckInstance descrNameAndClass isInstance;simp only[KF.owner_class]
 repeat lk
 refine⟨Code.quiet_builtin _ (by first|decide +kernel),codeAny_builtin KF.entry_class ?_⟩;unfold Rr.«object.__class__» shownTypeOf
 repeat lk
 exact hq
theorem HS{h:Nn}{g:Nd GenState}{d:Drawn}{t:Nat}{os:OsState}{vs:Nd LW}{Q:Mc LW->Me->Prop}(X:K.In h)(T:ExcCls K C)(hx:h.get? x=some ox)(hc:ox.cls= .ref C)(hd:ox.data= .fields vs)
  (hq:Q (some (.ref C)) ⟨h,g,d,t+1,os⟩):MD (My prog w) A (getAttr? (.ref x) "__class__") Q E ⟨h,g,d,t,os⟩:=by
 have U:Looks (My prog w) h (RQ (.ref x)) (.ref C):=hc ▸ (Looks.ld hx).andThen .now
 have L1:=looks_findIn (M:=My prog w) X T.ga;unfold getAttr? getAttrBy? getAttrBy;refine Mn (wpAny_mkText (Mn (wpAny_attempt (OA (Mn (U.at (Mn (L1.at ?_))))))));show MD _ _ (getAttrByItsOwn (.ref x) (.str "__class__" t) (.ref C) (.builtin "BaseException.__getattribute__") false false) _ _ _;have LH:=looks_findIn (M:=My prog w) X T.hk;unfold getAttrByItsOwn callGetattribute boundAndCalled hookBefore;refine Mn (LH.at (Mn (wpAny_attempt (OA ?_))));rw[LX (by simp)];refine Mn (wpAny_of_eq (F.excAttr_ValueError.ga.bind _) ?_);refine QO ?_;refine codeAny_call_builtin F.excAttr_ValueError.ga.plain F.entry_bexc_ga ?_;have I:Looks (My prog w) h (isSubtype (.ref C) (.type "BaseException")) true:=looks_mroIn X T.hb;have aa:∀{A':Np} {Q':Unit->Me->Prop} {E':LW->Me->Prop} {t':Nat},Q' () ⟨h,g,d,t',os⟩->MD (My prog w) A' (checkBuiltinCall "BaseException.__getattribute__" ⟨[.ref x,.str "__class__" t],[]⟩) Q' E' ⟨h,g,d,t',os⟩:=λJ=>by
  have ab:builtinKind "BaseException.__getattribute__"=some .slot:=by kernel_rfl
  have ae:splitId "BaseException.__getattribute__"=some ("BaseException","__getattribute__"):=by kernel_rfl
  simp only[checkBuiltinCall,ab,ae];have LI:Looks (My prog w) h (isInstance (.ref x) (.type "BaseException")) true:=U.andThen I;refine Mn (LI.at ?_);simp only[Bool.not_true,PF,RE];have ha:=F.args_bexc_ga (.ref x) (.str "__class__" t);cases hsig:Manifest.signature? "BaseException.__getattribute__" with
  |none=>exact Nf J
  |some sig=>
   simp only[argsOk,hsig] at ha;have h2:Bind.checkArgs "BaseException.__getattribute__" sig ⟨[.ref x,.str "__class__" t],[]⟩=pure ():=ha;show MD _ _ (Bind.checkArgs "BaseException.__getattribute__" sig ⟨[.ref x,.str "__class__" t],[]⟩) _ _ _;rw[h2];exact Nf J
 refine aa ?_;have LF:Looks (My prog w) h (Builtin.ObjectAttr.find (.ref x) (.ref C) "__class__") (Found.bind (.builtin "getset_descriptor.__get__") (.builtin "object.__class__")):=by
  have L1:=looks_findIn (M:=My prog w) X T.ha
  have L2:Looks (My prog w) h (getOf (some (.builtin "object.__class__"))) (some (.builtin "getset_descriptor.__get__")):=looks_specialIn X T.hn
  have L3:=looks_takesIn (M:=My prog w) X T.ht;unfold Builtin.ObjectAttr.find;exact L1.andThen (L2.andThen ((show Looks (My prog w) h (dataDescriptor? (some (.builtin "object.__class__")) (some (.builtin "getset_descriptor.__get__"))) (some (.builtin "getset_descriptor.__get__",.builtin "object.__class__")) from L3.andThen .now).andThen (Looks.tag .now)))
 show MD _ _ (Rr.«object.__getattribute__» ⟨[.ref x,.str "__class__" t],[]⟩) _ _ _;unfold Rr.«object.__getattribute__»;refine Mn (Nf (Mn (Nf (Mn (U.at (Mn (LF.at ?_)))))));show MD _ _ (bindTo (.builtin "getset_descriptor.__get__") (.builtin "object.__class__") (.ref x) (.ref C)) _ _ _;show MD _ _ (Rm [Value.builtin "object.__class__"] (call (.builtin "getset_descriptor.__get__") [.builtin "object.__class__",.ref x,.ref C]) >>= ret) _ _ _;refine Mn (OA (QO (IC X U T.hm ?_)));refine Nf ?_;exact handed_on rfl (Nf hq)
noncomputable def ExcAtH(x C:LS)(h:Nn):Prop:=∃ o vs,h.get? x=some o/\o.cls= .ref C/\o.data= .fields vs
theorem kitx_exc(T:ExcCls K C):KitX K (.ref x) (.ref C) (ExcAtH x C) where
 ty:=λM h _ ⟨o,vs,e,c,d⟩=>c ▸ (Looks.ld e).andThen .now
 it:=λ_ _ X _=>by
  obtain⟨J,I⟩:=Option.isSome_iff_exists.mp T.cl;unfold clsIn at I;split at I
  ·rename_i c' d' U aa ho;intro A' Q' E' s' k q;unfold isType loadHead;exact Mn (wpAny_loadPart (k _ _ (X _ _ ho)) (Nf q))
  ·cases I
 ne:=λh tp dd ae n sl X ab=>by
  obtain⟨J,I⟩:=Option.isSome_iff_exists.mp T.cl;refine Bool.eq_false_iff.mpr λq=>?_
  have e:C=tp:=Value.ref.inj (beq_iff_eq.mp q);subst e;unfold clsIn at I;split at I
  ·rename_i c' d' U aa ho;have z:=(X _ _ ho).symm.trans ab;cases z
  ·cases I
 ca:=λ{prog w A E Q s} X ⟨o,vs,e,c,d⟩ k=>by
  obtain⟨hh,g,dd,t,os⟩:=s;exact HS X T e c d k
end
end PySem.W
namespace L2
open PySem PySem.Spec PyProof.Rows
theorem Bu:∀{Cs:LR LS} {its:LR LW},Vals (Cs.map V.ref) its->its=Cs.map ME
 |[],_,.nil=>rfl
 |_::_,_,.cons I J=>by cases I;rw[Bu J,Nb]
section
variable {X : Cx}
theorem oa:gy X (.builtin "isinstance") (λxs H Q=>∃ ea D c b,xs=[.ref ea,c]/\H ea=some (nQ ea D)/\W.ExcCls X.K D/\
  ((∃ n,c= .ty n/\Ng X.K (.ref D) (.type n)=some b)\/(∃ C,c= .ref C/\Ng X.K (.ref D) (.ref C)=some b)\/
   (∃(p:LS) (Cs:LR LS),c= .ref p/\H p=some (.tup (Cs.map V.ref))/\W.kitAny X.K (.ref D) (Cs.map ME)=some b))/\Q (.bl b) H):=by
 intro pins s σ H xs us Q I r h;obtain⟨ea,D,c,b,rfl,hH,T,hc,q⟩:=h;obtain⟨u,w',rfl,rx,rc⟩:=vals2 r;cases rx;have hE:W.ExcAtH ea D s.heap:=(I.hok ea _ hH).1;have fin:∀ tk,EP X pins σ Q (.bool b) {s with toks:=tk}:=λtk=>⟨.bl b,H,I.tok tk,rfl,q⟩
 rcases hc with ⟨n,rfl,e⟩|⟨C,rfl,e⟩|⟨p,Cs,rfl,hp,e⟩
 ·cases rc;exact OJ (W.kitx_exc T) I.kIn hE e (λz=>nomatch z) fin
 ·cases rc;exact OJ (W.kitx_exc T) I.kIn hE e (λz=>nomatch z) fin
 ·cases rc;obtain⟨_,J,rv,o,ho,aa,n,hd⟩:=(show eC X.prog X.w H s.heap p (.tup (Cs.map V.ref)) from I.hok p _ hp);have ei:J=Cs.map ME:=Bu rv;obtain⟨cls,dd,data,sl⟩:=o;have U:cls= .type "tuple":=aa;have ab:data= .seq J.toArray n:=hd;subst U ab;exact W.kia_tup (W.kitx_exc T) I.kIn hE ho (by rw[ei];exact e) (λz=>nomatch z) fin
end
theorem rV{J:It}{g:TG}{tc:TT}{te:TE}{σ0:St}{H:Hp}{Q:VK}(n:Nat)(Pv:Nat->LR V->Hp->Prop)(hz:n<sizeLine)(hgo:∀ i ys H,i<n->Pv i ys H->J.go i H)(hstop:∀ ys H,Pv n ys H->J.stop n H)(h0:Pv 0 [] H)
  (hs:∀ i ys H x H' (N:LR V->Hp->Prop),i<n->Pv i ys H->J.yld i H x H'->(∀ ys' H2,Pv (i+1) ys' H2->N ys' H2)->
   g x σ0 H' λσ2 H2=>tc σ2 H2 λb H3=>if b=true then te σ2 H3 λy H4=>N (ys++[y]) H4 else N ys H3)
  (hd:∀ ys H,Pv n ys H->ys.length<=n->∀ p,H p=none->Q (.ref p) (upd H p (.lst ys))):
  nO J g tc te σ0 Q H:=by
 refine⟨λi m ys H=>m=n-i/\i<=n/\ys.length<=i/\Pv i ys H,⟨n,by simp,MM _,Ma _,h0⟩,?_⟩;rintro i m ys H ⟨rfl,hi,hl,p⟩;by_cases U:i<n
 ·refine .inr ⟨hgo i ys H U p,by(clear U;lia),λx H' y=>?_⟩;have key:=hs i ys H x H' (λys' H2=>(ys'.length<=ys.length+1->∃ I,I<n-i/\I=n-(i+1)/\i+1<=n/\ys'.length<=i+1/\Pv (i+1) ys' H2)) U p y (λys' H2 q hle=>⟨n-(i+1),by(clear hle hl hi hz;lia),rfl,U,by(clear U hi hz;lia),q⟩);have e:(λσ2 H2=>tc σ2 H2 λb H3=>if b=true then te σ2 H3 λy H4=>((ys++[y]).length<=ys.length+1->∃ I,I<n-i/\I=n-(i+1)/\i+1<=n/\(ys++[y]).length<=i+1/\Pv (i+1) (ys++[y]) H4)
    else (ys.length<=ys.length+1->∃ I,I<n-i/\I=n-(i+1)/\i+1<=n/\ys.length<=i+1/\Pv (i+1) ys H3))=
   (λσ2 H2=>tc σ2 H2 λb H3=>if b=true then te σ2 H3 λy H4=>∃ I,I<n-i/\I=n-(i+1)/\i+1<=n/\(ys++[y]).length<=i+1/\Pv (i+1) (ys++[y]) H4
    else ∃ I,I<n-i/\I=n-(i+1)/\i+1<=n/\ys.length<=i+1/\Pv (i+1) ys H3):=by
   funext σ2 H2
   congr 1
   funext b H3
   have e1:∀(y:V) (H4:Hp),((ys++[y]).length<=ys.length+1->∃ I,I<n-i/\I=n-(i+1)/\i+1<=n/\(ys++[y]).length<=i+1/\Pv (i+1) (ys++[y]) H4)=(∃ I,I<n-i/\I=n-(i+1)/\i+1<=n/\(ys++[y]).length<=i+1/\Pv (i+1) (ys++[y]) H4):=λy H4=>
    propext ⟨λq=>q (by simp),λq _=>q⟩
   have e2:(ys.length<=ys.length+1->∃ I,I<n-i/\I=n-(i+1)/\i+1<=n/\ys.length<=i+1/\Pv (i+1) ys H3)=(∃ I,I<n-i/\I=n-(i+1)/\i+1<=n/\ys.length<=i+1/\Pv (i+1) ys H3):=propext ⟨λq=>q (by(clear U hl hi hz;lia)),λq _=>q⟩;simp only[e1,e2]
  rw[e] at key;exact key
 ·have e:i=n:=by(clear hl hz;lia)
  subst e;exact .inl ⟨hstop ys H p,by(clear U hi;lia),hd ys H p hl⟩
theorem vT{x:Str}{g:TG}{tc:TT}{te:TE}{σ0:St}{H:Hp}{Q:VK}(Pv:Nat->LR V->Hp->Prop)(hz:x.cps.size<sizeLine)(h0:Pv 0 [] H)
  (hs:∀ i c ys H (N:LR V->Hp->Prop),x.cps[i]? =some c->Pv i ys H->(∀ ys' H2,Pv (i+1) ys' H2->N ys' H2)->
   g (.str ⟨#[c]⟩) σ0 H λσ2 H2=>tc σ2 H2 λb H3=>if b=true then te σ2 H3 λy H4=>N (ys++[y]) H4 else N ys H3)
  (hd:∀ ys H,Pv x.cps.size ys H->ys.length<=x.cps.size->∀ p,H p=none->Q (.ref p) (upd H p (.lst ys))):nO (uS x) g tc te σ0 Q H:=rV x.cps.size Pv hz (λi ys H hi _=>hi) (λys H _=>rfl) h0
 (λi ys H v H' N hi p y I=>by
  obtain⟨e,c,J,U⟩:=y;subst e U;exact hs i c ys _ N J p I) hd
theorem ow{lo:Int}{n:Nat}{g:TG}{tc:TT}{te:TE}{σ0:St}{H:Hp}{Q:VK}(Pv:Nat->LR V->Hp->Prop)(hz:n<sizeLine)(h0:Pv 0 [] H)
  (hs:∀ i ys H (N:LR V->Hp->Prop),i<n->Pv i ys H->(∀ ys' H2,Pv (i+1) ys' H2->N ys' H2)->
   g (.int (lo+i)) σ0 H λσ2 H2=>tc σ2 H2 λb H3=>if b=true then te σ2 H3 λy H4=>N (ys++[y]) H4 else N ys H3)
  (hd:∀ ys H,Pv n ys H->ys.length<=n->∀ p,H p=none->Q (.ref p) (upd H p (.lst ys))):nO (lV lo n) g tc te σ0 Q H:=rV n Pv hz (λi ys H hi _=>hi) (λys H _=>Ma _) h0
 (λi ys H v H' N hi p y I=>by
  obtain⟨e,J⟩:=y;subst e J;exact hs i ys _ N hi p I) hd
theorem gC{K:Mm}{a:LS}{xs:LR V}{g:TG}{tc:TT}{te:TE}{σ0:St}{H:Hp}{Q:VK}(Pv:Nat->LR V->Hp->Prop)(hz:xs.length<sizeLine)(hl:∀ i ys H,Pv i ys H->cS K H a xs)(h0:Pv 0 [] H)
  (hs:∀ i x ys H (N:LR V->Hp->Prop),xs[i]? =some x->Pv i ys H->(∀ ys' H2,Pv (i+1) ys' H2->N ys' H2)->
   g x σ0 H λσ2 H2=>tc σ2 H2 λb H3=>if b=true then te σ2 H3 λy H4=>N (ys++[y]) H4 else N ys H3)
  (hd:∀ ys H,Pv xs.length ys H->ys.length<=xs.length->∀ p,H p=none->Q (.ref p) (upd H p (.lst ys))):nO (nU K a) g tc te σ0 Q H:=rV xs.length Pv hz
 (λi ys H hi p=>⟨xs,xs[i],hl i ys H p,by simp[hi]⟩) (λys H p=>⟨xs,hl _ ys H p,Ma _⟩) h0
 (λi ys H v H' N hi p y I=>by
  obtain⟨e,y⟩:=y;subst e;exact hs i v ys _ N (y xs (hl i ys _ p)) p I) hd
@[elab_as_elim] theorem gD {α:Type}{p:LR α->Prop}(h:∀ a,p [a])(us:LR α)(hl:us.length=1):p us:=by
 obtain⟨a,rfl⟩:=List.length_eq_one_iff.mp hl;exact h a
@[elab_as_elim] theorem eO {α:Type}{p:LR α->Prop}(h:∀ a b,p [a,b])(us:LR α)(hl:us.length=2):p us:=by
 cases us with
 |nil=>cases hl
 |cons a r=>exact @gD _ (λr=>p (a::r)) (λb=>h a b) r (Oi hl)
@[elab_as_elim] theorem jD {α:Type}{p:LR α->Prop}(h:∀ a b c,p [a,b,c])(us:LR α)(hl:us.length=3):p us:=by
 cases us with
 |nil=>cases hl
 |cons a r=>exact @eO _ (λr=>p (a::r)) (λb c=>h a b c) r (Oi hl)
@[elab_as_elim] theorem lY {α:Type}{p:LR α->Prop}(h:∀ a b c d,p [a,b,c,d])(us:LR α)(hl:us.length=4):p us:=by
 cases us with
 |nil=>cases hl
 |cons a r=>exact @jD _ (λr=>p (a::r)) (λb c d=>h a b c d) r (Oi hl)
end L2
namespace K01
noncomputable def lo(c:Nat):Nat:=if 65<=c/\c<=90 then c+32 else c
noncomputable def dW(c:Nat):Nw:=(decide (97<=c)&&decide (c<=122))||(decide (48<=c)&&decide (c<=57))
noncomputable def eJ(c:Nat):Nw:=decide (c=10)||(decide (32<=c)&&decide (c<=126) && !decide (c=37))
noncomputable abbrev Wd:=LR Nat×Nat×Nat
noncomputable def flush(i:Nat)(w:LR Nat):LR Wd:=if w=[] then [] else [(w,i-w.length,i)]
noncomputable def fW:LR Nat->Nat->LR Nat->LR Wd
 |[],i,w=>flush i w
 |c::r,i,w=>if dW c then fW r (i+1) (w++[c]) else flush i w++fW r (i+1) []
noncomputable def words(cs:LR Nat):LR Wd:=fW (cs.map lo) 0 []
theorem mq{c:Nat}{r:LR Nat}{i:Nat}{w:LR Nat}(h:dW c=true):fW (c::r) i w=fW r (i+1) (w++[c]):=by
 rw[fW,LZ h]
theorem kX{c:Nat}{r:LR Nat}{i:Nat}{w:LR Nat}(h:dW c=false):fW (c::r) i w=flush i w++fW r (i+1) []:=by
 rw[fW,LX (by rw[h];exact MC)]
theorem vQ:∀(r:LR Nat) (i:Nat) (w:LR Nat),fW (r++[32]) i w=fW r i w
 |[],i,w=>by
  show fW [32] i w=fW [] i w;rw[kX (by decide)];simp[fW,flush]
 |c::r,i,w=>by
  show fW (c::(r++[32])) i w=_;cases h:dW c with
  |true=>rw[mq h,mq h,vQ]
  |false=>rw[kX h,kX h,vQ]
theorem jz{c:Nat}(h:eJ c=true):c<128:=by
 unfold eJ at h;simp only[Bool.or_eq_true,MO,decide_eq_true_eq,PZ,OW] at h
 lia
theorem wq{c:Nat}(h:dW c=true):eJ c=true:=by
 unfold dW at h;unfold eJ;simp only[Bool.or_eq_true,MO,decide_eq_true_eq,PZ,OW] at *
 lia
theorem jE{c:Nat}(h:dW c=true):c<128:=jz (wq h)
noncomputable def wu(n:Nat)(x:Wd):Prop:=x.1≠[]/\x.1.all dW=true/\x.2.1+x.1.length=x.2.2/\x.2.2<=n
theorem AZ{n i:Nat}{w:LR Nat}(hw:w.all dW=true)(hi:w.length<=i)(hn:i<=n):∀ x∈flush i w,wu n x:=by
 intro x I;unfold flush at I;split at I
 ·cases I
 ·rename_i h;have e:x=(w,i-w.length,i):=by simpa using I
  subst e;exact⟨h,hw,by show i-w.length+w.length=i;(clear h hn hw;lia),hn⟩
theorem uL:∀(r:LR Nat) (i:Nat) (w:LR Nat) (n:Nat),w.all dW=true->w.length<=i->i+r.length<=n->∀ x∈fW r i w,wu n x
 |[],i,w,n,hw,hi,hn,x,J=>AZ hw hi (by simpa using hn) x J
 |c::r,i,w,n,hw,hi,hn,x,J=>by
  have I:i+1+r.length<=n:=by simp at hn;(clear hi hw;lia)
  cases h:dW c with
  |true=>
   rw[mq h] at J;exact uL r (i+1) (w++[c]) n (by simp[O8,hw,h]) (by simp;(clear h I hn hw;lia)) I x J
  |false=>
   rw[kX h] at J;rcases List.mem_append.mp J with q|q
   ·exact AZ hw hi (by(clear h I hi hw;lia)) x q
   ·exact uL r (i+1) [] n rfl (MM _) I x q
theorem Lf(cs:LR Nat):∀ x∈words cs,wu cs.length x:=uL _ 0 [] _ rfl (Ma _) (by simp)
theorem yC(i:Nat)(w:LR Nat):(flush i w).length<=1:=by unfold flush;split<;>simp
theorem uo:∀(r:LR Nat) (i:Nat) (w:LR Nat),(fW r i w).length<=r.length+1
 |[],i,w=>by simpa[fW] using yC i w
 |c::r,i,w=>by
  cases h:dW c with
  |true=>rw[mq h];have:=uo r (i+1) (w++[c]);simp;(clear h;lia)
  |false=>
   rw[kX h,Md];have:=uo r (i+1) [];have:=yC i w;simp;(clear h;lia)
theorem B9(cs:LR Nat):(words cs).length<=cs.length+1:=by simpa[words] using uo (cs.map lo) 0 []
open PySem L2
noncomputable def dX:V->Nw
 |.str z=>decide (z.length<=2000)&&z.cps.toList.all eJ
 |_=>false
noncomputable def dA(most:Nat):V->Nw
 |.str z=>decide (1<=z.length)&&decide (z.length<=most)&&z.cps.toList.all dW
 |_=>false
noncomputable def fT(x:V):Prop:=∀ z,x= .str z->z.length<=5000
end K01
namespace Gn
open PySem L2 PyProof.Rows PySem.Spec
section
variable {P : Mq} {w : MT} {K : Mz} {mg : Str -> Mc LW} {base h : Nn}
noncomputable def oK:V->Nw
 |.str _=>true
 |_=>false
noncomputable def pZ:V->Nw
 |.int _=>true
 |.bl _=>true
 |_=>false
noncomputable def qY:V->Nw
 |.bl _=>true
 |_=>false
noncomputable def Known(K:Mm)(H:Hp)(x:V):Prop:=∃ n,fO K H x (.type n)
theorem Al{K:Mm}{H:Hp}{x:V}{n:OE}(h:fO K H x (.type n)):Ng K (.type n) (.type "str")=some (oK x):=by
 cases h<;>kernel_rfl
theorem z6{K:Mm}{H:Hp}{x:V}{n:OE}(h:fO K H x (.type n)):Ng K (.type n) (.type "int")=some (pZ x):=by
 cases h<;>kernel_rfl
theorem uG{K:Mm}{H:Hp}{x:V}{n:OE}(h:fO K H x (.type n)):Ng K (.type n) (.type "bool")=some (qY x):=by
 cases h<;>kernel_rfl
theorem Known.same {K:Mm}{H H':Hp}{x:V}(h:Known K H x)(e:cR H H'):Known K H' x:=by
 obtain⟨n,h⟩:=h;cases h with
 |non=>exact⟨_,.non⟩
 |bl b=>exact⟨_,.bl b⟩
 |int i=>exact⟨_,.int i⟩
 |str z=>exact⟨_,.str z⟩
 |flt z=>exact⟨_,.flt z⟩
 |lst q=>exact⟨_,.lst (e _ _ q)⟩
 |frz q=>exact⟨_,.frz (e _ _ q)⟩
 |tup q=>exact⟨_,.tup (e _ _ q)⟩
 |dK q=>exact⟨_,.dK (e _ _ q)⟩
 |dT q=>exact⟨_,.dT (e _ _ q)⟩
theorem da{H:Hp}{a:LS}{o:HO}(h:H a=none):cR H (upd H a o):=λb u e=>by rw[cW (dF e h)];exact e
theorem cR.upd {H H':Hp}{a:LS}{o:HO}(s:cR H H')(h:H' a=none):cR H (upd H' a o):=s.trans (da h)
structure Df (K : Mm) (mg : Str -> Mc LW) (x : Str) (st : Nr) (f : LS) (fd : Mj) : Prop where
 F : dv K x x st f fd
 m : mg x = some (.ref f)
theorem gG:Ny "isinstance"=some (.builtin "isinstance"):=dkq
theorem yV:Ny "int"=some (.type "int"):=dkq
theorem vm:Ny "bool"=some (.type "bool"):=dkq
theorem zr:Ny "str"=some (.type "str"):=dkq
theorem jL:Ny "list"=some (.type "list"):=dkq
theorem pM:Ny "tuple"=some (.type "tuple"):=dkq
theorem gf:Ny "len"=some (.builtin "len"):=dkq
theorem oM:Ny "all"=some (.builtin "all"):=dkq
theorem Ej:Ny "ValueError"=some (.type "ValueError"):=dkq
theorem eI{x p:Str}{st:Nr}{f:LS}{fd:Mj}(F:dv K x x st f fd)
  (h:∀(kV doc pm:LW) (an:Mc LS) (cdv ct:LW) (u:LW),RM (NN x x (eU st) (eG st) (c9 st) .none kV doc pm an cdv ct) ⟨[u],[]⟩=pure ([p].zip [u])):Binds K fd [p] []:=
 F.binds λkV doc pm an cdv ct us hl=>gD (λu=>h kV doc pm an cdv ct u) us hl
theorem g1{i:Nat}{v:V}{σ:L2.St}{H:Hp}{te:TE}{M:V->Hp->Prop}{N0:Hp->Prop}(h:te (σ.set i (some v)) H M):lh i v σ H λσ2 H2=>tf σ2 H2 λb H3=>if b=true then te σ2 H3 M else N0 H3:=by
 show if true=true then te (σ.set i (some v)) H M else N0 H
 exact dG h
structure Ex (K : Mm) (mg : Str -> Mc LW) (x : Str) (C : LS) : Prop where
 m : mg x = some (.ref C)
 q : QH K C [.type "ValueError", .type "Exception", .type "BaseException", .type "object"] "ValueError.__new__" = true
structure gS (K : Mm) (mg : Str -> Mc LW) (x : Str) (st : Nr) (f : LS) (fd : Mj) (items : Nd LW) : Prop where
 ex : ∃ (oc : LW) (od : Mc LS) (kV doc pm : LW) (an : Mc LS) (cdv ct : LW) (osl : Nd (Mc LW)) (T : LS) (o : Obj) (n : Nat),
  fd = NN x x (eU st) (eG st) (c9 st) (.ref T) kV doc pm an cdv ct /\ K.lookup f = some ⟨oc, od, .func fd, osl⟩ /\ NA K cdv x = true /\ K.lookup T = some o /\ o.data = .seq items n
 kp : Nx K (.ref f) = true
 m : mg x = some (.ref f)
theorem gS.ok1 {x:Str}{st:Nr}{f:LS}{fd:Mj}{items:Nd LW}{N ps:LR Str}{k:Nat}{sp:Sp}(F:gS K mg x st f fd items)(S:dC N ps (c9 st))(len:∀ vs H Q E,sp vs H Q E->vs.length=ps.length)
  (hbody:∀(cdv:LW) (A:Np) (outer:LR Env) (s:Me) (H:Hp) (vs:LR V) (Q:VK) (E:XK),eK k (A.deeper (Pc x (c9 st) s.heap.objs.size f cdv))->sp vs H Q E->
   ∃ t,dj (fL (dz P w) P w K mg base N x (c9 st) f cdv A outer s H E) (eG st) t/\t {nx:=λ_ H'=>Q .non H',rt:=Q} (L2.start N vs) H):cV P w K mg base (dz P w) (k+1) f fd ps sp:=by
 obtain⟨oc,od,kV,doc,pm,an,cdv,ct,U,T,o,n,rfl,lk,I,_⟩:=F.ex;exact rO lk I S len λA outer s H vs Q E hr J=>hbody cdv A outer s H vs Q E hr J
theorem gS.binds {x:Str}{st:Nr}{f:LS}{fd:Mj}{items:Nd LW}{ps:LR Str}{ds:LR LW}(F:gS K mg x st f fd items)
  (h:∀(T:LS) (kV doc pm:LW) (an:Mc LS) (cdv ct:LW) (us:LR LW),(us++ds).length=ps.length->∃ k:Mc (Nd LW)->Sem (LR (Str×LW)),
   RM (NN x x (eU st) (eG st) (c9 st) (.ref T) kV doc pm an cdv ct) ⟨us,[]⟩=seqItems? (.ref T) >>= k/\k (some items)=pure (ps.zip (us++ds))):Binds K fd ps ds:=by
 obtain⟨oc,od,kV,doc,pm,an,cdv,ct,I,T,o,n,rfl,lk,J,U,hd⟩:=F.ex;intro s us X hl;obtain⟨k,h1,h2⟩:=h T kV doc pm an cdv ct us hl;exact BindsTo.of_defaults (T:=T) rfl (X _ _ U) hd h1 h2
noncomputable def gW(x:V)(least:Int)(most:Mc Int):Nw:=match x with
 |.int i=>decide (least<=i)&&(match most with|none=>true|some m=>decide (i<=m))
 |_=>false
noncomputable def Fj:Mc Int->V
 |none=> .non
 |some m=> .int m
noncomputable def vk(K:Mm)(C:LS):Sp:=λvs H Q E=>∃(x:V) (l:Int) (m:Mc Int),vs=[x,.int l,Fj m]/\Known K H x/\(gW x l m=true->Q x H)/\(gW x l m=false->E (.ref C) none H)
theorem BS{K:Mm}{H:Hp}:∀(ns:LR Int),fQ K H (ns.map V.int) (ns.map PyData.int)
 |[]=> .nil
 |n::ns=> .cons (.int n) (BS ns)
theorem lay_ints:∀(ns:LR Int),(NP (ns.map PyData.int)).canLay0=true:=by
 intro ns;induction ns with
 |nil=>rfl
 |cons n ns I=>exact I
theorem Paired.imp2 {α β:Type}{F G:α->β->Prop}:∀{l:LR α} {m:LR β},MY F l m->(∀ a b,F a b->G a b)->MY G l m
 |_,_,.nil,_=> .nil
 |_,_,.cons r t,f=> .cons (f _ _ r) (Paired.imp2 t f)
theorem Paired.app {α β:Type}{F:α->β->Prop}{a:α}{b:β}:∀{l:LR α} {m:LR β},MY F l m->F a b->MY F (l++[a]) (m++[b])
 |_,_,.nil,h=> .cons h .nil
 |_,_,.cons r t,h=> .cons r (Paired.app t h)
theorem Paired.len {α β:Type}{F:α->β->Prop}:∀{l:LR α} {m:LR β},MY F l m->l.length=m.length
 |_,_,.nil=>rfl
 |_,_,.cons _ t=>by simp[Paired.len t]
theorem EX{H0 H:Hp}{a t:LS}{o o':HO}(s:cR H0 H)(ha:H0 a=none)(ht:H t=none):cR H0 (upd (upd H t o) a o'):=λb u e=>by
 rw[cW (dF e ha),cW (dF (s b u e) ht)];exact s b u e
theorem PS.nox {X:Cx}{st:Nr}{t:TS}(h:PS X.nox st t):PS X st t:=λpins s σ H D I hw=>
 NI (h pins s σ H D (I.wish _) hw) (λ_ _ q=>q.unwish) λ_ _ z=>Nu z
theorem qa{te:TE}{σ2:L2.St}{H2:Hp}{M:VK}{N0:Hp->Prop}(h:te σ2 H2 M):tf σ2 H2 (λb H3=>if b=true then te σ2 H3 M else N0 H3):=by
 show if true=true then te σ2 H2 M else N0 H2
 exact dG h
theorem fX{α β:Type}{F:α->β->Prop}:∀{l:LR α} {m:LR β},MY F l m->∀{i:Nat} {a:α},l[i]? =some a->∃ b,m[i]? =some b/\F a b
 |_,_,.nil,i,a,h=>by simp at h
 |_,_,.cons r t,0,a,h=>by simp at h;subst h;exact⟨_,rfl,r⟩
 |_,_,.cons r t,i+1,a,h=>by
  obtain⟨b,h1,h2⟩:=fX t (i:=i) (a:=a) (by simpa using h);exact⟨b,by simpa using h1,h2⟩
theorem kG{r n:Int}(hn:0<n):∃ j:Nat,(j:Int)=r%n/\(j:Int)<n:=by
 have h1:=Pz r (show n≠0 by lia)
 have h2:=O1 r hn;exact⟨(r%n).toNat,by lia,by lia⟩
noncomputable def Eo(c:TT)(t u:TS):TS:=λD σ H=>∃ J:L2.St->Hp->Prop,(c σ H λb H1=>if b=true then t {D with nx:=J} σ H1 else u {D with nx:=J} σ H1)/\∀ I H',J I H'->D.nx I H'
theorem uX{X:Cx}{c:Nv}{a b:LR Nr}{tc:TT}{t u:TS}{pos:Pos}(hc:PT X c tc)(ha:dj X a t)(hb:dj X b u):PS X (.If c a b pos) (Eo tc t u):=by
 intro pins s σ H D I h;obtain⟨J,h1,h2⟩:=h;refine dh (dP hc ha hb pins s σ H {D with nx:=J} I h1) λf s1 q=>?_
 cases f with
 |next=>obtain⟨U,H',I',q⟩:=q;exact⟨U,H',I',h2 _ _ q⟩
 |brk=>exact q
 |cont=>exact q
 |ret u=>exact q
theorem IX{xs:LR V}{n L:Int}(h0:0<xs.length)(hL:L=(xs.length:Nat)):∃ v∈xs,iT xs (n%L)=some v:=by
 obtain⟨j,J,U⟩:=kG (r:=n) (n:=L) (by lia);have I:j<xs.length:=by lia
 refine⟨xs[j],Pq I,?_⟩;rw[<-J];exact dS (List.getElem?_eq_getElem I)
theorem LO{a b:Int}(h:a=b):decide (V.int a=V.int b)=true:=by subst h;exact Mb rfl
theorem AI{a b:Int}(h:a≠b):decide (V.int a=V.int b)=false:=LY λz=>h (by injection z)
theorem PE.imp {X:Cx}{e:Nv}{t t':TE}(h:PE X e t)(i:∀ σ H Q,t' σ H Q->t σ H Q):PE X e t':=λpins s σ H Q I q=>h pins s σ H Q I (i σ H Q q)
theorem jG{d:OV}(h:d.canLay0=true):RL d d=true:=SeqAt.eqv_refl d h
noncomputable def Dk(K:Mm):LR V->Hp->VK->Prop:=λxs H Q=>∃ x c t b,xs=[x,c]/\fO K H x t/\
  ((∃ n,c= .ty n/\Ng K t (.type n)=some b)\/(∃ C,c= .ref C/\Ng K t (.ref C)=some b))/\Q (.bl b) H
theorem Bl{X:Cx}{K:Mm}(h:X.K=K):gy X (.builtin "isinstance") (Dk K):=by subst h;exact jb
theorem BV{X:Cx}{K:Mm}(h:X.K=K):pK X (Bb K):=by subst h;exact eY
theorem qZ{K:Mm}:Ng K (.type "tuple") (.type "tuple")=some true:=by kernel_rfl
theorem sv{K:Mm}:Ng K (.type "list") (.type "list")=some true:=by kernel_rfl
theorem ig{P:Mq}{w:MT}{X:Cx}:Passes (dz P w) X E0:=λ_ _ _ _ _ _ _ h=>(dz.no h).elim
theorem d9{x:Str}{st:Nr}{f:LS}{oc kV doc pm cd ct:LW}{od an:Mc LS}{sl:Nd (Mc LW)}(X:K.In h)(G:h.Ns Mw mg)(a:N6 K Mw x=some (some (.ref f)))
  (l:K.lookup f=some ⟨oc,od,.func (NN x x (eU st) (eG st) (c9 st) .none kV doc pm an cd ct),sl⟩)(c:NA K cd x=true)(k:Nx K (.ref f)=true):∃ f fd,Df K mg x st f fd:=
 ⟨f,_,gg l c k,Oa X G a⟩
theorem yD{x:Str}{st:Nr}{f T:LS}{oc kV doc pm cd ct tc:LW}{od an td:Mc LS}{sl tsl:Nd (Mc LW)}{items:Nd LW}{tn:Nat}(X:K.In h)(G:h.Ns Mw mg)(a:N6 K Mw x=some (some (.ref f)))
  (l:K.lookup f=some ⟨oc,od,.func (NN x x (eU st) (eG st) (c9 st) (.ref T) kV doc pm an cd ct),sl⟩)(c:NA K cd x=true)(k:Nx K (.ref f)=true)
  (t:K.lookup T=some ⟨tc,td,.seq items tn,tsl⟩):∃ f fd,gS K mg x st f fd items:=
 ⟨f,_,⟨oc,od,kV,doc,pm,an,cd,ct,sl,T,_,tn,rfl,l,c,t,rfl⟩,k,Oa X G a⟩
end
open PySem PySem.W PySem.Calls PyProof.Rows
theorem yL:∀(ns:LR Int) (m:Nat),WData.weightAll (ns.map Rh)<=m->∀ n∈ns,OQ n<=m
 |[],_,_,_,h=>nomatch h
 |i::ns,m,hw,n,h=>by
  have I:OQ i+1+WData.weightAll (ns.map Rh)<=m:=hw;rcases List.mem_cons.mp h with rfl|h
  ·lia
  ·exact yL ns m (by lia) n h
theorem LP{ns:LR Int}(h:WData.layableAll [WData.list (ns.map Rh)]=true):∀ n∈ns,OQ n<=2 ^ 20:=by
 have h1:(WData.layable (WData.list (ns.map Rh))&&true)=true:=h;rw[Bool.and_true] at h1;have h2:=(Bool.and_eq_true_iff.mp h1).2;exact yL ns _ (Nh h2)
theorem FF{l:OpenLaw}{n:Nat}{q:Mq}{loose:LR Str}{XP:(Str->Mc LW)->Nn->Prop}{YP:MT->Nn->Prop}{d:DefRec}
  (hn:l.most=some n)(hdf:d.params.defaults=[])
  (call:∀(w:MT) (s₀ s₁:Me) (mg mb:Str->Mc LW) (fa:LS) (a:LS) (vs:LR LW) (ns:LR Int),
   Ground q loose [] XP w s₀ mg mb s₁.heap->YP w s₁.heap->mg d.name=some (.ref fa)->
   s₁.heap.get? a=some {cls:= .type "list",data:= .seq vs.toArray}->IntsAre vs ns->ns.length<=n->(∀ i∈ns,OQ i<=2 ^ 20)->s₁.gens=#[]->
   QE (My l.prog w) RK (.call (.ref fa) ⟨[.ref a],[]⟩) (λr s'=>r= .ok (.ret (.bool true))/\OldK s₁.heap s'.heap/\s'.os=s₁.os/\QB s'.gens) s₁):
  WalkO q loose XP YP l.row.toRowW d [] (λf vs=>PySem.call f vs):=by
 intro w s₀ s₁ mg mb G Y fa o pm cd doc dV kV ho hd ae hD aa hg args vals as I J af ab ag;obtain rfl:dV= .none:=Dflts.none hD hdf;obtain rfl:kV= .none:=Dflts.noKw hD;obtain⟨a,vs,ns,rfl,rfl,U,hints,hlen⟩:=Att.EE hn I ab;refine enter_call (PU (call w s₀ s₁ mg mb fa a vs ns G Y aa U hints hlen (LP J) hg) λr s' hq=>?_);obtain⟨rfl,h2,h3,h4⟩:=hq;exact⟨.inl ⟨.bool true,.bool true,[],rfl,λ_=>rfl,.bool true,Att.Gq l _,λ_=>⟨List.Pairwise.nil,λ_ hm=>(nomatch hm)⟩⟩,h2,h3,h4⟩
theorem HJ{l:W.OpenLaw}{n k:Nat}{q:Mq}{loose:LR Str}{XP:(Str->Mc LW)->Nn->Prop}{YP:MT->Nn->Prop}{d:DefRec}{K:Params->Mm}{sp:Mm->Sp}{x:Str}
  (hn:l.most=some n)(hn2:n<=sizeLine)(hdf:d.params.defaults=[])(hr:eK k RK)
  (hY:∀(w:MT) (h:Nn),YP w h->(K w.params).In h)
  (F:∀(w:MT) (mg:Str->Mc LW) (fa:LS) (h:Nn),(K w.params).In h->h.Ns Mw mg->mg d.name=some (.ref fa)->
   ∃ fd:Mj,(∀(s:Me) (u:LW),RJ s fd ⟨[u],[]⟩ [(x,u)])/\
    ∀ base:Nn,(K w.params).In base->base.Ns Mw mg->cV l.prog w (K w.params) mg base dc k fa fd [x] (sp (K w.params)))
  (hsp:∀(K:Mm) (H:Hp) (a:LS) (ns:LR Int),ns.length<=n->(∀ i∈ns,OQ i<=2 ^ 20)->cS K H a (ns.map V.int)->sp K [.ref a] H (λv _=>v= .bl true) λ_ _ _=>Om):
  W.WalkO q loose XP YP l.row.toRowW d [] (λf vs=>PySem.call f vs):=by
 refine FF hn hdf λw s₀ aa mg mb fa a vs ns G Y U J hints hlen I hg=>?_
 have KX:=hY w _ Y;obtain⟨fd,hb,hF⟩:=F w mg fa _ KX G.T.g U;exact Gb KX G.T.g G.T.b G.T.builtins G.T.nolimit hg J hints (Mr hlen hn2) hr hF hb (λH hO hS=>hsp _ H a ns hlen I hS) λH e s' z=>z
end Gn
namespace L2
open PySem PySem.Spec PyProof.Rows
section
variable {X : Cx}
theorem rB{i:Nat}{x:Str}{pos' spos:Pos}{elt target iter:Nv}{ifs:LR Nv}{scope sc0:Qe}{pos:Pos}{N N0:LR Str}{own:Nat}{caps:LR Nat}{wi:TI}{g:TG}{tc:TT}{te t':TE}
  (hNd:X.N.Nodup)(hxi:X.N[i]? =some x)(hx:Loc X.env.scope x)
  (hcalm:X.calm=true)(hi:PI X target iter wi)
  (hg:∀ s₀ H₀ ex,PG (gr X scope N s₀ H₀ ex) target g)(hc:∀ s₀ H₀ ex,dD (gr X scope N s₀ H₀ ex) ifs tc)(he:∀ s₀ H₀ ex,PE (gr X scope N s₀ H₀ ex) elt te)(hk:ng own g)
  (hX:X.N=N0)(hsc:X.env.scope=sc0)
  (hcell:∀ y∈scope.names,y.2≠ .cell)(hkind:scope.kind= .function)(hnames:∀ y∈scope.names,y.2= .local->scope.names.lookup y.1=some .local)
  (hfree:∀ y∈scope.names,y.2= .free->sc0.names.lookup y.1=some .cell)(hN:N.length=own+caps.length)
  (hcap:∀ p∈caps.zip (N.drop own),N0[p.1]? =some p.2/\scope.names.lookup p.2=some .free)
  (himp:∀ σ H Q,t' σ H Q->uP own caps wi g tc te σ H Q)
  (hs:∀ x,PQ iter X.env x=pure x:=by intro _;rfl)
  (hsw:RH (.ListComp elt [⟨target,iter,ifs,0⟩] scope pos) (some (.Name x pos')) spos.line X.env=pure true:=by rfl)
  (hf:X.fn x=true\/X.env.scope.names.lookup x=some .local:=by first|exact .inl rfl|exact .inr rfl|assumption):
  PS X (.Assign [.Name x pos'] (.ListComp elt [⟨target,iter,ifs,0⟩] scope pos) spos) (u9 t' (lh i)):=by
 intro pins s σ H D I h;rw[exec_Assign_Name_used _ _ _ _ hsw];refine Mn (wpAny_standAt (Mn ?_));show MD _ X.A (do let _<-comprehension (.ListComp elt [⟨target,iter,ifs,0⟩] scope pos) scope X.env _ (newList []) false (eval iter X.env) (some (assign (.Name x pos') X.env))) _ _ s;refine Mn (NI (zZ (use:=some (assign (.Name x pos') X.env)) (Qf:=λ_ s'=>SP X pins D .next s') hcalm hi hg hc he hk hX hsc hcell hkind hnames hfree hN hcap hs I (himp _ _ _ h) ?_) (λ_ s' hq=>Nf (Nf hq)) λ_ _ e=>e);intro U C s' He ys m f hn hI J q;show MD _ X.A (assign (.Name x pos') X.env (.ref U)) _ _ s';have I1:Inv X pins σ (upd He U (.lst ys)) s':=hI s'.heap ⟨rfl,λ_ _=>rfl⟩;refine wpAny_assign_Name (AO (v:= .ref U) I1 hNd hxi hx rfl (λaa I2 ⟨a,ab,ha⟩=>?_) hf);have ae:C≠a:=by
  rcases ha with rfl|ha
  ·exact J.2.1
  ·exact λz=>J.2.2.2.2.1 _ _ ha z.symm
 refine⟨m,hn.sameBut ab ae,λh' af=>⟨_,_,I2.turnedL (fp:=[C]) (t':=aa.toks) (λb o hb e=>(af.2 b (λz=>hb (by rw[z];exact List.mem_singleton.mpr rfl))).trans e) (λb hb=>?_),q⟩⟩;rw[List.mem_singleton.mp hb];exact J
end
noncomputable def qv(a:LS):It:=⟨λi H=>∃ xs x,H a=some (.lst xs)/\xs[i]? =some x,λi H v H'=>∃ T x,H T=none/\(∀ xs,H a=some (.lst xs)->xs[i]? =some x)/\v= .ref T/\H'=upd H T (.tup [.int i,x]),λi H=>∃ xs,H a=some (.lst xs)/\i=xs.length⟩
theorem C8{P:Mq}{w:MT}{K:Mz}{elts:LR Nv}{k:Nat}{pos:Pos}(a e it:LS)(hei:e≠it):
  Turn P w K (.Tuple elts k pos) (qv a) [e,it] e (λi h=>(∃ old,IsEnum h e it i old)/\h.IsListIter it a i) where
 mem:=by simp
 obj:=λi h st b hb=>by
  obtain⟨⟨old,he⟩,o,ho,c,d⟩:=st;rcases List.mem_cons.mp hb with rfl|hb
  ·exact⟨_,he,λv z=>nomatch z⟩
  ·have e:b=it:=by simpa using hb
   subst e;exact⟨o,ho,λv z=>by rw[d] at z;cases z⟩
 keep:=λi h h' st kk=>by
  obtain⟨⟨old,he⟩,o,ho,r⟩:=st;exact⟨⟨old,kk e (by simp) _ he⟩,o,kk it (by simp) o ho,r⟩
 item:=by
  intro X hP hw hK hc i pins s σ H E I hf st hg;subst hP hw hK;obtain⟨xs,x,U,hx⟩:=hg;obtain⟨J,rv,p,hz⟩:=I.list (cS.of U);obtain⟨u,hu,ru⟩:=rv.get hx;have ab:a≠e:=λz=>by rw[z,(hf e (by simp)).1] at U;cases U
  have ae:a≠it:=λz=>by rw[z,(hf it (by simp)).1] at U;cases U
  have aj:i<J.toArray.size:=by
   have:=(List.getElem?_eq_some_iff.mp hu).1;simpa using this
  have W:=PX (Draws.list (prog:=X.prog) (w:=X.w) (A:=X.A.in1) (I.ok.hd hc) it a ae J.toArray) e hei (by simp[hei,Nt ab]) (by simp);refine W.item i s _ _ aj ⟨st.1,st.2,p.isList⟩ λT vals h' tk hv hT ht mid kk=>⟨_,rfl,?_⟩
  obtain⟨t',y,hy,rfl⟩:=hv;have ak:y=u:=by
   have h1:J[i]? =some y:=by simpa using hy
   rw[hu] at h1;exact(Ml h1).symm
  subst ak;refine W.go elts k pos i T _ _ _ mid λaf aa ag=>?_
  have keep:∀ b o,b∉[e,it]->s.heap.get? b=some o->af.get? b=some o:=λb o hb q=>ag b o hb (kk b o hb q)
  have I1:Inv X pins σ H {s with heap:=af,toks:=tk}:=I.turnedL keep hf
  have hn:H T=none:=I.hok.fresh hT
  have ah:T∉[e,it]:=W.apart i T h' mid;obtain⟨ot,ao,aq,n,ar⟩:=ht;have I2:Inv X pins σ (upd H T (.tup [.int i,x])) {s with heap:=af,toks:=tk}:=by
   refine I1.track (.inl (Heap.get?_none_of_le (Mr I.sz hT))) hn (QD (Mx I.lt hT)) (λy c' q z=>?_) (λp hp z=>?_) ?_
   ·obtain⟨v,q'⟩:=I.cell y c' q;exact absurd (Mx q'.lt (by rw[z];exact hT)) (Nq _)
   ·exact absurd (Mx (Mv (I.pin p hp).1) (by rw[z];exact hT)) (Nq _)
   ·exact⟨by show 2<=sizeLine;decide,[.int i t',y],.cons ⟨_,rfl⟩ (.cons ru .nil),ot,ag T ot ah ao,aq,n,ar⟩
  refine⟨.ref T,_,I2,rfl,⟨T,x,hn,(λys ai=>?_),rfl,rfl⟩,⟨aa.1,aa.2.1⟩,λb hb=>?_⟩
  ·rw[U] at ai;cases ai;exact hx
  ·have au:b≠T:=λz=>ah (z ▸ hb)
   rw[cW au];exact(hf b hb).1
 done:=by
  intro X hP hw hK hc i pins s σ H E I hf st hg;subst hP hw hK;obtain⟨xs,U,hx⟩:=hg;obtain⟨J,rv,p,hz⟩:=I.list (cS.of U);have hl:=rv.length;have ab:a≠e:=λz=>by rw[z,(hf e (by simp)).1] at U;cases U
  have ae:a≠it:=λz=>by rw[z,(hf it (by simp)).1] at U;cases U
  have W:=PX (Draws.list (prog:=X.prog) (w:=X.w) (A:=X.A.in1) (I.ok.hd hc) it a ae J.toArray) e hei (by simp[hei,Nt ab]) (by simp)
  have hi:i=J.toArray.size:=by rw[hx,hl];simp
  subst hi;exact W.done s _ _ ⟨st.1,st.2,p.isList⟩ λh' tk kk=>⟨rfl,I.turnedL kk hf⟩
 self:=λA i s Q E st h=>by
  obtain⟨⟨old,he⟩,_⟩:=st;exact PY he h
noncomputable def IG(ta:TA):TI:=λσ H R=>ta σ H λvs H1=>∃(a:LS) (xs:LR V),vs=[.ref a]/\H1 a=some (.lst xs)/\R (qv a) H1
section
variable {X : Cx}
theorem pO{elts:LR Nv}{k:Nat}{tpos p pos:Pos}{a:Nv}{ta:TA}(hg:Gl X "enumerate")(hm:X.mg "enumerate"=none)(ha:PA X [a] ta)(hs:Ni [a] X.env=[(false,eval a X.env)]:=by rfl):
  PI X (.Tuple elts k tpos) (.Call (.Name "enumerate" p) [a] [] pos) (IG ta):=by
 intro pins s σ H R I h;refine Call_ (mh I hg hm boot_enumerate (N9 (dh (ha pos pins s σ H _ I h) λus s1 ⟨vs,H1,J,U,q1⟩=>?_) hs rfl));obtain⟨l,xs,e,hH,q⟩:=q1;subst e;obtain⟨u,rfl,ru⟩:=vals1 U;cases ru;obtain⟨aa,rv,pl,hz⟩:=J.list (cS.of hH);refine call_enumerate_list pl.isList λh' he hit hsz hk=>?_
 refine PY he ?_;refine⟨s1.heap.objs.size+1,[s1.heap.objs.size+1,s1.heap.objs.size],_,_,H1,rfl,J.kept (t':=s1.toks) hk,C8 l _ _ (Nat.succ_ne_self _),⟨⟨_,he⟩,hit⟩,λb hb=>?_,q⟩;rcases List.mem_cons.mp hb with rfl|hb
 ·exact J.fpOk (NC _) (J.hok.fresh (NC _))
 ·have e:b=s1.heap.objs.size:=by simpa using hb
  subst e;exact J.fpOk (Ma _) (J.hok.fresh (Ma _))
end
theorem pX{a:LS}{xs:LR V}{g:TG}{tb:TS}{D:Ends}{σ:St}{H:Hp}(Pv:Nat->St->Hp->Prop)(h0:Pv 0 σ H)(hl:∀ i σ H,i<=xs.length->Pv i σ H->H a=some (.lst xs))
  (hs:∀ i x σ H T,xs[i]? =some x->Pv i σ H->H T=none->g (.ref T) σ (upd H T (.tup [.int i,x])) λσ2 H2=>tb {D with nx:=Pv (i+1),ct:=Pv (i+1),bk:=D.nx} σ2 H2)(hd:∀ σ H,Pv xs.length σ H->D.nx σ H):
  ∃ W:Nat->Nat->St->Hp->Prop,(∃ m,W 0 m σ H)/\∀ i m σ H,W i m σ H->
   ((qv a).stop i H/\D.nx σ H)\/((qv a).go i H/\∃ N:St->Hp->Prop,(∀ σ' H',N σ' H'->∃ m',m'<m/\W (i+1) m' σ' H')/\∀ x H',(qv a).yld i H x H'->g x σ H' λσ2 H2=>tb {D with nx:=N,ct:=N,bk:=D.nx} σ2 H2):=by
 refine⟨λi m σ H=>m=xs.length-i/\i<=xs.length/\Pv i σ H,⟨xs.length,by simp,MM _,h0⟩,?_⟩;rintro i m σ H ⟨rfl,hi,p⟩;have q:=hl i σ H hi p;by_cases I:i<xs.length
 ·refine .inr ⟨⟨xs,xs[i],q,by simp[I]⟩,Pv (i+1),λσ' H' J=>⟨xs.length-(i+1),by lia,rfl,I,J⟩,λx H' y=>?_⟩;obtain⟨T,z,U,hz,rfl,rfl⟩:=y;exact hs i z σ H T (hz xs q) p U
 ·have e:i=xs.length:=by lia
  subst e;exact .inl ⟨⟨xs,q,rfl⟩,hd σ H p⟩
section
variable {X : Cx} {CX : iq} {k : Nat} {f C : LS} {fd : Mj} {ps : LR Str} {ds : LR LW} {dvs : LR V} {sp : Sp} {m : Str} {pos apos : Pos} {e o : Nv} {es : LR Nv} {ta : TE} {t : TA} {E : St -> XK}
noncomputable def LC(C:LS)(m:Str)(sp:Sp)(dvs:LR V)(E:St->XK)(ta:TE)(t:TA):TE:=λσ H Q=>ta σ H λx H1=>∃ a dx fs,x= .ref a/\H1 a=some (.ins C dx fs)/\fs.lookup m=none/\
 t σ H1 λvs H2=>sp (x::(vs++dvs)) H2 Q (E σ)
theorem rz{pl:Sem Nw}(he:PE X o ta)(c:iG X.K C)(hm:Meth X.K C m f)(F:cV X.prog X.w X.K X.mg X.base CX k f fd ps sp)(hr:eK k X.A)(hb:Binds X.K fd ps ds)(hd:Vals dvs ds)(hx:oi CX X E)(ha:PA X (e::es) t)
  (hst:Ni (e::es) X.env=(false,eval e X.env)::Ni es X.env:=by rfl)(hpl:(Pb pos (Ni es X.env)).any (·.1)=false:=by rfl)
  (ht:eval (.Call (.Attribute o m apos) (e::es) [] pos) X.env=(do
   let ov<-eval o X.env
   standAt apos.atName
   let (f,first)<-Rm [ov] (RI ov m pl)
   callWith pos f first (Pb pos (Ni (e::es) X.env)) (RN pos (Q3 [] X.env))):=by rfl):
  PE X (.Call (.Attribute o m apos) (e::es) [] pos) (LC C m sp dvs E ta t):=by
 intro pins s σ H Q I h;refine Rw (pl:=pl) (dh (he pins s σ H _ I h) λu s1 ⟨x,H1,J,rx,a,dx,fs,ex,ea,l,q⟩=>?_) ht;subst ex;obtain rfl:u=ME a:=rx;refine wC J ea c hm l ?_;refine QF (first:=[.ref a]) (h₀:=X.base) I.ok.mod.kin hm.kp (dh (ha pos pins s1 σ H1 _ J q) λus s2 ⟨vs,H2,U,r,q2⟩=>⟨U.kIn,?_⟩) hst hpl;exact Jf (us:= .ref a::us) (vs:= .ref a::vs) F hr hb hd hx U (.cons rfl r) q2
end
section
variable {κ : Type} [Qd κ]
noncomputable def dQ(kvs:LR (κ×V))(k:κ):Mc V:=(kvs.find? λI=>decide (I.1=k)).map (·.2)
noncomputable def putK(kvs:LR (κ×V))(k:κ)(v:V):LR (κ×V):=
 if (kvs.any λI=>decide (I.1=k))=true then kvs.map (λI=>if I.1=k then (I.1,v) else I) else kvs++[(k,v)]
noncomputable def iS(kvs:LR (κ×V))(k:κ):LR (κ×V):=kvs.filter λI=>decide (I.1≠k)
theorem iE{p:κ×V}{r:LR (κ×V)}{k:κ}(e:p.1=k):dQ (p::r) k=some p.2:=by simp[dQ,List.find?_cons,e]
theorem g6{p:κ×V}{r:LR (κ×V)}{k:κ}(e:¬ p.1=k):dQ (p::r) k=dQ r k:=by simp[dQ,List.find?_cons,e]
theorem lZ(k:κ):∀ kvs:LR (κ×V),(kvs.any λkv=>decide (kv.1=k))=(dQ kvs k).isSome
 |[]=>rfl
 |p::r=>by
  rw[List.any_cons];by_cases e:p.1=k
  ·simp only[iE e,Mb e,Bool.true_or,Option.isSome_some]
  ·rw[g6 e,LY e,Bool.false_or];exact lZ k r
theorem yB(k j:κ)(y:V):∀ kvs:LR (κ×V),dQ (kvs.map λkv=>if kv.1=k then (kv.1,y) else kv) j=(dQ kvs j).map λx=>if j=k then y else x
 |[]=>rfl
 |p::r=>by
  have I:=yB k j y r;rw[Nb];by_cases h:p.1=k
  ·rw[LZ h];by_cases e:p.1=j
   ·rw[iE (p:=(p.1,y)) e,iE e,Qt,LZ (e.symm.trans h)]
   ·rw[g6 (p:=(p.1,y)) e,g6 e,I]
  ·rw[LX h];by_cases e:p.1=j
   ·rw[iE (p:=p) e,iE e,Qt,LX (λz=>h (e.trans z))]
   ·rw[g6 (p:=p) e,g6 e,I]
theorem yt(k j:κ)(y:V):∀ kvs:LR (κ×V),dQ kvs k=none->dQ (kvs++[(k,y)]) j=if j=k then some y else dQ kvs j
 |[],_=>by
  by_cases e:k=j
  ·rw[LZ e.symm];exact iE (p:=(k,y)) e
  ·rw[LX (λz=>e z.symm)];exact g6 (p:=(k,y)) e
 |p::r,hn=>by
  rw[List.cons_append];have hk:¬ p.1=k:=λz=>by rw[iE z] at hn;cases hn
  rw[g6 hk] at hn;have I:=yt k j y r hn;by_cases e:p.1=j
  ·rw[iE e,iE e,LX (λz=>hk (e.trans z))]
  ·rw[g6 e,g6 e,I]
theorem xB(kvs:LR (κ×V))(k j:κ)(y:V):dQ (putK kvs k y) j=if j=k then some y else dQ kvs j:=by
 unfold putK;by_cases a:(kvs.any λI=>decide (I.1=k))=true
 ·rw[LZ a,yB];rw[lZ] at a;by_cases e:j=k
  ·obtain⟨x,J⟩:=Option.isSome_iff_exists.mp a;rw[LZ e,e,J,Qt,LZ rfl]
  ·rw[LX e];cases dQ kvs j with
   |none=>rfl
   |some x=>rw[Qt,LX e]
 ·rw[LX a];refine yt k j y kvs ?_;rw[lZ] at a;cases q:dQ kvs k with
  |none=>rfl
  |some x=>rw[q] at a;exact(a rfl).elim
theorem qz(kvs:LR (κ×V))(k:κ)(v:V):(putK kvs k v).length<=kvs.length+1:=by
 unfold putK;split
 ·rw[LV];lia
 ·rw[Md,Ms,List.length_nil];lia
theorem uF{kvs:LR (κ×V)}{k:κ}(v:V)(h:dQ kvs k=none):putK kvs k v=kvs++[(k,v)]:=by
 unfold putK;rw[lZ,h];exact LX (by decide)
theorem gF.isSome_eq {o:Mc V}{u:Mc LW}(r:gF o u):o.isSome=u.isSome:=by
 cases o with
 |none=>cases u with
  |none=>rfl
  |some _=>exact(show Om from r).elim
 |some _=>cases u with
  |none=>exact(show Om from r).elim
  |some _=>rfl
theorem gF.getD {o:Mc V}{u:Mc LW}{d:V}{d':LW}(r:gF o u)(rd:RelV d d'):RelV (o.getD d) (u.getD d'):=by
 cases o with
 |none=>cases u with
  |none=>exact rd
  |some _=>exact(show Om from r).elim
 |some _=>cases u with
  |none=>exact(show Om from r).elim
  |some _=>exact r
theorem KV.val {kvs:LR (κ×V)}{vs:LR (κ×LW)}(r:KV kvs vs)(k:κ):gF (dQ kvs k) (Rt vs k):=by
 unfold KV at r;induction r with
 |nil=>exact Oq
 | @cons p q ps I h t U=>
  obtain⟨h1,h2⟩:=h;by_cases e:p.1=k
  ·have J:q.1=k:=h1.symm.trans e
   have b:Rt (q::I) k=some q.2:=by simp[Rt,List.find?_cons,J]
   rw[iE e,b];exact h2
  ·have J:¬ q.1=k:=λz=>e (h1.trans z)
   have b:Rt (q::I) k=Rt I k:=by simp[Rt,List.find?_cons,J]
   rw[g6 e,b];exact U
theorem KV.any {kvs:LR (κ×V)}{vs:LR (κ×LW)}(r:KV kvs vs)(k:κ):(kvs.any λkv=>decide (kv.1=k))=vs.any λkv=>decide (kv.1=k):=by
 unfold KV at r;induction r with
 |nil=>rfl
 |cons h t I=>rw[List.any_cons,List.any_cons,I,h.1]
theorem KV.repl {kvs:LR (κ×V)}{vs:LR (κ×LW)}(r:KV kvs vs)(k:κ){y:V}{u:LW}(ry:RelV y u):
  KV (kvs.map λkv=>if kv.1=k then (kv.1,y) else kv) (vs.map λkv=>if kv.1=k then (kv.1,u) else kv):=by
 unfold KV at r ⊢;induction r with
 |nil=>exact .nil
 | @cons p q ps J h t I=>
  rw[Nb,Nb];refine .cons ?_ I;obtain⟨h1,h2⟩:=h;by_cases e:p.1=k
  ·rw[LZ e,LZ (h1.symm.trans e)];exact⟨h1,ry⟩
  ·rw[LX e,LX (λz=>e (h1.trans z))];exact⟨h1,h2⟩
theorem KV.put {kvs:LR (κ×V)}{vs:LR (κ×LW)}(r:KV kvs vs)(k:κ){y:V}{u:LW}(ry:RelV y u):KV (putK kvs k y) (stored vs k u):=by
 unfold putK stored;rw[r.any k];by_cases e:(vs.any λI=>decide (I.1=k))=true
 ·rw[LZ e,LZ e];exact r.repl k ry
 ·rw[LX e,LX e];exact Paired.snoc r ⟨rfl,ry⟩
theorem KV.drop {kvs:LR (κ×V)}{vs:LR (κ×LW)}(r:KV kvs vs)(k:κ):KV (iS kvs k) (without vs k):=by
 unfold KV at r ⊢;unfold iS without;induction r with
 |nil=>exact .nil
 | @cons p q ps U h t I=>
  obtain⟨h1,h2⟩:=h;rw[NY,NY];by_cases e:p.1=k
  ·have a:¬ decide (p.1≠k)=true:=by simp[e]
   have b:¬ decide (q.1≠k)=true:=by simp[h1.symm.trans e]
   rw[LX a,LX b];exact I
  ·have J:¬ q.1=k:=λz=>e (h1.trans z)
   have a:decide (p.1≠k)=true:=by simp[e]
   have b:decide (q.1≠k)=true:=by simp[J]
   rw[LZ a,LZ b];exact .cons ⟨h1,h2⟩ I
theorem KV.keys {kvs:LR (κ×V)}{vs:LR (κ×LW)}(r:KV kvs vs):kvs.map (·.1)=vs.map (·.1):=by
 unfold KV at r;induction r with
 |nil=>rfl
 |cons h t I=>rw[Nb,Nb,I,h.1]
theorem KV.length {kvs:LR (κ×V)}{vs:LR (κ×LW)}(r:KV kvs vs):kvs.length=vs.length:=Paired.length r
theorem Jv(kvs:LR (κ×V))(k:κ):(iS kvs k).length<=kvs.length:=List.length_filter_le _ _
end
theorem kB{P:Mq}{w:MT}{k:Key}{u:LW}(r:RelV (kV k) u):(eW P w).is k u=true:=by
 cases k with
 |inl i=>obtain⟨t,e⟩:=(show ∃ t,u=PH i t from r);subst e;exact Kr P w i t
 |inr x=>obtain⟨t,e⟩:=(show ∃ t,u=PJ x t from r);subst e;exact Gu P w x t
theorem AW{P:Mq}{w:MT}:∀{ks:LR Key} {us:LR LW},Vals (ks.map kV) us->ItemsAre (eW P w) ks us
 |[],_,r=>by rw[Ro] at r;cases r;exact .nil
 |k::ks,_,r=>by
  rw[Nb] at r;cases r with
  |cons h t=>exact .cons (kB h) (AW t)
noncomputable abbrev KT(H:Hp):LR (LR Key×V)->LR (LR Key×LS×LW)->Prop:=MY λp q=>p.1=q.1/\H q.2.1=some (.tup (p.1.map kV))/\RelV p.2 q.2.2
theorem KT.val {H:Hp}{kvs:LR (LR Key×V)}{xs:LR (LR Key×LS×LW)}(r:KT H kvs xs)(k:LR Key):gF (dQ kvs k) ((RR xs k).map (·.2)):=by
 induction r with
 |nil=>exact Oq
 | @cons p q ps I h t U=>
  obtain⟨h1,_,h2⟩:=h;by_cases e:p.1=k
  ·have J:q.1=k:=h1.symm.trans e
   have b:RR (q::I) k=some q.2:=by simp[RR,List.find?_cons,J]
   rw[iE e,b];exact h2
  ·have J:¬ q.1=k:=λz=>e (h1.trans z)
   have b:RR (q::I) k=RR I k:=by simp[RR,List.find?_cons,J]
   rw[g6 e,b];exact U
theorem KT.repl {H:Hp}{kvs:LR (LR Key×V)}{xs:LR (LR Key×LS×LW)}(r:KT H kvs xs)(k:LR Key){y:V}{u:LW}(ry:RelV y u):
  KT H (kvs.map λkv=>if kv.1=k then (kv.1,y) else kv) (xs.map (putAt k u)):=by
 induction r with
 |nil=>exact .nil
 | @cons p q ps U h t I=>
  rw[Nb,Nb];refine .cons ?_ I;obtain⟨h1,h2,J⟩:=h;unfold putAt;by_cases e:p.1=k
  ·rw[LZ e,LZ (h1.symm.trans e)];exact⟨h1,h2,ry⟩
  ·rw[LX e,LX (λz=>e (h1.trans z))];exact⟨h1,h2,J⟩
theorem KT.put {H:Hp}{kvs:LR (LR Key×V)}{xs:LR (LR Key×LS×LW)}(r:KT H kvs xs)(k:LR Key){b:LS}{y:V}{u:LW}(hb:H b=some (.tup (k.map kV)))(ry:RelV y u):
  KT H (putK kvs k y) (storedH xs k b u):=by
 have e:(kvs.any λI=>decide (I.1=k))=(RR xs k).isSome:=by
  rw[lZ,(r.val k).isSome_eq,Q5]
 unfold putK storedH;rw[e];by_cases q:(RR xs k).isSome=true
 ·rw[LZ q,LZ q];exact r.repl k ry
 ·rw[LX q,LX q];exact Paired.snoc r ⟨rfl,hb,ry⟩
theorem KT.keeps {H H':Hp}{kvs:LR (LR Key×V)}{xs:LR (LR Key×LS×LW)}(r:KT H kvs xs)(ht:∀ b ys,H b=some (.tup ys)->H' b=some (.tup ys)):KT H' kvs xs:=
 Paired.mapP r λ_ _ z=>⟨z.1,ht _ _ z.2.1,z.2.2⟩
section
variable {P : Mq} {w : MT} {H : Hp} {h : Nn} {a : LS}
theorem yF{u:HO}(ok:eS P w H h)(e:Rd H a u):eC P w H h a u:=e.ok ok
theorem ka{kvs:LR (Key×V)}(ok:eS P w H h)(e:Rd H a (.dK kvs)):kvs.length<=sizeLine/\(a==OF)=false/\∃ vs,KV kvs vs/\h.DictOf (eW P w) a vs:=
 show eC P w H h a (.dK kvs) from yF ok e
theorem lF{kvs:LR (Key×V)}(ok:eS P w H h)(e:H a=some (.dK kvs)):kvs.length<=sizeLine/\(a==OF)=false/\∃ vs,KV kvs vs/\h.DictOf (eW P w) a vs:=ka ok (.inl e)
theorem oE{ks:LR Key}(ok:eS P w H h)(e:H a=some (.tup (ks.map kV))):(Rc (eW P w)).is h ks a:=by
 obtain⟨_,I,r,o,h1,h2,n,J⟩:=(show eC P w H h a (.tup (ks.map kV)) from ok a _ e);exact⟨o,I.toArray,n,h1,h2,J,by simpa using AW r⟩
theorem lK{kvs:LR (LR Key×V)}(ok:eS P w H h)(e:Rd H a (.dT kvs)):kvs.length<=sizeLine/\(a==OF)=false/\
  ∃ xs,KT H kvs xs/\h.DictOfH (Rc (eW P w)) a xs:=by
 obtain⟨z,y,xs,r,o,es,ep,h1,h2,J,U,h5⟩:=(show eC P w H h a (.dT kvs) from yF ok e);refine⟨z,y,xs,r,o,es,ep,h1,h2,J,U,λx hx=>?_,h5⟩;have all:∀{l:LR (LR Key×V)} {m:LR (LR Key×LS×LW)},KT H l m->∀ x∈m,(Rc (eW P w)).is h x.1 x.2.1:=by
  intro l m q;induction q with
  |nil=>intro x hx;exact nomatch hx
  | @cons p q ps qs I t ih=>
   intro x hx;rcases List.mem_cons.mp hx with e|hx
   ·subst e;exact oE ok (by rw[<-I.1];exact I.2.1)
   ·exact ih x hx
 exact all r x hx
theorem Ll{kvs:LR (LR Key×V)}(ok:eS P w H h)(e:H a=some (.dT kvs)):kvs.length<=sizeLine/\(a==OF)=false/\
  ∃ xs,KT H kvs xs/\h.DictOfH (Rc (eW P w)) a xs:=lK ok (.inl e)
end
noncomputable def gh(H:Hp)(a:LS)(y:V)(r:Mc V):Prop:=
 (∃ kvs k,Rd H a (.dK kvs)/\y=kV k/\r=dQ kvs k)\/∃ kvs k b,Rd H a (.dT kvs)/\y= .ref b/\H b=some (.tup (k.map kV))/\r=dQ kvs k
noncomputable def iQ(H:Hp)(a:LS)(y v:V)(H':Hp):Prop:=
 (∃ kvs k,H a=some (.dK kvs)/\y=kV k/\kvs.length<sizeLine/\H'=upd H a (.dK (putK kvs k v)))\/
 ∃ kvs k b,H a=some (.dT kvs)/\y= .ref b/\H b=some (.tup (k.map kV))/\kvs.length<sizeLine/\H'=upd H a (.dT (putK kvs k v))
theorem gh.k {H:Hp}{a:LS}{kvs:LR (Key×V)}{k:Key}(e:H a=some (.dK kvs)):gh H a (kV k) (dQ kvs k):= .inl ⟨kvs,k,.inl e,rfl,rfl⟩
theorem gh.t {H:Hp}{a b:LS}{kvs:LR (LR Key×V)}{k:LR Key}(e:H a=some (.dT kvs))(eb:H b=some (.tup (k.map kV))):gh H a (.ref b) (dQ kvs k):= .inr ⟨kvs,k,b,.inl e,rfl,eb,rfl⟩
theorem iQ.k {H:Hp}{a:LS}{kvs:LR (Key×V)}{k:Key}{v:V}(e:H a=some (.dK kvs))(hl:kvs.length<sizeLine):iQ H a (kV k) v (upd H a (.dK (putK kvs k v))):= .inl ⟨kvs,k,e,rfl,hl,rfl⟩
theorem iQ.t {H:Hp}{a b:LS}{kvs:LR (LR Key×V)}{k:LR Key}{v:V}(e:H a=some (.dT kvs))(eb:H b=some (.tup (k.map kV)))(hl:kvs.length<sizeLine):
  iQ H a (.ref b) v (upd H a (.dT (putK kvs k v))):= .inr ⟨kvs,k,b,e,rfl,eb,hl,rfl⟩
section
variable {X : Cx} {pins : LR (LS × Obj)} {σ : St} {H : Hp} {s : Me} {a : LS} {y v : V} {u r : LW} {o : Mc V} {A : Np} {E : LW -> Me -> Prop}
theorem Inv.big (I:Inv X pins σ H s):OF<s.heap.objs.size:=by
 have h:Mw<s.heap.objs.size:=(I.mod.glob.keeps I.bk).lt;exact Nat.lt_trans (by decide) h
theorem LG{Q:LW->Me->Prop}(hu:A.units+1<PR)(I:Inv X pins σ H s)(g:gh H a y (some v))(ry:RelV y u)(h:∀ w' s',Inv X pins σ H s'->RelV v w'->Q w' s'):
  MD (My X.prog X.w) A (RO (.ref a) u) Q E s:=by
 rcases g with ⟨kvs,k,e,U,l⟩|⟨kvs,k,b,e,U,eb,l⟩
 ·subst U;obtain⟨z,hd,vs,rel,dd⟩:=ka I.hok e;obtain⟨w',hw,J⟩:=gF.some_of (v:=v) (o:=Rt vs k) (by rw[l];exact rel.val k);exact wpAny_getItem_of (kB ry) dd.mapOf hw (h w' _ (I.tok _) J)
 ·subst U;cases (show u=ME b from ry);obtain⟨z,hd,xs,rel,dd⟩:=lK I.hok e;obtain⟨w',hw,J⟩:=gF.some_of (v:=v) (o:=(RR xs k).map (·.2)) (by rw[l];exact rel.val k);obtain⟨p,hp,aa⟩:=Option.map_eq_some_iff.mp hw;refine wpAny_getItem_heap (O2 hu) (oE I.hok eb) dd hp ?_;rw[aa];exact h w' _ (I.tok _) J
theorem JM{Q:LW->Me->Prop}(hu:A.units+1<PR)(I:Inv X pins σ H s)(g:gh H a y o)(ry:RelV y u)(h:∀ s',Inv X pins σ H s'->Q (.bool o.isSome) s'):
  MD (My X.prog X.w) A (NX .In u (.ref a)) Q E s:=by
 rcases g with ⟨kvs,k,e,J,l⟩|⟨kvs,k,b,e,J,U,l⟩
 ·subst J;obtain⟨z,hd,vs,rel,dd⟩:=ka I.hok e;refine wpAny_in_of (kB ry) hd dd.mapOf ?_;rw[<-(rel.val k).isSome_eq,<-l];exact h _ (I.tok _)
 ·subst J;cases (show u=ME b from ry);obtain⟨z,hd,xs,rel,dd⟩:=lK I.hok e;refine wpAny_in_heap (O2 hu) (oE I.hok U) hd dd ?_;have q:=(rel.val k).isSome_eq;rw[Q5] at q;rw[<-q,<-l];exact h _ (I.tok _)
theorem JI{Q:LW->Me->Prop}(hu:A.units+1<PR)(I:Inv X pins σ H s)(g:gh H a y o)(ry:RelV y u)(h:∀ s',Inv X pins σ H s'->Q (.bool (!o.isSome)) s'):
  MD (My X.prog X.w) A (NX .NotIn u (.ref a)) Q E s:=by
 rcases g with ⟨kvs,k,e,J,l⟩|⟨kvs,k,b,e,J,U,l⟩
 ·subst J;obtain⟨z,hd,vs,rel,dd⟩:=ka I.hok e;refine wpAny_notIn_of (kB ry) hd dd.mapOf ?_;rw[<-(rel.val k).isSome_eq,<-l];exact h _ (I.tok _)
 ·subst J;cases (show u=ME b from ry);obtain⟨z,hd,xs,rel,dd⟩:=lK I.hok e;refine wpAny_notIn_heap (O2 hu) (oE I.hok U) hd dd ?_;have q:=(rel.val k).isSome_eq;rw[Q5] at q;rw[<-q,<-l];exact h _ (I.tok _)
theorem sQ{h':Nn}{t':Nat}{ob:HO}(I:Inv X pins σ H s)(mu:pV (H a))(hs:Po a s.heap h')(he:∃ q,h'.get? a=some q)(new:eC X.prog X.w (upd H a ob) h' a ob):
  Inv X pins σ (upd H a ob) {s with heap:=h',toks:=t'}:=
 I.write (x:=a) (e:=a) mu (.inl rfl) (λb q hb z=>(hs.2 b hb).trans z) he new
theorem uT{P:Mq}{w:MT}{H':Hp}{h':Nn}{kvs:LR (Key×V)}{vs:LR (Key×LW)}(z:kvs.length<=sizeLine)(hd:(a==OF)=false)(rel:KV kvs vs)(dd:h'.DictOf (eW P w) a vs):
  eC P w H' h' a (.dK kvs):=⟨z,hd,vs,rel,dd⟩
theorem KD{H':Hp}{Q:Unit->Me->Prop}(hu:A.units+1<PR)(I:Inv X pins σ H s)(g:iQ H a y v H')(ry:RelV y u)(rv:RelV v r)(h:∀ s',Inv X pins σ H' s'->Q () s'):
  MD (My X.prog X.w) A (setItem (.ref a) u r) Q E s:=by
 rcases g with ⟨kvs,k,e,ey,l,eH⟩|⟨kvs,k,b,e,ey,eb,l,eH⟩
 ·subst ey eH;obtain⟨z,hd,vs,rel,dd⟩:=lF I.hok e;have hz:vs.length<=sizeLine:=by rw[<-rel.length];exact z
  have hl:(putK kvs k v).length<=sizeLine:=by have:=qz kvs k v;lia
  refine wpAny_setItem_pairs (hsz:=hz) (kB ry) dd λh' J hs=>h _ ?_
  have he:∃ q,h'.get? a=some q:=let ⟨q,_,_,U,_⟩:=J;⟨q,U⟩;exact sQ I (by rw[e];exact Oq) hs he (uT hl hd (rel.put k rv) J)
 ·subst ey eH;cases (show u=ME b from ry);obtain⟨z,hd,xs,rel,dd⟩:=Ll I.hok e;have hz:xs.length<=sizeLine:=by rw[<-Paired.length rel];exact z
  have hl:(putK kvs k v).length<=sizeLine:=by have:=qz kvs k v;lia
  refine wpAny_setItem_heap (hsz:=hz) (O2 hu) (oE I.hok eb) dd λh' J hs=>h _ ?_
  obtain⟨q,es,ep,U,h2,h3,h4,_,h5⟩:=J;refine sQ I (by rw[e];exact Oq) hs ⟨q,U⟩ ⟨hl,hd,_,(rel.put k eb rv).keeps λc ys ec=>?_,q,es,ep,U,h2,h3,h4,h5⟩;rw[cW (EK ec e (λz=>nomatch z))];exact ec
end
section
variable {X : Cx} {pins : LR (LS × Obj)} {σ : St} {H : Hp} {s : Me} {a : LS} {kvs : LR (Key × V)} {k : Key} {u : LW} {A : Np} {E : LW -> Me -> Prop}
theorem JA{v:V}{more:LR LW}{Q:LW->Me->Prop}(I:Inv X pins σ H s)(e:H a=some (.dK kvs))(ry:RelV (kV k) u)(l:dQ kvs k=some v)(hm:more=[]\/∃ x,more=[x])
  (h:∀ w' s',Inv X pins σ (upd H a (.dK (iS kvs k))) s'->RelV v w'->Q w' s'):MD (My X.prog X.w) A (call (.builtin "dict.pop") (.ref a::u::more)) Q E s:=by
 obtain⟨z,hd,vs,rel,dd⟩:=lF I.hok e;obtain⟨w',hw,U⟩:=gF.some_of (v:=v) (o:=Rt vs k) (by rw[<-l];exact rel.val k);have hp:(keyPart u).isSome=true:=by
  cases k with
  |inl i=>obtain⟨t,q⟩:=(show ∃ t,u=PH i t from ry);subst q;rfl
  |inr x=>obtain⟨t,q⟩:=(show ∃ t,u=PJ x t from ry);subst q;rfl
 have ha:argsOk "dict.pop" ⟨.ref a::u::more,[]⟩:=by
  rcases hm with q|⟨x,q⟩
  ·subst q;exact F.args_dict_pop_2 _ _
  ·subst q;exact F.args_dict_pop_3 _ _ _
 refine P1 F.slot_dict_pop dd.typeIs F.entry_dict_pop ha (meets_dict_pop_there (eW X.prog X.w) a (kB ry) more hm hp)
  ⟨vs,w',dd,by rw[<-rel.length];exact z,hw,λh' J hs=>h w' _ ?_ U⟩;have he:∃ q,h'.get? a=some q:=let ⟨q,_,_,hq,_⟩:=J;⟨q,hq⟩;exact sQ I (by rw[e];exact Oq) hs he (uT (Mr (Jv kvs k) z) hd (rel.drop k) J)
theorem Ii{Q:LW->Me->Prop}(I:Inv X pins σ H s)(e:Rd H a (.dK kvs))(h:∀ t s',Inv X pins σ H s'->Q (.int kvs.length t) s'):MD (My X.prog X.w) A (call (.builtin "len") [.ref a]) Q E s:=by
 obtain⟨z,hd,vs,rel,dd⟩:=ka I.hok e;refine call_len_dict hd dd (by rw[<-rel.length];rw[Mt] at z;lia) ?_;rw[<-rel.length];exact h _ _ (I.tok _)
end
noncomputable def ye(i:Nv):Prop:=∀ I J,RD i false I J=operate [I,J] (RO I J)
theorem EV{prog:Mq}{w:MT}{A:Np}{E:LW->Me->Prop}{s:Me}{env:Env}{value slice:Nv}{pos:Pos}{T id:OE}{Q:LW->Me->Prop}
  (hl:typeLookup (.type T) "__getitem__"=pure (some (.builtin id)))(hs:ye slice)
  (h:MD (My prog w) A (eval value env) (λo s₁=>MD (My prog w) A (eval slice env) (λi s₂=>s₂.TypeIs o T/\MD (My prog w) A (RO o i) Q E s₂) E s₁) E s):
  MD (My prog w) A (eval (.Subscript value slice pos) env) Q E s:=by
 refine Subscript_ (NI h (λo s₁ U=>NI U (λi s₂ I=>?_) λ_ _ x=>x) λ_ _ x=>x);obtain⟨hT,I⟩:=I;unfold subscriptTail;refine Mn ?_;rw[getitemInPython_of_ne hT.not_modules];refine Mn (wpAny_specialOf hT hl ?_);have fin:MD (My prog w) A (RD slice false o i) (λr J=>MD (My prog w) A (letTemporaryGo value o r >>= λ_=>pure r) Q E J) E s₂:=by
  rw[hs o i];exact wpAny_operating (NI I (λr J aa=>Mn (wpAny_letTemporaryGo (Nf aa))) λ_ _ x=>x)
 first
  |exact Nf (Mn fin)
  |exact Mn (Nf (Mn fin))
  |exact Mn fin
theorem D5{X:Cx}{pins:LR (LS×Obj)}{σ:St}{H:Hp}{s:Me}{a:LS}{y:V}{o:Mc V}(I:Inv X pins σ H s)(g:gh H a y o):s.TypeIs (.ref a) "dict":=by
 rcases g with ⟨kvs,k,e,_,_⟩|⟨kvs,k,b,e,_,_,_⟩
 ·obtain⟨_,_,vs,_,dd⟩:=ka I.hok e;exact dd.typeIs
 ·obtain⟨_,_,xs,_,dd⟩:=lK I.hok e;exact dd.typeIs
noncomputable def Gw(td ty:TE):TE:=λσ H Q=>td σ H λx H1=>ty σ H1 λy H2=>∃ a v,x= .ref a/\gh H2 a y (some v)/\Q v H2
noncomputable def CS(ty td:TE):TE:=λσ H Q=>ty σ H λy H1=>td σ H1 λx H2=>∃ a o,x= .ref a/\gh H2 a y o/\Q (.bl o.isSome) H2
noncomputable def Ei(ty td:TE):TE:=λσ H Q=>ty σ H λy H1=>td σ H1 λx H2=>∃ a o,x= .ref a/\gh H2 a y o/\Q (.bl (!o.isSome)) H2
noncomputable def E8(td ty tv:TE):TS:=λD σ H=>tv σ H λv H1=>td σ H1 λx H2=>ty σ H2 λy J=>∃ a I,x= .ref a/\iQ J a y v I/\D.nx σ I
section
variable {X : Cx} {o i e value : Nv} {pos pos' tpos : Pos} {td ty tv : TE}
theorem oj(hu:X.A.units+1<PR)(ho:PE X o td)(hi:PE X i ty)(hs:ye i):PE X (.Subscript o i pos) (Gw td ty):=by
 intro pins s σ H Q I h;refine EV F.slot_dict_getitem.lookup hs (dh (ho pins s σ H _ I h) λu s1 ⟨x,H1,I1,rx,q1⟩=>dh (hi pins s1 σ H1 _ I1 q1) λiv s2 ⟨y,H2,U,ry,a,v,ex,g,q2⟩=>?_);subst ex;obtain rfl:u=ME a:=rx;exact⟨D5 U g,LG hu U g ry λw' s3 I3 J=>⟨v,H2,I3,J,q2⟩⟩
theorem nC(hu:X.A.units+1<PR)(hi:PE X i ty)(ho:PE X o td):PC X .In i o (CS ty td):=by
 intro pins s σ H Q I h;refine dh (hi pins s σ H _ I h) λiv s1 ⟨y,H1,J,U,q1⟩=>dh (ho pins s1 σ H1 _ J q1) λu s2 ⟨x,H2,I2,rx,a,ov,ex,g,q2⟩=>?_
 subst ex;obtain rfl:u=ME a:=rx;exact JM hu I2 g U λs3 I3=>⟨.bl ov.isSome,H2,I3,rfl,q2⟩
theorem uD(hu:X.A.units+1<PR)(hi:PE X i ty)(ho:PE X o td):PC X .NotIn i o (Ei ty td):=by
 intro pins s σ H Q I h;refine dh (hi pins s σ H _ I h) λiv s1 ⟨y,H1,J,U,q1⟩=>dh (ho pins s1 σ H1 _ J q1) λu s2 ⟨x,H2,I2,rx,a,ov,ex,g,q2⟩=>?_
 subst ex;obtain rfl:u=ME a:=rx;exact JI hu I2 g U λs3 I3=>⟨.bl (!ov.isSome),H2,I3,rfl,q2⟩
theorem me(hu:X.A.units+1<PR)(ho:PE X o td)(hi:PE X i ty)(hv:PE X value tv)(hs:RH value (some (.Subscript o i pos')) pos.line X.env=pure false):
  PS X (.Assign [.Subscript o i pos'] value pos) (E8 td ty tv):=by
 intro pins s σ H D I h;refine wpAny_Assign_Subscript (dh (hv pins s σ H _ I h) λr s1 ⟨v,H1,J,U,q1⟩=>dh (ho pins s1 σ H1 _ J q1) λu s2 ⟨x,H2,I2,rx,q2⟩=>dh (hi pins s2 σ H2 _ I2 q2) λiv s3 ⟨y,H3,I3,ry,a,H4,ex,g,q3⟩=>?_) hs;subst ex;obtain rfl:u=ME a:=rx;exact KD hu I3 g ry U λs4 I4=>⟨σ,H4,I4,q3⟩
end
theorem Io{P:Mq}{w:MT}{H:Hp}(h:Nn)(hb:OF<h.objs.size):eC P w H (h.push {cls:= .type "dict",data:= .dict #[]}) h.objs.size (.dK []):=
 ⟨MM _,beq_eq_false_iff_ne.mpr (Nt (MV hb)),[],.nil,Heap.DictOf.new h⟩
theorem G0{P:Mq}{w:MT}{H:Hp}(h:Nn)(hb:OF<h.objs.size):eC P w H (h.push {cls:= .type "dict",data:= .dict #[]}) h.objs.size (.dT []):=
 ⟨MM _,beq_eq_false_iff_ne.mpr (Nt (MV hb)),[],.nil,_,#[],0,Heap.get?_push_size _ rfl,⟨rfl,rfl,rfl⟩,rfl,rfl,NK⟩
noncomputable def Kw:TE:=λ_ H Q=>∀ p,H p=none->Q (.ref p) (upd H p (.dK []))
noncomputable def IU:TE:=λ_ H Q=>∀ p,H p=none->Q (.ref p) (upd H p (.dT []))
section
variable {X : Cx} {pos : Pos}
theorem jV:PE X (.Dict [] [] pos) Kw:=λpins s σ H Q I h=>
 wpAny_Dict_empty ⟨.ref s.heap.objs.size,_,I.laid (a:=s.heap.objs.size) (o:= .dK []) (t':=s.toks) (λ_ _ q=>Heap.get?_push_of_some _ q) (Ma _) (Io s.heap I.big),rfl,h _ (I.hok.fresh (Ma _))⟩
theorem JO:PE X (.Dict [] [] pos) IU:=λpins s σ H Q I h=>
 wpAny_Dict_empty ⟨.ref s.heap.objs.size,_,I.laid (a:=s.heap.objs.size) (o:= .dT []) (t':=s.toks) (λ_ _ q=>Heap.get?_push_of_some _ q) (Ma _) (G0 s.heap I.big),rfl,h _ (I.hok.fresh (Ma _))⟩
end
structure M1 (X : Cx) (o : Nv) (m : Str) (apos : Pos) (e : Nv) (cpos : Pos) : Prop where
 base : OB o m X.env (eval o X.env) = eval o X.env
 few : ((Pb cpos (Ni [e] X.env)).all (λx => !x.1)&&(RN cpos (Q3 [] X.env)).all (λx => x.1.isSome)
  && decide (([e] : LR Nv).length+([] : LR Keyword).length+(if ([] : LR Keyword).isEmpty then 0 else 1)<30)) = true
 line : (apos.endLine==cpos.line) = true
 trees : Pb cpos (Ni [e] X.env) = [(false, eval e X.env)]
noncomputable def wY(H:Hp)(a:LS):Prop:=(∃ kvs,Rd H a (.dK kvs))\/∃ kvs,Rd H a (.dT kvs)
theorem Jo{X:Cx}{pins:LR (LS×Obj)}{σ:St}{H:Hp}{s:Me}{a:LS}(I:Inv X pins σ H s)(d:wY H a):
  s.TypeIs (.ref a) "dict"/\(∀ b,ME a= .ref b->∃ ob,s.heap.get? b=some ob/\ob.dict=none)/\(a==OF)=false:=by
 rcases d with ⟨kvs,e⟩|⟨kvs,e⟩
 ·obtain⟨_,hd,vs,_,dd⟩:=ka I.hok e;refine⟨dd.typeIs,λb q=>?_,hd⟩;cases q;obtain⟨ob,_,_,h1,h2,_⟩:=dd;exact⟨ob,h1,h2.2.1⟩
 ·obtain⟨_,hd,xs,_,dd⟩:=lK I.hok e;refine⟨dd.typeIs,λb q=>?_,hd⟩;cases q;obtain⟨ob,_,_,h1,h2,_⟩:=dd;exact⟨ob,h1,h2.2.1⟩
section
variable {X : Cx} {pins : LR (LS × Obj)} {σ : St} {H : Hp} {s : Me} {a : LS} {y d : V} {u r : LW} {o : Mc V} {A : Np} {E : LW -> Me -> Prop}
theorem CZ{Q:LW->Me->Prop}(hu:A.units+1<PR)(I:Inv X pins σ H s)(g:gh H a y o)(ry:RelV y u)(rd:RelV d r)(h:∀ w' s',Inv X pins σ H s'->RelV (o.getD d) w'->Q w' s'):
  MD (My X.prog X.w) A (call (.builtin "dict.get") [.ref a,u,r]) Q E s:=by
 rcases g with ⟨kvs,k,e,J,l⟩|⟨kvs,k,b,e,J,U,l⟩
 ·subst J;obtain⟨z,hd,vs,rel,dd⟩:=ka I.hok e;refine P1 F.slot_dict_get dd.typeIs F.entry_dict_get (F.args_dict_get_3 _ _ _) (meets_dict_get_default (eW X.prog X.w) a (kB ry) hd r) ⟨_,dd.mapOf,h _ _ (I.tok _) ?_⟩;rw[l];exact(rel.val k).getD rd
 ·subst J;cases (show u=ME b from ry);obtain⟨z,hd,xs,rel,dd⟩:=lK I.hok e;refine P1 F.slot_dict_get dd.typeIs F.entry_dict_get (F.args_dict_get_3 _ _ _) (meetsH_dict_get_default (Rc (eW X.prog X.w)) a b hd r) ⟨O2 hu,k,xs,oE I.hok U,dd,h _ _ (I.tok _) ?_⟩;rw[l];exact(rel.val k).getD rd
end
noncomputable def JY(td ty:TE):TE:=λσ H Q=>td σ H λx H1=>∃ a,x= .ref a/\wY H1 a/\ty σ H1 λy H2=>∃ kvs k v,H2 a=some (.dK kvs)/\y=kV k/\dQ kvs k=some v/\Q v (upd H2 a (.dK (iS kvs k)))
section
variable {X : Cx} {o e f : Nv} {apos cpos : Pos} {td ty tx : TE}
theorem Bd(ho:PE X o td)(he:PE X e ty)(m:M1 X o "pop" apos e cpos):PE X (.Call (.Attribute o "pop" apos) [e] [] cpos) (JY td ty):=by
 intro pins s σ H Q I h;refine wpAny_Call_method m.base m.few m.line OL F.slot_dict_pop F.type_dict_pop (dh (ho pins s σ H _ I h) λu s1 ⟨x,H1,U,rx,a,ex,d,q1⟩=>?_);subst ex;obtain rfl:u=ME a:=rx;obtain⟨t1,t2,_⟩:=Jo U d;refine⟨t1,t2,?_⟩;rw[m.trees];refine Oz rfl (Qh (QN (dh (he pins s1 σ H1 _ U q1) λiv s2 ⟨y,H2,I2,ry,kvs,k,v,ea,ey,l,q2⟩=>Q0 ?_)));subst ey;exact JA I2 ea ry l (.inl rfl) λw' s3 I3 J=>⟨v,_,I3,J,q2⟩
end
section
variable {X : Cx} {pins : LR (LS × Obj)} {σ : St} {H : Hp} {s : Me} {a : LS} {kvs : LR (Key × V)} {A : Np} {E : LW -> Me -> Prop}
end
section
variable {X : Cx} {pins : LR (LS × Obj)} {σ : St} {H : Hp} {s : Me} {a : LS} {y : V} {u : LW} {A : Np} {E : LW -> Me -> Prop}
end
section
variable {X : Cx}
theorem zO:gy X (.builtin "len") (λxs H Q=>∃ a kvs,xs=[V.ref a]/\H a=some (.dK kvs)/\Q (.int kvs.length) H):=by
 intro pins s σ H xs us Q I r h;obtain⟨a,kvs,rfl,ha,q⟩:=h;obtain⟨u,rfl,J⟩:=vals1 r;cases J;exact Ii I (.inl ha) λt s' U=>⟨.int kvs.length,H,U,⟨t,rfl⟩,q⟩
end
section
variable {κ : Type} [Qd κ]
theorem BW{kvs:LR (κ×V)}{k:κ}(h:dQ kvs k=none):¬ k∈kvs.map (·.1):=by
 intro m;obtain⟨p,I,e⟩:=List.mem_map.mp m;have q:(kvs.any λJ=>decide (J.1=k))=true:=List.any_eq_true.mpr ⟨p,I,Mb e⟩;rw[lZ,h] at q;exact absurd q (by simp)
theorem EZ{kvs:LR (κ×V)}{k:κ}{v:V}(h:dQ kvs k=some v):k∈kvs.map (·.1):=by
 have q:(kvs.any λI=>decide (I.1=k))=true:=by
  rw[lZ,h]
  all_goals rfl
 obtain⟨p,J,e⟩:=List.any_eq_true.mp q;exact List.mem_map.mpr ⟨p,J,Nh e⟩
theorem HG{p:κ×V}{r:LR (κ×V)}{k:κ}(e:p.1=k):iS (p::r) k=iS r k:=by
 unfold iS;rw[NY,LX (by simp[e])]
theorem FG{p:κ×V}{r:LR (κ×V)}{k:κ}(e:¬ p.1=k):iS (p::r) k=p::iS r k:=by
 unfold iS;rw[NY,LZ (by simp[e])]
end
section
variable {X : Cx} {pins : LR (LS × Obj)} {σ : St} {H : Hp} {s : Me} {a : LS}
theorem Inv.freeze {kvs:LR (Key×V)}{o:Obj}(I:Inv X pins σ H s)(e:H a=some (.dK kvs))(ho:s.heap.get? a=some o):Inv X pins σ (upd H a (.frz o (.dK kvs))) s:=
 I.write (x:=a) (e:=a) (h':=s.heap) (t':=s.toks) (by rw[e];exact trivial) (.inl rfl) (λ_ _ _ q=>q) ⟨o,ho⟩ ⟨ho,I.hok a _ e⟩
theorem sO{P:Mq}{w:MT}{k:Key}{u:LW}(h:(eW P w).is k u=true):RelV (kV k) u:=by
 rcases jI (show mz k u=true from h) with ⟨i,t,rfl,rfl⟩|⟨x,t,rfl,rfl⟩
 ·exact⟨t,rfl⟩
 ·exact⟨t,rfl⟩
theorem KV.at {κ:Type}{kvs:LR (κ×V)}{vs:LR (κ×LW)}(r:KV kvs vs){i:Nat}{kv:κ×V}(h:kvs[i]? =some kv):∃ v,vs[i]? =some (kv.1,v):=by
 unfold KV at r;induction r generalizing i with
 |nil=>cases i<;>cases h
 | @cons p q ps U I t J=>
  cases i with
  |zero=>
   have e:p=kv:=Ml h;subst e;exact⟨q.2,by show some q=some (p.1,q.2);rw[I.1]⟩
  |succ j=>exact J h
end
noncomputable def oN(d:LS)(o:Obj)(kvs:LR (Key×V)):It:=
 ⟨λi H=>H d=some (.frz o (.dK kvs))/\i<kvs.length,λi H x H'=>H'=H/\∃ I,kvs[i]? =some I/\x=kV I.1,λi H=>H d=some (.frz o (.dK kvs))/\kvs.length<=i⟩
theorem G9{P:Mq}{w:MT}{K:Mm}{tg:Nv}(d it:LS)(o:Obj)(kvs:LR (Key×V)){es:Nd DictEntry}{ep:Nat}(hdat:o.data= .dict es ep):
  Turn P w K tg (oN d o kvs) [it] it (λi h=>h.IsKeyIter it d i kvs.length ep) where
 mem:=by simp
 obj:=λi h st b hb=>by
  have e:b=it:=by simpa using hb
  subst e;obtain⟨o,e,c,d⟩:=st;exact⟨o,e,λv z=>by rw[d] at z;cases z⟩
 keep:=λi h h' st k=>st.at λo e=>k it (by simp) o e
 item:=by
  intro X hP hw hK hc i pins s σ H E I hf st hg;subst hP hw hK;obtain⟨hH,hi⟩:=hg;obtain⟨ho,z,ae,vs,rel,ob,ah,ai,J,r1,r2,r3⟩:=(show eC X.prog X.w H s.heap d (.frz o (.dK kvs)) from I.hok d _ hH);rw[ho] at J;cases J;rw[hdat] at r2;cases r2;have U:kvs.length=vs.length:=rel.length;have af:kvs[i]? =some kvs[i]:=List.getElem?_eq_getElem hi;obtain⟨v,hv⟩:=rel.at af;obtain⟨f0,f1,f2,f3,f4,f5⟩:=hf it (by simp);have aa:s.heap.DictAt (eW X.prog X.w) d vs ep:=⟨o,es,ho,r1,hdat,r3⟩;rw[U] at st;refine wpAny_pyNext_dict_item st aa hv λkey h' ag ab sb=>?_
  rw[<-U] at ab;have I1:Inv X pins σ H {s with heap:=h'}:=I.turned (t':=s.toks) (λb o hb e=>(sb.2 b hb).trans e) f0 f1 f3 f4 f5;obtain⟨o',e',c',d'⟩:=id ab;exact⟨key,rfl,mZ (s:={s with heap:=h'}) e' c' d' (by decide) ⟨kV kvs[i].1,H,I1,sO ag,⟨rfl,kvs[i],af,rfl⟩,ab,λb hb=>(hf b hb).1⟩⟩
 done:=by
  intro X hP hw hK hc i pins s σ H E I hf st hg;subst hP hw hK;obtain⟨hH,hi⟩:=hg;obtain⟨ho,z,ae,vs,rel,ob,ah,ai,J,r1,r2,r3⟩:=(show eC X.prog X.w H s.heap d (.frz o (.dK kvs)) from I.hok d _ hH);rw[ho] at J;cases J;rw[hdat] at r2;cases r2;have U:kvs.length=vs.length:=rel.length;obtain⟨f0,f1,f2,f3,f4,f5⟩:=hf it (by simp);have aa:s.heap.DictAt (eW X.prog X.w) d vs ep:=⟨o,es,ho,r1,hdat,r3⟩;rw[U] at st;exact wpAny_pyNext_dict_end (I.ok.hd hc) st aa (List.getElem?_eq_none (by lia)) λh' eb=>⟨rfl,I.turned (t':=s.toks) (λb o hb e=>eb b o hb e) f0 f1 f3 f4 f5⟩
 self:=λ_ _ _ _ _ st h=>wpAny_pyIter_keyiter st h
noncomputable def CI(td:TE):TI:=λσ H R=>td σ H λx H1=>∃ a kvs,x= .ref a/\H1 a=some (.dK kvs)/\∀ o,R (oN a o kvs) (upd H1 a (.frz o (.dK kvs)))
theorem vp{X:Cx}{tg l:Nv}{tl:TE}(hl:PE X l tl):PI X tg l (CI tl):=by
 intro pins s σ H R I h;refine dh (hl pins s σ H _ I h) λv s1 ⟨x,H1,I1,r1,q1⟩=>?_
 obtain⟨a,kvs,e,hH,q⟩:=q1;subst e;cases r1;obtain⟨z,J,vs,rel,ob,es,ep,U,c1,c2,c3⟩:=lF I1.hok hH;have aa:s1.heap.DictAt (eW X.prog X.w) a vs ep:=⟨ob,es,U,c1,c2,c3⟩;have ab:kvs.length=vs.length:=rel.length;have I2:=I1.freeze hH U;refine wpAny_pyIter_dict J aa ?_;refine⟨s1.heap.objs.size,[s1.heap.objs.size],_,oN a ob kvs,_,rfl,I2.kept (t':=s1.toks) λb o e=>Heap.get?_push_of_some _ e,G9 a _ ob kvs c2,⟨_,Heap.get?_push_size _ rfl,rfl,by rw[ab];rfl⟩,λb hb=>?_,q ob⟩;have e:b=s1.heap.objs.size:=by simpa using hb
 subst e;exact I2.fpOk (Ma _) (I2.hok.fresh (Ma _))
theorem tM{d:LS}{o:Obj}{kvs:LR (Key×V)}{g:TG}{tb:TS}{D:Ends}{σ:St}{H:Hp}(Pv:Nat->St->Hp->Prop)(h0:Pv 0 σ H)(hl:∀ i σ H,i<=kvs.length->Pv i σ H->H d=some (.frz o (.dK kvs)))
  (hs:∀ i kv σ H,kvs[i]? =some kv->Pv i σ H->g (kV kv.1) σ H λσ2 H2=>tb {D with nx:=Pv (i+1),ct:=Pv (i+1),bk:=D.nx} σ2 H2)(hd:∀ σ H,Pv kvs.length σ H->D.nx σ H):
  ∃ W:Nat->Nat->St->Hp->Prop,(∃ m,W 0 m σ H)/\∀ i m σ H,W i m σ H->
   ((oN d o kvs).stop i H/\D.nx σ H)\/((oN d o kvs).go i H/\∃ N:St->Hp->Prop,(∀ σ' H',N σ' H'->∃ m',m'<m/\W (i+1) m' σ' H')/\∀ x H',(oN d o kvs).yld i H x H'->g x σ H' λσ2 H2=>tb {D with nx:=N,ct:=N,bk:=D.nx} σ2 H2):=by
 refine⟨λi m σ H=>m=kvs.length-i/\i<=kvs.length/\Pv i σ H,⟨kvs.length,by simp,MM _,h0⟩,?_⟩;rintro i m σ H ⟨rfl,hi,p⟩;have q:=hl i σ H hi p;by_cases I:i<kvs.length
 ·refine .inr ⟨⟨q,I⟩,Pv (i+1),λσ' H' U=>⟨kvs.length-(i+1),by lia,rfl,I,U⟩,λx H' y=>?_⟩;obtain⟨rfl,kv,J,rfl⟩:=y;exact hs i kv σ _ J p
 ·have e:i=kvs.length:=by lia
  subst e;exact .inl ⟨⟨q,Ma _⟩,hd σ H p⟩
section
variable {X : Cx}
noncomputable def y8:V->LR V->Hp->VK->Prop:=λx vs H Q=>∃ d kvs k y,x= .ref d/\vs=[kV k,y]/\H d=some (.dK kvs)/\kvs.length<sizeLine/\(∀ v,dQ kvs k=some v->Q v H)/\(dQ kvs k=none->Q y (upd H d (.dK (putK kvs k y))))
theorem vc:qK X "dict.setdefault" y8:=by
 intro pins s σ H x vs v us Q I rx rv h;obtain⟨d,kvs,k,y,rfl,rfl,hH,hz,q1,q2⟩:=h;cases rx;obtain⟨u,w',rfl,ru,J⟩:=rv.two;obtain⟨z,hd,vs,rel,dd⟩:=lF I.hok hH;refine P1 O3 dd.typeIs F.entry_dict_setdefault (F.args_dict_setdefault_3 _ _ _) (kt_meets_setdefault (eW X.prog X.w) d (kB ru) hd w')
  ⟨vs,dd,by rw[<-rel.length];exact z,λv hv=>?_,λhn h' U hs=>?_⟩
 ·have r:=rel.val k;rw[hv] at r;cases l:dQ kvs k with
  |none=>rw[l] at r;exact(show Om from r).elim
  |some v'=>
   rw[l] at r;exact⟨v',H,I.tok _,r,q1 v' l⟩
 ·have l:dQ kvs k=none:=by
   have r:=rel.val k;rw[hn] at r;cases l:dQ kvs k with
   |none=>rfl
   |some v'=>rw[l] at r;exact(show Om from r).elim
  have he:∃ q,h'.get? d=some q:=let ⟨q,_,_,hq,_⟩:=U;⟨q,hq⟩
  have hl:(putK kvs k y).length<=sizeLine:=by have:=qz kvs k y;lia
  exact⟨y,_,sQ I (by rw[hH];exact Oq) hs he (uT hl hd (rel.put k J) U),J,q2 l⟩
noncomputable def Cg:V->LR V->Hp->VK->Prop:=λx vs H Q=>∃ d y z o,x= .ref d/\vs=[y,z]/\gh H d y o/\Q (o.getD z) H
theorem Ee(hu:X.A.units+1<PR):qK X "dict.get" Cg:=by
 intro pins s σ H x vs v us Q I U rv h;obtain⟨d,y,z,o,rfl,rfl,g,q⟩:=h;cases U;obtain⟨u,w',rfl,ru,J⟩:=rv.two;exact CZ hu I g ru J λw2 s3 I3 r3=>⟨_,H,I3,r3,q⟩
theorem tE{K:Mm}{H:Hp}{d:LS}{kvs:LR (Key×V)}(h:H d=some (.dK kvs)):rY K "dict" (.ref d) H:= .inr (.inr (.inl ⟨rfl,.inl ⟨kvs,h⟩⟩))
theorem A9:∀{vs:LR LW} {ss:LR Str},vs.length=ss.length->(∀(j:Nat) (v:LW),vs[j]? =some v->∃ x t,ss[j]? =some x/\v= .str x t)->StrsAre vs ss
 |[],[],_,_=> .nil
 |[],_::_,e,_=>by cases e
 |_::_,[],e,_=>by cases e
 |v::vs,x::ss,e,h=>by
  obtain⟨J,t,h1,rfl⟩:=h 0 v rfl;cases h1;exact .cons x t (A9 (Oi e) λj v I=>h (j+1) v I)
theorem wj:∀{vs:LR LW} {ss:LR Str},StrsAre vs ss->Vals (ss.map V.str) vs
 |_,_,.nil=> .nil
 |_,_,.cons x t h=> .cons ⟨t,rfl⟩ (wj h)
theorem HE(hc:X.calm=true):gy X (.builtin "sorted") (λxs H Q=>∃(d:LS) (kvs:LR (Key×V)) (ss:LR Str),xs=[.ref d]/\Rd H d (.dK kvs)/\kvs.map (·.1)=ss.map MF/\ss.length<64/\
  ∀(l:LS) (ts:LR Str),H l=none->ts.Perm ss->Q6 ts=true->Q (.ref l) (upd H l (.lst (ts.map V.str)))):=by
 intro pins s σ H xs us Q I r h;obtain⟨d,kvs,ss,rfl,hq,hk,ah,q⟩:=h;obtain⟨u,rfl,rx⟩:=vals1 r;cases rx;obtain⟨z,ae,vs,rel,dd⟩:=ka I.hok hq;obtain⟨ep,ai⟩:=dd.dictAt;have af:kvs.length=ss.length:=by
  have:=Nl MQ hk
  rwa [LV,LV] at this
 refine QU kind_sorted plain_sorted entry_sorted (args_sorted1 _) ?_;unfold Rr.«sorted»;refine Mn (m:=checkCount "sorted" 1 1 _) (Nf ?_);refine Mn (W.kdu_collect (A:=X.A.in1) (W.kdl_dict (knd:=eW X.prog X.w) (kvs:=vs) (ep:=ep) ae) (I.ok.hd hc) ai (by rw[<-rel.length];exact z) λh' tk acc aa U=>?_);have hl:acc.toList.length=vs.length:=by rw[OP];exact U.1
 have hS:StrsAre acc.toList ss:=by
  refine A9 (by rw[hl,<-rel.length,af]) λj v hj=>?_
  obtain⟨k,x,hx,ag⟩:=U.2 j v (by rw[<-Array.getElem?_toList];exact hj);have J:(kvs.map (·.1))[j]? =some k:=by rw[rel.keys,List.getElem?_map,hx];rfl
  rw[hk,List.getElem?_map] at J;cases hs:ss[j]? with
  |none=>rw[hs] at J;cases J
  |some y=>
   rw[hs] at J;have e:MF y=k:=Ml J;subst e;obtain⟨t,rfl⟩:=(sO ag:RelV (kV (MF y)) v);exact⟨y,t,rfl,rfl⟩
 have aj:acc.toList.length<64:=by rw[hl,<-rel.length,af];exact ah
 have hsz:(sizeLine:Nat)=16777216:=Mt;refine Mn (wpAny_newList ?_ (by lia));have ab:(h'.push (O4 "list" acc.toList.toArray 0)).get? h'.objs.size=some (O4 "list" acc.toList.toArray 0):=Heap.get?_push_size _ rfl;show MD _ _ _ _ _ {s with heap:=h'.push (O4 "list" acc.toList.toArray 0),toks:=tk};refine Mn (OA (wpAny_call_entry slot_list_sort ⟨_,ab,rfl⟩ entry_list_sort (list_sort_treeK strKind_oneLt ab hS.keysOf (λao aq rest e=>keyKind_strs (by rw[<-e];exact hS)) aj λak a1 a2=>⟨_,rfl,?_⟩) (args_list_sort _)));obtain⟨ts,b1,b2,b3⟩:=sorted_out_str hS a1 a2;obtain⟨e,he⟩:=sortedHeap_at (out:=(arrOf ak).map (·.2)) ab;have I1:Inv X pins σ H {s with heap:=h',toks:=tk}:=I.kept (t':=tk) aa;refine Nf ⟨_,rfl,.ref h'.objs.size,_,I1.laid (t':=tk) (λb o hb=>?_) (Ma _) (show eC X.prog X.w _ _ _ (.lst (ts.map V.str)) from⟨by rw[LV,b2.length_eq];lia,_,e,wj b1,by rw[he]⟩),rfl,q _ ts (I1.hok.fresh (Ma _)) b2 b3⟩;rw[sortedHeap_old (MV (Mv hb)) (by rw[size_push'];exact Pd (Mv hb))];exact Heap.get?_push_of_some _ hb
end
end L2
namespace K04
noncomputable def gM(n:Nat):LR Nat:=if h:n<128 then [n] else (128+n%128)::gM (n/128)
termination_by n
decreasing_by lia
noncomputable def pk(ns:LR Nat):LR Nat:=ns.flatMap gM
theorem lO{n:Nat}(h:n<128):gM n=[n]:=by rw[gM,dif_pos h]
theorem oh{n:Nat}(h:¬ n<128):gM n=(128+n%128)::gM (n/128):=by rw[gM,dif_neg h]
theorem Aw:∀(k n:Nat),n<128 ^ (k+1)->(gM n).length<=k+1
 |0,n,h=>by rw[lO (by simpa using h)];exact Ma _
 |k+1,n,h=>by
  by_cases h1:n<128
  ·rw[lO h1];simp
  ·rw[oh h1,Ms];have:=Aw k (n/128) (by rw[Nat.div_lt_iff_lt_mul (by decide)];rw[Nat.pow_succ] at h;exact h)
   lia
theorem AU(a b:LR Nat):pk (a++b)=pk a++pk b:=by simp[pk]
theorem KO(n:Nat):pk [n]=gM n:=by simp[pk]
theorem IT:∀(n:Nat),∀ p∈gM n,p<=255:=by
 intro n;induction n using gM.induct with
 |case1 n h=>
  intro p hp;rw[lO h] at hp;have:=List.mem_singleton.mp hp
  lia
 |case2 n h I=>
  intro p hp;rw[oh h] at hp;rcases List.mem_cons.mp hp with e|hp
  ·lia
  ·exact I p hp
theorem Ht(ns:LR Nat):∀ p∈pk ns,p<=255:=λp I=>by
 obtain⟨n,_,h⟩:=List.mem_flatMap.mp I;exact IT n p h
noncomputable def Rd(ns R done:LR Nat)(num wt:Nat):Prop:=
 (R=[]/\num=0/\wt=1/\done=ns)\/∃ r rest,R=gM r++pk rest/\ns=done++(num+r*wt)::rest/\((wt=1/\num=0)\/(1<wt/\0<r))
theorem Rd.next (done rest:LR Nat):Rd (done++rest) (pk rest) done 0 1:=by
 cases rest with
 |nil=>exact .inl ⟨rfl,rfl,rfl,by simp⟩
 |cons r rest=>exact .inr ⟨r,rest,rfl,by simp,.inl ⟨rfl,rfl⟩⟩
theorem Rd.start (ns:LR Nat):Rd ns (pk ns) [] 0 1:=Rd.next [] ns
theorem Rd.more {ns R done:LR Nat}{num wt c:Nat}(h:Rd ns (c::R) done num wt)(hc:128<=c):Rd ns R done (num+c%128*wt) (wt*128):=by
 rcases h with ⟨e,_⟩|⟨r,rest,e,hn,hw⟩
 ·cases e
 ·by_cases I:r<128
  ·rw[lO I] at e;have:c=r:=(Pa e).1
   lia
  ·rw[oh I] at e;obtain⟨J,U⟩:=Pa e;refine .inr ⟨r/128,rest,U,?_,.inr ⟨?_,by lia⟩⟩
   ·rw[hn,J]
    congr 2
    have h1:(128+r%128)%128=r%128:=by lia
    rw[h1];have h2:r=128*(r/128)+r%128:=(Nat.div_add_mod r 128).symm;generalize r/128=q at *;generalize r%128=m at *;subst h2;rw[Nat.add_mul,Nat.mul_comm wt 128,<-Nat.mul_assoc,Nat.mul_comm q 128]
    lia
   ·rcases hw with ⟨h1,_⟩|⟨h1,_⟩<;>lia
theorem Rd.last {ns R done:LR Nat}{num wt c:Nat}(h:Rd ns (c::R) done num wt)(hc:c<128):¬ (c=0/\1<wt)/\Rd ns R (done++[num+c%128*wt]) 0 1:=by
 rcases h with ⟨e,_⟩|⟨r,rest,e,hn,hw⟩
 ·cases e
 ·by_cases I:r<128
  ·rw[lO I] at e;obtain⟨J,U⟩:=Pa e;subst J;refine⟨?_,?_⟩
   ·rintro⟨h1,h2⟩;rcases hw with ⟨h3,_⟩|⟨_,h3⟩<;>lia
   ·have e3:R=pk rest:=by simpa using U
    rw[e3,hn,Nat.mod_eq_of_lt I];have:=Rd.next (done++[num+c*wt]) rest
    simpa using this
  ·rw[oh I] at e;have:c=128+r%128:=(Pa e).1
   lia
theorem Rd.len {ns R done:LR Nat}{num wt:Nat}(h:Rd ns R done num wt):done.length<=ns.length:=by
 rcases h with ⟨_,_,_,e⟩|⟨r,rest,_,e,_⟩
 ·rw[e];exact Ma _
 ·rw[e,Md];lia
theorem Rd.done {ns done:LR Nat}{num wt:Nat}(h:Rd ns [] done num wt):wt=1/\done=ns:=by
 rcases h with ⟨_,_,J,U⟩|⟨r,rest,e,_⟩
 ·exact⟨J,U⟩
 ·exfalso;by_cases I:r<128
  ·rw[lO I] at e;cases e
  ·rw[oh I] at e;cases e
noncomputable abbrev Pr:=Nat×LR Nat
noncomputable def iC:Nat->LR Nat->Prop
 |_,[]=>True
 |l,n::r=>l<=n/\iC (n+1) r
noncomputable def fH:Nat->LR Nat->LR Nat
 |_,[]=>[]
 |l,n::r=>(n-l)::fH (n+1) r
noncomputable def nums:Nat->LR Nat->LR Nat
 |_,[]=>[]
 |l,g::r=>(l+g)::nums (l+g+1) r
theorem zq:∀(l:Nat) (xs:LR Nat),iC l xs->nums l (fH l xs)=xs
 |_,[],_=>rfl
 |l,n::r,h=>by
  have e:l+(n-l)=n:=by have:=h.1;lia
  show(l+(n-l))::nums (l+(n-l)+1) (fH (n+1) r)=n::r;rw[e,zq (n+1) r h.2]
theorem kQ:∀(l:Nat) (xs:LR Nat),(fH l xs).length=xs.length
 |_,[]=>rfl
 |l,n::r=>by show(fH (n+1) r).length+1=r.length+1;rw[kQ]
theorem yl{b:Nat}:∀(l:Nat) (xs:LR Nat),(∀ x∈xs,x<b)->∀ g∈fH l xs,g<b
 |_,[],_,_,h=>nomatch h
 |l,n::r,hb,g,h=>by
  rcases List.mem_cons.mp h with e|h
  ·have:=hb n Mi
   lia
  ·exact yl (n+1) r (λx I=>hb x (Mg _ I)) g h
noncomputable def rn:Nat->LR Pr->LR Nat
 |_,[]=>[]
 |l,(n,pl)::r=>(n-l)::(pl.length-1)::(fH 0 pl++rn (n+1) r)
structure iM (l : Nat) (row : LR Pr) : Prop where
 n : iC l (row.map (·.1))
 p : ∀ x ∈ row, x.2 ≠ [] /\ iC 0 x.2
theorem iM.tail {l n:Nat}{pl:LR Nat}{r:LR Pr}(h:iM l ((n,pl)::r)):iM (n+1) r:=⟨h.n.2,λx I=>h.p x (Mg _ I)⟩
theorem iM.head {l n:Nat}{pl:LR Nat}{r:LR Pr}(h:iM l ((n,pl)::r)):l<=n/\pl≠[]/\iC 0 pl:=⟨h.n.1,h.p _ Mi⟩
end K04
namespace BK
open K04
section
variable {α : Type} [Qd α]
noncomputable def d7(w:α):LR α->Nat->LR Nat
 |[],_=>[]
 |x::r,i=>if x=w then i::d7 w r (i+1) else d7 w r (i+1)
theorem uM(w x:α):∀(ws:LR α) (i:Nat),d7 w (ws++[x]) i=d7 w ws i++(if x=w then [i+ws.length] else [])
 |[],i=>by
  show(if x=w then [i] else [])=[]++_;rw[Qu];rfl
 |y::r,i=>by
  show(if y=w then i::d7 w (r++[x]) (i+1) else d7 w (r++[x]) (i+1))=(if y=w then i::d7 w r (i+1) else d7 w r (i+1))++_;rw[uM w x r (i+1)];have e:i+1+r.length=i+(y::r).length:=by rw[Ms];lia
  rw[e];by_cases h:y=w
  ·rw[LZ h,LZ h];rfl
  ·rw[LX h,LX h]
theorem tL(w:α):∀(ws:LR α) (i l:Nat),l<=i->iC l (d7 w ws i)
 |[],_,_,_=>trivial
 |x::r,i,l,h=>by
  unfold d7;by_cases e:x=w
  ·rw[LZ e];exact⟨h,tL w r (i+1) (i+1) (Ma _)⟩
  ·rw[LX e];exact tL w r (i+1) l (Od h)
theorem tP(w:α):∀(ws:LR α) (i:Nat),d7 w ws i=[]↔w∉ws
 |[],i=>by simp[d7]
 |x::r,i=>by
  unfold d7;by_cases e:x=w
  ·rw[LZ e];simp[e]
  ·rw[LX e,tP w r (i+1)];simp[Nt e]
theorem rC(w:α):∀(ws:LR α) (i:Nat),(d7 w ws i).length<=ws.length
 |[],_=>Ma _
 |x::r,i=>by
  unfold d7;have:=rC w r (i+1);by_cases e:x=w
  ·rw[LZ e,Ms,Ms]
   lia
  ·rw[LX e,Ms]
   lia
theorem AX(w:α):∀(ws:LR α) (i:Nat),∀ p∈d7 w ws i,p<i+ws.length
 |[],_,_,h=>nomatch h
 |x::r,i,p,h=>by
  unfold d7 at h;have I:=AX w r (i+1) p;rw[Ms];by_cases e:x=w
  ·rw[LZ e] at h;rcases List.mem_cons.mp h with h|h
   ·lia
   ·have:=I h
    lia
  ·rw[LX e] at h;have:=I h
   lia
noncomputable def rowOf(w:α):LR (LR α)->Nat->LR Pr
 |[],_=>[]
 |ws::r,n=>if w∈ws then (n,d7 w ws 0)::rowOf w r (n+1) else rowOf w r (n+1)
theorem uV(w:α)(ws:LR α):∀(cZ:LR (LR α)) (n:Nat),rowOf w (cZ++[ws]) n=rowOf w cZ n++(if w∈ws then [(n+cZ.length,d7 w ws 0)] else [])
 |[],n=>by
  show(if w∈ws then [(n,d7 w ws 0)] else [])=[]++_;rw[Qu];rfl
 |vs::r,n=>by
  show(if w∈vs then (n,d7 w vs 0)::rowOf w (r++[ws]) (n+1) else rowOf w (r++[ws]) (n+1))=(if w∈vs then (n,d7 w vs 0)::rowOf w r (n+1) else rowOf w r (n+1))++_;rw[uV w ws r (n+1)];have e:n+1+r.length=n+(vs::r).length:=by rw[Ms];lia
  rw[e];by_cases h:w∈vs
  ·rw[LZ h,LZ h];rfl
  ·rw[LX h,LX h]
theorem tO(w:α):∀(cZ:LR (LR α)) (n l:Nat),l<=n->iC l ((rowOf w cZ n).map (·.1))
 |[],_,_,_=>trivial
 |ws::r,n,l,h=>by
  unfold rowOf;by_cases e:w∈ws
  ·rw[LZ e];exact⟨h,tO w r (n+1) (n+1) (Ma _)⟩
  ·rw[LX e];exact tO w r (n+1) l (Od h)
theorem Am(w:α):∀(cZ:LR (LR α)) (n:Nat) (x:Pr),x∈rowOf w cZ n->∃ j ws,cZ[j]? =some ws/\w∈ws/\x=(n+j,d7 w ws 0)
 |[],_,_,h=>nomatch h
 |ws::r,n,x,h=>by
  unfold rowOf at h;have J:=Am w r (n+1) x;by_cases e:w∈ws
  ·rw[LZ e] at h;rcases List.mem_cons.mp h with h|h
   ·exact⟨0,ws,rfl,e,h⟩
   ·obtain⟨j,vs,h1,h2,I⟩:=J h;exact⟨j+1,vs,h1,h2,by rw[I];congr 1;lia⟩
  ·rw[LX e] at h;obtain⟨j,vs,h1,h2,I⟩:=J h;exact⟨j+1,vs,h1,h2,by rw[I];congr 1;lia⟩
theorem K6(w:α)(cZ:LR (LR α))(n l:Nat)(h:l<=n):iM l (rowOf w cZ n):=⟨tO w cZ n l h,λx I=>by
 obtain⟨j,ws,_,h2,J⟩:=Am w cZ n x I;rw[J];exact⟨λz=>(tP w ws 0).mp z h2,tL w ws 0 0 (Ma _)⟩⟩
theorem nL(w:α):∀(cZ:LR (LR α)) (n:Nat),rowOf w cZ n=[]↔∀ ws∈cZ,w∉ws
 |[],n=>by simp[rowOf]
 |ws::r,n=>by
  unfold rowOf;by_cases e:w∈ws
  ·rw[LZ e];simp[e]
  ·rw[LX e,nL w r (n+1)];simp[e]
noncomputable def d8(cZ:LR (LR α)):Nat:=(cZ.map MQ).sum
theorem qh(w:α):∀(cZ:LR (LR α)) (n:Nat),(rowOf w cZ n).length<=cZ.length/\(rowOf w cZ n).length<=d8 cZ
 |[],_=>⟨Ma _,Ma _⟩
 |ws::r,n=>by
  have I:=qh w r (n+1)
  have e:d8 (ws::r)=ws.length+d8 r:=rfl;unfold rowOf;by_cases h:w∈ws
  ·rw[LZ h,Ms,Ms,e];have:=O5 h
   lia
  ·rw[LX h,Ms,e]
   lia
theorem uR(w:α):∀(cZ:LR (LR α)) (n l:Nat),(rn l (rowOf w cZ n)).length<=3*d8 cZ
 |[],_,_=>Ma _
 |ws::r,n,l=>by
  have e:d8 (ws::r)=ws.length+d8 r:=rfl;unfold rowOf;by_cases h:w∈ws
  ·rw[LZ h];show(fH 0 (d7 w ws 0)++rn (n+1) (rowOf w r (n+1))).length+1+1<=_;rw[Md,kQ,e];have:=uR w r (n+1) (n+1);have:=O5 h;have:=rC w ws 0
   lia
  ·rw[LX h,e];have:=uR w r (n+1) l
   lia
theorem zF(w:α)(B:Nat):∀(cZ:LR (LR α)) (n l:Nat),n+cZ.length<=B->(∀ ws∈cZ,ws.length<=B)->∀ x∈rn l (rowOf w cZ n),x<B
 |[],_,_,_,_,_,h=>nomatch h
 |ws::r,n,l,hB,hw,x,h=>by
  have I:n+1+r.length<=B:=by rw[Ms] at hB;lia
  have U:=zF w B r (n+1);unfold rowOf at h;have ab:=hw ws Mi;by_cases e:w∈ws
  ·rw[LZ e] at h;have h':x∈(n-l)::((d7 w ws 0).length-1)::(fH 0 (d7 w ws 0)++rn (n+1) (rowOf w r (n+1))):=h;have ae:=rC w ws 0;have aa:=O5 e;rcases List.mem_cons.mp h' with h|h
   ·lia
   ·rcases List.mem_cons.mp h with h|h
    ·lia
    ·rcases List.mem_append.mp h with h|h
     ·refine yl 0 (d7 w ws 0) (λy hy=>?_) x h;have:=AX w ws 0 y hy
      lia
     ·exact U (n+1) I (λv J=>hw v (Mg _ J)) x h
  ·rw[LX e] at h;exact U l I (λv J=>hw v (Mg _ J)) x h
theorem Bt:∀(k:Nat) (ns:LR Nat),(∀ n∈ns,n<128 ^ (k+1))->(pk ns).length<=(k+1)*ns.length
 |k,[],_=>by simp[pk]
 |k,n::ns,h=>by
  have h1:=Aw k n (h n Mi)
  have h2:=Bt k ns λm hm=>h m (Mg _ hm)
  show(gM n++pk ns).length<=_;rw[Md,Ms,Nat.mul_add,Nat.mul_one]
  lia
end
end BK
namespace Gn
open PySem L2 PyProof.Rows PySem.Spec
section
variable {X : Cx}
noncomputable def E1(K:Mm):R2:=λx y H Q=>∃ dx I,gc K H x dx/\gc K H y I/\dx.canLay0=true/\I.canLay0=true/\min dx.depth I.depth<=100/\Q (.bl (RL dx I)) H
theorem vG{K:Mm}(h:X.K=K)(hu:X.A.units+100<PR):fz X (NX .Eq) (E1 K):=by subst h;exact Ad hu
end
noncomputable def dN(ns:LR Nat):LR OV:=ns.map λ(n:Nat)=>PyData.int (n:Int)
theorem uc{K:Mm}{H:Hp}:∀(ns:LR Nat),fQ K H (ns.map λ(n:Nat)=>V.int (n:Int)) (dN ns)
 |[]=> .nil
 |n::ns=> .cons (.int n) (uc ns)
theorem rS:∀(ns:LR Nat),(NP (dN ns)).canLay0=true
 |[]=>rfl
 |n::ns=>rS ns
theorem wJ(xs:LR V)(k:Nat):ib xs none (some (k:Int))=xs.take k:=by
 unfold ib;rw[HT.qP,HT.BR,List.drop_zero,Nat.sub_zero];by_cases h:k<=xs.length
 ·rw[Qv h]
 ·rw[Nat.min_eq_right (by lia),MZ (Ma _),MZ (by lia)]
theorem yU(xs:LR V)(k:Nat):ib xs (some (k:Int)) none=xs.drop k:=by
 unfold ib;rw[HT.qP,HT.BR];by_cases h:k<=xs.length
 ·rw[Qv h,MZ (by rw[NJ];lia)]
 ·rw[Nat.min_eq_right (by lia),P2 (Ma _),P2 (by lia)];exact List.take_nil
theorem Paired.cat {α β:Type}{F:α->β->Prop}:∀{l:LR α} {m:LR β} {l':LR α} {m':LR β},MY F l m->MY F l' m'->MY F (l++l') (m++m')
 |_,_,_,_,.nil,h=>h
 |_,_,_,_,.cons r t,h=> .cons r (Paired.cat t h)
theorem Paired.at {α β:Type}{F:α->β->Prop}:∀{l:LR α} {m:LR β},MY F l m->∀{i:Nat} {b:β},m[i]? =some b->∃ a,l[i]? =some a/\F a b
 |_,_,.nil,i,b,h=>by cases i<;>cases h
 |_,_,.cons r t,0,b,h=>by
  have e:=Ml h;subst e;exact⟨_,rfl,r⟩
 |_,_,.cons r t,i+1,b,h=>Paired.at t h
end Gn
namespace BK
open PySem L2 PyProof.Rows PySem.Spec Gn K04
noncomputable abbrev En:=LR (Str×LS)
noncomputable def eD(es:En):LR (Key×V):=es.map λe=>((MF e.1:Key),V.ref e.2)
theorem nF(es:En):(eD es).length=es.length:=LV _
theorem yd(es:En):(eD es).map (·.1)=(es.map (·.1)).map MF:=by
 unfold eD;rw[NG,NG];rfl
theorem qU:∀{es:En} {w:Str},w∉es.map (·.1)->dQ (eD es) (MF w)=none
 |[],_,_=>rfl
 |e::es,w,h=>by
  have h1:¬ e.1=w:=λz=>h (by rw[<-z];exact List.mem_map.mpr ⟨e,Mi,rfl⟩)
  have h2:w∉es.map (·.1):=λz=>h (Mg _ z)
  show dQ (((MF e.1:Key),V.ref e.2)::eD es) (MF w)=none;rw[g6 (λz=>h1 (Ph z)),qU h2]
theorem uy:∀{es:En} {w:Str} {v:V},dQ (eD es) (MF w)=some v->∃ a,v= .ref a/\(w,a)∈es
 |[],_,_,h=>nomatch h
 |e::es,w,v,h=>by
  have h':dQ (((MF e.1:Key),V.ref e.2)::eD es) (MF w)=some v:=h;by_cases h1:e.1=w
  ·rw[iE (p:=((MF e.1:Key),V.ref e.2)) (by rw[h1])] at h';subst h1;exact⟨e.2,(Ml h').symm,Mi⟩
  ·rw[g6 (λz=>h1 (Ph z))] at h';obtain⟨a,I,J⟩:=uy h';exact⟨a,I,Mg _ J⟩
theorem vd{es:En}{w:Str}(h:w∈es.map (·.1)):∃ a,dQ (eD es) (MF w)=some (.ref a)/\(w,a)∈es:=by
 cases q:dQ (eD es) (MF w) with
 |none=>
  have:=BW q;rw[yd] at this;exact absurd (List.mem_map.mpr ⟨w,h,rfl⟩) this
 |some v=>
  obtain⟨a,rfl,ha⟩:=uy q;exact⟨a,rfl,ha⟩
theorem Dr{es:En}{w:Str}(h:dQ (eD es) (MF w)=none):w∉es.map (·.1):=λz=>by
 obtain⟨a,e,_⟩:=vd z;rw[h] at e;cases e
theorem uf{es:En}{w:Str}{a:LS}(h:dQ (eD es) (MF w)=none):putK (eD es) (MF w) (.ref a)=eD (es++[(w,a)]):=by
 rw[uF _ h];unfold eD;rw[Mf];rfl
theorem vg{α β:Type}:∀{es:LR (α×β)},(es.map (·.1)).Nodup->∀{w:α} {a b:β},(w,a)∈es->(w,b)∈es->a=b
 |[],_,_,_,_,h,_=>nomatch h
 |e::es,hn,w,a,b,h1,h2=>by
  have I:(e.1::es.map (·.1)).Nodup:=hn;obtain⟨J,U⟩:=List.nodup_cons.mp I;rcases List.mem_cons.mp h1 with h1|h1
  ·rcases List.mem_cons.mp h2 with h2|h2
   ·have:=h1.trans h2.symm;exact(Q7 this).2
   ·exact absurd (List.mem_map.mpr ⟨_,h2,by rw[<-h1]⟩) J
  ·rcases List.mem_cons.mp h2 with h2|h2
   ·exact absurd (List.mem_map.mpr ⟨_,h1,by rw[<-h2]⟩) J
   ·exact vg U h1 h2
theorem BM{α β:Type}:∀{es:LR (α×β)},(es.map (·.2)).Nodup->∀{w v:α} {a:β},(w,a)∈es->(v,a)∈es->w=v
 |[],_,_,_,_,h,_=>nomatch h
 |e::es,hn,w,v,a,h1,h2=>by
  have I:(e.2::es.map (·.2)).Nodup:=hn;obtain⟨J,U⟩:=List.nodup_cons.mp I;rcases List.mem_cons.mp h1 with h1|h1
  ·rcases List.mem_cons.mp h2 with h2|h2
   ·have:=h1.trans h2.symm;exact(Q7 this).1
   ·exact absurd (List.mem_map.mpr ⟨_,h2,by rw[<-h1]⟩) J
  ·rcases List.mem_cons.mp h2 with h2|h2
   ·exact absurd (List.mem_map.mpr ⟨_,h1,by rw[<-h2]⟩) J
   ·exact BM U h1 h2
theorem wa{α:Type}:∀{l:LR α} {a:α},l.Nodup->a∉l->(l++[a]).Nodup
 |[],a,_,_=>List.nodup_cons.mpr ⟨(λh=>nomatch h),NK⟩
 |x::l,a,hn,h=>by
  obtain⟨I,J⟩:=List.nodup_cons.mp hn;show(x::(l++[a])).Nodup;refine List.nodup_cons.mpr ⟨λz=>?_,wa J λz=>h (Mg _ z)⟩;rcases List.mem_append.mp z with z|z
  ·exact I z
  ·rw[List.mem_singleton.mp z] at h;exact h Mi
structure DL (B H : Hp) (d : LS) (es : En) (F : Hp -> LS -> Str -> Prop) : Prop where
 d : H d = some (.dK (eD es))
 k : (es.map (·.1)).Nodup
 a : (es.map (·.2)).Nodup
 n : ∀ e ∈ es, B e.2 = none
 f : ∀ e ∈ es, F H e.2 e.1
theorem DL.put {B H H':Hp}{d a:LS}{es:En}{w:Str}{F F':Hp->LS->Str->Prop}(h:DL B H d es F)(ha:(w,a)∈es)(hd:H' d=some (.dK (eD es)))
  (hf:∀ e∈es,e.1≠w->e.2≠a->F H e.2 e.1->F' H' e.2 e.1)(hw:F' H' a w):DL B H' d es F':=⟨hd,h.k,h.a,h.n,λe he=>by
 by_cases I:e.1=w
 ·have:e.2=a:=vg h.k (w:=w) (by rw[<-I];exact he) ha;rw[this,I];exact hw
 ·exact hf e he I (λz=>I (BM h.a (a:=a) (by rw[<-z];exact he) ha)) (h.f e he)⟩
theorem DL.new {B H H':Hp}{d z:LS}{es:En}{w:Str}{F F':Hp->LS->Str->Prop}(h:DL B H d es F)(hw:w∉es.map (·.1))(hz:B z=none)(hz2:z∉es.map (·.2))(hd:H' d=some (.dK (eD (es++[(w,z)]))))
  (hf:∀ e∈es,e.1≠w->e.2≠z->F H e.2 e.1->F' H' e.2 e.1)(hF:F' H' z w):DL B H' d (es++[(w,z)]) F':=by
 refine⟨hd,?_,?_,λe he=>?_,λe he=>?_⟩
 ·rw[Mf];exact wa h.k hw
 ·rw[Mf];exact wa h.a hz2
 ·rcases List.mem_append.mp he with he|he
  ·exact h.n e he
  ·rw[List.mem_singleton.mp he];exact hz
 ·rcases List.mem_append.mp he with he|he
  ·exact hf e he (λq=>hw (by rw[<-q];exact List.mem_map.mpr ⟨e,he,rfl⟩)) (λq=>hz2 (by rw[<-q];exact List.mem_map.mpr ⟨e,he,rfl⟩)) (h.f e he)
  ·rw[List.mem_singleton.mp he];exact hF
noncomputable abbrev sl(ws:LR Str):LR V:=ws.map V.str
theorem xo{ws:LR Str}{i:Nat}{x:V}(h:(sl ws)[i]? =some x):∃ w,ws[i]? =some w/\x= .str w:=by
 rw[List.getElem?_map] at h;cases hp:ws[i]? with
 |none=>rw[hp] at h;cases h
 |some c=>rw[hp] at h;exact⟨c,rfl,(Ml h).symm⟩
theorem take_snoc{α:Type}{xs:LR α}{i:Nat}{x:α}(h:xs[i]? =some x):xs.take (i+1)=xs.take i++[x]:=by rw[N2,h];rfl
theorem rl{α:Type}{xs:LR α}{i:Nat}{x:α}(h:xs[i]? =some x):(xs.take i).length=i:=by
 have:=(List.getElem?_eq_some_iff.mp h).1;rw[ML]
 lia
noncomputable def SameBut(x:LS)(H H':Hp):Prop:=∀ b o,H b=some o->b≠x->H' b=some o
theorem SameBut.of {x:LS}{H G:Hp}(s:cR H G):SameBut x H G:=λb u e _=>s b u e
theorem SameBut.free {x a:LS}{o:HO}{H G:Hp}(s:SameBut x H G)(hx:G x=some o)(h:G a=none):H a=none:=by
 cases q:H a with
 |none=>rfl
 |some u=>
  by_cases e:a=x
  ·rw[e,hx] at h;cases h
  ·rw[s a u q e] at h;cases h
theorem SameBut.tr {x:LS}{H G F:Hp}(s:SameBut x H G)(t:cR G F):SameBut x H F:=λb u e n=>t _ _ (s b u e n)
theorem oY{α:Type}:∀{l:LR α} {i:Nat} {x:α},l.Nodup->l[i]? =some x->x∉l.take i
 |[],i,_,_,h=>by cases i<;>cases h
 |y::l,0,x,_,_=>(λh=>nomatch h)
 |y::l,i+1,x,hn,h=>by
  obtain⟨I,J⟩:=List.nodup_cons.mp hn;intro z;rcases List.mem_cons.mp z with z|z
  ·subst z;exact I (List.mem_of_getElem? (show l[i]? =some x from h))
  ·exact oY J h z
theorem uO{es:En}{i:Nat}{kv:Key×V}(h:(eD es)[i]? =some kv):∃ e,es[i]? =some e/\kv=(MF e.1,.ref e.2):=by
 unfold eD at h;rw[List.getElem?_map] at h;cases hp:es[i]? with
 |none=>rw[hp] at h;cases h
 |some c=>rw[hp] at h;exact⟨c,rfl,(Ml h).symm⟩
theorem v9{es:En}{e:Str×LS}(hn:(es.map (·.1)).Nodup)(h:e∈es):dQ (eD es) (MF e.1)=some (.ref e.2):=by
 obtain⟨a,h1,h2⟩:=vd (List.mem_map.mpr ⟨e,h,rfl⟩);rw[h1,vg hn h2 h]
theorem oU{es:En}{i:Nat}{e:Str×LS}(h:es[i]? =some e):(es.map (·.1))[i]? =some e.1:=by rw[List.getElem?_map,h];rfl
theorem HX{α:Type}(a:LR (LR α))(b:LR α):d8 (a++[b])=d8 a+b.length:=by
 unfold d8;rw[Mf,PB];simp
theorem Ag{α:Type}:∀(t:LR (LR α)) (i:Nat),d8 (t.take i)<=d8 t
 |[],i=>by rw[List.take_nil];exact Ma _
 |x::t,0=>MM _
 |x::t,i+1=>by
  have:=Ag t i
  show x.length+d8 (t.take i)<=x.length+d8 t
  lia
theorem wD{α:Type}:∀{t:LR (LR α)} {ws:LR α},ws∈t->ws.length<=d8 t
 |[],_,h=>nomatch h
 |x::t,ws,h=>by
  have e:d8 (x::t)=x.length+d8 t:=rfl;rcases List.mem_cons.mp h with h|h
  ·rw[h,e]
   lia
  ·have:=wD h
   lia
theorem SameBut.trb {x:LS}{H G F:Hp}(s:SameBut x H G)(t:SameBut x G F):SameBut x H F:=λb u e n=>t _ _ (s b u e n) n
theorem SameBut.new {x:LS}{B H G:Hp}(s:SameBut x H G)(t:cR B H)(h:B x=none):cR B G:=λb u e=>s _ _ (t _ _ e) (dF e h)
noncomputable def rR(i j:Nat):TE:=λσ H Q=>∃(B:Hp) (d:LS) (es:En) (x:Str) (F:Hp->LS->Str->Prop),σ[i]? =some (some (.ref d))/\σ[j]? =some (some (.str x))/\DL B H d es F/\es.length<=10000/\(∀ z,H z=none->B z=none)/\
 (∀ e∈es,∃ l,H e.2=some (.lst l))/\(∀ G a y l,SameBut d H G->H a=some (.lst l)->F H a y->F G a y)/\(∀ G z,x∉es.map (·.1)->G z=some (.lst [])->F G z x)/\
 ∀ p I H',SameBut d H H'->DL B H' d I F->(x,p)∈I->(I=es\/(x∉es.map (·.1)/\I=es++[(x,p)]/\H p=none))->(∃ l,H' p=some (.lst l))->Q (.ref p) H'
theorem getL{K:Mm}{i j:Nat}{σ:L2.St}{H:Hp}{Q:VK}(h:rR i j σ H Q):BB K "dict" y8 (je i) (mE (je j) (mE (rW jB) jB)) σ H Q:=by
 obtain⟨B,d,es,x,F,hi,hj,hD,hlen,hB,J,ae,ah,q⟩:=h;have hl:(sizeLine:Nat)=16777216:=Mt;refine⟨_,hi,tE hD.d,_,hj,(by show 0<=sizeLine;decide),λz hz=>?_⟩;have sz:cR H (upd H z (.lst [])):=da hz;have U:(upd H z (.lst [])) z=some (.lst []):=cT;generalize upd H z (.lst [])=H2 at sz U ⊢;have aa:=sz _ _ hD.d;have af:∀ e∈es,e.2≠d/\e.2≠z:=λe he=>by
  obtain⟨l,h1⟩:=J e he;exact⟨(λq=>by rw[q,hD.d] at h1;cases h1),(λq=>by rw[q,hz] at h1;cases h1)⟩
 refine⟨d,eD es,MF x,.ref z,rfl,rfl,aa,(by rw[nF];lia),λv hv=>?_,λhv=>?_⟩
 ·obtain⟨p,rfl,hp⟩:=uy hv;obtain⟨l,h1⟩:=J _ hp;refine q p es H2 (SameBut.of sz) ⟨aa,hD.k,hD.a,hD.n,λe he=>?_⟩ hp (.inl rfl) ⟨l,sz _ _ h1⟩;obtain⟨l',h2⟩:=J e he;exact ae H2 e.2 e.1 l' (SameBut.of sz) h2 (hD.f e he)
 ·have ab:=Dr hv
  have ai:z≠d:=λq=>by rw[q,aa] at U;cases U
  have I:upd H2 d (.dK (putK (eD es) (MF x) (.ref z))) z=some (.lst []):=by rw[cW ai];exact U
  have ag:upd H2 d (.dK (putK (eD es) (MF x) (.ref z))) d=some (.dK (eD (es++[(x,z)]))):=by rw[cT,uf hv]
  have sb:SameBut d H (upd H2 d (.dK (putK (eD es) (MF x) (.ref z)))):=λb u e hb=>by rw[cW hb];exact sz _ _ e
  generalize upd H2 d (.dK (putK (eD es) (MF x) (.ref z)))=H3 at I ag sb ⊢;refine q z _ H3 sb (hD.new ab (hB z hz) (λq=>?_) ag (λe he _ _ hf=>?_) (ah H3 z ab I)) (MA _ (List.mem_singleton.mpr rfl)) (.inr ⟨ab,rfl,hz⟩) ⟨_,I⟩
  ·obtain⟨e,he,q⟩:=List.mem_map.mp q;exact(af e he).2 q
  ·obtain⟨l',h2⟩:=J e he;exact ae H3 e.2 e.1 l' sb h2 hf
end BK
namespace K25
open PySem L2 PyProof.Rows PySem.Spec Gn K04 K01
noncomputable def top(i:Nat):Nr:=PySem.Challenge.pw_findhall_k25_a_house_by_a_dict.main.body.getD i (.Pass ⟨0,0,0,0⟩)
noncomputable abbrev ke:Nr:=top 16
noncomputable abbrev qr:Nr:=top 17
noncomputable abbrev oG:Nr:=top 18
noncomputable abbrev lE:Nr:=top 19
noncomputable abbrev lR:Nr:=top 20
noncomputable abbrev lC:Nr:=top 21
noncomputable abbrev mY:Nr:=top 22
noncomputable abbrev kq:Nr:=top 23
noncomputable abbrev pD:Nr:=top 27
noncomputable abbrev oW:Nr:=top 28
noncomputable abbrev qd:Nr:=top 29
noncomputable abbrev pj:Nr:=top 30
noncomputable abbrev mU:Nr:=top 32
noncomputable abbrev pS:Nr:=top 33
noncomputable abbrev lM:Nr:=top 34
noncomputable abbrev nu:Nr:=top 35
noncomputable abbrev qC:Nr:=top 36
noncomputable abbrev ni:Nr:=top 37
noncomputable abbrev px:Nr:=top 38
noncomputable abbrev qB:Nr:=top 41
noncomputable abbrev qg:Nr:=top 42
noncomputable abbrev pB:Nr:=top 43
noncomputable abbrev m9:Nr:=top 44
noncomputable abbrev oS:Nr:=top 46
noncomputable abbrev p8:Nr:=top 47
noncomputable abbrev oF:Nr:=top 48
noncomputable abbrev oV:Nr:=top 49
noncomputable abbrev qA:Nr:=top 50
noncomputable abbrev ph:Nr:=top 64
noncomputable abbrev p0:Nr:=top 65
noncomputable abbrev lU:Nr:=top 66
noncomputable abbrev qc:Nr:=top 68
noncomputable abbrev lL:Nr:=inClass (top 69) 0
noncomputable abbrev jP:Nr:=inClass (top 69) 1
noncomputable abbrev jJ:Nr:=inClass (top 69) 2
noncomputable abbrev mv:Nr:=inClass (top 69) 3
noncomputable abbrev k9:Nr:=inClass (top 69) 4
noncomputable abbrev kO:Nr:=inClass (top 69) 9
noncomputable abbrev jK:Nr:=inClass (top 69) 10
noncomputable abbrev mi:Nr:=inClass (top 69) 11
noncomputable abbrev kM:Nr:=top 71
noncomputable abbrev mX:Nr:=top 72
noncomputable abbrev lQ:Nr:=top 73
noncomputable abbrev pW:Nr:=top 74
noncomputable abbrev lu:Nr:=top 75
noncomputable abbrev kb:Nr:=top 76
noncomputable abbrev pP:Nr:=top 77
noncomputable abbrev pH:Nr:=top 78
noncomputable abbrev kW:Nr:=top 79
noncomputable abbrev oP:Nr:=top 80
noncomputable abbrev pJ:Nr:=top 81
noncomputable abbrev jk:Nr:=top 82
noncomputable abbrev mQ:Nr:=top 83
noncomputable abbrev og:Nr:=top 84
noncomputable abbrev oR:Nr:=top 85
noncomputable abbrev jf:Nr:=top 86
noncomputable abbrev md:Nr:=inClass (top 69) 5
noncomputable abbrev kU:Nr:=inClass (top 69) 6
noncomputable abbrev lG:Nr:=inClass (top 69) 7
noncomputable abbrev kA:Nr:=inClass (top 69) 8
noncomputable abbrev jA:Nr:=inClass (top 51) 0
noncomputable abbrev i9:Nr:=inClass (top 51) 1
noncomputable abbrev mx:Nr:=inClass (top 51) 2
noncomputable abbrev lP:Nr:=inClass (top 51) 3
noncomputable abbrev lr:Nr:=inClass (top 51) 4
noncomputable abbrev jX:Nr:=inClass (top 51) 5
noncomputable abbrev ku:Nr:=inClass (top 51) 7
noncomputable abbrev lW:Nr:=inClass (top 51) 8
noncomputable abbrev mF:Nr:=inClass (top 51) 10
noncomputable abbrev lH:Nr:=inClass (top 51) 11
structure Txt (mg : Str -> Mc LW) : Prop where
 isi : mg "isinstance" = none
 int : mg "int" = none
 bool : mg "bool" = none
 str : mg "str" = none
 list : mg "list" = none
 tuple : mg "tuple" = none
 len : mg "len" = none
 all : mg "all" = none
 ord : mg "ord" = none
 range : mg "range" = none
 enum : mg "enumerate" = none
 sorted : mg "sorted" = none
 val : mg "ValueError" = none
 cText : ∃ t, mg "MOST_TEXT_SIGNS" = some (.int 2000 t)
 cKey : ∃ t, mg "MOST_KEY_SIGNS" = some (.int 12 t)
 cWord : ∃ t, mg "MOST_WORD_SIGNS" = some (.int 2000 t)
 cSmall : ∃ t, mg "SMALL_SIGNS" = some (.str "abcdefghijklmnopqrstuvwxyz0123456789" t)
 cPer : ∃ t, mg "PERCENT_NUMBER" = some (.int 37 t)
 cGreat : ∃ t, mg "GREATEST_PART" = some (.int 255 t)
 cMore : ∃ t, mg "MORE_COMES" = some (.int 128 t)
section
variable {P : Mq} {w : MT} {K : Mz} {mg : Str -> Mc LW} {base : Nn}
theorem xj{t u:TS}{D:Ends}{σ:L2.St}{H:Hp}(h:∀ R:TS,R=u->oH t R D σ H):oH t u D σ H:=h u rfl
theorem iB{t u R:TS}{D:Ends}{σ:L2.St}{H:Hp}(hR:R=oH t u)(h:∀ R':TS,R'=u->oH t R' D σ H):R D σ H:=by subst hR;exact h u rfl
theorem uH{t R:TS}{D:Ends}{σ:L2.St}{H:Hp}(hR:R=t)(h:t D σ H):R D σ H:=by subst hR;exact h
theorem BD{g:TG}{x:V}{tb:TS}{D:Ends}{σ:L2.St}{H:Hp}(h:∀(B:TS) (D':Ends),B=tb->(∀ σ H,D.nx σ H->D'.nx σ H)->g x σ H λσ2 H2=>B D' σ2 H2):g x σ H λσ2 H2=>tb D σ2 H2:=h tb D rfl λ_ _ z=>z
theorem Dl:Ny "ord"=some (.builtin "ord"):=dkq
noncomputable def oB(K:Mm):Sp:=λvs H Q _=>∃ x,vs=[x]/\Known K H x/\Q (.bl (pZ x && !qY x)) H
theorem D4:dC ["thing"] ["thing"] (c9 ke):=⟨rfl,rfl,rfl,dkq,rfl,dkq,dkq⟩
seal dj PS PE PT PA PG PI dE dD in
theorem oT{f:LS}{fd:Mj}(D:Df K mg "is_whole" ke f fd)(T:Txt mg):cV P w K mg base dc 1 f fd ["thing"] (oB K):=by
 refine D.F.ok D4 (λvs H Q E h=>?_) (λcdv A outer s H vs Q E J h=>?_)
 ·obtain⟨x,rfl,_⟩:=h;rfl
 ·obtain⟨x,rfl,⟨n,I⟩,k⟩:=h;refine⟨_,cY (dg (kd (dR jb rfl T.isi gG (cP (pv 0) (cP (iF (v:= .ty "int") rfl T.int yV rfl) cQ)))
   (kD (xm (dR jb rfl T.isi gG (cP (pv 0) (cP (iF (v:= .ty "bool") rfl T.bool vm rfl) cQ))))))),?_⟩;refine⟨_,rfl,x,.ty "int",_,_,rfl,I,.inl ⟨_,rfl,z6 I⟩,_,rfl,?_⟩;cases hi:pZ x with
  |false=>
   rw[hi] at k;exact df k
  |true=>
   rw[hi] at k;refine dG ?_;exact⟨_,rfl,x,.ty "bool",_,_,rfl,I,.inl ⟨_,rfl,uG I⟩,_,rfl,k⟩
noncomputable def zQ:Sp:=λvs H Q _=>∃ c:Nat,vs=[.str ⟨#[c]⟩]/\Q (.bl (eJ c)) H
theorem IS:dC ["sign"] ["sign"] (c9 qr):=⟨rfl,rfl,rfl,dkq,rfl,dkq,dkq⟩
theorem Hg(c d:Nat):decide (V.str ⟨#[c]⟩=V.str ⟨#[d]⟩)=decide (c=d):=by
 by_cases h:c=d
 ·subst h;simp
 ·rw[LY h];exact LY λz=>h (by injection z with z;injection z with z;simpa using z)
theorem zu(c d:Nat):decide (([c]:LR Nat) < [d])=decide (c<d):=by
 by_cases h:c<d
 ·rw[Mb h];exact Mb (List.Lex.rel h)
 ·rw[LY h];exact LY λz=>by
   cases z with
   |rel q=>exact h q
   |cons q=>cases q
seal dj PS PE PT PA PG PI dE dD in
theorem LL{f:LS}{fd:Mj}(D:Df K mg "is_text_sign" qr f fd)(T:Txt mg):cV P w K mg base dc 1 f fd ["sign"] zQ:=by
 obtain⟨tp,cp⟩:=T.cPer;refine D.F.ok IS (λvs H Q E h=>?_) (λcdv A outer s H vs Q E hr h=>?_)
 ·obtain⟨c,rfl,_⟩:=h;rfl
 ·obtain⟨c,rfl,k⟩:=h;refine⟨_,cY (dg (Ib (jq fV (pv 0) dq (dH _)) (kD (kd (K2 ze ze dq (pv 0) dq)
   (kD (jq qt (dR Hr rfl T.ord Dl (cP (pv 0) cQ)) (gJ (v:= .int 37) rfl cp ⟨_,rfl⟩) (dH _))))))),?_⟩;refine⟨_,rfl,rfl,_,rfl,?_⟩;have J:decide (V.str ⟨#[c]⟩=V.str (LU "\n"))=decide (c=10):=Hg c 10;rw[J];unfold eJ at k;by_cases I:c=10
  ·rw[Mb I] at k ⊢;exact dG k
  ·rw[LY I] at k ⊢;refine df ?_;refine⟨_,rfl,_,_,rfl,rfl,_,rfl,?_⟩;have ab:(!decide ((⟨#[c]⟩:Str).cps.toList<(LU " ").cps.toList))=decide (32<=c):=by
    show(!decide (([c]:LR Nat) < [32]))=_;rw[zu];by_cases h:c<32
    ·rw[Mb h,LY (by(clear I J cp;lia))];rfl
    ·rw[LY h,Mb (by(clear I J cp;lia))];rfl
   rw[ab];by_cases U:32<=c
   ·rw[Mb U] at k ⊢;refine dG ⟨_,_,rfl,rfl,_,rfl,?_⟩;have ae:(!decide ((LU "~").cps.toList<(⟨#[c]⟩:Str).cps.toList))=decide (c<=126):=by
     show(!decide (([126]:LR Nat) < [c]))=_;rw[zu];by_cases h:126<c
     ·rw[Mb h,LY (by(clear U ab I J cp;lia))];rfl
     ·rw[LY h,Mb (by(clear U ab I J cp;lia))];rfl
    rw[ae];by_cases aa:c<=126
    ·rw[Mb aa] at k ⊢;refine dG ⟨_,rfl,_,rfl,rfl,rfl,?_⟩;have af:decide (V.int (((⟨#[c]⟩:Str).cps.getD 0 0:Nat):Int)=V.int 37)=decide (c=37):=by
      rw[um];by_cases h:c=37
      ·subst h;rfl
      ·rw[LY h];exact beq_eq_false_iff_ne.mpr λz=>h (by have z':((c:Nat):Int)=37:=z;(clear z h aa ae U ab I J cp;lia))
     rw[af];exact k
    ·rw[LY aa] at k ⊢;exact df k
   ·rw[LY U] at k ⊢;exact df ⟨_,rfl,df k⟩
theorem str_len(z:Str):z.cps.toList.length=z.length:=by simp[NB]
theorem yS{z:Str}{i c:Nat}(h:z.cps[i]? =some c):z.cps.toList[i]? =some c:=by simpa using h
theorem w9:(["sign"]:LR Str).Nodup:=dkq
noncomputable def z5(K:Mm):Sp:=λvs H Q _=>∃ x,vs=[x]/\Known K H x/\fT x/\∀ H',cR H H'->Q (.bl (dX x)) H'
theorem Jt:dC ["thing"] ["thing"] (c9 oG):=⟨rfl,rfl,rfl,dkq,rfl,dkq,dkq⟩
theorem Kt{x:V}(h:oK x=false):dX x=false:=by cases x<;>first|rfl|cases h
theorem KP{x:V}{m:Nat}(h:oK x=false):dA m x=false:=by cases x<;>first|rfl|cases h
theorem isStr{x:V}(h:oK x=true):∃ z,x= .str z:=by cases x<;>first|exact⟨_,rfl⟩|cases h
seal dj PS PE PT PA PG PI dE dD in
theorem Dv{f fs:LS}{fd fds:Mj}(D:Df K mg "is_text" oG f fd)(DS:Df K mg "is_text_sign" qr fs fds)(T:Txt mg):cV P w K mg base dc 2 f fd ["thing"] (z5 K):=by
 obtain⟨tc,I⟩:=T.cText;have GS:cV P w K mg base dc 1 fs fds ["sign"] zQ:=LL DS T;have bS:=eI (p:="sign") DS.F λ_ _ _ _ _ _ _=>rfl
 refine D.F.ok Jt (λvs H Q E h=>?_) (λcdv A outer s H vs Q E hr h=>?_)
 ·obtain⟨x,rfl,_⟩:=h;rfl
 ·obtain⟨x,rfl,⟨n,J⟩,U,k⟩:=h;refine⟨_,cU (dP (PW.pt (iw (f9 (fM (dR jb rfl T.isi gG (cP (pv 0) (cP (iF (v:= .ty "str") rfl T.str zr rfl) cQ)))))
    (jc (dU iL (dR vV rfl T.len gf (cP (pv 0) cQ)) (gJ (v:= .int 2000) rfl I ⟨_,rfl⟩) (dH _))))) (cY (dg fN)) dO)
   (cY (dg (dR (nG rfl) rfl T.all oM (cP (fP (own:=1) (caps:=[]) (N:=["sign"]) (N0:=["thing"]) (sc0:=c9 oG) rfl (va (pv 0))
    (λ_ _ _=>dB (i:=0) w9 rfl (Mh rfl)) (λ_ _ _=>fF)
    (λ_ _ _=>dw GS hr rfl DS.m DS.F.kp bS .nil du (cP (pv 0) cQ)) (eM (by decide)) rfl rfl
    dkq rfl dkq dkq rfl dkq) cQ)))),?_⟩;refine⟨_,rfl,x,.ty "str",_,_,rfl,J,.inl ⟨_,rfl,Al J⟩,_,rfl,?_⟩;cases hx:oK x with
  |false=>
   refine dG (dG ?_);have:=k H (cR.refl H);rw[Kt hx] at this;exact this
  |true=>
   obtain⟨z,rfl⟩:=isStr hx;have hz:=U z rfl;have hl:(sizeLine:Nat)=16777216:=Mt;refine df ?_;refine⟨_,rfl,z,rfl,by(clear hx I;lia),_,_,rfl,rfl,_,rfl,?_⟩;by_cases hlen:(2000:Int)<(z.length:Int)
   ·rw[Mb hlen];refine dG ?_;have:=k H (cR.refl H);have e:dX (.str z)=false:=by
     show(decide (z.length<=2000)&&_)=false;rw[LY (by(clear hl hz hx I;lia)),OS]
    rw[e] at this;exact this
   ·rw[LY hlen];refine df ?_;have sz:z.cps.size=z.length:=rfl;refine⟨_,rfl,z,rfl,vT (x:=z) (λi ys H'=>cR H H'/\ys=((z.cps.toList.take i).map λc=>V.bl (eJ c))) (by(clear hlen hx I;lia)) ⟨cR.refl H,rfl⟩ ?_ ?_⟩
    ·rintro i c ys H' N hc ⟨sm,rfl⟩ hN;refine g1 ?_;refine⟨_,rfl,c,rfl,hN _ _ ⟨sm,?_⟩⟩;rw[N2,yS hc,Mf];rfl
    ·rintro ys H' ⟨sm,rfl⟩ _ p hp;refine⟨p,z.cps.toList.map eJ,rfl,cS.of (by rw[cT,MZ (by simp)];simp),?_⟩;have:=k (upd H' p (.lst ((z.cps.toList.take z.cps.size).map λc=>V.bl (eJ c)))) (cR.upd sm hp);have e:dX (.str z)=(z.cps.toList.map eJ).all id:=by
      show(decide (z.length<=2000)&&_)=_;rw[Mb (by(clear hp sz hl hz hx I;lia)),Px,Ru];rfl
     rw[e] at this;exact this
noncomputable def wB(K:Mm):Sp:=λvs H Q _=>∃(x:V) (m:Nat),vs=[x,.int m]/\Known K H x/\fT x/\∀ H',cR H H'->Q (.bl (dA m x)) H'
theorem DJ:dC ["thing","most"] ["thing","most"] (c9 lE):=⟨rfl,rfl,rfl,dkq,rfl,dkq,dkq⟩
theorem Gj{f g:Nat->Nw}(h:∀ c,c<128->f c=g c)(hf:∀ c,f c=true->c<128)(hg:∀ c,g c=true->c<128)(c:Nat):f c=g c:=by
 by_cases I:c<128
 ·exact h c I
 ·cases ef:f c with
  |true=>exact absurd (hf c ef) I
  |false=>
   cases eg:g c with
   |true=>exact absurd (hg c eg) I
   |false=>rfl
theorem Ck{l:LR Nat}(h:l.all (λx=>decide (x<128))=true)(c:Nat)(e:decide (c∈l)=true):c<128:=Nh (List.all_eq_true.mp h c (Nh e))
noncomputable abbrev gx:Str:=LU "abcdefghijklmnopqrstuvwxyz0123456789"
theorem Fh:∀ c:Nat,decide (c∈gx.cps.toList)=dW c:=Gj dkq (Ck dkq) λc h=>jE h
theorem xt(c:Nat):(!(NT (LU "abcdefghijklmnopqrstuvwxyz0123456789") ⟨#[c]⟩ 0 (LU "abcdefghijklmnopqrstuvwxyz0123456789").length 1).isEmpty)=dW c:=by
 rw[PySem.StrLaws.found_one];exact Fh c
seal dj PS PE PT PA PG PI dE dD in
theorem za{f:LS}{fd:Mj}(D:Df K mg "is_small_row" lE f fd)(T:Txt mg):cV P w K mg base dc 1 f fd ["thing","most"] (wB K):=by
 obtain⟨tc,J⟩:=T.cSmall;refine D.F.ok DJ (λvs H Q E h=>?_) (λcdv A outer s H vs Q E hr h=>?_)
 ·obtain⟨x,m,rfl,_⟩:=h;rfl
 ·obtain⟨x,m,rfl,⟨n,aa⟩,ab,k⟩:=h;refine⟨_,cU (dP (PW.pt (iw (f9 (fM (dR jb rfl T.isi gG (cP (pv 0) (cP (iF (v:= .ty "str") rfl T.str zr rfl) cQ)))))
    (iw (dU kh (dR vV rfl T.len gf (cP (pv 0) cQ)) cX (dH _))
    (jc (dU iL (dR vV rfl T.len gf (cP (pv 0) cQ)) (pv 1) (dH _)))))) (cY (dg fN)) dO)
   (cY (dg (dR (nG rfl) rfl T.all oM (cP (fP (own:=1) (caps:=[]) (N:=["sign"]) (N0:=["thing","most"]) (sc0:=c9 lE) rfl (va (pv 0))
    (λ_ _ _=>dB (i:=0) w9 rfl (Mh rfl)) (λ_ _ _=>fF)
    (λ_ _ _=>jq Fw (pv 0) (gJ (v:= .str (LU "abcdefghijklmnopqrstuvwxyz0123456789")) rfl J ⟨_,rfl⟩) rfl) (eM (by decide)) rfl rfl
    dkq rfl dkq dkq rfl dkq) cQ)))),?_⟩;refine⟨_,rfl,x,.ty "str",_,_,rfl,aa,.inl ⟨_,rfl,Al aa⟩,_,rfl,?_⟩;have U:=k H (cR.refl H);cases hx:oK x with
  |false=>
   rw[KP hx] at U;exact dG (dG U)
  |true=>
   obtain⟨z,rfl⟩:=isStr hx;have hz:=ab z rfl;have hl:(sizeLine:Nat)=16777216:=Mt;have I:dA m (.str z)=(decide (1<=z.length)&&decide (z.length<=m)&&z.cps.toList.all dW):=rfl;refine df ?_;refine⟨_,rfl,z,rfl,by(clear I hx J;lia),_,_,rfl,rfl,_,rfl,?_⟩;by_cases h1:(z.length:Int)<1
   ·rw[Mb h1];rw[I,LY (by(clear I hl hz hx J;lia)),OS,OS] at U;exact dG (dG U)
   ·rw[LY h1];refine df ⟨_,rfl,z,rfl,by(clear h1 I hx J;lia),_,rfl,_,_,rfl,rfl,_,rfl,?_⟩;by_cases hlen:(m:Int)<(z.length:Int)
    ·rw[Mb hlen];rw[I,LY (show ¬ z.length<=m by(clear h1 I hl hz hx J;lia)),PV,OS] at U;exact dG U
    ·rw[LY hlen];refine df ?_;have sz:z.cps.size=z.length:=rfl;refine⟨_,rfl,z,rfl,vT (x:=z) (λi ys H'=>cR H H'/\ys=((z.cps.toList.take i).map λc=>V.bl (dW c))) (by(clear hlen h1 I hx J;lia)) ⟨cR.refl H,rfl⟩ ?_ ?_⟩
     ·rintro i c ys H' N hc ⟨sm,rfl⟩ hN;refine g1 ?_;refine⟨_,rfl,_,_,rfl,rfl,hN _ _ ⟨sm,?_⟩⟩;rw[xt,N2,yS hc,Mf];rfl
     ·rintro ys H' ⟨sm,rfl⟩ _ p hp;refine⟨p,z.cps.toList.map dW,rfl,cS.of (by rw[cT,MZ (by simp)];simp),?_⟩;have:=k (upd H' p (.lst ((z.cps.toList.take z.cps.size).map λc=>V.bl (dW c)))) (cR.upd sm hp);have e:dA m (.str z)=(z.cps.toList.map dW).all id:=by
       rw[I,Mb (by(clear hp sz hlen I hl hz hx J;lia)),Mb (by(clear hp sz h1 I hl hz hx J;lia)),Px,Px,Ru];rfl
      rw[e] at this;exact this
noncomputable def m8(K:Mm)(m:Nat):Sp:=λvs H Q _=>∃ x,vs=[x]/\Known K H x/\fT x/\∀ H',cR H H'->Q (.bl (dA m x)) H'
theorem J5:dC ["thing"] ["thing"] (c9 lR):=⟨rfl,rfl,rfl,dkq,rfl,dkq,dkq⟩
theorem Dp:dC ["thing"] ["thing"] (c9 qB):=⟨rfl,rfl,rfl,dkq,rfl,dkq,dkq⟩
seal dj PS PE PT PA PG PI dE dD in
theorem KR{f fr:LS}{fd fdr:Mj}(D:Df K mg "is_key" lR f fd)(DR:Df K mg "is_small_row" lE fr fdr)(T:Txt mg):cV P w K mg base dc 2 f fd ["thing"] (m8 K 12):=by
 obtain⟨tc,J⟩:=T.cKey;have U:cV P w K mg base dc 1 fr fdr ["thing","most"] (wB K):=za DR T;have bR:=DR.F.binds (ps:=["thing","most"]) λ_ _ _ _ _ _ us hl=>eO (λ_ _=>rfl) us hl
 refine D.F.ok J5 (λvs H Q E h=>?_) (λcdv A outer s H vs Q E hr h=>?_)
 ·obtain⟨x,rfl,_⟩:=h;rfl
 ·obtain⟨x,rfl,hk,I,k⟩:=h;refine⟨_,cY (dg (dw U hr rfl DR.m DR.F.kp bR .nil du (cP (pv 0) (cP (gJ (v:= .int 12) rfl J ⟨_,rfl⟩) cQ)))),?_⟩;exact⟨_,rfl,x,12,rfl,hk,I,k⟩
seal dj PS PE PT PA PG PI dE dD in
theorem Lg{f fr:LS}{fd fdr:Mj}(D:Df K mg "is_word" qB f fd)(DR:Df K mg "is_small_row" lE fr fdr)(T:Txt mg):cV P w K mg base dc 2 f fd ["thing"] (m8 K 2000):=by
 obtain⟨tc,J⟩:=T.cWord;have U:cV P w K mg base dc 1 fr fdr ["thing","most"] (wB K):=za DR T;have bR:=DR.F.binds (ps:=["thing","most"]) λ_ _ _ _ _ _ us hl=>eO (λ_ _=>rfl) us hl
 refine D.F.ok Dp (λvs H Q E h=>?_) (λcdv A outer s H vs Q E hr h=>?_)
 ·obtain⟨x,rfl,_⟩:=h;rfl
 ·obtain⟨x,rfl,hk,I,k⟩:=h;refine⟨_,cY (dg (dw U hr rfl DR.m DR.F.kp bR .nil du (cP (pv 0) (cP (gJ (v:= .int 2000) rfl J ⟨_,rfl⟩) cQ)))),?_⟩;exact⟨_,rfl,x,2000,rfl,hk,I,k⟩
noncomputable def jQ(K:Mm)(p:V->Nw)(C:LS):Sp:=λvs H Q E=>∃ x,vs=[x]/\Known K H x/\fT x/\(p x=true->∀ H',cR H H'->Q x H')/\(p x=false->∀ H',cR H H'->E (.ref C) none H')
theorem Eu:dC ["thing"] ["thing"] (c9 lC):=⟨rfl,rfl,rfl,dkq,rfl,dkq,dkq⟩
theorem DV:dC ["thing"] ["thing"] (c9 mY):=⟨rfl,rfl,rfl,dkq,rfl,dkq,dkq⟩
theorem Hv:dC ["thing"] ["thing"] (c9 qg):=⟨rfl,rfl,rfl,dkq,rfl,dkq,dkq⟩
seal dj PS PE PT PA PG PI dE dD in
theorem EG{f ft C:LS}{fd fdt:Mj}(D:Df K mg "need_text" lC f fd)(DT:Df K mg "is_text" oG ft fdt)(X:Ex K mg "BadText" C)(GT:cV P w K mg base dc 2 ft fdt ["thing"] (z5 K)):cV P w K mg base (dz P w) 3 f fd ["thing"] (jQ K dX C):=by
 have U:=eI (p:="thing") DT.F λ_ _ _ _ _ _ _=>rfl
 refine D.F.ok1 Eu (λvs H Q E h=>?_) (λcdv A outer s H vs Q E hr h=>?_)
 ·obtain⟨x,rfl,_⟩:=h;rfl
 ·obtain⟨x,rfl,hk,I,k1,k2⟩:=h;refine⟨_,cU (dP (f9 (fM (dw GT hr rfl DT.m DT.F.kp U .nil du (cP (pv 0) cQ)))) (cY (ji rfl X.q Na dkq Na rfl X.m (cP dq cQ) jm)) dO)
   (cY (dg (pv 0))),?_⟩;refine⟨_,rfl,x,rfl,hk,I,λH' J=>⟨_,rfl,?_⟩⟩;cases hx:dX x with
  |false=>exact dG ⟨by show 1<=sizeLine;decide,k2 hx H' J⟩
  |true=>exact df ⟨_,rfl,k1 hx H' J⟩
seal dj PS PE PT PA PG PI dE dD in
theorem Cv{f ft C:LS}{fd fdt:Mj}(D:Df K mg "need_key" mY f fd)(DT:Df K mg "is_key" lR ft fdt)(X:Ex K mg "BadKey" C)(GT:cV P w K mg base dc 2 ft fdt ["thing"] (m8 K 12)):cV P w K mg base (dz P w) 3 f fd ["thing"] (jQ K (dA 12) C):=by
 have U:=eI (p:="thing") DT.F λ_ _ _ _ _ _ _=>rfl
 refine D.F.ok1 DV (λvs H Q E h=>?_) (λcdv A outer s H vs Q E hr h=>?_)
 ·obtain⟨x,rfl,_⟩:=h;rfl
 ·obtain⟨x,rfl,hk,I,k1,k2⟩:=h;refine⟨_,cU (dP (f9 (fM (dw GT hr rfl DT.m DT.F.kp U .nil du (cP (pv 0) cQ)))) (cY (ji rfl X.q Na dkq Na rfl X.m (cP dq cQ) jm)) dO)
   (cY (dg (pv 0))),?_⟩;refine⟨_,rfl,x,rfl,hk,I,λH' J=>⟨_,rfl,?_⟩⟩;cases hx:dA 12 x with
  |false=>exact dG ⟨by show 1<=sizeLine;decide,k2 hx H' J⟩
  |true=>exact df ⟨_,rfl,k1 hx H' J⟩
seal dj PS PE PT PA PG PI dE dD in
theorem C5{f ft C:LS}{fd fdt:Mj}(D:Df K mg "need_word" qg f fd)(DT:Df K mg "is_word" qB ft fdt)(X:Ex K mg "BadWord" C)(GT:cV P w K mg base dc 2 ft fdt ["thing"] (m8 K 2000)):cV P w K mg base (dz P w) 3 f fd ["thing"] (jQ K (dA 2000) C):=by
 have U:=eI (p:="thing") DT.F λ_ _ _ _ _ _ _=>rfl
 refine D.F.ok1 Hv (λvs H Q E h=>?_) (λcdv A outer s H vs Q E hr h=>?_)
 ·obtain⟨x,rfl,_⟩:=h;rfl
 ·obtain⟨x,rfl,hk,I,k1,k2⟩:=h;refine⟨_,cU (dP (f9 (fM (dw GT hr rfl DT.m DT.F.kp U .nil du (cP (pv 0) cQ)))) (cY (ji rfl X.q Na dkq Na rfl X.m (cP dq cQ) jm)) dO)
   (cY (dg (pv 0))),?_⟩;refine⟨_,rfl,x,rfl,hk,I,λH' J=>⟨_,rfl,?_⟩⟩;cases hx:dA 2000 x with
  |false=>exact dG ⟨by show 1<=sizeLine;decide,k2 hx H' J⟩
  |true=>exact df ⟨_,rfl,k1 hx H' J⟩
theorem AA:dC ["thing","least","most"] ["thing","least","most"] (c9 kq):=⟨rfl,rfl,rfl,dkq,rfl,dkq,dkq⟩
seal dj PS PE PT PA PG PI dE dD in
theorem HP{f fw C:LS}{fd fdw:Mj}(D:gS K mg "need_number" kq f fd #[.none])(DW:Df K mg "is_whole" ke fw fdw)(X:Ex K mg "BadNumber" C)(T:Txt mg):cV P w K mg base (dz P w) 2 f fd ["thing","least","most"] (vk K C):=by
 have I:cV P w K mg base dc 1 fw fdw ["thing"] (oB K):=oT DW T
 have J:=eI (p:="thing") DW.F λ_ _ _ _ _ _ _=>rfl
 refine D.ok1 AA (λvs H Q E h=>?_) (λcdv A outer s H vs Q E U h=>?_)
 ·obtain⟨x,l,m,rfl,_⟩:=h;rfl
 ·obtain⟨x,l,m,rfl,hk,k1,k2⟩:=h;refine⟨_,cU (dP (f9 (fM (dw I U rfl DW.m DW.F.kp J .nil du (cP (pv 0) cQ)))) (cY (ji rfl X.q Na dkq Na rfl X.m (cP dq cQ) jm)) dO)
   (cU (dP (dU kh (pv 0) (pv 1) (dH _)) (cY (ji rfl X.q Na dkq Na rfl X.m (cP dq cQ) jm)) dO)
   (cU (dP (PW.pt (mj (iZ (wW (pv 2))) (lT (dU iL (pv 0) (pv 2) (dH _))))) (cY (ji rfl X.q Na dkq Na rfl X.m (cP dq cQ) jm)) dO)
   (cY (dg (pv 0))))),?_⟩;refine⟨_,rfl,x,rfl,hk,_,rfl,?_⟩;cases hx:pZ x && !qY x with
  |false=>
   refine dG ⟨by show 1<=sizeLine;decide,k2 ?_⟩;cases x<;>first|rfl|cases hx
  |true=>
   obtain⟨i,rfl⟩:∃ i,x= .int i:=by cases x<;>first|exact⟨_,rfl⟩|cases hx
   refine df ?_;refine⟨_,rfl,_,rfl,_,_,rfl,rfl,_,rfl,?_⟩;by_cases hl:i<l
   ·rw[Mb hl];refine dG ⟨by show 1<=sizeLine;decide,k2 ?_⟩;show(decide (l<=i)&&_)=false;rw[LY (by(clear hx;lia)),OS]
   ·rw[LY hl];refine df ⟨_,rfl,_,rfl,?_⟩;cases m with
    |none=>
     refine df (df ⟨_,rfl,k1 ?_⟩);show(decide (l<=i)&&true)=true;rw[Mb (by(clear hx;lia))];rfl
    |some m=>
     refine dG ⟨_,rfl,_,rfl,_,_,rfl,rfl,_,rfl,?_⟩;by_cases hm:m<i
     ·rw[Mb hm];refine dG ⟨by show 1<=sizeLine;decide,k2 ?_⟩;show(decide (l<=i)&&decide (i<=m))=false;rw[LY (show ¬ i<=m by(clear hl hx;lia)),PV]
     ·rw[LY hm];refine df ⟨_,rfl,k1 ?_⟩;show(decide (l<=i)&&decide (i<=m))=true;rw[Mb (by(clear hm hx;lia)),Mb (by(clear hl hx;lia))];rfl
noncomputable def pC:Sp:=λvs H Q _=>∃ n k:Int,vs=[.int n,.int k]/\0<=k/\k<=1000000/\∀ r:Int,0<=r->r<2147483629->Q (.int r) H
theorem yx:dC ["_law_number_here","_law_k"] ["_law_number_here","_law_k"] (c9 kM):=⟨rfl,rfl,rfl,dkq,rfl,dkq,dkq⟩
seal dj PS PE PT PA PG PI dE dD in
theorem qO{f:LS}{fd:Mj}(D:Df K mg "_law_mixed" kM f fd):cV P w K mg base dc 1 f fd ["_law_number_here","_law_k"] pC:=by
 refine D.F.ok yx (λvs H Q E h=>?_) (λcdv A outer s H vs Q E hr h=>?_)
 ·obtain⟨n,k,rfl,_⟩:=h;rfl
 ·obtain⟨n,k,rfl,h0,h1,U⟩:=h;refine⟨_,cU (di (i:=0) yx.nd rfl (Mh rfl) (de eR (de jg (de eP (de eP (de eR (pv 0) cX) (de jg (de jg cX (pv 1)) (pv 1))) (de jg cX (pv 1))) cX) cX))
   (cY (dg (de eR (de jg (pv 0) (de eP cX (de jg cX (pv 1)))) cX))),?_⟩;refine⟨_,rfl,_,_,rfl,rfl,(by show(0:Int)<2147483647;decide),_,rfl,_,_,rfl,rfl,.inl ⟨by decide,by decide⟩,_,rfl,_,_,rfl,rfl,.inr ⟨by(clear h1;lia),by(clear h0;lia)⟩,_,_,rfl,rfl,_,rfl,_,_,rfl,rfl,.inl ⟨by decide,by decide⟩,_,_,rfl,rfl,
   _,_,rfl,rfl,.inr ⟨by decide,by decide⟩,_,_,rfl,rfl,(by show(0:Int)<2147483647;decide),?_⟩;have I:=Pz ((n%2147483647+7919*k*k+31*k)*48271) (show(2147483647:Int)≠0 by decide);have J:=O1 ((n%2147483647+7919*k*k+31*k)*48271) (show(0:Int)<2147483647 by decide);refine⟨_,rfl,_,rfl,_,_,rfl,rfl,.inl ⟨by decide,by decide⟩,_,_,rfl,rfl,_,_,rfl,rfl,.inl ⟨by(clear J I h1 h0;lia),by(clear J I h1 h0;lia)⟩,_,_,rfl,rfl,(by show(0:Int)<2147483629;decide),?_⟩;exact U _ (Pz _ (by decide)) (O1 _ (by decide))
noncomputable def wH(K:Mm):Sp:=λvs H Q _=>∃(a:LS) (ns:LR Int) (k:Nat),vs=[.ref a,.int k]/\cS K H a (ns.map V.int)/\ns.length<=63/\k<=1000/\∀(r:Int) H',0<=r->r<2147483629->cR H H'->Q (.int r) H'
theorem Ko:dC ["_law_script","_law_k"] ["_law_script","_law_k"] (c9 mX):=⟨rfl,rfl,rfl,dkq,rfl,dkq,dkq⟩
seal dj PS PE PT PA PG PI dE dD in
theorem Jk{f fm:LS}{fd fdm:Mj}(D:Df K mg "_law_number" mX f fd)(DM:Df K mg "_law_mixed" kM fm fdm)(T:Txt mg):cV P w K mg base dc 2 f fd ["_law_script","_law_k"] (wH K):=by
 have GM:cV P w K mg base dc 1 fm fdm ["_law_number_here","_law_k"] pC:=qO DM
 have bM:=DM.F.binds (ps:=["_law_number_here","_law_k"]) λ_ _ _ _ _ _ us hl=>eO (λ_ _=>rfl) us hl
 refine D.F.ok Ko (λvs H Q E h=>?_) (λcdv A outer s H vs Q E hr h=>?_)
 ·obtain⟨a,ns,k,rfl,_⟩:=h;rfl
 ·obtain⟨a,ns,k,rfl,hS,hl,hk,kk⟩:=h;refine⟨_,cU (dP (dU (Ad hr.units100) (pv 0) (dZ cQ) (dH _)) (cY (dg (dw GM hr rfl DM.m DM.F.kp bM .nil du (cP cX (cP (pv 1) cQ))))) dO)
   (cY (dg (dw GM hr rfl DM.m DM.F.kp bM .nil du (cP (eB eY (pv 0) (de eR (pv 1) (dR gZ rfl T.len gf (cP (pv 0) cQ))) (λ_ _=>rfl)) (cP (pv 1) cQ))))),?_⟩;refine⟨_,rfl,MM _,λp J=>?_⟩;have U:cR H (upd H p (.lst [])):=da J;refine⟨.list (ns.map .int),.list [],.lst (U.seq hS) (BS ns),.lst (cS.of cT) .nil,lay_ints ns,rfl,Mr (Nat.min_le_right _ _) (by decide),_,rfl,?_⟩;cases ns with
  |nil=>
   refine dG ?_;exact⟨_,rfl,17,k,rfl,by(clear hl J hk;lia),by(clear hl J;lia),λr r0 r1=>kk r _ r0 r1 U⟩
  |cons n ns=>
   refine df ?_;have hn:(0:Int)<(((n::ns).map V.int).length:Nat):=by simp
   refine⟨_,rfl,_,rfl,_,rfl,_,_,rfl,.inl (U.seq hS),_,_,rfl,rfl,hn,?_⟩;have I:k%(n::ns).length<(n::ns).length:=Nat.mod_lt _ (by simp);have ei:((k:Nat):Int)%((((n::ns).map V.int).length:Nat):Int)=((k%(n::ns).length:Nat):Int):=by rw[LV];(clear I hn hl J hk;lia)
   refine⟨a,_,_,.int ((n::ns)[k%(n::ns).length]),rfl,rfl,U.seq hS,?_,_,rfl,_,k,rfl,by(clear ei I hn hl J hk;lia),by(clear ei I hn hl J;lia),λr r0 r1=>kk r _ r0 r1 U⟩;rw[ei];exact dS (by rw[List.getElem?_map,List.getElem?_eq_getElem I];rfl)
noncomputable def qe(x:Wd):HO:= .tup [.str ⟨x.1.toArray⟩,.int x.2.1,.int x.2.2]
structure WL (H : Hp) (a : LS) (ws : LR Wd) : Prop where
 ex : ∃ ps : LR LS, H a = some (.lst (ps.map V.ref)) /\ MY (λp x => H p = some (qe x)) ps ws
theorem WL.same {H H':Hp}{a:LS}{ws:LR Wd}(h:WL H a ws)(s:cR H H'):WL H' a ws:=by
 obtain⟨ps,e,p⟩:=h.ex;exact⟨ps,s _ _ e,Paired.imp2 p λ_ _ q=>s _ _ q⟩
theorem WL.more {H:Hp}{a t:LS}{ws:LR Wd}{x:Wd}{ps:LR LS}(e:H a=some (.lst (ps.map V.ref)))(p:MY (λp x=>H p=some (qe x)) ps ws)(ht:H t=none):
  WL (upd (upd H t (qe x)) a (.lst (ps.map V.ref++[.ref t]))) a (ws++[x]):=by
 have I:t≠a:=λz=>by rw[z,e] at ht;cases ht
 refine⟨ps++[t],by rw[cT,Mf];rfl,?_⟩;refine Paired.app (Paired.imp2 p λq y h=>?_) (by rw[cW I,cT]);have h1:q≠a:=λz=>by rw[z,e] at h;cases h
 have h2:q≠t:=dF h ht;rw[cW h1,cW h2];exact h
noncomputable def codes(x:Str):LR Nat:=x.cps.toList
noncomputable def Drawn(x:Str):Prop:=x.length<=2000/\(codes x).all eJ=true
theorem toStr(x:Str):(⟨(codes x).toArray⟩:Str)=x:=by unfold codes;simp
theorem qp(a b:LR Nat):(⟨a.toArray⟩:Str)++⟨b.toArray⟩=⟨(a++b).toArray⟩:=by
 show(⟨a.toArray++b.toArray⟩:Str)=_;simp
theorem iY(a:LR Nat):(⟨a.toArray⟩:Str).length=a.length:=by simp[NB]
theorem Jg:LU ""=⟨([]:LR Nat).toArray⟩:=rfl
theorem E5{a b:LR Nat}(h:a.length+b.length<=5000):(⟨a.toArray⟩:Str).length+(⟨b.toArray⟩:Str).length<=sizeLine:=by
 rw[iY,iY,Mt]
 lia
theorem J9(l:LR Nat){a b:Nat}(hab:a<=b)(hb:b<=l.length):Txt.slice ⟨l.toArray⟩ (some (a:Int)) (some (b:Int))=⟨((l.drop a).take (b-a)).toArray⟩:=by
 have h:=PySem.StrLaws.sliceText_nat (⟨l.toArray⟩:Str) hab (by rw[iY];exact hb)
 have e:(⟨l.toArray⟩:Str).cps.toList=l:=by simp
 rw[e] at h;exact h
theorem yI{z:Str}(h:(codes z).all eJ=true):Txt.lower z=⟨((codes z).map K01.lo).toArray⟩:=by
 rw[lower_ascii λc I=>jz (List.all_eq_true.mp h c I)];show(⟨z.cps.map K01.lo⟩:Str)=_
 congr 1
 unfold codes;apply Array.toList_inj.mp;simp
theorem kE{z:Str}(h:dX (.str z)=true):Drawn z:=by
 have h':(decide (z.length<=2000)&&z.cps.toList.all eJ)=true:=h;rw[MO] at h';exact⟨Nh h'.1,h'.2⟩
theorem Dn{z:Str}(h:Drawn z):dX (.str z)=true:=by
 show(decide (z.length<=2000)&&z.cps.toList.all eJ)=true;rw[Mb h.1,Px];exact h.2
noncomputable def xF(K:Mm)(C:LS):Sp:=λvs H Q E=>∃ x,vs=[x]/\Known K H x/\fT x/\(∀ z,x= .str z->Drawn z->∀ a H',cR H H'->H a=none->WL H' a (words (codes z))->Q (.ref a) H')/\(dX x=false->∀ H',cR H H'->E (.ref C) none H')
theorem ma:dC ["text","small","found","begin","place","sign"] ["text"] (c9 pB):=⟨rfl,rfl,rfl,dkq,rfl,dkq,dkq⟩
seal dj PS PE PT PA PG PI dE dD in
theorem C7{f ft C:LS}{fd fdt:Mj}(D:Df K mg "words_in" pB f fd)(DT:Df K mg "need_text" lC ft fdt)(GT:cV P w K mg base (dz P w) 3 ft fdt ["thing"] (jQ K dX C))(T:Txt mg):cV P w K mg base (dz P w) 4 f fd ["text"] (xF K C):=by
 obtain⟨tc,cc⟩:=T.cSmall;have bT:=eI (p:="thing") DT.F λ_ _ _ _ _ _ _=>rfl
 refine D.F.ok1 ma (λvs H Q E h=>?_) (λcdv A outer s H vs Q E hr h=>?_)
 ·obtain⟨x,rfl,_⟩:=h;rfl
 ·obtain⟨x,rfl,hk,aA,k1,k2⟩:=h;have hl:(sizeLine:Nat)=16777216:=Mt;refine⟨_,cU (di (i:=1) ma.nd rfl (Mh rfl) (pQ NZ F.slot_str_lower F.type_str_lower Bf (dw GT hr rfl DT.m DT.F.kp bT .nil (gP (E':=E) (λ_ _ _ h=>h)) (cP (pv 0) cQ))))
   (cU (di (i:=2) ma.nd rfl (Mh rfl) (dZ cQ)) (cU (di (i:=3) ma.nd rfl (Mh rfl) cX)
   (cU (PS.nox (fx MK rfl (Gd rfl T.enum (cP (de kZ (pv 1) dq) cQ)) (ir rfl (fe (dB (i:=4) ma.nd rfl (Mh rfl)) (fe (dB (i:=5) ma.nd rfl (Mh rfl)) il)))
    (cY (dP (dU EF (pv 5) (gJ (v:= .str (LU "abcdefghijklmnopqrstuvwxyz0123456789")) rfl cc ⟨_,rfl⟩) rfl)
     (cU (dP (dU kh (pv 3) (pv 4) (dH _))
      (cY (fv (eV MP MN MS gE (pv 2) (cP (ip (cP (ik jS (pv 1) (gL (pv 3)) (gL (pv 4))) (cP (pv 3) (cP (pv 4) cQ)))) cQ)))) dO)
     (cY (di (i:=3) ma.nd rfl (Mh rfl) (de eP (pv 4) cX)))) dO))))
   (cY (dg (pv 2)))))),?_⟩;refine⟨_,rfl,x,rfl,hk,aA,λht H1 s1=>?_,k2⟩;obtain⟨z,rfl⟩:∃ z,x= .str z:=by cases x<;>first|exact⟨_,rfl⟩|cases ht
  have hd:=kE ht;obtain⟨hlen,hok⟩:=id hd;have J:(codes z).length=z.length:=by unfold codes;simp[NB]
  refine⟨rfl,z,rfl,rfl,by(clear J hok ht hl cc;lia),?_⟩;rw[yI hok];refine⟨MM _,λa ha=>?_⟩;have ah:H a=none:=s1.free ha;refine⟨_,rfl,_,_,rfl,rfl,E5 (b:=[32]) (by simp;(clear ah ha hok ht hl cc;lia)),_,rfl,?_⟩;have ak:(⟨((codes z).map K01.lo).toArray⟩:Str)++LU " "=⟨((codes z).map K01.lo++[32]).toArray⟩:=qp _ [32];rw[ak];have U:fW ((codes z).map K01.lo++[32]) 0 []=words (codes z):=vQ _ 0 [];have hsz:(⟨((codes z).map K01.lo++[32]).toArray⟩:Str).cps.size=z.length+1:=by simp[J]
  refine DE (λi σ H'=>∃(ds:LR Wd) (wd:LR Nat) (b:Nat) (v4 v5:Mc V),σ=[some (.str z),some (.str ⟨((codes z).map K01.lo).toArray⟩),some (.ref a),some (.int b),v4,v5]/\cR H H'/\WL H' a ds/\b+wd.length=i/\
    wd=(((codes z).map K01.lo++[32]).drop b).take wd.length/\ds.length<=i/\i<=z.length+1/\(i=z.length+1->wd=[])/\ds++fW (((codes z).map K01.lo++[32]).drop i) i wd=words (codes z)) ?_ ?_ ?_
  ·exact⟨[],[],0,none,none,rfl,cR.upd s1 ha,⟨[],cT,.nil⟩,rfl,rfl,Ma _,MM _,λ_=>rfl,U⟩
  ·intro i c σ H' t hc hP ab;refine BD λB D' hB ax=>?_
   obtain⟨ds,wd,b,v4,v5,rfl,sm,hW,hb,af,ao,_,aw,heq⟩:=hP;have ai:i<((codes z).map K01.lo++[32]).length:=by
    have:i<(⟨((codes z).map K01.lo++[32]).toArray⟩:Str).cps.size:=(Array.getElem?_eq_some_iff.mp hc).1;simpa using this
   have aj:i<z.length+1:=by simpa[J] using ai
   have ae:((codes z).map K01.lo++[32])[i]? =some c:=by simpa using hc
   have I:((codes z).map K01.lo++[32]).drop i=c::((codes z).map K01.lo++[32]).drop (i+1):=by
    rw[OH ai]
    congr 1
    rw[List.getElem?_eq_getElem ai] at ae;exact Ml ae
   obtain⟨ps,eA,pA⟩:=hW.ex;have aa:=Paired.len pA;have ay:cR H (upd H' t (.tup [.int i,.str ⟨#[c]⟩])):=cR.upd sm ab;have ag:a≠t:=dF eA ab;refine⟨t,_,rfl,dY.of cT,rfl,_,_,rfl,_,_,rfl,rfl,?_⟩;refine uH (R:=B) hB ?_;refine⟨_,rfl,_,_,rfl,rfl,_,rfl,?_⟩;rw[xt];cases hS:dW c with
   |true=>
    refine df ?_;refine ax _ _ ⟨ds,wd++[c],b,_,_,rfl,ay,hW.same (da ab),by simp;(clear hS ag aa eA I ae aj ai ab heq ao af hc hsz U ak ah ha J hok hlen ht hl cc;lia),?_,by(clear hS ag aa eA I ae aj ai ab heq af hb hc hsz U ak ah ha J hok hlen ht hl cc;lia),by(clear hS ag aa eA I ae ai ab heq ao af hb hc hsz U ak ah ha J hok hlen ht hl cc;lia),λe=>?_,?_⟩
    ·have hg:(((codes z).map K01.lo++[32]).drop b)[wd.length]? =some c:=by rw[List.getElem?_drop,hb];exact ae
     rw[Md,List.length_singleton,N2,<-af,hg];rfl
    ·have e':i=((codes z).map K01.lo).length:=by rw[LV,J];(clear hS ag aa eA I ae aj ai ab heq ao af hb hc hsz U ak ah ha J hok hlen ht hl cc;lia)
     rw[e',List.getElem?_append_right (Ma _),Nat.sub_self] at ae;have:c=32:=by simpa using ae.symm
     rw[this] at hS;exact absurd hS (by decide)
    ·rw[I,mq hS] at heq;exact heq
   |false=>
    refine dG ?_;rw[I,kX hS,<-Nc] at heq;refine⟨_,rfl,_,rfl,_,_,rfl,rfl,_,rfl,?_⟩;by_cases au:b<i
    ·rw[Mb (by(clear hS ag aa eA I ae aj ai ab heq ao af hb hc hsz U ak ah ha J hok hlen ht hl cc;lia))];refine dG ?_;have aq:wd≠[]:=λe=>by rw[e] at hb;simp at hb;(clear e hS ag aa eA I ae aj ai ab heq ao af hc hsz U ak ah ha J hok hlen ht hl cc;lia)
     refine⟨_,rfl,.inl ⟨rfl,_,cS.of (by rw[cW ag];exact eA)⟩,_,rfl,_,rfl,_,rfl,_,rfl,_,rfl,_,rfl,by rw[iY,LV];(clear aq au hS ag aa eA I ae aj ai ab heq ao af hb hc hsz U ak ah ha hok ht cc;lia),?_⟩;rw[J9 _ (by(clear aq au hS ag aa eA I ae aj ai ab heq ao af hc hsz U ak ah ha J hok hlen ht hl cc;lia)) (by rw[LV];(clear aq au hS ag aa eA I ae ai ab heq ao af hb hc hsz U ak ah ha hok hlen ht hl cc;lia))];refine⟨_,rfl,_,rfl,(by show 3<=sizeLine;decide),λt2 av=>?_⟩;have ar:a≠t2:=dF (show upd H' t (.tup [.int i,.str ⟨#[c]⟩]) a=some (.lst (ps.map V.ref)) by rw[cW ag];exact eA) av;refine⟨a,_,_,rfl,rfl,by rw[cW ar,cW ag];exact eA,by simp;(clear ar av aq au hS ag eA I ae aj ai ab heq af hb hc hsz U ak ah ha J hok ht cc;lia),?_⟩;have ew:((((codes z).map K01.lo).drop b).take (i-b))=wd:=by
      have e1:wd.length=i-b:=by(clear ar av aq au hS ag aa eA I ae aj ai ab heq ao af hc hsz U ak ah ha J hok hlen ht hl cc;lia)
      rw[e1,List.drop_append_of_le_length (by rw[LV];(clear e1 ar av aq au hS ag aa eA I ae ai ab heq ao af hc hsz U ak ah ha hok hlen ht hl cc;lia)),List.take_append_of_le_length (by rw[NJ,LV];(clear e1 ar av aq au hS ag aa eA I ae ai ab heq ao af hb hc hsz U ak ah ha hok hlen ht hl cc;lia))] at af;exact af.symm
     rw[ew];refine⟨_,rfl,_,_,rfl,rfl,?_⟩;have et:HO.tup [V.str ⟨wd.toArray⟩,V.int (b:Int),V.int (i:Int)]=qe (wd,i-wd.length,i):=by
      unfold qe;show HO.tup [_,V.int ((b:Nat):Int),_]=HO.tup [_,V.int ((i-wd.length:Nat):Int),_];rw[show b=i-wd.length by(clear ew ar av aq au hS ag aa eA I ae aj ai ab heq ao af hc hsz U ak ah ha J hok hlen ht hl cc;lia)]
     rw[et];have az:flush i wd=[(wd,i-wd.length,i)]:=by unfold flush;rw[LX aq]
     rw[az] at heq;refine ax _ _ ⟨ds++[(wd,i-wd.length,i)],[],i+1,_,_,rfl,EX ay ah av,WL.more (by rw[cW ag];exact eA) (Paired.imp2 pA λp y q=>by rw[cW (dF q ab)];exact q) av,by simp,by simp,by simp;(clear az et ew ar av aq au hS ag aa eA I ae aj ai ab heq af hb hc hsz U ak ah ha J hok hlen ht hl cc;lia),by(clear az et ew ar av aq au hS ag aa eA I ae ai ab heq ao af hb hc hsz U ak ah ha J hok hlen ht hl cc;lia),λ_=>rfl,heq⟩
    ·rw[LY (by(clear hS ag aa eA I ae aj ai ab heq ao af hb hc hsz U ak ah ha J hok hlen ht hl cc;lia))];refine df ?_;have aq:wd=[]:=List.eq_nil_of_length_eq_zero (by(clear hS ag aa eA I ae aj ai ab heq ao af hc hsz U ak ah ha J hok hlen ht hl cc;lia));subst aq;refine⟨_,rfl,_,_,rfl,rfl,?_⟩;refine ax _ _ ⟨ds,[],i+1,_,_,rfl,ay,hW.same (da ab),by simp,by simp,by(clear heq af hb au hS ag aa eA I ae aj ai ab hc hsz U ak ah ha J hok hlen ht hl cc;lia),by(clear heq af hb au hS ag aa eA I ae ai ab ao hc hsz U ak ah ha J hok hlen ht hl cc;lia),λ_=>rfl,?_⟩;simpa[flush] using heq
  ·rintro σ H' ⟨ds,wd,b,v4,v5,rfl,sm,hW,hb,af,ao,aB,aw,heq⟩;rw[hsz] at aw heq;have aq:=aw rfl;subst aq;rw[P2 (by simp[J])] at heq;have e:ds=words (codes z):=by simpa[fW,flush] using heq
   subst e;exact⟨_,rfl,k1 z rfl hd a H' sm ah hW⟩
noncomputable def pI(ws:LR Wd):LR V:=ws.map λx=> .str ⟨x.1.toArray⟩
noncomputable def xr(K:Mm)(C:LS):Sp:=λvs H Q E=>∃ x,vs=[x]/\Known K H x/\fT x/\(∀ z,x= .str z->Drawn z->∀ a H',cR H H'->H a=none->H' a=some (.lst (pI (words (codes z))))->Q (.ref a) H')/\(dX x=false->∀ H',cR H H'->E (.ref C) none H')
theorem Js:dC ["text"] ["text"] (c9 m9):=⟨rfl,rfl,rfl,dkq,rfl,dkq,dkq⟩
theorem vB:(["word","begin","end"]:LR Str).Nodup:=dkq
seal dj PS PE PT PA PG PI dE dD in
theorem EN{f ft C:LS}{fd fdt:Mj}(D:Df K mg "plain_words" m9 f fd)(DT:Df K mg "words_in" pB ft fdt)(GT:cV P w K mg base (dz P w) 4 ft fdt ["text"] (xF K C)):cV P w K mg base (dz P w) 5 f fd ["text"] (xr K C):=by
 have bT:=eI (p:="text") DT.F λ_ _ _ _ _ _ _=>rfl
 refine D.F.ok1 Js (λvs H Q E h=>?_) (λcdv A outer s H vs Q E hr h=>?_)
 ·obtain⟨x,rfl,_⟩:=h;rfl
 ·obtain⟨x,rfl,hk,J,k1,k2⟩:=h;have hl:(sizeLine:Nat)=16777216:=Mt;refine⟨_,cY (dg (fP (own:=3) (caps:=[]) (N:=["word","begin","end"]) (N0:=["text"]) (sc0:=c9 m9) rfl (eZ (dw GT hr rfl DT.m DT.F.kp bT .nil (gP (E':=E) (λ_ _ _ h=>h)) (cP (pv 0) cQ)))
    (λ_ _ _=>ir (n:=3) rfl (fe (dB (i:=0) vB rfl (Mh rfl)) (fe (dB (i:=1) vB rfl (Mh rfl)) (fe (dB (i:=2) vB rfl (Mh rfl)) il)))) (λ_ _ _=>fF)
    (λ_ _ _=>pv 0) (oO (iX (eM (by decide)) (iX (eM (by decide)) (iX (eM (by decide)) nB)))) rfl rfl
    dkq rfl dkq dkq rfl dkq)),?_⟩;refine⟨_,rfl,x,rfl,hk,J,?_,k2⟩;rintro z rfl hd a H1 s1 ha hW;obtain⟨ps,eA,pA⟩:=hW.ex;have aa:=B9 (codes z);have af:=Paired.len pA;have U:(codes z).length=z.length:=by unfold codes;simp[NB]
  have ab:=hd.1;refine⟨a,rfl,⟨_,cS.of eA⟩,gC (xs:=ps.map V.ref) (λi ys H'=>H'=H1/\ys=pI ((words (codes z)).take i)) (by rw[LV];(clear eA ha;lia)) (λi ys H' p=>by rw[p.1];exact cS.of eA) ⟨rfl,rfl⟩ ?_ ?_⟩
  ·rintro i x ys H' N hx ⟨rfl,rfl⟩ hN;rw[List.getElem?_map] at hx;cases I:ps[i]? with
   |none=>rw[I] at hx;cases hx
   |some p=>
    rw[I] at hx;have ae:x= .ref p:=(Ml hx).symm;subst ae;obtain⟨y,hy,hH⟩:=fX pA I;refine⟨p,_,rfl,dY.of hH,rfl,_,_,rfl,_,_,rfl,_,_,rfl,rfl,qa ?_⟩;refine⟨_,rfl,hN _ _ ⟨rfl,?_⟩⟩;unfold pI;rw[N2,hy,Mf];rfl
  ·rintro ys H' ⟨rfl,rfl⟩ _ p I;refine k1 z rfl hd p _ (cR.upd s1 I) (s1.free I) ?_;rw[cT,LV,MZ (by(clear I eA ab U aa ha hl;lia))]
noncomputable abbrev nl(ns:LR Nat):LR V:=ns.map λ(n:Nat)=>V.int (n:Int)
theorem ie(a b:LR Nat):nl (a++b)=nl a++nl b:=Mf
theorem fD(a:LR Nat):(nl a).length=a.length:=LV _
noncomputable def zg:Sp:=λvs H Q _=>∃(a:LS) (ps:LR Nat),vs=[.ref a]/\H a=some (.lst (nl ps))/\(∀ p∈ps,p<=255)/\Q (.ref a) H
theorem yo:dC ["thing","part"] ["thing"] (c9 qd):=⟨rfl,rfl,rfl,dkq,rfl,dkq,dkq⟩
theorem rQ{H:Hp}(n:Int):Known K H (.int n):=⟨_,.int n⟩
theorem jx{ns:LR Nat}{i:Nat}{x:V}(h:(nl ns)[i]? =some x):∃ c,ns[i]? =some c/\x= .int (c:Int):=by
 unfold nl at h;rw[List.getElem?_map] at h;cases hp:ns[i]? with
 |none=>rw[hp] at h;cases h
 |some c=>rw[hp] at h;exact⟨c,rfl,(Ml h).symm⟩
seal dj PS PE PT PA PG PI dE dD in
theorem Dd{f fw:LS}{fd fdw:Mj}(D:Df K mg "need_parts" qd f fd)(DW:Df K mg "is_whole" ke fw fdw)(T:Txt mg):cV P w K mg base dc 2 f fd ["thing"] zg:=by
 obtain⟨tg,cg⟩:=T.cGreat;have GW:cV P w K mg base dc 1 fw fdw ["thing"] (oB K):=oT DW T;have bW:=eI (p:="thing") DW.F λ_ _ _ _ _ _ _=>rfl
 refine D.F.ok yo (λvs H Q E h=>?_) (λcdv A outer s H vs Q E hr h=>?_)
 ·obtain⟨a,ps,rfl,_⟩:=h;rfl
 ·obtain⟨a,ps,rfl,I,J,k⟩:=h;refine⟨_,cU (dP (f9 (fM (dR jb rfl T.isi gG (cP (pv 0) (cP (iF (v:= .ty "list") rfl T.list jL rfl) cQ))))) (cY jj) dO)
   (cU (fx MK rfl (eZ (pv 0)) (dB (i:=1) yo.nd rfl (Mh rfl))
    (cY (dP (PW.pt (iw (f9 (fM (dw GW hr rfl DW.m DW.F.kp bW .nil du (cP (pv 1) cQ)))) (iw (dU kh (pv 1) cX (dH _)) (jc (dU iL (pv 1) (gJ (v:= .int 255) rfl cg ⟨_,rfl⟩) (dH _)))))) (cY jj) dO)))
   (cY (dg (pv 0)))),?_⟩;refine⟨_,rfl,.ref a,.ty "list",_,true,rfl,.lst I,.inl ⟨_,rfl,sv⟩,_,rfl,df ?_⟩;refine⟨_,rfl,a,rfl,⟨_,cS.of I⟩,?_⟩;refine iW (xs:=nl ps) (λi σ H'=>H'=H/\∃ o,σ=[some (.ref a),o]) ?_ ?_ ?_ ?_
  ·exact⟨rfl,none,rfl⟩
  ·rintro i σ H' _ ⟨rfl,_⟩;exact cS.of I
  ·rintro i x σ H' U ⟨rfl,o,rfl⟩;obtain⟨c,hc,rfl⟩:=jx U;have aa:=J c (List.mem_of_getElem? hc);refine⟨_,rfl,.int c,rfl,rQ _,_,rfl,df ?_⟩;refine⟨_,rfl,_,_,rfl,rfl,_,rfl,?_⟩;rw[LY (by lia)];refine df ⟨_,rfl,_,_,rfl,rfl,_,rfl,?_⟩;rw[LY (by lia)];exact df ⟨rfl,_,rfl⟩
  ·rintro σ H' ⟨rfl,o,rfl⟩;exact⟨_,rfl,k⟩
noncomputable def yE:Sp:=λvs H Q _=>∃(a:LS) (ns:LR Nat),vs=[.ref a]/\H a=some (.lst (nl (pk ns)))/\ns.length<=9000/\∀ p H',cR H H'->H p=none->H' p=some (.lst (nl ns))->Q (.ref p) H'
theorem jZ:dC ["parts","numbers","number","weight","part"] ["parts"] (c9 pj):=⟨rfl,rfl,rfl,dkq,rfl,dkq,dkq⟩
seal dj PS PE PT PA PG PI dE dD in
theorem Fq{f fp:LS}{fd fdp:Mj}(D:Df K mg "unpacked" pj f fd)(DP:Df K mg "need_parts" qd fp fdp)(GP:cV P w K mg base dc 2 fp fdp ["thing"] zg)(T:Txt mg):cV P w K mg base dc 3 f fd ["parts"] yE:=by
 obtain⟨tm,cm⟩:=T.cMore;have bP:=eI (p:="thing") DP.F λ_ _ _ _ _ _ _=>rfl
 refine D.F.ok jZ (λvs H Q E h=>?_) (λcdv A outer s H vs Q E hr h=>?_)
 ·obtain⟨a,ns,rfl,_⟩:=h;rfl
 ·obtain⟨a,ns,rfl,hA,hlen,k⟩:=h;have hl:(sizeLine:Nat)=16777216:=Mt;refine⟨_,cU (di (i:=1) jZ.nd rfl (Mh rfl) (dZ cQ))
   (cU (di (i:=2) jZ.nd rfl (Mh rfl) cX)
   (cU (di (i:=3) jZ.nd rfl (Mh rfl) cX)
   (cU (fx MK rfl (eZ (dw GP hr rfl DP.m DP.F.kp bP .nil du (cP (pv 0) cQ))) (dB (i:=4) jZ.nd rfl (Mh rfl))
    (cU (uq (i:=2) jZ.nd rfl (Mh rfl) (de jg (de eR (pv 4) (gJ (v:= .int 128) rfl cm ⟨_,rfl⟩)) (pv 3)) zh)
    (cY (dP (dU wO (pv 4) (gJ (v:= .int 128) rfl cm ⟨_,rfl⟩) (dH _))
     (cY (di (i:=3) jZ.nd rfl (Mh rfl) (de jg (pv 3) (gJ (v:= .int 128) rfl cm ⟨_,rfl⟩))))
     (cU (dP (PW.pt (mj (dU fV (pv 4) cX (dH _)) (lT (dU iL (pv 3) cX (dH _))))) (cY jj) dO)
     (cU (fv (eV MP MN MS gE (pv 1) (cP (pv 2) cQ)))
     (cU (di (i:=2) jZ.nd rfl (Mh rfl) cX)
     (cY (di (i:=3) jZ.nd rfl (Mh rfl) cX)))))))))
   (cU (dP (dU iL (pv 3) cX (dH _)) (cY jj) dO)
   (cY (dg (pv 1))))))),?_⟩;refine⟨(by show 0<=sizeLine;decide),λp hp=>?_⟩;have U:a≠p:=dF hA hp;refine⟨_,rfl,a,pk ns,rfl,(by rw[cW U];exact hA),Ht ns,a,rfl,⟨_,cS.of (by rw[cW U];exact hA)⟩,?_⟩;refine iW (xs:=nl (pk ns)) (λi σ H'=>∃(done:LR Nat) (num I:Nat) (o:Mc V),σ=[some (.ref a),some (.ref p),some (.int num),some (.int I),o]/\H'=upd H p (.lst (nl done))/\Rd ns ((pk ns).drop i) done num I) ?_ ?_ ?_ ?_
  ·exact⟨[],0,1,none,rfl,rfl,Rd.start ns⟩
  ·rintro i σ H' _ ⟨done,num,I,o,_,rfl,_⟩;exact cS.of (by rw[cW U];exact hA)
  ·rintro i x σ H' ab ⟨done,num,I,o,rfl,rfl,hR⟩;obtain⟨c,hc,rfl⟩:=jx ab;have hd:(pk ns).drop i=c::(pk ns).drop (i+1):=by
    obtain⟨hi,e⟩:=List.getElem?_eq_some_iff.mp hc;rw[OH hi,e]
   rw[hd] at hR;have af:=hR.len;have e1:(c:Int)%128=((c%128:Nat):Int):=by lia
   refine⟨_,rfl,_,rfl,_,_,rfl,rfl,(by show(0:Int)<128;decide),_,rfl,_,_,rfl,rfl,.inl (by rw[e1];constructor<;>lia),_,_,rfl,rfl,?_⟩;have e2:(num:Int)+(c:Int)%128*(I:Int)=((num+c%128*I:Nat):Int):=by rw[e1,Int.natCast_add,Int.natCast_mul]
   refine⟨_,rfl,_,_,rfl,rfl,_,rfl,?_⟩;by_cases J:(128:Int)<=c
   ·rw[Mb J];refine dG ?_;refine⟨_,rfl,_,_,rfl,rfl,.inr ⟨by decide,by decide⟩,done,num+c%128*I,I*128,some (.int c),?_,rfl,hR.more (by lia)⟩;simp only[List.set];rw[e2,Int.natCast_mul];rfl
   ·rw[LY J];refine df ?_;obtain⟨hz,aa⟩:=hR.last (c:=c) (by lia);refine⟨_,rfl,rfl,_,rfl,?_⟩;have e3:nl done++[V.int ((num:Int)+(c:Int)%128*(I:Int))]=nl (done++[num+c%128*I]):=by rw[ie,e2];rfl
    by_cases h0:c=0
    ·rw[LO (by lia)];refine dG ⟨_,rfl,_,_,rfl,rfl,_,rfl,?_⟩;rw[LY (by lia)];refine df ?_;refine⟨_,rfl,.inl ⟨rfl,_,cS.of cT⟩,_,rfl,p,_,_,rfl,rfl,cT,(by rw[fD];lia),done++[num+c%128*I],0,1,_,rfl,?_,aa⟩;rw[mf];exact Nl (λz=>upd H p (.lst z)) e3
    ·rw[AI (by lia)];refine df (df ?_);refine⟨_,rfl,.inl ⟨rfl,_,cS.of cT⟩,_,rfl,p,_,_,rfl,rfl,cT,(by rw[fD];lia),done++[num+c%128*I],0,1,_,rfl,?_,aa⟩;rw[mf];exact Nl (λz=>upd H p (.lst z)) e3
  ·rintro σ H' ⟨done,num,I,o,rfl,rfl,hR⟩;rw[fD,Oh] at hR;obtain⟨hw,ae⟩:=hR.done;subst hw ae;refine⟨_,rfl,_,_,rfl,rfl,_,rfl,?_⟩;rw[LY (by decide)];exact df ⟨_,rfl,k p _ (da hp) hp cT⟩
theorem Dt(n:Nat):(ND n true).all id=true:=List.all_eq_true.mpr λb hb=>Py hb
theorem lj{α:Type}{xs:LR α}{i:Nat}{x:α}(h:xs[i]? =some x):xs.drop i=x::xs.drop (i+1):=by
 obtain⟨hi,e⟩:=List.getElem?_eq_some_iff.mp h;rw[OH hi,e]
noncomputable def Gp(ns done:LR Nat)(l:Nat)(rest:LR Nat):Prop:=fH 0 ns=done++fH l rest/\iC l rest
theorem Gp.step {ns done:LR Nat}{l n:Nat}{r:LR Nat}(h:Gp ns done l (n::r)):l<=n/\Gp ns (done++[n-l]) (n+1) r:=by
 obtain⟨e,h⟩:=h;refine⟨h.1,?_,h.2⟩;rw[e,Nc];rfl
noncomputable def xc:Sp:=λvs H Q _=>∃(a:LS) (I:LR Nat),vs=[.ref a]/\H a=some (.lst (nl I))/\I.length<=9000/\∀ p H',cR H H'->H p=none->H' p=some (.lst (nl (nums 0 I)))->Q (.ref p) H'
theorem qu:dC ["gaps","numbers","least","gap"] ["gaps"] (c9 qC):=⟨rfl,rfl,rfl,dkq,rfl,dkq,dkq⟩
seal dj PS PE PT PA PG PI dE dD in
theorem LQ{f:LS}{fd:Mj}(D:Df K mg "numbers_by" qC f fd):cV P w K mg base dc 1 f fd ["gaps"] xc:=by
 refine D.F.ok qu (λvs H Q E h=>?_) (λcdv A outer s H vs Q E hr h=>?_)
 ·obtain⟨a,I,rfl,_⟩:=h;rfl
 ·obtain⟨a,I,rfl,hS,hlen,k⟩:=h;have hl:(sizeLine:Nat)=16777216:=Mt;refine⟨_,cU (di (i:=1) qu.nd rfl (Mh rfl) (dZ cQ))
   (cU (di (i:=2) qu.nd rfl (Mh rfl) cX)
   (cU (fx MK rfl (eZ (pv 0)) (dB (i:=3) qu.nd rfl (Mh rfl))
    (cU (fv (eV MP MN MS gE (pv 1) (cP (de eP (pv 2) (pv 3)) cQ)))
    (cY (di (i:=2) qu.nd rfl (Mh rfl) (de eP (de eP (pv 2) (pv 3)) cX)))))
   (cY (dg (pv 1))))),?_⟩;refine⟨(by show 0<=sizeLine;decide),λp U=>⟨_,rfl,a,rfl,⟨_,cS.of (da U _ _ hS)⟩,?_⟩⟩;refine iW (xs:=nl I) (λi σ H'=>∃(done:LR Nat) (l:Nat) (o:Mc V),σ=[some (.ref a),some (.ref p),some (.int l),o]/\H'=upd H p (.lst (nl done))/\done.length=i/\nums 0 I=done++nums l (I.drop i)) ?_ ?_ ?_ ?_
  ·exact⟨[],0,none,rfl,rfl,rfl,rfl⟩
  ·rintro i σ H' _ ⟨done,l,o,_,rfl,_⟩;exact cS.of (da U _ _ hS)
  ·rintro i x σ H' hx ⟨done,l,o,rfl,rfl,hd,J⟩;obtain⟨n,hn,rfl⟩:=jx hx;rw[lj hn] at J;have aa:=(List.getElem?_eq_some_iff.mp hn).1;refine⟨_,rfl,.inl ⟨rfl,_,cS.of cT⟩,_,rfl,_,rfl,_,_,rfl,rfl,p,_,_,rfl,rfl,cT,(by rw[fD];lia),?_⟩;refine⟨_,rfl,_,rfl,_,_,rfl,rfl,_,_,rfl,rfl,done++[l+n],l+n+1,_,rfl,?_,by rw[Md,hd];rfl,?_⟩
   ·rw[mf,ie];rfl
   ·rw[J,Nc];rfl
  ·rintro σ H' ⟨done,l,o,rfl,rfl,hd,J⟩;rw[fD,Oh] at J;have e:nums 0 I=done:=by rw[J];exact MR _
   exact⟨_,rfl,k p _ (da U) U (by rw[cT,e])⟩
inductive gw (H : Hp) : V -> Pr -> Prop where
 |mk {p t : LS} {n : Nat} {pl : LR Nat} (h : H p = some (.tup [.int (n : Int), .ref t])) (ht : H t = some (.tup (nl pl))) : gw H (.ref p) (n, pl)
theorem gw.same {H H':Hp}{x:V}{r:Pr}(h:gw H x r)(s:cR H H'):gw H' x r:=by
 cases h with
 |mk h ht=>exact .mk (s _ _ h) (s _ _ ht)
noncomputable def eQ(H:Hp)(a:LS)(row:LR Pr):Prop:=∃ xs,H a=some (.lst xs)/\MY (gw H) xs row
theorem eQ.same {H H':Hp}{a:LS}{r:LR Pr}(h:eQ H a r)(s:cR H H'):eQ H' a r:=let ⟨xs,h1,h2⟩:=h;⟨xs,s _ _ h1,Gn.Paired.imp2 h2 λ_ _ q=>q.same s⟩
theorem Ka(A M B:LR V):ib (A++(M++B)) (some (A.length:Int)) (some ((A.length+M.length:Nat):Int))=M:=by
 unfold ib;rw[HT.qP,HT.qP,Md,Md];rw[Qv (by lia),Qv (by lia),List.drop_left,Nat.add_sub_cancel_left,RF]
theorem Fi{α:Type}(A:LR α)(x:α)(B:LR α):(A++x::B)[A.length]? =some x:=by
 rw[List.getElem?_append_right (Ma _),Nat.sub_self];rfl
theorem IJ{α:Type}(A:LR α)(x y:α)(B:LR α):(A++x::y::B)[A.length+1]? =some y:=by
 rw[List.getElem?_append_right (by lia),Nat.add_sub_cancel_left];rfl
theorem yT{ns:LR Nat}{i c:Nat}(h:ns[i]? =some c):(nl ns)[i]? =some (.int (c:Int)):=by rw[List.getElem?_map,h];rfl
theorem gw.lst {H H4:Hp}{x:V}{r:Pr}{pR:LS}{ys zs:LR V}(h:gw H x r)(s:cR H H4)(hR:H pR=some (.lst ys)):gw (upd H4 pR (.lst zs)) x r:=by
 cases h with
 |mk h ht=>
  rename_i p t n pl;refine .mk (t:=t) ?_ ?_
  ·rw[cW (λz=>by rw[z,hR] at h;cases h)];exact s _ _ h
  ·rw[cW (λz=>by rw[z,hR] at ht;cases ht)];exact s _ _ ht
noncomputable def Bz:Sp:=λvs H Q _=>∃ n:Nat,vs=[.int (n:Int),.int 0,.non]/\Q (.int (n:Int)) H
seal dj PS PE PT PA PG PI dE dD in
theorem Lk{f fw:LS}{fd fdw:Mj}(D:gS K mg "need_number" kq f fd #[.none])(DW:Df K mg "is_whole" ke fw fdw)(T:Txt mg):cV P w K mg base (dz P w) 2 f fd ["thing","least","most"] Bz:=by
 have I:cV P w K mg base dc 1 fw fdw ["thing"] (oB K):=oT DW T
 have J:=eI (p:="thing") DW.F λ_ _ _ _ _ _ _=>rfl
 refine D.ok1 AA (λvs H Q E h=>?_) (λcdv A outer s H vs Q E U h=>?_)
 ·obtain⟨n,rfl,_⟩:=h;rfl
 ·obtain⟨n,rfl,k⟩:=h;refine⟨_,cU (dP (f9 (fM (dw I U rfl DW.m DW.F.kp J .nil du (cP (pv 0) cQ)))) (cY jj) dO)
   (cU (dP (dU kh (pv 0) (pv 1) (dH _)) (cY jj) dO)
   (cU (dP (PW.pt (mj (iZ (wW (pv 2))) (lT (dU iL (pv 0) (pv 2) (dH _))))) (cY jj) dO)
   (cY (dg (pv 0))))),?_⟩;refine⟨_,rfl,.int (n:Int),rfl,rQ _,_,rfl,df ?_⟩;refine⟨_,rfl,_,rfl,_,_,rfl,rfl,_,rfl,?_⟩;rw[LY (by lia)];exact df ⟨_,rfl,_,rfl,df (df ⟨_,rfl,k⟩)⟩
noncomputable def Ax:Sp:=λvs H Q _=>∃ n:Nat,vs=[.int n]/\(gM n).length<=9000/\∀ p H',cR H H'->H p=none->H' p=some (.lst (nl (gM n)))->Q (.ref p) H'
theorem tj:dC ["number","parts","rest"] ["number"] (c9 pD):=⟨rfl,rfl,rfl,dkq,rfl,dkq,dkq⟩
seal dj PS PE PT PA PG PI dE dD in
theorem IA{f:LS}{fd:Mj}(D:Df K mg "parts_of_one" pD f fd)(T:Txt mg):cV P w K mg base dc 1 f fd ["number"] Ax:=by
 obtain⟨tm,J⟩:=T.cMore;refine D.F.ok tj (λvs H Q E h=>?_) (λcdv A outer s H vs Q E U h=>?_)
 ·obtain⟨n,rfl,_⟩:=h;rfl
 ·obtain⟨n,rfl,hn,k⟩:=h;have hl:(sizeLine:Nat)=16777216:=Mt;refine⟨_,cU (di (i:=1) tj.nd rfl (Mh rfl) (dZ cQ))
   (cU (di (i:=2) tj.nd rfl (Mh rfl) (pv 0))
   (cU (tQ MK (dU wO (pv 2) (gJ (v:= .int 128) rfl J ⟨_,rfl⟩) (dH _))
    (cU (fv (eV MP MN MS gE (pv 1) (cP (de eP (gJ (v:= .int 128) rfl J ⟨_,rfl⟩) (de eR (pv 2) (gJ (v:= .int 128) rfl J ⟨_,rfl⟩))) cQ)))
    (cY (di (i:=2) tj.nd rfl (Mh rfl) (de gz (pv 2) (gJ (v:= .int 128) rfl J ⟨_,rfl⟩))))))
   (cU (fv (eV MP MN MS gE (pv 1) (cP (pv 2) cQ)))
   (cY (dg (pv 1)))))),?_⟩;refine⟨(by show 0<=sizeLine;decide),λp hp=>⟨_,rfl,?_⟩⟩;refine vM (λσ H'=>∃(r:Nat) (ys:LR Nat),σ=[some (.int n),some (.ref p),some (.int r)]/\H'=upd H p (.lst (nl ys))/\gM n=ys++gM r) (λσ _=>match σ with|[_,_,some (.int r)]=>r.toNat|_=>0) ⟨n,[],rfl,rfl,rfl⟩ ?_ ?_
  ·rintro σ H' ⟨r,ys,rfl,rfl,he⟩;have aa:ys.length<=9000:=by rw[he,Md] at hn;lia
   refine⟨_,rfl,_,_,rfl,rfl,_,rfl,?_⟩;by_cases U:(128:Int)<=r
   ·rw[Mb U];refine dG ?_;have I:¬ r<128:=by lia
    refine⟨_,rfl,.inl ⟨rfl,_,cS.of cT⟩,?_⟩;refine⟨_,rfl,_,_,rfl,rfl,(by show(0:Int)<128;decide),_,_,rfl,rfl,p,_,_,rfl,rfl,cT,(by rw[LV];lia),?_⟩;refine⟨_,rfl,_,_,rfl,rfl,⟨by decide,by decide⟩,?_⟩;refine⟨⟨r/128,ys++[128+r%128],?_,?_,?_⟩,?_⟩
    ·simp only[List.set];have:((r:Int)/128)=((r/128:Nat):Int):=by lia
     rw[this]
    ·rw[mf]
     congr 2
     unfold nl;rw[Mf]
     congr 1
    ·rw[he,oh I];simp
    ·show((r:Int)/128).toNat<(r:Int).toNat
     lia
   ·rw[LY U];refine df ?_;have I:r<128:=by lia
    refine⟨_,rfl,.inl ⟨rfl,_,cS.of cT⟩,_,rfl,p,_,_,rfl,rfl,cT,(by rw[LV];lia),?_⟩;refine⟨_,rfl,k p _ ?_ hp ?_⟩
    ·rw[mf];exact da hp
    ·rw[cT,he,lO I];unfold nl;rw[Mf];rfl
  ·intro σ H' Q1 Q2 hq h;obtain⟨x,h1,i,j,e1,e2,h2⟩:=h;exact⟨x,h1,i,j,e1,e2,let ⟨b,e,z⟩:=h2;⟨b,e,hq _ _ z⟩⟩
noncomputable def Ar(K:Mm):Sp:=λvs H Q _=>∃(a:LS) (ns:LR Nat),vs=[.ref a]/\cS K H a (nl ns)/\(pk ns).length<=9000/\∀ p H',cR H H'->H p=none->H' p=some (.lst (nl (pk ns)))->Q (.ref p) H'
theorem tF:dC ["numbers","parts","number"] ["numbers"] (c9 oW):=⟨rfl,rfl,rfl,dkq,rfl,dkq,dkq⟩
seal dj PS PE PT PA PG PI dE dD in
theorem Cy{f fo fn:LS}{fd fdo fdn:Mj}(D:Df K mg "packed" oW f fd)(DO:Df K mg "parts_of_one" pD fo fdo)(GO:cV P w K mg base dc 1 fo fdo ["number"] Ax)
  (DN:gS K mg "need_number" kq fn fdn #[.none])(GN:cV P w K mg base (dz P w) 2 fn fdn ["thing","least","most"] Bz):cV P w K mg base dc 3 f fd ["numbers"] (Ar K):=by
 have bO:=eI (p:="number") DO.F λ_ _ _ _ _ _ _=>rfl
 have aa:=DN.binds (ps:=["thing","least","most"]) (ds:=[.none]) λT kV doc pm an cdv ct us hl=>eO (λ_ _=>⟨_,rfl,rfl⟩) us (show us.length=2 by simpa using hl)
 refine D.F.ok tF (λvs H Q E h=>?_) (λcdv A outer s H vs Q E hr h=>?_)
 ·obtain⟨a,ns,rfl,_⟩:=h;rfl
 ·obtain⟨a,ns,rfl,hS,ab,k⟩:=h;have hl:(sizeLine:Nat)=16777216:=Mt;refine⟨_,cU (di (i:=1) tF.nd rfl (Mh rfl) (dZ cQ))
   (cU (fx MK rfl (eZ (pv 0)) (dB (i:=2) tF.nd rfl (Mh rfl))
    (cY (fv (eV MP PD QR tD (pv 1)
     (cP (dw (GO.mono (by decide)) hr rfl DO.m DO.F.kp bO .nil du (cP (dw GN hr rfl DN.m DN.kp aa (dvs:=[.non]) (.cons rfl .nil) ig (cP (pv 2) (cP cX cQ))) cQ)) cQ)))))
   (cY (dg (pv 1)))),?_⟩;refine⟨(by show 0<=sizeLine;decide),λp U=>⟨_,rfl,a,rfl,⟨_,(da U).seq hS⟩,?_⟩⟩;refine iW (xs:=nl ns) (λi σ H'=>∃(o:Mc V),σ=[some (.ref a),some (.ref p),o]/\cR H H'/\H' p=some (.lst (nl (pk (ns.take i))))) ?_ ?_ ?_ ?_
  ·exact⟨none,rfl,da U,cT⟩
  ·rintro i σ H' _ ⟨o,_,I,_⟩;exact I.seq hS
  ·rintro i x σ H' ae ⟨o,rfl,I,J⟩;obtain⟨n,hn,rfl⟩:=jx ae;have e1:pk (ns.take (i+1))=pk (ns.take i)++gM n:=by rw[N2,hn,AU];exact Nl _ (KO n)
   have e2:pk ns=pk (ns.take (i+1))++pk (ns.drop (i+1)):=by rw[<-AU,NR]
   have hle:(pk (ns.take i)).length+(gM n).length<=9000:=by
    rw[e2,Md,e1,Md] at ab
    lia
   refine⟨_,rfl,.inl ⟨rfl,_,cS.of J⟩,_,rfl,n,rfl,n,rfl,by lia,λp2 H2 s2 ag af=>?_⟩;refine⟨p,p2,_,_,rfl,rfl,s2 _ _ J,af,(by rw[fD,fD];lia),_,rfl,λb u e=>?_,?_⟩
   ·rw[cW (dF e U)];exact s2 _ _ (I _ _ e)
   ·rw[cT,e1,ie]
  ·rintro σ H' ⟨o,rfl,I,J⟩;rw[fD,MG] at J;exact⟨_,rfl,k p H' I U J⟩
theorem kF:dC ["numbers","least","number"] ["numbers"] (c9 mU):=⟨rfl,rfl,rfl,dkq,rfl,dkq,dkq⟩
noncomputable def qF(K:Mm)(S:Mm->Hp->LS->LR V->Prop):Sp:=λvs H Q _=>∃(a:LS) (ns:LR Nat),vs=[.ref a]/\S K H a (nl ns)/\iC 0 ns/\Q (.bl true) H
seal dj PS PE PT PA PG PI dE dD in
theorem Kx{f fw:LS}{fd fdw:Mj}(D:Df K mg "is_rising" mU f fd)(DW:Df K mg "is_whole" ke fw fdw)(T:Txt mg):cV P w K mg base dc 2 f fd ["numbers"] (qF K cS):=by
 have U:cV P w K mg base dc 1 fw fdw ["thing"] (oB K):=oT DW T
 have bW:=eI (p:="thing") DW.F λ_ _ _ _ _ _ _=>rfl
 refine D.F.ok kF (λvs H Q E h=>?_) (λcdv A outer s H vs Q E hr h=>?_)
 ·obtain⟨a,xs,rfl,_⟩:=h;rfl
 ·obtain⟨a,ns,rfl,J,I,k⟩:=h;refine⟨_,cU (di (i:=1) kF.nd rfl (Mh rfl) cX)
   (cU (fx MK rfl (eZ (pv 0)) (dB (i:=2) kF.nd rfl (Mh rfl))
    (cU (dP (PW.pt (iw (f9 (fM (dw U hr rfl DW.m DW.F.kp bW .nil du (cP (pv 2) cQ)))) (jc (dU kh (pv 2) (pv 1) (dH _))))) (cY (dg fN)) dO)
    (cY (di (i:=1) kF.nd rfl (Mh rfl) (de eP (pv 2) cX)))))
   (cY (dg fN))),?_⟩;refine⟨_,rfl,a,rfl,⟨_,J⟩,?_⟩;refine iW (xs:=nl ns) (λi σ H'=>H'=H/\∃(l:Nat) (o:Mc V),σ=[some (.ref a),some (.int (l:Int)),o]/\iC l (ns.drop i)) ?_ ?_ ?_ ?_
  ·exact⟨rfl,0,none,rfl,I⟩
  ·rintro i σ H' _ ⟨rfl,_⟩;exact J
  ·rintro i x σ H' hx ⟨rfl,l,o,rfl,he⟩;obtain⟨n,hn,rfl⟩:=jx hx;rw[lj hn] at he;refine⟨_,rfl,.int (n:Int),rfl,rQ _,_,rfl,df ⟨_,rfl,_,rfl,_,_,rfl,rfl,_,rfl,?_⟩⟩;have h1:=he.1;rw[LY (by lia)];exact df ⟨_,rfl,_,_,rfl,rfl,rfl,n+1,_,rfl,he.2⟩
  ·rintro σ H' ⟨rfl,l,o,rfl,he⟩;exact k
seal dj PS PE PT PA PG PI dE dD in
theorem LA{f fw:LS}{fd fdw:Mj}(D:Df K mg "is_rising" mU f fd)(DW:Df K mg "is_whole" ke fw fdw)(T:Txt mg):cV P w K mg base dc 2 f fd ["numbers"] (qF K dY):=by
 have U:cV P w K mg base dc 1 fw fdw ["thing"] (oB K):=oT DW T
 have bW:=eI (p:="thing") DW.F λ_ _ _ _ _ _ _=>rfl
 refine D.F.ok kF (λvs H Q E h=>?_) (λcdv A outer s H vs Q E hr h=>?_)
 ·obtain⟨a,xs,rfl,_⟩:=h;rfl
 ·obtain⟨a,ns,rfl,J,I,k⟩:=h;refine⟨_,cU (di (i:=1) kF.nd rfl (Mh rfl) cX)
   (cU (fx MK rfl (BP (pv 0)) (dB (i:=2) kF.nd rfl (Mh rfl))
    (cU (dP (PW.pt (iw (f9 (fM (dw U hr rfl DW.m DW.F.kp bW .nil du (cP (pv 2) cQ)))) (jc (dU kh (pv 2) (pv 1) (dH _))))) (cY (dg fN)) dO)
    (cY (di (i:=1) kF.nd rfl (Mh rfl) (de eP (pv 2) cX)))))
   (cY (dg fN))),?_⟩;refine⟨_,rfl,a,rfl,⟨_,J⟩,?_⟩;refine yM (xs:=nl ns) (λi σ H'=>H'=H/\∃(l:Nat) (o:Mc V),σ=[some (.ref a),some (.int (l:Int)),o]/\iC l (ns.drop i)) ?_ ?_ ?_ ?_
  ·exact⟨rfl,0,none,rfl,I⟩
  ·rintro i σ H' _ ⟨rfl,_⟩;exact J
  ·rintro i x σ H' hx ⟨rfl,l,o,rfl,he⟩;obtain⟨n,hn,rfl⟩:=jx hx;rw[lj hn] at he;refine⟨_,rfl,.int (n:Int),rfl,rQ _,_,rfl,df ⟨_,rfl,_,rfl,_,_,rfl,rfl,_,rfl,?_⟩⟩;have h1:=he.1;rw[LY (by lia)];exact df ⟨_,rfl,_,_,rfl,rfl,rfl,n+1,_,rfl,he.2⟩
  ·rintro σ H' ⟨rfl,l,o,rfl,he⟩;exact k
noncomputable def y3:Sp:=λvs H Q _=>∃(x:V) (r:Pr),vs=[x]/\gw H x r/\r.2≠[]/\iC 0 r.2/\Q (.bl true) H
theorem zA:dC ["thing","places"] ["thing"] (c9 pS):=⟨rfl,rfl,rfl,dkq,rfl,dkq,dkq⟩
seal dj PS PE PT PA PG PI dE dD in
theorem K7{f fr:LS}{fd fdr:Mj}(D:Df K mg "has_places" pS f fd)(DR:Df K mg "is_rising" mU fr fdr)(GR:cV P w K mg base dc 2 fr fdr ["numbers"] (qF K dY))(T:Txt mg):cV P w K mg base dc 3 f fd ["thing"] y3:=by
 have J:=eI (p:="numbers") DR.F λ_ _ _ _ _ _ _=>rfl
 refine D.F.ok zA (λvs H Q E h=>?_) (λcdv A outer s H vs Q E U h=>?_)
 ·obtain⟨x,b,rfl,_⟩:=h;rfl
 ·obtain⟨x,r,rfl,hp,h0,I,k⟩:=h;refine⟨_,cU (dP (PW.pt (iw (f9 (fM (dR jb rfl T.isi gG (cP (pv 0) (cP (iF (v:= .ty "tuple") rfl T.tuple pM rfl) cQ)))))
    (jc (dU qt (dR gZ rfl T.len gf (cP (pv 0) cQ)) cX (dH _))))) (cY (dg fN)) dO)
   (cU (di (i:=1) zA.nd rfl (Mh rfl) (eB nr (pv 0) cX (λ_ _=>rfl)))
   (cY (dg (kd (dR jb rfl T.isi gG (cP (pv 1) (cP (iF (v:= .ty "tuple") rfl T.tuple pM rfl) cQ)))
    (kd (jq iL (dR gZ rfl T.len gf (cP (pv 1) cQ)) cX (dH _)) (kD (dw GR U rfl DR.m DR.F.kp J .nil du (cP (pv 1) cQ)))))))),?_⟩;cases hp with
  |mk h ht=>
   rename_i p t n pl;refine⟨_,rfl,.ref p,.ty "tuple",_,_,rfl,.tup h,.inl ⟨_,rfl,qZ⟩,_,rfl,df ?_⟩;refine⟨_,rfl,p,_,rfl,.inr (dY.of h),rfl,_,rfl,df ?_⟩;refine⟨_,rfl,p,_,_,_,rfl,rfl,dY.of h,dS (j:=1) rfl,?_⟩;refine⟨_,rfl,.ref t,.ty "tuple",_,_,rfl,.tup ht,.inl ⟨_,rfl,qZ⟩,_,rfl,dG ?_⟩;refine⟨_,rfl,t,_,rfl,.inr (dY.of ht),_,_,rfl,rfl,_,rfl,?_⟩;have h1:0<(nl pl).length:=by rw[fD];exact List.length_pos_iff.mpr h0
   rw[Mb (show(0:Int)<(((nl pl).length:Nat):Int) by lia)];exact dG ⟨_,rfl,t,pl,rfl,dY.of ht,I,k⟩
noncomputable def y9:Sp:=λvs H Q _=>∃(a:LS) (row:LR Pr),vs=[.ref a]/\eQ H a row/\iM 0 row/\row.length<=9000/\∀ H',cR H H'->Q (.ref a) H'
theorem EO:dC ["thing"] ["thing"] (c9 lM):=⟨rfl,rfl,rfl,dkq,rfl,dkq,dkq⟩
theorem Cr:(["pair"]:LR Str).Nodup:=dkq
theorem qR:(["number","places"]:LR Str).Nodup:=dkq
seal dj PS PE PT PA PG PI dE dD in
theorem Ly{f fr fh:LS}{fd fdr fdh:Mj}(D:Df K mg "need_row" lM f fd)(DR:Df K mg "is_rising" mU fr fdr)(GR:cV P w K mg base dc 2 fr fdr ["numbers"] (qF K cS))
  (DH:Df K mg "has_places" pS fh fdh)(GH:cV P w K mg base dc 3 fh fdh ["thing"] y3)(T:Txt mg):cV P w K mg base dc 4 f fd ["thing"] y9:=by
 have bR:=eI (p:="numbers") DR.F λ_ _ _ _ _ _ _=>rfl
 have bH:=eI (p:="thing") DH.F λ_ _ _ _ _ _ _=>rfl
 refine D.F.ok EO (λvs H Q E h=>?_) (λcdv A outer s H vs Q E hr h=>?_)
 ·obtain⟨a,row,rfl,_⟩:=h;rfl
 ·obtain⟨a,row,rfl,⟨xs,U,hp⟩,ho,hlen,k⟩:=h;have hl:(sizeLine:Nat)=16777216:=Mt;have ab:=Gn.Paired.len hp;refine⟨_,cU (dP (f9 (fM (dR jb rfl T.isi gG (cP (pv 0) (cP (iF (v:= .ty "list") rfl T.list jL rfl) cQ))))) (cY jj) dO)
   (cU (dP (f9 (fM (dR (nG rfl) rfl T.all oM (cP (fP (own:=1) (caps:=[]) (N:=["pair"]) (N0:=["thing"]) (sc0:=c9 lM) rfl (eZ (pv 0))
    (λ_ _ _=>dB (i:=0) Cr rfl (Mh rfl)) (λ_ _ _=>fF) (λ_ _ _=>dw (GH.mono (by decide)) hr rfl DH.m DH.F.kp bH .nil du (cP (pv 0) cQ)) (eM (by decide)) rfl rfl
    dkq rfl dkq dkq rfl dkq) cQ)))) (cY jj) dO)
   (cU (dP (f9 (fM (dw (GR.mono (by decide)) hr rfl DR.m DR.F.kp bR .nil du (cP (fP (own:=2) (caps:=[]) (N:=["number","places"]) (N0:=["thing"]) (sc0:=c9 lM) rfl (eZ (pv 0))
    (λ_ _ _=>ir (n:=2) rfl (fe (dB (i:=0) qR rfl (Mh rfl)) (fe (dB (i:=1) qR rfl (Mh rfl)) il))) (λ_ _ _=>fF) (λ_ _ _=>pv 0) (oO (iX (eM (by decide)) (iX (eM (by decide)) nB))) rfl rfl
    dkq rfl dkq dkq rfl dkq) cQ)))) (cY jj) dO)
   (cY (dg (pv 0))))),?_⟩;refine⟨_,rfl,.ref a,.ty "list",_,_,rfl,.lst U,.inl ⟨_,rfl,sv⟩,_,rfl,df ?_⟩;refine⟨_,rfl,a,rfl,⟨_,cS.of U⟩,gC (xs:=xs) (λi ys H'=>H'=H/\ys=(ND i true).map V.bl) (by lia) (λi ys H' q=>by rw[q.1];exact cS.of U) ⟨rfl,rfl⟩ ?_ ?_⟩
  ·rintro i v ys H' N hv ⟨rfl,rfl⟩ hN;obtain⟨r,I,J⟩:=fX hp hv;have hm:=ho.p r (List.mem_of_getElem? I);refine g1 ?_;exact⟨_,rfl,v,r,rfl,J,hm.1,hm.2,hN _ _ ⟨rfl,by rw[Qj,Mf];rfl⟩⟩
  ·rintro ys H' ⟨rfl,rfl⟩ _ q hq;refine⟨q,ND xs.length true,rfl,cS.of cT,?_⟩;rw[Dt];refine⟨_,rfl,df ?_⟩;have s1:cR H' (upd H' q (.lst ((ND xs.length true).map V.bl))):=da hq;generalize upd H' q (.lst ((ND xs.length true).map V.bl))=H1 at s1 ⊢;refine⟨_,rfl,a,rfl,⟨_,cS.of (s1 _ _ U)⟩,gC (xs:=xs) (λi ys H2=>H2=H1/\ys=(nl (row.map (·.1))).take i) (by lia) (λi ys H2 q=>by rw[q.1];exact cS.of (s1 _ _ U)) ⟨rfl,rfl⟩ ?_ ?_⟩
   ·rintro i v ys H2 N hv ⟨rfl,rfl⟩ hN;obtain⟨r,I,J⟩:=fX hp hv;cases J with
    |mk h ht=>
     refine⟨_,_,rfl,dY.of (s1 _ _ h),rfl,_,_,rfl,_,_,rfl,rfl,qa ?_⟩;refine⟨_,rfl,hN _ _ ⟨rfl,?_⟩⟩;rw[N2,List.getElem?_map,List.getElem?_map,I];rfl
   ·rintro ys H2 ⟨rfl,rfl⟩ _ q2 aa;have ae:(nl (row.map (·.1))).length=row.length:=by rw[fD,LV]
    rw[MZ (by lia)];exact⟨q2,row.map (·.1),rfl,cS.of cT,ho.n,_,rfl,df ⟨_,rfl,k _ (cR.upd s1 aa)⟩⟩
noncomputable def rk(K:Mm)(S:Mm->Hp->LS->LR V->Prop):Sp:=λvs H Q _=>∃(a:LS) (ns:LR Nat),vs=[.ref a]/\S K H a (nl ns)/\iC 0 ns/\ns.length<=9000/\∀ p H',cR H H'->H p=none->H' p=some (.lst (nl (fH 0 ns)))->Q (.ref p) H'
theorem jF:dC ["numbers","gaps","least","number"] ["numbers"] (c9 nu):=⟨rfl,rfl,rfl,dkq,rfl,dkq,dkq⟩
seal dj PS PE PT PA PG PI dE dD in
theorem HH{f:LS}{fd:Mj}(D:Df K mg "gaps_of" nu f fd):cV P w K mg base dc 1 f fd ["numbers"] (rk K cS):=by
 refine D.F.ok jF (λvs H Q E h=>?_) (λcdv A outer s H vs Q E hr h=>?_)
 ·obtain⟨a,ns,rfl,_⟩:=h;rfl
 ·obtain⟨a,ns,rfl,hS,I,hlen,k⟩:=h;have hl:(sizeLine:Nat)=16777216:=Mt;refine⟨_,cU (di (i:=1) jF.nd rfl (Mh rfl) (dZ cQ))
   (cU (di (i:=2) jF.nd rfl (Mh rfl) cX)
   (cU (fx MK rfl (eZ (pv 0)) (dB (i:=3) jF.nd rfl (Mh rfl))
    (cU (fv (eV MP MN MS gE (pv 1) (cP (de kT (pv 3) (pv 2)) cQ)))
    (cY (di (i:=2) jF.nd rfl (Mh rfl) (de eP (pv 3) cX)))))
   (cY (dg (pv 1))))),?_⟩;refine⟨(by show 0<=sizeLine;decide),λp U=>⟨_,rfl,a,rfl,⟨_,(da U).seq hS⟩,?_⟩⟩;refine iW (xs:=nl ns) (λi σ H'=>∃(done:LR Nat) (l:Nat) (o:Mc V),σ=[some (.ref a),some (.ref p),some (.int l),o]/\H'=upd H p (.lst (nl done))/\done.length=i/\Gp ns done l (ns.drop i)) ?_ ?_ ?_ ?_
  ·exact⟨[],0,none,rfl,rfl,rfl,rfl,I⟩
  ·rintro i σ H' _ ⟨done,l,o,_,rfl,_⟩;exact(da U).seq hS
  ·rintro i x σ H' hx ⟨done,l,o,rfl,rfl,hd,J⟩;obtain⟨n,hn,rfl⟩:=jx hx;rw[lj hn] at J;obtain⟨hle,aa⟩:=J.step;have ab:=(List.getElem?_eq_some_iff.mp hn).1;refine⟨_,rfl,.inl ⟨rfl,_,cS.of cT⟩,_,rfl,_,rfl,_,_,rfl,rfl,p,_,_,rfl,rfl,cT,(by rw[fD];lia),?_⟩;have e:((n:Int)-(l:Int))=((n-l:Nat):Int):=by lia
   refine⟨_,rfl,_,_,rfl,rfl,done++[n-l],n+1,_,rfl,?_,by rw[Md,hd];rfl,aa⟩;rw[mf,ie];exact Nl (λz=>upd H p (.lst (nl done++[V.int z]))) e
  ·rintro σ H' ⟨done,l,o,rfl,rfl,hd,J⟩;rw[fD,Oh] at J;have e:fH 0 ns=done:=by rw[J.1];exact MR _
   exact⟨_,rfl,k p _ (da U) U (by rw[cT,e])⟩
seal dj PS PE PT PA PG PI dE dD in
theorem KU{f:LS}{fd:Mj}(D:Df K mg "gaps_of" nu f fd):cV P w K mg base dc 1 f fd ["numbers"] (rk K λ_ H a xs=>H a=some (.tup xs)):=by
 refine D.F.ok jF (λvs H Q E h=>?_) (λcdv A outer s H vs Q E hr h=>?_)
 ·obtain⟨a,ns,rfl,_⟩:=h;rfl
 ·obtain⟨a,ns,rfl,hS,I,hlen,k⟩:=h;have hl:(sizeLine:Nat)=16777216:=Mt;refine⟨_,cU (di (i:=1) jF.nd rfl (Mh rfl) (dZ cQ))
   (cU (di (i:=2) jF.nd rfl (Mh rfl) cX)
   (cU (fx MK rfl (BP (pv 0)) (dB (i:=3) jF.nd rfl (Mh rfl))
    (cU (fv (eV MP MN MS gE (pv 1) (cP (de kT (pv 3) (pv 2)) cQ)))
    (cY (di (i:=2) jF.nd rfl (Mh rfl) (de eP (pv 3) cX)))))
   (cY (dg (pv 1))))),?_⟩;refine⟨(by show 0<=sizeLine;decide),λp U=>⟨_,rfl,a,rfl,⟨_,dY.of (da U _ _ hS)⟩,?_⟩⟩;refine yM (xs:=nl ns) (λi σ H'=>∃(done:LR Nat) (l:Nat) (o:Mc V),σ=[some (.ref a),some (.ref p),some (.int l),o]/\H'=upd H p (.lst (nl done))/\done.length=i/\Gp ns done l (ns.drop i)) ?_ ?_ ?_ ?_
  ·exact⟨[],0,none,rfl,rfl,rfl,rfl,I⟩
  ·rintro i σ H' _ ⟨done,l,o,_,rfl,_⟩;exact dY.of (da U _ _ hS)
  ·rintro i x σ H' hx ⟨done,l,o,rfl,rfl,hd,J⟩;obtain⟨n,hn,rfl⟩:=jx hx;rw[lj hn] at J;obtain⟨hle,aa⟩:=J.step;have ab:=(List.getElem?_eq_some_iff.mp hn).1;refine⟨_,rfl,.inl ⟨rfl,_,cS.of cT⟩,_,rfl,_,rfl,_,_,rfl,rfl,p,_,_,rfl,rfl,cT,(by rw[fD];lia),?_⟩;have e:((n:Int)-(l:Int))=((n-l:Nat):Int):=by lia
   refine⟨_,rfl,_,_,rfl,rfl,done++[n-l],n+1,_,rfl,?_,by rw[Md,hd];rfl,aa⟩;rw[mf,ie];exact Nl (λz=>upd H p (.lst (nl done++[V.int z]))) e
  ·rintro σ H' ⟨done,l,o,rfl,rfl,hd,J⟩;rw[fD,Oh] at J;have e:fH 0 ns=done:=by rw[J.1];exact MR _
   exact⟨_,rfl,k p _ (da U) U (by rw[cT,e])⟩
structure Sz (row : LR Pr) : Prop where
 l : row.length<=9000
 r : (rn 0 row).length<=9000
 p : (pk (rn 0 row)).length<=9000
noncomputable def xP:Sp:=λvs H Q _=>∃(a:LS) (row:LR Pr),vs=[.ref a]/\eQ H a row/\iM 0 row/\Sz row/\∀ p H',cR H H'->H p=none->H' p=some (.lst (nl (pk (rn 0 row))))->Q (.ref p) H'
theorem nj:dC ["row","gaps","told","at","pair","places"] ["row"] (c9 ni):=⟨rfl,rfl,rfl,dkq,rfl,dkq,dkq⟩
structure Rp (row : LR Pr) (gs done : LR Nat) (l i : Nat) : Prop where
 r : rn 0 row = done ++ rn l (row.drop i)
 g : gs.drop i = fH l ((row.drop i).map (·.1))
 o : iM l (row.drop i)
theorem Rp.step {row:LR Pr}{gs done:LR Nat}{l i n:Nat}{pl:LR Nat}(h:Rp row gs done l i)(hx:row[i]? =some (n,pl)):
  gs[i]? =some (n-l)/\pl≠[]/\iC 0 pl/\Rp row gs (done++[n-l,pl.length-1]++fH 0 pl) (n+1) (i+1):=by
 obtain⟨U,hg,J⟩:=h;rw[lj hx] at U hg J;have I:gs.drop i=(n-l)::fH (n+1) ((row.drop (i+1)).map (·.1)):=hg;have h1:gs[i]? =some (n-l):=by
  have:=Nl (λz=>z[0]?) I;simpa using this
 refine⟨h1,J.head.2.1,J.head.2.2,?_,?_,J.tail⟩
 ·rw[U];show done++(n-l)::(pl.length-1)::(fH 0 pl++rn (n+1) (row.drop (i+1)))=_;simp[Nc]
 ·have:=lj h1;rw[this] at I;exact(Pa I).2
seal dj PS PE PT PA PG PI dE dD in
theorem J3{f fn fg fp:LS}{fd fdn fdg fdp:Mj}(D:Df K mg "packed_row" ni f fd)(DN:Df K mg "need_row" lM fn fdn)(GN:cV P w K mg base dc 4 fn fdn ["thing"] y9)
  (DG:Df K mg "gaps_of" nu fg fdg)(DP:Df K mg "packed" oW fp fdp)(GP:cV P w K mg base dc 3 fp fdp ["numbers"] (Ar K))(T:Txt mg):cV P w K mg base dc 5 f fd ["row"] xP:=by
 have GL:cV P w K mg base dc 1 fg fdg ["numbers"] (rk K cS):=HH DG
 have GT:cV P w K mg base dc 1 fg fdg ["numbers"] (rk K λ_ H a xs=>H a=some (.tup xs)):=KU DG
 have bN:=eI (p:="thing") DN.F λ_ _ _ _ _ _ _=>rfl
 have bG:=eI (p:="numbers") DG.F λ_ _ _ _ _ _ _=>rfl
 have bP:=eI (p:="numbers") DP.F λ_ _ _ _ _ _ _=>rfl
 refine D.F.ok nj (λvs H Q E h=>?_) (λcdv A outer s H vs Q E hr h=>?_)
 ·obtain⟨a,row,rfl,_⟩:=h;rfl
 ·obtain⟨a,row,rfl,hR,ho,hs,k⟩:=h;have hl:(sizeLine:Nat)=16777216:=Mt;refine⟨_,cU (di (i:=1) nj.nd rfl (Mh rfl) (dw (GL.mono (by decide)) hr rfl DG.m DG.F.kp bG .nil du (cP (fP (own:=2) (caps:=[]) (N:=["number","places"]) (N0:=["row","gaps","told","at","pair","places"]) (sc0:=c9 ni) rfl (eZ (dw GN hr rfl DN.m DN.F.kp bN .nil du (cP (pv 0) cQ)))
    (λ_ _ _=>ir (n:=2) rfl (fe (dB (i:=0) qR rfl (Mh rfl)) (fe (dB (i:=1) qR rfl (Mh rfl)) il))) (λ_ _ _=>fF) (λ_ _ _=>pv 0) (oO (iX (eM (by decide)) (iX (eM (by decide)) nB))) rfl rfl
    dkq rfl dkq dkq rfl dkq) cQ)))
   (cU (di (i:=2) nj.nd rfl (Mh rfl) (dZ cQ))
   (cU (fx MK rfl (pO rfl T.enum (cP (pv 0) cQ)) (ir (n:=2) rfl (fe (dB (i:=3) nj.nd rfl (Mh rfl)) (fe (dB (i:=4) nj.nd rfl (Mh rfl)) il)))
    (cU (di (i:=5) nj.nd rfl (Mh rfl) (eB nr (pv 4) cX (λ_ _=>rfl)))
    (cU (fv (eV MP PD QR tD (pv 2) (cP (dZ (cP (eB eY (pv 1) (pv 3) (λ_ _=>rfl)) (cP (de kT (dR gZ rfl T.len gf (cP (pv 5) cQ)) cX) cQ))) cQ)))
    (cY (fv (eV MP PD QR tD (pv 2) (cP (dw (GT.mono (by decide)) hr rfl DG.m DG.F.kp bG .nil du (cP (pv 5) cQ)) cQ)))))))
   (cY (dg (dw (GP.mono (by decide)) hr rfl DP.m DP.F.kp bP .nil du (cP (pv 2) cQ)))))),?_⟩;refine⟨_,rfl,?_⟩;refine⟨a,row,rfl,hR,ho,hs.l,λH1 s1=>?_⟩;obtain⟨xs,hA,hp⟩:=hR.same s1;have aq:=Gn.Paired.len hp;have aA:=hs.l;refine⟨a,rfl,⟨_,cS.of hA⟩,gC (xs:=xs) (λi ys H'=>H'=H1/\ys=(nl (row.map (·.1))).take i) (by lia) (λi ys H' q=>by rw[q.1];exact cS.of hA) ⟨rfl,rfl⟩ ?_ ?_⟩
  ·rintro i v ys H' N hv ⟨rfl,rfl⟩ hN;obtain⟨r,ar,ab⟩:=fX hp hv;cases ab with
   |mk h ht=>
    refine⟨_,_,rfl,dY.of h,rfl,_,_,rfl,_,_,rfl,rfl,qa ?_⟩;refine⟨_,rfl,hN _ _ ⟨rfl,?_⟩⟩;rw[N2,List.getElem?_map,List.getElem?_map,ar];rfl
  ·rintro ys H' ⟨rfl,rfl⟩ _ q hq;have aB:(nl (row.map (·.1))).length=row.length:=by rw[fD,LV]
   rw[MZ (by lia)];refine⟨q,row.map (·.1),rfl,cS.of cT,ho.n,by rw[LV];lia,λpG H2 s2 aC hG=>?_⟩;have ae:cR H' H2:=(da hq).trans s2
   replace hA:=ae _ _ hA
   replace hp:=Gn.Paired.imp2 hp λ_ _ q=>gw.same q ae
   refine⟨(by show 0<=sizeLine;decide),λI U=>?_⟩;have au:=da (o:= .lst []) U _ _ hA;refine⟨_,rfl,a,xs,rfl,au,?_⟩;refine pX (xs:=xs) (λi σ H'=>∃(done:LR Nat) (l:Nat) (o3 o4 o5:Mc V),σ=[some (.ref a),some (.ref pG),some (.ref I),o3,o4,o5]/\cR H2 H'/\H' I=some (.lst (nl done))/\Rp row (fH 0 (row.map (·.1))) done l i) ?_ ?_ ?_ ?_
   ·exact⟨[],0,none,none,none,rfl,da U,cT,rfl,rfl,ho⟩
   ·rintro i σ H3 _ ⟨_,_,_,_,_,_,J,_⟩;exact J _ _ hA
   ·rintro i x σ H3 T hx ⟨done,l,o3,o4,o5,rfl,J,hT,af⟩ av;obtain⟨r,aw,ab⟩:=fX hp hx;cases ab with
    |mk h ht=>
     rename_i p t n pl;obtain⟨ax,ah,ai,aa⟩:=af.step aw;have aj:(done++[n-l,pl.length-1]++fH 0 pl).length<=9000:=by
      have h1:=hs.r;rw[aa.r,Md] at h1
      lia
     rw[Md,Md,kQ] at aj;have az:done.length+2+pl.length<=9000:=aj;have sT:cR H3 (upd H3 T (.tup [.int i,.ref p])):=da av;refine⟨T,_,rfl,dY.of cT,rfl,_,_,rfl,_,_,rfl,rfl,?_⟩;generalize upd H3 T (.tup [.int i,.ref p])=H4 at sT ⊢
     replace J:=J.trans sT
     replace hT:=sT _ _ hT
     refine⟨_,rfl,p,_,_,_,rfl,rfl,dY.of (J _ _ h),dS (j:=1) rfl,?_⟩;refine⟨_,rfl,.inl ⟨rfl,_,cS.of hT⟩,?_⟩;refine⟨_,rfl,_,rfl,pG,_,_,.int ((n-l:Nat):Int),rfl,rfl,cS.of (J _ _ hG),dS (by rw[List.getElem?_map,ax];rfl),?_⟩;refine⟨_,rfl,t,_,rfl,.inr (dY.of (J _ _ ht)),_,_,rfl,rfl,(by show 2<=sizeLine;decide),λz hz=>?_⟩;have sz:=da (o:= .lst [.int ((n-l:Nat):Int),.int (((nl pl).length:Nat)-1)]) hz;refine⟨I,z,_,_,rfl,rfl,sz _ _ hT,cT,(by rw[fD];show _+2<=sizeLine;lia),?_⟩;have aD:0<pl.length:=List.length_pos_iff.mpr ah;have e1:nl done++[V.int ((n-l:Nat):Int),V.int (((nl pl).length:Nat)-1)]=nl (done++[n-l,pl.length-1]):=by
      rw[ie];have:((((nl pl).length:Nat):Int)-1)=((pl.length-1:Nat):Int):=by rw[fD];lia
      rw[this];rfl
     have aE:I≠z:=dF hT hz
     have s5:cR H2 (upd (upd H4 z (.lst [.int ((n-l:Nat):Int),.int (((nl pl).length:Nat)-1)])) I (.lst (nl (done++[n-l,pl.length-1])))):=λb u e=>by
      rw[cW (dF e U)];exact sz _ _ (J _ _ e)
     rw[e1];have ag:(upd (upd H4 z (.lst [.int ((n-l:Nat):Int),.int (((nl pl).length:Nat)-1)])) I (.lst (nl (done++[n-l,pl.length-1])))) I=some (.lst (nl (done++[n-l,pl.length-1]))):=cT;generalize upd (upd H4 z (.lst [.int ((n-l:Nat):Int),.int (((nl pl).length:Nat)-1)])) I (.lst (nl (done++[n-l,pl.length-1])))=H5 at s5 ag ⊢;refine⟨_,rfl,.inl ⟨rfl,_,cS.of ag⟩,?_⟩;refine⟨_,rfl,t,pl,rfl,s5 _ _ ht,ai,by lia,λpg H6 s6 aF hg=>?_⟩;refine⟨I,pg,_,_,rfl,rfl,s6 _ _ ag,hg,(by rw[fD,fD,kQ,Md];show _+2+_<=sizeLine;lia),?_⟩;refine⟨_,n+1,_,_,_,rfl,λb u e=>?_,?_,aa⟩
     ·rw[cW (dF e U)];exact s6 _ _ (s5 _ _ e)
     ·rw[cT,<-ie]
   ·rintro σ H3 ⟨done,l,o3,o4,o5,rfl,J,hT,af⟩;have ak:=af.r;rw[aq,Oh] at ak;have hd:rn 0 row=done:=by rw[ak];exact MR _
    subst hd;have ao:=(s1.trans ae).trans J;exact⟨_,rfl,I,rn 0 row,rfl,cS.of hT,hs.p,λp H4 s4 ay hP=>k p H4 (ao.trans s4) (ao.free ay) hP⟩
noncomputable def An:Sp:=λvs H Q _=>∃(a:LS) (row:LR Pr),vs=[.ref a]/\H a=some (.lst (nl (pk (rn 0 row))))/\iM 0 row/\Sz row/\∀ p H',cR H H'->H p=none->eQ H' p row->Q (.ref p) H'
theorem jW:dC ["parts","told","row","least","begin","end","number"] ["parts"] (c9 px):=⟨rfl,rfl,rfl,dkq,rfl,dkq,dkq⟩
seal dj PS PE PT PA PG PI dE dD in
theorem KC{f fu fn:LS}{fd fdu fdn:Mj}(D:Df K mg "unpacked_row" px f fd)(DU:Df K mg "unpacked" pj fu fdu)(GU:cV P w K mg base dc 3 fu fdu ["parts"] yE)
  (DN:Df K mg "numbers_by" qC fn fdn)(T:Txt mg):cV P w K mg base dc 4 f fd ["parts"] An:=by
 have GN:cV P w K mg base dc 1 fn fdn ["gaps"] xc:=LQ DN
 have bU:=eI (p:="parts") DU.F λ_ _ _ _ _ _ _=>rfl
 have bN:=eI (p:="gaps") DN.F λ_ _ _ _ _ _ _=>rfl
 refine D.F.ok jW (λvs H Q E h=>?_) (λcdv A outer s H vs Q E hr h=>?_)
 ·obtain⟨a,row,rfl,_⟩:=h;rfl
 ·obtain⟨a,row,rfl,hA,ho,hs,k⟩:=h;have hl:(sizeLine:Nat)=16777216:=Mt;refine⟨_,cU (di (i:=1) jW.nd rfl (Mh rfl) (dw GU hr rfl DU.m DU.F.kp bU .nil du (cP (pv 0) cQ)))
   (cU (di (i:=2) jW.nd rfl (Mh rfl) (dZ cQ))
   (cU (di (i:=3) jW.nd rfl (Mh rfl) cX)
   (cU (di (i:=4) jW.nd rfl (Mh rfl) cX)
   (cU (tQ MK (dU kh (pv 4) (dR gZ rfl T.len gf (cP (pv 1) cQ)) (dH _))
    (cU (dP (PW.pt (iw (dU iL (de eP (pv 4) cX) (dR gZ rfl T.len gf (cP (pv 1) cQ)) (dH _))
     (jc (dU iL (de eP (de eP (pv 4) cX) (eB eY (pv 1) (de eP (pv 4) cX) (λ_ _=>rfl))) (dR gZ rfl T.len gf (cP (pv 1) cQ)) (dH _))))) (cY jj) dO)
    (cU (di (i:=5) jW.nd rfl (Mh rfl) (de eP (de eP (pv 4) cX) (eB eY (pv 1) (de eP (pv 4) cX) (λ_ _=>rfl))))
    (cU (di (i:=6) jW.nd rfl (Mh rfl) (de eP (pv 3) (eB eY (pv 1) (pv 4) (λ_ _=>rfl))))
    (cU (fv (eV MP MN MS gE (pv 2) (cP (ip (cP (pv 6) (cP (jw zP rfl T.tuple pM (cP (dw (GN.mono (by decide)) hr rfl DN.m DN.F.kp bN .nil du (cP (ik oC (pv 1) (gL (de eP (pv 4) cX)) (gL (pv 5))) cQ)) cQ)) cQ))) cQ)))
    (cU (di (i:=3) jW.nd rfl (Mh rfl) (de eP (pv 6) cX))
    (cY (di (i:=4) jW.nd rfl (Mh rfl) (pv 5)))))))))
   (cY (dg (pv 2))))))),?_⟩;have av:=hs.r;have au:=hs.l;refine⟨_,rfl,a,rn 0 row,rfl,hA,by lia,λpU H1 s1 aw U=>?_⟩;refine⟨(by show 0<=sizeLine;decide),λpR ae=>?_⟩;refine vM (λσ H'=>∃(pre:LR Nat) (l:Nat) (done rest:LR Pr) (o5 o6:Mc V) (ys:LR V),σ=[some (.ref a),some (.ref pU),some (.ref pR),some (.int (l:Int)),some (.int (pre.length:Int)),o5,o6]/\rn 0 row=pre++rn l rest/\row=done++rest/\iM l rest/\cR H1 H'/\H' pR=some (.lst ys)/\MY (gw H') ys done)
   (λσ _=>match σ with|[_,_,_,_,some (.int b),_,_]=>(9000-b).toNat|_=>0) ⟨[],0,[],row,none,none,[],rfl,rfl,rfl,ho,da ae,cT,.nil⟩ ?_ ?_
  ·rintro σ H' ⟨pre,l,done,rest,o5,o6,ys,rfl,ag,J,hok,sm,hR,af⟩;refine⟨_,rfl,_,rfl,pU,_,rfl,.inl (cS.of (sm _ _ U)),_,_,rfl,rfl,_,rfl,?_⟩;cases rest with
   |nil=>
    have e:rn 0 row=pre:=by rw[ag];exact MR _
    have ed:row=done:=by rw[J,MR]
    rw[LY (by rw[fD,e];lia)];refine df ⟨_,rfl,k pR H' (s1.trans sm) (s1.free ae) ⟨ys,hR,?_⟩⟩;rw[ed];exact af
   |cons x rest=>
    obtain⟨n,pl⟩:=x;obtain⟨ax,ah,ai⟩:=hok.head;have ay:0<pl.length:=List.length_pos_iff.mpr ah;have I:rn 0 row=pre++(n-l)::(pl.length-1)::(fH 0 pl++rn (n+1) rest):=ag;have az:(rn 0 row).length=pre.length+(pl.length+(rn (n+1) rest).length+1+1):=by
     rw[I,Md,Ms,Ms,Md,kQ]
    have aA:done.length<=9000:=by
     have:=Nl MQ J;rw[Md] at this
     lia
    have aB:=Gn.Paired.len af
    have a0:(nl (rn 0 row))[pre.length]? =some (.int ((n-l:Nat):Int)):=yT (by rw[I];exact Fi _ _ _)
    have a1:(nl (rn 0 row))[pre.length+1]? =some (.int ((pl.length-1:Nat):Int)):=yT (by rw[I];exact IJ _ _ _ _);rw[Mb (by rw[fD];lia)];refine dG ?_
    replace U:=sm _ _ U
    refine⟨_,rfl,_,_,rfl,rfl,_,rfl,pU,_,rfl,.inl (cS.of U),_,_,rfl,rfl,_,rfl,?_⟩;rw[LY (by rw[fD];lia)];refine df ?_;refine⟨_,rfl,_,_,rfl,rfl,_,rfl,_,rfl,_,_,rfl,rfl,pU,_,_,_,rfl,rfl,cS.of U,dS (j:=pre.length+1) a1,_,_,rfl,rfl,_,rfl,pU,_,rfl,.inl (cS.of U),_,_,rfl,rfl,_,rfl,?_⟩;rw[LY (by rw[fD];lia)];refine df ?_;have en:((l:Int)+((n-l:Nat):Int))=(n:Int):=by lia
    have ee:((pre.length:Int)+3+((pl.length-1:Nat):Int))=((pre.length+2+pl.length:Nat):Int):=by lia
    refine⟨_,rfl,_,_,rfl,rfl,_,rfl,_,rfl,_,_,rfl,rfl,pU,_,_,_,rfl,rfl,cS.of U,dS (j:=pre.length+1) a1,_,_,rfl,rfl,?_⟩;show lh 5 (V.int ((pre.length:Int)+3+((pl.length-1:Nat):Int))) _ _ _;rw[ee];refine⟨_,rfl,_,rfl,_,rfl,pU,_,_,_,rfl,rfl,cS.of U,dS (j:=pre.length) a0,_,_,rfl,rfl,?_⟩;show lh 6 (V.int ((l:Int)+((n-l:Nat):Int))) _ _ _;rw[en];refine⟨_,rfl,.inl ⟨rfl,_,cS.of hR⟩,?_⟩;have aj:ib (nl (rn 0 row)) (some ((pre.length:Int)+2)) (some ((pre.length+2+pl.length:Nat):Int))=nl (fH 0 pl):=by
     have e1:nl (rn 0 row)=nl (pre++[n-l,pl.length-1])++(nl (fH 0 pl)++nl (rn (n+1) rest)):=by
      rw[<-ie,<-ie,I]
      congr 1
      simp[Nc]
     have e2:(nl (pre++[n-l,pl.length-1])).length=pre.length+2:=by rw[fD,Md];rfl
     have e3:(nl (fH 0 pl)).length=pl.length:=by rw[fD,kQ]
     have:=Ka (nl (pre++[n-l,pl.length-1])) (nl (fH 0 pl)) (nl (rn (n+1) rest));rw[<-e1,e2,e3] at this;exact this
    refine⟨_,rfl,_,rfl,_,rfl,_,_,rfl,rfl,_,rfl,_,rfl,_,rfl,?_⟩;refine⟨pU,_,rfl,cS.of U,λpz aq=>?_⟩;refine⟨pz,fH 0 pl,rfl,cT.trans (Nl (λz=>some (HO.lst z)) aj),by rw[kQ];lia,λpN H2 s2 aC hN=>?_⟩;have ak:cR H' H2:=(da aq).trans s2;rw[zq 0 pl ai] at hN;refine⟨pN,_,rfl,.inl ⟨cS.of hN,λpt ar=>?_⟩⟩;refine⟨(by show 2<=sizeLine;decide),λpp ao=>?_⟩;have st:cR H2 (upd H2 pt (.tup (nl pl))):=da ar;have ht:(upd H2 pt (.tup (nl pl))) pt=some (.tup (nl pl)):=cT;generalize upd H2 pt (.tup (nl pl))=H3 at st ht ao ⊢;have sp:cR H3 (upd H3 pp (.tup [.int (n:Int),.ref pt])):=da ao;have aa:(upd H3 pp (.tup [.int (n:Int),.ref pt])) pp=some (.tup [.int (n:Int),.ref pt]):=cT;generalize upd H3 pp (.tup [.int (n:Int),.ref pt])=H4 at sp aa ⊢;have ab:=(ak.trans st).trans sp;refine⟨pR,_,_,rfl,rfl,ab _ _ hR,(by lia),?_⟩;refine⟨_,rfl,_,_,rfl,rfl,_,rfl,⟨pre++[n-l,pl.length-1]++fH 0 pl,n+1,done++[(n,pl)],rest,some (.int ((pre.length+2+pl.length:Nat):Int)),some (.int (n:Int)),_,?_,?_,?_,hok.tail,?_,cT,?_⟩,?_⟩
    ·have eL:(pre++[n-l,pl.length-1]++fH 0 pl).length=pre.length+2+pl.length:=by rw[Md,Md,kQ];rfl
     rw[eL];rfl
    ·rw[I];simp[Nc]
    ·rw[J,Nc];rfl
    ·intro b u e;rw[cW (dF e ae)];exact ab _ _ (sm _ _ e)
    ·refine Gn.Paired.app (Gn.Paired.imp2 af λx r q=>q.lst ab hR) ?_;have n1:pp≠pR:=λz=>by rw[z,ab _ _ hR] at aa;cases aa
     have n2:pt≠pR:=λz=>by rw[z,(ak.trans st) _ _ hR] at ht;cases ht
     exact .mk (by rw[cW n1];exact aa) (by rw[cW n2];exact sp _ _ ht)
    ·show(9000-((pre.length+2+pl.length:Nat):Int)).toNat<(9000-(pre.length:Int)).toNat
     lia
  ·intro σ H' Q1 Q2 hq h;obtain⟨x,h1,y,h2,p,xs,e1,hs,i,j,e2,e3,b,e4,z⟩:=h;exact⟨x,h1,y,h2,p,xs,e1,hs,i,j,e2,e3,b,e4,hq _ _ z⟩
end
open PySem L2 PyProof.Rows PySem.Spec Gn K04 K01 BK
section
variable {P : Mq} {w : MT} {K : Mz} {mg : Str -> Mc LW} {base : Nn}
noncomputable def FP(ws:LR Str):Hp->LS->Str->Prop:=λH a w=>H a=some (.lst (nl (d7 w ws 0)))
noncomputable def xY:Sp:=λvs H Q _=>∃(a:LS) (ws:LR Str),vs=[.ref a]/\H a=some (.lst (sl ws))/\ws.length<=9000/\
 ∀ p es H',cR H H'->H p=none->DL H H' p es (FP ws)->es.length<=ws.length->(∀ x,x∈es.map (·.1)↔x∈ws)->Q (.ref p) H'
theorem sk:dC ["words","places","place","word"] ["words"] (c9 p8):=⟨rfl,rfl,rfl,dkq,rfl,dkq,dkq⟩
seal dj PS PE PT PA PG PI dE dD in
theorem JN{f:LS}{fd:Mj}(D:Df K mg "places_by_word" p8 f fd)(T:Txt mg):cV P w K mg base dc 1 f fd ["words"] xY:=by
 refine D.F.ok sk (λvs H Q E h=>?_) (λcdv A outer s H vs Q E hr h=>?_)
 ·obtain⟨a,ws,rfl,_⟩:=h;rfl
 ·obtain⟨a,ws,rfl,hA,hlen,k⟩:=h;have hl:(sizeLine:Nat)=16777216:=Mt;refine⟨_,cU (di (i:=1) sk.nd rfl (Mh rfl) jV)
   (cU (fx MK rfl (pO rfl T.enum (cP (pv 0) cQ)) (ir (n:=2) rfl (fe (dB (i:=2) sk.nd rfl (Mh rfl)) (fe (dB (i:=3) sk.nd rfl (Mh rfl)) il)))
    (cY (fv (eV MP MN MS gE
     (PE.imp (t':=rR 1 3) (eV OL O3 P4 vc (pv 1) (cP (pv 3) (cP (dZ cQ) cQ))) λ_ _ _=>getL) (cP (pv 2) cQ)))))
   (cY (dg (pv 1)))),?_⟩;intro d hd;refine⟨_,rfl,a,sl ws,rfl,da hd _ _ hA,?_⟩;refine pX (xs:=sl ws) (λi σ H'=>∃(es:En) (o2 o3:Mc V),σ=[some (.ref a),some (.ref d),o2,o3]/\cR H H'/\DL H H' d es (FP (ws.take i))/\es.length<=i/\(∀ x,x∈es.map (·.1)↔x∈ws.take i)) ?_ ?_ ?_ ?_
  ·exact⟨[],none,none,rfl,da hd,⟨cT,NK,NK,(λe he=>nomatch he),(λe he=>nomatch he)⟩,Ma _,λx=>by simp⟩
  ·rintro i σ H' _ ⟨es,o2,o3,_,sm,_⟩;exact sm _ _ hA
  ·rintro i x σ H' t hx ⟨es,o2,o3,rfl,sm,U,ae,I⟩ ht;obtain⟨J,af,rfl⟩:=xo hx;have st:cR H' (upd H' t (.tup [.int i,.str J])):=da ht;have ar:=(List.getElem?_eq_some_iff.mp af).1;refine⟨t,_,rfl,dY.of cT,rfl,_,_,rfl,_,_,rfl,rfl,?_⟩;generalize upd H' t (.tup [.int i,.str J])=H1 at st ⊢;have ai:=sm.trans st;have e1:ws.take (i+1)=ws.take i++[J]:=take_snoc af;have e2:(ws.take i).length=i:=rl af;have ag:∀ u:Str,u≠J->d7 u (ws.take (i+1)) 0=d7 u (ws.take i) 0:=λu hu=>by
    rw[e1,uM,LX (λq=>hu q.symm),MR]
   have ah:d7 J (ws.take (i+1)) 0=d7 J (ws.take i) 0++[i]:=by
    rw[e1,uM,LZ rfl,e2,P5]
   refine⟨H,d,es,J,FP (ws.take i),rfl,rfl,⟨st _ _ U.d,U.k,U.a,U.n,λe he=>st _ _ (U.f e he)⟩,by lia,λz hz=>ai.free hz,λe he=>⟨_,st _ _ (U.f e he)⟩,?_,?_,?_⟩
   ·intro G b y l sb hb hf;exact sb _ _ hf λq=>by rw[q,st _ _ U.d] at hb;cases hb
   ·intro G z hn hz;show G z=_;rw[hz,(tP J _ 0).mpr λq=>hn ((I J).mpr q)];rfl
   ·rintro p aj H2 sb aa hp ak ⟨l,ao⟩;have ab:H2 p=some (.lst (nl (d7 J (ws.take i) 0))):=aa.f _ hp;refine⟨.inl ⟨rfl,_,cS.of ab⟩,_,rfl,p,_,_,rfl,rfl,ab,(by rw[fD];have:=rC J (ws.take i) 0;lia),?_⟩;have aq:d≠p:=λq=>by rw[<-q,aa.d] at ao;cases ao
    refine⟨aj,_,_,rfl,λb u q=>?_,aa.put hp (by rw[cW aq];exact aa.d) (λe he n1 n2 hf=>?_) ?_,?_,λx=>?_⟩
    ·rw[cW (dF q (aa.n _ hp))];exact sb.new ai hd _ _ q
    ·show upd H2 p _ e.2=_;rw[cW n2,ag e.1 n1];exact hf
    ·show upd H2 p _ p=_;rw[cT,ah,ie];rfl
    ·rcases ak with rfl|⟨_,rfl,_⟩
     ·lia
     ·rw[Md];show es.length+1<=i+1
      lia
    ·have hm:x∈aj.map (·.1)↔x∈es.map (·.1)\/x=J:=by
      rcases ak with rfl|⟨_,rfl,_⟩
      ·exact⟨.inl,λq=>q.elim id λz=>by rw[z];exact List.mem_map.mpr ⟨_,hp,rfl⟩⟩
      ·rw[Mf,Ot];show(_\/x∈[J])↔_;rw[N8]
     rw[hm,I,e1,Ot,N8]
  ·rintro σ H' ⟨es,o2,o3,rfl,sm,U,ae,I⟩;have e:(sl ws).length=ws.length:=LV _;rw[e] at U ae I;rw[MG] at U I;exact⟨_,rfl,k d es H' sm hd U ae I⟩
end
theorem gw.but {H H':Hp}{v:V}{r:Pr}{x:LS}(h:gw H v r)(s:SameBut x H H')(nt:∀ ts,H x≠some (.tup ts)):gw H' v r:=by
 cases h with
 |mk h ht=>exact .mk (s _ _ h λz=>nt _ (by rw[<-z];exact h)) (s _ _ ht λz=>nt _ (by rw[<-z];exact ht))
theorem eQ.but {H H':Hp}{a x:LS}{row:LR Pr}(h:eQ H a row)(s:SameBut x H H')(na:a≠x)(nt:∀ ts,H x≠some (.tup ts)):eQ H' a row:=by
 obtain⟨xs,h1,h2⟩:=h;exact⟨xs,s _ _ h1 na,Gn.Paired.imp2 h2 λ_ _ q=>q.but s nt⟩
theorem eQ.snoc {H:Hp}{p:LS}{xs:LR V}{row:LR Pr}{v:V}{r:Pr}(hp:H p=some (.lst xs))(h:MY (gw H) xs row)(hv:gw H v r):eQ (upd H p (.lst (xs++[v]))) p (row++[r]):=by
 have s:SameBut p H (upd H p (.lst (xs++[v]))):=λb u e hb=>by rw[cW hb];exact e
 have I:∀ ts,H p≠some (.tup ts):=λts z=>by rw[hp] at z;cases z
 exact⟨_,cT,Gn.Paired.app (Gn.Paired.imp2 h λ_ _ q=>q.but s I) (hv.but s I)⟩
section
variable {P : Mq} {w : MT} {K : Mz} {mg : Str -> Mc LW} {base : Nn}
noncomputable def FK(ro:Str->LR Pr):Hp->LS->Str->Prop:=λH a w=>H a=some (.lst (nl (pk (rn 0 (ro w)))))
noncomputable def ub:Sp:=λvs H Q _=>∃(d:LS) (es:En) (J:Str->LR Pr),vs=[.ref d]/\H d=some (.dK (eD es))/\(es.map (·.1)).Nodup/\es.length<=9000/\(∀ e∈es,eQ H e.2 (J e.1)/\iM 0 (J e.1)/\Sz (J e.1))/\
 ∀ p I H',SameBut d H H'->H p=none->DL H H' p I (FK J)->I.map (·.1)=es.map (·.1)->Q (.ref p) H'
theorem uQ:dC ["rows","packed","word"] ["rows"] (c9 oF):=⟨rfl,rfl,rfl,dkq,rfl,dkq,dkq⟩
seal dj PS PE PT PA PG PI dE dD in
theorem B7{f fp:LS}{fd fdp:Mj}(D:Df K mg "packed_rows" oF f fd)(DP:Df K mg "packed_row" ni fp fdp)(GP:cV P w K mg base dc 5 fp fdp ["row"] xP):cV P w K mg base dc 6 f fd ["rows"] ub:=by
 have bP:=eI (p:="row") DP.F λ_ _ _ _ _ _ _=>rfl
 refine D.F.ok uQ (λvs H Q E h=>?_) (λcdv A outer s H vs Q E hr h=>?_)
 ·obtain⟨d,es,ro,rfl,_⟩:=h;rfl
 ·obtain⟨d,es,ro,rfl,hd,hn,hlen,ae,k⟩:=h;have hl:(sizeLine:Nat)=16777216:=Mt;have hu:=iP hr;refine⟨_,cU (di (i:=1) uQ.nd rfl (Mh rfl) jV)
   (cU (fx MK rfl (vp (pv 0)) (dB (i:=2) uQ.nd rfl (Mh rfl))
    (cY (me hu (pv 1) (pv 2) (dw GP hr rfl DP.m DP.F.kp bP .nil du (cP (oj hu (pv 0) (pv 2) (λ_ _=>rfl)) cQ)) rfl)))
   (cY (dg (pv 1)))),?_⟩;intro p hp;have aa:d≠p:=dF hd hp;refine⟨_,rfl,d,eD es,rfl,(by rw[cW aa];exact hd),λo=>?_⟩;refine tM (kvs:=eD es) (λi σ H'=>∃(I:En) (o2:Mc V),σ=[some (.ref d),some (.ref p),o2]/\SameBut d H H'/\H' d=some (.frz o (.dK (eD es)))/\DL H H' p I (FK ro)/\I.map (·.1)=(es.map (·.1)).take i) ?_ ?_ ?_ ?_
  ·refine⟨[],none,rfl,λb u e hb=>?_,cT,⟨?_,NK,NK,(λe he=>nomatch he),(λe he=>nomatch he)⟩,rfl⟩
   ·rw[cW hb,cW (dF e hp)];exact e
   ·rw[cW (Nt aa),cT];rfl
  ·rintro i σ H' _ ⟨_,_,_,_,h,_⟩;exact h
  ·rintro i kv σ H' ai ⟨I,o2,rfl,sm,U,hD,J⟩;obtain⟨e,he,rfl⟩:=uO ai;have af:=List.mem_of_getElem? he;obtain⟨hR,hok,hsz⟩:=ae e af;have aj:e.2≠d:=λz=>by
    obtain⟨xs,h1,_⟩:=hR;rw[z,hd] at h1;cases h1
   have ak:eQ H' e.2 (ro e.1):=hR.but sm aj λts z=>by rw[hd] at z;cases z
   refine⟨_,rfl,_,rfl,d,.ref e.2,rfl,.inl ⟨eD es,MF e.1,.inr ⟨o,U⟩,rfl,(v9 hn af).symm⟩,?_⟩;refine⟨e.2,ro e.1,rfl,ak,hok,hsz,λq H2 s2 hq hQ=>?_⟩;have ab:=s2 _ _ hD.d;have ao:I.length<=i:=by
    have:=Nl MQ J;rw[LV,ML] at this
    lia
   have au:=(List.getElem?_eq_some_iff.mp he).1;refine⟨_,rfl,_,rfl,p,_,rfl,iQ.k (k:=MF e.1) ab (by rw[nF];lia),?_⟩;have ag:e.1∉I.map (·.1):=by
    rw[J];exact oY hn (oU he)
   have aq:H q=none:=sm.free U hq
   have ar:q≠p:=λz=>by rw[z,ab] at hQ;cases hQ
   refine⟨I++[(e.1,q)],_,rfl,λb u q1 q2=>?_,?_,hD.new ag aq (λz=>?_) ?_ (λe' ah n1 n2 hf=>?_) ?_,?_⟩
   ·rw[cW (dF q1 hp)];exact s2 _ _ (sm _ _ q1 q2)
   ·rw[cW aa];exact s2 _ _ U
   ·obtain⟨e',ah,z⟩:=List.mem_map.mp z;have:=hD.f e' ah;rw[z,FK,hq] at this;cases this
   ·rw[cT,uf (qU ag)]
   ·have h1:H2 e'.2=_:=s2 _ _ hf
    show upd H2 p _ e'.2=_;rw[cW (λz=>by rw[z,ab] at h1;cases h1)];exact h1
   ·show upd H2 p _ q=_;rw[cW ar];exact hQ
   ·rw[Mf,J,take_snoc (oU he)];rfl
  ·rintro σ H' ⟨I,o2,rfl,sm,U,hD,J⟩;rw[nF] at J;refine⟨_,rfl,k p I H' sm hp hD ?_⟩;rw[J,MZ (by rw[LV];exact Ma _)]
noncomputable def FX(f:Str->LR V):Hp->LS->Str->Prop:=λH a w=>H a=some (.lst (f w))
noncomputable def xh:Sp:=λvs H Q _=>∃(d:LS) (es:En) (f:Str->LR V),vs=[.ref d]/\H d=some (.dK (eD es))/\(es.map (·.1)).Nodup/\es.length<=9000/\(∀ e∈es,H e.2=some (.lst (f e.1)))/\
 ∀ p I H',SameBut d H H'->H p=none->DL H H' p I (FX f)->I.map (·.1)=es.map (·.1)->Q (.ref p) H'
theorem uJ:dC ["rows","copies","word"] ["rows"] (c9 qA):=⟨rfl,rfl,rfl,dkq,rfl,dkq,dkq⟩
seal dj PS PE PT PA PG PI dE dD in
theorem Jn{f:LS}{fd:Mj}(D:Df K mg "copied_rows" qA f fd)(T:Txt mg):cV P w K mg base dc 1 f fd ["rows"] xh:=by
 refine D.F.ok uJ (λvs H Q E h=>?_) (λcdv A outer s H vs Q E hr h=>?_)
 ·obtain⟨d,es,ro,rfl,_⟩:=h;rfl
 ·obtain⟨d,es,fl,rfl,hd,hn,hlen,ae,k⟩:=h;have hl:(sizeLine:Nat)=16777216:=Mt;have hu:=iP hr;refine⟨_,cU (di (i:=1) uJ.nd rfl (Mh rfl) jV)
   (cU (fx MK rfl (vp (pv 0)) (dB (i:=2) uJ.nd rfl (Mh rfl))
    (cY (me hu (pv 1) (pv 2) (jw qw rfl T.list jL (cP (oj hu (pv 0) (pv 2) (λ_ _=>rfl)) cQ)) rfl)))
   (cY (dg (pv 1)))),?_⟩;intro p hp;have aa:d≠p:=dF hd hp;refine⟨_,rfl,d,eD es,rfl,(by rw[cW aa];exact hd),λo=>?_⟩;refine tM (kvs:=eD es) (λi σ H'=>∃(I:En) (o2:Mc V),σ=[some (.ref d),some (.ref p),o2]/\SameBut d H H'/\H' d=some (.frz o (.dK (eD es)))/\DL H H' p I (FX fl)/\I.map (·.1)=(es.map (·.1)).take i) ?_ ?_ ?_ ?_
  ·refine⟨[],none,rfl,λb u e hb=>?_,cT,⟨?_,NK,NK,(λe he=>nomatch he),(λe he=>nomatch he)⟩,rfl⟩
   ·rw[cW hb,cW (dF e hp)];exact e
   ·rw[cW (Nt aa),cT];rfl
  ·rintro i σ H' _ ⟨_,_,_,_,h,_⟩;exact h
  ·rintro i kv σ H' ai ⟨I,o2,rfl,sm,U,hD,J⟩;obtain⟨e,he,rfl⟩:=uO ai;have af:=List.mem_of_getElem? he;have hR:=ae e af;have aj:e.2≠d:=λz=>by rw[z,hd] at hR;cases hR
   have ak:=sm _ _ hR aj;refine⟨_,rfl,_,rfl,d,.ref e.2,rfl,.inl ⟨eD es,MF e.1,.inr ⟨o,U⟩,rfl,(v9 hn af).symm⟩,?_⟩;refine⟨e.2,fl e.1,rfl,.inl (cS.of ak),λq hq=>?_⟩;have s2:cR H' (upd H' q (.lst (fl e.1))):=da hq;have hQ:upd H' q (.lst (fl e.1)) q=some (.lst (fl e.1)):=cT;generalize upd H' q (.lst (fl e.1))=H2 at s2 hQ ⊢;have ab:=s2 _ _ hD.d;have ao:I.length<=i:=by
    have:=Nl MQ J;rw[LV,ML] at this
    lia
   have au:=(List.getElem?_eq_some_iff.mp he).1;refine⟨_,rfl,_,rfl,p,_,rfl,iQ.k (k:=MF e.1) ab (by rw[nF];lia),?_⟩;have ag:e.1∉I.map (·.1):=by
    rw[J];exact oY hn (oU he)
   have aq:H q=none:=sm.free U hq
   have ar:q≠p:=λz=>by rw[z,ab] at hQ;cases hQ
   refine⟨I++[(e.1,q)],_,rfl,λb u q1 q2=>?_,?_,hD.new ag aq (λz=>?_) ?_ (λe' ah n1 n2 hf=>?_) ?_,?_⟩
   ·rw[cW (dF q1 hp)];exact s2 _ _ (sm _ _ q1 q2)
   ·rw[cW aa];exact s2 _ _ U
   ·obtain⟨e',ah,z⟩:=List.mem_map.mp z;have:=hD.f e' ah;rw[z,FX,hq] at this;cases this
   ·rw[cT,uf (qU ag)]
   ·have h1:H2 e'.2=_:=s2 _ _ hf
    show upd H2 p _ e'.2=_;rw[cW (λz=>by rw[z,ab] at h1;cases h1)];exact h1
   ·show upd H2 p _ q=_;rw[cW ar];exact hQ
   ·rw[Mf,J,take_snoc (oU he)];rfl
  ·rintro σ H' ⟨I,o2,rfl,sm,U,hD,J⟩;rw[nF] at J;refine⟨_,rfl,k p I H' sm hp hD ?_⟩;rw[J,MZ (by rw[LV];exact Ma _)]
end
structure gN (cZ : LR (LR Str)) : Prop where
 l : cZ.length<=300
 t : d8 cZ<=1300
theorem gN.sz {cZ:LR (LR Str)}(h:gN cZ)(x:Str):Sz (rowOf x cZ 0):=by
 have h1:=(qh x cZ 0).1
 have h2:=uR x cZ 0 0
 have U:=h.l
 have h4:=h.t
 have I:∀ y∈rn 0 (rowOf x cZ 0),y<128 ^ (1+1):=λy J=>by
  have:=zF x 3000 cZ 0 0 (by lia) (λws hw=>by have:=wD hw;lia) y J
  have e:128 ^ (1+1)=16384:=rfl
  lia
 have h6:=Bt 1 _ I;exact⟨by lia,by lia,by lia⟩
theorem gN.ok {cZ:LR (LR Str)}(x:Str):iM 0 (rowOf x cZ 0):=K6 x cZ 0 0 (Ma _)
section
variable {P : Mq} {w : MT} {K : Mz} {mg : Str -> Mc LW} {base : Nn}
noncomputable def kf(H:Hp):LR V->LR (LR Str)->Prop:=MY λv ws=>∃ p,v= .ref p/\H p=some (.lst (sl ws))
theorem kf.same {H H':Hp}{xs:LR V}{t:LR (LR Str)}(h:kf H xs t)(s:cR H H'):kf H' xs t:=Gn.Paired.imp2 h λ_ _ ⟨p,e,q⟩=>⟨p,e,s _ _ q⟩
noncomputable def FR(cZ:LR (LR Str)):Hp->LS->Str->Prop:=λH a w=>eQ H a (rowOf w cZ 0)
noncomputable def wX:Sp:=λvs H Q _=>∃(a:LS) (xs:LR V) (cZ:LR (LR Str)),vs=[.ref a]/\H a=some (.lst xs)/\kf H xs cZ/\gN cZ/\
 ∀ p es H',cR H H'->H p=none->DL H H' p es (FK λx=>rowOf x cZ 0)->es.length<=d8 cZ->(∀ x,x∈es.map (·.1)↔∃ ws∈cZ,x∈ws)->Q (.ref p) H'
theorem m6:dC ["texts_words","rows","number","words","places","word"] ["texts_words"] (c9 oV):=⟨rfl,rfl,rfl,dkq,rfl,dkq,dkq⟩
noncomputable def mid(t1 t2:LR (LR Str))(ks:LR Str)(x:Str):LR Pr:=if x∈ks then rowOf x t2 0 else rowOf x t1 0
noncomputable def FM(t1 t2:LR (LR Str))(ks:LR Str):Hp->LS->Str->Prop:=λH a w=>eQ H a (mid t1 t2 ks w)
theorem Jr{t1 t2:LR (LR Str)}{ks:LR Str}{x y:Str}(h:y≠x):mid t1 t2 (ks++[x]) y=mid t1 t2 ks y:=by
 unfold mid;have e:(y∈ks++[x])↔y∈ks:=by
  rw[Ot,N8];exact⟨λq=>q.elim id λz=>absurd z h,.inl⟩
 by_cases q:y∈ks
 ·rw[LZ q,LZ (e.mpr q)]
 ·rw[LX q,LX (λz=>q (e.mp z))]
theorem J1{t1 t2:LR (LR Str)}{ks:LR Str}{x:Str}:mid t1 t2 (ks++[x]) x=rowOf x t2 0:=LZ (by simp)
theorem qI{t1 t2:LR (LR Str)}{ks:LR Str}{x:Str}(h:x∉ks):mid t1 t2 ks x=rowOf x t1 0:=LX h
seal dj PS PE PT PA PG PI dE dD in
theorem Jw{f fp fr:LS}{fd fdp fdr:Mj}(D:Df K mg "rows_by_word" oV f fd)(DP:Df K mg "places_by_word" p8 fp fdp)(GP:cV P w K mg base dc 1 fp fdp ["words"] xY)
  (DR:Df K mg "packed_rows" oF fr fdr)(GR:cV P w K mg base dc 6 fr fdr ["rows"] ub)(T:Txt mg):cV P w K mg base dc 7 f fd ["texts_words"] wX:=by
 have bP:=eI (p:="words") DP.F λ_ _ _ _ _ _ _=>rfl
 have bR:=eI (p:="rows") DR.F λ_ _ _ _ _ _ _=>rfl
 refine D.F.ok m6 (λvs H Q E h=>?_) (λcdv A outer s H vs Q E hr h=>?_)
 ·obtain⟨a,xs,cZ,rfl,_⟩:=h;rfl
 ·obtain⟨a,xs,cZ,rfl,hA,hW,ai,k⟩:=h;have hl:(sizeLine:Nat)=16777216:=Mt;have hu:=iP hr;have aW:=Gn.Paired.len hW;have bb:=ai.l;have bc:=ai.t;refine⟨_,cU (di (i:=1) m6.nd rfl (Mh rfl) jV)
   (cU (fx MK rfl (pO rfl T.enum (cP (pv 0) cQ)) (ir (n:=2) rfl (fe (dB (i:=2) m6.nd rfl (Mh rfl)) (fe (dB (i:=3) m6.nd rfl (Mh rfl)) il)))
    (cU (di (i:=4) m6.nd rfl (Mh rfl) (dw (GP.mono (by decide)) hr rfl DP.m DP.F.kp bP .nil du (cP (pv 3) cQ)))
    (cY (fx MK rfl (vp (pv 4)) (dB (i:=5) m6.nd rfl (Mh rfl))
     (cY (fv (eV MP MN MS gE
      (PE.imp (t':=rR 1 5) (eV OL O3 P4 vc (pv 1) (cP (pv 5) (cP (dZ cQ) cQ))) λ_ _ _=>getL)
      (cP (ip (cP (pv 2) (cP (jw zP rfl T.tuple pM (cP (oj hu (pv 4) (pv 5) (λ_ _=>rfl)) cQ)) cQ))) cQ))))))))
   (cY (dg (dw GR hr rfl DR.m DR.F.kp bR .nil du (cP (pv 1) cQ))))),?_⟩;intro d hd;refine⟨_,rfl,a,xs,rfl,da hd _ _ hA,?_⟩;refine pX (xs:=xs) (λi σ H'=>∃(es:En) (o2 o3 o4 o5:Mc V),σ=[some (.ref a),some (.ref d),o2,o3,o4,o5]/\cR H H'/\DL H H' d es (FR (cZ.take i))/\es.length<=d8 (cZ.take i)/\(∀ x,x∈es.map (·.1)↔∃ ws∈cZ.take i,x∈ws)) ?_ ?_ ?_ ?_
  ·exact⟨[],none,none,none,none,rfl,da hd,⟨cT,NK,NK,(λe he=>nomatch he),(λe he=>nomatch he)⟩,Ma _,λx=>by simp⟩
  ·rintro i σ H' _ ⟨_,_,_,_,_,_,sm,_⟩;exact sm _ _ hA
  ·rintro i x σ H' t hx ⟨es,o2,o3,o4,o5,rfl,sm,U,af,aa⟩ ht;obtain⟨ws,av,pw,rfl,aX⟩:=fX hW hx;have st:cR H' (upd H' t (.tup [.int i,.ref pw])):=da ht;refine⟨t,_,rfl,dY.of cT,rfl,_,_,rfl,_,_,rfl,rfl,?_⟩;generalize upd H' t (.tup [.int i,.ref pw])=H1 at st ⊢;have bf:ws.length<=1300:=by have:=wD (List.mem_of_getElem? av);lia
   have aB:=sm.trans st;refine⟨_,rfl,pw,ws,rfl,aB _ _ aX,by lia,λdp ep H2 s2 aC hP aY ab=>?_⟩;have aZ:=aB.trans s2;have aK:=st.trans s2;refine⟨_,rfl,dp,eD ep,rfl,hP.d,λo=>?_⟩;have e1:cZ.take (i+1)=cZ.take i++[ws]:=take_snoc av;have e2:(cZ.take i).length=i:=rl av;have aL:H dp=none:=aB.free aC;have aM:d≠dp:=λz=>by rw[<-z,st _ _ U.d] at aC;cases aC
   have aw:∀ u,u∈ws->rowOf u (cZ.take (i+1)) 0=rowOf u (cZ.take i) 0++[(i,d7 u ws 0)]:=λu aD=>by
    rw[e1,uV,LZ aD,e2,P5]
   have aj:∀ u,u∉ws->rowOf u (cZ.take (i+1)) 0=rowOf u (cZ.take i) 0:=λu aD=>by
    rw[e1,uV,LX aD,MR]
   refine tM (kvs:=eD ep) (λj σ H3=>∃(es:En) (o5:Mc V),σ=[some (.ref a),some (.ref d),some (.int (i:Int)),some (.ref pw),some (.ref dp),o5]/\cR H H3/\H3 dp=some (.frz o (.dK (eD ep)))/\
    (∀ e∈ep,H3 e.2=some (.lst (nl (d7 e.1 ws 0))))/\(∀ e∈ep,∀ J∈es,e.2≠J.2)/\DL H H3 d es (FM (cZ.take i) (cZ.take (i+1)) ((ep.map (·.1)).take j))/\es.length<=d8 (cZ.take i)+j/\
    (∀ x,x∈es.map (·.1)↔(∃ ws∈cZ.take i,x∈ws)\/x∈(ep.map (·.1)).take j)) ?_ ?_ ?_ ?_
   ·have a0:=aK _ _ U.d;refine⟨es,_,rfl,λb u e=>?_,cT,λe he=>?_,λe he J I z=>?_,⟨?_,U.k,U.a,U.n,λe he=>?_⟩,af,λx=>?_⟩
    ·rw[cW (dF e aL)];exact aZ _ _ e
    ·have h1:H2 e.2=_:=hP.f e he;rw[cW (λz=>by rw[z,hP.d] at h1;cases h1)];exact h1
    ·obtain⟨ys,h1,_⟩:=U.f J I;have h2:=hP.n e he;rw[z,st _ _ h1] at h2;cases h2
    ·rw[cW aM];exact a0
    ·show eQ _ e.2 (mid _ _ _ e.1);rw[qI (by simp)];have hR:eQ H2 e.2 (rowOf e.1 (cZ.take i) 0):=(U.f e he).same aK;refine hR.but (x:=dp) (λb u q hb=>by rw[cW hb];exact q) (λz=>?_) λts z=>by rw[hP.d] at z;cases z
     obtain⟨ys,h1,_⟩:=hR;rw[z,hP.d] at h1;cases h1
    ·rw[aa];simp
   ·rintro j σ H3 _ ⟨_,_,_,_,h,_⟩;exact h
   ·rintro j kv σ H3 a3 ⟨es,o5,rfl,ax,aN,ay,aE,U,af,aa⟩;obtain⟨e,he,rfl⟩:=uO a3;have aF:=List.mem_of_getElem? he;have aO:=oU he;have aG:(ep.map (·.1)).take (j+1)=(ep.map (·.1)).take j++[e.1]:=take_snoc aO;have ak:e.1∉(ep.map (·.1)).take j:=oY hP.k aO;have aP:e.1∈ws:=(ab e.1).mp (List.mem_map.mpr ⟨e,aF,rfl⟩);have bg:=(List.getElem?_eq_some_iff.mp he).1;have bh:=Ag cZ i;have a4:∀ J∈es,∃ l,H3 J.2=some (.lst l):=λJ I=>let ⟨ys,h1,_⟩:=U.f J I;⟨ys,h1⟩
    refine⟨H,d,es,e.1,FM (cZ.take i) (cZ.take (i+1)) ((ep.map (·.1)).take j),rfl,rfl,U,by lia,λz hz=>ax.free hz,a4,?_,?_,?_⟩
    ·intro G b y l sb hb hf;exact eQ.but hf sb (λq=>by rw[q,U.d] at hb;cases hb) λts q=>by rw[U.d] at q;cases q
    ·intro G z hn hz;refine⟨[],hz,?_⟩;rw[qI ak,(nL e.1 _ 0).mpr λao a5 q=>hn ((aa e.1).mpr (.inl ⟨ao,a5,q⟩))];exact .nil
    ·rintro p aq H4 sb ar hp aH ⟨l,aY⟩;obtain⟨ys,ag,aI⟩:=ar.f _ hp;rw[qI ak] at aI;have a6:dp≠d:=Nt aM;have ae:=sb _ _ aN a6;have aQ:∀ J∈ep,J.2≠d:=λJ I q=>by
      have:=ay J I;rw[q,U.d] at this;cases this
     have az:∀ J∈ep,H4 J.2=some (.lst (nl (d7 J.1 ws 0))):=λJ I=>sb _ _ (ay J I) (aQ J I)
     have aA:∀ J∈ep,∀ e2∈aq,J.2≠e2.2:=λJ I e2 he2=>by
      rcases aH with rfl|⟨_,rfl,a7⟩
      ·exact aE J I e2 he2
      ·rcases List.mem_append.mp he2 with he2|he2
       ·exact aE J I e2 he2
       ·rw[List.mem_singleton.mp he2];exact dF (ay J I) a7
     have bj:ys.length<=300:=by
      have h1:=Gn.Paired.len aI
      have h2:=(qh e.1 (cZ.take i) 0).1
      have h3:=(List.getElem?_eq_some_iff.mp av).1;rw[h1];show(rowOf e.1 (cZ.take i) 0).length<=300
      lia
     refine⟨.inl ⟨rfl,_,cS.of ag⟩,?_⟩;refine⟨_,rfl,_,rfl,_,rfl,dp,.ref e.2,rfl,.inl ⟨eD ep,MF e.1,.inr ⟨o,ae⟩,rfl,(v9 hP.k aF).symm⟩,?_⟩;refine⟨e.2,_,rfl,.inl ⟨cS.of (az e aF),λpt a8=>⟨(by show 2<=sizeLine;decide),λpp aR=>?_⟩⟩⟩;have s5:cR H4 (upd H4 pt (.tup (nl (d7 e.1 ws 0)))):=da a8;have h5:(upd H4 pt (.tup (nl (d7 e.1 ws 0)))) pt=some (.tup (nl (d7 e.1 ws 0))):=cT;generalize upd H4 pt (.tup (nl (d7 e.1 ws 0)))=H5 at s5 h5 aR ⊢;have s6:cR H5 (upd H5 pp (.tup [.int (i:Int),.ref pt])):=da aR;have h6:(upd H5 pp (.tup [.int (i:Int),.ref pt])) pp=some (.tup [.int (i:Int),.ref pt]):=cT;generalize upd H5 pp (.tup [.int (i:Int),.ref pt])=H6 at s6 h6 ⊢;have aJ:=s5.trans s6;have hv:gw H6 (.ref pp) (i,d7 e.1 ws 0):= .mk h6 (s6 _ _ h5);have aS:MY (gw H6) ys (rowOf e.1 (cZ.take i) 0):=Gn.Paired.imp2 aI λ_ _ q=>q.same aJ
     have aT:=aJ _ _ ag;refine⟨p,ys,_,rfl,rfl,aT,by lia,?_⟩;have ah:SameBut p H4 (upd H6 p (.lst (ys++[.ref pp]))):=λb u q hb=>by rw[cW hb];exact aJ _ _ q
     have aU:=eQ.snoc aT aS hv;generalize upd H6 p (.lst (ys++[.ref pp]))=H7 at ah aU ⊢;have a9:d≠p:=λq=>by rw[<-q,ar.d] at ag;cases ag
     have nt:∀ ts,H4 p≠some (.tup ts):=λts q=>by rw[ag] at q;cases q
     refine⟨aq,_,rfl,λb u q=>?_,?_,λJ I=>?_,aA,ar.put hp (ah _ _ ar.d a9) (λJ I n1 n2 hf=>?_) ?_,?_,λx=>?_⟩
     ·exact ah _ _ (sb.new ax hd _ _ q) (dF q (ar.n _ hp))
     ·exact ah _ _ ae λq=>by rw[q,ag] at ae;cases ae
     ·exact ah _ _ (az J I) (aA J I _ hp)
     ·show eQ H7 J.2 (mid _ _ _ J.1);rw[aG,Jr n1];exact eQ.but hf ah n2 nt
     ·show eQ H7 p (mid _ _ _ e.1);rw[aG,J1,aw e.1 aP];exact aU
     ·rcases aH with rfl|⟨_,rfl,_⟩
      ·lia
      ·rw[Md];show es.length+1<=_
       lia
     ·have hm:x∈aq.map (·.1)↔x∈es.map (·.1)\/x=e.1:=by
       rcases aH with rfl|⟨_,rfl,_⟩
       ·exact⟨.inl,λq=>q.elim id λz=>by rw[z];exact List.mem_map.mpr ⟨_,hp,rfl⟩⟩
       ·rw[Mf,Ot];show(_\/x∈[e.1])↔_;rw[N8]
      rw[hm,aa,aG,Ot,N8,or_assoc]
   ·rintro σ H3 ⟨es,o5,rfl,ax,aN,ay,aE,U,af,aa⟩;rw[nF] at U af aa;have ba:(ep.map (·.1)).take ep.length=ep.map (·.1):=MZ (by rw[LV];exact Ma _);rw[ba] at U aa;refine⟨es,_,_,_,_,rfl,ax,⟨U.d,U.k,U.a,U.n,λe he=>?_⟩,?_,λx=>?_⟩
    ·have hf:eQ H3 e.2 (mid _ _ _ e.1):=U.f e he
     show eQ H3 e.2 _;by_cases q:e.1∈ep.map (·.1)
     ·rw[mid,LZ q] at hf;exact hf
     ·rw[qI q] at hf;rw[aj e.1 λz=>q ((ab e.1).mpr z)];exact hf
    ·rw[e1,HX]
     lia
    ·rw[aa,e1];constructor
     ·rintro(⟨ao,h1,h2⟩|q)
      ·exact⟨ao,MX _ h1,h2⟩
      ·exact⟨ws,MA _ (List.mem_singleton.mpr rfl),(ab x).mp q⟩
     ·rintro⟨ao,h1,h2⟩;rcases List.mem_append.mp h1 with h1|h1
      ·exact .inl ⟨ao,h1,h2⟩
      ·rw[List.mem_singleton.mp h1] at h2;exact .inr ((ab x).mpr h2)
  ·rintro σ H' ⟨es,o2,o3,o4,o5,rfl,sm,U,af,aa⟩;rw[aW,MG] at U af aa;refine⟨_,rfl,d,es,λx=>rowOf x cZ 0,rfl,U.d,U.k,by lia,λe he=>⟨U.f e he,gN.ok e.1,ai.sz e.1⟩,λp aq H2 sb hp au aV=>?_⟩;have hle:=Nl MQ aV;rw[LV,LV] at hle;exact k p aq H2 (sb.new sm hd) (sm.free hp) ⟨au.d,au.k,au.a,λe he=>sm.free (au.n e he),au.f⟩ (by lia) λx=>by rw[aV];exact aa x
end
noncomputable def eX(H:Hp):LR V->LR (V×V)->Prop:=MY λv kt=>∃ p,v= .ref p/\H p=some (.tup [kt.1,kt.2])
theorem eX.same {H H':Hp}{xs:LR V}{t:LR (V×V)}(h:eX H xs t)(s:cR H H'):eX H' xs t:=Gn.Paired.imp2 h λ_ _ ⟨p,e,q⟩=>⟨p,e,s _ _ q⟩
noncomputable def gq:V->Str
 |.str z=>z
 |_=>NU
noncomputable def iA:LR Str->LR (V×V)->Mc Nat
 |_,[]=>none
 |seen,(k,t)::r=>if dA 12 k=false then some 0 else if dX t=false then some 1 else if gq k∈seen then some 2 else iA (seen++[gq k]) r
noncomputable def kp(p:Str×Str):V×V:=(.str p.1,.str p.2)
structure lg (ps : LR (Str × Str)) : Prop where
 g : ∀ p ∈ ps, dA 12 (.str p.1) = true /\ dX (.str p.2) = true
 n : (ps.map (·.1)).Nodup
theorem rg{m:Nat}{v:V}(h:dA m v=true):∃ z,v= .str z:=by cases v<;>first|exact⟨_,rfl⟩|cases h
theorem CY{v:V}(h:dX v=true):∃ z,v= .str z:=by cases v<;>first|exact⟨_,rfl⟩|cases h
theorem yg:∀{kts:LR (V×V)} {seen:LR Str},iA seen kts=none->∃ ps:LR (Str×Str),kts=ps.map kp/\(∀ p∈ps,dA 12 (.str p.1)=true/\dX (.str p.2)=true)/\(∀ p∈ps,p.1∉seen)/\(ps.map (·.1)).Nodup
 |[],_,_=>⟨[],rfl,(λp hp=>nomatch hp),(λp hp=>nomatch hp),NK⟩
 |(k,t)::r,seen,h=>by
  unfold iA at h;by_cases h1:dA 12 k=false
  ·rw[LZ h1] at h;cases h
  ·rw[LX h1] at h;by_cases h2:dX t=false
   ·rw[LZ h2] at h;cases h
   ·rw[LX h2] at h;by_cases I:gq k∈seen
    ·rw[LZ I] at h;cases h
    ·rw[LX I] at h;obtain⟨ps,e,a,b,c⟩:=yg h;obtain⟨z,rfl⟩:=rg (by simpa using h1);obtain⟨y,rfl⟩:=CY (by simpa using h2);refine⟨(z,y)::ps,by rw[e];rfl,λp hp=>?_,λp hp=>?_,?_⟩
     ·rcases List.mem_cons.mp hp with rfl|hp
      ·exact⟨by simpa using h1,by simpa using h2⟩
      ·exact a p hp
     ·rcases List.mem_cons.mp hp with rfl|hp
      ·exact I
      ·exact λq=>b p hp (MX _ q)
     ·show(z::ps.map (·.1)).Nodup;refine List.nodup_cons.mpr ⟨λq=>?_,c⟩;obtain⟨p,hp,e⟩:=List.mem_map.mp q;exact b p hp (by rw[e];exact MA _ (List.mem_singleton.mpr rfl))
noncomputable def gK(ks:LR Str):LR (Key×V):=ks.zipIdx.map λp=>((MF p.1:Key),V.int (p.2:Int))
theorem Ku(ks:LR Str)(z:Str):gK (ks++[z])=gK ks++[((MF z:Key),V.int (ks.length:Int))]:=by
 unfold gK;rw[List.zipIdx_append,Mf];simp
theorem xS(ks:LR Str):(gK ks).length=ks.length:=by unfold gK;simp
theorem Bg(ks:LR Str):(gK ks).map (·.1)=ks.map MF:=by
 unfold gK;rw[NG];have:((λx:Key×V=>x.1) ∘ λp:Str×Nat=>((MF p.1:Key),V.int (p.2:Int)))=(MF ∘ Prod.fst:Str×Nat->Key):=rfl;rw[this,<-NG,List.zipIdx_map_fst]
theorem sY{ks:LR Str}{z:Str}(h:z∉ks):dQ (gK ks) (MF z)=none:=by
 cases q:dQ (gK ks) (MF z) with
 |none=>rfl
 |some v=>
  have:=EZ q;rw[Bg] at this;obtain⟨y,I,e⟩:=List.mem_map.mp this;rw[Ph e] at I;exact absurd I h
theorem Af{ks:LR Str}{z:Str}(h:z∈ks):∃ v,dQ (gK ks) (MF z)=some v:=by
 cases q:dQ (gK ks) (MF z) with
 |some v=>exact⟨v,rfl⟩
 |none=>
  have:=BW q;rw[Bg] at this;exact absurd (List.mem_map.mpr ⟨z,h,rfl⟩) this
noncomputable def yH(C0 C1 C2:LS):Nat->LS
 |0=>C0
 |1=>C1
 |_=>C2
section
variable {P : Mq} {w : MT} {K : Mz} {mg : Str -> Mc LW} {base : Nn} {CK CT CW : LS}
noncomputable def AB(K:Mm)(H:Hp)(kt:V×V):Prop:=Known K H kt.1/\fT kt.1/\Known K H kt.2/\fT kt.2
noncomputable def wU(K:Mm)(CK CT CW:LS):Sp:=λvs H Q E=>∃(a:LS) (xs:LR V) (I:LR (V×V)),vs=[.ref a]/\H a=some (.lst xs)/\eX H xs I/\I.length<=1000/\(∀ kt∈I,AB K H kt)/\
 (iA [] I=none->∀ p H',cR H H'->H p=none->H' p=some (.dK (gK (I.map λkt=>gq kt.1)))->Q (.ref p) H')/\(∀ i,iA [] I=some i->∀ H',cR H H'->E (.ref (yH CK CT CW i)) none H')
theorem sF:dC ["pairs","numbers","key","text"] ["pairs"] (c9 oS):=⟨rfl,rfl,rfl,dkq,rfl,dkq,dkq⟩
seal dj PS PE PT PA PG PI dE dD in
theorem Gv{f fk ft:LS}{fd fdk fdt:Mj}(D:Df K mg "numbers_by_key" oS f fd)(DK:Df K mg "need_key" mY fk fdk)(GK:cV P w K mg base (dz P w) 3 fk fdk ["thing"] (jQ K (dA 12) CK))
  (DT:Df K mg "need_text" lC ft fdt)(GT:cV P w K mg base (dz P w) 3 ft fdt ["thing"] (jQ K dX CT))(X:Ex K mg "Twice" CW)(T:Txt mg):cV P w K mg base (dz P w) 4 f fd ["pairs"] (wU K CK CT CW):=by
 have bK:=eI (p:="thing") DK.F λ_ _ _ _ _ _ _=>rfl
 have bT:=eI (p:="thing") DT.F λ_ _ _ _ _ _ _=>rfl
 refine D.F.ok1 sF (λvs H Q E h=>?_) (λcdv A outer s H vs Q E hr h=>?_)
 ·obtain⟨a,xs,J,rfl,_⟩:=h;rfl
 ·obtain⟨a,xs,J,rfl,hA,hP,hlen,hk,k1,k2⟩:=h;have hl:(sizeLine:Nat)=16777216:=Mt;have hu:=iP hr;have af:=Gn.Paired.len hP;refine⟨_,cU (di (i:=1) sF.nd rfl (Mh rfl) jV)
   (cU (fx Pe rfl (eZ (pv 0)) (ir (n:=2) rfl (fe (dB (i:=2) sF.nd rfl (Mh rfl)) (fe (dB (i:=3) sF.nd rfl (Mh rfl)) il)))
    (cU (fv (dw GK hr rfl DK.m DK.F.kp bK .nil (gP (E':=E) (λ_ _ _ h=>h)) (cP (pv 2) cQ)))
    (cU (fv (dw GT hr rfl DT.m DT.F.kp bT .nil (gP (E':=E) (λ_ _ _ h=>h)) (cP (pv 3) cQ)))
    (cU (dP (iZ (nC hu (pv 2) (pv 1))) (cY (ji rfl X.q Na dkq Na rfl X.m (cP dq cQ) jm)) dO)
    (cY (me hu (pv 1) (pv 2) (dR zO rfl T.len gf (cP (pv 1) cQ)) rfl))))))
   (cY (dg (pv 1)))),?_⟩;intro d hd;refine⟨_,rfl,a,rfl,⟨_,cS.of (da hd _ _ hA)⟩,?_⟩;refine iW (xs:=xs) (λi σ H'=>∃(o2 o3:Mc V),σ=[some (.ref a),some (.ref d),o2,o3]/\cR H H'/\H' d=some (.dK (gK ((J.take i).map λkt=>gq kt.1)))/\iA [] J=iA ((J.take i).map λkt=>gq kt.1) (J.drop i)) ?_ ?_ ?_ ?_
  ·exact⟨none,none,rfl,da hd,cT,rfl⟩
  ·rintro i σ H' _ ⟨_,_,_,sm,_⟩;exact cS.of (sm _ _ hA)
  ·rintro i x σ H' hx ⟨o2,o3,rfl,sm,aa,I⟩;obtain⟨kt,U,p,rfl,hp⟩:=fX hP hx;obtain⟨kv,tv⟩:=kt;obtain⟨c1,c2,c3,c4⟩:=hk _ (List.mem_of_getElem? U);have ai:=(List.getElem?_eq_some_iff.mp U).1;rw[lj U] at I
   replace I:iA [] J=(if dA 12 kv=false then some 0 else if dX tv=false then some 1 else if gq kv∈((J.take i).map λkt=>gq kt.1) then some 2 else iA (((J.take i).map λkt=>gq kt.1)++[gq kv]) (J.drop (i+1))):=I
   refine⟨p,_,rfl,dY.of (sm _ _ hp),rfl,_,_,rfl,_,_,rfl,rfl,?_⟩;refine⟨_,rfl,kv,rfl,c1.same sm,c2,λhg H1 s1=>?_,λhg H1 s1=>?_⟩
   ·rw[LX (by rw[hg];decide)] at I;have ab:=sm.trans s1;refine⟨_,rfl,tv,rfl,c3.same ab,c4,λae H2 s2=>?_,λae H2 s2=>?_⟩
    ·rw[LX (by rw[ae];decide)] at I;have ag:=ab.trans s2;obtain⟨z,rfl⟩:=rg hg;have hd2:=s2 _ _ (s1 _ _ aa);refine⟨_,rfl,_,rfl,d,_,rfl,gh.k (k:=MF z) hd2,_,rfl,?_⟩;by_cases hz:z∈(J.take i).map λkt=>gq kt.1
     ·obtain⟨v,hv⟩:=Af hz;rw[hv];refine dG ⟨by show 1<=sizeLine;decide,k2 2 ?_ H2 ag⟩;rw[I,LZ (show gq (V.str z)∈_ from hz)]
     ·rw[sY hz];rw[LX (show ¬ gq (V.str z)∈_ from hz)] at I;have ah:((J.take i).map λkt=>gq kt.1).length=i:=by rw[LV,rl U]
      refine df ⟨_,rfl,d,_,rfl,hd2,_,rfl,_,rfl,d,_,rfl,iQ.k (k:=MF z) hd2 (by rw[xS,ah];lia),?_⟩;refine⟨_,_,rfl,λb u e=>?_,?_,?_⟩
      ·rw[cW (dF e hd)];exact ag _ _ e
      ·rw[cT,uF _ (sY hz),take_snoc U,Mf];show some (HO.dK (gK _++[((MF z:Key),V.int ((gK _).length:Int))]))=some (HO.dK (gK (_++[z])));rw[Ku,xS]
      ·rw[I,take_snoc U,Mf];rfl
    ·rw[LZ ae] at I;exact k2 1 I H2 (ab.trans s2)
   ·rw[LZ hg] at I;exact k2 0 I H1 (sm.trans s1)
  ·rintro σ H' ⟨o2,o3,rfl,sm,aa,I⟩;rw[af,MG] at aa;rw[af,Oh] at I;exact⟨_,rfl,k1 I d H' sm hd aa⟩
end
end K25
namespace Gn
open PySem L2 PyProof.Rows PySem.Spec
noncomputable def D7(K:Mm):LR V->Hp->VK->Prop:=λxs H Q=>∃ p ys,xs=[.ref p]/\(cS K H p ys\/dY K H p ys)/\Q (.int ys.length) H
theorem zw{X:Cx}{K:Mm}(h:X.K=K):gy X (.builtin "len") (D7 K):=by subst h;exact gZ
structure kK (K : Mm) (x qual : Str) (st : Nr) (f : LS) (fd : Mj) (items : Nd LW) : Prop where
 ex : ∃ (oc : LW) (od : Mc LS) (kV doc pm : LW) (an : Mc LS) (cdv ct : LW) (osl : Nd (Mc LW)) (T : LS) (o : Obj) (n : Nat),
  fd = NN x qual (eU st) (eG st) (c9 st) (.ref T) kV doc pm an cdv ct /\ K.lookup f = some ⟨oc, od, .func fd, osl⟩ /\ NA K cdv qual = true /\ K.lookup T = some o /\ o.data = .seq items n
section
variable {P : Mq} {w : MT} {K : Mz} {mg : Str -> Mc LW} {base : Nn}
theorem kK.ok1 {x qual:Str}{st:Nr}{f:LS}{fd:Mj}{items:Nd LW}{N ps:LR Str}{k:Nat}{sp:Sp}(F:kK K x qual st f fd items)(S:dC N ps (c9 st))(len:∀ vs H Q E,sp vs H Q E->vs.length=ps.length)
  (hbody:∀(cdv:LW) (A:Np) (outer:LR Env) (s:Me) (H:Hp) (vs:LR V) (Q:VK) (E:XK),eK k (A.deeper (Pc qual (c9 st) s.heap.objs.size f cdv))->sp vs H Q E->
   ∃ t,dj (fL (dz P w) P w K mg base N qual (c9 st) f cdv A outer s H E) (eG st) t/\t {nx:=λ_ H'=>Q .non H',rt:=Q} (L2.start N vs) H):cV P w K mg base (dz P w) (k+1) f fd ps sp:=by
 obtain⟨oc,od,kV,doc,pm,an,cdv,ct,U,T,o,n,rfl,lk,I,_⟩:=F.ex;exact rO lk I S len λA outer s H vs Q E hr J=>hbody cdv A outer s H vs Q E hr J
theorem kK.binds {x qual:Str}{st:Nr}{f:LS}{fd:Mj}{items:Nd LW}{ps:LR Str}{ds:LR LW}(F:kK K x qual st f fd items)
  (h:∀(T:LS) (kV doc pm:LW) (an:Mc LS) (cdv ct:LW) (us:LR LW),(us++ds).length=ps.length->∃ k:Mc (Nd LW)->Sem (LR (Str×LW)),
   RM (NN x qual (eU st) (eG st) (c9 st) (.ref T) kV doc pm an cdv ct) ⟨us,[]⟩=seqItems? (.ref T) >>= k/\k (some items)=pure (ps.zip (us++ds))):Binds K fd ps ds:=by
 obtain⟨oc,od,kV,doc,pm,an,cdv,ct,I,T,o,n,rfl,lk,J,U,hd⟩:=F.ex;intro s us X hl;obtain⟨k,h1,h2⟩:=h T kV doc pm an cdv ct us hl;exact BindsTo.of_defaults (T:=T) rfl (X _ _ U) hd h1 h2
end
end Gn
namespace K25
open PySem L2 PyProof.Rows PySem.Spec Gn K04 K01 BK
noncomputable def iD(dn pa sz dr ri:LS):LR (Str×V):=dM "rising" (.ref ri) (dM "rows" (.ref dr) (dM "sizes" (.ref sz) (dM "pairs" (.ref pa) (dM "numbers" (.ref dn) []))))
section
variable {dn pa sz dr ri : LS}
theorem Ik:(iD dn pa sz dr ri).lookup ("rising":Str)=some (.ref ri):=by
 unfold iD;rw[fR,LZ rfl]
theorem CC:(iD dn pa sz dr ri).lookup ("rows":Str)=some (.ref dr):=by
 unfold iD;rw[fR,LX dkq,fR,LZ rfl]
theorem Cd:(iD dn pa sz dr ri).lookup ("sizes":Str)=some (.ref sz):=by
 unfold iD;rw[fR,LX dkq,fR,LX dkq,fR,LZ rfl]
theorem rM:(iD dn pa sz dr ri).lookup ("pairs":Str)=some (.ref pa):=by
 unfold iD;rw[fR,LX dkq,fR,LX dkq,fR,LX dkq,fR,LZ rfl]
theorem vX:(iD dn pa sz dr ri).lookup ("numbers":Str)=some (.ref dn):=by
 unfold iD;rw[fR,LX dkq,fR,LX dkq,fR,LX dkq,fR,LX dkq,fR,LZ rfl]
theorem jo{m:Str}(h1:¬ m="rising")(h2:¬ m="rows")(h3:¬ m="sizes")(h4:¬ m="pairs")(h5:¬ m="numbers"):(iD dn pa sz dr ri).lookup m=none:=by
 unfold iD;rw[fR,LX h1,fR,LX h2,fR,LX h3,fR,LX h4,fR,LX h5];rfl
end
noncomputable def tw(z:Str):LR Str:=(words (codes z)).map λx=>(⟨x.1.toArray⟩:Str)
theorem Du(z:Str):pI (words (codes z))=sl (tw z):=by
 unfold pI sl tw;rw[NG];rfl
noncomputable def cZ(ps:LR (Str×Str)):LR (LR Str):=ps.map λp=>tw p.2
structure kY (H : Hp) (dr : LS) (t : LR (LR Str)) (es : En) : Prop where
 d : H dr = some (.dK (eD es))
 k : (es.map (·.1)).Nodup
 w : ∀ x, x ∈ es.map (·.1) ↔ ∃ ws ∈ t, x ∈ ws
 f : ∀ e ∈ es, H e.2 = some (.lst (nl (pk (rn 0 (rowOf e.1 t 0)))))
theorem kY.same {H H':Hp}{dr:LS}{t:LR (LR Str)}{es:En}(h:kY H dr t es)(s:cR H H'):kY H' dr t es:=⟨s _ _ h.d,h.k,h.w,λe he=>s _ _ (h.f e he)⟩
structure fC (C : LS) (H : Hp) (x : LS) (ps : LR (Str × Str)) : Prop where
 ex : ∃ (dx dn pa sz dr ri : LS) (xs : LR V) (es : En) (ts : LR Str), H x = some (.ins C dx (iD dn pa sz dr ri)) /\ H dn = some (.dK (gK (ps.map (·.1)))) /\ H pa = some (.lst xs) /\ eX H xs (ps.map kp) /\
  H sz = some (.lst (nl ((cZ ps).map MQ))) /\ kY H dr (cZ ps) es /\ H ri = some (.lst (sl ts)) /\ ts.Perm (es.map (·.1)) /\ Q6 ts = true
theorem fC.same {C:LS}{H H':Hp}{x:LS}{ps:LR (Str×Str)}(h:fC C H x ps)(s:cR H H'):fC C H' x ps:=by
 obtain⟨dx,dn,pa,sz,dr,ri,xs,es,ts,h1,h2,I,J,U,h6,h7,h8,h9⟩:=h.ex;exact⟨dx,dn,pa,sz,dr,ri,xs,es,ts,s _ _ h1,s _ _ h2,s _ _ I,J.same s,s _ _ U,h6.same s,s _ _ h7,h8,h9⟩
structure gB (K : Mm) (mg : Str -> Mc LW) (C : LS) : Prop where
 cl : iG K C
 nN : ja K C "numbers"
 nP : ja K C "pairs"
 nS : ja K C "sizes"
 nR : ja K C "rows"
 nI : ja K C "rising"
 mgC : mg "Book" = some (.ref C)
theorem qV{α:Type} [Qd α]:∀{l m:LR α},l.Nodup->(∀ x∈l,x∈m)->l.length<=m.length
 |[],_,_,_=>MM _
 |a::l,m,hn,h=>by
  obtain⟨J,U⟩:=List.nodup_cons.mp hn;have ha:=h a Mi;have:=qV (m:=m.erase a) U λx I=>(List.mem_erase_of_ne λz=>J (by rw[<-z];exact I)).mpr (h x (Mg _ I))
  rw[List.length_erase_of_mem ha] at this;have:=O5 ha;rw[Ms]
  lia
noncomputable def mw(t:LR (LR Str)):Prop:=∃ us:LR Str,us.length<64/\∀ ws∈t,∀ x∈ws,x∈us
noncomputable def Ir(H:Hp)(r:V)(t:LR (LR Str)):Prop:=r= .non\/∃ d es,r= .ref d/\kY H d t es
section
variable {P : Mq} {w : MT} {K : Mz} {mg : Str -> Mc LW} {base : Nn} {C CK CT CW : LS}
theorem y7{α β:Type}{F G R:α->β->Prop}:∀{l:LR α} {m:LR β},MY F l m->MY G l m->(∀ a b,F a b->G a b->R a b)->MY R l m
 |_,_,.nil,_,_=> .nil
 |_,_,.cons h t,.cons h' t',k=> .cons (k _ _ h h') (y7 t t' k)
noncomputable def Mo:HO->Prop
 |.lst _=>True
 |.dK _=>True
 |_=>Om
noncomputable def vY(K:Mm)(C CK CT CW:LS):Sp:=λvs H Q E=>∃(x a dx:LS) (r:V) (xs:LR V) (I:LR (V×V)),vs=[.ref x,.ref a,r]/\H x=some (.ins C dx [])/\H a=some (.lst xs)/\eX H xs I/\I.length<=300/\(∀ kt∈I,AB K H kt)/\
 (∀ ps,I=ps.map kp->lg ps->gN (cZ ps)/\mw (cZ ps)/\Ir H r (cZ ps))/\
 (∀ i,iA [] I=some i->∀ H',cR H H'->E (.ref (yH CK CT CW i)) none H')/\
 (∀ ps,I=ps.map kp->lg ps->∀ H',fC C H' x ps->(∀ J,(∀ b u,H' b=some u->((∀ m,Mo m->H b≠some m)\/r= .ref b)->J b=some u)->fC C J x ps)->(∀ b u,H b=some u->b≠x->r≠ .ref b->H' b=some u)->Q .non H')
theorem y0:dC ["self","pairs","rows","texts_words"] ["self","pairs","rows"] (c9 jA):=⟨rfl,rfl,rfl,dkq,rfl,dkq,dkq⟩
theorem yJ:(["key","text"]:LR Str).Nodup:=dkq
theorem Gg:(["words"]:LR Str).Nodup:=dkq
noncomputable def Ig:TE:=λσ H Q=>∃(a:LS) (xs:LR V) (ps:LR (Str×Str)),σ[1]? =some (some (.ref a))/\H a=some (.lst xs)/\eX H xs (ps.map kp)/\ps.length<=300/\(∀ p∈ps,dX (.str p.2)=true)/\
 ∀ l ys H',cR H H'->H l=none->H' l=some (.lst ys)->kf H' ys (cZ ps)->Q (.ref l) H'
noncomputable def G7:TE:=λσ H Q=>∃(a:LS) (xs:LR V) (t:LR (LR Str)),σ[3]? =some (some (.ref a))/\H a=some (.lst xs)/\kf H xs t/\t.length<=300/\
 ∀ l,H l=none->Q (.ref l) (upd H l (.lst (nl (t.map MQ))))
theorem p7:Ny "sorted"=some (.builtin "sorted"):=dkq
noncomputable abbrev N4:LR Str:=["self","pairs","rows","texts_words"]
seal dj PS PE PT PA PG PI dE dD in
theorem IL{f fn fl fr fc:LS}{fd fdn fdl fdr fdc:Mj}(F:kK K "__init__" "Book.__init__" jA f fd #[.none])(B:gB K mg C)(T:Txt mg)
  (DN:Df K mg "numbers_by_key" oS fn fdn)(GN:cV P w K mg base (dz P w) 4 fn fdn ["pairs"] (wU K CK CT CW))
  (DL:Df K mg "plain_words" m9 fl fdl)(GL:cV P w K mg base (dz P w) 5 fl fdl ["text"] (xr K CT))
  (DR:Df K mg "rows_by_word" oV fr fdr)(GR:cV P w K mg base dc 7 fr fdr ["texts_words"] wX)
  (DC:Df K mg "copied_rows" qA fc fdc)(GC:cV P w K mg base dc 1 fc fdc ["rows"] xh):cV P w K mg base (dz P w) 8 f fd ["self","pairs","rows"] (vY K C CK CT CW):=by
 have bN:=eI (p:="pairs") DN.F λ_ _ _ _ _ _ _=>rfl
 have bL:=eI (p:="text") DL.F λ_ _ _ _ _ _ _=>rfl
 have bR:=eI (p:="texts_words") DR.F λ_ _ _ _ _ _ _=>rfl
 have bC:=eI (p:="rows") DC.F λ_ _ _ _ _ _ _=>rfl
 refine F.ok1 y0 (λvs H Q E h=>?_) (λcdv A outer s H vs Q E hr h=>?_)
 ·obtain⟨x,a,dx,r,xs,a4,rfl,_⟩:=h;rfl
 ·obtain⟨x,a,dx,r,xs,a4,rfl,hx,hA,hP,hlen,hk,a5,a6,aj⟩:=h;have hl:(sizeLine:Nat)=16777216:=Mt;refine⟨_,cU (kg (pv 0) (dw (GN.mono (by decide)) hr rfl DN.m DN.F.kp bN .nil (gP (E':=E) (λ_ _ _ h=>h)) (cP (pv 1) cQ)) rfl)
   (cU (kg (pv 0) (jw qw rfl T.list jL (cP (pv 1) cQ)) rfl)
   (cU (rB (i:=3) (t':=Ig) y0.nd rfl (Mh rfl) (own:=2) (caps:=[]) (N:=["key","text"]) (N0:=N4) (sc0:=c9 jA) rfl (eZ (pv 1))
    (λ_ _ _=>ir (n:=2) rfl (fe (dB (i:=0) yJ rfl (Mh rfl)) (fe (dB (i:=1) yJ rfl (Mh rfl)) il))) (λ_ _ _=>fF)
    (λ_ _ _=>dw (GL.mono (by decide)) hr rfl DL.m DL.F.kp bL .nil ig (cP (pv 1) cQ)) (oO (iX (eM (by decide)) (iX (eM (by decide)) nB))) rfl rfl
    dkq rfl dkq dkq rfl dkq ?mT)
   (cU (kg (pv 0) (PE.imp (t':=G7) (fP (own:=1) (caps:=[]) (N:=["words"]) (N0:=N4) (sc0:=c9 jA) rfl (eZ (pv 3))
    (λ_ _ _=>dB (i:=0) Gg rfl (Mh rfl)) (λ_ _ _=>fF) (λ_ _ _=>dR (zw (K:=K) rfl) rfl T.len gf (cP (pv 0) cQ)) (eM (by decide)) rfl rfl
    dkq rfl dkq dkq rfl dkq) ?mS) rfl)
   (cU (kg (pv 0) (r6 (iZ (ui (pv 2))) (dw GR hr rfl DR.m DR.F.kp bR .nil du (cP (pv 3) cQ)) (dw (GC.mono (by decide)) hr rfl DC.m DC.F.kp bC .nil du (cP (pv 2) cQ))) rfl)
   (cY (kg (pv 0) (dR (HE rfl) rfl T.sorted p7 (cP (gm (pv 0) rfl) cQ)) rfl)))))),?_⟩
  case mT=>
   rintro σ H1 Q1 ⟨a,xs,ps,h1,hA,hP,hlen,bA,q⟩;have aE:=Gn.Paired.len hP;rw[LV] at aE;refine⟨_,h1,a,rfl,⟨_,cS.of hA⟩,gC (xs:=xs) (λi ys H'=>cR H1 H'/\kf H' ys (cZ (ps.take i))/\(∀ y∈ys,∃ p,y=V.ref p/\H1 p=none)) (by lia) (λi ys H' p=>cS.of (p.1 _ _ hA)) ⟨cR.refl _,.nil,(λy hy=>nomatch hy)⟩ ?_ ?_⟩
   ·rintro i v ys H' N hv ⟨sm,hW,a7⟩ hN;obtain⟨kt,aw,p,rfl,hp⟩:=fX hP hv;rw[List.getElem?_map] at aw;cases hps:ps[i]? with
    |none=>rw[hps] at aw;cases aw
    |some pr=>
     rw[hps] at aw;have e:kp pr=kt:=Ml aw;subst e;have ht:=bA pr (List.mem_of_getElem? hps);have hd:=kE ht;refine⟨p,_,rfl,dY.of (sm _ _ hp),rfl,_,_,rfl,_,_,rfl,rfl,qa ?_⟩;refine⟨_,rfl,.str pr.2,rfl,⟨_,.str _⟩,(λz e=>by injection e with e;rw[<-e];have:=hd.1;lia),λz e bY l H2 s2 hl hL=>?_,λe=>by rw[ht] at e;cases e⟩;injection e with e;subst e;refine hN _ _ ⟨sm.trans s2,?_,λy hy=>?_⟩
     ·show kf H2 _ ((ps.take (i+1)).map _);rw[take_snoc hps,Mf];refine Gn.Paired.app (hW.same s2) ⟨l,rfl,?_⟩;rw[hL,Du]
     ·rcases List.mem_append.mp hy with hy|hy
      ·exact a7 y hy
      ·rw[List.mem_singleton.mp hy];exact⟨l,rfl,sm.free hl⟩
   ·rintro ys H' ⟨sm,hW,_⟩ _ l hl;rw[aE,MG] at hW;exact q l ys _ (cR.upd sm hl) (sm.free hl) cT (hW.same (da hl))
  case mS=>
   rintro σ H1 Q1 ⟨a,xs,t,h3,hA,hW,hlen,q⟩;have aE:=Gn.Paired.len hW;refine⟨_,h3,a,rfl,⟨_,cS.of hA⟩,gC (xs:=xs) (λi ys H'=>H'=H1/\ys=nl ((t.take i).map MQ)) (by lia) (λi ys H' p=>by rw[p.1];exact cS.of hA) ⟨rfl,rfl⟩ ?_ ?_⟩
   ·rintro i v ys H' N hv ⟨rfl,rfl⟩ hN;obtain⟨ws,bB,p,rfl,hp⟩:=fX hW hv;refine g1 ?_;refine⟨_,rfl,p,_,rfl,.inl (cS.of hp),hN _ _ ⟨rfl,?_⟩⟩;rw[take_snoc bB,Mf,ie];show _++[V.int ((sl ws).length:Nat)]=_;rw[LV];rfl
   ·rintro ys H' ⟨rfl,rfl⟩ _ l hl;rw[aE,MG];exact q l hl
  refine⟨_,rfl,a,xs,a4,rfl,hA,hP,by lia,hk,λhb dn H1 s1 aF aG=>?_,λi hi H1 s1=>a6 i hi H1 s1⟩;obtain⟨ps,rfl,bD,_,g3⟩:=yg hb;have hg:lg ps:=⟨bD,g3⟩;obtain⟨aP,⟨us,bZ,a8⟩,bE⟩:=a5 ps rfl hg
  replace aj:=aj ps rfl hg
  rw[LV] at hlen;have aS:((ps.map kp).map λkt=>gq kt.1)=ps.map (·.1):=by rw[NG];rfl
  rw[aS] at aG;have a9:=s1 _ _ hx;refine⟨_,rfl,x,C,dx,[],rfl,a9,B.cl,B.nN,(by show 0<1000;decide),?_⟩;have aT:dn≠x:=λz=>by rw[z,a9] at aG;cases aG
  have ax:SameBut x H (upd H1 x (.ins C dx (dM "numbers" (.ref dn) []))):=λb u e hb=>by rw[cW hb];exact s1 _ _ e
  have aU:upd H1 x (.ins C dx (dM "numbers" (.ref dn) [])) x=some (.ins C dx (dM "numbers" (.ref dn) [])):=cT
  have ba:upd H1 x (.ins C dx (dM "numbers" (.ref dn) [])) dn=_:=(cW aT).trans aG;generalize upd H1 x (.ins C dx (dM "numbers" (.ref dn) []))=H2 at ax aU ba ⊢;have bb:a≠x:=λz=>by rw[z,hx] at hA;cases hA
  have bF:=ax _ _ hA bb
  have b0:eX H2 xs (ps.map kp):=Gn.Paired.imp2 hP λ_ _ ⟨p,e,q⟩=>⟨p,e,ax _ _ q λz=>by rw[z,hx] at q;cases q⟩
  refine⟨_,rfl,a,xs,rfl,.inl (cS.of bF),λpa bc=>?_⟩;have s3:cR H2 (upd H2 pa (.lst xs)):=da bc;have aq:upd H2 pa (.lst xs) pa=some (.lst xs):=cT;generalize upd H2 pa (.lst xs)=H3 at s3 aq ⊢;have bf:=s3 _ _ aU;refine⟨_,rfl,x,C,dx,_,rfl,bf,B.cl,B.nP,(by show 1<1000;decide),?_⟩;have bg:pa≠x:=λz=>by rw[z,bf] at aq;cases aq
  have aH:SameBut x H3 (upd H3 x (.ins C dx (dM "pairs" (.ref pa) (dM "numbers" (.ref dn) [])))):=λb u e hb=>by rw[cW hb];exact e
  have bh:upd H3 x (.ins C dx (dM "pairs" (.ref pa) (dM "numbers" (.ref dn) []))) x=_:=cT;generalize upd H3 x (.ins C dx (dM "pairs" (.ref pa) (dM "numbers" (.ref dn) [])))=H4 at aH bh ⊢;have ar:SameBut x H H4:=(ax.tr s3).trb aH;have bG:=aH _ _ (s3 _ _ ba) aT;have bj:=aH _ _ aq bg;have bH:=ar _ _ hA bb;have bI:eX H4 xs (ps.map kp):=Gn.Paired.imp2 hP λ_ _ ⟨p,e,q⟩=>⟨p,e,ar _ _ q λz=>by rw[z,hx] at q;cases q⟩
  refine⟨a,xs,ps,rfl,bH,bI,hlen,λp hp=>(hg.g p hp).2,λlt ys H5 s5 b1 aI bo=>?_⟩;have bp:=ar.tr s5;have aV:=s5 _ _ bh;refine⟨lt,ys,cZ ps,rfl,aI,bo,aP.l,λsz hsz=>?_⟩;have s6:cR H5 (upd H5 sz (.lst (nl ((cZ ps).map MQ)))):=da hsz;have au:upd H5 sz (.lst (nl ((cZ ps).map MQ))) sz=_:=cT;generalize upd H5 sz (.lst (nl ((cZ ps).map MQ)))=H6 at s6 au ⊢;have aW:=s6 _ _ aV;refine⟨_,rfl,x,C,dx,_,rfl,aW,B.cl,B.nS,(by show 2<1000;decide),?_⟩;have bJ:sz≠x:=λz=>by rw[z,aW] at au;cases au
  have ak:SameBut x H6 (upd H6 x (.ins C dx (dM "sizes" (.ref sz) (dM "pairs" (.ref pa) (dM "numbers" (.ref dn) []))))):=λb u e hb=>by rw[cW hb];exact e
  have ag:upd H6 x (.ins C dx (dM "sizes" (.ref sz) (dM "pairs" (.ref pa) (dM "numbers" (.ref dn) [])))) x=_:=cT;generalize upd H6 x (.ins C dx (dM "sizes" (.ref sz) (dM "pairs" (.ref pa) (dM "numbers" (.ref dn) []))))=H7 at ak ag ⊢;have aX:=s5.trans s6;have aa:SameBut x H H7:=(ar.tr aX).trb ak;have bq:=ak _ _ (aX _ _ bG) aT;have aQ:=ak _ _ (aX _ _ bj) bg;have aR:=ak _ _ au bJ;have br:eX H7 xs (ps.map kp):=Gn.Paired.imp2 hP λ_ _ ⟨p,e,q⟩=>⟨p,e,aa _ _ q λz=>by rw[z,hx] at q;cases q⟩
  have bK:lt≠x:=λz=>by rw[z,aV] at aI;cases aI
  have bM:=ak _ _ (s6 _ _ aI) bK
  have bO:kf H7 ys (cZ ps):=Gn.Paired.imp2 (bo.same s6) λ_ _ ⟨p,e,q⟩=>⟨p,e,ak _ _ q λz=>by rw[z,aW] at q;cases q⟩
  have nn:∀{b:LS},H b=none->(∀ m,Mo m->H b≠some m)\/r= .ref b:=λ{b} e=> .inl λm _ z=>by rw[e] at z;cases z
  have last:∀(dr:LS) (es:En) (H8:Hp),kY H8 dr (cZ ps) es->H8 x=some (.ins C dx (dM "sizes" (.ref sz) (dM "pairs" (.ref pa) (dM "numbers" (.ref dn) []))))->H8 dn=some (.dK (gK (ps.map (·.1))))->H8 pa=some (.lst xs)->eX H8 xs (ps.map kp)->
    H8 sz=some (.lst (nl ((cZ ps).map MQ)))->(∀ b u,H b=some u->b≠x->r≠ .ref b->H8 b=some u)->(H dr=none/\∀ e∈es,H e.2=none)->∀ σ:L2.St,σ[0]? =some (some (.ref x))->
    BI K (je 0) (vN (λxs H Q=>∃(d:LS) (kvs:LR (Key×V)) (ss:LR Str),xs=[.ref d]/\Rd H d (.dK kvs)/\kvs.map (·.1)=ss.map MF/\ss.length<64/\∀(l:LS) (ts:LR Str),H l=none->ts.Perm ss->Q6 ts=true->Q (.ref l) (upd H l (.lst (ts.map V.str)))) (mE (vR K (je 0) "rows") jB)) "rising"
     {nx:=λ_ H'=>Q .non H',rt:=Q} σ (upd H8 x (.ins C dx (dM "rows" (.ref dr) (dM "sizes" (.ref sz) (dM "pairs" (.ref pa) (dM "numbers" (.ref dn) [])))))):=by
   intro dr es H8 hR aJ bt bu bP bw bx bQ σ h0;have ab:SameBut x H8 (upd H8 x (.ins C dx (dM "rows" (.ref dr) (dM "sizes" (.ref sz) (dM "pairs" (.ref pa) (dM "numbers" (.ref dn) [])))))):=λb u e hb=>by rw[cW hb];exact e
   have aK:upd H8 x (.ins C dx (dM "rows" (.ref dr) (dM "sizes" (.ref sz) (dM "pairs" (.ref pa) (dM "numbers" (.ref dn) []))))) x=_:=cT;generalize upd H8 x (.ins C dx (dM "rows" (.ref dr) (dM "sizes" (.ref sz) (dM "pairs" (.ref pa) (dM "numbers" (.ref dn) [])))))=H9 at ab aK ⊢;have av:∀{b:LS} {u:HO},H8 b=some u->(∀ C dx fs,u≠ .ins C dx fs)->b≠x:=λ{b u} e n z=>by rw[z,aJ] at e;exact n _ _ _ (Ml e).symm
   have aL:kY H9 dr (cZ ps) es:=⟨ab _ _ hR.d (av hR.d (by intro _ _ _ z;cases z)),hR.k,hR.w,λe he=>ab _ _ (hR.f e he) (av (hR.f e he) (by intro _ _ _ z;cases z))⟩;refine⟨_,h0,x,C,dx,_,.ref dr,rfl,aK,B.cl,B.nR,(by rw[fR,LZ rfl]),dr,eD es,es.map (·.1),rfl,.inl aL.d,yd es,?_,λri ts aM ay az=>?_⟩
   ·have:=qV aL.k (m:=us) λy hy=>by
     obtain⟨ws,h1,h2⟩:=(aL.w y).mp hy;exact a8 ws h1 y h2
    rw[LV] at this ⊢
    lia
   ·have ah:cR H9 (upd H9 ri (.lst (sl ts))):=da aM
    have ao:upd H9 ri (.lst (sl ts)) ri=_:=cT
    have aA:=ah _ _ aK;refine⟨_,h0,x,C,dx,_,rfl,aA,B.cl,B.nI,(by show 4<1000;decide),?_⟩;have aN:ri≠x:=λz=>by rw[z,aK] at aM;cases aM
    have aB:=ah _ _ (ab _ _ bt (av bt (by intro _ _ _ z;cases z)))
    have aC:=ah _ _ (ab _ _ bu (av bu (by intro _ _ _ z;cases z)))
    have aD:=ah _ _ (ab _ _ bw (av bw (by intro _ _ _ z;cases z)))
    have aY:eX _ xs (ps.map kp):=eX.same (H:=H9) (Gn.Paired.imp2 bP λ_ _ ⟨p,e,q⟩=>⟨p,e,ab _ _ q (av q (by intro _ _ _ z;cases z))⟩) ah
    have J:=aL.same ah
    have fr:∀ b u,H b=some u->b≠x->r≠ .ref b->(upd H9 ri (.lst (sl ts))) b=some u:=λb u e n1 n2=>ah _ _ (ab _ _ (bx b u e n1 n2) n1)
    have bS:(∀ m,Mo m->H ri≠some m)\/r= .ref ri:=by
     by_cases er:r= .ref ri
     ·exact .inr er
     ·refine .inl λm _ z=>?_
      have:=ab _ _ (bx ri _ z aN er) aN;rw[aM] at this;cases this
    generalize upd H9 ri (.lst (sl ts))=aZ at ah ao aA aB aC aD aY J fr ⊢;have I:SameBut x aZ (upd aZ x (.ins C dx (iD dn pa sz dr ri))):=λb u e hb=>by rw[cW hb];exact e
    have U:∀{b:LS} {u:HO},aZ b=some u->(∀ C dx fs,u≠ .ins C dx fs)->b≠x:=λ{b u} e n z=>by rw[z,aA] at e;exact n _ _ _ (Ml e).symm
    refine aj _ ⟨dx,dn,pa,sz,dr,ri,xs,es,ts,cT,I _ _ aB (U aB (by intro _ _ _ z;cases z)),I _ _ aC (U aC (by intro _ _ _ z;cases z)),?_,I _ _ aD (U aD (by intro _ _ _ z;cases z)),?_,I _ _ ao aN,ay,az⟩ (λb2 hU=>?_) λb u e n1 n2=>I _ _ (fr b u e n1 n2) n1
    ·exact Gn.Paired.imp2 aY λ_ _ ⟨p,e,q⟩=>⟨p,e,I _ _ q (U q (by intro _ _ _ z;cases z))⟩
    ·exact⟨I _ _ J.d (U J.d (by intro _ _ _ z;cases z)),J.k,J.w,λe he=>I _ _ (J.f e he) (U (J.f e he) (by intro _ _ _ z;cases z))⟩
    ·obtain⟨w1,w2⟩:=bQ;refine⟨dx,dn,pa,sz,dr,ri,xs,es,ts,hU _ _ cT (.inl λm hm z=>by rw[hx] at z;cases z;exact hm),hU _ _ (I _ _ aB (U aB (by intro _ _ _ z;cases z))) (nn aF),hU _ _ (I _ _ aC (U aC (by intro _ _ _ z;cases z))) (nn (ax.free aU bc)),?_,hU _ _ (I _ _ aD (U aD (by intro _ _ _ z;cases z))) (nn (bp.free aV hsz)),?_,hU _ _ (I _ _ ao aN) bS,ay,az⟩
     ·exact y7 aY hP λ_ _ ⟨p,e,q⟩ ⟨p',e',q'⟩=>⟨p,e,hU _ _ (I _ _ q (U q (by intro _ _ _ z;cases z))) (.inl λm hm z=>by
       rw[e] at e';injection e' with e';rw[e',q'] at z;cases z;exact hm)⟩
     ·exact⟨hU _ _ (I _ _ J.d (U J.d (by intro _ _ _ z;cases z))) (nn w1),J.k,J.w,λe he=>hU _ _ (I _ _ (J.f e he) (U (J.f e he) (by intro _ _ _ z;cases z))) (nn (w2 e he))⟩
  refine⟨_,rfl,_,rfl,?_⟩;rcases bE with rfl|⟨d,es,rfl,ae⟩
  ·refine dG ⟨_,rfl,lt,ys,cZ ps,rfl,bM,bO,aP,λdr es H8 s8 a0 af _ bT=>?_⟩;refine⟨_,rfl,x,C,dx,_,rfl,s8 _ _ ag,B.cl,B.nR,(by show 3<1000;decide),?_⟩;exact last dr es H8 ⟨af.d,af.k,bT,af.f⟩ (s8 _ _ ag) (s8 _ _ bq) (s8 _ _ aQ) (br.same s8) (s8 _ _ aR) (λb u e n1 _=>s8 _ _ (aa _ _ e n1)) ⟨aa.free ag a0,λe he=>aa.free ag (af.n e he)⟩ _ rfl
  ·have bU:d≠x:=λz=>by have:=ae.d;rw[z,hx] at this;cases this
   have ai:kY H7 d (cZ ps) es:=⟨aa _ _ ae.d bU,ae.k,ae.w,λe he=>aa _ _ (ae.f e he) λz=>by have:=ae.f e he;rw[z,hx] at this;cases this⟩
   have bz:es.length<=9000:=by
    have:=qV ae.k (m:=us) λy hy=>by
     obtain⟨ws,h1,h2⟩:=(ae.w y).mp hy;exact a8 ws h1 y h2
    rw[LV] at this
    lia
   refine df ⟨_,rfl,d,es,λy=>nl (pk (rn 0 (rowOf y (cZ ps) 0))),rfl,ai.d,ai.k,bz,ai.f,λdr bV H8 a3 a0 af bW=>?_⟩;have aO:∀{b:LS} {u:HO},H7 b=some u->(∀ kvs,u≠ .dK kvs)->H8 b=some u:=λ{b u} e n=>a3 _ _ e λz=>by rw[z,ai.d] at e;exact n _ (Ml e).symm
   have aJ:=aO ag (by intro _ z;cases z);refine⟨_,rfl,x,C,dx,_,rfl,aJ,B.cl,B.nR,(by show 3<1000;decide),?_⟩;have bX:dn≠d:=λz=>by rw[z] at aF;rw[ae.d] at aF;cases aF
   refine last dr bV H8 ⟨af.d,af.k,λy=>by rw[bW];exact ai.w y,af.f⟩ aJ (a3 _ _ bq bX) (aO aQ (by intro _ z;cases z)) ?_ (aO aR (by intro _ z;cases z)) (λb u e n1 n2=>a3 _ _ (aa _ _ e n1) λz=>n2 (by rw[z])) ⟨aa.free ag a0,λe he=>aa.free ag (af.n e he)⟩ _ rfl;exact Gn.Paired.imp2 br λ_ _ ⟨p,e,q⟩=>⟨p,e,aO q (by intro _ z;cases z)⟩
end
section
variable {P : Mq} {w : MT} {K : Mz} {mg : Str -> Mc LW} {base : Nn} {C CN CNo CW : LS}
noncomputable def mJ(C:LS):Sp:=λvs H Q _=>∃(x:LS) (ps:LR (Str×Str)),vs=[.ref x]/\fC C H x ps/\Q (.int (ps.length:Int)) H
theorem Lv:dC ["self"] ["self"] (c9 i9):=⟨rfl,rfl,rfl,dkq,rfl,dkq,dkq⟩
seal dj PS PE PT PA PG PI dE dD in
theorem Kv{f:LS}{fd:Mj}(F:dv K "many" "Book.many" i9 f fd)(B:gB K mg C)(T:Txt mg):cV P w K mg base dc 1 f fd ["self"] (mJ C):=by
 refine F.ok Lv (λvs H Q E h=>?_) (λcdv A outer s H vs Q E hr h=>?_)
 ·obtain⟨x,ps,rfl,_⟩:=h;rfl
 ·obtain⟨x,ps,rfl,J,k⟩:=h;obtain⟨dx,dn,pa,sz,dr,ri,xs,es,ts,h1,h2,U,h4,h5,h6,h7,h8,h9⟩:=J.ex;have I:=Gn.Paired.len h4;rw[LV] at I;refine⟨_,cY (dg (dR gZ rfl T.len gf (cP (gm (pv 0) rfl) cQ))),?_⟩;refine⟨_,rfl,x,C,dx,_,_,rfl,h1,B.cl,B.nP,rM,pa,_,rfl,.inl (cS.of U),?_⟩;rw[I];exact k
noncomputable def xI(K:Mm)(C CN:LS):Sp:=λvs H Q E=>∃(x:LS) (ps:LR (Str×Str)) (v:V),vs=[.ref x,v]/\fC C H x ps/\Known K H v/\
 (gW v 0 (some ((ps.length:Int)-1))=true->Q v H)/\(gW v 0 (some ((ps.length:Int)-1))=false->E (.ref CN) none H)
theorem Iu:dC ["self","number"] ["self","number"] (c9 lP):=⟨rfl,rfl,rfl,dkq,rfl,dkq,dkq⟩
seal dj PS PE PT PA PG PI dE dD in
theorem Eg{f fm fn:LS}{fd fdm fdn:Mj}(F:dv K "need_own" "Book.need_own" lP f fd)(B:gB K mg C)(FM:dv K "many" "Book.many" i9 fm fdm)(mM:Meth K C "many" fm)(GM:cV P w K mg base dc 1 fm fdm ["self"] (mJ C))
  (DN:gS K mg "need_number" kq fn fdn #[.none])(GN:cV P w K mg base (dz P w) 2 fn fdn ["thing","least","most"] (vk K CN)):cV P w K mg base (dz P w) 3 f fd ["self","number"] (xI K C CN):=by
 have U:=FM.binds (ps:=["self"]) λ_ _ _ _ _ _ us hl=>gD (λ_=>rfl) us hl
 have bN:=DN.binds (ps:=["thing","least","most"]) (ds:=[]) λT kV doc pm an cdv ct us hl=>jD (λ_ _ _=>⟨_,rfl,rfl⟩) us (show us.length=3 by simpa using hl)
 refine F.ok1 Iu (λvs H Q E h=>?_) (λcdv A outer s H vs Q E I h=>?_)
 ·obtain⟨x,ps,v,rfl,_⟩:=h;rfl
 ·obtain⟨x,ps,v,rfl,J,hk,k1,k2⟩:=h;obtain⟨dx,dn,pa,sz,dr,ri,xs,es,ts,h1,_⟩:=J.ex;refine⟨_,cY (dg (dw GN I rfl DN.m DN.kp bN .nil (gP (E':=E) (λ_ _ _ h=>h)) (cP (pv 1) (cP cX (cP (de kT (g0 (pv 0) B.cl mM (GM.mono (by decide)) I U .nil du) cX) cQ))))),?_⟩;refine⟨_,rfl,_,rfl,x,dx,_,rfl,h1,jo dkq dkq dkq dkq dkq,?_⟩;refine⟨x,ps,rfl,J,_,_,rfl,rfl,?_⟩;exact⟨v,0,some ((ps.length:Int)-1),rfl,hk,k1,k2⟩
theorem qM{v:V}{n:Nat}(h:gW v 0 (some ((n:Int)-1))=true):∃ j:Nat,v= .int (j:Int)/\j<n:=by
 cases v<;>first|cases h|skip
 rename_i i;have h':(decide ((0:Int)<=i)&&decide (i<=(n:Int)-1))=true:=h;rw[MO] at h';have h1:=Nh h'.1;have h2:=Nh h'.2;exact⟨i.toNat,by rw[Ow h1],by lia⟩
noncomputable def nM(K:Mm)(C CN:LS)(sel:Str×Str->Str):Sp:=λvs H Q E=>∃(x:LS) (ps:LR (Str×Str)) (v:V),vs=[.ref x,v]/\fC C H x ps/\Known K H v/\
 (∀(j:Nat) p,v= .int (j:Int)->ps[j]? =some p->Q (.str (sel p)) H)/\(gW v 0 (some ((ps.length:Int)-1))=false->E (.ref CN) none H)
theorem Fv:dC ["self","number"] ["self","number"] (c9 lr):=⟨rfl,rfl,rfl,dkq,rfl,dkq,dkq⟩
theorem IZ:dC ["self","number"] ["self","number"] (c9 jX):=⟨rfl,rfl,rfl,dkq,rfl,dkq,dkq⟩
section
variable {fo : LS} {fdo : Mj} (FO : dv K "need_own" "Book.need_own" lP fo fdo) (mO : Meth K C "need_own" fo) (GO : cV P w K mg base (dz P w) 3 fo fdo ["self", "number"] (xI K C CN)) (B : gB K mg C)
include FO mO GO B
seal dj PS PE PT PA PG PI dE dD in
theorem KL{f:LS}{fd:Mj}(F:dv K "key_of" "Book.key_of" lr f fd):cV P w K mg base (dz P w) 4 f fd ["self","number"] (nM K C CN (·.1)):=by
 have bO:=FO.binds (ps:=["self","number"]) λ_ _ _ _ _ _ us hl=>eO (λ_ _=>rfl) us hl
 refine F.ok1 Fv (λvs H Q E h=>?_) (λcdv A outer s H vs Q E hr h=>?_)
 ·obtain⟨x,ps,v,rfl,_⟩:=h;rfl
 ·obtain⟨x,ps,v,rfl,J,hk,k1,k2⟩:=h;obtain⟨dx,dn,pa,sz,dr,ri,xs,es,ts,h1,h2,h3,h4,_⟩:=J.ex;refine⟨_,cY (dg (eB nr (eB eY (gm (pv 0) rfl) (gU (pv 0) B.cl mO GO hr bO .nil (gP (E':=E) (λ_ _ _ h=>h)) (cP (pv 1) cQ)) (λ_ _=>rfl)) cX (λ_ _=>rfl))),?_⟩;refine⟨_,rfl,x,C,dx,_,_,rfl,h1,B.cl,B.nP,rM,_,rfl,x,dx,_,rfl,h1,jo dkq dkq dkq dkq dkq,_,rfl,?_⟩;refine⟨x,ps,v,rfl,J,hk,λhg=>?_,k2⟩;obtain⟨j,rfl,hj⟩:=qM hg;have U:ps[j]? =some ps[j]:=List.getElem?_eq_getElem hj;obtain⟨y,hy,p,rfl,I⟩:=Gn.Paired.at h4 (i:=j) (by rw[List.getElem?_map,U];rfl);exact⟨pa,_,_,_,rfl,rfl,cS.of h3,dS hy,p,_,_,_,rfl,rfl,dY.of I,dS (j:=0) rfl,k1 j _ rfl U⟩
seal dj PS PE PT PA PG PI dE dD in
theorem Gf{f:LS}{fd:Mj}(F:dv K "text_of" "Book.text_of" jX f fd):cV P w K mg base (dz P w) 4 f fd ["self","number"] (nM K C CN (·.2)):=by
 have bO:=FO.binds (ps:=["self","number"]) λ_ _ _ _ _ _ us hl=>eO (λ_ _=>rfl) us hl
 refine F.ok1 IZ (λvs H Q E h=>?_) (λcdv A outer s H vs Q E hr h=>?_)
 ·obtain⟨x,ps,v,rfl,_⟩:=h;rfl
 ·obtain⟨x,ps,v,rfl,J,hk,k1,k2⟩:=h;obtain⟨dx,dn,pa,sz,dr,ri,xs,es,ts,h1,h2,h3,h4,_⟩:=J.ex;refine⟨_,cY (dg (eB nr (eB eY (gm (pv 0) rfl) (gU (pv 0) B.cl mO GO hr bO .nil (gP (E':=E) (λ_ _ _ h=>h)) (cP (pv 1) cQ)) (λ_ _=>rfl)) cX (λ_ _=>rfl))),?_⟩;refine⟨_,rfl,x,C,dx,_,_,rfl,h1,B.cl,B.nP,rM,_,rfl,x,dx,_,rfl,h1,jo dkq dkq dkq dkq dkq,_,rfl,?_⟩;refine⟨x,ps,v,rfl,J,hk,λhg=>?_,k2⟩;obtain⟨j,rfl,hj⟩:=qM hg;have U:ps[j]? =some ps[j]:=List.getElem?_eq_getElem hj;obtain⟨y,hy,p,rfl,I⟩:=Gn.Paired.at h4 (i:=j) (by rw[List.getElem?_map,U];rfl);exact⟨pa,_,_,_,rfl,rfl,cS.of h3,dS hy,p,_,_,_,rfl,rfl,dY.of I,dS (j:=1) rfl,k1 j _ rfl U⟩
end
theorem wV:∀(ks:LR Str) (n j:Nat) (z:Str),ks.Nodup->ks[j]? =some z->dQ ((ks.zipIdx n).map λp=>((MF p.1:Key),V.int (p.2:Int))) (MF z)=some (.int ((n+j:Nat):Int))
 |[],_,j,_,_,h=>by cases j<;>cases h
 |x::r,n,0,z,_,h=>by
  have e:x=z:=Ml h;subst e;exact iE (p:=((MF x:Key),V.int (n:Int))) rfl
 |x::r,n,j+1,z,hn,h=>by
  obtain⟨J,U⟩:=List.nodup_cons.mp hn;have h':r[j]? =some z:=h;have I:¬ x=z:=λe=>J (by rw[e];exact List.mem_of_getElem? h')
  have:=wV r (n+1) j z U h'
  show dQ (((MF x:Key),V.int (n:Int))::(r.zipIdx (n+1)).map λp=>((MF p.1:Key),V.int (p.2:Int))) (MF z)=_;rw[g6 (λe=>I (Ph e)),this]
  congr 3
  lia
theorem yq{ks:LR Str}{j:Nat}{z:Str}(hn:ks.Nodup)(h:ks[j]? =some z):dQ (gK ks) (MF z)=some (.int (j:Int)):=by
 have:=wV ks 0 j z hn h;rw[P5] at this;exact this
noncomputable def wI(K:Mm)(C CNo:LS):Sp:=λvs H Q E=>∃(x:LS) (ps:LR (Str×Str)) (v:V),vs=[.ref x,v]/\fC C H x ps/\Known K H v/\fT v/\(∀ p∈ps,dA 12 (.str p.1)=true)/\(ps.map (·.1)).Nodup/\
 (∀(j:Nat) z H',v= .str z->(ps.map (·.1))[j]? =some z->cR H H'->Q (.int (j:Int)) H')/\((∀ z,v= .str z->z∉ps.map (·.1))->∀ H',cR H H'->E (.ref CNo) none H')
theorem DD:dC ["self","key"] ["self","key"] (c9 ku):=⟨rfl,rfl,rfl,dkq,rfl,dkq,dkq⟩
seal dj PS PE PT PA PG PI dE dD in
theorem Fs{f fk:LS}{fd fdk:Mj}(F:dv K "number_of" "Book.number_of" ku f fd)(B:gB K mg C)(DK:Df K mg "is_key" lR fk fdk)(GK:cV P w K mg base dc 2 fk fdk ["thing"] (m8 K 12))(X:Ex K mg "NoText" CNo):cV P w K mg base (dz P w) 3 f fd ["self","key"] (wI K C CNo):=by
 have bK:=eI (p:="thing") DK.F λ_ _ _ _ _ _ _=>rfl
 refine F.ok1 DD (λvs H Q E h=>?_) (λcdv A outer s H vs Q E hr h=>?_)
 ·obtain⟨x,ps,v,rfl,_⟩:=h;rfl
 ·obtain⟨x,ps,v,rfl,hB,hk,I,J,U,k1,k2⟩:=h;have hu:=iP hr;refine⟨_,cU (dP (PW.pt (iw (f9 (fM (dw GK hr rfl DK.m DK.F.kp bK .nil du (cP (pv 1) cQ)))) (jc (iZ (uD hu (pv 1) (gm (pv 0) rfl))))))
    (cY (ji rfl X.q NV dkq NV rfl X.m (cP dq cQ) jm)) dO)
   (cY (dg (oj hu (gm (pv 0) rfl) (pv 1) (λ_ _=>rfl)))),?_⟩;refine⟨_,rfl,v,rfl,hk,I,λH1 s1=>?_⟩;obtain⟨dx,dn,pa,sz,dr,ri,xs,es,ts,h1,h2,h3,h4,_⟩:=(hB.same s1).ex;refine⟨_,rfl,?_⟩;cases hr12:dA 12 v with
  |false=>
   refine dG (dG ⟨by show 1<=sizeLine;decide,k2 (λz e hz=>?_) H1 s1⟩);obtain⟨p,hp,e2⟩:=List.mem_map.mp hz;have:=J p hp;rw[e2,<-e,hr12] at this;cases this
  |true=>
   obtain⟨z,rfl⟩:=rg hr12;refine df ⟨_,rfl,_,rfl,x,C,dx,_,_,rfl,h1,B.cl,B.nN,vX,dn,_,rfl,gh.k (k:=MF z) h2,_,rfl,?_⟩;by_cases hz:z∈ps.map (·.1)
   ·obtain⟨j,hj⟩:=List.getElem?_of_mem hz;rw[yq U hj];exact df ⟨_,rfl,x,C,dx,_,_,rfl,h1,B.cl,B.nN,vX,_,rfl,dn,_,rfl,.inl ⟨_,MF z,.inl h2,rfl,(yq U hj).symm⟩,k1 j z H1 rfl hj s1⟩
   ·rw[sY hz];exact dG ⟨by show 1<=sizeLine;decide,k2 (λy e=>by injection e with e;rw[<-e];exact hz) H1 s1⟩
noncomputable def AD(C:LS):Sp:=λvs H Q _=>∃(x:LS) (ps:LR (Str×Str)),vs=[.ref x]/\fC C H x ps/\∀ l ts H',cR H H'->H l=none->H' l=some (.lst (sl ts))->ts.Nodup->(∀ y,y∈ts↔∃ ws∈cZ ps,y∈ws)->Q6 ts=true->Q (.ref l) H'
theorem Hx:dC ["self"] ["self"] (c9 lW):=⟨rfl,rfl,rfl,dkq,rfl,dkq,dkq⟩
seal dj PS PE PT PA PG PI dE dD in
theorem Ln{f:LS}{fd:Mj}(F:dv K "words" "Book.words" lW f fd)(B:gB K mg C)(T:Txt mg):cV P w K mg base dc 1 f fd ["self"] (AD C):=by
 refine F.ok Hx (λvs H Q E h=>?_) (λcdv A outer s H vs Q E hr h=>?_)
 ·obtain⟨x,ps,rfl,_⟩:=h;rfl
 ·obtain⟨x,ps,rfl,U,k⟩:=h;obtain⟨dx,dn,pa,sz,dr,ri,xs,es,ts,h1,h2,h3,h4,h5,I,h7,J,h9⟩:=U.ex;refine⟨_,cY (dg (jw qw rfl T.list jL (cP (gm (pv 0) rfl) cQ))),?_⟩;refine⟨_,rfl,x,C,dx,_,_,rfl,h1,B.cl,B.nI,Ik,ri,_,rfl,.inl (cS.of h7),λl hl=>?_⟩;exact k l ts _ (da hl) hl cT (J.nodup_iff.mpr I.k) (λy=>by rw[J.mem_iff];exact I.w y) h9
noncomputable def uk(ps:LR (Str×Str))(z:Str):LR Nat:=pk (rn 0 (rowOf z (cZ ps) 0))
noncomputable def A5(K:Mm)(C CW:LS):Sp:=λvs H Q E=>∃(x:LS) (ps:LR (Str×Str)) (v:V),vs=[.ref x,v]/\fC C H x ps/\Known K H v/\fT v/\
 (∀ z l H',v= .str z->dA 2000 v=true->cR H H'->H l=none->H' l=some (.lst (nl (uk ps z)))->Q (.ref l) H')/\(dA 2000 v=false->∀ H',cR H H'->E (.ref CW) none H')
theorem FQ:dC ["self","word"] ["self","word"] (c9 mF):=⟨rfl,rfl,rfl,dkq,rfl,dkq,dkq⟩
seal dj PS PE PT PA PG PI dE dD in
theorem Ic{f fw:LS}{fd fdw:Mj}(F:dv K "parts_of" "Book.parts_of" mF f fd)(B:gB K mg C)(DW:Df K mg "need_word" qg fw fdw)(GW:cV P w K mg base (dz P w) 3 fw fdw ["thing"] (jQ K (dA 2000) CW))(T:Txt mg):cV P w K mg base (dz P w) 4 f fd ["self","word"] (A5 K C CW):=by
 have bW:=eI (p:="thing") DW.F λ_ _ _ _ _ _ _=>rfl
 refine F.ok1 FQ (λvs H Q E h=>?_) (λcdv A outer s H vs Q E hr h=>?_)
 ·obtain⟨x,ps,v,rfl,_⟩:=h;rfl
 ·obtain⟨x,ps,v,rfl,hB,hk,J,k1,k2⟩:=h;have hu:=iP hr;obtain⟨dx,dn,pa,sz,dr,ri,xs,es,ts,h1,h2,h3,h4,h5,h6,h7,h8,h9⟩:=hB.ex;refine⟨_,cY (dg (jw qw rfl T.list jL (cP (eV PySem.F.plainAttrs_dict PySem.F.slot_dict_get PySem.F.type_dict_get (Ee hu) (gm (pv 0) rfl)
   (cP (dw GW hr rfl DW.m DW.F.kp bW .nil (gP (E':=E) (λ_ _ _ h=>h)) (cP (pv 1) cQ)) (cP (dZ cQ) cQ))) cQ))),?_⟩;refine⟨_,rfl,x,C,dx,_,_,rfl,h1,B.cl,B.nR,CC,tE h6.d,_,rfl,v,rfl,hk,J,λU H1 s1=>?_,λU H1 s1=>k2 U H1 s1⟩;obtain⟨z,rfl⟩:=rg U;refine⟨(by show 0<=sizeLine;decide),λq hq=>?_⟩;have s2:cR H1 (upd H1 q (.lst [])):=da hq;have aa:upd H1 q (.lst []) q=some (.lst []):=cT;generalize upd H1 q (.lst [])=H2 at s2 aa ⊢;have I:=s1.trans s2;refine⟨dr,.str z,.ref q,_,rfl,rfl,gh.k (k:=MF z) (I _ _ h6.d),?_⟩;by_cases hz:z∈es.map (·.1)
  ·obtain⟨a,e1,e2⟩:=vd hz;rw[e1];refine⟨a,_,rfl,.inl (cS.of (I _ _ (h6.f _ e2))),λl hl=>k1 z l _ rfl U (I.trans (da hl)) (I.free hl) cT⟩
  ·rw[qU hz];have h0:uk ps z=[]:=by
    unfold uk;rw[(nL z (cZ ps) 0).mpr λws hw q=>hz ((h6.w z).mpr ⟨ws,hw,q⟩)];rfl
   refine⟨q,_,rfl,.inl (cS.of aa),λl hl=>k1 z l _ rfl U (I.trans (da hl)) (I.free hl) ?_⟩;rw[cT,h0];rfl
noncomputable def Aj(K:Mm)(C CW:LS):Sp:=λvs H Q E=>∃(x:LS) (ps:LR (Str×Str)) (v:V),vs=[.ref x,v]/\fC C H x ps/\gN (cZ ps)/\Known K H v/\fT v/\
 (∀ z l H',v= .str z->dA 2000 v=true->cR H H'->H l=none->eQ H' l (rowOf z (cZ ps) 0)->Q (.ref l) H')/\(dA 2000 v=false->∀ H',cR H H'->E (.ref CW) none H')
theorem Kl:dC ["self","word"] ["self","word"] (c9 lH):=⟨rfl,rfl,rfl,dkq,rfl,dkq,dkq⟩
seal dj PS PE PT PA PG PI dE dD in
theorem Iz{f fp fu:LS}{fd fdp fdu:Mj}(F:dv K "row_of" "Book.row_of" lH f fd)(B:gB K mg C)(FP:dv K "parts_of" "Book.parts_of" mF fp fdp)(mP:Meth K C "parts_of" fp)(GP:cV P w K mg base (dz P w) 4 fp fdp ["self","word"] (A5 K C CW))
  (DU:Df K mg "unpacked_row" px fu fdu)(GU:cV P w K mg base dc 4 fu fdu ["parts"] An):cV P w K mg base (dz P w) 5 f fd ["self","word"] (Aj K C CW):=by
 have bP:=FP.binds (ps:=["self","word"]) λ_ _ _ _ _ _ us hl=>eO (λ_ _=>rfl) us hl
 have bU:=eI (p:="parts") DU.F λ_ _ _ _ _ _ _=>rfl
 refine F.ok1 Kl (λvs H Q E h=>?_) (λcdv A outer s H vs Q E J h=>?_)
 ·obtain⟨x,ps,v,rfl,_⟩:=h;rfl
 ·obtain⟨x,ps,v,rfl,U,hF,hk,I,k1,k2⟩:=h;obtain⟨dx,dn,pa,sz,dr,ri,xs,es,ts,h1,_⟩:=U.ex;refine⟨_,cY (dg (dw GU J rfl DU.m DU.F.kp bU .nil du (cP (gU (pv 0) B.cl mP GP J bP .nil (gP (E':=E) (λ_ _ _ h=>h)) (cP (pv 1) cQ)) cQ))),?_⟩;refine⟨_,rfl,x,dx,_,rfl,h1,jo dkq dkq dkq dkq dkq,_,rfl,?_⟩;refine⟨x,ps,v,rfl,U,hk,I,λz l H1 e hg s1 hl hL=>?_,k2⟩;subst e;exact⟨l,rowOf z (cZ ps) 0,rfl,hL,gN.ok z,hF.sz z,λp H2 s2 hp hR=>k1 z p H2 rfl hg (s1.trans s2) (s1.free hp) hR⟩
end
end K25
namespace BK
open K04
section
variable {α : Type} [Qd α]
noncomputable def d0{β:Type}:LR Nw->LR β->LR β
 |true::ks,x::xs=>x::d0 ks xs
 |false::ks,_::xs=>d0 ks xs
 |_,_=>[]
noncomputable def cnt(ks:LR Nw)(n:Nat):Nat:=(d0 (ks.take n) (ks.take n)).length
noncomputable def fj(ks:LR Nw)(A:Nat):LR Pr->LR Pr
 |[]=>[]
 |(n,pl)::r=>if ks[n]? =some true then (A+cnt ks n,pl)::fj ks A r else fj ks A r
theorem vo(ks:LR Nw)(A:Nat):∀(a b:LR Pr),fj ks A (a++b)=fj ks A a++fj ks A b
 |[],_=>rfl
 |(n,pl)::r,b=>by
  show(if ks[n]? =some true then (A+cnt ks n,pl)::fj ks A (r++b) else fj ks A (r++b))=(if ks[n]? =some true then (A+cnt ks n,pl)::fj ks A r else fj ks A r)++fj ks A b;rw[vo ks A r b];by_cases h:ks[n]? =some true
  ·rw[LZ h,LZ h];rfl
  ·rw[LX h,LX h]
theorem vI{β:Type}:∀(ks:LR Nw) (xs:LR β) (k:Nw) (x:β),ks.length=xs.length->d0 (ks++[k]) (xs++[x])=d0 ks xs++(if k=true then [x] else [])
 |[],[],k,x,_=>by cases k<;>rfl
 |[],_::_,_,_,h=>by cases h
 |_::_,[],_,_,h=>by cases h
 |a::ks,y::xs,k,x,h=>by
  have I:=vI ks xs k x (Oi h);cases a
  ·exact I
  ·show y::d0 (ks++[k]) (xs++[x])=y::d0 ks xs++_;rw[I];rfl
theorem wk{β γ:Type}(f:β->γ):∀(ks:LR Nw) (xs:LR β),d0 ks (xs.map f)=(d0 ks xs).map f
 |[],_=>rfl
 |true::ks,[]=>rfl
 |false::ks,[]=>rfl
 |true::ks,x::xs=>by show f x::d0 ks (xs.map f)=_;rw[wk f ks xs];rfl
 |false::ks,x::xs=>by show d0 ks (xs.map f)=_;rw[wk f ks xs];rfl
theorem sg{β:Type}:∀(ks:LR Nw) (xs:LR β),(d0 ks xs).Sublist xs
 |[],xs=>OD _
 |true::ks,[]=>OD _
 |false::ks,[]=>OD _
 |true::ks,y::xs=>(sg ks xs).cons_cons y
 |false::ks,y::xs=>(sg ks xs).cons y
theorem Je{β:Type}(ks:LR Nw)(xs:LR β):(d0 ks xs).length<=xs.length:=(sg ks xs).length_le
theorem sV{β γ:Type}:∀(ks:LR Nw) (xs:LR β) (ys:LR γ),xs.length=ys.length->(d0 ks xs).length=(d0 ks ys).length
 |[],_,_,_=>rfl
 |true::_,[],[],_=>rfl
 |false::_,[],[],_=>rfl
 |_::_,[],_::_,h=>by cases h
 |_::_,_::_,[],h=>by cases h
 |true::ks,x::xs,y::ys,h=>by show(d0 ks xs).length+1=(d0 ks ys).length+1;rw[sV ks xs ys (Oi h)]
 |false::ks,x::xs,y::ys,h=>sV ks xs ys (Oi h)
theorem Hy{β:Type}{ks:LR Nw}{xs:LR β}{n:Nat}(h:ks.length=xs.length):(d0 (ks.take n) (xs.take n)).length=cnt ks n:=
 sV _ _ _ (by rw[ML,ML,h])
theorem zL(w:α):∀(a b:LR (LR α)) (n:Nat),rowOf w (a++b) n=rowOf w a n++rowOf w b (n+a.length)
 |[],b,n=>rfl
 |x::a,b,n=>by
  show(if w∈x then (n,d7 w x 0)::rowOf w (a++b) (n+1) else rowOf w (a++b) (n+1))=(if w∈x then (n,d7 w x 0)::rowOf w a (n+1) else rowOf w a (n+1))++rowOf w b (n+(a.length+1));rw[zL w a b (n+1)];have e:n+1+a.length=n+(a.length+1):=by omega
  rw[e];by_cases h:w∈x
  ·rw[LZ h,LZ h];rfl
  ·rw[LX h,LX h]
theorem BH(w:α)(A:Nat):∀(ds ks:LR Nw) (dt ts:LR (LR α)),ds.length=dt.length->ks.length=ts.length->fj (ds++ks) A (rowOf w ts ds.length)=rowOf w (d0 ks ts) (A+(d0 ds dt).length)
 |ds,[],dt,[],_,_=>rfl
 |ds,[],dt,_::_,_,h=>by cases h
 |ds,_::_,dt,[],_,h=>by cases h
 |ds,k::ks,dt,x::ts,hd,hk=>by
  have J:=BH w A (ds++[k]) ks (dt++[x]) ts (by simp[hd]) (Oi hk)
  have U:ds++[k]++ks=ds++k::ks:=by simp
  have e2:(ds++[k]).length=ds.length+1:=by simp
  rw[U,e2,vI ds dt k x hd] at J;have I:(ds++k::ks)[ds.length]? =some k:=by simp
  have hc:cnt (ds++k::ks) ds.length=(d0 ds dt).length:=by
   unfold cnt;rw[RF];exact sV ds ds dt hd
  have step:fj (ds++k::ks) A (rowOf w (x::ts) ds.length)=(if w∈x then (if k=true then [(A+(d0 ds dt).length,d7 w x 0)] else []) else [])++fj (ds++k::ks) A (rowOf w ts (ds.length+1)):=by
   show fj _ A (if w∈x then (ds.length,d7 w x 0)::rowOf w ts (ds.length+1) else rowOf w ts (ds.length+1))=_;by_cases hw:w∈x
   ·rw[LZ hw,LZ hw];show(if (ds++k::ks)[ds.length]? =some true then (A+cnt _ ds.length,d7 w x 0)::fj _ A _ else fj _ A _)=_;rw[I,hc];cases k
    ·rw[LX (by simp),LX (by simp)];rfl
    ·rw[LZ rfl,LZ rfl];rfl
   ·rw[LX hw,LX hw];rfl
  rw[step,J];cases k
  ·show _=rowOf w (d0 ks ts) _;simp
  ·show _=rowOf w (x::d0 ks ts) _;rw[LZ rfl,LZ rfl];show _=(if w∈x then (A+(d0 ds dt).length,d7 w x 0)::rowOf w (d0 ks ts) _ else rowOf w (d0 ks ts) _);have e3:A+(d0 ds dt++[x]).length=A+(d0 ds dt).length+1:=by rw[Md];rfl
   rw[e3];by_cases hw:w∈x
   ·rw[LZ hw,LZ hw];rfl
   ·rw[LX hw,LX hw];rfl
theorem LK(w:α)(A:Nat)(ks:LR Nw)(ts:LR (LR α))(h:ks.length=ts.length):fj ks A (rowOf w ts 0)=rowOf w (d0 ks ts) A:=BH w A [] ks [] ts rfl h
end
end BK
namespace K25
open PySem L2 PyProof.Rows PySem.Spec Gn K04 K01 BK
section
variable {P : Mq} {w : MT} {K : Mz} {mg : Str -> Mc LW} {base : Nn} {C CN CNo CW CWk : LS}
theorem Kq{H:Hp}{x:V}{n:OE}(h:fO K H x (.type n))(hn:n≠"tuple"):Ng K (.type n) (.type "tuple")=some false:=by
 cases h<;>first|exact absurd rfl hn|kernel_rfl
inductive GV (K : Mm) (H : Hp) : V -> Mc (V × V) -> Prop where
 |no {v : V} {n : OE} (h : fO K H v (.type n)) (hn : n ≠ "tuple") : GV K H v none
 |len {p : LS} {ys : LR V} (h : H p = some (.tup ys)) (hl : ys.length ≠ 2) : GV K H (.ref p) none
 |two {p : LS} {a b : V} (h : H p = some (.tup [a, b])) (ha : Known K H a) (hb : Known K H b) : GV K H (.ref p) (some (a, b))
noncomputable def j3(lens:LR Nat):Mc (V×V)->Nw
 |some (.int i,b)=>gW (.int i) 0 (some ((lens.length:Int)-1))&&gW b 0 (some (((lens.getD i.toNat 0:Nat):Int)-1))
 |_=>false
noncomputable def gI(C:LS)(H:Hp):LR V->LR (LR (Str×Str))->Prop:=MY λv ps=>∃ x,v= .ref x/\fC C H x ps
theorem gI.same {H H':Hp}{xs:LR V}{t:LR (LR (Str×Str))}(h:gI C H xs t)(s:cR H H'):gI C H' xs t:=Gn.Paired.imp2 h λ_ _ ⟨p,e,q⟩=>⟨p,e,q.same s⟩
theorem Ci{H H':Hp}{x:V}{n:OE}(h:fO K H x (.type n))(s:cR H H'):fO K H' x (.type n):=by
 cases h with
 |non=>exact .non
 |bl b=>exact .bl b
 |int i=>exact .int i
 |str z=>exact .str z
 |flt z=>exact .flt z
 |lst q=>exact .lst (s _ _ q)
 |frz q=>exact .frz (s _ _ q)
 |tup q=>exact .tup (s _ _ q)
 |dK q=>exact .dK (s _ _ q)
 |dT q=>exact .dT (s _ _ q)
noncomputable abbrev ij(i j:Nat):LR Key:=[Ob (i:Int),Ob (j:Int)]
theorem Cn{a b c d:Nat}(h:ij a b=ij c d):a=c/\b=d:=by
 injection h with h1 h2;injection h2 with h2 _;have I:(a:Int)=c:=RB h1;have J:(b:Int)=d:=RB h2;exact⟨by lia,by lia⟩
noncomputable def xp(K:Mm)(C CN:LS):Sp:=λvs H Q E=>∃(bl gl:LS) (bs J:LR V) (I:LR (LR (Str×Str))) (gvs:LR (Mc (V×V))),vs=[.ref bl,.ref gl]/\H bl=some (.lst bs)/\H gl=some (.lst J)/\gI C H bs I/\MY (GV K H) J gvs/\J.length<=1000/\
 (gvs.all (j3 (I.map MQ))=true->∀ p H' kvs,cR H H'->H p=none->H' p=some (.dT kvs)->(∀ i j:Nat,(dQ kvs (ij i j)).isSome=true↔some (V.int i,V.int j)∈gvs)->Q (.ref p) H')/\
 (gvs.all (j3 (I.map MQ))=false->∀ H',cR H H'->E (.ref CN) none H')
theorem sG:dC ["books","gone","found","thing","book"] ["books","gone"] (c9 ph):=⟨rfl,rfl,rfl,dkq,rfl,dkq,dkq⟩
theorem qG{α:Type}{xs:LR α}{f:α->Nw}{i:Nat}{x:α}(h:xs[i]? =some x)(hx:f x=false):xs.all f=false:=by
 cases e:xs.all f with
 |false=>rfl
 |true=>rw[List.all_eq_true.mp e x (List.mem_of_getElem? h)] at hx;cases hx
seal dj PS PE PT PA PG PI dE dD in
theorem Et{f fm fn:LS}{fd fdm fdn:Mj}(D:Df K mg "need_gone" ph f fd)(B:gB K mg C)(FM:dv K "many" "Book.many" i9 fm fdm)(mM:Meth K C "many" fm)(GM:cV P w K mg base dc 1 fm fdm ["self"] (mJ C))
  (DN:gS K mg "need_number" kq fn fdn #[.none])(GN:cV P w K mg base (dz P w) 2 fn fdn ["thing","least","most"] (vk K CN))(X:Ex K mg "BadNumber" CN)(T:Txt mg):cV P w K mg base (dz P w) 3 f fd ["books","gone"] (xp K C CN):=by
 have bM:=FM.binds (ps:=["self"]) λ_ _ _ _ _ _ us hl=>gD (λ_=>rfl) us hl
 have bN:=DN.binds (ps:=["thing","least","most"]) (ds:=[]) λT kV doc pm an cdv ct us hl=>jD (λ_ _ _=>⟨_,rfl,rfl⟩) us (show us.length=3 by simpa using hl)
 refine D.F.ok1 sG (λvs H Q E h=>?_) (λcdv A outer s H vs Q E hr h=>?_)
 ·obtain⟨bl,gl,bs,gs,I,gvs,rfl,_⟩:=h;rfl
 ·obtain⟨bl,gl,bs,gs,I,gvs,rfl,aj,ak,ao,aq,hlen,k1,k2⟩:=h;have hl:(sizeLine:Nat)=16777216:=Mt;have hu:=iP hr;have av:=Gn.Paired.len ao;have aw:=Gn.Paired.len aq;refine⟨_,cU (di (i:=2) sG.nd rfl (Mh rfl) JO)
   (cU (fx Pe rfl (eZ (pv 1)) (dB (i:=3) sG.nd rfl (Mh rfl))
    (cU (dP (PW.pt (iw (f9 (fM (dR jb rfl T.isi gG (cP (pv 3) (cP (iF (v:= .ty "tuple") rfl T.tuple pM rfl) cQ)))))
     (jc (dU qt (dR gZ rfl T.len gf (cP (pv 3) cQ)) cX (dH _))))) (cY (ji rfl X.q Na dkq Na rfl X.m (cP dq cQ) jm)) dO)
    (cU (di (i:=4) sG.nd rfl (Mh rfl) (eB eY (pv 0) (dw GN hr rfl DN.m DN.kp bN .nil (gP (E':=E) (λ_ _ _ h=>h)) (cP (eB nr (pv 3) cX (λ_ _=>rfl)) (cP cX (cP (de kT (dR gZ rfl T.len gf (cP (pv 0) cQ)) cX) cQ)))) (λ_ _=>rfl)))
    (cU (fv (dw GN hr rfl DN.m DN.kp bN .nil (gP (E':=E) (λ_ _ _ h=>h)) (cP (eB nr (pv 3) cX (λ_ _=>rfl)) (cP cX (cP (de kT (g0 (pv 4) B.cl mM (GM.mono (by decide)) hr bM .nil du) cX) cQ)))))
    (cY (me hu (pv 2) (pv 3) fN rfl))))))
   (cY (dg (pv 2)))),?_⟩;intro d hd;refine⟨_,rfl,gl,rfl,⟨_,cS.of (da hd _ _ ak)⟩,?_⟩;refine iW (xs:=gs) (λi σ H'=>∃(kvs:LR (LR Key×V)) (o3 o4:Mc V),σ=[some (.ref bl),some (.ref gl),some (.ref d),o3,o4]/\cR H H'/\H' d=some (.dT kvs)/\kvs.length<=i/\(gvs.take i).all (j3 (I.map MQ))=true/\(∀ i' j':Nat,(dQ kvs (ij i' j')).isSome=true↔some (V.int i',V.int j')∈gvs.take i)) ?_ ?_ ?_ ?_
  ·exact⟨[],none,none,rfl,da hd,cT,Ma _,rfl,λi' j'=>⟨λz=>(by cases z),λz=>nomatch z⟩⟩
  ·rintro i σ H' _ ⟨_,_,_,_,J,_⟩;exact cS.of (J _ _ ak)
  ·rintro i v σ H' hv ⟨kvs,o3,o4,rfl,J,ai,ar,U,ae⟩;obtain⟨gv,aa,hG⟩:=fX aq hv;have aB:=(List.getElem?_eq_some_iff.mp hv).1;cases hG with
   |no h hn=>
    refine⟨_,rfl,v,.ty "tuple",_,_,rfl,Ci h J,.inl ⟨_,rfl,Kq h hn⟩,_,rfl,dG (dG ⟨by show 1<=sizeLine;decide,k2 (qG aa rfl) H' J⟩)⟩
   |len h aC=>
    rename_i p ys;refine⟨_,rfl,.ref p,.ty "tuple",_,_,rfl,.tup (J _ _ h),.inl ⟨_,rfl,qZ⟩,_,rfl,df ?_⟩;refine⟨_,rfl,p,_,rfl,.inr (dY.of (J _ _ h)),rfl,_,rfl,?_⟩;rw[AI (show((ys.length:Nat):Int)≠2 by lia)];exact dG ⟨by show 1<=sizeLine;decide,k2 (qG aa rfl) H' J⟩
   |two h ha hb=>
    rename_i p a b;have h':=J _ _ h;refine⟨_,rfl,.ref p,.ty "tuple",_,_,rfl,.tup h',.inl ⟨_,rfl,qZ⟩,_,rfl,df ?_⟩;refine⟨_,rfl,p,_,rfl,.inr (dY.of h'),rfl,_,rfl,df ?_⟩;refine⟨_,rfl,_,rfl,p,_,_,_,rfl,rfl,dY.of h',dS (j:=0) rfl,_,rfl,bl,_,rfl,.inl (cS.of (J _ _ aj)),_,_,rfl,rfl,?_⟩;have ag:bs.length=(I.map MQ).length:=by rw[av,LV]
    refine⟨a,0,some (((bs.length:Nat):Int)-1),rfl,ha.same J,λhg=>?_,λhg=>k2 (qG aa ?_) H' J⟩
    ·obtain⟨i0,rfl,aD⟩:=qM hg;obtain⟨ps,au⟩:∃ ps,I[i0]? =some ps:=⟨I[i0]'(by lia),List.getElem?_eq_getElem (by lia)⟩;obtain⟨bv,ax,x,rfl,ay⟩:=Gn.Paired.at ao au;have ah:=ay.same J;obtain⟨dx,dn,pa,sz,dr,ri,xs,es,ts,az,_⟩:=ah.ex;refine⟨bl,_,_,_,rfl,rfl,cS.of (J _ _ aj),dS ax,?_⟩;refine⟨_,rfl,p,_,_,_,rfl,rfl,dY.of h',dS (j:=1) rfl,_,rfl,x,dx,_,rfl,az,jo dkq dkq dkq dkq dkq,?_⟩;refine⟨x,ps,rfl,ah,_,_,rfl,rfl,?_⟩;have ab:(I.map MQ).getD i0 0=ps.length:=by
      rw[List.getD_eq_getElem?_getD,List.getElem?_map,au];rfl
     refine⟨b,0,some ((ps.length:Int)-1),rfl,hb.same J,λaf=>?_,λaf=>k2 (qG aa ?_) H' J⟩
     ·obtain⟨j0,rfl,aE⟩:=qM af;refine⟨_,rfl,_,rfl,d,_,rfl,iQ.t (k:=ij i0 j0) ai h' (by lia),?_⟩;have aA:j3 (I.map MQ) (some (V.int i0,V.int j0))=true:=by
       show(gW (.int (i0:Int)) 0 _&&gW (.int (j0:Int)) 0 (some ((((I.map MQ).getD (i0:Int).toNat 0:Nat):Int)-1)))=true;rw[NF,ab,af,<-ag,hg];rfl
      refine⟨_,_,_,rfl,λq u e=>?_,cT,Mr (qz _ _ _) (Pt ar),?_,λi' j'=>?_⟩
      ·rw[cW (dF e hd)];exact J _ _ e
      ·rw[take_snoc aa,O8,U];show(true&&(j3 _ _&&true))=true;rw[aA];rfl
      ·rw[xB,take_snoc aa,Ot,N8,<-ae];by_cases e:ij i' j'=ij i0 j0
       ·obtain⟨rfl,rfl⟩:=Cn e;rw[LZ rfl];exact⟨λ_=> .inr rfl,λ_=>rfl⟩
       ·rw[LX e];refine⟨.inl,λz=>z.elim id λz=>absurd ?_ e⟩;have z':=Q7 (Ml z);have z1:(i':Int)=i0:=V.int.inj z'.1;have z2:(j':Int)=j0:=V.int.inj z'.2;show [Ob (i':Int),Ob (j':Int)]=[Ob (i0:Int),Ob (j0:Int)];rw[z1,z2]
     ·show(gW (.int (i0:Int)) 0 _&&gW b 0 (some ((((I.map MQ).getD (i0:Int).toNat 0:Nat):Int)-1)))=false;rw[NF,ab,af,PV]
    ·cases a with
     |int i0=>
      show(gW (.int i0) 0 (some (((I.map MQ).length:Int)-1))&&_)=false;rw[<-ag,hg];rfl
     |_=>rfl
  ·rintro σ H' ⟨kvs,o3,o4,rfl,J,ai,ar,U,ae⟩;rw[aw,MG] at U ae;exact⟨_,rfl,k1 U d H' kvs J hd ai ae⟩
end
noncomputable def FC(cur:Str->LR Pr):Hp->LS->Str->Prop:=λH a y=>eQ H a (cur y)
structure gH (B H : Hp) (d : LS) (es : En) (cur : Str -> LR Pr) : Prop where
 l : DL B H d es (FC cur)
 k : ∀ y, y ∈ es.map (·.1) ↔ cur y ≠ []
noncomputable def more(cur:Str->LR Pr)(x:Str)(r:Pr):Str->LR Pr:=λy=>if y=x then cur x++[r] else cur y
theorem gH.app {B H2 H3:Hp}{d p:LS}{es:En}{cur:Str->LR Pr}{x:Str}{v:V}{r:Pr}{ys:LR V}(hD:DL B H2 d es (FC cur))(hp:(x,p)∈es)(hk:∀ y,y∈es.map (·.1)↔cur y≠[]\/y=x)(s:cR H2 H3)
  (hys:H2 p=some (.lst ys))(hpr:MY (gw H2) ys (cur x))(hv:gw H3 v r):gH B (upd H3 p (.lst (ys++[v]))) d es (more cur x r):=by
 have J:SameBut p H2 (upd H3 p (.lst (ys++[v]))):=λb u q hb=>by rw[cW hb];exact s _ _ q
 have U:=eQ.snoc (s _ _ hys) (Gn.Paired.imp2 hpr λ_ _ q=>q.same s) hv
 have I:d≠p:=λq=>by rw[<-q,hD.d] at hys;cases hys
 refine⟨hD.put hp (J _ _ hD.d I) (λe he n1 n2 hf=>?_) ?_,λy=>?_⟩
 ·show eQ _ e.2 (more cur x r e.1);rw[more,LX n1];exact eQ.but hf J n2 λts q=>by rw[hys] at q;cases q
 ·show eQ _ p (more cur x r x);rw[more,LZ rfl];exact U
 ·rw[hk];unfold more;by_cases e:y=x
  ·rw[LZ e];exact⟨λ_=>by simp,λ_=> .inr e⟩
  ·rw[LX e];exact⟨λz=>z.elim id λz=>absurd z e,.inl⟩
theorem gH.cong {B H:Hp}{d:LS}{es:En}{cur cur':Str->LR Pr}(h:gH B H d es cur)(e:∀ y,cur y=cur' y):gH B H d es cur':=by
 have:cur=cur':=funext e;rw[<-this];exact h
theorem Ez{z y:Str}(hz:Drawn z)(h:y∈tw z):dA 2000 (.str y)=true:=by
 unfold tw at h;obtain⟨x,J,rfl⟩:=List.mem_map.mp h;obtain⟨h1,h2,h3,h4⟩:=Lf (codes z) x J;have I:(codes z).length=z.length:=by unfold codes;simp[NB]
 have U:=hz.1
 show(decide (1<=(⟨x.1.toArray⟩:Str).length)&&decide ((⟨x.1.toArray⟩:Str).length<=2000)&&x.1.toArray.toList.all dW)=true;rw[iY];have hp:0<x.1.length:=List.length_pos_iff.mpr h1;rw[Mb (by lia),Mb (by lia)];simpa using h2
section
variable {P : Mq} {w : MT} {K : Mz} {mg : Str -> Mc LW} {base : Nn} {C CN CW : LS}
noncomputable def yy(C:LS):Sp:=λvs H Q _=>∃(d x dn:LS) (J B:Hp) (es:En) (ta:LR (LR Str)) (ps:LR (Str×Str)) (ks:LR Nw) (kvs:LR (Key×V)),vs=[.ref d,.ref x,.ref dn]/\cR J H/\fC C J x ps/\lg ps/\gN (cZ ps)/\
 (∀ z,B z=none->J z=none)/\(∀ z,H z=none->B z=none)/\B d=none/\gH B H d es (λy=>rowOf y ta 0)/\H dn=some (.dK kvs)/\dn≠d/\ks.length=ps.length/\
 (∀ n:Nat,dQ kvs (Ob (n:Int))=if ks[n]? =some true then some (.int ((ta.length+cnt ks n:Nat):Int)) else none)/\es.length<=2000/\ta.length<=1000/\
 ∀ I H',cR J H'->(∀ b u o,H b=some u->B b=some o->H' b=some u)->(∀ b q,H b=some (.tup q)->H' b=some (.tup q))->gH B H' d I (λy=>rowOf y (ta++d0 ks (cZ ps)) 0)->I.length<=es.length+d8 (cZ ps)->Q .non H'
theorem sM:dC ["rows","book","new_numbers","word","number","places"] ["rows","book","new_numbers"] (c9 p0):=⟨rfl,rfl,rfl,dkq,rfl,dkq,dkq⟩
seal dj PS PE PT PA PG PI dE dD in
theorem Kc{f fw fr:LS}{fd fdw fdr:Mj}(D:Df K mg "pour_rows" p0 f fd)(B:gB K mg C)(FW:dv K "words" "Book.words" lW fw fdw)(mW:Meth K C "words" fw)(GW:cV P w K mg base dc 1 fw fdw ["self"] (AD C))
  (FR:dv K "row_of" "Book.row_of" lH fr fdr)(mR:Meth K C "row_of" fr)(GR:cV P w K mg base (dz P w) 5 fr fdr ["self","word"] (Aj K C CW)):cV P w K mg base dc 6 f fd ["rows","book","new_numbers"] (yy C):=by
 have bW:=FW.binds (ps:=["self"]) λ_ _ _ _ _ _ us hl=>gD (λ_=>rfl) us hl
 have bR:=FR.binds (ps:=["self","word"]) λ_ _ _ _ _ _ us hl=>eO (λ_ _=>rfl) us hl
 refine D.F.ok sM (λvs H Q E h=>?_) (λcdv A outer s H vs Q E hr h=>?_)
 ·obtain⟨d,x,dn,B0,Bs,es,ta,ps,ks,kvs,rfl,_⟩:=h;rfl
 ·obtain⟨d,x,dn,B0,Bs,aC,ta,ps,ks,kvs,rfl,s0,aD,hg,au,aY,bg,aQ,ai,bh,bj,aZ,a0,bF,bG,k⟩:=h;have hl:(sizeLine:Nat)=16777216:=Mt;have hu:=iP hr;have bH:=aD.ex;refine⟨_,cY (fx MK rfl (eZ (g0 (pv 1) B.cl mW (GW.mono (by decide)) hr bW .nil du)) (dB (i:=3) sM.nd rfl (Mh rfl))
   (cY (fx MK rfl (eZ (gU (pv 1) B.cl mR GR hr bR .nil ig (cP (pv 3) cQ))) (ir (n:=2) rfl (fe (dB (i:=4) sM.nd rfl (Mh rfl)) (fe (dB (i:=5) sM.nd rfl (Mh rfl)) il)))
    (cY (dP (iZ (nC hu (pv 4) (pv 2)))
     (cY (fv (eV MP MN MS gE
      (PE.imp (t':=rR 0 3) (eV OL O3 P4 vc (pv 0) (cP (pv 3) (cP (dZ cQ) cQ))) λ_ _ _=>getL)
      (cP (ip (cP (oj hu (pv 2) (pv 4) (λ_ _=>rfl)) (cP (pv 5) cQ))) cQ)))) dO))))),?_⟩;obtain⟨dx,bI,pa,sz,dr,ri,bo,aq,bp,aR,_⟩:=(aD.same s0).ex;refine⟨_,rfl,x,dx,_,rfl,aR,jo dkq dkq dkq dkq dkq,?_⟩;refine⟨x,ps,rfl,aD.same s0,λlw ts H1 s1 bq hL a3 aS _=>?_⟩;have aT:ks.length=(cZ ps).length:=by rw[aZ];unfold cZ;rw[LV]
  have bJ:ts.length<=d8 (cZ ps):=by
   have h1:=qV a3 (m:=(cZ ps).flatten) λy hy=>by
    obtain⟨ws,a,b⟩:=(aS y).mp hy;exact List.mem_flatten.mpr ⟨ws,a,b⟩
   rw[List.length_flatten] at h1;exact h1
  have bK:=au.t
  have bL:=au.l;refine⟨lw,rfl,⟨_,cS.of hL⟩,?_⟩;have a4:∀ y,rowOf y (ta++d0 ks (cZ ps)) 0=rowOf y ta 0++fj ks ta.length (rowOf y (cZ ps) 0):=λy=>by
   rw[zL,P5,LK y ta.length ks (cZ ps) aT]
  have e0:(sl ts).length=ts.length:=LV _;refine iW (xs:=sl ts) (λi σ H'=>∃(es:En) (o3 o4 o5:Mc V),σ=[some (.ref d),some (.ref x),some (.ref dn),o3,o4,o5]/\cR B0 H'/\(∀ b u o,H b=some u->Bs b=some o->H' b=some u)/\(∀ b q,H b=some (.tup q)->H' b=some (.tup q))/\(∀ z,H' z=none->Bs z=none)/\H' dn=some (.dK kvs)/\H' lw=some (.lst (sl ts))/\(∀ e∈es,e.2≠lw)/\
   gH Bs H' d es (λy=>if y∈ts.take i then rowOf y ta 0++fj ks ta.length (rowOf y (cZ ps) 0) else rowOf y ta 0)/\es.length<=aC.length+i) ?_ ?_ ?_ ?_
  ·refine⟨aC,none,none,none,rfl,s0.trans s1,λb u o e _=>s1 _ _ e,λb q e=>s1 _ _ e,λz hz=>bg z (s1.free hz),s1 _ _ bh,hL,λe he q=>?_,⟨⟨s1 _ _ ai.l.d,ai.l.k,ai.l.a,ai.l.n,λe he=>?_⟩,λy=>?_⟩,Ma _⟩
   ·obtain⟨ys,h1,_⟩:=ai.l.f e he;rw[q,bq] at h1;cases h1
   ·show eQ H1 e.2 (if e.1∈ts.take 0 then _ else rowOf e.1 ta 0);rw[LX (by simp)];exact(ai.l.f e he).same s1
   ·rw[LX (by simp)];exact ai.k y
  ·rintro i σ H' _ ⟨_,_,_,_,_,_,_,_,_,_,h,_⟩;exact cS.of h
  ·rintro i v σ H' hv ⟨es,o3,o4,o5,rfl,sB,fr,tp,a5,aI,aJ,a6,hR,aE⟩;obtain⟨I,aF,rfl⟩:=xo hv;have bM:=(List.getElem?_eq_some_iff.mp aF).1;have br:I∈ts:=List.mem_of_getElem? aF;have aK:I∉ts.take i:=oY a3 aF;have aL:=aD.same sB;obtain⟨dx,bN,pa,sz,dr,ri,bo,aq,bp,aR,_⟩:=aL.ex;have av:dA 2000 (.str I)=true:=by
    obtain⟨ws,a,b⟩:=(aS I).mp br;unfold cZ at a;obtain⟨p,hp,rfl⟩:=List.mem_map.mp a;exact Ez (kE (hg.g p hp).2) b
   have bO:I.length<=2000:=by
    have h1:(decide (1<=I.length)&&decide (I.length<=2000)&&I.cps.toList.all dW)=true:=av;rw[MO,MO] at h1;exact Nh h1.1.2
   refine⟨_,rfl,x,dx,_,rfl,aR,jo dkq dkq dkq dkq dkq,_,rfl,?_⟩;refine⟨x,ps,.str I,rfl,aL,au,⟨_,.str _⟩,(λz e=>by injection e with e;rw[<-e];lia),λz l H2 e _ s2 bt bu=>?_,λe=>by rw[av] at e;cases e⟩;injection e with e;subst e;obtain⟨ys,a7,a8⟩:=bu;have bw:=Gn.Paired.len a8;have bP:=(qh I (cZ ps) 0).1;refine⟨l,rfl,⟨_,cS.of a7⟩,?_⟩;refine iW (xs:=ys) (λj σ H3=>∃(es:En) (o4 o5:Mc V),σ=[some (.ref d),some (.ref x),some (.ref dn),some (.str I),o4,o5]/\cR B0 H3/\(∀ b u o,H b=some u->Bs b=some o->H3 b=some u)/\(∀ b q,H b=some (.tup q)->H3 b=some (.tup q))/\(∀ z,H3 z=none->Bs z=none)/\H3 dn=some (.dK kvs)/\H3 lw=some (.lst (sl ts))/\(∀ e∈es,e.2≠lw)/\
    H3 l=some (.lst ys)/\MY (gw H3) ys (rowOf I (cZ ps) 0)/\(∀ e∈es,e.2≠l)/\
    gH Bs H3 d es (λy=>if y=I then rowOf I ta 0++fj ks ta.length ((rowOf I (cZ ps) 0).take j) else if y∈ts.take i then rowOf y ta 0++fj ks ta.length (rowOf y (cZ ps) 0) else rowOf y ta 0)/\es.length<=aC.length+i+1/\(I∉es.map (·.1)->es.length<=aC.length+i)) ?_ ?_ ?_ ?_
   ·refine⟨es,_,_,rfl,sB.trans s2,λb u o e1 e2=>s2 _ _ (fr b u o e1 e2),λb q e=>s2 _ _ (tp b q e),λz hz=>a5 z (s2.free hz),s2 _ _ aI,s2 _ _ aJ,a6,a7,a8,λe he q=>?_,⟨⟨s2 _ _ hR.l.d,hR.l.k,hR.l.a,hR.l.n,λe he=>?_⟩,λy=>?_⟩,Od aE,λ_=>aE⟩
    ·obtain⟨zs,h1,_⟩:=hR.l.f e he;rw[q,bt] at h1;cases h1
    ·have hf:eQ H' e.2 (if e.1∈ts.take i then rowOf e.1 ta 0++fj ks ta.length (rowOf e.1 (cZ ps) 0) else rowOf e.1 ta 0):=hR.l.f e he
     show eQ H2 e.2 (if e.1=I then _ else _);by_cases q:e.1=I
     ·rw[LZ q];rw[q,LX aK] at hf;show eQ H2 e.2 (rowOf I ta 0++[]);rw[MR];exact hf.same s2
     ·rw[LX q];exact hf.same s2
    ·rw[hR.k y];by_cases q:y=I
     ·rw[LZ q,q,LX aK];show _↔rowOf I ta 0++[]≠[];rw[MR]
     ·rw[LX q]
   ·rintro j σ H3 _ ⟨_,_,_,_,_,_,_,_,_,_,_,h,_⟩;exact cS.of h
   ·rintro j v σ H3 hv ⟨es,o4,o5,rfl,aG,aH,aw,ab,ae,U,af,ag,aj,aa,J,ak,ax⟩;obtain⟨r,bx,a9⟩:=fX aj hv;obtain⟨n,pl⟩:=r;cases a9 with
    |mk h ht=>
     rename_i p t;have ba:(rowOf I (cZ ps) 0).take (j+1)=(rowOf I (cZ ps) 0).take j++[(n,pl)]:=take_snoc bx;refine⟨p,_,rfl,dY.of h,rfl,_,_,rfl,_,_,rfl,rfl,?_⟩;refine⟨_,rfl,_,rfl,dn,_,rfl,gh.k (k:=Ob (n:Int)) ae,_,rfl,?_⟩;rw[a0 n];by_cases ay:ks[n]? =some true
     ·rw[LZ ay];refine dG ?_;have az:fj ks ta.length ((rowOf I (cZ ps) 0).take (j+1))=fj ks ta.length ((rowOf I (cZ ps) 0).take j)++[(ta.length+cnt ks n,pl)]:=by
       rw[ba,vo]
       congr 1
       show(if ks[n]? =some true then _ else _)=_;rw[LZ ay];rfl
      have bz:∀ e'∈es,∃ q,H3 e'.2=some (.lst q):=λe' bA=>let ⟨zs,h1,_⟩:=J.l.f e' bA;⟨zs,h1⟩
      refine⟨Bs,d,es,I,FC _,rfl,rfl,J.l,by lia,ab,bz,?_,?_,?_⟩
      ·intro G b y q sb hb hf;exact eQ.but hf sb (λe=>by rw[e,J.l.d] at hb;cases hb) λts e=>by rw[J.l.d] at e;cases e
      ·intro G z hn hz;refine⟨[],hz,?_⟩;have:¬ _≠[]:=λe=>hn ((J.k I).mpr e)
       have h0:=Classical.not_not.mp this;dsimp only;rw[h0];exact .nil
      ·rintro pp aq H4 sb aU hp aV ⟨q,bQ⟩;obtain⟨zs,ar,bb⟩:=aU.f _ hp;have ao:=sb _ _ ae bj;have aA:∀{b:LS} {q:LR V},H3 b=some (.lst q)->b≠d:=λe z=>by rw[z,J.l.d] at e;cases e
       have aM:∀{b:LS} {q:LR V},H3 b=some (.tup q)->b≠d:=λe z=>by rw[z,J.l.d] at e;cases e
       refine⟨.inl ⟨rfl,_,cS.of ar⟩,?_⟩;have bB:some (V.int ((ta.length+cnt ks n:Nat):Int))=dQ kvs (Ob (n:Int)):=by rw[a0 n,LZ ay]
       refine⟨_,rfl,_,rfl,dn,_,rfl,.inl ⟨kvs,Ob (n:Int),.inl ao,rfl,bB⟩,_,rfl,(by show 2<=sizeLine;decide),λpt bC=>?_⟩;have s5:cR H4 (upd H4 pt (.tup [.int ((ta.length+cnt ks n:Nat):Int),.ref t])):=da bC;have h5:upd H4 pt (.tup [.int ((ta.length+cnt ks n:Nat):Int),.ref t]) pt=some (.tup [.int ((ta.length+cnt ks n:Nat):Int),.ref t]):=cT;generalize upd H4 pt (.tup [.int ((ta.length+cnt ks n:Nat):Int),.ref t])=H5 at s5 h5 ⊢;have bD:gw H5 (.ref pt) (ta.length+cnt ks n,pl):= .mk h5 (s5 _ _ (sb _ _ ht (aM ht)));have bS:zs.length<=10000:=by
        have h1:=Gn.Paired.len bb;rw[h1];show(if I=I then rowOf I ta 0++fj ks ta.length ((rowOf I (cZ ps) 0).take j) else _).length<=_;rw[LZ rfl,Md];have h2:=(qh I ta 0).1;have h3:∀(l:LR Pr),(fj ks ta.length l).length<=l.length:=λl=>by
         induction l with
         |nil=>exact Ma _
         |cons a l ih=>
          obtain⟨a1,a2⟩:=a;show(if ks[a1]? =some true then _::fj ks ta.length l else fj ks ta.length l).length<=l.length+1;by_cases e:ks[a1]? =some true
          ·rw[LZ e];exact Pt ih
          ·rw[LX e];exact Od ih
        have h4:=h3 ((rowOf I (cZ ps) 0).take j);rw[ML] at h4
        lia
       refine⟨pp,zs,_,rfl,rfl,s5 _ _ ar,by lia,?_⟩;have aB:∀ e∈aq,e.2≠lw/\e.2≠l:=λe he=>by
        rcases aV with rfl|⟨_,rfl,bc⟩
        ·exact⟨af e he,aa e he⟩
        ·rcases List.mem_append.mp he with he|he
         ·exact⟨af e he,aa e he⟩
         ·rw[List.mem_singleton.mp he];exact⟨Nt (dF U bc),Nt (dF ag bc)⟩
       have aN:=aB _ hp
       have aW:∀ y,y∈aq.map (·.1)↔(if y=I then rowOf I ta 0++fj ks ta.length ((rowOf I (cZ ps) 0).take j) else if y∈ts.take i then rowOf y ta 0++fj ks ta.length (rowOf y (cZ ps) 0) else rowOf y ta 0)≠[]\/y=I:=λy=>by
        have hm:y∈aq.map (·.1)↔y∈es.map (·.1)\/y=I:=by
         rcases aV with rfl|⟨_,rfl,_⟩
         ·exact⟨.inl,λq=>q.elim id λz=>by rw[z];exact List.mem_map.mpr ⟨_,hp,rfl⟩⟩
         ·rw[Mf,Ot];show(_\/y∈[I])↔_;rw[N8]
        rw[hm,J.k y]
       have aO:=gH.app aU hp aW s5 ar bb bD
       have ah:SameBut pp H4 (upd H5 pp (.lst (zs++[.ref pt]))):=λb u q hb=>by rw[cW hb];exact s5 _ _ q
       have aX:Bs pp=none:=aU.n _ hp
       have bf:∀ b u,B0 b=some u->H4 b=some u:=λb u e=>sb _ _ (aG _ _ e) λq=>by
        have:=aY d aQ;rw[<-q,e] at this;cases this
       have aP:∀ z,(upd H5 pp (.lst (zs++[.ref pt]))) z=none->Bs z=none:=λz hz=>by
        by_cases e:z=pp
        ·rw[e];exact aX
        ·rw[cW e] at hz;by_cases e2:z=d
         ·rw[e2];exact aQ
         ·refine ab z ?_;cases q:H3 z with
          |none=>rfl
          |some u=>rw[s5 _ _ (sb _ _ q e2)] at hz;cases hz
       generalize upd H5 pp (.lst (zs++[.ref pt]))=H7 at aO ah aP ⊢;refine⟨aq,_,_,rfl,λb u e=>?_,λb u o e1 e2=>?_,λb q e=>?_,aP,?_,?_,λe he=>(aB e he).1,?_,?_,λe he=>(aB e he).2,aO.cong λy=>?_,?_,λhn=>?_⟩
       ·exact ah _ _ (bf b u e) λq=>by
         have:=aY pp aX;rw[<-q,e] at this;cases this
       ·exact ah _ _ (sb _ _ (aH b u o e1 e2) λq=>by rw[q,aQ] at e2;cases e2) λq=>by rw[q,aX] at e2;cases e2
       ·have h4:=sb _ _ (aw b q e) (aM (aw b q e));exact ah _ _ h4 λq=>by rw[q,ar] at h4;cases h4
       ·exact ah _ _ ao λq=>by rw[q,ar] at ao;cases ao
       ·exact ah _ _ (sb _ _ U (aA U)) (Nt aN.1)
       ·exact ah _ _ (sb _ _ ag (aA ag)) (Nt aN.2)
       ·exact Gn.Paired.imp2 aj λ_ _ q=>(q.but sb (λts e=>by rw[J.l.d] at e;cases e)).but ah λts e=>by rw[ar] at e;cases e
       ·unfold more;dsimp only;by_cases e:y=I
        ·rw[LZ e,LZ e,LZ rfl,az,Nc]
        ·rw[LX e,LX e,LX e]
       ·rcases aV with rfl|⟨bE,rfl,_⟩
        ·exact ak
        ·have:=ax bE;rw[Md];show es.length+1<=_
         lia
       ·exact absurd (List.mem_map.mpr ⟨_,hp,rfl⟩) hn
     ·rw[LX ay];refine df ?_;have az:fj ks ta.length ((rowOf I (cZ ps) 0).take (j+1))=fj ks ta.length ((rowOf I (cZ ps) 0).take j):=by
       rw[ba,vo];show _++(if ks[n]? =some true then _ else _)=_;rw[LX ay];exact MR _
      exact⟨es,_,_,rfl,aG,aH,aw,ab,ae,U,af,ag,aj,aa,J.cong λy=>by rw[az],ak,ax⟩
   ·rintro σ H3 ⟨es,o4,o5,rfl,aG,aH,aw,ab,ae,U,af,ag,aj,aa,J,ak,_⟩;rw[bw,MG] at J;refine⟨es,_,_,_,rfl,aG,aH,aw,ab,ae,U,af,J.cong λy=>?_,ak⟩;have em:y∈ts.take (i+1)↔y∈ts.take i\/y=I:=by rw[take_snoc aF,Ot,N8]
    by_cases q:y=I
    ·rw[LZ q,LZ (em.mpr (.inr q)),q]
    ·rw[LX q];by_cases q2:y∈ts.take i
     ·rw[LZ q2,LZ (em.mpr (.inl q2))]
     ·rw[LX q2,LX λz=>(em.mp z).elim q2 q]
  ·rintro σ H' ⟨es,o3,o4,o5,rfl,sB,fr,tp,a5,aI,aJ,a6,hR,aE⟩;rw[e0,MG] at hR;rw[e0] at aE;refine k es H' sB fr tp (hR.cong λy=>?_) (by lia);rw[a4 y];by_cases q:y∈ts
   ·rw[LZ q]
   ·rw[LX q,(nL y (cZ ps) 0).mpr λws hw z=>q ((aS y).mpr ⟨ws,hw,z⟩)];exact(MR _).symm
end
noncomputable def fE(gvs:LR (Mc (V×V)))(i n:Nat):LR Nw:=(NQ n).map λ(j:Nat)=> !decide (some (V.int (i:Int),V.int (j:Int))∈gvs)
theorem rF(gvs:LR (Mc (V×V)))(i n:Nat):(fE gvs i n).length=n:=by unfold fE;simp
theorem Fe{gvs:LR (Mc (V×V))}{i n j:Nat}(h:j<n):(fE gvs i n)[j]? =some (!decide (some (V.int (i:Int),V.int (j:Int))∈gvs)):=by
 unfold fE;rw[List.getElem?_map,List.getElem?_range h];rfl
noncomputable def kept(gvs:LR (Mc (V×V))):Nat->LR (LR (Str×Str))->LR (Str×Str)
 |_,[]=>[]
 |i,ps::r=>d0 (fE gvs i ps.length) ps++kept gvs (i+1) r
theorem AR(gvs:LR (Mc (V×V)))(ps:LR (Str×Str)):∀(a:LR (LR (Str×Str))) (s:Nat),kept gvs s (a++[ps])=kept gvs s a++d0 (fE gvs (s+a.length) ps.length) ps
 |[],s=>by
  show d0 _ ps++[]=[]++_;rw[MR,Qu];rfl
 |x::a,s=>by
  show d0 _ x++kept gvs (s+1) (a++[ps])=(d0 _ x++kept gvs (s+1) a)++_;rw[AR gvs ps a (s+1),Nc];have e:s+1+a.length=s+(x::a).length:=by rw[Ms];lia
  rw[e]
theorem wg(gvs:LR (Mc (V×V))):∀(a:LR (LR (Str×Str))) (s:Nat),(kept gvs s a).Sublist a.flatten
 |[],s=>OD _
 |x::a,s=>by
  show(d0 _ x++kept gvs (s+1) a).Sublist (x++a.flatten);exact(sg _ x).append (wg gvs a (s+1))
theorem vw{α:Type}:∀{a b:LR (LR α)},a.Sublist b->d8 a<=d8 b
 |_,_,.slnil=>Ma _
 |_,_,.cons x h=>by
  have:=vw h
  show _<=x.length+d8 _
  lia
 |_,_,.cons_cons x h=>by
  have:=vw h
  show x.length+d8 _<=x.length+d8 _
  lia
theorem gN.sub {a b:LR (Str×Str)}(h:gN (cZ b))(s:a.Sublist b):gN (cZ a):=by
 have s2:(cZ a).Sublist (cZ b):=s.map _;exact⟨Mr s2.length_le h.l,Mr (vw s2) h.t⟩
theorem mw.sub {a b:LR (Str×Str)}(h:mw (cZ b))(s:a.Sublist b):mw (cZ a):=by
 obtain⟨us,h1,h2⟩:=h;exact⟨us,h1,λws hw=>h2 ws ((s.map (λp:Str×Str=>tw p.2)).mem hw)⟩
theorem pY:∀{a b:LR (Str×Str)},a.map kp=b.map kp->a=b
 |[],[],_=>rfl
 |[],_::_,h=>by cases h
 |_::_,[],h=>by cases h
 |x::a,y::b,h=>by
  rw[Nb,Nb] at h;obtain⟨h1,h2⟩:=Pa h;obtain⟨I,J⟩:=Q7 h1;have e:x=y:=Prod.ext (V.str.inj I) (V.str.inj J);rw[e,pY h2]
theorem wm:∀{ps:LR (Str×Str)} {seen:LR Str} {i:Nat},(∀ p∈ps,dA 12 (.str p.1)=true/\dX (.str p.2)=true)->iA seen (ps.map kp)=some i->i=2/\¬ ((ps.map (·.1)).Nodup/\∀ p∈ps,p.1∉seen)
 |[],_,_,_,h=>by cases h
 |p::ps,seen,i,J,h=>by
  obtain⟨g1,g2⟩:=J p Mi;have h':(if dA 12 (.str p.1)=false then some 0 else if dX (.str p.2)=false then some 1 else if p.1∈seen then some 2 else iA (seen++[p.1]) (ps.map kp))=some i:=h;rw[LX (by rw[g1];decide),LX (by rw[g2];decide)] at h';by_cases hs:p.1∈seen
  ·rw[LZ hs] at h';exact⟨(Ml h').symm,λz=>z.2 p Mi hs⟩
  ·rw[LX hs] at h';obtain⟨e,hn⟩:=wm (λq I=>J q (Mg _ I)) h';refine⟨e,λz=>hn ?_⟩;have U:(p.1::ps.map (·.1)).Nodup:=z.1;obtain⟨n1,n2⟩:=List.nodup_cons.mp U;refine⟨n2,λq I hm=>?_⟩;rcases List.mem_append.mp hm with hm|hm
   ·exact z.2 q (Mg _ I) hm
   ·exact n1 (by rw[<-List.mem_singleton.mp hm];exact List.mem_map.mpr ⟨q,I,rfl⟩)
section
variable {P : Mq} {w : MT} {K : Mz} {mg : Str -> Mc LW} {base : Nn} {C CN CK CT CW : LS}
theorem gH.but {B H H':Hp}{d x:LS}{es:En}{cur:Str->LR Pr}(h:gH B H d es cur)(s:SameBut x H H')(nd:d≠x)(nt:∀ ts,H x≠some (.tup ts))(ne:∀ e∈es,e.2≠x):gH B H' d es cur:=
 ⟨⟨s _ _ h.l.d nd,h.l.k,h.l.a,h.l.n,λe he=>eQ.but (h.l.f e he) s (ne e he) nt⟩,h.k⟩
theorem gH.same {B H H':Hp}{d:LS}{es:En}{cur:Str->LR Pr}(h:gH B H d es cur)(s:cR H H'):gH B H' d es cur:=
 ⟨⟨s _ _ h.l.d,h.l.k,h.l.a,h.l.n,λe he=>eQ.same (h.l.f e he) s⟩,h.k⟩
noncomputable def AY(K:Mm)(H:Hp)(g:V)(gvs:LR (Mc (V×V))):Prop:=(g= .non/\gvs=[])\/∃ gl I,g= .ref gl/\H gl=some (.lst I)/\MY (GV K H) I gvs/\I.length<=1000
noncomputable def ql(K:Mm)(C CN CW:LS):Sp:=λvs H Q E=>∃(bl:LS) (g:V) (bs:LR V) (I:LR (LR (Str×Str))) (gvs:LR (Mc (V×V))),vs=[.ref bl,g]/\H bl=some (.lst bs)/\gI C H bs I/\(∀ ps∈I,lg ps)/\gN (cZ I.flatten)/\mw (cZ I.flatten)/\I.length<=100/\AY K H g gvs/\
 (gvs.all (j3 (I.map MQ))=false->∀ H',cR H H'->E (.ref CN) none H')/\
 (gvs.all (j3 (I.map MQ))=true->((kept gvs 0 I).map (·.1)).Nodup->∀ x H',cR H H'->H x=none->fC C H' x (kept gvs 0 I)->(∀ J,(∀ b u,H' b=some u->(∀ m,Mo m->H b≠some m)->J b=some u)->fC C J x (kept gvs 0 I))->Q (.ref x) H')/\
 (gvs.all (j3 (I.map MQ))=true->¬ ((kept gvs 0 I).map (·.1)).Nodup->∀ H',cR H H'->E (.ref CW) none H')
theorem kI:dC ["books","gone","without","pairs","rows","place","book","new_numbers","number"] ["books","gone"] (c9 lU):=⟨rfl,rfl,rfl,dkq,rfl,dkq,dkq⟩
theorem uu(a b:LR (Str×Str)):cZ (a++b)=cZ a++cZ b:=Mf
theorem A2{α:Type}(a b:LR (LR α)):d8 (a++b)=d8 a+d8 b:=by
 unfold d8;rw[Mf,PB]
theorem LD{α:Type}{xs:LR (LR α)}{i:Nat}{x:LR α}(h:xs[i]? =some x):(xs.take (i+1)).flatten=(xs.take i).flatten++x:=by
 rw[take_snoc h,Nm];simp
theorem x8{α:Type}:∀(xs:LR (LR α)) (i:Nat),((xs.take i).flatten).Sublist xs.flatten
 |[],i=>by rw[List.take_nil];exact N3 _
 |x::xs,0=>OD _
 |x::xs,i+1=>by
  show(x++(xs.take i).flatten).Sublist (x++xs.flatten);exact(N3 x).append (x8 xs i)
theorem jN{α:Type}:∀{xs:LR (LR α)} {x:LR α},x∈xs->x.Sublist xs.flatten
 |[],_,h=>nomatch h
 |y::xs,x,h=>by
  show x.Sublist (y++xs.flatten);rcases List.mem_cons.mp h with h|h
  ·rw[h];exact ON _ _
  ·exact(jN h).trans (QV _ _)
noncomputable def GQ(K:Mm):TE:=λσ H Q=>∃(g:V) (gvs:LR (Mc (V×V))),σ[1]? =some (some g)/\AY K H g gvs/\∀ gl I H',cR H H'->H' gl=some (.lst I)->MY (GV K H') I gvs->I.length<=1000->Q (.ref gl) H'
theorem EL{H:Hp}{pa:LS}{xs:LR V}{qs:LR (Str×Str)}{p:LS}{q:Str×Str}(ha:H pa=some (.lst xs))(h:eX H xs (qs.map kp))(hp:H p=some (.tup [.str q.1,.str q.2])):eX (upd H pa (.lst (xs++[.ref p]))) (xs++[.ref p]) ((qs++[q]).map kp):=by
 have I:∀{b:LS} {ts:LR V},H b=some (.tup ts)->b≠pa:=λe z=>by rw[z,ha] at e;cases e
 rw[Mf];exact Gn.Paired.app (Gn.Paired.imp2 h λ_ _ ⟨b,e,z⟩=>⟨b,e,by rw[cW (I z)];exact z⟩) ⟨p,rfl,by rw[cW (I hp)];exact hp⟩
seal dj PS PE PT PA PG PI dE dD in
theorem Hl{f fg fm fk ft fp fr fi:LS}{fd fdg fdm fdk fdt fdp fdr fdi:Mj}(D:gS K mg "poured" lU f fd #[.none])(B:gB K mg C)(T:Txt mg)
  (DG:Df K mg "need_gone" ph fg fdg)(GG:cV P w K mg base (dz P w) 3 fg fdg ["books","gone"] (xp K C CN))
  (FM:dv K "many" "Book.many" i9 fm fdm)(mM:Meth K C "many" fm)(GM:cV P w K mg base dc 1 fm fdm ["self"] (mJ C))
  (FK':dv K "key_of" "Book.key_of" lr fk fdk)(mK:Meth K C "key_of" fk)(GK:cV P w K mg base (dz P w) 4 fk fdk ["self","number"] (nM K C CN (·.1)))
  (FT:dv K "text_of" "Book.text_of" jX ft fdt)(mT:Meth K C "text_of" ft)(GT:cV P w K mg base (dz P w) 4 ft fdt ["self","number"] (nM K C CN (·.2)))
  (DP:Df K mg "pour_rows" p0 fp fdp)(GP:cV P w K mg base dc 6 fp fdp ["rows","book","new_numbers"] (yy C))
  (DR:Df K mg "packed_rows" oF fr fdr)(GR:cV P w K mg base dc 6 fr fdr ["rows"] ub)
  (FI:kK K "__init__" "Book.__init__" jA fi fdi #[.none])(M:L2.Mk K C fi)(GI:cV P w K mg base (dz P w) 8 fi fdi ["self","pairs","rows"] (vY K C CK CT CW)):cV P w K mg base (dz P w) 10 f fd ["books","gone"] (ql K C CN CW):=by
 have bG:=DG.F.binds (ps:=["books","gone"]) λ_ _ _ _ _ _ us hl=>eO (λ_ _=>rfl) us hl
 have bM:=FM.binds (ps:=["self"]) λ_ _ _ _ _ _ us hl=>gD (λ_=>rfl) us hl
 have bK:=FK'.binds (ps:=["self","number"]) λ_ _ _ _ _ _ us hl=>eO (λ_ _=>rfl) us hl
 have bT:=FT.binds (ps:=["self","number"]) λ_ _ _ _ _ _ us hl=>eO (λ_ _=>rfl) us hl
 have bP:=DP.F.binds (ps:=["rows","book","new_numbers"]) λ_ _ _ _ _ _ us hl=>jD (λ_ _ _=>rfl) us hl
 have bR:=eI (p:="rows") DR.F λ_ _ _ _ _ _ _=>rfl
 have bI:=FI.binds (ps:=["self","pairs","rows"]) (ds:=[]) λT kV doc pm an cdv ct us hl=>jD (λ_ _ _=>⟨_,rfl,rfl⟩) us (show us.length=3 by simpa using hl)
 refine D.ok1 kI (λvs H Q E h=>?_) (λcdv A outer s H vs Q E hr h=>?_)
 ·obtain⟨bl,g,bs,I,gvs,rfl,_⟩:=h;rfl
 ·obtain⟨bl,g,bs,I,gvs,rfl,a5,a6,ax,aa,a7,cv,a8,k1,k2,k3⟩:=h;have hl:(sizeLine:Nat)=16777216:=Mt;have hu:=iP hr;have bU:=Gn.Paired.len a6;refine⟨_,cU (di (i:=2) kI.nd rfl (Mh rfl) (dw (GG.mono (by decide)) hr rfl DG.m DG.F.kp bG .nil (gP (E':=E) (λ_ _ _ h=>h)) (cP (pv 0) (cP (PE.imp (t':=GQ K) (r6 (iZ (ui (pv 1))) (dZ cQ) (pv 1)) ?mG) cQ))))
   (cU (di (i:=3) kI.nd rfl (Mh rfl) (dZ cQ))
   (cU (di (i:=4) kI.nd rfl (Mh rfl) jV)
   (cU (fx Pe rfl (pO rfl T.enum (cP (pv 0) cQ)) (ir (n:=2) rfl (fe (dB (i:=5) kI.nd rfl (Mh rfl)) (fe (dB (i:=6) kI.nd rfl (Mh rfl)) il)))
    (cU (di (i:=7) kI.nd rfl (Mh rfl) jV)
    (cU (fx Pe rfl (iO rfl T.range (cP (g0 (pv 6) B.cl mM (GM.mono (by decide)) hr bM .nil du) cQ)) (dB (i:=8) kI.nd rfl (Mh rfl))
     (cY (dP (iZ (uD hu (ip (cP (pv 5) (cP (pv 8) cQ))) (pv 2)))
      (cU (me hu (pv 7) (pv 8) (dR gZ rfl T.len gf (cP (pv 3) cQ)) rfl)
      (cY (fv (eV MP MN MS gE (pv 3)
       (cP (ip (cP (gU (pv 6) B.cl mK (GK.mono (by decide)) hr bK .nil ig (cP (pv 8) cQ)) (cP (gU (pv 6) B.cl mT (GT.mono (by decide)) hr bT .nil ig (cP (pv 8) cQ)) cQ))) cQ))))) dO)))
    (cY (fv (dw (GP.mono (by decide)) hr rfl DP.m DP.F.kp bP .nil du (cP (pv 4) (cP (pv 6) (cP (pv 7) cQ)))))))))
   (cY (dg (wZ M GI hr rfl B.mgC bI .nil (gP (E':=E) (λ_ _ _ h=>h)) (cP (pv 3) (cP (dw (GR.mono (by decide)) hr rfl DR.m DR.F.kp bR .nil du (cP (pv 4) cQ)) cQ)))))))),?_⟩
  case mG=>
   rintro σ H1 Q1 ⟨g,gvs,h1,a8,q⟩;refine⟨_,h1,_,rfl,?_⟩;rcases a8 with ⟨rfl,rfl⟩|⟨gl,gs,rfl,a9,ba,bb⟩
   ·exact dG ⟨(by show 0<=sizeLine;decide),λz U=>q z [] _ (da U) cT .nil (MM _)⟩
   ·exact df ⟨_,h1,q gl gs H1 (cR.refl _) a9 ba bb⟩
  refine⟨_,rfl,g,gvs,rfl,a8,λgl gs H1 s1 a9 ba bb=>?_⟩;refine⟨bl,gl,bs,gs,I,gvs,rfl,s1 _ _ a5,a9,a6.same s1,ba,bb,λai wo H2 kvs s2 cw hW bo=>?_,λai H2 s2=>k1 ai H2 (s1.trans s2)⟩
  replace k2:=k2 ai
  replace k3:=k3 ai
  have bp:=s1.trans s2;refine⟨(by show 0<=sizeLine;decide),λpa bq=>?_⟩;have s3:cR H2 (upd H2 pa (.lst [])):=da bq;have aj:upd H2 pa (.lst []) pa=some (.lst []):=cT;generalize upd H2 pa (.lst [])=H3 at s3 aj ⊢;have aO:=bp.trans s3;intro d hd;have br:H3 d=none:=hd;have ay:∀ i,gN (cZ (I.take i).flatten):=λi=>aa.sub (x8 I i)
  refine⟨_,rfl,bl,bs,rfl,da hd _ _ (aO _ _ a5),?_⟩;refine pX (xs:=bs) (λi σ H'=>∃(es:En) (xs:LR V) (o5 o6 o7 o8:Mc V),σ=[some (.ref bl),some g,some (.ref wo),some (.ref pa),some (.ref d),o5,o6,o7,o8]/\cR H H'/\H' wo=some (.dT kvs)/\H' pa=some (.lst xs)/\eX H' xs ((kept gvs 0 (I.take i)).map kp)/\(∀ z,H' z=none->H3 z=none)/\
   gH H3 H' d es (λy=>rowOf y (cZ (kept gvs 0 (I.take i))) 0)/\es.length<=d8 (cZ (I.take i).flatten)) ?_ ?_ ?_ ?_
  ·refine⟨[],[],none,none,none,none,rfl,aO.trans (da hd),da hd _ _ (s3 _ _ hW),da hd _ _ aj,.nil,λz U=>(da hd).free U,⟨⟨cT,NK,NK,(λe he=>nomatch he),(λe he=>nomatch he)⟩,λy=>?_⟩,MM _⟩;exact⟨(λz=>nomatch z),λz=>absurd rfl z⟩
  ·rintro i σ H' _ ⟨_,_,_,_,_,_,_,sm,_⟩;exact sm _ _ a5
  ·rintro i v σ H' t hv ⟨es,xs,o5,o6,o7,o8,rfl,sm,az,ak,aP,bt,hR,bu⟩ ht;obtain⟨ps,ag,x,rfl,aA⟩:=fX a6 hv;have st:cR H' (upd H' t (.tup [.int i,.ref x])):=da ht;refine⟨t,_,rfl,dY.of cT,rfl,_,_,rfl,_,_,rfl,rfl,?_⟩;generalize upd H' t (.tup [.int i,.ref x])=H4 at st ⊢;intro dn aB;have sd:cR H4 (upd H4 dn (.dK [])):=da aB;have aU:upd H4 dn (.dK []) dn=some (.dK []):=cT;generalize upd H4 dn (.dK [])=H5 at sd aU ⊢;have aw:=st.trans sd;have bw:=sm.trans aw;have bV:=ax ps (List.mem_of_getElem? ag);have aV:=aA.same bw;obtain⟨dx,bW,bX,sz,dr,ri,bY,bc,bZ,b0,_⟩:=aV.ex;have cx:=(List.getElem?_eq_some_iff.mp ag).1;have ei:(I.take i).length=i:=rl ag;have bS:ps.length<=300:=by
    have h1:=(aa.sub (jN (List.mem_of_getElem? ag))).l;unfold cZ at h1
    rwa [LV] at h1
   have cy:(kept gvs 0 (I.take i)).length<=300:=by
    have h1:=((ay i).sub (wg gvs (I.take i) 0)).l;unfold cZ at h1
    rwa [LV] at h1
   have bx:dn≠d:=λz=>by
    have:=st _ _ hR.l.d;rw[<-z,aB] at this;cases this
   have cz:pa≠dn:=dF (st _ _ ak) aB
   have cA:wo≠dn:=dF (st _ _ az) aB
   have b1:∀ e∈es,e.2≠pa:=λe he z=>by
    have:=hR.l.n e he;rw[z,aj] at this;cases this
   refine⟨_,rfl,x,dx,_,rfl,b0,jo dkq dkq dkq dkq dkq,?_⟩;refine⟨x,ps,rfl,aV,_,rfl,by lia,by lia,?_⟩;rw[NF];refine mm (n:=ps.length) (λn σ H6=>∃(xs:LR V) (kn:LR (Key×V)) (o8:Mc V),σ=[some (.ref bl),some g,some (.ref wo),some (.ref pa),some (.ref d),some (.int (i:Int)),some (.ref x),some (.ref dn),o8]/\cR H H6/\H6 wo=some (.dT kvs)/\H6 pa=some (.lst xs)/\
    eX H6 xs ((kept gvs 0 (I.take i)++d0 ((fE gvs i ps.length).take n) (ps.take n)).map kp)/\(∀ z,H6 z=none->H3 z=none)/\gH H3 H6 d es (λy=>rowOf y (cZ (kept gvs 0 (I.take i))) 0)/\H6 dn=some (.dK kn)/\kn.length<=n/\
    (∀ m:Nat,dQ kn (Ob (m:Int))=if m<n/\(fE gvs i ps.length)[m]? =some true then some (.int (((kept gvs 0 (I.take i)).length+BK.cnt (fE gvs i ps.length) m:Nat):Int)) else none)) ?_ ?_ ?_
   ·refine⟨xs,[],_,rfl,bw,aw _ _ az,aw _ _ ak,?_,λz U=>bt z (aw.free U),hR.same aw,aU,Ma _,λm=>?_⟩
    ·show eX H5 xs ((kept gvs 0 (I.take i)++[]).map kp);rw[MR];exact aP.same aw
    ·rw[LX λz=>absurd z.1 (Rx _)];rfl
   ·rintro n σ H6 hn ⟨xs,kn,o8,rfl,aQ,ab,ao,aC,ae,aD,aq,aE,aR⟩;rw[Oj];have aF:=Fe (gvs:=gvs) (i:=i) hn;have bf:ps[n]? =some ps[n]:=List.getElem?_eq_getElem hn;refine⟨_,rfl,_,rfl,(by show 2<=sizeLine;decide),λtt b2=>?_⟩;have J:cR H6 (upd H6 tt (.tup [.int (i:Int),.int (n:Int)])):=da b2;have aW:upd H6 tt (.tup [.int (i:Int),.int (n:Int)]) tt=some (.tup ((ij i n).map kV)):=cT;generalize upd H6 tt (.tup [.int (i:Int),.int (n:Int)])=H7 at J aW ⊢;refine⟨_,rfl,wo,_,rfl,gh.t (k:=ij i n) (J _ _ ab) aW,_,rfl,?_⟩;have bz:=aC.same J;have aX:=Gn.Paired.len aC;rw[LV,Md] at aX;have bA:(d0 ((fE gvs i ps.length).take n) (ps.take n)).length=BK.cnt (fE gvs i ps.length) n:=Hy (rF gvs i ps.length);have cB:BK.cnt (fE gvs i ps.length) n<=300:=by
     rw[<-bA];have:=Je ((fE gvs i ps.length).take n) (ps.take n);rw[ML] at this
     lia
    have aG:d0 ((fE gvs i ps.length).take (n+1)) (ps.take (n+1))=d0 ((fE gvs i ps.length).take n) (ps.take n)++(if (!decide (some (V.int (i:Int),V.int (n:Int))∈gvs))=true then [ps[n]] else []):=by
     rw[take_snoc aF,take_snoc bf,vI _ _ _ _ (by rw[ML,ML,rF])]
    by_cases ar:some (V.int (i:Int),V.int (n:Int))∈gvs
    ·
     rw[(bo i n).mpr ar];refine df ?_;have e1:(!decide (some (V.int (i:Int),V.int (n:Int))∈gvs))=false:=by rw[Mb ar];rfl
     rw[e1] at aG aF;refine⟨xs,kn,_,rfl,aQ.trans J,J _ _ ab,J _ _ ao,?_,λz U=>ae z (J.free U),aD.same J,J _ _ aq,Od aE,λm=>?_⟩
     ·rw[aG];show eX H7 xs ((_++(_++[])).map kp);rw[MR];exact bz
     ·rw[aR m];by_cases hm:m=n
      ·rw[hm,LX λz=>absurd z.1 (Nq _),LX λz=>by rw[aF] at z;exact absurd z.2 (by simp)]
      ·by_cases hc:m<n/\(fE gvs i ps.length)[m]? =some true
       ·rw[LZ hc,LZ ⟨by lia,hc.2⟩]
       ·rw[LX hc,LX λz=>hc ⟨by lia,z.2⟩]
    ·
     have b3:(dQ kvs (ij i n)).isSome=false:=by
      cases q:(dQ kvs (ij i n)).isSome with
      |false=>rfl
      |true=>exact absurd ((bo i n).mp q) ar
     rw[b3];refine dG ?_;have e1:(!decide (some (V.int (i:Int),V.int (n:Int))∈gvs))=true:=by rw[LY ar];rfl
     rw[e1] at aG aF;rw[LZ rfl] at aG;have au:=J _ _ aq;have aY:=J _ _ ao;refine⟨_,rfl,pa,xs,rfl,.inl (cS.of aY),_,rfl,_,rfl,dn,_,rfl,iQ.k (k:=Ob (n:Int)) au (by lia),?_⟩;have aS:SameBut dn H7 (upd H7 dn (.dK (putK kn (Ob (n:Int)) (.int ((xs.length:Nat):Int))))):=λb u e hb=>by rw[cW hb];exact e
     have aZ:upd H7 dn (.dK (putK kn (Ob (n:Int)) (.int ((xs.length:Nat):Int)))) dn=_:=cT
     have a0:∀ z,upd H7 dn (.dK (putK kn (Ob (n:Int)) (.int ((xs.length:Nat):Int)))) z=none->H3 z=none:=λz U=>by
      by_cases e:z=dn
      ·rw[e,cT] at U;cases U
      ·rw[cW e] at U;exact ae z (J.free U)
     generalize upd H7 dn (.dK (putK kn (Ob (n:Int)) (.int ((xs.length:Nat):Int))))=H8 at aS aZ a0 ⊢;have bg:∀{b:LS} {u:HO},H7 b=some u->(∀ k,u≠ .dK k)->H8 b=some u:=λ{b u} e n=>aS _ _ e λz=>by rw[z,au] at e;exact n _ (Ml e).symm
     have a3:=bg aY (by intro _ z;cases z)
     have bB:∀ b u,H b=some u->H8 b=some u:=λb u e=>aS _ _ (J _ _ (aQ _ _ e)) λz=>by
      have h1:=(sm.trans st) _ _ e;rw[z,aB] at h1;cases h1
     have bC:gH H3 H8 d es _:=(aD.same J).but aS (Nt bx) (λts z=>by rw[au] at z;cases z) λe he z=>by
      obtain⟨q,h1,_⟩:=(aD.same J).l.f e he;rw[z,au] at h1;cases h1
     have b4:eX H8 xs _:=Gn.Paired.imp2 bz λ_ _ ⟨p,e,q⟩=>⟨p,e,bg q (by intro _ z;cases z)⟩
     have bD:=bg (J _ _ ab) (by intro _ z;cases z)
     have aH:fC C H8 x ps:=aA.same bB;obtain⟨dx,bW,bX,sz,dr,ri,bY,bc,bZ,bE,_⟩:=aH.ex;have bF:gW (.int (n:Int)) 0 (some ((ps.length:Int)-1))=true:=by
      show(decide ((0:Int)<=n)&&decide ((n:Int)<=(ps.length:Int)-1))=true;rw[Mb (by lia),Mb (by lia)];rfl
     refine⟨_,rfl,.inl ⟨rfl,_,cS.of a3⟩,?_⟩;refine⟨_,rfl,x,dx,_,rfl,bE,jo dkq dkq dkq dkq dkq,_,rfl,?_⟩;refine⟨x,ps,_,rfl,aH,⟨_,.int _⟩,λj p e hp=>?_,λe=>by rw[bF] at e;cases e⟩;have ej:n=j:=by have:=V.int.inj e;lia
     subst ej;have ep:ps[n]=p:=Ml (bf.symm.trans hp);subst ep;refine⟨_,rfl,x,dx,_,rfl,bE,jo dkq dkq dkq dkq dkq,_,rfl,?_⟩;refine⟨x,ps,_,rfl,aH,⟨_,.int _⟩,λj p e hp=>?_,λe=>by rw[bF] at e;cases e⟩;have ej:n=j:=by have:=V.int.inj e;lia
     subst ej;have ep:ps[n]=p:=Ml (bf.symm.trans hp);subst ep;refine⟨(by show 2<=sizeLine;decide),λpp b5=>?_⟩;have s9:cR H8 (upd H8 pp (.tup [.str ps[n].1,.str ps[n].2])):=da b5;have h9:upd H8 pp (.tup [.str ps[n].1,.str ps[n].2]) pp=some (.tup [.str ps[n].1,.str ps[n].2]):=cT;generalize upd H8 pp (.tup [.str ps[n].1,.str ps[n].2])=H9 at s9 h9 ⊢;have af:=s9 _ _ a3;refine⟨pa,xs,_,rfl,rfl,af,by lia,?_⟩;have a4:=EL af (b4.same s9) h9;have av:SameBut pa H9 (upd H9 pa (.lst (xs++[.ref pp]))):=λb u e hb=>by rw[cW hb];exact e
     have aI:upd H9 pa (.lst (xs++[.ref pp])) pa=_:=cT
     have aJ:∀ z,upd H9 pa (.lst (xs++[.ref pp])) z=none->H3 z=none:=λz U=>by
      by_cases e:z=pa
      ·rw[e,cT] at U;cases U
      ·rw[cW e] at U;exact a0 z (s9.free U)
     generalize upd H9 pa (.lst (xs++[.ref pp]))=b6 at a4 av aI aJ ⊢;have bH:∀{b:LS} {u:HO},H9 b=some u->(∀ k,u≠ .lst k)->b6 b=some u:=λ{b u} e n=>av _ _ e λz=>by rw[z,af] at e;exact n _ (Ml e).symm
     refine⟨_,_,_,rfl,λb u e=>av _ _ (s9 _ _ (bB b u e)) λz=>?_,bH (s9 _ _ bD) (by intro _ z;cases z),aI,?_,aJ,?_,bH (s9 _ _ aZ) (by intro _ z;cases z),?_,λm=>?_⟩
     ·have h1:=bp _ _ e;rw[z,bq] at h1;cases h1
     ·rw[aG,<-Nc];exact a4
     ·exact(bC.same s9).but av (λz=>by have:=(bC.same s9).l.d;rw[z,af] at this;cases this) (λts z=>by rw[af] at z;cases z) b1
     ·exact Mr (qz _ _ _) (Pt aE)
     ·rw[xB,aR m];have el:xs.length=(kept gvs 0 (I.take i)).length+BK.cnt (fE gvs i ps.length) n:=by rw[aX,bA]
      by_cases hm:m=n
      ·rw[hm,LZ rfl,LZ ⟨OT _,aF⟩,el]
      ·rw[LX λz=>hm (by have:=RB z;lia)];by_cases hc:m<n/\(fE gvs i ps.length)[m]? =some true
       ·rw[LZ hc,LZ ⟨by lia,hc.2⟩]
       ·rw[LX hc,LX λz=>hc ⟨by lia,z.2⟩]
   ·rintro σ H6 ⟨xs,kn,o8,rfl,aQ,ab,ao,aC,ae,aD,aq,aE,aR⟩;have bJ:=rF gvs i ps.length;have e1:(fE gvs i ps.length).take ps.length=fE gvs i ps.length:=MZ (by lia);rw[e1,MG] at aC;have aK:kept gvs 0 (I.take (i+1))=kept gvs 0 (I.take i)++d0 (fE gvs i ps.length) ps:=by
     rw[take_snoc ag,AR,ei,P5]
    have aT:∀ z,H3 z=none->H z=none:=λz U=>aO.free U
    have b7:∀ m:Nat,dQ kn (Ob (m:Int))=if (fE gvs i ps.length)[m]? =some true then some (.int (((cZ (kept gvs 0 (I.take i))).length+BK.cnt (fE gvs i ps.length) m:Nat):Int)) else none:=λm=>by
     rw[aR m];have el:(cZ (kept gvs 0 (I.take i))).length=(kept gvs 0 (I.take i)).length:=by unfold cZ;rw[LV]
     rw[el];by_cases hc:(fE gvs i ps.length)[m]? =some true
     ·have cC:=(List.getElem?_eq_some_iff.mp hc).1;rw[LZ hc,LZ ⟨by lia,hc⟩]
     ·rw[LX hc,LX λz=>hc z.2]
    have b8:gN (cZ ps):=aa.sub (jN (List.mem_of_getElem? ag))
    have cD:=(ay i).t;refine⟨_,rfl,_,rfl,_,rfl,d,x,dn,H,H3,es,cZ (kept gvs 0 (I.take i)),ps,fE gvs i ps.length,kn,rfl,aQ,aA,bV,b8,aT,ae,br,aD,aq,bx,bJ,b7,by lia,(by unfold cZ;rw[LV];lia),λb9 H7 s7 fr tp cb cu=>?_⟩;refine⟨b9,xs,_,_,_,_,rfl,s7,fr _ _ _ ab (s3 _ _ hW),fr _ _ _ ao aj,?_,λz U=>?_,cb.cong λy=>?_,?_⟩
    ·rw[aK];exact Gn.Paired.imp2 aC λ_ _ ⟨p,e,q⟩=>⟨p,e,tp _ _ q⟩
    ·cases q:H3 z with
     |none=>rfl
     |some o=>
      cases q2:H6 z with
      |none=>rw[ae z q2] at q;cases q
      |some u=>rw[fr z u o q2 q] at U;cases U
    ·rw[aK,uu]
     congr 2
     unfold cZ;exact wk _ _ _
    ·rw[LD ag,uu,A2]
     lia
  ·rintro σ H' ⟨es,xs,o5,o6,o7,o8,rfl,sm,az,ak,aP,bt,hR,bu⟩;rw[bU,MG] at aP hR bu;have aL:=wg gvs I 0;have ah:gN (cZ (kept gvs 0 I)):=aa.sub aL;have cE:=aa.t;have bL:∀ p∈kept gvs 0 I,dA 12 (.str p.1)=true/\dX (.str p.2)=true:=λp hp=>by
    obtain⟨ps,h1,h2⟩:=List.mem_flatten.mp (aL.mem hp);exact(ax ps h1).g p h2
   have cc:(kept gvs 0 I).length<=300:=by
    have h1:=ah.l;unfold cZ at h1
    rwa [LV] at h1
   refine⟨_,rfl,_,rfl,d,es,λy=>rowOf y (cZ (kept gvs 0 I)) 0,rfl,hR.l.d,hR.l.k,by lia,λe he=>⟨hR.l.f e he,gN.ok e.1,ah.sz e.1⟩,λp bc aM sb hp hD hk=>?_⟩;intro x dx hx cf cF;have cg:H' d=_:=hR.l.d;have bh:cR H aM:=λb u e=>sb _ _ (sm _ _ e) λz=>by
    have h1:=aO _ _ e;rw[z,br] at h1;cases h1
   have sN:cR aM (upd (upd aM dx (.own x)) x (.ins C dx [])):=λb u e=>by
    rw[cW (dF e hx),cW (dF e cf)];exact e
   have bN:upd (upd aM dx (.own x)) x (.ins C dx []) x=some (.ins C dx []):=cT;generalize upd (upd aM dx (.own x)) x (.ins C dx [])=HN at sN bN ⊢;have bO:∀{b:LS} {u:HO},H' b=some u->(∀ k,u≠ .dK k)->HN b=some u:=λ{b u} e n=>sN _ _ (sb _ _ e λz=>by rw[z,cg] at e;exact n _ (Ml e).symm);have aN:cR H HN:=bh.trans sN;refine⟨x,pa,dx,.ref p,xs,(kept gvs 0 I).map kp,rfl,bN,bO ak (by intro _ z;cases z),Gn.Paired.imp2 aP λ_ _ ⟨b,e,q⟩=>⟨b,e,bO q (by intro _ z;cases z)⟩,by rw[LV];exact cc,?_,?_,?_,?_⟩
   ·intro kt cj;obtain⟨q,hq,rfl⟩:=List.mem_map.mp cj;obtain⟨g1,g2⟩:=bL q hq;refine⟨⟨_,.str _⟩,λz e=>?_,⟨_,.str _⟩,λz e=>?_⟩
    ·injection e with e;rw[<-e];have h1:(decide (1<=q.1.length)&&decide (q.1.length<=12)&&q.1.cps.toList.all dW)=true:=g1;rw[MO,MO] at h1;have:=Nh h1.1.2
     lia
    ·injection e with e;rw[<-e];have:=(kE g2).1
     lia
   ·intro ck e bQ;have e':=pY e;subst e';refine⟨ah,a7.sub aL,.inr ⟨p,bc,rfl,sN _ _ hD.d,hD.k,λy=>?_,λe he=>sN _ _ (hD.f e he)⟩⟩;rw[hk,hR.k y];constructor
    ·intro z;by_cases q:∃ ws∈cZ (kept gvs 0 I),y∈ws
     ·exact q
     ·exact absurd ((nL y _ 0).mpr λws hw hy=>q ⟨ws,hw,hy⟩) z
    ·rintro⟨ws,hw,hy⟩ z;exact(nL y _ 0).mp z ws hw hy
   ·intro i hi bj cm;obtain⟨rfl,hn⟩:=wm bL hi;exact k3 (λz=>hn ⟨z,λ_ _ z=>nomatch z⟩) bj (aN.trans cm)
   ·intro ck e bQ bj aA cn fr;have e':=pY e;subst e';refine⟨rfl,k2 bQ.n x bj (λb u e=>fr b u (aN _ _ e) (λz=>?_) λz=>?_) (bh.free hx) aA (λcq hU=>cn cq λb u e n=>hU b u e λm hm z=>n.elim (λn=>n m hm (aN _ _ z)) λe2=>by
     injection e2 with e2;have h1:=sm _ _ z;rw[<-e2,hp] at h1;cases h1)⟩
    ·have h1:=bh _ _ e;rw[z,hx] at h1;cases h1
    ·injection z with z;have h1:=sm _ _ e;rw[<-z,hp] at h1;cases h1
end
end K25
namespace L2
open PySem PySem.Spec PyProof.Rows
section
variable {X : Cx}
theorem zd:∀{ns:LR Nat} {us:LR LW},Vals (ns.map λ(n:Nat)=>V.int (n:Int)) us->∀(i:Nat) (v:LW),us[i]? =some v->∃ n t,ns[i]? =some n/\v= .int (n:Int) t
 |[],_,.nil,i,v,h=>by simp at h
 |b::bs,_,.cons r t,0,v,h=>by
  obtain⟨k,I⟩:=(show ∃ k,_=PH (b:Int) k from r);subst I;simp at h;exact⟨b,k,by simp,h.symm⟩
 |b::bs,_,.cons r t,i+1,v,h=>by
  obtain⟨c,k,J,U⟩:=zd t i v (by simpa using h);exact⟨c,k,by simpa using J,U⟩
theorem vK(ns:LR Nat):∀ k,k<=ns.length->preSum (λi=>(((ns[i]?).getD 0:Nat):Int)) k=((ns.take k).sum:Nat)
 |0,_=>rfl
 |k+1,h=>by
  show preSum _ k+(((ns[k]?).getD 0:Nat):Int)=_;rw[vK ns k (by lia),N2,PB,List.getElem?_eq_getElem (show k<ns.length by lia)];simp
theorem FY(ns:LR Nat)(k:Nat):(ns.take k).sum<=ns.sum:=by
 have:=Nl List.sum (NR k ns);rw[PB] at this
 lia
theorem yj:∀{ns:LR Nat} {n:Nat},n∈ns->n<=ns.sum
 |m::r,n,h=>by
  rw[OO];rcases List.mem_cons.mp h with e|e
  ·lia
  ·have:=yj e
   lia
theorem rj(hc:X.calm=true):gy X (.builtin "sum") (λxs H Q=>∃(p:LS) (ns:LR Nat),xs=[.ref p]/\cS X.K H p (ns.map λ(n:Nat)=>V.int (n:Int))/\ns.sum<=1000000/\Q (.int ((ns.sum:Nat):Int)) H):=by
 intro pins s σ H xs us Q I r h;obtain⟨p,ns,rfl,hq,hS,q⟩:=h;obtain⟨u,rfl,rx⟩:=vals1 r;cases rx;obtain⟨J,rv,pl,hz⟩:=I.list hq;have hl:=pl.isList;have hlen:=rv.length;rw[LV] at hlen;have U:p<s.heap.objs.size:=by obtain⟨_,e,_⟩:=hl;exact Mv e
 refine call_sum_walk (QX hl ?_);refine⟨s.heap.objs.size,[s.heap.objs.size,p],[s.heap.objs.size],J.toArray.size,_,_,λi=>(((ns[i]?).getD 0:Nat):Int),rfl,Walks.list (A:=X.A.in1) (I.ok.hd hc) _ p (MV U) J.toArray,
  ⟨⟨_,Heap.get?_push_size _ rfl,rfl,rfl⟩,hl.push _⟩,λb hb=>?_,λi v hP=>?_,λj hj=>?_,λh' tk t' hk=>?_⟩
 ·have e:∀ o,(s.heap.push o).objs.size=s.heap.objs.size+1:=λo=>by show(s.heap.objs.push o).size=_;simp
  show b<(s.heap.push _).objs.size;rw[e];rcases List.mem_cons.mp hb with z|z
  ·rw[z];exact OT _
  ·rw[List.mem_singleton.mp z];exact Pd U
 ·obtain⟨n,t,e,rfl⟩:=zd rv i v (by simpa using hP);refine⟨t,?_⟩;show PH (n:Int) t=PH (((ns[i]?).getD 0:Nat):Int) t;rw[e];rfl
 ·have aa:j<ns.length:=by rw[Mu] at hj;lia
  refine⟨?_,?_⟩
  ·show InLong (((ns[j]?).getD 0:Nat):Int);rw[List.getElem?_eq_getElem aa,Option.getD_some];have:=yj (Pq aa);exact⟨by lia,by lia⟩
  ·rw[vK ns (j+1) (by lia)];have:=FY ns (j+1);exact⟨by lia,by lia⟩
 ·rw[Mu,<-hlen,vK ns _ (Ma _),MZ (Ma _)];exact⟨.int _,H,I.kept (LSm.kept_iter hk),⟨t',rfl⟩,q⟩
end
section
variable {X : Cx} {o e : Nv} {es : LR Nv} {to : TE} {t : TA} {name : Str} {apos cpos : Pos} {T id : OE} {r : V -> LR V -> Hp -> VK -> Prop}
end
end L2
namespace Gn
open PySem L2 PyProof.Rows PySem.Spec
end Gn
namespace L2
open PySem PySem.Spec PyProof.Rows
section
variable {X : Cx}
noncomputable def CP(K:Mm)(CH:LS)(E:St->XK)(tb ts:TS):TS:=λD σ H=>tb D σ H/\∀ I cls H',E I cls none H'->
 ∃ C,cls= .ref C/\Pl K (.ref C) (.ref CH)=some true/\ts D I H'
theorem Iq{pins:LR (LS×Obj)}{D:Ends}{CH:LS}{E:St->XK}{x:Str}{np pos:Pos}{b₀:Nr}{suite:LR Nr}{ts:TS}
  (hstk:X.stack=X.env::X.outer)(hfr:X.env.frame=some X.env.locals)(hg:Gl X x)(hm:X.mg x=some (.ref CH))
  (hs:∀ ea p,dj (jv X ea p) (b₀::suite) ts)
  (hc:∀ σ' cls H',E σ' cls none H'->∃ C,cls= .ref C/\Pl X.K (.ref C) (.ref CH)=some true/\ts D σ' H')
  (hdb:(x==("__debug__":Str))=false:=by decide):
  oi (dz X.prog X.w) (X.tr (X.pn++pins) λe s₁=>MD (My X.prog X.w) X.A (O9 e X.env) (λ_ s₂=>MD (My X.prog X.w) X.A (Pp e none) (λ_ s₃=>
   MD (My X.prog X.w) X.A (P0 e X.env [.ExceptHandler (some (.Name x np)) none (b₀::suite) pos]) (SP X pins D) X.xe s₃) X.xe s₂) X.xe s₁) E:=by
 intro aa σ' H1 s1 e s' U hx;obtain⟨ea,cls,a0,B,H',rfl,os,bare,un,hok,fl,k1,k3,k2,hE⟩:=hx;have ar:QG B (X.env::X.outer) ea cls a0 s'.heap:=hstk ▸ fl;have ae:X.A.frames=some (X.env::X.outer):=hstk ▸ U.ok.frames;have au:ea∉eE X.stack:=λz=>by
  obtain⟨_,o,ho,nf⟩:=fl.2.2.1.mem z;obtain⟨oe,vs,_,_,_,he,_,hd,_⟩:=fl.2.2.2;rw[he] at ho;cases ho;exact nf vs hd
 have nE:∀{b:LS} {o:Obj},s1.heap.get? b=some o->b≠ea:=λ{b o} q z=>by
  subst z;obtain⟨o',e'⟩:=k3 b o q au;rw[fl.2.1] at e';cases e'
 have nH:H' ea=none:=by
  cases q:H' ea with
  |none=>rfl
  |some u=>
   obtain⟨o,e'⟩:=k2 ea u q;rw[fl.2.1] at e';cases e'
 have go:∀{h2:Nn},QG B (X.env::X.outer) ea cls a0 h2->s'.heap.UpToSlots h2->Inv (X.tr (X.pn++pins) λe s₁=>MD (My X.prog X.w) X.A (O9 e X.env) (λ_ s₂=>MD (My X.prog X.w) X.A (Pp e none) (λ_ s₃=>
   MD (My X.prog X.w) X.A (P0 e X.env [.ExceptHandler (some (.Name x np)) none (b₀::suite) pos]) (SP X pins D) X.xe s₃) X.xe s₂) X.xe s₁) aa σ' H' {s' with heap:=h2}:=λ{h2} af up=>
  U.call' (s':={s' with heap:=h2}) (ch:=[]) os (rJ rfl un k1 k3 fl.2.2.1 af.1 up) (sR hok k2 fl.1 af.1) bare λb z=>absurd z (by simp)
 have ag:∀{s2:Me} {H2:Hp},Inv (X.tr (X.pn++pins) λe s₁=>MD (My X.prog X.w) X.A (O9 e X.env) (λ_ s₂=>MD (My X.prog X.w) X.A (Pp e none) (λ_ s₃=>
   MD (My X.prog X.w) X.A (P0 e X.env [.ExceptHandler (some (.Name x np)) none (b₀::suite) pos]) (SP X pins D) X.xe s₃) X.xe s₂) X.xe s₁) aa σ' H2 s2->Inv (jv X ea (X.pn++pins)) [] σ' H2 s2:=λI=>
  ⟨⟨I.ok.mod,I.ok.kind,I.ok.glob,I.ok.blt,I.ok.above,I.ok.inj,I.ok.has,I.ok.cab,(λz=>by cases z),I.ok.frames,I.ok.stk,I.ok.exf,I.ok.bs,I.ok.bsz,I.ok.noex,I.ok.exfs,I.ok.funs,I.ok.frf⟩,
   I.os,I.bare,I.base,I.loc,I.cell,I.free,I.freeC,λp hp=>I.pin p (MX _ (by have ah:p∈(X.pn++pins)++[]:=hp;rw[MR] at ah;exact ah)),I.hok,I.len⟩
 refine wpAny_looks_onW ae hfr ar λh4 held ai=>?_
 refine wpAny_landsW held λh5 ab aj=>?_
 obtain⟨C,rfl,ak,av⟩:=hc σ' cls H' hE;have I5:=ag (go ab (ai.trans aj));refine wpAny_handleBy_cons (codeAny_handlers_test ?_) (by intro q;cases q);refine lb I5 hg hm ?_ hdb;obtain⟨ob,aw,ao⟩:=ab.there;have LT:W.Looks (My X.prog X.w) h5 (RQ (.ref ea)) (.ref C):=by
  rw[<-ao];exact(W.Looks.ld aw).andThen .now
 refine W.exm_one I5.kIn LT ak _ _ _ _ (λ_ _ q=>q) ?_;refine codeAny_handlers_suite (lands_againW ab λh6 ax ay=>?_);have I6:=ag (go ax ((ai.trans aj).trans ay));refine NI (hs ea (X.pn++pins) [] _ _ _ _ I6 av) (λaq s9 h9=>?_) λ_ _ z=>Nu z
 have back:∀{J:St} {H2:Hp},Inv (jv X ea (X.pn++pins)) [] J H2 s9->Inv X pins J H2 s9:=λI=>
  ⟨⟨U.ok.mod,U.ok.kind,U.ok.glob,U.ok.blt,U.ok.above,U.ok.inj,U.ok.has,U.ok.cab,U.ok.hd,U.ok.frames,U.ok.stk,U.ok.exf,U.ok.bs,U.ok.bsz,U.ok.noex,U.ok.exfs,U.ok.funs,U.ok.frf⟩,
   I.os,I.bare,I.base,I.loc,I.cell,I.free,I.freeC,λp hp=>I.pin p (MX _ hp),I.hok,I.len⟩
 show SP X pins D aq s9;cases aq with
 |next=>obtain⟨J,H2,I9,q9⟩:=h9;exact⟨J,H2,back I9,q9⟩
 |brk=>obtain⟨J,H2,I9,q9⟩:=h9;exact⟨J,H2,back I9,q9⟩
 |cont=>obtain⟨J,H2,I9,q9⟩:=h9;exact⟨J,H2,back I9,q9⟩
 |ret u=>obtain⟨v,J,H2,I9,rv,q9⟩:=h9;exact⟨v,J,H2,back I9,rv,q9⟩
theorem Ie{CH:LS}(E:St->XK){x:Str}{np hpos pos:Pos}{b₀:Nr}{suite body:LR Nr}{tb ts:TS}
  (hstk:X.stack=X.env::X.outer)(hfr:X.env.frame=some X.env.locals)(hg:Gl X x)(hm:X.mg x=some (.ref CH))
  (hb:∀ p xe,oi (dz X.prog X.w) (X.tr p xe) E->dj (X.tr p xe) body tb)(hs:∀ ea p,dj (jv X ea p) (b₀::suite) ts)
  (hdb:(x==("__debug__":Str))=false:=by decide):PS X (.Try body [.ExceptHandler (some (.Name x np)) none (b₀::suite) hpos] [] [] pos) (CP X.K CH E tb ts):=by
 intro pins s σ H D I h;obtain⟨h1,h2⟩:=h;refine wpAny_Try_except ?_;have I':Inv (X.tr (X.pn++pins) λe aa=>MD (My X.prog X.w) X.A (O9 e X.env) (λ_ ab=>MD (My X.prog X.w) X.A (Pp e none) (λ_ ae=>
   MD (My X.prog X.w) X.A (P0 e X.env [.ExceptHandler (some (.Name x np)) none (b₀::suite) hpos]) (SP X pins D) X.xe ae) X.xe ab) X.xe aa) [] σ H s:=
  ⟨⟨I.ok.mod,I.ok.kind,I.ok.glob,I.ok.blt,I.ok.above,I.ok.inj,I.ok.has,I.ok.cab,I.ok.hd,I.ok.frames,I.ok.stk,I.ok.exf,I.ok.bs,I.ok.bsz,I.ok.noex,I.ok.exfs,I.ok.funs,I.ok.frf⟩,
   I.os,I.bare,I.base,I.loc,I.cell,I.free,I.freeC,λp hp=>I.pin p (by simpa using hp),I.hok,I.len⟩;have back:∀{U:St} {H2:Hp} {s2:Me},Inv (X.tr (X.pn++pins) λe aa=>MD (My X.prog X.w) X.A (O9 e X.env) (λ_ ab=>MD (My X.prog X.w) X.A (Pp e none) (λ_ ae=>
   MD (My X.prog X.w) X.A (P0 e X.env [.ExceptHandler (some (.Name x np)) none (b₀::suite) hpos]) (SP X pins D) X.xe ae) X.xe ab) X.xe aa) [] U H2 s2->Inv X pins U H2 s2:=λJ=>
  ⟨I.ok,J.os,J.bare,J.base,J.loc,J.cell,J.free,J.freeC,λp hp=>J.pin p (MX _ hp),J.hok,J.len⟩
 refine NI (hb _ _ (Iq hstk hfr hg hm hs h2 hdb) [] s σ H D I' h1) (λf s1 q=>?_) λe s1 q=>q
 cases f with
 |next=>
  obtain⟨U,H2,J,q⟩:=q;exact O7 ⟨U,H2,back J,q⟩
 |brk=>obtain⟨U,H2,J,q⟩:=q;exact⟨U,H2,back J,q⟩
 |cont=>obtain⟨U,H2,J,q⟩:=q;exact⟨U,H2,back J,q⟩
 |ret u=>obtain⟨v,U,H2,J,r,q⟩:=q;exact⟨v,U,H2,back J,r,q⟩
end
end L2
namespace BK
open PySem PySem.Spec PyProof.Rows
theorem AL:∀{a b:LR Nat},Ri a b=false->Ri b a=false->a=b
 |[],[],_,_=>rfl
 |[],_::_,h,_=>by cases h
 |_::_,[],_,h=>by cases h
 |x::r,y::t,h1,h2=>by
  have I:(decide (x<y)||(x==y&&Ri r t))=false:=h1
  have J:(decide (y<x)||(y==x&&Ri t r))=false:=h2;rw[Bool.or_eq_false_iff,OW] at I J;have e:x=y:=by omega
  subst e;have q1:=I.2;have q2:=J.2;rw[Rj,Px] at q1 q2;rw[AL q1 q2]
theorem xR:∀{a b c:LR Nat},Ri b a=false->Ri c b=false->Ri c a=false
 |[],_,[],_,_=>rfl
 |_::_,[],[],h,_=>by cases h
 |[],_,_::_,_,_=>rfl
 |_::_,[],_::_,h,_=>by cases h
 |_::_,_::_,[],_,h=>by cases h
 |x::r,y::t,z::u,h1,h2=>by
  have I:(decide (y<x)||(y==x&&Ri t r))=false:=h1
  have J:(decide (z<y)||(z==y&&Ri u t))=false:=h2
  show(decide (z<x)||(z==x&&Ri u r))=false;rw[Bool.or_eq_false_iff,OW] at I J ⊢;refine⟨by omega,?_⟩;by_cases e:z=x
  ·subst e;have e:y=z:=by omega
   subst e;have q1:=I.2;have q2:=J.2;rw[Rj,Px] at q1 q2 ⊢;exact xR q1 q2
  ·rw[beq_eq_false_iff_ne.mpr e,OS]
theorem yQ:∀{l:LR Str} {p:Str},risingS p l=true->(p::l).Pairwise (λa b=>Ri b.cps.toList a.cps.toList=false)
 |[],p,_=>List.pairwise_singleton _ _
 |x::r,p,h=>by
  have h':(!ltCps x.cps.toList p.cps.toList&&risingS x r)=true:=h;rw[MO,PZ] at h';have I:=yQ h'.2;refine List.pairwise_cons.mpr ⟨λy J=>?_,I⟩;rcases List.mem_cons.mp J with e|e
  ·rw[e];exact h'.1
  ·exact xR h'.1 (Pu I e)
theorem xn{l:LR Str}(h:Q6 l=true):l.Pairwise (λa b=>Ri b.cps.toList a.cps.toList=false):=by
 cases l with
 |nil=>exact .nil
 |cons x r=>exact yQ h
theorem yf:∀{a b:LR Str},a.Pairwise (λa b=>Ri b.cps.toList a.cps.toList=false)->b.Pairwise (λa b=>Ri b.cps.toList a.cps.toList=false)->a.Perm b->a=b
 |[],b,_,_,I=>(List.Perm.nil_eq I)
 |x::r,b,ha,hb,I=>by
  cases b with
  |nil=>exact absurd I.symm.nil_eq (by simp)
  |cons y t=>
   have J:x∈y::t:=I.subset Mi
   have U:y∈x::r:=I.symm.subset Mi
   have e:x=y:=by
    rcases List.mem_cons.mp J with q|q
    ·exact q
    ·rcases List.mem_cons.mp U with q'|q'
     ·exact q'.symm
     ·have h1:=Pu hb q
      have h2:=Pu ha q'
      have:=AL h1 h2;cases x;cases y;simp only[Str.mk.injEq];exact Array.toList_inj.mp this
   subst e;rw[yf (List.pairwise_cons.mp ha).2 (List.pairwise_cons.mp hb).2 (List.Perm.cons_inv I)]
theorem wh{a b:LR Str}(ha:Q6 a=true)(hb:Q6 b=true)(hp:a.Perm b):a=b:=yf (xn ha) (xn hb) hp
end BK
namespace K25
open PySem L2 PyProof.Rows PySem.Spec Gn K04 K01 BK
section
variable {α : Type}
noncomputable def iz(x:LR α):LR (LR α)->LR (LR α)
 |[]=>[x]
 |y::r=>if y.length<=x.length then iz (y++x) r else x::y::r
noncomputable def iy(rows:LR (LR α))(x:LR α):LR (LR α):=(iz x rows.reverse).reverse
theorem A1{rows:LR (LR α)}{b:Nat}{y:LR α}(h:rows[b]? =some y):(rows.take (b+1)).reverse=y::(rows.take b).reverse:=by
 rw[take_snoc h,List.reverse_append];rfl
theorem Dg{rows:LR (LR α)}{b:Nat}{y X:LR α}(h:rows[b]? =some y)(hl:y.length<=X.length):iz X (rows.take (b+1)).reverse=iz (y++X) (rows.take b).reverse:=by
 rw[A1 h];show(if y.length<=X.length then _ else _)=_;rw[LZ hl]
theorem IP{rows:LR (LR α)}{b:Nat}{y X:LR α}(h:rows[b]? =some y)(hl:¬ y.length<=X.length):(iz X (rows.take (b+1)).reverse).reverse=rows.take (b+1)++[X]:=by
 have e:=A1 h
 have:iz X (rows.take (b+1)).reverse=X::(rows.take (b+1)).reverse:=by
  rw[e];show(if y.length<=X.length then _ else _)=_;rw[LX hl]
 rw[this,Q8,Qk]
theorem xO:∀(r:LR (LR α)) (x:LR α),(iz x r).reverse.flatten=r.reverse.flatten++x
 |[],x=>by show [x].flatten=_;simp
 |y::r,x=>by
  show(if y.length<=x.length then iz (y++x) r else x::y::r).reverse.flatten=_;split
  ·rw[xO r (y++x),Q8,Nm];simp
  ·rw[Q8,Nm];simp
theorem BY(rows:LR (LR α))(x:LR α):(iy rows x).flatten=rows.flatten++x:=by
 unfold iy;rw[xO,Qk]
theorem yO:∀(r:LR (LR α)) (x:LR α),(iz x r).length<=r.length+1
 |[],x=>Ma _
 |y::r,x=>by
  show(if y.length<=x.length then iz (y++x) r else x::y::r).length<=_;split
  ·have:=yO r (y++x);rw[Ms]
   lia
  ·simp
theorem Ah(rows:LR (LR α))(x:LR α):(iy rows x).length<=rows.length+1:=by
 unfold iy;rw[OR];have:=yO rows.reverse x
 rwa [OR] at this
theorem zb{β:Type}:∀{ks:LR Nw} {xs:LR β},(∀ k∈ks,k=true)->ks.length=xs.length->d0 ks xs=xs
 |[],[],_,_=>rfl
 |[],_::_,_,h=>by cases h
 |_::_,[],_,h=>by cases h
 |k::ks,x::xs,h,hl=>by
  have hk:=h k Mi;subst hk;show x::d0 ks xs=_;rw[zb (λk hk=>h k (Mg _ hk)) (by simpa using hl)]
end
theorem pT:∀(gs:LR (LR (Str×Str))) (s:Nat),kept [] s gs=gs.flatten
 |[],_=>rfl
 |x::a,s=>by
  show d0 _ x++kept [] (s+1) a=x++a.flatten;rw[pT a (s+1),zb (λk hk=>?_) (rF [] s x.length)];unfold fE at hk;obtain⟨j,_,e⟩:=List.mem_map.mp hk;rw[<-e];simp
structure d6 (pss : LR (LR (Str × Str))) : Prop where
 g : ∀ p ∈ pss.flatten, dA 12 (.str p.1) = true /\ dX (.str p.2) = true
 n : (pss.flatten.map (·.1)).Nodup
 f : gN (cZ pss.flatten)
 w : mw (cZ pss.flatten)
 l : pss.length<=90
 p : pss.flatten.length<=150
theorem d6.good {pss:LR (LR (Str×Str))}(h:d6 pss){ps:LR (Str×Str)}(hp:ps∈pss):lg ps:=
 ⟨λp I=>h.g p (List.mem_flatten.mpr ⟨ps,hp,I⟩),((jN hp).map _).nodup h.n⟩
theorem d6.sub {pss qss:LR (LR (Str×Str))}(h:d6 pss)(s:qss.flatten.Sublist pss.flatten)(hl:qss.length<=90):d6 qss:=
 ⟨λp I=>h.g p (s.mem I),(s.map _).nodup h.n,h.f.sub s,h.w.sub s,hl,Mr s.length_le h.p⟩
theorem xu{α β:Type}{F:α->β->Prop}:∀{l:LR α} {m:LR β} (n:Nat),MY F l m->MY F (l.take n) (m.take n)
 |_,_,0,_=> .nil
 |_,_,n+1,.nil=> .nil
 |_,_,n+1,.cons h t=> .cons h (xu n t)
theorem AE{α β:Type}{F:α->β->Prop}:∀{l:LR α} {m:LR β} (n:Nat),MY F l m->MY F (l.drop n) (m.drop n)
 |_,_,0,h=>h
 |_,_,n+1,.nil=> .nil
 |_,_,n+1,.cons _ t=>AE n t
noncomputable def sU:LR Str:=["many","key_of","text_of","number_of","need_own","words","row_of","total"]
theorem IB:∀ m∈sU,m≠"numbers"/\m≠"pairs"/\m≠"sizes"/\m≠"rows"/\m≠"rising":=dkq
theorem fC.at {C:LS}{H:Hp}{x:LS}{ps:LR (Str×Str)}(h:fC C H x ps):∃ dx fs,H x=some (.ins C dx fs)/\∀ m∈sU,fs.lookup m=none:=by
 obtain⟨dx,dn,pa,sz,dr,ri,xs,es,ts,h1,_⟩:=h.ex;refine⟨dx,_,h1,λm hm=>?_⟩;obtain⟨a,b,c,d,e⟩:=IB m hm;exact jo e d c b a
theorem mn{m:Str}(h:m∈sU:=by decide +kernel):m∈sU:=h
section
variable {P : Mq} {w : MT} {K : Mz} {mg : Str -> Mc LW} {base : Nn} {C CN CNo CW CK CT C2 : LS}
noncomputable def NL(L H:Hp):Hp:=λa=>match L a with|some (.lst _)=>none|some (.dK _)=>none|_=>H a
theorem iH{L H:Hp}{a:LS}{o:HO}(h:H a=some o)(n:∀ m,Mo m->L a≠some m):NL L H a=some o:=by
 unfold NL;split
 ·rename_i l e;exact absurd e (n _ trivial)
 ·rename_i l e;exact absurd e (n _ trivial)
 ·exact h
theorem gY{L H:Hp}:cR (NL L H) H:=λa o h=>by
 unfold NL at h;split at h
 ·cases h
 ·cases h
 ·exact h
theorem gO{L H:Hp}{a:LS}{o:HO}(h:NL L H a=some o)(m:HO)(hm:Mo m):L a≠some m:=λe=>by
 unfold NL at h;cases m<;>first|exact hm|(simp only[e] at h;cases h)
theorem xU{L H H':Hp}(s:cR H H'):cR (NL L H) (NL L H'):=λa o h=>iH (s _ _ (gY _ _ h)) (gO h)
noncomputable def xN(C:LS):Sp:=λvs H Q _=>∃(U x:LS) (L:Hp) (bs:LR V) (I:LR (LR (Str×Str))) (ps:LR (Str×Str)),vs=[.ref U,.ref x]/\H U=some (.lst bs)/\cR L H/\gI C (NL L H) bs I/\fC C (NL L H) x ps/\d6 (I++[ps])/\
 ∀ l J H1 H',cR H H1->gI C (NL L H1) J (iy I ps)->H1 l=none->H'=upd H1 l (.lst J)->Q (.ref l) H'
theorem p5:dC ["volumes","last","many","begin"] ["volumes","last"] (c9 qc):=⟨rfl,rfl,rfl,dkq,rfl,dkq,dkq⟩
seal dj PS PE PT PA PG PI dE dD in
theorem JV{f fm fPo:LS}{fd fdm fdPo:Mj}(D:Df K mg "poured_behind" qc f fd)(B:gB K mg C)(FM:dv K "many" "Book.many" i9 fm fdm)(mM:Meth K C "many" fm)(GM:cV P w K mg base dc 1 fm fdm ["self"] (mJ C))
  (DPo:gS K mg "poured" lU fPo fdPo #[.none])(GPo:cV P w K mg base (dz P w) 10 fPo fdPo ["books","gone"] (ql K C CN CW))(T:Txt mg):cV P w K mg base dc 11 f fd ["volumes","last"] (xN C):=by
 have bM:=FM.binds (ps:=["self"]) λ_ _ _ _ _ _ us hl=>gD (λ_=>rfl) us hl
 have ah:=DPo.binds (ps:=["books","gone"]) (ds:=[.none]) λT kV doc pm an cdv ct us hl=>gD (λ_=>⟨_,rfl,rfl⟩) us (show us.length=1 by simpa using hl)
 refine D.F.ok p5 (λvs H Q E h=>?_) (λcdv A outer s H vs Q E hr h=>?_)
 ·obtain⟨vl,x,L,bs,I,ps,rfl,_⟩:=h;rfl
 ·obtain⟨vl,x,L,bs,I,ps,rfl,hL,av,aa,aw,hok,kk⟩:=h;have ae:gI C H bs I:=aa.same gY;have hB:fC C H x ps:=aw.same gY;have hz:(sizeLine:Nat)=16777216:=Mt;have ax:=Gn.Paired.len ae;have ai:=hok.l;rw[Md] at ai;obtain⟨dx,fs,hx,ay⟩:=hB.at;refine⟨_,(cU (di (i:=2) p5.nd rfl (Mh rfl) (g0 (pv 1) B.cl mM (GM.mono (by decide)) hr bM .nil du))
   (cU (di (i:=3) p5.nd rfl (Mh rfl) (dR gZ rfl T.len gf (cP (pv 0) cQ)))
   (cU (tQ MK (PW.pt (mj (dU iL (pv 3) cX (dH _)) (lT (dU wO (pv 2) (g0 (eB eY (pv 0) (de kT (pv 3) cX) (λ_ _=>rfl)) B.cl mM (GM.mono (by decide)) hr bM .nil du) (dH _))))) (cU (uq (i:=3) p5.nd rfl (Mh rfl) cX HB)
   (cY (uq (i:=2) p5.nd rfl (Mh rfl) (g0 (eB eY (pv 0) (pv 3) (λ_ _=>rfl)) B.cl mM (GM.mono (by decide)) hr bM .nil du) zh))))
   (cY (dg (de q5 (ik oC (pv 0) js (gL (pv 3))) (dZ (cP (dw GPo hr rfl DPo.m DPo.kp ah (dvs:=[.non]) (.cons rfl .nil) ig (cP (de q5 (ik oC (pv 0) (gL (pv 3)) js) (dZ (cP (pv 1) cQ))) cQ)) cQ)))))))),?_⟩;refine⟨_,rfl,x,dx,_,rfl,hx,ay _ mn,x,ps,rfl,hB,_,rfl,vl,_,rfl,.inl (cS.of hL),?_⟩;refine vM (λσ H'=>∃ b:Nat,b<=I.length/\σ=[some (.ref vl),some (.ref x),some (.int ((((I.drop b).flatten++ps).length:Nat):Int)),some (.int (b:Int))]/\H'=H/\iz ps I.reverse=iz ((I.drop b).flatten++ps) (I.take b).reverse)
   (λσ _=>match σ with|[_,_,_,some (.int b)]=>b.toNat|_=>0) ⟨I.length,Ma _,?_,rfl,?_⟩ ?_ ?_
  ·rw[Oh];show [_,_,some (V.int ((ps.length:Nat):Int)),some (V.int ((bs.length:Nat):Int))]=_;rw[ax];rfl
  ·rw[Oh,MG];rfl
  ·rintro σ H' ⟨b,hb,rfl,rfl,hm⟩;refine⟨_,rfl,_,_,rfl,rfl,_,rfl,?_⟩;have fin:(iz ps I.reverse).reverse=I.take b++[(I.drop b).flatten++ps]->xQ (nW vA (uY (vh K) (je 0) wN (wb (je 3))) (rW (mE (AF (ql K C CN CW) [.non] E0 (mE (nW vA (uY (vh K) (je 0) (wb (je 3)) wN) (rW (mE (je 1) jB))) jB)) jB))) {nx:=λx H'=>Q V.non H',rt:=Q} [some (.ref vl),some (.ref x),some (.int ((((I.drop b).flatten++ps).length:Nat):Int)),some (.int (b:Int))] H':=λaj=>by
    refine⟨_,rfl,_,rfl,(b:Int),rfl,vl,_,rfl,cS.of hL,λc1 az=>?_⟩;rw[wJ];have s1:cR H' (upd H' c1 (.lst (bs.take b))):=da az;have e1:upd H' c1 (.lst (bs.take b)) c1=some (.lst (bs.take b)):=cT;generalize upd H' c1 (.lst (bs.take b))=H1 at s1 e1 ⊢;refine⟨_,rfl,_,rfl,(b:Int),rfl,vl,_,rfl,cS.of (s1 _ _ hL),λc2 aA=>?_⟩;rw[yU];have s2:cR H1 (upd H1 c2 (.lst (bs.drop b))):=da aA;have e2:upd H1 c2 (.lst (bs.drop b)) c2=some (.lst (bs.drop b)):=cT;generalize upd H1 c2 (.lst (bs.drop b))=H2 at s2 e2 ⊢;refine⟨_,rfl,(by show 1<=sizeLine;lia),λc3 aB=>?_⟩;have s3:cR H2 (upd H2 c3 (.lst [.ref x])):=da aB;have e3:upd H2 c3 (.lst [.ref x]) c3=some (.lst [.ref x]):=cT;generalize upd H2 c3 (.lst [.ref x])=H3 at s3 e3 ⊢;refine⟨c2,c3,_,_,rfl,rfl,s3 _ _ e2,e3,(by rw[NJ];show _+1<=sizeLine;lia),λc4 aC=>?_⟩;have s4:cR H3 (upd H3 c4 (.lst (bs.drop b++[.ref x]))):=da aC;have e4:upd H3 c4 (.lst (bs.drop b++[.ref x])) c4=some (.lst (bs.drop b++[.ref x])):=cT;generalize upd H3 c4 (.lst (bs.drop b++[.ref x]))=H4 at s4 e4 ⊢;have af:=((s1.trans s2).trans s3).trans s4;have fl:(I.drop b++[ps]).flatten=(I.drop b).flatten++ps:=by rw[Nm];simp
    have sub:(I.drop b++[ps]).flatten.Sublist (I++[ps]).flatten:=by
     rw[Nm,Nm];refine List.Sublist.append ?_ (N3 _);have:I.flatten=(I.take b).flatten++(I.drop b).flatten:=by rw[<-Nm,NR]
     rw[this];exact QV _ _
    have U:d6 (I.drop b++[ps]):=hok.sub sub (by rw[Md,NJ];show _+1<=90;have:[ps].length=1:=rfl;lia);refine⟨c4,.non,_,I.drop b++[ps],[],rfl,e4,Gn.Paired.app (AE b (ae.same af)) ⟨x,rfl,hB.same af⟩,λq hq=>U.good hq,U.f,U.w,Mr U.l (by decide),.inl ⟨rfl,rfl⟩,λc=>(by cases c),λ_ _ y H5 s5 hy aD ak=>?_,λ_ c=>absurd (by rw[pT];exact U.n) c⟩;rw[pT,fl] at aD ak;refine⟨(by show 1<=sizeLine;lia),λc5 aE=>?_⟩;have s6:cR H5 (upd H5 c5 (.lst [.ref y])):=da aE;have e6:upd H5 c5 (.lst [.ref y]) c5=some (.lst [.ref y]):=cT;generalize upd H5 c5 (.lst [.ref y])=H6 at s6 e6 ⊢;have ao:=(((s2.trans s3).trans s4).trans s5).trans s6;have aq:=s1.trans ao;refine⟨c1,c5,_,_,rfl,rfl,ao _ _ e1,e6,(by rw[ML];show _+1<=sizeLine;lia),λl hl=>?_⟩;refine kk l (bs.take b++[.ref y]) H6 _ aq ?_ hl rfl;unfold iy;rw[aj];exact Gn.Paired.app (xu b (aa.same (xU aq))) ⟨y,rfl,ak _ λb u e n=>iH (s6 _ _ e) λm hm z=>n m hm (af _ _ (av _ _ z))⟩
   by_cases aF:b=0
   ·subst aF;rw[LY (show ¬ ((0:Nat):Int)>0 by decide)];refine df (df (fin ?_));rw[hm];show(iz _ []).reverse=_;rfl
   ·rw[Mb (show(b:Int)>0 by lia)];obtain⟨J,rfl⟩:∃ J,b=J+1:=⟨b-1,by lia⟩;obtain⟨y,hy⟩:∃ y,I[J]? =some y:=⟨I[J]'(by lia),List.getElem?_eq_getElem (by lia)⟩;obtain⟨v,hv,xb,rfl,ag⟩:=Gn.Paired.at ae hy;obtain⟨ar,aS,au,ab⟩:=ag.at;refine dG ⟨_,rfl,_,rfl,_,rfl,_,_,rfl,rfl,vl,_,_,_,rfl,rfl,cS.of hL,(by rw[show((J+1:Nat):Int)-1=(J:Int) by lia];exact dS hv),xb,ar,_,rfl,au,ab _ mn,xb,y,rfl,ag,_,_,rfl,rfl,_,rfl,?_⟩;have hd:I.drop J=y::I.drop (J+1):=by
     obtain⟨hi,e⟩:=List.getElem?_eq_some_iff.mp hy;rw[OH hi,e]
    by_cases hle:y.length<=((I.drop (J+1)).flatten++ps).length
    ·rw[Mb (show((((I.drop (J+1)).flatten++ps).length:Nat):Int) ≥ ((y.length:Nat):Int) by lia)];refine dG ⟨_,rfl,_,_,rfl,rfl,?_⟩;have eb:((J+1:Nat):Int)-1=(J:Int):=by lia
     refine⟨_,rfl,_,rfl,_,rfl,vl,_,_,_,rfl,rfl,cS.of hL,(by show iT bs (((J+1:Nat):Int)-1)=_;rw[eb];exact dS hv),xb,ar,_,rfl,au,ab _ mn,xb,y,rfl,ag,_,_,rfl,rfl,?_⟩;have em:(((I.drop (J+1)).flatten++ps).length:Int)+(y.length:Int)=((((I.drop J).flatten++ps).length:Nat):Int):=by
      rw[hd,NS,Nc,Md (as:=y)]
      lia
     refine⟨⟨J,by lia,?_,rfl,?_⟩,?_⟩
     ·show [some (V.ref vl),some (V.ref x),some (V.int ((((I.drop (J+1)).flatten++ps).length:Int)+(y.length:Int))),some (V.int (((J+1:Nat):Int)-1))]=_;rw[em,eb]
     ·rw[hm,Dg hy hle,hd,NS,Nc]
     ·show(((J+1:Nat):Int)-1).toNat<((J+1:Nat):Int).toNat
      lia
    ·rw[LY (show ¬ ((((I.drop (J+1)).flatten++ps).length:Nat):Int) ≥ ((y.length:Nat):Int) by lia)];refine df (fin ?_);rw[hm];exact IP hy hle
  ·intro σ H' Q1 Q2 hq h;obtain⟨v3,e3,i,j,ei,ej,k,ek,h⟩:=h;refine⟨v3,e3,i,j,ei,ej,k,ek,?_⟩;by_cases hk:k=true
   ·rw[LZ hk] at h ⊢;obtain⟨v2,e2,v0,e0,aG,aH,i2,j2,aI,aJ,p,xs,c,y,ep,ec,hs,ha,x',aK,fs',ex',aL,aM,x2,aN,ev,aO,i4,j4,aP,aQ,k2,aR,h⟩:=h;exact⟨v2,e2,v0,e0,aG,aH,i2,j2,aI,aJ,p,xs,c,y,ep,ec,hs,ha,x',aK,fs',ex',aL,aM,x2,aN,ev,aO,i4,j4,aP,aQ,k2,aR,hq _ _ h⟩
   ·rw[LX hk] at h ⊢;exact hq _ _ h
end
noncomputable def gj(vl:LS):LR (Str×V):=dM "volumes" (.ref vl) []
theorem jh{vl:LS}:(gj vl).lookup ("volumes":Str)=some (.ref vl):=by unfold gj;rw[fR,LZ rfl]
theorem gQ{vl:LS}{m:Str}(h:¬ m="volumes":=by decide +kernel):(gj vl).lookup m=none:=by unfold gj;rw[fR,LX h];rfl
theorem DF{vl l:LS}:dM "volumes" (.ref l) (gj vl)=gj l:=by
 show(if ("volumes":Str)="volumes" then [(("volumes":Str),V.ref l)] else _)=_;rw[LZ rfl];rfl
theorem vS{vl:LS}:(gj vl).length<1000:=by show 1<1000;decide
theorem fC.ch {C CH:LS}{H H':Hp}{b:LS}{ps:LR (Str×Str)}(h:fC C H b ps)(n:CH≠C)(k:∀ a o,H a=some o->(∀ dx fs,o≠ .ins CH dx fs)->H' a=some o):fC C H' b ps:=by
 obtain⟨dx,dn,pa,sz,dr,ri,xs,es,ts,h1,h2,J,U,h5,I,h7,h8,h9⟩:=h.ex;exact⟨dx,dn,pa,sz,dr,ri,xs,es,ts,k _ _ h1 (λ_ _ z=>n (HO.ins.inj z).1.symm),k _ _ h2 (λ_ _ z=>by cases z),k _ _ J (λ_ _ z=>by cases z),Gn.Paired.imp2 U λ_ _ ⟨p,e,q⟩=>⟨p,e,k _ _ q (λ_ _ z=>by cases z)⟩,
  k _ _ h5 (λ_ _ z=>by cases z),⟨k _ _ I.d (λ_ _ z=>by cases z),I.k,I.w,λe he=>k _ _ (I.f e he) (λ_ _ z=>by cases z)⟩,k _ _ h7 (λ_ _ z=>by cases z),h8,h9⟩
structure ia (C CH : LS) (H : Hp) (x : LS) (pss : LR (LR (Str × Str))) : Prop where
 ex : ∃ (vl dx : LS) (bs : LR V), H x = some (.ins CH dx (gj vl)) /\ H vl = some (.lst bs) /\ gI C H bs pss
theorem ia.same {C CH:LS}{H H':Hp}{x:LS}{pss:LR (LR (Str×Str))}(h:ia C CH H x pss)(s:cR H H'):ia C CH H' x pss:=by
 obtain⟨I,dx,bs,h1,h2,J⟩:=h.ex;exact⟨I,dx,bs,s _ _ h1,s _ _ h2,J.same s⟩
structure Hs (C CH : LS) (L H : Hp) (x : LS) (pss : LR (LR (Str × Str))) : Prop where
 ex : ∃ (vl dx : LS) (bs : LR V), H x = some (.ins CH dx (gj vl)) /\ H vl = some (.lst bs) /\ L vl = none /\ gI C (NL (upd L vl (.lst bs)) H) bs pss
 lx : L x = none
 s : cR L H
theorem Hs.r {C CH:LS}{L H:Hp}{x:LS}{pss:LR (LR (Str×Str))}(h:Hs C CH L H x pss):ia C CH H x pss:=by
 obtain⟨I,dx,bs,h1,h2,_,J⟩:=h.ex;exact⟨I,dx,bs,h1,h2,J.same gY⟩
noncomputable def kP(L H H':Hp):Hp:=λa=>match H a with|none=>H' a|some (.tup ts)=>some (.tup ts)|some _=>L a
theorem qx{L H H':Hp}{a:LS}{o:HO}(h:H a=some o)(n:∀ ts,o≠ .tup ts):kP L H H' a=L a:=by
 unfold kP;rw[h];cases o<;>first|rfl|exact absurd rfl (n _)
theorem ue{L H H':Hp}{a:LS}(h:H a=none):kP L H H' a=H' a:=by unfold kP;rw[h]
theorem tu{L H H':Hp}{a:LS}{ts:LR V}(h:H a=some (.tup ts)):kP L H H' a=some (.tup ts):=by unfold kP;rw[h]
theorem J7{L H H':Hp}{a:LS}{o m:HO}(hm:Mo m)(h:H a=some o)(z:kP L H H' a=some m):L a=some m:=by
 by_cases n:∀ ts,o≠ .tup ts
 ·rw[qx h n] at z;exact z
 ·exfalso;refine n λts e=>?_
  subst e;rw[tu h] at z;cases z;exact hm
theorem xX{L:Hp}{vl a:LS}{bs:LR V}(h:∀ m,Mo m->upd L vl (.lst bs) a≠some m)(m:HO)(hm:Mo m):L a≠some m:=λz=>by
 by_cases e:a=vl
 ·subst e;exact h (.lst bs) trivial cT
 ·exact h m hm ((cW e).trans z)
theorem Hs.ext {C CH:LS}{L H H':Hp}{x:LS}{pss:LR (LR (Str×Str))}(h:Hs C CH L H x pss)(s:cR H H'):∃ L',cR L L'/\Hs C CH L' H' x pss/\(∀ a o,H a=none->H' a=some o->L' a=some o)/\∀ a ts,H' a=some (.tup ts)->L' a=some (.tup ts):=by
 obtain⟨J,dx,bs,h1,h2,U,h4⟩:=h.ex;refine⟨kP L H H',λa o e=>?_,⟨⟨J,dx,bs,s _ _ h1,s _ _ h2,by rw[qx h2 (by intro _ z;cases z)];exact U,Gn.Paired.imp2 h4 λ_ _ ⟨b,e,q⟩=>⟨b,e,q.same λa o ha=>?_⟩⟩,by rw[qx h1 (by intro _ z;cases z)];exact h.lx,λa o ha=>?_⟩,λa o e1 e2=>by rw[ue e1];exact e2,λa ts e=>?_⟩
 ·have I:=h.s _ _ e;by_cases n:∀ ts,o≠ .tup ts
  ·rw[qx I n];exact e
  ·have:∃ ts,o= .tup ts:=Oe λc=>n λts z=>c ⟨ts,z⟩
   obtain⟨ts,rfl⟩:=this;exact tu I
 ·have e:=gY _ _ ha;refine iH (s _ _ e) λl hm z=>?_
  by_cases ev:a=J
  ·subst ev;exact gO ha (.lst bs) trivial cT
  ·rw[cW ev] at z;exact gO ha l hm ((cW ev).trans (J7 hm e z))
 ·cases e:H a with
  |none=>rw[ue e] at ha;exact ha
  |some u=>
   by_cases n:∀ ts,u≠ .tup ts
   ·rw[qx e n] at ha;exact s _ _ (h.s _ _ ha)
   ·have:∃ ts,u= .tup ts:=Oe λc=>n λts z=>c ⟨ts,z⟩
    obtain⟨ts,rfl⟩:=this;rw[tu e] at ha;rw[<-ha];exact s _ _ e
 ·cases I:H a with
  |none=>rw[ue I];exact e
  |some u=>
   have:=s _ _ I;rw[e] at this;cases this;exact tu I
theorem Hs.mset {C CH:LS}{L H:Hp}{x p:LS}{pss:LR (LR (Str×Str))}{m0 m:HO}(h:Hs C CH L H x pss)(hm0:Mo m0)(hm:Mo m)(hp:L p=some m0):Hs C CH (upd L p m) (upd H p m) x pss:=by
 obtain⟨I,dx,bs,h1,h2,J,h4⟩:=h.ex;have nx:x≠p:=λz=>by have:=h.lx;rw[z,hp] at this;cases this
 have U:I≠p:=λz=>by rw[z,hp] at J;cases J
 refine⟨⟨I,dx,bs,(cW nx).trans h1,(cW U).trans h2,(cW U).trans J,Gn.Paired.imp2 h4 λ_ _ ⟨b,e,q⟩=>⟨b,e,q.same λa o ha=>?_⟩⟩,(cW nx).trans h.lx,λa o ha=>?_⟩
 ·have e:=gY _ _ ha
  have np:a≠p:=λz=>by
   subst z;exact gO ha m0 hm0 ((cW (Nt U)).trans hp)
  refine iH ((cW np).trans e) λl hl z=>gO ha l hl ?_
  by_cases ev:a=I
  ·subst ev;rw[cT] at z ⊢;exact z
  ·rw[cW ev,cW np] at z;exact(cW ev).trans z
 ·by_cases e:a=p
  ·subst e;rw[cT] at ha ⊢;exact ha
  ·rw[cW e] at ha ⊢;exact h.s _ _ ha
theorem Hs.new {C CH:LS}{L' L H1:Hp}{x dx v0 l:LS}{bs':LR V}{rows:LR (LR (Str×Str))}(n:CH≠C)(sL:cR L H1)(lx:L x=none)(hx:H1 x=some (.ins CH dx (gj v0)))(hl:H1 l=none)
  (hL:∀ a,(∀ m,Mo m->L' a≠some m)->∀ m,Mo m->L a≠some m)(hB:gI C (NL L' H1) bs' rows):Hs C CH L (upd (upd H1 l (.lst bs')) x (.ins CH dx (dM "volumes" (.ref l) (gj v0)))) x rows:=by
 have I:l≠x:=λz=>by rw[z,hx] at hl;cases hl
 refine⟨⟨l,dx,bs',by rw[cT,DF],(cW I).trans cT,sL.free hl,Gn.Paired.imp2 hB λ_ _ ⟨b,e,q⟩=>⟨b,e,q.ch n λa o J U=>?_⟩⟩,lx,λa o ha=>?_⟩
 ·have e:=gY _ _ J
  have nx:a≠x:=λz=>by
   subst z;rw[hx] at e;exact U _ _ (Ml e).symm
  have na:a≠l:=dF e hl;refine iH ((cW nx).trans ((cW na).trans e)) λm hm z=>?_
  rw[cW na] at z;exact hL a (gO J) m hm z
 ·have nx:a≠x:=λz=>by rw[z,lx] at ha;cases ha
  have e:=sL _ _ ha;exact(cW nx).trans ((cW (dF e hl)).trans e)
structure gT (K : Mm) (mg : Str -> Mc LW) (C CH : LS) : Prop where
 cl : iG K CH
 nV : ja K CH "volumes"
 mgC : mg "House" = some (.ref CH)
 ne : CH ≠ C
theorem mr{k:Str}{m:Nat}(h:dA m (.str k)=true)(hm:m<=5000):fT (.str k):=λz e=>by
 injection e with e;subst e;have h':(decide (1<=k.length)&&decide (k.length<=m)&&k.cps.toList.all dW)=true:=h;rw[MO,MO] at h';have:=Nh h'.1.2
 lia
theorem Bi{k:Str}(h:dX (.str k)=true):fT (.str k):=λz e=>by
 injection e with e;subst e;have:=(kE h).1
 lia
section
variable {P : Mq} {w : MT} {K : Mz} {mg : Str -> Mc LW} {base : Nn} {C CH CN CNo CW CK CT C2 : LS}
noncomputable def BF(CH:LS):Sp:=λvs H Q _=>∃(x dx:LS),vs=[.ref x]/\H x=some (.ins CH dx [])/\∀ I,H I=none->Q .non (upd (upd H I (.lst [])) x (.ins CH dx (gj I)))
theorem Jp:dC ["self"] ["self"] (c9 lL):=⟨rfl,rfl,rfl,dkq,rfl,dkq,dkq⟩
seal dj PS PE PT PA PG PI dE dD in
theorem Fd{f:LS}{fd:Mj}(F:dv K "__init__" "House.__init__" lL f fd)(HC:gT K mg C CH):cV P w K mg base dc 1 f fd ["self"] (BF CH):=by
 refine F.ok Jp (λvs H Q E h=>?_) (λcdv A outer s H vs Q E hr h=>?_)
 ·obtain⟨x,dx,rfl,_⟩:=h;rfl
 ·obtain⟨x,dx,rfl,J,k⟩:=h;refine⟨_,cY (kg (pv 0) (dZ cQ) rfl),?_⟩;exact⟨(by show 0<=sizeLine;decide),λU I=>⟨_,rfl,x,CH,dx,[],rfl,da I _ _ J,HC.cl,HC.nV,(by show 0<1000;decide),k U I⟩⟩
noncomputable def keysOf(pss:LR (LR (Str×Str))):LR Str:=pss.flatten.map (·.1)
theorem vH{pss:LR (LR (Str×Str))}{k:Str}:k∈keysOf pss↔∃(i:Nat) (ps:LR (Str×Str)),pss[i]? =some ps/\k∈ps.map (·.1):=by
 unfold keysOf;constructor
 ·intro h;obtain⟨p,I,e⟩:=List.mem_map.mp h;obtain⟨ps,h1,h2⟩:=List.mem_flatten.mp I;obtain⟨i,hi⟩:=List.getElem?_of_mem h1;exact⟨i,ps,hi,List.mem_map.mpr ⟨p,h2,e⟩⟩
 ·rintro⟨i,ps,hi,h⟩;obtain⟨p,I,e⟩:=List.mem_map.mp h;exact List.mem_map.mpr ⟨p,List.mem_flatten.mpr ⟨ps,List.mem_of_getElem? hi,I⟩,e⟩
noncomputable def fK(pss:LR (LR (Str×Str))):V->Nw
 |.str k=>dA 12 (.str k)&&decide (k∈keysOf pss)
 |_=>false
theorem Ao{m:Nat}{v:V}(h:dA m v=true):∃ k,v= .str k:=by
 cases v with
 |str k=>exact⟨k,rfl⟩
 |_=>cases h
theorem K8{v:V}(h:dX v=true):∃ k,v= .str k:=by
 cases v with
 |str k=>exact⟨k,rfl⟩
 |_=>cases h
theorem Eb{pss:LR (LR (Str×Str))}{v:V}(h:dA 12 v=false):fK pss v=false:=by
 cases v with
 |str k=>show(_&&_)=false;rw[h];rfl
 |_=>rfl
theorem ko{pss:LR (LR (Str×Str))}{k:Str}(h:dA 12 (.str k)=true)(hk:k∈keysOf pss):fK pss (.str k)=true:=by
 show(_&&_)=true;rw[h,Mb hk];rfl
theorem nY{pss:LR (LR (Str×Str))}{k:Str}(hk:k∉keysOf pss):fK pss (.str k)=false:=by
 show(_&&_)=false;rw[LY hk,PV]
theorem Ds{pss:LR (LR (Str×Str))}{v:V}(h:fK pss v=true):∃ k,v= .str k/\dA 12 (.str k)=true/\k∈keysOf pss:=by
 cases v with
 |str k=>
  have h':(dA 12 (.str k)&&decide (k∈keysOf pss))=true:=h;rw[MO] at h';exact⟨k,rfl,h'.1,Nh h'.2⟩
 |_=>cases h
noncomputable def rE(K:Mm)(C CH CNo:LS):Sp:=λvs H Q E=>∃(x:LS) (J:V) (I:LR (LR (Str×Str))),vs=[.ref x,J]/\ia C CH H x I/\Known K H J/\fT J/\
 (∀(k:Str) (i:Nat) ps H',J= .str k->dA 12 (.str k)=true->I[i]? =some ps->k∈ps.map (·.1)->cR H H'->Q (.int (i:Int)) H')/\(fK I J=false->∀ H',cR H H'->E (.ref CNo) none H')
theorem vj:dC ["self","key","place","book"] ["self","key"] (c9 jP):=⟨rfl,rfl,rfl,dkq,rfl,dkq,dkq⟩
seal dj PS PE PT PA PG PI dE dD in
theorem G6{f fk:LS}{fd fdk:Mj}(F:dv K "place_of" "House.place_of" jP f fd)(HC:gT K mg C CH)(B:gB K mg C)(DK:Df K mg "is_key" lR fk fdk)(GK:cV P w K mg base dc 2 fk fdk ["thing"] (m8 K 12))(X:Ex K mg "NoText" CNo)(T:Txt mg):
  cV P w K mg base (dz P w) 3 f fd ["self","key"] (rE K C CH CNo):=by
 have bK:=eI (p:="thing") DK.F λ_ _ _ _ _ _ _=>rfl
 refine F.ok1 vj (λvs H Q E h=>?_) (λcdv A outer s H vs Q E hr h=>?_)
 ·obtain⟨x,k,aa,rfl,_⟩:=h;rfl
 ·obtain⟨x,kv,aa,rfl,hH,ah,ab,k1,k2⟩:=h;have hu:=iP hr;refine⟨_,cU (dP (fM (dw GK hr rfl DK.m DK.F.kp bK .nil du (cP (pv 1) cQ)))
    (cY (fx Pe rfl (pO rfl T.enum (cP (gm (pv 0) rfl) cQ)) (ir (n:=2) rfl (fe (dB (i:=2) vj.nd rfl (Mh rfl)) (fe (dB (i:=3) vj.nd rfl (Mh rfl)) il)))
     (cY (dP (iZ (nC hu (pv 1) (gm (pv 3) rfl))) (cY (dg (pv 2))) dO)))) dO)
   (cY (ji rfl X.q NV dkq NV rfl X.m (cP dq cQ) jm)),?_⟩;refine⟨_,rfl,kv,rfl,ah,ab,λH1 s1=>?_⟩;refine⟨_,rfl,?_⟩;by_cases I:dA 12 kv=true
  case neg=>
   rw[Bool.eq_false_iff.mpr I];exact df ⟨by show 1<=sizeLine;decide,k2 (Eb (Bool.eq_false_iff.mpr I)) H1 s1⟩
  obtain⟨k,rfl⟩:=Ao I;obtain⟨vl,dx,bs,hx,ae,af⟩:=(hH.same s1).ex;rw[I];refine dG ⟨_,rfl,x,CH,dx,_,_,rfl,hx,HC.cl,HC.nV,jh,vl,bs,rfl,ae,?_⟩;refine pX (xs:=bs) (λi σ H'=>∃ o2 o3:Mc V,σ=[some (.ref x),some (.str k),o2,o3]/\cR H1 H'/\∀ j<i,∀ ps,aa[j]? =some ps->k∉ps.map (·.1)) ⟨none,none,rfl,cR.refl _,λj hj=>absurd hj (Rx _)⟩ ?_ ?_ ?_
  ·rintro i σ H' _ ⟨_,_,_,sm,_⟩;exact sm _ _ ae
  ·rintro i v σ H' t hv ⟨o2,o3,rfl,sm,J⟩ ht;obtain⟨ps,ag,b,rfl,hB⟩:=fX af hv;have st:cR H' (upd H' t (.tup [.int i,.ref b])):=da ht;refine⟨t,_,rfl,dY.of cT,rfl,_,_,rfl,_,_,rfl,rfl,?_⟩;generalize upd H' t (.tup [.int i,.ref b])=H2 at st ⊢;have U:=sm.trans st;obtain⟨ai,dn,pa,sz,dr,ri,xs,es,ts,b1,b2,_⟩:=(hB.same U).ex;refine⟨_,rfl,_,rfl,b,C,ai,_,_,rfl,b1,B.cl,B.nN,vX,dn,_,rfl,gh.k (k:=MF k) b2,_,rfl,?_⟩;by_cases hz:k∈ps.map (·.1)
   ·obtain⟨v,hv⟩:=Af hz;rw[hv];exact dG ⟨_,rfl,k1 k i ps H2 rfl I ag hz (s1.trans U)⟩
   ·rw[sY hz];refine df ⟨_,_,rfl,U,λj hj qs hq=>?_⟩;by_cases e:j=i
    ·subst e;rw[ag] at hq;cases hq;exact hz
    ·exact J j (by lia) qs hq
  ·rintro σ H' ⟨o2,o3,rfl,sm,J⟩;refine⟨by show 1<=sizeLine;decide,k2 (nY λhk=>?_) H' (s1.trans sm)⟩;obtain⟨i,ps,hi,hm⟩:=vH.mp hk;have:=Gn.Paired.len af;have:=(List.getElem?_eq_some_iff.mp hi).1;exact J i (by lia) ps hi hm
noncomputable def q8(K:Mm)(C CH:LS):Sp:=λvs H Q _=>∃(x:LS) (J:V) (I:LR (LR (Str×Str))),vs=[.ref x,J]/\ia C CH H x I/\Known K H J/\fT J/\∀ H',cR H H'->Q (.bl (fK I J)) H'
theorem Fx:dC ["self","key"] ["self","key"] (c9 jJ):=⟨rfl,rfl,rfl,dkq,rfl,dkq,dkq⟩
seal dj PS PE PT PA PG PI dE dD in
theorem Fc{f fp:LS}{fd fdp:Mj}(F:dv K "has" "House.has" jJ f fd)(HC:gT K mg C CH)(FP:dv K "place_of" "House.place_of" jP fp fdp)(mP:Meth K CH "place_of" fp)(GP:cV P w K mg base (dz P w) 3 fp fdp ["self","key"] (rE K C CH CNo))(X:Ex K mg "NoText" CNo)
  (hex:Pl K (.ref CNo) (.ref CNo)=some true):cV P w K mg base dc 4 f fd ["self","key"] (q8 K C CH):=by
 have bP:=FP.binds (ps:=["self","key"]) λ_ _ _ _ _ _ us hl=>eO (λ_ _=>rfl) us hl
 refine F.ok Fx (λvs H Q E h=>?_) (λcdv A outer s H vs Q E hr h=>?_)
 ·obtain⟨x,k,I,rfl,_⟩:=h;rfl
 ·obtain⟨x,kv,I,rfl,hH,ab,U,kk⟩:=h;refine⟨_,cU (Ie (CH:=CNo) (λσ cls _ H'=>σ=[some (.ref x),some kv]/\cR H H'/\cls= .ref CNo/\fK I kv=false) rfl rfl rfl X.m
    (λp xe hx=>cY (fv (rz (pv 0) HC.cl mP GP hr bP .nil hx (cP (pv 1) cQ)))) (λea p=>cY (dg fN))) (cY (dg fN)),?_⟩;obtain⟨vl,dx,bs,hx,_⟩:=hH.ex;refine⟨⟨_,rfl,x,dx,_,rfl,hx,gQ,_,rfl,x,kv,I,rfl,hH,ab,U,λk i ps H1 e aa hi hm s1=>?_,λJ H1 s1=>⟨rfl,s1,rfl,J⟩⟩,?_⟩
  ·have:=kk H1 s1;rw[e,ko aa (vH.mpr ⟨i,ps,hi,hm⟩)] at this;exact this
  ·rintro ae cls H' ⟨rfl,sm,rfl,J⟩;refine⟨_,rfl,hex,?_⟩;have:=kk H' sm;rw[J] at this;exact this
end
theorem Ea{ps:LR (Str×Str)}(h:lg ps):iA [] (ps.map kp)=none:=by
 cases e:iA [] (ps.map kp) with
 |none=>rfl
 |some i=>exact absurd ⟨h.n,λ_ _ z=>nomatch z⟩ (wm h.g e).2
theorem d6.last {pss:LR (LR (Str×Str))}{p:Str×Str}(h:d6 (pss++[[p]])):dA 12 (.str p.1)=true/\dX (.str p.2)=true:=h.g p (by rw[Nm];simp)
theorem d6.lastS {pss:LR (LR (Str×Str))}{ps:LR (Str×Str)}:ps.Sublist (pss++[ps]).flatten:=jN (by simp)
theorem Ls{n i:Nat}(h:i<n):jT n (i:Int)=some i:=by
 unfold jT;rw[LZ (by lia),LZ (by lia),NF]
noncomputable def wo(k:Str)(ps:LR (Str×Str)):LR (Str×Str):=ps.filter λp=> !decide (p.1=k)
noncomputable def iU(pss:LR (LR (Str×Str))):LR (LR (Str×Str)):=pss.filter λps=> !ps.isEmpty
noncomputable def j5(k:Str)(pss:LR (LR (Str×Str))):LR (LR (Str×Str)):=iU (pss.map (wo k))
theorem oo{k:Str}:∀{ps:LR (Str×Str)},k∉ps.map (·.1)->wo k ps=ps
 |[],_=>rfl
 |p::ps,h=>by
  have h1:¬ p.1=k:=λe=>h (by rw[<-e];exact Mi)
  have h2:k∉ps.map (·.1):=λz=>h (Mg _ z)
  unfold wo;rw[NY,LZ (by rw[LY h1];rfl)];exact Nl _ (oo h2)
theorem xw{k:Str}:∀{pss:LR (LR (Str×Str))},k∉keysOf pss->pss.map (wo k)=pss
 |[],_=>rfl
 |ps::r,h=>by
  have e:keysOf (ps::r)=ps.map (·.1)++keysOf r:=by unfold keysOf;rw[NS,Mf]
  rw[e] at h;rw[Nb,oo (λz=>h (MX _ z)),xw (λz=>h (MA _ z))]
theorem Be{k:Str}:∀{pss:LR (LR (Str×Str))} {i:Nat} {ps:LR (Str×Str)},(keysOf pss).Nodup->pss[i]? =some ps->k∈ps.map (·.1)->pss.map (wo k)=pss.set i (wo k ps)
 |[],i,_,_,h,_=>by cases i<;>cases h
 |qs::r,i,ps,hn,h,hk=>by
  have e:keysOf (qs::r)=qs.map (·.1)++keysOf r:=by unfold keysOf;rw[NS,Mf]
  rw[e] at hn;obtain⟨n1,U,J⟩:=List.nodup_append.mp hn;cases i with
  |zero=>
   have e:qs=ps:=Ml h;subst e;rw[Nb,xw (λz=>J _ hk _ z rfl)];rfl
  |succ i=>
   have h':r[i]? =some ps:=h
   have I:k∈keysOf r:=vH.mpr ⟨i,ps,h',hk⟩;rw[Nb,oo (λz=>J _ z _ I rfl),Be U h' hk];rfl
theorem rN(k:Str):∀ pss:LR (LR (Str×Str)),(j5 k pss).flatten=wo k pss.flatten
 |[]=>rfl
 |ps::r=>by
  have J:=rN k r
  have e:wo k (ps::r).flatten=wo k ps++wo k r.flatten:=by unfold wo;rw[NS,QS]
  rw[e,<-J];unfold j5 iU;rw[Nb,NY];split
  ·rw[NS]
  ·rename_i I;have:wo k ps=[]:=by
    cases q:wo k ps with
    |nil=>rfl
    |cons a b=>rw[q] at I;exact absurd rfl I
   rw[this,Qu]
theorem z7(k:Str)(pss:LR (LR (Str×Str))):(j5 k pss).length<=pss.length:=by
 unfold j5 iU;have:=List.length_filter_le (λps:LR (Str×Str)=> !ps.isEmpty) (pss.map (wo k))
 rwa [LV] at this
theorem wA{k:Str}{j:Nat}:∀(ps:LR (Str×Str)) (s:Nat),(ps.map (·.1)).Nodup->(s<=j->(ps.map (·.1))[j-s]? =some k)->(j<s->k∉ps.map (·.1))->d0 ((List.range' s ps.length).map λi=> !decide (i=j)) ps=wo k ps
 |[],s,_,_,_=>rfl
 |p::ps,s,hn,h1,h2=>by
  obtain⟨J,U⟩:=List.nodup_cons.mp (show(p.1::ps.map (·.1)).Nodup from hn);show d0 ((!decide (s=j))::(List.range' (s+1) ps.length).map λi=> !decide (i=j)) (p::ps)=_;have ew:wo k (p::ps)=if p.1=k then wo k ps else p::wo k ps:=by
   unfold wo;rw[NY];by_cases e:p.1=k
   ·rw[Mb e,LZ e];rfl
   ·rw[LY e,LX e];rfl
  rw[ew];by_cases e:s=j
  ·subst e;have hk:p.1=k:=by
    have:=h1 (Ma _);rw[Nat.sub_self] at this;exact Ml this
   rw[Mb rfl,LZ hk];exact wA ps (s+1) U (λz=>absurd z (by lia)) (λ_ z=>J (by rw[hk];exact z))
  ·have hk:¬ p.1=k:=λz=>by
    by_cases hs:s<=j
    ·have:=h1 hs
     have I:j-s=(j-(s+1))+1:=by lia
     rw[I] at this;have h3:(ps.map (·.1))[j-(s+1)]? =some k:=this;exact J (by rw[z];exact List.mem_of_getElem? h3)
    ·exact h2 (by lia) (by rw[<-z];exact Mi)
   rw[LY e,LX hk];show p::d0 _ ps=_;rw[wA ps (s+1) U (λz=>?_) (λz q=>?_)]
   ·have:=h1 (by lia)
    have I:j-s=(j-(s+1))+1:=by lia
    rw[I] at this;exact this
   ·exact h2 (by lia) (Mg _ q)
theorem Bq{k:Str}{j:Nat}{ps:LR (Str×Str)}(hn:(ps.map (·.1)).Nodup)(h:(ps.map (·.1))[j]? =some k):kept [some (V.int 0,V.int (j:Int))] 0 [ps]=wo k ps:=by
 show d0 (fE _ 0 ps.length) ps++[]=_;rw[MR,<-wA ps 0 hn (λ_=>by rw[Nat.sub_zero];exact h) (λz=>absurd z (Rx _))];unfold fE;rw[List.range_eq_range']
 congr 1
 refine Ox λi _=>?_
 congr 1
 refine decide_eq_decide.mpr ⟨λz=>?_,λz=>?_⟩
 ·have I:=(Q7 (Ml (List.mem_singleton.mp z))).2
  have:=V.int.inj I
  lia
 ·rw[z];exact List.mem_singleton.mpr rfl
section
variable {P : Mq} {w : MT} {K : Mz} {mg : Str -> Mc LW} {base : Nn} {C CH CN CNo CW CK CT C2 : LS}
theorem xq{H:Hp}{y dy:LS}(hy:H y=none)(hdy:H dy=none){o1 o2:HO}:cR H (upd (upd H dy o1) y o2):=λb u e=>by rw[cW (dF e hy),cW (dF e hdy)];exact e
theorem Ga{L H:Hp}{vl:LS}{bs:LR V}(s:cR L H)(h:H vl=some (.lst bs)):cR (upd L vl (.lst bs)) H:=λb u e=>by
 by_cases z:b=vl
 ·subst z;rw[cT] at e;cases e;exact h
 ·rw[cW z] at e;exact s _ _ e
noncomputable def A0(K:Mm)(C CH CK CT C2:LS):Sp:=λvs H Q E=>∃(x:LS) (J tv:V) (I:LR (LR (Str×Str))) (L:Hp),vs=[.ref x,J,tv]/\Hs C CH L H x I/\Known K H J/\fT J/\Known K H tv/\fT tv/\
 (dA 12 J=false->∀ H',cR H H'->E (.ref CK) none H')/\(dA 12 J=true->dX tv=false->∀ H',cR H H'->E (.ref CT) none H')/\(dX tv=true->fK I J=true->∀ H',cR H H'->E (.ref C2) none H')/\
 (dA 12 J=true->dX tv=true->fK I J=false->∃ k t,J= .str k/\tv= .str t/\d6 (I++[[(k,t)]])/\∀ H',Hs C CH L H' x (iy I [(k,t)])->Q .non H')
theorem Hj:dC ["self","key","text"] ["self","key","text"] (c9 mv):=⟨rfl,rfl,rfl,dkq,rfl,dkq,dkq⟩
seal dj PS PE PT PA PG PI dE dD in
theorem HZ{f fk ft fh fb fi:LS}{fd fdk fdt fdh fdb fdi:Mj}(F:dv K "put" "House.put" mv f fd)(HC:gT K mg C CH)(B:gB K mg C)
  (DK:Df K mg "need_key" mY fk fdk)(GK:cV P w K mg base (dz P w) 3 fk fdk ["thing"] (jQ K (dA 12) CK))(DT:Df K mg "need_text" lC ft fdt)(GT:cV P w K mg base (dz P w) 3 ft fdt ["thing"] (jQ K dX CT))
  (FH:dv K "has" "House.has" jJ fh fdh)(mH:Meth K CH "has" fh)(GH:cV P w K mg base dc 4 fh fdh ["self","key"] (q8 K C CH))
  (DB:Df K mg "poured_behind" qc fb fdb)(GB:cV P w K mg base dc 11 fb fdb ["volumes","last"] (xN C))
  (X2:Ex K mg "Twice" C2)(FI:kK K "__init__" "Book.__init__" jA fi fdi #[.none])(M:L2.Mk K C fi)(GI:cV P w K mg base (dz P w) 8 fi fdi ["self","pairs","rows"] (vY K C CK CT C2)):cV P w K mg base (dz P w) 12 f fd ["self","key","text"] (A0 K C CH CK CT C2):=by
 have bK:=eI (p:="thing") DK.F λ_ _ _ _ _ _ _=>rfl
 have bT:=eI (p:="thing") DT.F λ_ _ _ _ _ _ _=>rfl
 have bH:=FH.binds (ps:=["self","key"]) λ_ _ _ _ _ _ us hl=>eO (λ_ _=>rfl) us hl
 have bB:=DB.F.binds (ps:=["volumes","last"]) λ_ _ _ _ _ _ us hl=>eO (λ_ _=>rfl) us hl
 have bI:=FI.binds (ps:=["self","pairs","rows"]) (ds:=[.none]) λT kV doc pm an cdv ct us hl=>eO (λ_ _=>⟨_,rfl,rfl⟩) us (show us.length=2 by simpa using hl)
 refine F.ok1 Hj (λvs H Q E h=>?_) (λcdv A outer s H vs Q E hr h=>?_)
 ·obtain⟨x,k,t,J,L,rfl,_⟩:=h;rfl
 ·obtain⟨x,kv,tv,J,L,rfl,hs,af,ag,aq,ar,e1,e2,e3,kk⟩:=h;refine⟨_,cU (fv (dw (GK.mono (by decide)) hr rfl DK.m DK.F.kp bK .nil (gP (E':=E) (λ_ _ _ h=>h)) (cP (pv 1) cQ)))
   (cU (fv (dw (GT.mono (by decide)) hr rfl DT.m DT.F.kp bT .nil (gP (E':=E) (λ_ _ _ h=>h)) (cP (pv 2) cQ)))
   (cU (dP (fM (gU (pv 0) HC.cl mH (GH.mono (by decide)) hr bH .nil du (cP (pv 1) cQ))) (cY (ji rfl X2.q NV dkq NV rfl X2.m (cP dq cQ) jm)) dO)
   (cY (kg (pv 0) (dw GB hr rfl DB.m DB.F.kp bB .nil du (cP (gm (pv 0) rfl) (cP (wZ M (GI.mono (k:=10) (by decide)) hr rfl B.mgC bI (dvs:=[.non]) (.cons rfl .nil) ig
    (cP (dZ (cP (ip (cP (pv 1) (cP (pv 2) cQ))) cQ)) cQ)) cQ))) rfl)))),?_⟩;refine⟨_,rfl,kv,rfl,af,ag,λab H1 s1=>?_,e1⟩;refine⟨_,rfl,tv,rfl,aq.same s1,ar,λah H2 s2=>?_,λe H2 s2=>e2 ab e H2 (s1.trans s2)⟩;have I:=s1.trans s2;obtain⟨vl,dx,bs,hx,ai,aF,au⟩:=hs.ex;refine⟨_,rfl,x,dx,_,rfl,I _ _ hx,gQ,_,rfl,x,kv,J,rfl,hs.r.same I,af.same I,ag,λH3 s3=>?_⟩;refine⟨_,rfl,?_⟩;by_cases U:fK J kv=true
  case pos=>
   rw[U];exact dG ⟨by show 1<=sizeLine;decide,e3 ah U H3 (I.trans s3)⟩
  rw[Bool.eq_false_iff.mpr U];obtain⟨k,t,rfl,rfl,hok,kk⟩:=kk ab ah (Bool.eq_false_iff.mpr U);obtain⟨av,aw⟩:=hok.last;have ax:lg [(k,t)]:=hok.good (by simp);refine df ?_;have aj:=I.trans s3;refine⟨_,rfl,x,CH,dx,_,_,rfl,aj _ _ hx,HC.cl,HC.nV,jh,_,rfl,_,rfl,(by show 2<=sizeLine;decide),λtt ay=>?_⟩;have s4:cR H3 (upd H3 tt (.tup [.str k,.str t])):=da ay;have e4:upd H3 tt (.tup [.str k,.str t]) tt=some (.tup [.str k,.str t]):=cT;generalize upd H3 tt (.tup [.str k,.str t])=H4 at s4 e4 ⊢;refine⟨(by show 1<=sizeLine;decide),λa ha=>?_⟩;have s5:cR H4 (upd H4 a (.lst [.ref tt])):=da ha;have e5:upd H4 a (.lst [.ref tt]) a=some (.lst [.ref tt]):=cT;generalize upd H4 a (.lst [.ref tt])=H5 at s5 e5 ⊢;intro y dy hy az aG;have s6:cR H5 (upd (upd H5 dy (.own y)) y (.ins C dy [])):=xq hy az;have e6:upd (upd H5 dy (.own y)) y (.ins C dy []) y=some (.ins C dy []):=cT;generalize upd (upd H5 dy (.own y)) y (.ins C dy [])=H6 at s6 e6 ⊢;have ak:=(aj.trans s4).trans s5;have aA:=ak.trans s6;have ao:=Ga hs.s ai;refine⟨y,a,dy,.non,[.ref tt],[(.str k,.str t)],rfl,e6,s6 _ _ e5,.cons ⟨tt,rfl,s6 _ _ (s5 _ _ e4)⟩ .nil,(by show 1<=300;decide),λkt aB=>?_,λps e hg=>?_,λi hi=>?_,λps e hg H7 aH aC aD=>⟨rfl,?_⟩⟩
  ·rw[List.mem_singleton.mp aB];exact⟨⟨_,.str _⟩,mr av (by decide),⟨_,.str _⟩,Bi aw⟩
  ·have e2:ps=[(k,t)]:=pY (show ps.map kp=[(k,t)].map kp from e.symm);subst e2;exact⟨hok.f.sub d6.lastS,hok.w.sub d6.lastS,.inl rfl⟩
  ·have:=Ea ax;rw[show [(k,t)].map kp=[(V.str k,V.str t)] from rfl,hi] at this;cases this
  ·have e2:ps=[(k,t)]:=pY (show ps.map kp=[(k,t)].map kp from e.symm);subst e2;have s7:cR H5 H7:=λb u e=>aD b u (s6 _ _ e) (dF e hy) (by intro z;cases z)
   have aa:=ak.trans s7;refine⟨vl,y,upd L vl (.lst bs),bs,J,[(k,t)],rfl,aa _ _ ai,ao.trans aa,gI.same au (xU aa),aC _ λb u e n=>iH e λm hm z=>n.elim (λn=>n m hm (aA _ _ (ao _ _ z))) (λz=>by cases z),hok,λl aI H8 H9 s8 aE hl e9=>?_⟩;subst e9;have ae:=aa.trans s8;exact⟨_,rfl,x,CH,dx,_,rfl,da hl _ _ (ae _ _ hx),HC.cl,HC.nV,vS,kk _ (Hs.new HC.ne (hs.s.trans ae) hs.lx (ae _ _ hx) hl (λa h m hm=>xX h m hm) aE)⟩
theorem LN{X:Cx}{K:Mm}{e:Nv}{f:Str}{pos:Pos}{ta:TE}(h:X.K=K)(he:PE X e ta)(hb:OB e f X.env (eval e X.env)=eval e X.env):PE X (.Attribute e f pos) (vR K ta f):=by subst h;exact gm he hb
noncomputable def DQ(K:Mm):LR V->Hp->VK->Prop:=λxs H Q=>∃ p ys,xs=[.ref p]/\(cS K H p ys\/dY K H p ys)/\∀ l,H l=none->Q (.ref l) (upd H l (.lst ys))
theorem Hw{X:Cx}{K:Mm}(h:X.K=K):gy X (.type "list") (DQ K):=by subst h;exact qw
theorem vv:(["book"]:LR Str).Nodup:=dkq
noncomputable def IM(C CH:LS):TE:=λσ H Q=>∃(x:LS) (I:LR (LR (Str×Str))),σ[0]? =some (some (.ref x))/\ia C CH H x I/\I.length<=1000/\∀ l,H l=none->Q (.ref l) (upd H l (.lst (nl (I.map MQ))))
noncomputable def BL(C CH:LS):Sp:=λvs H Q _=>∃(x:LS) (I:LR (LR (Str×Str))),vs=[.ref x]/\ia C CH H x I/\I.length<=1000/\∀ l,H l=none->Q (.ref l) (upd H l (.lst (nl (I.map MQ))))
theorem Es:dC ["self"] ["self"] (c9 kO):=⟨rfl,rfl,rfl,dkq,rfl,dkq,dkq⟩
seal dj PS PE PT PA PG PI dE dD in
theorem B2{f fm:LS}{fd fdm:Mj}(F:dv K "books" "House.books" kO f fd)(HC:gT K mg C CH)(B:gB K mg C)(FM:dv K "many" "Book.many" i9 fm fdm)(mM:Meth K C "many" fm)(GM:cV P w K mg base dc 1 fm fdm ["self"] (mJ C)):
  cV P w K mg base dc 2 f fd ["self"] (BL C CH):=by
 have bM:=FM.binds (ps:=["self"]) λ_ _ _ _ _ _ us hl=>gD (λ_=>rfl) us hl
 refine F.ok Es (λvs H Q E h=>?_) (λcdv A outer s H vs Q E hr h=>?_)
 ·obtain⟨x,I,rfl,_⟩:=h;rfl
 ·obtain⟨x,I,rfl,hH,hl,kk⟩:=h;refine⟨_,cY (dg (PE.imp (t':=IM C CH) (fP (own:=1) (caps:=[]) (N:=["book"]) (N0:=["self"]) (sc0:=c9 kO) rfl (eZ (gm (pv 0) rfl))
    (λ_ _ _=>dB (i:=0) vv rfl (Mh rfl)) (λ_ _ _=>fF) (λ_ _ _=>g0 (pv 0) B.cl mM (GM.mono (by decide)) hr bM .nil du) (eM (by decide)) rfl rfl
    dkq rfl dkq dkq rfl dkq) ?mB)),?_⟩
  case mB=>
   rintro σ H1 Q1 ⟨x,I,h0,hH,hlen,q⟩;have hz:(sizeLine:Nat)=16777216:=Mt;obtain⟨vl,dx,bs,hx,J,U⟩:=hH.ex;have aa:=Gn.Paired.len U;refine⟨_,h0,x,CH,dx,_,_,rfl,hx,HC.cl,HC.nV,jh,vl,rfl,⟨_,cS.of J⟩,gC (xs:=bs) (λi ys H'=>H'=H1/\ys=nl ((I.take i).map MQ)) (by lia) (λi ys H' p=>by rw[p.1];exact cS.of J) ⟨rfl,rfl⟩ ?_ ?_⟩
   ·rintro i v ys H' N hv ⟨rfl,rfl⟩ hN;obtain⟨ps,ab,b,rfl,hB⟩:=fX U hv;obtain⟨ae,fs,hb,af⟩:=hB.at;refine g1 ?_;refine⟨_,rfl,b,ae,_,rfl,hb,af _ mn,b,ps,rfl,hB,hN _ _ ⟨rfl,?_⟩⟩;rw[take_snoc ab,Mf,ie];rfl
   ·rintro ys H' ⟨rfl,rfl⟩ _ l hl;rw[aa,MG];exact q l hl
  exact⟨x,I,rfl,hH,hl,kk⟩
noncomputable def oA(H0 H:Hp):LR V->LR (LR (Str×Str))->Prop:=MY λv ps=>∃ p xs,v= .ref p/\H0 p=none/\H p=some (.lst xs)/\eX H xs (ps.map kp)
theorem oA.same {H0 H H':Hp}{xs:LR V}{t:LR (LR (Str×Str))}(h:oA H0 H xs t)(s:cR H H'):oA H0 H' xs t:=Gn.Paired.imp2 h λ_ _ ⟨p,xs,e,n,q,r⟩=>⟨p,xs,e,n,s _ _ q,r.same s⟩
noncomputable def JZ(C CH:LS):TE:=λσ H Q=>∃(x:LS) (I:LR (LR (Str×Str))),σ[0]? =some (some (.ref x))/\ia C CH H x I/\I.length<=1000/\∀ l ss H1,cR H H1->H1 l=none->oA H H1 ss I->Q (.ref l) (upd H1 l (.lst ss))
noncomputable def wz(C CH:LS):Sp:=λvs H Q _=>∃(x:LS) (I:LR (LR (Str×Str))),vs=[.ref x]/\ia C CH H x I/\I.length<=1000/\∀ l ss H1,cR H H1->H1 l=none->oA H H1 ss I->Q (.ref l) (upd H1 l (.lst ss))
theorem DZ:dC ["self"] ["self"] (c9 jK):=⟨rfl,rfl,rfl,dkq,rfl,dkq,dkq⟩
seal dj PS PE PT PA PG PI dE dD in
theorem FE{f:LS}{fd:Mj}(F:dv K "shelves" "House.shelves" jK f fd)(HC:gT K mg C CH)(B:gB K mg C)(T:Txt mg):cV P w K mg base dc 1 f fd ["self"] (wz C CH):=by
 refine F.ok DZ (λvs H Q E h=>?_) (λcdv A outer s H vs Q E hr h=>?_)
 ·obtain⟨x,I,rfl,_⟩:=h;rfl
 ·obtain⟨x,I,rfl,hH,hl,kk⟩:=h;refine⟨_,cY (dg (PE.imp (t':=JZ C CH) (fP (own:=1) (caps:=[]) (N:=["book"]) (N0:=["self"]) (sc0:=c9 jK) rfl (eZ (gm (pv 0) rfl))
    (λ_ _ _=>dB (i:=0) vv rfl (Mh rfl)) (λ_ _ _=>fF) (λ_ _ _=>jw (Hw (K:=K) rfl) rfl T.list jL (cP (LN (K:=K) rfl (pv 0) rfl) cQ)) (eM (by decide)) rfl rfl
    dkq rfl dkq dkq rfl dkq) ?mB)),?_⟩
  case mB=>
   rintro σ H1 Q1 ⟨x,I,h0,hH,hlen,q⟩;have hz:(sizeLine:Nat)=16777216:=Mt;obtain⟨vl,dx,bs,hx,J,U⟩:=hH.ex;have aa:=Gn.Paired.len U;refine⟨_,h0,x,CH,dx,_,_,rfl,hx,HC.cl,HC.nV,jh,vl,rfl,⟨_,cS.of J⟩,gC (xs:=bs) (λi ys H'=>cR H1 H'/\oA H1 H' ys (I.take i)) (by lia) (λi ys H' p=>cS.of (p.1 _ _ J)) ⟨cR.refl _,.nil⟩ ?_ ?_⟩
   ·rintro i v ys H' N hv ⟨sm,hS⟩ hN;obtain⟨ps,ab,b,rfl,hB⟩:=fX U hv;obtain⟨ae,dn,pa,sz,dr,ri,xs,es,ts,b1,b2,b3,b4,_⟩:=(hB.same sm).ex;refine g1 ?_;refine⟨_,rfl,b,C,ae,_,_,rfl,b1,B.cl,B.nP,rM,pa,xs,rfl,.inl (cS.of b3),λp hp=>hN _ _ ⟨cR.upd sm hp,?_⟩⟩;rw[take_snoc ab];exact Gn.Paired.app (hS.same (da hp)) ⟨p,xs,rfl,sm.free hp,cT,b4.same (da hp)⟩
   ·rintro ys H' ⟨sm,hS⟩ _ l hl;rw[aa,MG] at hS;exact q l ys H' sm hl hS
  exact⟨x,I,rfl,hH,hl,kk⟩
noncomputable def lq(pss:LR (LR (Str×Str))):LR (LR (Str×Str)):=if pss.length=0 then [] else [pss.flatten]
noncomputable def yz(C CH:LS):Sp:=λvs H Q _=>∃(x:LS) (I:LR (LR (Str×Str))) (L:Hp),vs=[.ref x]/\Hs C CH L H x I/\d6 I/\∀ H',Hs C CH L H' x (lq I)->Q .non H'
theorem KA:dC ["self"] ["self"] (c9 mi):=⟨rfl,rfl,rfl,dkq,rfl,dkq,dkq⟩
seal dj PS PE PT PA PG PI dE dD in
theorem CM{f fPo:LS}{fd fdPo:Mj}(F:dv K "pour" "House.pour" mi f fd)(HC:gT K mg C CH)(DPo:gS K mg "poured" lU fPo fdPo #[.none])(GPo:cV P w K mg base (dz P w) 10 fPo fdPo ["books","gone"] (ql K C CN CW))(T:Txt mg):
  cV P w K mg base dc 11 f fd ["self"] (yz C CH):=by
 have J:=DPo.binds (ps:=["books","gone"]) (ds:=[.none]) λT kV doc pm an cdv ct us hl=>gD (λ_=>⟨_,rfl,rfl⟩) us (show us.length=1 by simpa using hl)
 refine F.ok KA (λvs H Q E h=>?_) (λcdv A outer s H vs Q E hr h=>?_)
 ·obtain⟨x,I,L,rfl,_⟩:=h;rfl
 ·obtain⟨x,I,L,rfl,hs,hok,U⟩:=h;refine⟨_,cY (dP (dU iL (dR gZ rfl T.len gf (cP (gm (pv 0) rfl) cQ)) cX (dH _))
   (cY (kg (pv 0) (dZ (cP (dw GPo hr rfl DPo.m DPo.kp J (dvs:=[.non]) (.cons rfl .nil) ig (cP (gm (pv 0) rfl) cQ)) cQ)) rfl)) dO),?_⟩;obtain⟨vl,dx,bs,hx,aa,af,ab⟩:=hs.ex;have ag:=Gn.Paired.len ab;refine⟨_,rfl,x,CH,dx,_,_,rfl,hx,HC.cl,HC.nV,jh,vl,_,rfl,.inl (cS.of aa),_,_,rfl,rfl,_,rfl,?_⟩;unfold lq at U;by_cases h0:I.length=0
  ·rw[LY (show ¬ ((bs.length:Nat):Int)>0 by lia)];rw[LZ h0,<-List.length_eq_zero_iff.mp h0] at U;exact df (U H hs)
  ·rw[Mb (show((bs.length:Nat):Int)>0 by lia)];rw[LX h0] at U;refine dG ⟨_,rfl,x,CH,dx,_,_,rfl,hx,HC.cl,HC.nV,jh,?_⟩;refine⟨vl,.non,bs,I,[],rfl,aa,gI.same ab gY,λq hq=>hok.good hq,hok.f,hok.w,Mr hok.l (by decide),.inl ⟨rfl,rfl⟩,λc=>(by cases c),λ_ _ y H1 s1 hy hB ae=>?_,λ_ c=>absurd (by rw[pT];exact hok.n) c⟩;rw[pT] at ae;refine⟨(by show 1<=sizeLine;decide),λl hl=>?_⟩;exact⟨_,rfl,x,CH,dx,_,rfl,da hl _ _ (s1 _ _ hx),HC.cl,HC.nV,vS,U _ (Hs.new (L':=L) HC.ne (hs.s.trans s1) hs.lx (s1 _ _ hx) hl (λa h m hm=>h m hm) (.cons ⟨y,rfl,ae _ λb u e n=>iH e λm hm z=>n m hm (hs.s _ _ z)⟩ .nil))⟩
theorem Ki:(["one"]:LR Str).Nodup:=dkq
noncomputable def Ey(CH:LS)(C:LS):TE:=λσ H Q=>∃(x U dx:LS) (bs:LR V) (I:LR (LR (Str×Str))),σ[0]? =some (some (.ref x))/\H x=some (.ins CH dx (gj U))/\H U=some (.lst bs)/\gI C H bs I/\I.length<=1000/\
 ∀ l J,H l=none->(∀ G:V->LR (Str×Str)->Prop,MY G bs I->MY G J (iU I))->Q (.ref l) (upd H l (.lst J))
noncomputable def w6(K:Mm)(C CH CNo:LS):Sp:=λvs H Q E=>∃(x:LS) (J:V) (I:LR (LR (Str×Str))) (L:Hp),vs=[.ref x,J]/\Hs C CH L H x I/\d6 I/\Known K H J/\fT J/\(fK I J=false->∀ H',cR H H'->E (.ref CNo) none H')/\∀ k t H',J= .str k->(k,t)∈I.flatten->Hs C CH L H' x (j5 k I)->Q (.str t) H'
theorem qT:dC ["self","key","place","book","number"] ["self","key"] (c9 k9):=⟨rfl,rfl,rfl,dkq,rfl,dkq,dkq⟩
theorem x9{α β:Type}{F G:α->β->Prop}:∀{l:LR α} {m:LR β} {i:Nat} {a:α} {b:β},MY F l m->(∀ x y,F x y->G x y)->G a b->MY G (l.set i a) (m.set i b)
 |_,_,_,_,_,.nil,_,_=> .nil
 |_,_,0,_,_,.cons h t,k,g=> .cons g (Gn.Paired.imp2 t λx y q=>k x y q)
 |_,_,i+1,_,_,.cons h t,k,g=> .cons (k _ _ h) (x9 t k g)
theorem good_int{n:Nat}{j:Nat}(h:j<n):gW (.int (j:Int)) 0 (some ((n:Int)-1))=true:=by
 show(decide ((0:Int)<=j)&&decide ((j:Int)<=(n:Int)-1))=true;rw[Mb (by lia),Mb (by lia)];rfl
seal dj PS PE PT PA PG PI dE dD in
theorem J8{f fp fn fPo fm ft:LS}{fd fdp fdn fdPo fdm fdt:Mj}(F:dv K "take" "House.take" k9 f fd)(HC:gT K mg C CH)(B:gB K mg C)
  (FP:dv K "place_of" "House.place_of" jP fp fdp)(mP:Meth K CH "place_of" fp)(GP:cV P w K mg base (dz P w) 3 fp fdp ["self","key"] (rE K C CH CNo))
  (FN:dv K "number_of" "Book.number_of" ku fn fdn)(mN:Meth K C "number_of" fn)(GN:cV P w K mg base (dz P w) 3 fn fdn ["self","key"] (wI K C CNo))
  (DPo:gS K mg "poured" lU fPo fdPo #[.none])(GPo:cV P w K mg base (dz P w) 10 fPo fdPo ["books","gone"] (ql K C CN CW))
  (FM:dv K "many" "Book.many" i9 fm fdm)(mM:Meth K C "many" fm)(GM:cV P w K mg base dc 1 fm fdm ["self"] (mJ C))
  (FT:dv K "text_of" "Book.text_of" jX ft fdt)(mT:Meth K C "text_of" ft)(GT:cV P w K mg base (dz P w) 4 ft fdt ["self","number"] (nM K C CN (·.2))):cV P w K mg base (dz P w) 11 f fd ["self","key"] (w6 K C CH CNo):=by
 have bP:=FP.binds (ps:=["self","key"]) λ_ _ _ _ _ _ us hl=>eO (λ_ _=>rfl) us hl
 have bN:=FN.binds (ps:=["self","key"]) λ_ _ _ _ _ _ us hl=>eO (λ_ _=>rfl) us hl
 have bM:=FM.binds (ps:=["self"]) λ_ _ _ _ _ _ us hl=>gD (λ_=>rfl) us hl
 have bT:=FT.binds (ps:=["self","number"]) λ_ _ _ _ _ _ us hl=>eO (λ_ _=>rfl) us hl
 have av:=DPo.binds (ps:=["books","gone"]) (ds:=[]) λT kV doc pm an cdv ct us hl=>eO (λ_ _=>⟨_,rfl,rfl⟩) us (show us.length=2 by simpa using hl)
 refine F.ok1 qT (λvs H Q E h=>?_) (λcdv A outer s H vs Q E hr h=>?_)
 ·obtain⟨x,k,I,L,rfl,_⟩:=h;rfl
 ·obtain⟨x,kv,I,L,rfl,hs,hok,aJ,aw,eN,kk⟩:=h;refine⟨_,cU (di (i:=2) qT.nd rfl (Mh rfl) (gU (pv 0) HC.cl mP (GP.mono (by decide)) hr bP .nil (gP (E':=E) (λ_ _ _ h=>h)) (cP (pv 1) cQ)))
   (cU (di (i:=3) qT.nd rfl (Mh rfl) (eB eY (gm (pv 0) rfl) (pv 2) (λ_ _=>rfl)))
   (cU (di (i:=4) qT.nd rfl (Mh rfl) (gU (pv 3) B.cl mN (GN.mono (by decide)) hr bN .nil ig (cP (pv 1) cQ)))
   (cU (Az (dw GPo hr rfl DPo.m DPo.kp av .nil ig (cP (dZ (cP (pv 3) cQ)) (cP (dZ (cP (ip (cP cX (cP (pv 4) cQ))) cQ)) cQ))) (ID (gm (pv 0) rfl) (pv 2) set_list))
   (cU (kg (pv 0) (PE.imp (t':=Ey CH C) (fP (own:=1) (caps:=[]) (N:=["one"]) (N0:=["self","key","place","book","number"]) (sc0:=c9 k9) rfl (eZ (gm (pv 0) rfl))
    (λ_ _ _=>dB (i:=0) Ki rfl (Mh rfl)) (λ_ _ _=>Bv (dU iL (g0 (pv 0) B.cl mM (GM.mono (by decide)) hr bM .nil du) cX (dH _))) (λ_ _ _=>pv 0) (eM (by decide)) rfl rfl
    dkq rfl dkq dkq rfl dkq) ?mK) rfl)
   (cY (dg (gU (pv 3) B.cl mT (GT.mono (by decide)) hr bT .nil ig (cP (pv 4) cQ)))))))),?_⟩
  case mK=>
   rintro σ H1 Q1 ⟨x,J,dx,bs,I,h0,hx,U,aa,hlen,q⟩;have hz:(sizeLine:Nat)=16777216:=Mt;have ax:=Gn.Paired.len aa;refine⟨_,h0,x,CH,dx,_,_,rfl,hx,HC.cl,HC.nV,jh,J,rfl,⟨_,cS.of U⟩,gC (xs:=bs) (λi ys H'=>H'=H1/\∀ G:V->LR (Str×Str)->Prop,MY G bs I->MY G ys (iU (I.take i))) (by lia) (λi ys H' p=>by rw[p.1];exact cS.of U) ⟨rfl,λG _=> .nil⟩ ?_ ?_⟩
   ·rintro i v ys H' N hv ⟨rfl,hG⟩ hN;obtain⟨ps,ay,b,rfl,hB⟩:=fX aa hv;obtain⟨ak,fs,hb,ao⟩:=hB.at;refine⟨_,rfl,b,ak,_,rfl,hb,ao _ mn,b,ps,rfl,hB,_,_,rfl,rfl,_,rfl,?_⟩;have en:iU (I.take (i+1))=iU (I.take i)++iU [ps]:=by rw[take_snoc ay];unfold iU;rw[QS]
    cases ps with
    |nil=>
     refine df (hN _ _ ⟨rfl,λG hp=>?_⟩);rw[en];show MY G ys (iU (I.take i)++[]);rw[MR];exact hG G hp
    |cons p ps=>
     rw[Mb (show(((p::ps).length:Nat):Int)>0 by rw[Ms];lia)];refine dG ⟨_,rfl,hN _ _ ⟨rfl,λG hp=>?_⟩⟩;rw[en];obtain⟨qs,h1,h2⟩:=fX hp hv;rw[ay] at h1;cases h1;exact Gn.Paired.app (hG G hp) h2
   ·rintro ys H' ⟨rfl,hG⟩ _ l hl;rw[ax,MG] at hG;exact q l ys hl hG
  obtain⟨J,dx,bs,hx,U,aK,aa⟩:=hs.ex;have aV:gI C H bs I:=gI.same aa gY;have aW:=Gn.Paired.len aa;refine⟨_,rfl,x,dx,_,rfl,hx,gQ,_,rfl,x,kv,I,rfl,hs.r,aJ,aw,λk i ps H1 ek az hi hm s1=>?_,eN⟩;subst ek;obtain⟨v,hv,b,rfl,hB⟩:=Gn.Paired.at aa hi;refine⟨_,rfl,x,CH,dx,_,_,rfl,s1 _ _ hx,HC.cl,HC.nV,jh,_,rfl,J,_,_,_,rfl,rfl,cS.of (s1 _ _ U),dS hv,?_⟩;have ab:=hok.good (List.mem_of_getElem? hi);have aq:fC C H1 b ps:=hB.same (gY.trans s1);obtain⟨ak,fs,aL,ao⟩:=aq.at;refine⟨_,rfl,b,ak,_,rfl,aL,ao _ mn,_,rfl,b,ps,.str k,rfl,aq,⟨_,.str _⟩,mr az (by decide),λp hp=>(ab.g p hp).1,ab.n,λj z H2 e hj s2=>?_,λc=>absurd hm (c k rfl)⟩;injection e with e;subst e;have aA:j<ps.length:=by have:=(List.getElem?_eq_some_iff.mp hj).1;rwa [LV] at this
  have aM:=s1.trans s2;refine⟨_,rfl,(by show 1<=sizeLine;decide),λbl aB=>?_⟩;have s3:cR H2 (upd H2 bl (.lst [.ref b])):=da aB;have e3:upd H2 bl (.lst [.ref b]) bl=some (.lst [.ref b]):=cT;generalize upd H2 bl (.lst [.ref b])=H3 at s3 e3 ⊢;refine⟨_,rfl,(by show 2<=sizeLine;decide),λtt aN=>?_⟩;have s4:cR H3 (upd H3 tt (.tup [.int 0,.int (j:Int)])):=da aN;have e4:upd H3 tt (.tup [.int 0,.int (j:Int)]) tt=some (.tup [.int 0,.int (j:Int)]):=cT;generalize upd H3 tt (.tup [.int 0,.int (j:Int)])=H4 at s4 e4 ⊢;refine⟨(by show 1<=sizeLine;decide),λgl aO=>?_⟩;have s5:cR H4 (upd H4 gl (.lst [.ref tt])):=da aO;have e5:upd H4 gl (.lst [.ref tt]) gl=some (.lst [.ref tt]):=cT;generalize upd H4 gl (.lst [.ref tt])=H5 at s5 e5 ⊢;have aC:=(s3.trans s4).trans s5;have ar:=aM.trans aC;have ah:[ps].flatten.Sublist I.flatten:=by rw[NS,List.flatten_nil,MR];exact jN (List.mem_of_getElem? hi)
  have aD:[some (V.int 0,V.int (j:Int))].all (j3 ([ps].map MQ))=true:=by
   show((gW (.int ((0:Nat):Int)) 0 (some (((1:Nat):Int)-1))&&gW (.int (j:Int)) 0 (some (((ps.length:Nat):Int)-1)))&&true)=true;rw[good_int (show 0<1 by decide),good_int aA];rfl
  refine⟨bl,.ref gl,[.ref b],[ps],[some (.int 0,.int (j:Int))],rfl,(s4.trans s5) _ _ e3,.cons ⟨b,rfl,aq.same (s2.trans aC)⟩ .nil,λq hq=>(by rw[List.mem_singleton.mp hq];exact ab),hok.f.sub ah,hok.w.sub ah,(by show 1<=100;decide),
   .inr ⟨gl,[.ref tt],rfl,e5,.cons (.two (s5 _ _ e4) ⟨_,.int _⟩ ⟨_,.int _⟩) .nil,(by show 1<=1000;decide)⟩,λc=>(by rw[aD] at c;cases c),λ_ _ y H6 s6 hy aX aE=>?_,λ_ c=>absurd ?_ c⟩
  case refine_2=>
   rw[Bq ab.n hj];exact((QA (l:=ps)).map _).nodup ab.n
  rw[Bq ab.n hj] at aE;have ae:=ar.trans s6;have aP:i<bs.length:=by have:=(List.getElem?_eq_some_iff.mp hv).1;exact this
  refine⟨_,rfl,x,CH,dx,_,_,rfl,ae _ _ hx,HC.cl,HC.nV,jh,_,rfl,J,bs,_,i,rfl,rfl,ae _ _ U,Ls aP,?_⟩;have af:∀ a o,H6 a=some o->a≠J->upd H6 J (.lst (bs.set i (.ref y))) a=some o:=λa o e n=>(cW n).trans e
  have ai:upd H6 J (.lst (bs.set i (.ref y))) J=some (.lst (bs.set i (.ref y))):=cT;generalize upd H6 J (.lst (bs.set i (.ref y)))=H7 at af ai ⊢;have aQ:x≠J:=λz=>by rw[z,U] at hx;cases hx
  have ag:H7 x=some (.ins CH dx (gj J)):=af _ _ (ae _ _ hx) aQ
  have aF:cR (NL (upd L J (.lst bs)) H) (NL (upd L J (.lst bs)) H7):=λa o e=>by
   have n:a≠J:=λz=>by subst z;exact gO e (.lst bs) trivial cT
   exact iH (af _ _ (ae _ _ (gY _ _ e)) n) (gO e)
  have aG:gI C (NL (upd L J (.lst bs)) H7) (bs.set i (.ref y)) (I.map (wo k)):=by
   rw[Be hok.n hi hm];refine x9 aa (λv q ⟨c,e,z⟩=>⟨c,e,z.same aF⟩) ⟨y,rfl,aE _ λa u e n=>?_⟩;have na:a≠J:=λz=>by subst z;exact n (.lst bs) trivial (ar _ _ U)
   exact iH (af _ _ e na) λm hm z=>n m hm (ar _ _ (hs.s _ _ ((cW na).symm.trans z)))
  refine⟨x,J,dx,_,I.map (wo k),rfl,ag,ai,gI.same aG gY,(by rw[LV];exact Mr hok.l (by decide)),λl aH hl hG=>?_⟩;have aR:cR L H7:=λa o e=>af _ _ (ae _ _ (hs.s _ _ e)) λz=>by rw[z,aK] at e;cases e
  have aj:=Hs.new (L:=L) HC.ne aR hs.lx ag hl (λa h m hm=>xX h m hm) (hG _ aG);refine⟨_,rfl,x,CH,dx,_,rfl,da hl _ _ ag,HC.cl,HC.nV,vS,?_⟩;have ax:l≠x:=λz=>by rw[z,ag] at hl;cases hl
  have au:fC C (upd (upd H7 l (.lst aH)) x (.ins CH dx (dM "volumes" (.ref l) (gj J)))) b ps:=(fC.same hB aF).ch HC.ne λa o e n=>by
   have e':=gY _ _ e
   have nx:a≠x:=λz=>by subst z;rw[ag] at e';exact n _ _ (Ml e').symm
   exact(cW nx).trans ((cW (dF e' hl)).trans e')
  generalize upd (upd H7 l (.lst aH)) x (.ins CH dx (dM "volumes" (.ref l) (gj J)))=H8 at aj au ⊢;obtain⟨aS,aY,aT,aI⟩:=au.at;refine⟨_,rfl,b,aS,_,rfl,aT,aI _ mn,_,rfl,b,ps,.int (j:Int),rfl,au,⟨_,.int _⟩,λj' p e hp=>?_,λe=>by rw[good_int aA] at e;cases e⟩;have ej:j=j':=by have:=V.int.inj e;lia
  subst ej;have aU:p.1=k:=by
   rw[List.getElem?_map,hp] at hj;exact Ml hj
  exact kk k p.2 H8 rfl (by rw[<-aU];exact List.mem_flatten.mpr ⟨ps,List.mem_of_getElem? hi,List.mem_of_getElem? hp⟩) aj
end
end K25
namespace L2
open PySem PySem.Spec PyProof.Rows
section
variable {X : Cx}
end
end L2
namespace ST
open PySem PySem.W PyProof.Rows
section
variable {α β : Type} (N : Nat) (key : Nat -> Nat)
noncomputable def fy:KasT α->(α->Prop)->Prop
 |.ret a,Q=>Q a
 |.ask i j k,Q=>i<N/\j<N/\fy (k (decide (key i<key j))) Q
variable {N key}
theorem fy.bind {f:α->KasT β}{Q:β->Prop}:∀(t:KasT α),fy N key t (λa=>fy N key (f a) Q)->fy N key (t.bind f) Q
 |.ret a,h=>h
 |.ask i j k,h=>⟨h.1,h.2.1,fy.bind (k _) h.2.2⟩
theorem fy.wp {cmp:Nat->Nat->(Nw->Me->Prop)->Me->Prop}{s:Me}{R:α->Me->Prop}(hc:∀ i j (C:Nw->Me->Prop),i<N->j<N->C (decide (key i<key j)) s->cmp i j C s){Q:α->Prop}(hq:∀ a,Q a->R a s):
  ∀(t:KasT α),fy N key t Q->t.kasWp cmp R s
 |.ret a,h=>hq a h
 |.ask i j k,h=>hc i j _ h.1 h.2.1 (fy.wp hc hq (k _) h.2.2)
theorem yes{T₁ T₂:KasT α}{Q:α->Prop}(h:fy N key T₁ Q):fy N key (if true=true then T₁ else T₂) Q:=by rw[LZ rfl];exact h
theorem pd{T₁ T₂:KasT α}{Q:α->Prop}(h:fy N key T₂ Q):fy N key (if false=true then T₁ else T₂) Q:=by rw[LX (by decide)];exact h
noncomputable abbrev g(p:Nd Nat)(i:Nat):Nat:=p.getD i 0
variable (key) in
noncomputable abbrev K(p:Nd Nat)(i:Nat):Nat:=key (g p i)
variable (N) in
structure Pm (p : Nd Nat) : Prop where
 n : p.size = N
 p : p.toList.Perm (NQ N)
 z : 0<N
theorem Pm.lt {p:Nd Nat}(h:Pm N p)(i:Nat):g p i<N:=by
 unfold g;by_cases hi:i<p.size
 ·have e:p.getD i 0=p[i]:=by simp[Array.getD,hi]
  rw[e];have:p[i]∈p.toList:=Array.getElem_mem_toList hi;exact List.mem_range.mp (h.p.mem_iff.mp this)
 ·have e:p.getD i 0=0:=by simp[Array.getD,hi]
  rw[e];exact h.z
theorem pb{p q:Nd Nat}{i j:Nat}(h:p[i]? =q[j]?):g p i=g q j:=by
 unfold g;rw[Array.getD_eq_getD_getElem?,Array.getD_eq_getD_getElem?,h]
theorem vb{p:Nd Nat}{i j:Nat}(hj:j<=p.size)(x:Nat):g (kas_rev p i j) x=if i<=x/\x<j then g p (i+j-1-x) else g p x:=by
 have e:=getElem?_mirror_all (i:=i) hj x;by_cases h:i<=x/\x<j
 ·rw[LZ h] at e ⊢;exact pb e
 ·rw[LX h] at e ⊢;exact pb e
theorem Pm.rev {p:Nd Nat}(h:Pm N p)(i j:Nat):Pm N (kas_rev p i j):=
 ⟨by unfold kas_rev;rw[mirror_size];exact h.n,(mirror_perm p i j _).toList.trans h.p,h.z⟩
theorem Pm.bub {p:Nd Nat}(h:Pm N p)(k d:Nat):Pm N (bubble p k d):=
 ⟨by rw[bubble_size];exact h.n,(bubble_perm p k d).toList.trans h.p,h.z⟩
variable (key) in
noncomputable def jd(p:Nd Nat)(n:Nat):Prop:=∀ i j,i<=j->j<n->K key p i<=K key p j
variable (key) in
noncomputable def yY(p:Nd Nat)(n:Nat):Prop:=∀ i j,i<=j->j<n->K key p j<=K key p i
theorem tG{p:Nd Nat}(hp:Pm N p){Q:Nat->Prop}:∀ f n,1<=n->jd key p n->(∀ m,n<=m->m<=n+f->jd key p m->(m<n+f->K key p m<K key p (m-1))->Q m)->fy N key (kas_asc p f n) Q
 |0,n,h1,hs,k=>k n (Ma _) (Ma _) hs λh=>absurd h (by(clear h h1;lia))
 |f+1,n,h1,hs,k=>by
  refine⟨hp.lt _,hp.lt _,?_⟩;by_cases J:K key p n<K key p (n-1)
  ·rw[Mb J];refine yes ?_;exact k n (Ma _) (by(clear J h1;lia)) hs λ_=>J
  ·rw[LY J];refine pd ?_;refine tG hp f (n+1) (by(clear J h1;lia)) (λi j I U=>?_) λm m1 m2 ms ml=>k m (by lia) (by lia) ms λh=>ml (by lia)
   rcases Ol j n with z|z
   ·exact hs i j I z
   ·have e:j=n:=by(clear I J h1;lia)
    subst e;rcases Ol i j with y|y
    ·have:=hs i (j-1) (by(clear z U J h1 I;lia)) (by lia)
     (clear y z U h1 I;lia)
    ·have e:i=j:=by(clear z U J h1;lia)
     rw[e];exact Ma _
theorem vE{p:Nd Nat}{i j:Nat}(hj:j<=p.size)(he:∀ x,i<=x->x<j->K key p x=K key p (j-1))(x:Nat):K key (kas_rev p i j) x=K key p x:=by
 unfold K;rw[vb hj];by_cases h:i<=x/\x<j
 ·rw[LZ h];have h1:=he (i+j-1-x) (by(clear hj;lia)) (by lia);have h2:=he x h.1 h.2;exact h1.trans h2.symm
 ·rw[LX h]
structure Bp (N : Nat) (key : Nat -> Nat) (p : Nd Nat) (n q : Nat) : Prop where
 m : Pm N p
 l : q+1<=n
 u : n<=N
 d : yY key p n
 e : ∀ i, n-(q+1)<=i -> i<n -> K key p i = K key p (n-1)
theorem sP{Q:Nd Nat×Nat×Nat->Prop}:∀ f p n q,Bp N key p n q->n+f<=N->(∀ p' n' q',Bp N key p' n' q'->n<=n'->Q (p',n',q'))->fy N key (kas_desc f p n q) Q
 |0,p,n,q,h,_,k=>k p n q h (Ma _)
 |f+1,p,n,q,h,hf,k=>by
  have J:n<=p.size:=by rw[h.m.n];exact h.u
  have hl:=h.l;refine⟨h.m.lt _,h.m.lt _,?_⟩;by_cases U:K key p n<K key p (n-1)
  ·rw[Mb U];refine yes ?_;by_cases hq:q>0
   ·rw[LZ hq];have es:=vE (key:=key) (p:=p) (i:=n-(q+1)) (j:=n) J h.e;refine sP f _ (n+1) 0 ⟨h.m.rev _ _,by(clear hq U hl J hf;lia),by lia,λi j I hj=>?_,λi h1 h2=>?_⟩ (by lia) λp' n' q' h' hn=>k p' n' q' h' (by lia)
    ·rw[es,es];rcases Ol j n with z|z
     ·exact h.d i j I z
     ·have e:j=n:=by(clear I hq U hl J hf;lia)
      subst e;rcases Ol i j with y|y
      ·have:=h.d i (j-1) (by(clear z hj U hl J hf I hq;lia)) (by lia)
       (clear y z hj hl J hf I hq;lia)
      ·have e:i=j:=by(clear z hj U hl J hf hq;lia)
       rw[e];exact Ma _
    ·have e:i=n+1-1:=by(clear hq U hl J hf;lia)
     rw[e]
   ·rw[LX hq];refine sP f p (n+1) 0 ⟨h.m,by(clear hq U hl J hf;lia),by lia,λi j I hj=>?_,λi h1 h2=>?_⟩ (by lia) λp' n' q' h' hn=>k p' n' q' h' (by lia)
    ·rcases Ol j n with z|z
     ·exact h.d i j I z
     ·have e:j=n:=by(clear I hq U hl J hf;lia)
      subst e;rcases Ol i j with y|y
      ·have:=h.d i (j-1) (by(clear z hj U hl J hf I hq;lia)) (by lia)
       (clear y z hj hl J hf I hq;lia)
      ·have e:i=j:=by(clear z hj U hl J hf hq;lia)
       rw[e];exact Ma _
    ·have e:i=n+1-1:=by(clear hq U hl J hf;lia)
     rw[e]
  ·rw[LY U];refine pd ?_;refine⟨h.m.lt _,h.m.lt _,?_⟩;by_cases hd:K key p (n-1)<K key p n
   ·rw[Mb hd];refine yes ?_;exact k p n q h (Ma _)
   ·rw[LY hd];refine pd ?_;refine sP f p (n+1) (q+1) ⟨h.m,by(clear hd U J hf;lia),by lia,λi j I hj=>?_,λi h1 h2=>?_⟩ (by lia) λp' n' q' h' hn=>k p' n' q' h' (by lia)
    ·rcases Ol j n with z|z
     ·exact h.d i j I z
     ·have e:j=n:=by(clear I hd U hl J hf;lia)
      subst e;rcases Ol i j with y|y
      ·have:=h.d i (j-1) (by(clear z hj hd U hl J hf I;lia)) (by lia)
       (clear y z hj U hl J hf I;lia)
      ·have e:i=j:=by(clear z hj hd U hl J hf;lia)
       rw[e];exact Ma _
    ·show K key p i=K key p n;rcases Ol i n with z|z
     ·have:=h.e i (by(clear z h2 hd U hl J hf;lia)) z
      (clear z h2 h1 hl J hf;lia)
     ·have e:i=n:=by(clear h1 hd U hl J hf;lia)
      rw[e]
structure u7 (N : Nat) (key : Nat -> Nat) (r : Nat × Nd Nat) : Prop where
 m : Pm N r.2
 a : 1<=r.1
 u : r.1<=N
 s : jd key r.2 r.1
theorem BJ{p:Nd Nat}{n:Nat}{Q:Nat×Nd Nat->Prop}(hp:Pm N p)(h1:1<=n)(hn:n<=N)(hd:yY key p n)(k:∀ r,u7 N key r->Q r):fy N key (kas_tail3 n N p) Q:=by
 have I:n<=p.size:=by rw[hp.n];exact hn
 refine fy.bind _ (tG (hp.rev 0 n) _ _ h1 (λi j U J=>?_) λm m1 m2 ms _=>k _ ⟨hp.rev 0 n,by show 1<=m;(clear m2 I hn;lia),by show m<=N;lia,ms⟩);unfold K;rw[vb I,vb I,LZ ⟨MM _,by(clear I hn h1;lia)⟩,LZ ⟨MM _,J⟩];exact hd _ _ (by(clear J I hn h1;lia)) (by lia)
theorem BU{p:Nd Nat}{n:Nat}{Q:Nat×Nd Nat->Prop}(hp:Pm N p)(h1:1<=n)(hn:n+1<=N)(he:∀ i,i<n->K key p i=K key p (n-1))(hl:K key p n<K key p (n-1))(k:∀ r,u7 N key r->Q r):fy N key (kas_descPart n N p) Q:=by
 refine fy.bind _ (sP _ p (n+1) 0 ⟨hp,by(clear hl hn h1;lia),hn,λi j I J=>?_,λi h2 h3=>?_⟩ (by lia) λp' U q' D aa=>?_)
 ·rcases Ol j n with z|z
  ·have:=he i (by(clear J hl hn h1;lia))
   have:=he j z
   (clear z J I hl hn h1;lia)
  ·have e:j=n:=by(clear I hl hn h1;lia)
   subst e;rcases Ol i j with y|y
   ·have:=he i y
    (clear y z J hn h1 I;lia)
   ·have e:i=j:=by(clear z J hl hn h1;lia)
    rw[e];exact Ma _
 ·have e:i=n+1-1:=by(clear hl hn h1;lia)
  rw[e]
 ·have dl:=D.l
  show fy N key (if q'>0 then kas_tail3 U N (kas_rev p' (U-(q'+1)) U) else kas_tail3 U N p') Q;by_cases hq:q'>0
  ·rw[LZ hq];have es:=vE (key:=key) (p:=p') (i:=U-(q'+1)) (j:=U) (by rw[D.m.n];exact D.u) D.e;exact BJ (D.m.rev _ _) (by(clear hq aa hl hn h1;lia)) D.u (λi j I J=>by rw[es,es];exact D.d i j I J) k
  ·rw[LX hq];exact BJ D.m (by(clear hq aa hl hn h1;lia)) D.u D.d k
theorem CO{p:Nd Nat}{Q:Nat×Nd Nat->Prop}(hp:Pm N p)(k:∀ r,u7 N key r->Q r):fy N key (kas_count N p) Q:=by
 have I:=hp.z;refine fy.bind _ (tG hp _ 1 (Ma _) (λi j U hj=>?_) λm m1 m2 ms ml=>?_)
 ·have e:i=j:=by(clear I;lia)
  rw[e];exact Ma _
 by_cases he:m=N
 ·subst he;rw[LZ (by simp)];exact k _ ⟨hp,m1,Ma _,ms⟩
 ·rw[LX (by simpa using he)];have hl:=ml (by(clear m1;lia));by_cases h1:m>1
  ·rw[LZ h1];refine⟨hp.lt _,hp.lt _,?_⟩;by_cases J:K key p 0<K key p (m-1)
   ·rw[Mb J];refine yes ?_;exact k _ ⟨hp,m1,by show m<=N;(clear J hl he m1 I;lia),ms⟩
   ·rw[LY J];refine pd ?_;have eq:∀ i,0<=i->i<m->K key p i=K key p (m-1):=λi _ hi=>by
     have a:=ms 0 i (MM _) hi
     have b:=ms i (m-1) (by(clear a J h1 hl he m2 m1 I;lia)) (by lia)
     (clear hi h1 hl he m2 m1 I;lia)
    have es:=vE (key:=key) (p:=p) (i:=0) (j:=m) (by rw[hp.n];(clear J hl he m1 I;lia)) eq;exact BU (hp.rev 0 m) m1 (by(clear J hl m1 I;lia)) (λi hi=>by rw[es,es];exact eq i (MM _) hi) (by rw[es,es];exact hl) k
  ·rw[LX h1];have e:m=1:=by(clear hl he m2 I;lia)
   subst e;exact BU hp (by lia) (by lia) (λi hi=>by rw[show i=0 by lia]) hl k
theorem wL{p:Nd Nat}{k:Nat}(hp:Pm N p)(hs:jd key p k){Q:Nat->Prop}:∀ f l r,l<=r->r<=k->r-l<=f->(∀ i,i<l->K key p i<=K key p k)->(∀ i,r<=i->i<k->K key p k<K key p i)->
  (∀ l',l'<=k->(∀ i,i<l'->K key p i<=K key p k)->(∀ i,l'<=i->i<k->K key p k<K key p i)->Q l')->fy N key (kas_place p k f l r) Q
 |0,l,r,h1,h2,J,ha,hb,q=>q l (by(clear J;lia)) ha λi hi hk=>hb i (by lia) hk
 |f+1,l,r,h1,h2,J,ha,hb,q=>by
  show fy N key (if l ≥ r then .ret l else .ask (p.getD k 0) (p.getD ((l+r)/2) 0) λc=>if c=true then kas_place p k f l ((l+r)/2) else kas_place p k f ((l+r)/2+1) r) Q;by_cases I:l ≥ r
  ·rw[LZ I];exact q l (by(clear I J;lia)) ha λi hi hk=>hb i (by lia) hk
  ·rw[LX I];refine⟨hp.lt _,hp.lt _,?_⟩;by_cases U:K key p k<K key p ((l+r)/2)
   ·rw[Mb U];refine yes ?_;refine wL hp hs f l ((l+r)/2) (by(clear U J h2 h1;lia)) (by lia) (by lia) ha (λi hi hk=>?_) q;have:=hs ((l+r)/2) i hi hk
    (clear hk hi I J h2 h1;lia)
   ·rw[LY U];refine pd ?_;refine wL hp hs f ((l+r)/2+1) r (by(clear U J h2 h1;lia)) h2 (by lia) (λi hi=>?_) hb q;have:=hs i ((l+r)/2) (by(clear U I J h2 h1;lia)) (by lia)
    (clear hi I J h2 h1;lia)
theorem yi{Q:Nd Nat->Prop}:∀ f p k,Pm N p->jd key p k->k+f=N->(∀ p',Pm N p'->jd key p' N->Q p')->fy N key (kas_bin f p k) Q
 |0,p,k,hp,hs,hk,q=>q p hp (by rw[show N=k by lia];exact hs)
 |f+1,p,k,hp,hs,hk,q=>by
  refine fy.bind _ (wL hp hs k 0 k (MM _) (Ma _) (by(clear hk;lia)) (λi hi=>absurd hi (by lia)) (λi h1 h2=>absurd h1 (by lia)) λl hl ha hb=>?_);refine yi f _ (k+1) (hp.bub _ _) ?_ (by(clear hl;lia)) q;have I:k<p.size:=by rw[hp.n];(clear hl;lia)
  have gb:∀ x,K key (bubble p k (k-l)) x=if x=l then K key p k else if l<x/\x<=k then K key p (x-1) else K key p x:=λx=>by
   have e:=getElem?_bubble I (k-l) (by(clear I hl hk;lia)) x
   have el:k-(k-l)=l:=by(clear e I hk;lia)
   rw[el] at e;unfold K;by_cases h1:x=l
   ·rw[LZ h1] at e ⊢;exact Nl key (pb e)
   ·rw[LX h1] at e ⊢;by_cases h2:l<x/\x<=k
    ·rw[LZ h2] at e ⊢;exact Nl key (pb e)
    ·rw[LX h2] at e ⊢;exact Nl key (pb e)
  intro i j J U;rw[gb,gb];by_cases i1:i=l
  ·rw[LZ i1];by_cases j1:j=l
   ·rw[LZ j1];exact Ma _
   ·rw[LX j1,LZ ⟨by(clear U I hl hk;lia),by lia⟩];have:=hb (j-1) (by(clear U I hl hk;lia)) (by lia)
    (clear j1 i1 U J I hl hk;lia)
  ·rw[LX i1];by_cases i2:l<i/\i<=k
   ·rw[LZ i2,LX (by(clear i1 U I hl hk;lia)),LZ ⟨by lia,by lia⟩];exact hs _ _ (by(clear i2 i1 U I hl hk;lia)) (by lia)
   ·rw[LX i2];by_cases j1:j=l
    ·rw[LZ j1];exact ha i (by(clear i2 U I hl hk;lia))
    ·rw[LX j1];by_cases j2:l<j/\j<=k
     ·rw[LZ j2];exact hs _ _ (by(clear j1 i1 U I hl hk;lia)) (by lia)
     ·rw[LX j2];exact hs _ _ J (by(clear i2 i1 J I hk;lia))
theorem E4{n:Nat}(h0:0<n){Q:Nd Nat->Prop}(q:∀ p,Pm n p->jd key p n->Q p):fy n key (kas_sort n) Q:=by
 have U:Pm n (List.toArray (NQ n)):=⟨by simp,by simp,h0⟩;refine fy.bind _ (CO U λr C=>?_);have ca:=C.a;have J:=C.u;by_cases I:r.1<n
 ·rw[LZ I];have e:max r.1 1=r.1:=by(clear I J h0;lia)
  rw[e];exact yi _ _ _ C.m C.s (by(clear e J ca h0;lia)) q
 ·rw[LX I];have e:r.1=n:=by(clear ca h0;lia)
  have cs:=C.s;rw[e] at cs;exact q _ C.m cs
end
end ST
namespace L2
open PySem PySem.Spec PyProof.Rows PySem.W
section
variable {prog : Mq} {w : MT} {A : Np} {E : LW -> Me -> Prop} {s : Me}
noncomputable def Kept(s s':Me)(a:LS):Prop:=∀ b o,b≠a->s.heap.get? b=some o->s'.heap.get? b=some o
theorem Kg{a:LS}{vs:LR LW}{n:Nat}{R:PySem.Fin->Me->Prop}{key:Nat->Nat}(ho:s.heap.get? a=some (O4 "list" vs.toArray n))(h64:vs.length<64)
  (hq:∀ s':Me,Kept s s' a->(∀(Q:SortKind->Me->Prop),0<vs.length->Q (tuples' true) s'->MD (My prog w) A (keyKind' vs.toArray) Q (λ_ _=>Om) s')/\
   ∀ i j (C:Nw->Me->Prop),i<vs.length->j<vs.length->C (decide (key i<key j)) s'->kas_ask prog w A (tuples' true) vs i j C s')
  (hR:∀ p:Nd Nat,p.toList.Perm (NQ vs.length)->ST.jd key p vs.length->R (.done (.ret .none)) {s with heap:=sortedHeap s.heap a vs (p.toList.map λi=>vs.getD i Oo).toArray}):
  MD (My prog w) A (Rr.«list.sort» ⟨[.ref a],[]⟩) R E s:=by
 have line:(sizeLine:Nat)=16777216:=Mt
 have alt:=Mv ho;obtain⟨ep,o1⟩:∃ ep,(s.heap.update a (Og λ_=>(#[]:Nd LW))).get? a=some (O4 "list" #[] ep):=⟨_,get?_update_seq ho λ_=>#[]⟩;have o2:(((s.heap.update a (Og λ_=>(#[]:Nd LW))).push (O4 "tuple" vs.toArray 0)).push (O4 "list" #[] 0)).get? a=some (O4 "list" #[] ep):=Heap.get?_push_of_some _ (Heap.get?_push_of_some _ o1);have kp:Kept s {s with heap:=((s.heap.update a (Og λ_=>(#[]:Nd LW))).push (O4 "tuple" vs.toArray 0)).push (O4 "list" #[] 0)} a:=λb o hb e=>
  Heap.get?_push_of_some _ (Heap.get?_push_of_some _ (by rw[Heap.get?_update_ne _ _ _ _ hb];exact e))
 rw[list_sort_plain];refine Mn (listItems_at ho rfl (Mn (listUpdate_at ho rfl ?_ (by rw[Mu];(clear alt;lia)) (MM _))));refine Mn (seqEpoch_at o1 rfl (Mn (wpAny_newTuple ?_ (by show vs.length<=_;(clear alt;lia)))));refine Mn (wpAny_newList (OA ?_) (MM _));generalize U:({s with heap:=((s.heap.update a (Og λ_=>(#[]:Nd LW))).push (O4 "tuple" vs.toArray 0)).push (O4 "list" #[] 0)}:Me)=s' at kp;have fin:∀(st:SortSt) (p:Nd Nat),p.toList.Perm (NQ vs.length)->ST.jd key p vs.length->(arrOf st).map (·.2)=(p.toList.map λi=>vs.getD i Oo).toArray->failedOf st=none->
   MD (My prog w) A (do
    let touched:=(<-seqEpoch a) != ep
    Builtin.List.listUpdate (.ref a) λ_=>(arrOf st).map (·.2)
    if let some e:=failedOf st then rule "list.sort.comparison-raised";throw e
    if touched then rule "list.sort.modified";raiseError "ValueError" "list modified during sort"
    ret .none) R E s':=λst p h1 h2 h3 h4=>by
  subst U;refine Mn (seqEpoch_at o2 rfl (Mn (listUpdate_at o2 rfl ?_ (MM _) ?_)))
  ·rw[h4,h3];simp only[bne_self_eq_false,PF,RE];exact Nf (hR p h1 h2)
  ·have hl:=h1.length_eq;rw[Pf] at hl;rw[h3,Mu,LV]
   (clear alt;lia)
 obtain⟨hK,hC⟩:=hq s' kp;by_cases h2:vs.toArray.size<2
 ·dsimp only;rw[LZ h2,LZ h2];refine Mn (Nf ?_);rw[StateT.run_pure];refine Mn (Nf ?_);rw[Mu] at h2;have e1:(arrOf (SortSt.mk' general' (vs.toArray.zip vs.toArray) #[] 7 none)).map (·.2)=((NQ vs.length).toArray.toList.map λi=>vs.getD i Oo).toArray:=by
   show(vs.toArray.zip vs.toArray).map (·.2)=_
   match vs,h2 with
   |[],_=>simp
   |[v],_=>simp[Ry]
  have aa:ST.jd key (NQ vs.length).toArray vs.length:=by
   intro i j ab hj;have e:i=j:=by(clear alt line h64;lia)
   rw[e];exact Ma _
  exact fin _ (NQ vs.length).toArray (List.Perm.refl _) aa e1 rfl
 ·dsimp only;rw[LX h2,LX h2];rw[Mu] at h2;refine Mn (NI (hK (λκ J=>κ=tuples' true/\J=s') (by(clear alt line h64;lia)) ⟨rfl,rfl⟩) ?_ λ_ _ x=>x.elim);rintro κ J ⟨rfl,rfl⟩;refine Mn (NI (kat_run (Q:=λI s3=>∃ p:Nd Nat,arrOf I=p.map (kas_item (vs.toArray.zip vs.toArray))/\failedOf I=none/\(s3=J/\p.toList.Perm (NQ vs.length)/\ST.jd key p vs.length)) rfl (by(clear alt line h64;lia)) h64
   (λp' I s3 _ b2 b3 b4=>⟨p',b2,b3,b4⟩) (ST.fy.wp (N:=vs.length) (key:=key) (λi j C hi hj hc=>hC i j C hi hj hc) (λp hp=>⟨rfl,hp⟩) _ (ST.E4 (by(clear alt line h64;lia)) λp hp hs=>⟨hp.p,hs⟩))) ?_ λ_ _ e=>e);rintro⟨⟨⟩,I⟩ s3 ⟨p,b2,b3,rfl,b4,b5⟩;exact fin I p b4 b5 (kat_snds rfl b2) b3
end
theorem yh:∀{qs:LR LS} {us:LR LW},Vals (qs.map V.ref) us->us=qs.map ME
 |[],us,r=>by rw[Ro] at r;cases r;rfl
 |q::qs,us,r=>by
  rw[Nb] at r;cases r with
  |cons I J=>
   cases I;rw[yh J];rfl
theorem zp:∀(qs:LR LS),Vals (qs.map V.ref) (qs.map ME)
 |[]=> .nil
 |q::qs=> .cons rfl (zp qs)
section
variable {X : Cx}
theorem getD_map{α β:Type}(f:α->β)(l:LR α)(i:Nat)(d:β)(d':α)(h:i<l.length):(l.map f).getD i d=f (l.getD i d'):=by simp[h]
theorem Lq{α:Type}{l:LR α}{p:LR Nat}(d:α)(h:p.Perm (NQ l.length)):(p.map λi=>l.getD i d).Perm l:=by
 have e:(NQ l.length).map (λi=>l.getD i d)=l:=by
  refine List.ext_getElem (by simp) λi h1 h2=>?_
  simp[h2]
 have:=h.map (λi=>l.getD i d)
 rwa [e] at this
theorem vO{α β:Type}{F:α->β->Prop}{l:LR α}{m:LR β}(h:MY F l m){i:Nat}(hi:i<l.length)(d:α)(d':β):F (l.getD i d) (m.getD i d'):=by
 induction h generalizing i with
 |nil=>simp at hi
 |cons r _ I=>
  cases i with
  |zero=>exact r
  |succ i=>exact I (by simpa using hi)
theorem zi{α β:Type}{F:α->β->Prop}{f:Nat->α}{g:Nat->β}:∀(p:LR Nat),(∀ i∈p,F (f i) (g i))->MY F (p.map f) (p.map g)
 |[],_=> .nil
 |i::p,h=> .cons (h i Mi) (zi p λj I=>h j (Mg _ I))
end
open PySem PySem.Spec PyProof.Rows
section
variable {X : Cx}
theorem Iw:ju X "str.isalnum" (λx xs H Q=>∃ z,x= .str z/\xs=[]/\Q (.bl (Txt.isalnum z)) H):=by
 intro pins s σ H x xs v us Q I J rs h;obtain⟨z,rfl,rfl,q⟩:=h;obtain⟨t,rfl⟩:=J;cases rs;exact SC.isalnum ⟨.bl _,H,I,rfl,q⟩
theorem zW:gy X (.builtin "sorted") (λxs H Q=>∃(p:LS) (ss:LR Str),xs=[.ref p]/\cS X.K H p (ss.map V.str)/\ss.length<64/\∀(l:LS) (ts:LR Str),H l=none->ts.Perm ss->Q6 ts=true->Q (.ref l) (upd H l (.lst (ts.map V.str)))):=by
 intro pins s σ H xs us Q I r h;obtain⟨p,ss,rfl,hq,ab,q⟩:=h;obtain⟨u,rfl,rx⟩:=vals1 r;cases rx;obtain⟨J,r',pl,hz⟩:=I.list hq;have hlen:=r'.length;rw[LV] at hlen;refine sorted_strs pl.isList (uz r') (by lia) λout ms hO hp hs=>?_
 obtain⟨e,he⟩:=sortedAll_at s.heap J out;have hl:(sizeLine:Nat)=16777216:=Mt;have U:(ms.map V.str).length<=sizeLine:=by rw[LV,hp.length_eq];lia
 have aa:(sortedAll s.heap J out).get? (s.heap.objs.size+1)=some {cls:= .type "list",dict:=none,data:= .seq out.toList.toArray e,slots:=#[]}:=by rw[he]
 exact⟨.ref (s.heap.objs.size+1),_,I.laid (t':=s.toks) (λ_ _=>sortedAll_old) (NC _) (show eC X.prog X.w _ (sortedAll s.heap J out) _ (.lst (ms.map V.str)) from⟨U,out.toList,e,wj hO,aa⟩),rfl,q _ ms (I.hok.fresh (NC _)) hp hs⟩
theorem xl{P:Mq}{w:MT}:∀{l:LR LW} {ks:LR Key},l.length=ks.length->(∀(j:Nat) (v:LW),l[j]? =some v->∃ k,ks[j]? =some k/\(eW P w).is k v=true)->Vals (ks.map kV) l
 |[],[],_,_=> .nil
 |[],_::_,h,_=>by cases h
 |_::_,[],h,_=>by cases h
 |v::l,k::ks,h,f=>by
  obtain⟨I,e,q⟩:=f 0 v rfl;cases e;exact .cons (sO q) (xl (Oi h) λj v e=>f (j+1) v e)
theorem CU(hc:X.calm=true):gy X (.type "list") (λxs H Q=>∃(d:LS) (kvs:LR (Key×V)),xs=[.ref d]/\H d=some (.dK kvs)/\∀ l,H l=none->Q (.ref l) (upd H l (.lst (kvs.map λkv=>kV kv.1)))):=by
 intro pins s σ H xs us Q I r h;obtain⟨d,kvs,rfl,hq,q⟩:=h;obtain⟨u,rfl,rx⟩:=vals1 r;cases rx;obtain⟨z,U,vs,rel,dd⟩:=lF I.hok hq;obtain⟨ep,ab⟩:=dd.dictAt;refine W.kdl_call (W.kdl_dict (knd:=eW X.prog X.w) (kvs:=vs) (ep:=ep) U) (I.ok.hd hc) ab (by rw[<-rel.length];exact z) λh' tk acc c hk hS J=>?_
 have hv:Vals (kvs.map λkv=>kV kv.1) acc.toList:=by
  have e:(kvs.map λkv=>kV kv.1)=(kvs.map (·.1)).map kV:=by rw[NG];rfl
  rw[e,rel.keys];refine xl (P:=X.prog) (w:=X.w) (by rw[OP,LV];exact J.1) λj v hj=>?_
  obtain⟨k,x,hx,aa⟩:=J.2 j v (by rw[<-Array.getElem?_toList];exact hj);exact⟨k,by rw[List.getElem?_map,hx];rfl,aa⟩
 exact⟨.ref s.heap.objs.size,_,I.laid (t':=tk) hk (Ma _) (show eC X.prog X.w _ h' _ (.lst _) from⟨by rw[LV];exact z,acc.toList,c,hv,by rw[hS]⟩),rfl,q _ (I.hok.fresh (Ma _))⟩
theorem BE{k:Nat}(hr:eK k X.A)(hk:2<=k):gy X (.type "str") (λxs H Q=>∃(p:LS) (d:OV),xs=[.ref p]/\gc X.K H (.ref p) d/\d.showable=true/\d.hasDict=false/\d.depth<=100/\d.shown.length<=sizeLine/\Q (.str d.shown) H):=by
 intro pins s σ H xs us Q I r h;obtain⟨p,d,rfl,hd,h1,h2,h3,U,q⟩:=h;obtain⟨u,rfl,J⟩:=vals1 r;obtain⟨as,ra⟩:=hd.reads I J;cases J;exact str_of_reads ra h1 (λz=>by rw[h2] at z;cases z) hr.gd (by have:=hr.un;lia) (λ_ _ e=>e) (λh' u tk hk=>⟨.str _,H,I.kept (t':=tk) hk,⟨u,rfl⟩,q⟩) U
end
theorem cR.updN {H H':Hp}{a:LS}{o:HO}(s:cR H H')(h:H' a=none):cR H (upd H' a o):=λb u e=>by
 rw[cW (λz=>by rw[z] at e;rw[s _ _ e] at h;cases h)];exact s b u e
section
variable {X : Cx}
theorem xv{pins:LR (LS×Obj)}{σ:St}{H H':Hp}{s1 s2:Me}{T:LS}{o:HO}(I1:Inv X pins σ H s1)(J:Inv X pins σ H' s2)(hT:s1.heap.objs.size<=T)(hn:H' T=none)(ok:eC X.prog X.w (upd H' T o) s2.heap T o):Inv X pins σ (upd H' T o) s2:=by
 refine J.track (.inl (Heap.get?_none_of_le (Mr I1.sz hT))) hn (QD (Mx I1.lt hT)) (λy I q z=>?_) (λp U z=>?_) ok
 ·obtain⟨v,q'⟩:=I1.cell y I q;exact absurd (Mx q'.lt (by rw[z];exact hT)) (Nq _)
 ·exact absurd (Mx (Mv (I1.pin p U).1) (by rw[z];exact hT)) (Nq _)
theorem zX{pins:LR (LS×Obj)}{σ:St}{H:Hp}{s1 s2:Me}(I1:Inv X pins σ H s1)(J:Inv X pins σ H s2):∀{as:LR LS} {xs:LR (V×V)},(∀ a∈as,s1.heap.objs.size<=a)->as.Nodup->
  MY (λa (x:V×V)=>∃ u v,RelV x.1 u/\RelV x.2 v/\s2.heap.IsTuple a #[u,v]) as xs->∃ H',Inv X pins σ H' s2/\cR H H'/\MY (λa (x:V×V)=>H' a=some (.tup [x.1,x.2])) as xs/\∀ b,b∉as->H' b=H b
 |_,_,_,_,.nil=>⟨H,J,cR.refl H,.nil,λ_ _=>rfl⟩
 |T::as,x::_,hle,nd,.cons h t=>by
  obtain⟨n1,n2⟩:=List.nodup_cons.mp nd;obtain⟨H',J',sm,hf,hn⟩:=zX I1 J (λa ha=>hle a (Mg _ ha)) n2 t;have hT:s1.heap.objs.size<=T:=hle T Mi;obtain⟨u,v,r1,r2,ot,U,aa,n,ab⟩:=h;have I:H' T=none:=by rw[hn T n1];exact I1.hok.fresh hT
  refine⟨upd H' T (.tup [x.1,x.2]),xv I1 J' hT I ⟨by rw[Mt];show 2<=_;decide,[u,v],.cons r1 (.cons r2 .nil),ot,U,aa,n,ab⟩,cR.updN sm I,.cons cT (Gn.Paired.imp2 hf λa y e=>?_),λb hb=>?_⟩
  ·rw[cW (λz=>by rw[z,I] at e;cases e)];exact e
  ·have:b≠T:=λz=>hb (by rw[z];exact Mi)
   rw[cW this];exact hn b λh=>hb (Mg _ h)
theorem yn{α β:Type}{F:α->β->Prop}:∀{l:LR α} {m:LR β},l.length=m.length->(∀(t:Nat) (a:α) (b:β),l[t]? =some a->m[t]? =some b->F a b)->MY F l m
 |[],[],_,_=> .nil
 |[],_::_,h,_=>by cases h
 |_::_,[],h,_=>by cases h
 |a::l,b::m,h,f=> .cons (f 0 a b rfl rfl) (yn (Oi h) λt x y I J=>f (t+1) x y I J)
theorem KV.both {kvs:LR (Key×V)}{vs:LR (Key×LW)}(r:KV kvs vs){i:Nat}{kv:Key×V}(h:kvs[i]? =some kv):∃ v,vs[i]? =some (kv.1,v)/\RelV kv.2 v:=by
 induction r generalizing i with
 |nil=>cases i<;>cases h
 | @cons p q ps U I t J=>
  cases i with
  |zero=>
   have e:p=kv:=Ml h;subst e;exact⟨q.2,by show some q=some (p.1,q.2);rw[I.1],I.2⟩
  |succ j=>exact J h
noncomputable def JE(td:TE):TE:=λσ H Q=>td σ H λx H1=>∃(d:LS) (kvs:LR (Key×V)),x= .ref d/\H1 d=some (.dK kvs)/\
 ∀(L:LS) (I:LR LS) (H2:Hp),cR H1 H2->H1 L=none->H2 L=some (.lst (I.map V.ref))->MY (λq (x:V×V)=>H2 q=some (.tup [x.1,x.2])) I (kvs.map λJ=>(kV J.1,J.2))->Q (.ref L) H2
theorem y4:∀(qs:LR LS),Vals (qs.map V.ref) (qs.map ME)
 |[]=> .nil
 |q::qs=> .cons rfl (y4 qs)
theorem Ge{o:Nv}{td:TE}{p1 q1 apos cpos:Pos}(hc:X.calm=true)(hg1:Gl X "list")(hm1:X.mg "list"=none)(ho:PE X o td)
  (hbase:OB o "items" X.env (eval o X.env)=eval o X.env:=by rfl)(hline:(apos.endLine==cpos.line)=true:=by rfl):
  PE X (.Call (.Name "list" p1) [.Call (.Attribute o "items" apos) [] [] cpos] [] q1) (JE td):=by
 intro pins s σ H Q I h;refine Of (mh (u:= .type "list") I hg1 hm1 rfl ?_ (by decide) (by decide));refine N9 ?_ rfl rfl;show MD _ _ (spliced ((false,eval (.Call (.Attribute o "items" apos) [] [] cpos) X.env)::[])) _ _ s;refine QN (PM hbase hline (dh (ho pins s σ H _ I h) λv s1 ⟨x,H1,U,r1,d,kvs,e,hd,q⟩=>?_));subst e;obtain⟨h1,h2⟩:=rD U r1 (tE hd);cases r1;obtain⟨z,aa,vs,rel,dd⟩:=lF U.hok hd;refine⟨"dict","dict.items",OL,F.slot_dict_items,F.type_dict_items,h1,h2,Oz rfl (Qz ?_)⟩;refine P1 F.slot_dict_items h1 F.entry_dict_items (F.args_dict_items_1 _) (meets_dict_items (eW X.prog X.w) d aa) ⟨⟨vs,dd⟩,Q0 ?_⟩;obtain⟨ep,ai⟩:=dd.dictAt;have ae:kvs.length=vs.length:=rel.length;refine W.kdx_call (knd:=eW X.prog X.w) (kvs:=vs) (ep:=ep) (s:={s1 with heap:=s1.heap.push _}) (U.ok.hd hc) ⟨_,Heap.get?_push_size _ rfl,rfl,rfl⟩ (ai.push _) (by rw[<-ae];exact z) λh' tk acc c as hk hS hl hG af=>?_
 have kp:∀ b o,s1.heap.get? b=some o->h'.get? b=some o:=λb o e=>hk b o (Heap.get?_push_of_some _ e)
 have J:Inv X pins σ H1 {s1 with heap:=h',toks:=tk}:=U.kept kp
 have ag:(s1.heap.push {cls:= .type "dict_items",data:= .fields #[.ref d]}).objs.size=s1.heap.objs.size+1:=Pj _ _
 have ab:∀ a∈as,s1.heap.objs.size+1<a:=λa ha=>by have:=hG.above a ha;rwa [ag] at this
 have nd:as.Nodup:=hG.rise.imp λh=>MV h
 have pr:MY (λa (x:V×V)=>∃ u v,RelV x.1 u/\RelV x.2 v/\h'.IsTuple a #[u,v]) as (kvs.map λkv=>(kV kv.1,kv.2)):=by
  refine yn (by rw[hl,LV,ae]) λt a x h1 h2=>?_
  rw[List.getElem?_map] at h2;obtain⟨kv,e1,rfl⟩:=Option.map_eq_some_iff.mp h2;obtain⟨v,e2,rv⟩:=rel.both e1;obtain⟨key,k,y,e3,ah,ha⟩:=hG.pairs t a h1;rw[e2] at e3;cases e3;exact⟨key,v,sO ah,rv,_,ha,rfl,_,rfl⟩
 obtain⟨H',J',sm,hf,hn⟩:=zX (s2:={s1 with heap:=h',toks:=tk}) U J (λa ha=>QC (Nat.lt_of_succ_lt (ab a ha))) nd pr;have Sn:s1.heap.objs.size+1∉as:=λz=>Nq _ (ab _ z)
 have nS:H' (s1.heap.objs.size+1)=none:=by rw[hn _ Sn];exact U.hok.fresh (NC _)
 rw[ag] at hS ⊢;have al:=Gn.Paired.len hf;have J2:Inv X pins σ (upd H' (s1.heap.objs.size+1) (.lst (as.map V.ref))) {s1 with heap:=h',toks:=tk}:=xv U J' (NC _) nS
  ⟨by rw[LV,al,LV];exact z,as.map ME,c,y4 as,by rw[hS,<-af,Array.toArray_toList]⟩;exact⟨.ref (s1.heap.objs.size+1),_,J2,rfl,q _ as _ (cR.updN sm nS) (U.hok.fresh (NC _)) cT (Gn.Paired.imp2 hf λa x e=>by rw[cW (λz=>by rw[z,nS] at e;cases e)];exact e)⟩
end
noncomputable def iV(a:LS)(o:Obj):HO:= .ext λh=>h.get? a=some o
noncomputable def Fz(P:Mq)(w:MT)(a:LS)(o:Obj)(kvs:LR (Key×V)):Prop:=
 kvs.length<=sizeLine/\(a==OF)=false/\∃ vs,KV kvs vs/\∃ es ep,∀ h:Nn,h.get? a=some o->h.DictAt (eW P w) a vs ep/\h.DictOf (eW P w) a vs/\o.data= .dict es ep
noncomputable def rL(P:Mq)(w:MT)(d:LS)(o:Obj)(kvs:LR (Key×V)):It:=
 ⟨λi H=>H d=some (iV d o)/\i<kvs.length,λi H x H'=>H'=H/\∃ I,kvs[i]? =some I/\x=I.2,λi H=>H d=some (iV d o)/\kvs.length<=i⟩
theorem Fm{P:Mq}{w:MT}{K:Mm}{tg:Nv}(d it:LS)(o:Obj)(kvs:LR (Key×V))(vs:LR (Key×LW))(ep:Nat)(rel:KV kvs vs)(hD:∀ h:Nn,h.get? d=some o->h.DictAt (eW P w) d vs ep):
  Turn P w K tg (rL P w d o kvs) [it] it (λi h=>h.IsValIter it d i kvs.length ep) where
 mem:=by simp
 obj:=λi h st b hb=>by
  have e:b=it:=by simpa using hb
  subst e;obtain⟨o,e,c,d⟩:=st;exact⟨o,e,λv z=>by rw[d] at z;cases z⟩
 keep:=λi h h' st k=>by
  obtain⟨o,e,c,d⟩:=st;exact⟨o,k it (by simp) o e,c,d⟩
 item:=by
  intro X hP hw hK hc i pins s σ H E I hf st hg;subst hP hw hK;obtain⟨hH,hi⟩:=hg;have ho:s.heap.get? d=some o:=(show eC X.prog X.w H s.heap d (iV d o) from I.hok d _ hH).1;have J:kvs.length=vs.length:=rel.length;have aa:kvs[i]? =some kvs[i]:=List.getElem?_eq_getElem hi;obtain⟨v,hv,rv⟩:=rel.both aa;obtain⟨f0,f1,f2,f3,f4,f5⟩:=hf it (by simp);rw[J] at st;refine wpAny_pyNext_values_item st (hD _ ho) hv λh' U sb=>?_
  rw[<-J] at U;have I1:Inv X pins σ H {s with heap:=h'}:=I.turned (t':=s.toks) (λb o hb e=>(sb.2 b hb).trans e) f0 f1 f3 f4 f5;obtain⟨o',e',c',d'⟩:=id U;exact⟨v,rfl,mZ (s:={s with heap:=h'}) e' c' d' (by decide) ⟨kvs[i].2,H,I1,rv,⟨rfl,kvs[i],aa,rfl⟩,U,λb hb=>(hf b hb).1⟩⟩
 done:=by
  intro X hP hw hK hc i pins s σ H E I hf st hg;subst hP hw hK;obtain⟨hH,hi⟩:=hg;have ho:s.heap.get? d=some o:=(show eC X.prog X.w H s.heap d (iV d o) from I.hok d _ hH).1;have J:kvs.length=vs.length:=rel.length;obtain⟨f0,f1,f2,f3,f4,f5⟩:=hf it (by simp);rw[J] at st;exact wpAny_pyNext_values_end (I.ok.hd hc) st (hD _ ho) (List.getElem?_eq_none (by lia)) λh' eb=>⟨rfl,I.turned (t':=s.toks) (λb o hb e=>eb b o hb e) f0 f1 f3 f4 f5⟩
 self:=λ_ _ _ _ _ st h=>wpAny_pyIter_valiter st h
section
variable {X : Cx}
noncomputable def Kz(P:Mq)(w:MT)(td:TE):TI:=λσ H R=>td σ H λx H1=>∃ a kvs,x= .ref a/\H1 a=some (.dK kvs)/\∀ o,Fz P w a o kvs->R (rL P w a o kvs) (upd H1 a (iV a o))
theorem Ef{tg o:Nv}{td:TE}{apos cpos:Pos}(ho:PE X o td)(hbase:OB o "values" X.env (eval o X.env)=eval o X.env:=by rfl)(hline:(apos.endLine==cpos.line)=true:=by rfl):
  PI X tg (.Call (.Attribute o "values" apos) [] [] cpos) (Kz X.prog X.w td):=by
 intro pins s σ H R I h;refine PM hbase hline (dh (ho pins s σ H _ I h) λv s1 ⟨x,H1,I1,r1,d,kvs,e,hd,q⟩=>?_);subst e;obtain⟨h1,h2⟩:=rD I1 r1 (tE hd);cases r1;obtain⟨z,aa,vs,rel,J,es,ep,U,c1,c2,c3⟩:=lF I1.hok hd;have hA:∀ h:Nn,h.get? d=some J->h.DictAt (eW X.prog X.w) d vs ep/\h.DictOf (eW X.prog X.w) d vs/\J.data= .dict es ep:=λh e=>⟨⟨J,es,e,c1,c2,c3⟩,⟨J,es,ep,e,c1,c2,c3⟩,c2⟩
 refine⟨"dict","dict.values",OL,F.slot_dict_values,F.type_dict_values,h1,h2,Oz rfl (Qz ?_)⟩;refine P1 F.slot_dict_values h1 F.entry_dict_values (F.args_dict_values_1 _) (meets_dict_values (eW X.prog X.w) d aa) ⟨⟨vs,J,es,ep,U,c1,c2,c3⟩,?_⟩;have ab:kvs.length=vs.length:=rel.length;have I2:Inv X pins σ (upd H1 d (iV d J)) s1:=I1.write (x:=d) (e:=d) (h':=s1.heap) (t':=s1.toks) (by rw[hd];exact trivial) (.inl rfl) (λ_ _ _ q=>q) ⟨J,U⟩ ⟨U,⟨J,U⟩,λh1 h2 p k=>k _ p⟩;have ae:=Heap.get?_push_of_some {cls:= .type "dict_values",data:= .fields #[.ref d]} U;refine wpAny_pyIter_values (s:={s1 with heap:=s1.heap.push {cls:= .type "dict_values",data:= .fields #[.ref d]}}) (knd:=eW X.prog X.w) (kvs:=vs) (ep:=ep) ⟨_,Heap.get?_push_size _ rfl,rfl,rfl⟩ (hA _ ae).1 ?_;have sz:(s1.heap.push {cls:= .type "dict_values",data:= .fields #[.ref d]}).objs.size=s1.heap.objs.size+1:=Pj _ _;refine⟨_,[(s1.heap.push {cls:= .type "dict_values",data:= .fields #[.ref d]}).objs.size],_,rL X.prog X.w d J kvs,_,rfl,I2.kept (t':=s1.toks) λb o e=>Heap.get?_push_of_some _ (Heap.get?_push_of_some _ e),Fm d _ J kvs vs ep rel (λh e=>(hA h e).1),⟨_,Heap.get?_push_size _ rfl,rfl,by rw[ab];rfl⟩,λb hb=>?_,q J ⟨z,aa,vs,rel,es,ep,hA⟩⟩;have e:b=s1.heap.objs.size+1:=by rw[<-sz];simpa using hb
 subst e;exact I2.fpOk (NC _) (I2.hok.fresh (NC _))
noncomputable def JR(P:Mq)(w:MT)(t:TE):TE:=λσ H Q=>t σ H λv H1=>∃ a o kvs,H1 a=some (iV a o)/\Fz P w a o kvs/\Q v (upd H1 a (.dK kvs))
theorem B3{e:Nv}{t:TE}(h:PE X e t):PE X e (JR X.prog X.w t):=by
 intro pins s σ H Q I hq;refine dh (h pins s σ H _ I hq) λv s1 ⟨x,H1,U,r1,a,o,kvs,e,⟨z,J,vs,rel,es,ep,hA⟩,q⟩=>?_
 have ho:s1.heap.get? a=some o:=(show eC X.prog X.w H1 s1.heap a (iV a o) from U.hok a _ e).1;exact⟨x,upd H1 a (.dK kvs),U.write (x:=a) (e:=a) (o:= .dK kvs) (h':=s1.heap) (t':=s1.toks) (by rw[e];exact trivial) (.inl rfl) (λ_ _ _ q=>q) ⟨o,ho⟩ ⟨z,J,vs,rel,(hA _ ho).2.1⟩,r1,q⟩
theorem Ed{P:Mq}{w:MT}{d:LS}{o:Obj}{kvs:LR (Key×V)}{g:TG}{tc:TT}{te:TE}{σ0:St}{H:Hp}{Q:VK}(Pv:Nat->LR V->Hp->Prop)(hz:kvs.length<sizeLine)(hl:∀ i ys H,Pv i ys H->H d=some (iV d o))(h0:Pv 0 [] H)
  (hs:∀ i (kv:Key×V) ys H (N:LR V->Hp->Prop),kvs[i]? =some kv->Pv i ys H->(∀ ys' H2,Pv (i+1) ys' H2->N ys' H2)->
   g kv.2 σ0 H λσ2 H2=>tc σ2 H2 λb H3=>if b=true then te σ2 H3 λy H4=>N (ys++[y]) H4 else N ys H3)
  (hd:∀ ys H,Pv kvs.length ys H->ys.length<=kvs.length->∀ p,H p=none->Q (.ref p) (upd H p (.lst ys))):nO (rL P w d o kvs) g tc te σ0 Q H:=rV kvs.length Pv hz
 (λi ys H hi p=>⟨hl i ys H p,hi⟩) (λys H p=>⟨hl _ ys H p,Ma _⟩) h0
 (λi ys H v H' N hi p y J=>by
  obtain⟨e,kv,I,U⟩:=y;subst e U;exact hs i kv ys _ N I p J) hd
end
noncomputable def jr(ks:LR Str)(k:Str):Nat:=ks.countP λx=>decide (x.cps.toList<k.cps.toList)
theorem C6{a b c:LR Nat}(h1:a<b)(h2:b<c):a<c:=List.lt_trans h1 h2
theorem zm{α:Type}{p q:α->Nw}{a:α}:∀{l:LR α},(∀ x,p x=true->q x=true)->a∈l->p a=false->q a=true->l.countP p<l.countP q
 |[],_,h,_,_=>nomatch h
 |x::l,hs,h,I,J=>by
  have hm:l.countP p<=l.countP q:=List.countP_mono_left λx _=>hs x
  rw[List.countP_cons,List.countP_cons];rcases List.mem_cons.mp h with e|e
  ·subst e;rw[I,J,LX MC,LZ rfl]
   lia
  ·have:=zm hs e I J;cases hx:p x with
   |false=>rw[LX MC];lia
   |true=>rw[hs x hx,LZ rfl];lia
theorem uI{ks:LR Str}{a b:Str}(ha:a∈ks)(hb:b∈ks):decide (a.cps.toList<b.cps.toList)=decide (jr ks a<jr ks b):=by
 refine decide_eq_decide.mpr ⟨λh=>?_,λh=>?_⟩
 ·exact zm (a:=a) (λx I=>Mb (C6 (Nh I) h)) ha (LY (List.lt_irrefl _)) (Mb h)
 ·refine Oe λz=>?_
  have hle:b.cps.toList<=a.cps.toList:=List.not_lt.mp z
  have:jr ks b<=jr ks a:=List.countP_mono_left λx _ I=>Mb (Oe λn=>z (List.lt_of_le_of_lt (List.not_lt.mp n) (Nh I)))
  lia
theorem vZ:∀{rs:LR (Str×Str)} {x y:Str×Str},(rs.map (·.1)).Nodup->x∈rs->y∈rs->x.1=y.1->x.2=y.2
 |r::rs,x,y,nd,J,U,e=>by
  obtain⟨I,n2⟩:=List.nodup_cons.mp (show(r.1::rs.map (·.1)).Nodup from nd);rcases List.mem_cons.mp J with h|h<;>rcases List.mem_cons.mp U with h'|h'
  ·rw[h,h']
  ·subst h;exact absurd (by rw[e];exact NH (f:=(·.1)) h') I
  ·subst h';exact absurd (by rw[<-e];exact NH (f:=(·.1)) h) I
  ·exact vZ n2 h h' e
theorem wh{rs a b:LR (Str×Str)}(nd:(rs.map (·.1)).Nodup)(ha:a.Perm rs)(hb:b.Perm rs)(sa:a.Pairwise λx y=>jr (rs.map (·.1)) x.1<=jr (rs.map (·.1)) y.1)(sb:b.Pairwise λx y=>jr (rs.map (·.1)) x.1<=jr (rs.map (·.1)) y.1):a=b:=by
 refine List.Perm.eq_of_pairwise (λx y I J h1 h2=>?_) sa sb (ha.trans hb.symm);have U:=ha.mem_iff.mp I;have my:=hb.mem_iff.mp J;have kx:=NH (f:=(·.1)) U;have ky:=NH (f:=(·.1)) my;have e:x.1=y.1:=by
  refine Oe λz=>?_
  have n1:¬ x.1.cps.toList<y.1.cps.toList:=λh=>by have:=uI kx ky;rw[Mb h] at this;have:=Nh this.symm;lia
  have n2:¬ y.1.cps.toList<x.1.cps.toList:=λh=>by have:=uI ky kx;rw[Mb h] at this;have:=Nh this.symm;lia
  have:=List.le_antisymm (List.not_lt.mp n2) (List.not_lt.mp n1);exact z (by cases I:x.1;cases J:y.1;rw[I,J] at this;exact Nl Str.mk (Array.toList_inj.mp this))
 exact Prod.ext e (vZ nd U my e)
section
variable {prog : Mq} {w : MT} {A : Np} {E : LW -> Me -> Prop} {s : Me}
theorem EY{x y:LS}{ox oy:Obj}{n k:Nat}{r q:Str×Str}{t1 t2 t3 t4:Tok}{Q:Nw->Me->Prop}(hx:s.heap.get? x=some ox)(dx:ox.data= .seq #[.str r.1 t1,.str r.2 t2] n)(hy:s.heap.get? y=some oy)(dy:oy.data= .seq #[.str q.1 t3,.str q.2 t4] k)
  (hd:r.1=q.1->r.2=q.2)(h:Q (decide (r.1.cps.toList<q.1.cps.toList)) s):MD (My prog w) A (keyLt' (tuples' true) (.ref x) (.ref y)) Q E s:=by
 refine kat_lt hx dx hy dy (kat_cons (Rb ?_));by_cases e:r.1=q.1
 ·rw[Mb e];refine kat_yes (kat_cons (Rb ?_));rw[Mb (hd e)];rw[e,LY (List.lt_irrefl _)] at h;exact kat_yes (kat_nil h)
 ·rw[LY e];exact kat_no (oneLt_str h)
end
noncomputable abbrev l9(H:Hp)(q:LS)(r:Str×Str):Prop:=H q=some (.tup [.str r.1,.str r.2])
noncomputable def sW(h:Nn)(q:LS)(r:Str×Str):Prop:=∃ o n t1 I,h.get? q=some o/\o.cls= .type "tuple"/\o.data= .seq #[.str r.1 t1,.str r.2 I] n
section
variable {X : Cx}
theorem tupS{pins:LR (LS×Obj)}{σ:St}{H:Hp}{s:Me}(I:Inv X pins σ H s){q:LS}{r:Str×Str}(h:l9 H q r):sW s.heap q r:=by
 obtain⟨J,U,⟨o,e,c,n,d⟩,_⟩:=I.tuple (dY.of h);obtain⟨u1,u2,rfl,⟨t1,rfl⟩,t2,rfl⟩:=U.two;exact⟨o,n,t1,t2,e,c,d⟩
theorem zR{h:Nn}:∀{qs:LR LS} {rs:LR (Str×Str)},MY (sW h) qs rs->∃ fs,KatTups h (qs.map ME) fs/\fs.length=rs.length/\∀ v∈fs,∃ i t,v=PJ i t
 |_,_,.nil=>⟨[],trivial,rfl,λv I=>nomatch I⟩
 |_,_,.cons r t=>by
  obtain⟨fs,a,b,c⟩:=zR t;obtain⟨o,n,t1,J,e,k,d⟩:=r;exact⟨_::fs,KatTups.cons e k d rfl a,by rw[Ms,Ms,b],List.forall_mem_cons.mpr ⟨⟨_,t1,rfl⟩,c⟩⟩
theorem Aa:gy X (.builtin "sorted") (λxs H Q=>∃(p:LS) (qs:LR LS) (rs:LR (Str×Str)),xs=[.ref p]/\H p=some (.lst (qs.map V.ref))/\MY (l9 H) qs rs/\(rs.map (·.1)).Nodup/\rs.length<64/\
  ∀(l:LS) (qs':LR LS) (rs':LR (Str×Str)),H l=none->MY (l9 H) qs' rs'->rs'.Perm rs->rs'.Pairwise (λa b=>jr (rs.map (·.1)) a.1<=jr (rs.map (·.1)) b.1)->Q (.ref l) (upd H l (.lst (qs'.map V.ref)))):=by
 intro pins s σ H xs us Q I r h;obtain⟨p,qs,rs,rfl,hP,pr,nd,ae,q⟩:=h;obtain⟨u,rfl,rx⟩:=vals1 r;cases rx;have line:(sizeLine:Nat)=16777216:=Mt;have aa:=Gn.Paired.len pr;obtain⟨ag,r',pl,_⟩:=I.list (cS.of hP);have ei:=yh r';subst ei;have U:(qs.map ME).length=rs.length:=by rw[LV,aa]
 have po:MY (sW s.heap) qs rs:=Gn.Paired.imp2 pr λ_ _ h=>tupS I h
 refine QU kind_sorted plain_sorted entry_sorted (args_sorted1 _) (show MD _ _ (Rr.«sorted» _) _ _ _ from ?_);unfold Rr.«sorted»;refine Mn (m:=checkCount "sorted" 1 1 _) (Nf (Mn (collect_list pl.isList ?_ (by rw[U];lia))));refine Mn (wpAny_newList ?_ (by show(qs.map ME).length<=_;rw[U];lia));have zz:((s.heap.push (O4 "list" #[] 0)).update s.heap.objs.size (Og (· ++(qs.map ME).toArray))).objs.size=s.heap.objs.size+1:=by rw[Heap.size_update,size_push']
 have oL:(((s.heap.push (O4 "list" #[] 0)).update s.heap.objs.size (Og (· ++(qs.map ME).toArray))).push (O4 "list" (qs.map ME).toArray 0)).get? (s.heap.objs.size+1)=some (O4 "list" (qs.map ME).toArray 0):=by
  rw[<-zz];exact Heap.get?_push_size _ rfl
 have kept:∀ b o,s.heap.get? b=some o->(((s.heap.push (O4 "list" #[] 0)).update s.heap.objs.size (Og (· ++(qs.map ME).toArray))).push (O4 "list" (qs.map ME).toArray 0)).get? b=some o:=λb o e=>by
  have lt:=Mv e;refine Heap.get?_push_of_some _ ?_;rw[Heap.get?_update_ne _ _ _ _ (MV lt)];exact Heap.get?_push_of_some _ e
 show MD _ _ _ _ _ {s with heap:=((s.heap.push (O4 "list" #[] 0)).update s.heap.objs.size (Og (· ++(qs.map ME).toArray))).push (O4 "list" (qs.map ME).toArray 0)};rw[zz];refine Mn (OA (wpAny_call_entry slot_list_sort ⟨_,oL,rfl⟩ entry_list_sort (Kg (key:=λi=>jr (rs.map (·.1)) (rs.getD i (NU,NU)).1) oL (by rw[U];exact ae) (λs' kp=>?_) λpm h1 h2=>⟨_,rfl,?_⟩) (args_list_sort _)))
 ·have J:MY (sW s'.heap) qs rs:=Gn.Paired.imp2 po λc y h=>by
   obtain⟨o,n,t1,t2,e,k,d⟩:=h;exact⟨o,n,t1,t2,kp _ _ (MV (Pd (Mv e))) (kept _ _ e),k,d⟩
  obtain⟨fs,k1,k2,k3⟩:=zR J;refine⟨λQ' h0 hQ=>kat_kind (T:= .type "str") k1 (by rw[k2,<-U];exact h0) (λv hv=>?_) (by decide) hQ,λi j C hi hj hC=>?_⟩
  ·obtain⟨i,t,rfl⟩:=k3 v hv;exact Looks.now
  ·rw[U] at hi hj;obtain⟨o,n,t1,t2,e,_,d⟩:=vO J (i:=i) (by lia) 0 (NU,NU);obtain⟨o',n',t3,t4,e',_,d'⟩:=vO J (i:=j) (by lia) 0 (NU,NU);have mem:∀{i},i<rs.length->rs.getD i (NU,NU)∈rs:=λ{i} hi=>by
    have:rs.getD i (NU,NU)=rs[i]:=by simp[hi]
    rw[this];exact Pq hi
   unfold kas_ask;rw[getD_map ME qs i Oo 0 (by lia),getD_map ME qs j Oo 0 (by lia)];rw[<-uI (NH (f:=(·.1)) (mem hi)) (NH (f:=(·.1)) (mem hj))] at hC;exact EY e d e' d' (λz=>vZ nd (mem hi) (mem hj) z) hC
 ·have eo:(pm.toList.map λi=>(qs.map ME).getD i Oo)=(pm.toList.map λi=>qs.getD i 0).map ME:=by
   rw[NG];refine Ox λi hi=>?_
   have ab:=List.mem_range.mp (h1.mem_iff.mp hi);rw[LV] at ab;exact getD_map ME qs i Oo 0 ab
  rw[eo];rw[U] at h1 h2;obtain⟨e,he⟩:=sortedAll_at s.heap (qs.map ME) ((pm.toList.map λi=>qs.getD i 0).map ME).toArray;have pp:MY (l9 H) (pm.toList.map λi=>qs.getD i 0) (pm.toList.map λi=>rs.getD i (NU,NU)):=zi _ λi hi=>vO pr (by have:=List.mem_range.mp (h1.mem_iff.mp hi);lia) 0 (NU,NU)
  have ah:=Gn.Paired.len pp
  have ll:=h1.length_eq;rw[Pf] at ll;refine Nf ⟨_,rfl,.ref (s.heap.objs.size+1),_,I.laid (t':=s.toks) (λ_ _=>sortedAll_old) (NC _) (show eC X.prog X.w _ (sortedAll s.heap (qs.map ME) ((pm.toList.map λi=>qs.getD i 0).map ME).toArray) _ (.lst ((pm.toList.map λi=>qs.getD i 0).map V.ref)) from⟨by rw[LV,LV,ll];lia,_,e,zp _,by rw[he]⟩),rfl,
   q _ _ _ (I.hok.fresh (NC _)) pp (Lq (NU,NU) h1) ?_⟩;rw[List.pairwise_map];rw[List.pairwise_iff_getElem];intro i j hi hj af;have:=h2 i j (QC af) (by rw[<-ll];exact hj);have gi:∀{i} (h:i<pm.toList.length),ST.g pm i=pm.toList[i]:=λ{i} h=>by
   have h':i<pm.size:=by simpa using h
   unfold ST.g;simp[Array.getD,h']
  unfold ST.K at this;rw[gi hi,gi hj] at this;exact this
end
end L2
namespace K25
open PySem L2 PyProof.Rows PySem.Spec Gn K04 K01 BK
theorem rm:Ny "sum"=some (.builtin "sum"):=dkq
section
variable {P : Mq} {w : MT} {K : Mz} {mg : Str -> Mc LW} {base : Nn} {C CH CN CNo CW CK CT C2 : LS}
noncomputable def BQ(K:Mm)(C CH CNo:LS):Sp:=λvs H Q E=>∃(x:LS) (J:V) (I:LR (LR (Str×Str))),vs=[.ref x,J]/\ia C CH H x I/\d6 I/\Known K H J/\fT J/\(fK I J=false->∀ H',cR H H'->E (.ref CNo) none H')/\∀ k t H',J= .str k->(k,t)∈I.flatten->cR H H'->Q (.str t) H'
theorem Au:dC ["self","key","book"] ["self","key"] (c9 md):=⟨rfl,rfl,rfl,dkq,rfl,dkq,dkq⟩
seal dj PS PE PT PA PG PI dE dD in
theorem EI{f fp fn ft:LS}{fd fdp fdn fdt:Mj}(F:dv K "text" "House.text" md f fd)(HC:gT K mg C CH)(B:gB K mg C)
  (FP:dv K "place_of" "House.place_of" jP fp fdp)(mP:Meth K CH "place_of" fp)(GP:cV P w K mg base (dz P w) 3 fp fdp ["self","key"] (rE K C CH CNo))
  (FN:dv K "number_of" "Book.number_of" ku fn fdn)(mN:Meth K C "number_of" fn)(GN:cV P w K mg base (dz P w) 3 fn fdn ["self","key"] (wI K C CNo))
  (FT:dv K "text_of" "Book.text_of" jX ft fdt)(mT:Meth K C "text_of" ft)(GT:cV P w K mg base (dz P w) 4 ft fdt ["self","number"] (nM K C CN (·.2))):cV P w K mg base (dz P w) 5 f fd ["self","key"] (BQ K C CH CNo):=by
 have bP:=FP.binds (ps:=["self","key"]) λ_ _ _ _ _ _ us hl=>eO (λ_ _=>rfl) us hl
 have bN:=FN.binds (ps:=["self","key"]) λ_ _ _ _ _ _ us hl=>eO (λ_ _=>rfl) us hl
 have bT:=FT.binds (ps:=["self","number"]) λ_ _ _ _ _ _ us hl=>eO (λ_ _=>rfl) us hl
 refine F.ok1 Au (λvs H Q E h=>?_) (λcdv A outer s H vs Q E hr h=>?_)
 ·obtain⟨x,kv,J,rfl,_⟩:=h;rfl
 ·obtain⟨x,kv,J,rfl,hH,hok,ah,U,eN,kk⟩:=h;refine⟨_,cU (di (i:=2) Au.nd rfl (Mh rfl) (eB eY (gm (pv 0) rfl) (gU (pv 0) HC.cl mP (GP.mono (by decide)) hr bP .nil (gP (E':=E) (λ_ _ _ h=>h)) (cP (pv 1) cQ)) (λ_ _=>rfl)))
   (cY (dg (gU (pv 2) B.cl mT GT hr bT .nil ig (cP (gU (pv 2) B.cl mN (GN.mono (by decide)) hr bN .nil ig (cP (pv 1) cQ)) cQ)))),?_⟩;obtain⟨vl,dx,bs,hx,ai,aj⟩:=hH.ex;refine⟨_,rfl,x,CH,dx,_,_,rfl,hx,HC.cl,HC.nV,jh,_,rfl,x,dx,_,rfl,hx,gQ,_,rfl,x,kv,J,rfl,hH,ah,U,λk i ps H1 ek aa hi hm s1=>?_,eN⟩;subst ek;obtain⟨v,hv,b,rfl,hB⟩:=Gn.Paired.at aj hi;refine⟨vl,_,_,_,rfl,rfl,cS.of (s1 _ _ ai),dS hv,?_⟩;have ab:=hok.good (List.mem_of_getElem? hi);have I:fC C H1 b ps:=hB.same s1;obtain⟨ae,fs,af,ag⟩:=I.at;refine⟨_,rfl,b,ae,_,rfl,af,ag _ mn,_,rfl,b,ae,_,rfl,af,ag _ mn,_,rfl,b,ps,.str k,rfl,I,⟨_,.str _⟩,mr aa (by decide),λp hp=>(ab.g p hp).1,ab.n,λj z H2 e hj s2=>?_,λc=>absurd hm (c k rfl)⟩;injection e with e;subst e;have ak:j<ps.length:=by have:=(List.getElem?_eq_some_iff.mp hj).1;rwa [LV] at this
  refine⟨b,ps,.int (j:Int),rfl,I.same s2,⟨_,.int _⟩,λj' p e hp=>?_,λe=>by rw[good_int ak] at e;cases e⟩;have ej:j=j':=by have:=V.int.inj e;lia
  subst ej;have ao:p.1=k:=by
   rw[List.getElem?_map,hp] at hj;exact Ml hj
  exact kk k p.2 H2 rfl (by rw[<-ao];exact List.mem_flatten.mpr ⟨ps,List.mem_of_getElem? hi,List.mem_of_getElem? hp⟩) (s1.trans s2)
noncomputable def Ak(C:LS):Sp:=λvs H Q _=>∃(x:LS) (ps:LR (Str×Str)),vs=[.ref x]/\fC C H x ps/\d8 (cZ ps)<=1000000/\Q (.int ((d8 (cZ ps):Nat):Int)) H
theorem Kh:dC ["self"] ["self"] (c9 mx):=⟨rfl,rfl,rfl,dkq,rfl,dkq,dkq⟩
seal dj PS PE PT PA PG PI dE dD in
theorem KN{f:LS}{fd:Mj}(F:dv K "total" "Book.total" mx f fd)(B:gB K mg C)(hS:mg "sum"=none):cV P w K mg base dc 1 f fd ["self"] (Ak C):=by
 refine F.ok Kh (λvs H Q E h=>?_) (λcdv A outer s H vs Q E U h=>?_)
 ·obtain⟨x,ps,rfl,_⟩:=h;rfl
 ·obtain⟨x,ps,rfl,I,hl,k⟩:=h;obtain⟨dx,dn,pa,sz,dr,ri,xs,es,ts,h1,h2,h3,h4,J,h6,h7,h8,h9⟩:=I.ex;refine⟨_,cY (dg (dR (rj rfl) rfl hS rm (cP (gm (pv 0) rfl) cQ))),?_⟩;exact⟨_,rfl,x,C,dx,_,_,rfl,h1,B.cl,B.nS,Cd,sz,(cZ ps).map MQ,rfl,cS.of J,hl,k⟩
theorem vt:∀ pss:LR (LR (Str×Str)),(pss.map MQ).sum=pss.flatten.length
 |[]=>rfl
 |ps::r=>by rw[Nb,OO,vt r,NS,Md]
noncomputable def xa(C CH:LS):Sp:=λvs H Q _=>∃(x:LS) (I:LR (LR (Str×Str))),vs=[.ref x]/\ia C CH H x I/\d6 I/\∀ H',cR H H'->Q (.int ((I.flatten.length:Nat):Int)) H'
theorem HL:dC ["self"] ["self"] (c9 lG):=⟨rfl,rfl,rfl,dkq,rfl,dkq,dkq⟩
seal dj PS PE PT PA PG PI dE dD in
theorem Di{f fb:LS}{fd fdb:Mj}(F:dv K "many" "House.many" lG f fd)(HC:gT K mg C CH)(FB:dv K "books" "House.books" kO fb fdb)(mB:Meth K CH "books" fb)(GB:cV P w K mg base dc 2 fb fdb ["self"] (BL C CH))(hS:mg "sum"=none):
  cV P w K mg base dc 3 f fd ["self"] (xa C CH):=by
 have U:=FB.binds (ps:=["self"]) λ_ _ _ _ _ _ us hl=>gD (λ_=>rfl) us hl
 refine F.ok HL (λvs H Q E h=>?_) (λcdv A outer s H vs Q E hr h=>?_)
 ·obtain⟨x,I,rfl,_⟩:=h;rfl
 ·obtain⟨x,I,rfl,J,hok,k⟩:=h;obtain⟨vl,dx,bs,hx,aa,ab⟩:=J.ex;refine⟨_,cY (dg (dR (rj rfl) rfl hS rm (cP (g0 (pv 0) HC.cl mB GB hr U .nil du) cQ))),?_⟩;have hp:=hok.p;refine⟨_,rfl,x,dx,_,rfl,hx,gQ,x,I,rfl,J,Mr hok.l (by decide),λl hl=>?_⟩;refine⟨l,I.map MQ,rfl,cS.of cT,by rw[vt];lia,?_⟩;rw[vt];exact k _ (da hl)
theorem ur:∀ pss:LR (LR (Str×Str)),(pss.map λps=>d8 (cZ ps)).sum=d8 (cZ pss.flatten)
 |[]=>rfl
 |ps::r=>by rw[Nb,OO,ur r,NS,uu,A2]
noncomputable def Cz(C CH:LS):TE:=λσ H Q=>∃(x:LS) (I:LR (LR (Str×Str))),σ[0]? =some (some (.ref x))/\ia C CH H x I/\I.length<=1000/\(∀ ps∈I,d8 (cZ ps)<=1000000)/\∀ l,H l=none->Q (.ref l) (upd H l (.lst (nl (I.map λps=>d8 (cZ ps)))))
noncomputable def w5(C CH:LS):Sp:=λvs H Q _=>∃(x:LS) (I:LR (LR (Str×Str))),vs=[.ref x]/\ia C CH H x I/\d6 I/\∀ H',cR H H'->Q (.int ((d8 (cZ I.flatten):Nat):Int)) H'
theorem Ju:dC ["self"] ["self"] (c9 kA):=⟨rfl,rfl,rfl,dkq,rfl,dkq,dkq⟩
seal dj PS PE PT PA PG PI dE dD in
theorem J6{f fm:LS}{fd fdm:Mj}(F:dv K "total" "House.total" kA f fd)(HC:gT K mg C CH)(B:gB K mg C)(FM:dv K "total" "Book.total" mx fm fdm)(mM:Meth K C "total" fm)(GM:cV P w K mg base dc 1 fm fdm ["self"] (Ak C))(hS:mg "sum"=none):
  cV P w K mg base dc 2 f fd ["self"] (w5 C CH):=by
 have bM:=FM.binds (ps:=["self"]) λ_ _ _ _ _ _ us hl=>gD (λ_=>rfl) us hl
 refine F.ok Ju (λvs H Q E h=>?_) (λcdv A outer s H vs Q E hr h=>?_)
 ·obtain⟨x,I,rfl,_⟩:=h;rfl
 ·obtain⟨x,I,rfl,hH,hok,kk⟩:=h;refine⟨_,cY (dg (dR (rj rfl) rfl hS rm (cP (PE.imp (t':=Cz C CH) (fP (own:=1) (caps:=[]) (N:=["book"]) (N0:=["self"]) (sc0:=c9 kA) rfl (eZ (gm (pv 0) rfl))
    (λ_ _ _=>dB (i:=0) vv rfl (Mh rfl)) (λ_ _ _=>fF) (λ_ _ _=>g0 (pv 0) B.cl mM (GM.mono (by decide)) hr bM .nil du) (eM (by decide)) rfl rfl
    dkq rfl dkq dkq rfl dkq) ?mB) cQ))),?_⟩
  case mB=>
   rintro σ H1 Q1 ⟨x,I,h0,hH,hlen,ht,q⟩;have hz:(sizeLine:Nat)=16777216:=Mt;obtain⟨vl,dx,bs,hx,J,U⟩:=hH.ex;have ab:=Gn.Paired.len U;refine⟨_,h0,x,CH,dx,_,_,rfl,hx,HC.cl,HC.nV,jh,vl,rfl,⟨_,cS.of J⟩,gC (xs:=bs) (λi ys H'=>H'=H1/\ys=nl ((I.take i).map λps=>d8 (cZ ps))) (by lia) (λi ys H' p=>by rw[p.1];exact cS.of J) ⟨rfl,rfl⟩ ?_ ?_⟩
   ·rintro i v ys H' N hv ⟨rfl,rfl⟩ hN;obtain⟨ps,aa,b,rfl,hB⟩:=fX U hv;obtain⟨ae,fs,hb,af⟩:=hB.at;refine g1 ?_;refine⟨_,rfl,b,ae,_,rfl,hb,af _ mn,b,ps,rfl,hB,ht ps (List.mem_of_getElem? aa),hN _ _ ⟨rfl,?_⟩⟩;rw[take_snoc aa,Mf,ie];rfl
   ·rintro ys H' ⟨rfl,rfl⟩ _ l hl;rw[ab,MG];exact q l hl
  have h1:=hok.f.t;refine⟨x,I,rfl,hH,Mr hok.l (by decide),λps hp=>?_,λl hl=>?_⟩
  ·have:=(hok.f.sub (jN hp)).t
   lia
  ·refine⟨l,I.map λps=>d8 (cZ ps),rfl,cS.of cT,by rw[ur];lia,?_⟩;rw[ur];exact kk _ (da hl)
theorem B1:(["key","text"]:LR Str).Nodup:=dkq
noncomputable def Gr:TE:=λσ H Q=>∃(p:LS) (xs:LR V) (ps:LR (Str×Str)),σ[2]? =some (some (.ref p))/\H p=some (.lst xs)/\eX H xs (ps.map kp)/\ps.length<=1000/\∀ l,H l=none->Q (.ref l) (upd H l (.lst ((ps.map (·.1)).map V.str)))
noncomputable def zJ(C CH:LS):Sp:=λvs H Q _=>∃(x:LS) (I:LR (LR (Str×Str))),vs=[.ref x]/\ia C CH H x I/\d6 I/\I.flatten.length<64/\∀ l ts H',cR H H'->H l=none->H' l=some (.lst (ts.map V.str))->ts.Perm (keysOf I)->Q6 ts=true->Q (.ref l) H'
theorem vU:dC ["self","keys","shelf"] ["self"] (c9 kU):=⟨rfl,rfl,rfl,dkq,rfl,dkq,dkq⟩
seal dj PS PE PT PA PG PI dE dD in
theorem Lj{f fs:LS}{fd fds:Mj}(F:dv K "all_keys" "House.all_keys" kU f fd)(HC:gT K mg C CH)(FS:dv K "shelves" "House.shelves" jK fs fds)(mS:Meth K CH "shelves" fs)(GS:cV P w K mg base dc 1 fs fds ["self"] (wz C CH))(T:Txt mg):
  cV P w K mg base dc 2 f fd ["self"] (zJ C CH):=by
 have bS:=FS.binds (ps:=["self"]) λ_ _ _ _ _ _ us hl=>gD (λ_=>rfl) us hl
 refine F.ok vU (λvs H Q E h=>?_) (λcdv A outer s H vs Q E hr h=>?_)
 ·obtain⟨x,I,rfl,_⟩:=h;rfl
 ·obtain⟨x,I,rfl,hH,hok,ak,kk⟩:=h;have hz:(sizeLine:Nat)=16777216:=Mt;refine⟨_,cU (di (i:=1) vU.nd rfl (Mh rfl) (dZ cQ))
   (cU (fx MK rfl (eZ (g0 (pv 0) HC.cl mS GS hr bS .nil du)) (dB (i:=2) vU.nd rfl (Mh rfl))
    (cY (fv (eV PN PySem.F.slot_list_extend PySem.F.type_list_extend tD (pv 1) (cP (PE.imp (t':=Gr) (fP (own:=2) (caps:=[]) (N:=["key","text"]) (N0:=["self","keys","shelf"]) (sc0:=c9 kU) rfl (eZ (pv 2))
     (λ_ _ _=>ir (n:=2) rfl (fe (dB (i:=0) B1 rfl (Mh rfl)) (fe (dB (i:=1) B1 rfl (Mh rfl)) il))) (λ_ _ _=>fF) (λ_ _ _=>pv 0) (oO (iX (eM (by decide)) (iX (eM (by decide)) nB))) rfl rfl
     dkq rfl dkq dkq rfl dkq) ?mK) cQ)))))
   (cY (dg (dR zW rfl T.sorted p7 (cP (pv 1) cQ))))),?_⟩
  case mK=>
   rintro σ H1 Q1 ⟨p,xs,ps,h0,hp,hP,hlen,q⟩;have ab:=Gn.Paired.len hP;rw[LV] at ab;refine⟨_,h0,p,rfl,⟨_,cS.of hp⟩,gC (xs:=xs) (λi ys H'=>H'=H1/\ys=((ps.take i).map (·.1)).map V.str) (by lia) (λi ys H' e=>by rw[e.1];exact cS.of hp) ⟨rfl,rfl⟩ ?_ ?_⟩
   ·rintro i v ys H' N hv ⟨rfl,rfl⟩ hN;obtain⟨kt,ae,t,rfl,ht⟩:=fX hP hv;rw[List.getElem?_map] at ae;obtain⟨pr,J,rfl⟩:=Option.map_eq_some_iff.mp ae;refine⟨t,_,rfl,dY.of ht,rfl,_,_,rfl,_,_,rfl,rfl,qa ?_⟩;refine⟨_,rfl,hN _ _ ⟨rfl,?_⟩⟩;rw[take_snoc J,Mf,Mf];rfl
   ·rintro ys H' ⟨rfl,rfl⟩ _ l hl;rw[ab,MG];exact q l hl
  obtain⟨vl,dx,bs,hx,av,aw⟩:=hH.ex;refine⟨MM _,λkl af=>?_⟩;have s1:cR H (upd H kl (.lst [])):=da af;have e1:upd H kl (.lst []) kl=some (.lst []):=cT;generalize upd H kl (.lst [])=H1 at s1 e1 ⊢;refine⟨_,rfl,x,dx,_,rfl,s1 _ _ hx,gQ,x,I,rfl,hH.same s1,Mr hok.l (by decide),λsl ss H2 s2 ag hS=>?_⟩;have s3:cR H2 (upd H2 sl (.lst ss)):=da ag;have e3:upd H2 sl (.lst ss) sl=some (.lst ss):=cT;have ah:=hS.same s3;generalize upd H2 sl (.lst ss)=H3 at s3 e3 ah ⊢;have k3:=s3 _ _ (s2 _ _ e1);have ao:kl≠sl:=dF (s2 _ _ e1) ag;have hsz:=Gn.Paired.len hS;refine⟨sl,rfl,⟨_,cS.of e3⟩,?_⟩;refine iW (xs:=ss) (λi σ H'=>∃ o:Mc V,σ=[some (.ref x),some (.ref kl),o]/\(∀ a u,a≠kl->H3 a=some u->H' a=some u)/\H' kl=some (.lst ((keysOf (I.take i)).map V.str))) ⟨none,rfl,λa u _ e=>e,k3⟩ ?_ ?_ ?_
  ·rintro i σ H' _ ⟨o,_,U,_⟩;exact cS.of (U _ _ (Nt ao) e3)
  ·rintro i v σ H' hv ⟨o,rfl,U,hk⟩;obtain⟨ps,J,p,xs,rfl,ai,hp,hP⟩:=fX ah hv;have aq:p≠kl:=λz=>by rw[z,e1] at ai;cases ai
   have ar:eX H' xs (ps.map kp):=Gn.Paired.imp2 hP λ_ _ ⟨t,e,q⟩=>⟨t,e,U _ _ (λz=>by rw[z,k3] at q;cases q) q⟩
   have aa:=hok.p
   have au:=(jN (List.mem_of_getElem? J)).length_le;refine⟨_,rfl,.inl ⟨rfl,_,cS.of hk⟩,p,xs,ps,rfl,U _ _ aq hp,ar,by lia,λl hl=>?_⟩;have nl:l≠kl:=λz=>by rw[z,hk] at hl;cases hl
   have hlen:(keysOf (I.take i)).length<=150:=by
    unfold keysOf;rw[LV];have e:I.flatten=(I.take i).flatten++(I.drop i).flatten:=by rw[<-Nm,NR]
    rw[e,Md] at aa
    lia
   refine⟨kl,l,_,_,rfl,rfl,(cW (Nt nl)).trans hk,cT,by rw[LV,LV,LV];lia,?_⟩;refine⟨_,rfl,λa u ha e=>?_,?_⟩
   ·rw[cW ha];have e':=U a u ha e;rw[cW (dF e' hl)];exact e'
   ·rw[cT,take_snoc J]
    congr 2
    unfold keysOf;rw[Nm,Mf,Mf];simp
  ·rintro σ H' ⟨o,rfl,U,hk⟩;rw[hsz,MG] at hk;have aj:(keysOf I).length<64:=by unfold keysOf;rw[LV];exact ak
   refine⟨_,rfl,kl,keysOf I,rfl,cS.of hk,aj,λl ts hl hp hs=>?_⟩;have sH:cR H H':=λa u e=>U a u (dF e af) (s3 _ _ (s2 _ _ (s1 _ _ e)))
   exact kk l ts _ (cR.upd sH hl) (sH.free hl) cT hp hs
end
section
variable {P : Mq} {w : MT} {K : Mz} {mg : Str -> Mc LW} {base : Nn}
theorem zc:∀ cs:LR Nat,PySem.Str.join (LU "") (cs.map λc=>(⟨#[c]⟩:Str))=⟨cs.toArray⟩
 |[]=>rfl
 |[c]=>rfl
 |c::d::r=>by
  show(⟨[c].toArray⟩:Str)++LU ""++PySem.Str.join (LU "") ((d::r).map λc=>(⟨#[c]⟩:Str))=_;rw[zc (d::r),Jg,qp,qp];rfl
theorem join_eq(cs:LR Nat):Txt.join (LU "") (cs.map λc=>(⟨#[c]⟩:Str))=⟨cs.toArray⟩:=by
 show Builtin.Str.glued _ _=_;rw[StrLaws.glued_eq_join];exact zc cs
theorem uZ(cs:LR Nat):((cs.map λc=>(⟨#[c]⟩:Str)).map (·.length)).sum=cs.length:=by
 induction cs with
 |nil=>rfl
 |cons c r I=>rw[Nb,Nb,OO,I,Ms];show 1+_=_;(clear I;lia)
theorem HD{z:Str}{l u:Mc Int}{c:Nat}(h:c∈(Txt.slice z l u).cps.toList):c∈z.cps.toList:=by
 unfold Txt.slice at h;split at h
 ·exact h
 ·have h':c∈(Builtin.Str.strSliceIndices l u 1 z.length).filterMap (z.cps[·]?):=by simpa using h
  obtain⟨i,_,e⟩:=List.mem_filterMap.mp h';have:=Array.mem_of_getElem? e;simpa using this
theorem jM{p:Nat->Nw}{z:Str}(l u:Mc Int)(h:z.cps.toList.all p=true):(Txt.slice z l u).cps.toList.all p=true:=
 List.all_eq_true.mpr λc I=>List.all_eq_true.mp h c (HD I)
theorem JL{z:Str}{i j c:Nat}(h:c∈(Builtin.Str.strSub z i j).cps.toList):c∈z.cps.toList:=by
 have h':c∈(z.cps.extract i j).toList:=h;rw[Ql] at h';exact Qm (Pn h')
theorem Dw{p:Nat->Nw}{z:Str}(h:z.cps.toList.all p=true):(Txt.strip z).cps.toList.all p=true:=by
 refine List.all_eq_true.mpr λc I=>List.all_eq_true.mp h c ?_
 unfold Txt.strip at I;rw[stripBy_eq] at I;exact JL I
theorem m7{p:Nat->Nw}{a b:Str}(ha:a.cps.toList.all p=true)(hb:b.cps.toList.all p=true):(a++b).cps.toList.all p=true:=by
 rw[PySem.Str.cps_append,Array.toList_append,O8,ha,hb];rfl
theorem DX:∀ c,c<128->dW c=true->eJ (up1 c)=true:=dkq
theorem xD{z:Str}(h:z.cps.toList.all dW=true):(Txt.upper z).cps.toList.all eJ=true/\(Txt.upper z).length=z.length:=by
 rw[upper_ascii λc I=>jE (List.all_eq_true.mp h c I)];refine⟨?_,by simp[NB]⟩;rw[Rk,Ru];exact List.all_eq_true.mpr λc I=>DX c (jE (List.all_eq_true.mp h c I)) (List.all_eq_true.mp h c I)
theorem y2{z:Str}(h:z.cps.toList.all dW=true):z.cps.toList.all eJ=true:=List.all_eq_true.mpr λc I=>wq (List.all_eq_true.mp h c I)
theorem wK{p:Nat->Nw}{l:LR Nat}(h:l.all p=true){i:Nat}(hi:i<l.length):p l[i]=true:=List.all_eq_true.mp h _ (Pq hi)
noncomputable def pL(c:Nat):Nw:=dW (K01.lo c)
noncomputable def sc(p:Nw):LR Nat->Nat
 |[]=>0
 |c::r=>(if pL c=true/\p=false then 1 else 0)+sc (pL c) r
noncomputable def lX(p:Nw):LR Nat->Nw
 |[]=>p
 |c::r=>lX (pL c) r
theorem rG:∀(a b:LR Nat) (p:Nw),sc p (a++b)=sc p a+sc (lX p a) b
 |[],b,p=>by
  show sc p b=0+sc p b
  lia
 |c::a,b,p=>by
  show _+sc (pL c) (a++b)=_+sc (pL c) a+sc (lX (pL c) a) b;rw[rG a b (pL c),Nat.add_assoc]
theorem zT:∀(b:LR Nat),sc true b<=sc false b/\sc false b<=sc true b+1
 |[]=>⟨Ma _,NC _⟩
 |c::r=>by
  show(if pL c=true/\true=false then 1 else 0)+sc (pL c) r<=(if pL c=true/\false=false then 1 else 0)+sc (pL c) r/\(if pL c=true/\false=false then 1 else 0)+sc (pL c) r<=(if pL c=true/\true=false then 1 else 0)+sc (pL c) r+1;rw[LX (show ¬ (pL c=true/\true=false) from λz=>nomatch z.2)];constructor
  ·lia
  ·split<;>lia
theorem Gh(p:Nw)(b:LR Nat):sc p b<=sc false b:=by
 cases p
 ·exact Ma _
 ·exact(zT b).1
theorem yN:∀(a:LR Nat) (p:Nw),lX p a=true->p=true\/1<=sc p a
 |[],p,h=> .inl h
 |c::a,p,h=>by
  have h':lX (pL c) a=true:=h
  show p=true\/1<=(if pL c=true/\p=false then 1 else 0)+sc (pL c) a;rcases yN a (pL c) h' with q|q
  ·cases p
   ·rw[LZ ⟨q,rfl⟩];exact .inr (by lia)
   ·exact .inl rfl
  ·exact .inr (by lia)
theorem Aq(a b:LR Nat):sc false (a++b)<=sc false a+sc false b:=by
 rw[rG];have:=Gh (lX false a) b
 lia
theorem Fo(a b:LR Nat):sc false a<=sc false (a++b):=by rw[rG];lia
theorem Jz(a b:LR Nat):sc false b<=sc false (a++b):=by
 rw[rG];cases h:lX false a with
 |false=>lia
 |true=>
  have h1:=(zT b).2;rcases yN a false h with q|q
  ·cases q
  ·lia
theorem zt:∀(y:LR Nat) (p:Nw),y.all pL=true->sc p y<=(if p=true then 0 else 1)
 |[],p,_=>MM _
 |c::y,p,h=>by
  rw[OC,MO] at h;have I:=zt y (pL c) h.2;rw[LZ h.1] at I;show(if pL c=true/\p=false then 1 else 0)+sc (pL c) y<=_;cases p
  ·rw[LZ ⟨h.1,rfl⟩,LX (by decide)]
   lia
  ·rw[LX (λz=>nomatch z.2),LZ rfl]
   lia
theorem uU:∀(t:LR Nat) (p:Nw),t.all (λc=> !pL c)=true->sc p t=0
 |[],p,_=>rfl
 |c::t,p,h=>by
  rw[OC,MO] at h;have I:pL c=false:=by simpa using h.1
  have J:=uU t (pL c) h.2
  show(if pL c=true/\p=false then 1 else 0)+sc (pL c) t=0;rw[J,LX (λz=>by rw[I] at z;cases z.1)]
theorem tT:∀(r:LR Nat) (i:Nat) (w:LR Nat),(fW (r.map K01.lo) i w).length=(if w=[] then 0 else 1)+sc (decide (w≠[])) r
 |[],i,w=>by
  show(flush i w).length=_;unfold flush;by_cases h:w=[]
  ·rw[LZ h,LZ h];rfl
  ·rw[LX h,LX h];rfl
 |c::r,i,w=>by
  show(fW (K01.lo c::r.map K01.lo) i w).length=_+((if pL c=true/\decide (w≠[])=false then 1 else 0)+sc (pL c) r);cases h:dW (K01.lo c) with
  |true=>
   have I:pL c=true:=h;rw[mq h,tT r (i+1) (w++[K01.lo c]),LX (by simp),I];have e:decide (w++[K01.lo c]≠[])=true:=by simp
   rw[e];by_cases hw:w=[]
   ·rw[LZ hw,LZ ⟨rfl,by simp[hw]⟩]
    lia
   ·rw[LX hw,LX (λz=>by have:=z.2;simp[hw] at this)]
    lia
  |false=>
   have I:pL c=false:=h;rw[kX h,Md,tT r (i+1) [],LZ (rfl:([]:LR Nat)=[]),I,LX (show ¬ (false=true/\decide (w≠[])=false) from λz=>nomatch z.1)];have e:decide (([]:LR Nat)≠[])=false:=by simp
   rw[e];unfold flush;by_cases hw:w=[]
   ·rw[LZ hw,LZ hw];show 0+(0+sc false r)=0+(0+sc false r);rfl
   ·rw[LX hw,LX hw];show 1+(0+sc false r)=1+(0+sc false r);rfl
theorem ER(cs:LR Nat):(words cs).length=sc false cs:=by
 have:=tT cs 0 [];rw[LZ rfl] at this;have e:decide (([]:LR Nat)≠[])=false:=by simp
 rw[e,P5] at this;exact this
theorem vW(z:Str):(tw z).length=sc false (codes z):=by unfold tw;rw[LV,ER]
theorem qf(a b:Str):codes (a++b)=codes a++codes b:=by
 unfold codes;rw[PySem.Str.cps_append,Array.toList_append]
theorem HF(l:LR Nat)(i j:Nat):sc false ((l.drop i).take (j-i))<=sc false l:=by
 have h1:=Fo ((l.drop i).take (j-i)) ((l.drop i).drop (j-i));rw[NR] at h1;have h2:=Jz (l.take i) (l.drop i);rw[NR] at h2;exact Mr h1 h2
theorem GY(z:Str):sc false (codes (Txt.strip z))<=sc false (codes z):=by
 unfold Txt.strip;rw[stripBy_eq];have key:∀ i j:Nat,sc false (z.cps.extract i j).toList<=sc false z.cps.toList:=λi j=>by
  rw[Ql];exact HF z.cps.toList i j
 exact key _ _
theorem Cj:∀ c,c<128->dW c=true->pL c=true:=dkq
theorem Lx:∀ c,c<128->dW c=true->pL (up1 c)=true:=dkq
theorem vF{z:Str}(h:z.cps.toList.all dW=true):z.cps.toList.all pL=true:=List.all_eq_true.mpr λc I=>Cj c (jE (List.all_eq_true.mp h c I)) (List.all_eq_true.mp h c I)
theorem AK{z:Str}(h:z.cps.toList.all dW=true):(Txt.upper z).cps.toList.all pL=true:=by
 rw[upper_ascii λc I=>jE (List.all_eq_true.mp h c I),Rk,Ru];exact List.all_eq_true.mpr λc I=>Lx c (jE (List.all_eq_true.mp h c I)) (List.all_eq_true.mp h c I)
theorem Dm{R:Str}{i j:Int}(hi:0<=i)(hij:i<=j)(hj:j<=R.length):(Txt.slice R none (some i)).length+(Txt.slice R (some i) (some j)).length<=j.toNat:=by
 have l:(R.cps.toList.length:Int)=R.length:=by simp[NB]
 have I:Txt.slice R none (some i)=_:=OG ⟨hi,by lia⟩
 have J:Txt.slice R (some i) (some j)=_:=Qn ⟨hi,hij,by lia⟩;rw[I,J,iY,iY,ML,ML,NJ,NJ]
 lia
theorem Dj(z:Str):(Txt.slice z none (some 1)).length+(Txt.slice z (some 1) none).length<=z.length:=by
 have l:z.cps.toList.length=z.length:=by simp[NB]
 by_cases h:z.length=0
 ·have a:=Txt.slice_le z none (some 1)
  have b:=Txt.slice_le z (some 1) none
  lia
 ·have I:Txt.slice z none (some 1)=_:=OG ⟨by decide,by lia⟩
  have J:Txt.slice z (some 1) none=_:=Qw ⟨by decide,by lia⟩;rw[I,J,iY,iY,ML,ML,NJ,NJ]
  lia
noncomputable def Wm(z:Str):Prop:=z.length<=7/\z.cps.toList.all dW=true
noncomputable def kj(w:LR Nat):LR (LR Nat):=if w=[] then [] else [w]
noncomputable def runs:LR Nat->LR Nat->LR (LR Nat)
 |w,[]=>kj w
 |w,c::r=>if pL c=true then runs (w++[K01.lo c]) r else kj w++runs [] r
theorem sj{w r:LR Nat}{c:Nat}(h:pL c=true):runs w (c::r)=runs (w++[K01.lo c]) r:=by rw[runs,LZ h]
theorem pE{w r:LR Nat}{c:Nat}(h:pL c=false):runs w (c::r)=kj w++runs [] r:=by rw[runs,LX (by rw[h];decide)]
theorem tU:∀(r:LR Nat) (i:Nat) (w:LR Nat),(fW (r.map K01.lo) i w).map (·.1)=runs w r
 |[],i,w=>by
  show(flush i w).map (·.1)=kj w;unfold flush kj;split<;>rfl
 |c::r,i,w=>by
  rw[Nb];cases h:dW (K01.lo c) with
  |true=>rw[mq h,tU r,sj (show pL c=true from h)]
  |false=>
   rw[kX h,Mf,tU r,pE (show pL c=false from h)]
   congr 1
   unfold flush kj;split<;>rfl
theorem HV(z:Str):tw z=(runs [] (codes z)).map λr=>(⟨r.toArray⟩:Str):=by
 unfold tw words;rw[<-tU _ 0 [],NG];rfl
theorem sr:∀(a b:LR Nat),a.all (λc=> !pL c)=true->runs [] (a++b)=runs [] b
 |[],_,_=>rfl
 |c::a,b,h=>by
  rw[OC,MO] at h;have I:pL c=false:=by simpa using h.1
  show runs [] (c::(a++b))=_;rw[pE I,sr a b h.2];rfl
theorem qL:∀(a:LR Nat) (w:LR Nat) (s:Nat) (b:LR Nat),pL s=false->runs w (a++s::b)=runs w a++runs [] b
 |[],w,s,b,h=>pE h
 |c::a,w,s,b,h=>by
  show runs w (c::(a++s::b))=_;cases hc:pL c with
  |true=>rw[sj hc,sj hc,qL a _ s b h]
  |false=>rw[pE hc,pE hc,qL a _ s b h,Nc]
theorem y6:∀(y w:LR Nat),y.all pL=true->runs w y=kj (w++y.map K01.lo)
 |[],w,_=>by rw[Ro,MR];rfl
 |c::y,w,h=>by
  rw[OC,MO] at h;rw[sj h.1,y6 y _ h.2,Nb,Nc];rfl
theorem Km{w r:LR Nat}(h:r∈kj w):r=w/\r≠[]:=by
 unfold kj at h;split at h
 ·cases h
 ·rename_i n;have e:=List.mem_singleton.mp h;exact⟨e,by rw[e];exact n⟩
noncomputable def Mp(ws:LR Str)(x:Str):Prop:=∀ r∈runs [] (codes x),∃ z∈ws,r <+:codes z
noncomputable def Cl(ws:LR Str)(x:Str):Prop:=∀ b,∀ r∈runs [] (codes x++b),(∃ z∈ws,r=codes z)\/r∈runs [] b
theorem Cl.none {ws:LR Str}{x:Str}(h:(codes x).all (λc=> !pL c)=true):Cl ws x:=λb r I=>by
 rw[sr _ _ h] at I;exact .inr I
theorem Cl.rp {ws:LR Str}{x:Str}(h:Cl ws x):Mp ws x:=λr I=>by
 rcases h [] r (by rw[MR];exact I) with ⟨z,J,e⟩|e
 ·exact⟨z,J,by rw[e];exact List.prefix_refl _⟩
 ·exact nomatch e
theorem Cl.go {ws:LR Str}{x y t z:Str}(h:Cl ws x)(hy:(codes y).all pL=true)(hz:z∈ws)(e:(codes y).map K01.lo=codes z)(ht:(codes t).all (λc=> !pL c)=true)(hn:codes t≠[]):Cl ws (x++y++t):=λb r I=>by
 rw[qf,qf,Nc,Nc] at I;rcases h _ r I with q|q
 ·exact .inl q
 ·cases et:codes t with
  |nil=>exact absurd et hn
  |cons s t'=>
   rw[et,OC,MO] at ht;have hs:pL s=false:=by simpa using ht.1
   rw[et] at q;have q':r∈runs [] (codes y++s::(t'++b)):=q;rw[qL _ _ _ _ hs,y6 _ _ hy,sr _ _ ht.2] at q';rcases List.mem_append.mp q' with q'|q'
   ·exact .inl ⟨z,hz,by rw[<-e];exact(Km q').1⟩
   ·exact .inr q'
theorem FU:∀ c,c<128->M9 c=true->pL c=false:=dkq
theorem JP(z:Str):∃ a b,codes z=a++(codes (Txt.strip z)++b)/\a.all M9=true/\b.all M9=true:=by
 have I:∀ l:LR Nat,(l.takeWhile M9).all M9=true:=λl=>by
  induction l with
  |nil=>rfl
  |cons c l ih=>
   rw[List.takeWhile_cons];split
   ·rename_i hc;rw[OC,hc,ih];rfl
   ·rfl
 obtain⟨l,el⟩:∃ l,l=codes z:=⟨_,rfl⟩;obtain⟨m,em⟩:∃ m,m=l.dropWhile M9:=⟨_,rfl⟩;have e1:l=l.takeWhile M9++m:=by rw[em];exact List.takeWhile_append_dropWhile.symm
 have e2:m=(m.reverse.dropWhile M9).reverse++(m.reverse.takeWhile M9).reverse:=by
  have:=Nl List.reverse (List.takeWhile_append_dropWhile (p:=M9) (l:=m.reverse));rw[List.reverse_append,Qk] at this;exact this.symm
 refine⟨l.takeWhile M9,(m.reverse.takeWhile M9).reverse,?_,I l,by rw[List.all_reverse];exact I _⟩;have e3:codes (Txt.strip z)=(m.reverse.dropWhile M9).reverse:=by
  unfold Txt.strip;rw[stripBy_eq];show(z.cps.extract (z.cps.toList.takeWhile M9).length (z.length-((z.cps.toList.drop (z.cps.toList.takeWhile M9).length).reverse.takeWhile M9).length)).toList=_;rw[Ql];have U:z.cps.toList=l:=el.symm;have aa:z.length=l.length:=by rw[<-U];simp[NB]
  rw[U,aa];have ed:l.drop (l.takeWhile M9).length=m:=by
   have:=Nl (List.drop (l.takeWhile M9).length) e1;rw[List.drop_left] at this;exact this
  rw[List.extract_eq_drop_take,ed];have hlen:=Nl MQ e1;rw[Md] at hlen;have J:=Nl MQ e2;rw[Md,OR,OR] at J;have e4:l.length-(m.reverse.takeWhile M9).length-(l.takeWhile M9).length=(m.reverse.dropWhile M9).reverse.length:=by rw[OR];lia
  rw[e4];have:=Nl (List.take (m.reverse.dropWhile M9).reverse.length) e2;rw[RF] at this;exact this
 rw[e3,<-e2,<-el];exact e1
theorem Mp.strip {ws:LR Str}{x:Str}(h:Mp ws x)(ha:(codes x).all eJ=true):Mp ws (Txt.strip x):=λr U=>by
 obtain⟨a,b,e,h1,h2⟩:=JP x;have J:∀ l:LR Nat,(∀ c∈l,c∈codes x)->l.all M9=true->l.all (λc=> !pL c)=true:=λl hl h=>List.all_eq_true.mpr λc I=>by
  rw[FU c (jz (List.all_eq_true.mp ha c (hl c I))) (List.all_eq_true.mp h c I)];rfl
 refine h r ?_;rw[e,sr _ _ (J a (λc I=>by rw[e];exact MX _ I) h1)];have h3:=J b (λc I=>by rw[e];exact MA _ (MA _ I)) h2;cases b with
 |nil=>rw[MR];exact U
 |cons s b=>
  rw[OC,MO] at h3;rw[qL _ _ _ _ (by simpa using h3.1)];exact MX _ U
noncomputable def pres(ws:LR Str):LR Str:=ws.flatMap λz=>(NQ 8).map λn=>(⟨((codes z).take n).toArray⟩:Str)
theorem KZ(ws:LR Str):(pres ws).length=8*ws.length:=by
 unfold pres;induction ws with
 |nil=>rfl
 |cons z r I=>
  rw[List.flatMap_cons,Md,I,LV,Pf,Ms]
  lia
theorem Mp.pres {ws:LR Str}{x:Str}(h:Mp ws x)(hw:∀ z∈ws,Wm z):∀ y∈tw x,y∈K25.pres ws:=λy I=>by
 rw[HV] at I;obtain⟨r,hr,rfl⟩:=List.mem_map.mp I;obtain⟨z,J,hp⟩:=h r hr;obtain⟨t,U⟩:=hp;have hl:=(hw z J).1;have aa:(codes z).length=z.length:=by unfold codes;simp[NB]
 have ab:r.length<=7:=by
  have:(r++t).length=(codes z).length:=by rw[U]
  rw[Md] at this
  lia
 refine List.mem_flatMap.mpr ⟨z,J,List.mem_map.mpr ⟨r.length,List.mem_range.mpr (by lia),?_⟩⟩;rw[<-U,List.take_left'];rfl
noncomputable def As:Sp:=λvs H Q _=>∃ n:Int,vs=[.int n]/\∀ a H' (ws:LR Str),cR H H'->H' a=some (.lst (ws.map V.str))->ws.length=5->(∀ z∈ws,Wm z)->Q (.ref a) H'
theorem j6:dC ["_law_number_here","_law_signs","_law_rest","_law_k","_law_size","_law_at","_law_found","_law_sign"] ["_law_number_here"] (c9 lQ):=⟨rfl,rfl,rfl,dkq,rfl,dkq,dkq⟩
theorem Jq:(["_law_j","_law_signs","_law_number_here"]:LR Str).Nodup:=dkq
theorem Li:(["_law_k","_law_rest"]:LR Str).Nodup:=dkq
seal dj PS PE PT PA PG PI dE dD in
theorem JK{f fm:LS}{fd fdm:Mj}(D:Df K mg "_law_menu" lQ f fd)(DM:Df K mg "_law_mixed" kM fm fdm)(T:Txt mg):cV P w K mg base dc 2 f fd ["_law_number_here"] As:=by
 have GM:cV P w K mg base dc 1 fm fdm ["_law_number_here","_law_k"] pC:=qO DM
 have bM:=DM.F.binds (ps:=["_law_number_here","_law_k"]) λ_ _ _ _ _ _ us hl=>eO (λ_ _=>rfl) us hl
 refine D.F.ok j6 (λvs H Q E h=>?_) (λcdv A outer s H vs Q E hr h=>?_)
 ·obtain⟨n,rfl,_⟩:=h;rfl
 ·obtain⟨n,rfl,kk⟩:=h;have hl:(sizeLine:Nat)=16777216:=Mt;refine⟨_,cU (di (i:=1) j6.nd rfl (Rq rfl) dq)
   (cU (uX (dU fV (de eR (pv 0) cX) cX (dH _)) (cY (di (i:=1) j6.nd rfl (Rq rfl) dq)) dO)
   (cU (di (i:=2) j6.nd rfl (Rq rfl) (eV NZ Rz RA tX dq (cP (fP (own:=1) (caps:=[1,0]) (N:=["_law_j","_law_signs","_law_number_here"])
     (N0:=["_law_number_here","_law_signs","_law_rest","_law_k","_law_size","_law_at","_law_found","_law_sign"]) (sc0:=c9 lQ) rfl
    (iO rfl T.range (cP cX cQ)) (λ_ _ _=>dB (i:=0) Jq rfl (Mh rfl)) (λ_ _ _=>fF)
    (λ_ _ _=>eB sZ (pv 1) (de eR (dw GM hr rfl DM.m DM.F.kp bM .nil du (cP (pv 2) (cP (de eP cX (pv 0)) cQ))) cX) (λ_ _=>rfl)) (eM (by decide)) rfl rfl
    dkq rfl dkq dkq rfl dkq) cQ)))
   (cU (dP (dU fV (de eR (de gz (pv 0) cX) cX) cX (dH _))
    (cY (dg (fP (own:=1) (caps:=[2]) (N:=["_law_k","_law_rest"])
     (N0:=["_law_number_here","_law_signs","_law_rest","_law_k","_law_size","_law_at","_law_found","_law_sign"]) (sc0:=c9 lQ) rfl
     (iO rfl T.range (cP cX cQ)) (λ_ _ _=>dB (i:=0) Li rfl (Mh rfl)) (λ_ _ _=>fF)
     (λ_ _ _=>ik jS (pv 1) js (gL (de eP (pv 0) cX))) (eM (by decide)) rfl rfl
     dkq rfl dkq dkq rfl dkq))) dO)
   (cU (di (i:=4) j6.nd rfl (Mh rfl) (de eR (de gz (pv 0) cX) cX))
   (cU (di (i:=5) j6.nd rfl (Mh rfl) (de eR (de gz (pv 0) cX) (de eP (pv 4) cX)))
   (cU (di (i:=6) j6.nd rfl (Mh rfl) (dZ cQ))
   (cU (fx MK rfl (iO rfl T.range (cP cX cQ)) (dB (i:=3) j6.nd rfl (Mh rfl))
    (cU (di (i:=7) j6.nd rfl (Mh rfl) (eB sZ (pv 1) (de eR (de eP (de gz (pv 0) cX) (de jg cX (pv 3))) cX) (λ_ _=>rfl)))
    (cY (fv (eV MP MN MS gE (pv 6)
     (cP (de kZ (de kZ (ik jS (pv 2) js (gL (pv 5))) (pv 7)) (ik jS (pv 2) (gL (pv 5)) (gL (pv 4)))) cQ))))))
   (cY (dg (pv 6)))))))))),?_⟩;refine⟨λak H'=>H'=H/\∃ S:Str,S.cps.toList.all dW=true/\S.length=26/\ak=[some (.int n),some (.str S),none,none,none,none,none,none],?_,?_⟩
  ·refine⟨_,rfl,_,_,rfl,rfl,(by show(0:Int)<3;decide),rfl,_,rfl,?_⟩;refine oZ (λ_=>?_) (λ_=>?_)
   ·exact⟨rfl,LU "0a1b2c3d4e5f6g7h8i9jklmnop",dkq,dkq,rfl⟩
   ·exact⟨rfl,LU "abcdefghijklmnopqrstuvwxyz",dkq,dkq,rfl⟩
  ·rintro ak H' ⟨rfl,S,hS,I,rfl⟩;have J:(codes S).length=26:=by unfold codes;rw[str_len];exact I
   refine⟨rfl,6,rfl,by decide,by decide,ow (λi ys H1=>H1=H'/\∃ cs:LR Nat,cs.length=i/\cs.all dW=true/\ys=cs.map λc=>V.str ⟨#[c]⟩) (by rw[hl];decide) ⟨rfl,[],rfl,rfl,rfl⟩ ?_ ?_⟩
   ·rintro i ys H1 N hi ⟨rfl,cs,hc,hok,rfl⟩ hN;have ai:i<6:=hi;refine g1 ?_;refine⟨_,rfl,_,rfl,_,rfl,_,_,rfl,rfl,_,_,rfl,by(clear ai hok hc hi J I hS hl;lia),by(clear ai hok hc J I hS hl;lia),λr r0 r1=>?_⟩;refine⟨_,_,rfl,rfl,(by show(0:Int)<26;decide),?_⟩;obtain⟨j,hj,aa⟩:=kG (r:=r) (n:=26) (by decide);have ae:j<(codes S).length:=by(clear aa r1 r0 ai hok hc hi I hS hl;lia)
    refine⟨S,_,(codes S)[j],rfl,rfl,by(clear ae aa hj r1 r0 ai hok hc hi J hS;lia),?_,hN _ _ ⟨rfl,cs++[(codes S)[j]],by simp[hc],by rw[O8,hok];simp[wK (p:=dW) (l:=codes S) hS ae],by rw[Mf];rfl⟩⟩;rw[<-hj];exact dS (List.getElem?_eq_getElem ae)
   ·rintro ys H1 ⟨rfl,cs,hc,hok,rfl⟩ _ p hp;have U:cs.length=6:=hc;refine⟨_,p,cs.map λc=>(⟨#[c]⟩:Str),rfl,rfl,cS.of (by rw[cT,NG];rfl),?_,?_⟩
    ·rw[uZ,LV];show cs.length+cs.length*0<=_
     (clear U hp hok J I hS hl;lia)
    rw[join_eq];have sm:cR H1 (upd H1 p (.lst (cs.map λc=>V.str ⟨#[c]⟩))):=da hp;generalize hG:upd H1 p (.lst (cs.map λc=>V.str ⟨#[c]⟩))=H2 at sm;have hR:(⟨cs.toArray⟩:Str).cps.toList.all dW=true:=by simpa using hok
    have ag:(⟨cs.toArray⟩:Str).length=6:=by rw[iY];exact U
    generalize (⟨cs.toArray⟩:Str)=R at hR ag;refine⟨_,rfl,_,_,rfl,rfl,⟨by decide,by decide⟩,_,_,rfl,rfl,(by show(0:Int)<3;decide),rfl,_,rfl,?_⟩;refine oZ (λ_=>?_) (λ_=>?_)
    ·refine⟨5,rfl,by decide,by decide,ow (λi ys H3=>H3=H2/\∃ ws:LR Str,ws.length=i/\(∀ z∈ws,Wm z)/\ys=ws.map V.str) (by rw[hl];decide) ⟨rfl,[],rfl,λz hz=>by simp at hz,rfl⟩ ?_ ?_⟩
     ·rintro i ys H3 N hi ⟨rfl,ws,hw,ab,rfl⟩ hN;refine g1 ?_;refine⟨_,rfl,_,rfl,_,_,rfl,rfl,_,rfl,R,rfl,by(clear hw hG hi hR U hp hok hc J I hS;lia),hN _ _ ⟨rfl,ws++[Txt.slice R none (some ((0:Int)+i+1))],by simp[hw],λz hz=>?_,by rw[Mf];rfl⟩⟩;rcases List.mem_append.mp hz with q|q
      ·exact ab z q
      ·have e:z=Txt.slice R none (some ((0:Int)+i+1)):=by simpa using q
       rw[e];have:=Txt.slice_le R none (some ((0:Int)+i+1));exact⟨by(clear e hw hG hi hR U hp hok hc J I hS hl;lia),jM _ _ hR⟩
     ·rintro ys H3 ⟨rfl,ws,hw,ab,rfl⟩ _ q hq;exact kk q _ ws (sm.trans (da hq)) cT hw ab
    ·refine⟨_,rfl,_,_,rfl,rfl,⟨by decide,by decide⟩,_,_,rfl,rfl,(by show(0:Int)<5;decide),?_⟩;have s0:=Pz (n/9) (show(5:Int)≠0 by decide);refine⟨_,rfl,_,_,rfl,rfl,⟨by decide,by decide⟩,_,rfl,_,_,rfl,rfl,_,_,rfl,rfl,(by show(0:Int)<n/9%5+1;(clear s0 ag hR hG U hp hok hc J I hS hl;lia)),?_⟩;refine⟨MM _,λa ha=>?_⟩;refine⟨5,rfl,by decide,by decide,mm (λi σ H3=>∃(ws:LR Str) (v3 v7:Mc V),σ=[some (.int n),some (.str S),some (.str R),v3,some (.int (n/9%5)),some (.int (n/45%(n/9%5+1))),some (.ref a),v7]/\cR H1 H3/\H3 a=some (.lst (ws.map V.str))/\ws.length=i/\∀ z∈ws,Wm z) ?_ ?_ ?_⟩
     ·exact⟨[],none,none,rfl,sm.trans (da ha),cT,rfl,λz hz=>by simp at hz⟩
     ·rintro i σ H3 hi ⟨ws,v3,v7,rfl,aj,hA,hw,ab⟩;have af:i<5:=hi;refine⟨_,rfl,_,rfl,_,_,rfl,rfl,⟨by decide,by decide⟩,_,rfl,_,_,rfl,rfl,.inl ⟨by decide,by decide⟩,_,_,rfl,rfl,_,_,rfl,rfl,(by show(0:Int)<26;decide),?_⟩;obtain⟨j,hj,aa⟩:=kG (r:=n/225+5*(0+(i:Int))) (n:=26) (by decide);have ae:j<(codes S).length:=by(clear aa af hw hA hi ha s0 ag hR hG U hp hok hc I hS hl;lia)
      refine⟨S,_,(codes S)[j],rfl,rfl,by(clear ae aa hj af hw hA hi ha s0 ag hR hG U hp hok hc J hS;lia),by rw[<-hj];exact dS (List.getElem?_eq_getElem ae),?_⟩;have l1:=Txt.slice_le R none (some (n/45%(n/9%5+1)));have l2:=Txt.slice_le R (some (n/45%(n/9%5+1))) (some (n/9%5));have ah:(⟨#[(codes S)[j]]⟩:Str).length=1:=rfl;have ao:(Txt.slice R none (some (n/45%(n/9%5+1)))).length+(Txt.slice R (some (n/45%(n/9%5+1))) (some (n/9%5))).length<=4:=by
       have z1:=O1 (n/9) (show(0:Int)<5 by decide)
       have z2:=O1 (n/45) (show(0:Int)<n/9%5+1 by lia)
       have z3:=Pz (n/45) (show n/9%5+1≠0 by lia)
       have:=Dm (R:=R) z3 (show n/45%(n/9%5+1)<=n/9%5 by lia) (by rw[ag];lia)
       lia
      refine⟨_,rfl,.inl ⟨rfl,_,cS.of hA⟩,_,rfl,_,rfl,_,rfl,R,rfl,by(clear ah l2 l1 ae aa hj af hw hA hi ha s0 hR hG U hp hok hc J I hS;lia),_,rfl,_,_,rfl,rfl,by(clear l2 aa hj af hw hA hi ha s0 hR hG U hp hok hc J I hS;lia),_,rfl,_,rfl,_,rfl,_,rfl,_,rfl,R,rfl,by(clear ah l2 l1 ae aa hj af hw hA hi ha s0 hR hG U hp hok hc J I hS;lia),_,_,rfl,rfl,by rw[NM];(clear aa hj af hw hA hi ha s0 hR hG U hp hok hc J I hS;lia),?_⟩;have aq:a≠a->Om:=λz=>z rfl
      refine⟨a,_,_,rfl,rfl,hA,by simp;(clear ah l2 l1 ae aa hj af hA ha s0 ag hR hG U hp hok hc J I hS;lia),?_⟩;refine⟨ws++[Txt.slice R none (some (n/45%(n/9%5+1)))++⟨#[(codes S)[j]]⟩++Txt.slice R (some (n/45%(n/9%5+1))) (some (n/9%5))],_,_,rfl,λb u e=>?_,by rw[cT,Mf];rfl,by simp[hw],λz hz=>?_⟩
      ·have hb:b≠a:=λz=>by subst z;rw[sm.free ha] at e;cases e
       rw[cW hb];exact aj b u e
      ·rcases List.mem_append.mp hz with q|q
       ·exact ab z q
       ·have e:z=Txt.slice R none (some (n/45%(n/9%5+1)))++⟨#[(codes S)[j]]⟩++Txt.slice R (some (n/45%(n/9%5+1))) (some (n/9%5)):=by simpa using q
        rw[e];refine⟨by rw[NM,NM];(clear e aa hj af hw hA hi ha s0 hR hG U hp hok hc J I hS hl;lia),m7 (m7 (jM _ _ hR) ?_) (jM _ _ hR)⟩;simp[wK (p:=dW) (l:=codes S) hS ae]
     ·rintro σ H3 ⟨ws,v3,v7,rfl,aj,hA,hw,ab⟩;exact⟨_,rfl,kk a H3 ws aj hA hw ab⟩
theorem lB{ss:LR Str}{n L:Int}(h0:0<ss.length)(hL:L=(ss.length:Nat)):∃ z∈ss,iT (ss.map V.str) (n%L)=some (.str z):=by
 obtain⟨v,I,e⟩:=IX (xs:=ss.map V.str) (n:=n) (L:=L) (by rw[LV];exact h0) (by rw[LV];exact hL);obtain⟨z,J,rfl⟩:=List.mem_map.mp I;exact⟨z,J,e⟩
noncomputable def jt:LR Str:=[" ","  ",", ","\n","-",". "," [","] ","_"," \\ ","/","; "]
noncomputable def oI:LR Str:=["",""," ","\n\n","- "]
theorem IV:∀ z∈jt,z.length<=3/\z.cps.toList.all eJ=true:=dkq
theorem GJ:∀ z∈oI,z.length<=2/\z.cps.toList.all eJ=true:=dkq
theorem IF(z:Str):(Txt.strip z).length<=z.length:=by
 unfold Txt.strip;rw[stripBy_eq];show(z.cps.extract _ _).size<=z.cps.size;rw[Array.size_extract]
 lia
theorem BA:∀ z∈jt,z.cps.toList.all (λc=> !pL c)=true:=dkq
theorem yR:∀ z∈oI,z.cps.toList.all (λc=> !pL c)=true:=dkq
theorem Lz:∀ z∈jt,codes z≠[]:=dkq
theorem Ap:∀ c,c<128->dW c=true->K01.lo c=c/\K01.lo (up1 c)=c:=dkq
theorem vx{z:Str}(h:z.cps.toList.all dW=true):(codes z).map K01.lo=codes z:=by
 have:∀ c∈codes z,K01.lo c=id c:=λc I=>(Ap c (jE (List.all_eq_true.mp h c I)) (List.all_eq_true.mp h c I)).1
 rw[Ox this,List.map_id]
theorem zk{z:Str}(h:z.cps.toList.all dW=true):(codes (Txt.upper z)).map K01.lo=codes z:=by
 unfold codes;rw[upper_ascii λc I=>jE (List.all_eq_true.mp h c I),Rk,NG];have:∀ c∈z.cps.toList,(K01.lo ∘ up1) c=id c:=λc I=>(Ap c (jE (List.all_eq_true.mp h c I)) (List.all_eq_true.mp h c I)).2
 rw[Ox this,List.map_id]
theorem Ij(z:Str):codes (Txt.slice z none (some 1))++codes (Txt.slice z (some 1) none)=codes z:=by
 have l:z.cps.toList.length=z.length:=by simp[NB]
 by_cases h:z.length=0
 ·have a:=Txt.slice_le z none (some 1)
  have b:=Txt.slice_le z (some 1) none
  have nil:∀ y:Str,y.length=0->codes y=[]:=λy I=>List.length_eq_zero_iff.mp (by unfold codes;simpa[NB] using I)
  rw[nil _ (by lia),nil _ (by lia),nil _ h];rfl
 ·have J:Txt.slice z none (some 1)=_:=OG ⟨by decide,by lia⟩
  have U:Txt.slice z (some 1) none=_:=Qw ⟨by decide,by lia⟩;rw[J,U];unfold codes;show(List.take (1-0:Int).toNat (List.drop 0 z.cps.toList)).toArray.toList++(List.take ((z.cps.toList.length:Int)-1).toNat (List.drop (Int.toNat 1) z.cps.toList)).toArray.toList=z.cps.toList;have hh:(List.drop (Int.toNat 1) z.cps.toList).length<=((z.cps.toList.length:Int)-1).toNat:=by rw[NJ,show Int.toNat 1=1 from rfl];lia
  rw[MZ hh];exact NR 1 z.cps.toList
noncomputable def xH:Sp:=λvs H Q _=>∃(n:Int) (a:LS) (ws:LR Str) (m:Nat),vs=[.int n,.ref a,.int m]/\m<=150/\H a=some (.lst (ws.map V.str))/\1<=ws.length/\(∀ z∈ws,Wm z)/\∀ x H',cR H H'->x.length<=2000->(codes x).all eJ=true->(tw x).length<=m->Mp ws x->Q (.str x) H'
theorem lp:dC ["_law_number_here","_law_menu_here","_law_many","_law_between","_law_text_here","_law_k","_law_more","_law_word"] ["_law_number_here","_law_menu_here","_law_many"] (c9 pW):=⟨rfl,rfl,rfl,dkq,rfl,dkq,dkq⟩
seal dj PS PE PT PA PG PI dE dD in
theorem HY{f fm:LS}{fd fdm:Mj}(D:Df K mg "_law_text" pW f fd)(DM:Df K mg "_law_mixed" kM fm fdm)(T:Txt mg):cV P w K mg base dc 2 f fd ["_law_number_here","_law_menu_here","_law_many"] xH:=by
 have GM:cV P w K mg base dc 1 fm fdm ["_law_number_here","_law_k"] pC:=qO DM
 have bM:=DM.F.binds (ps:=["_law_number_here","_law_k"]) λ_ _ _ _ _ _ us hl=>eO (λ_ _=>rfl) us hl
 refine D.F.ok lp (λvs H Q E h=>?_) (λcdv A outer s H vs Q E hr h=>?_)
 ·obtain⟨n,a,ws,m,rfl,_⟩:=h;rfl
 ·obtain⟨n,a,ws,m,rfl,hm,hA,h5,av,kk⟩:=h;have hl:(sizeLine:Nat)=16777216:=Mt;refine⟨_,cU (di (i:=3) lp.nd rfl (Mh rfl) (dZ (cP dq (cP dq (cP dq (cP dq (cP dq (cP dq (cP dq (cP dq (cP dq (cP dq (cP dq (cP dq cQ))))))))))))))
   (cU (di (i:=4) lp.nd rfl (Mh rfl) (eB eY (dZ (cP dq (cP dq (cP dq (cP dq (cP dq cQ)))))) (de eR (pv 0) cX) (λ_ _=>rfl)))
   (cU (fx MK rfl (iO rfl T.range (cP (pv 2) cQ)) (dB (i:=5) lp.nd rfl (Mh rfl))
    (cU (di (i:=6) lp.nd rfl (Mh rfl) (dw GM hr rfl DM.m DM.F.kp bM .nil du (cP (pv 0) (cP (pv 5) cQ))))
    (cU (di (i:=7) lp.nd rfl (Mh rfl) (eB eY (pv 1) (de eR (pv 6) (dR gZ rfl T.len gf (cP (pv 1) cQ))) (λ_ _=>rfl)))
    (cU (di (i:=7) lp.nd rfl (Mh rfl) (eB eY (dZ (cP (pv 7) (cP (pv 7) (cP (pQ NZ F.slot_str_upper F.type_str_upper zH (pv 7))
      (cP (de kZ (pQ NZ F.slot_str_upper F.type_str_upper zH (ik jS (pv 7) js (gL cX))) (ik jS (pv 7) (gL cX) js)) cQ)))))
      (de eR (de gz (pv 6) cX) cX) (λ_ _=>rfl)))
    (cY (di (i:=4) lp.nd rfl (Mh rfl) (de kZ (de kZ (pv 4) (pv 7)) (eB eY (pv 3) (de eR (de gz (pv 6) cX) cX) (λ_ _=>rfl)))))))))
   (cU (dP (dU fV (de eR (de gz (pv 0) cX) cX) cX (dH _)) (cY (dg (pQ NZ F.slot_str_strip F.type_str_strip F9 (pv 4)))) dO)
   (cY (dg (pv 4)))))),?_⟩;refine⟨(by show 12<=sizeLine;(clear h5 hA hm;lia)),λb hb=>⟨(by show 5<=sizeLine;(clear hb h5 hA hm;lia)),λp hp=>?_⟩⟩;have aw:cR H (upd H b (.lst (jt.map V.str))):=da hb;change (upd H b (.lst (jt.map V.str))) p=none at hp;obtain⟨x0,ao,e0⟩:=lB (ss:=oI) (n:=n) (L:=5) (by decide) rfl;obtain⟨aa,J⟩:=GJ x0 ao;refine⟨_,rfl,_,_,rfl,rfl,(by show(0:Int)<5;decide),p,oI.map V.str,_,_,rfl,rfl,cS.of cT,e0,?_⟩;have ax:cR H (upd (upd H b (.lst (jt.map V.str))) p (.lst (oI.map V.str))):=cR.upd aw hp;have U:(upd (upd H b (.lst (jt.map V.str))) p (.lst (oI.map V.str))) b=some (.lst (jt.map V.str)):=by rw[cW (dF cT hp),cT]
  refine⟨_,rfl,m,rfl,by(clear U J aa e0 hp hb hl h5 hA hm;lia),by(clear U J aa e0 hp hb hl h5 hA;lia),?_⟩;refine mm (λi σ H'=>∃(x:Str) (v5 v6 v7:Mc V),σ=[some (.int n),some (.ref a),some (.int m),some (.ref b),some (.str x),v5,v6,v7]/\cR H H'/\H' b=some (.lst (jt.map V.str))/\x.length<=2+10*i/\x.cps.toList.all eJ=true/\sc false (codes x)<=i/\Cl ws x) ?_ ?_ ?_
  ·exact⟨x0,none,none,none,rfl,ax,U,by(clear U J e0 hp hb hl h5 hA hm;lia),J,Nat.le_of_eq (uU _ _ (yR x0 ao)),Cl.none (yR x0 ao)⟩
  ·intro i σ H' hi hP;refine BD λB D' ay az=>?_
   obtain⟨x,v5,v6,v7,rfl,sm,hB,hx,I,ar,ah⟩:=hP;have ab:i<m:=by simpa using hi
   refine iB (R:=B) ay λR hR=>?_
   refine⟨_,rfl,_,rfl,_,_,rfl,by(clear ab I hx hB hi U J aa e0 hp hb hl h5 hA hm;lia),by(clear ab I hx hB U J aa e0 hp hb hl h5 hA;lia),λr r0 r1=>?_⟩;have ae:=sm _ _ hA;obtain⟨z,hz,ez⟩:=lB (ss:=ws) (n:=r) (L:=((ws.map V.str).length:Nat)) (by(clear ae r1 r0 ab I hx hB hi U J aa e0 hp hb hl hA hm;lia)) (by rw[LV]);obtain⟨lz,oz⟩:=av z hz;have af:=y2 oz;refine iB (R:=R) hR λR hR=>?_
   refine⟨_,rfl,_,rfl,_,rfl,_,_,rfl,.inl (cS.of ae),_,_,rfl,rfl,(by show(0:Int)<(((ws.map V.str).length:Nat):Int);rw[LV];(clear ae r1 r0 ab I hx hB hi U J aa e0 hp hb hl hA hm;lia)),a,_,_,_,rfl,rfl,cS.of ae,ez,?_⟩;have s1:=Txt.slice_le z none (some 1);have s2:=Txt.slice_le z (some 1) none;have aF:=Dj z;obtain⟨u1,u2⟩:=xD oz;obtain⟨u3,u4⟩:=xD (jM none (some 1) oz);have u5:=y2 (jM (some 1) none oz);refine iB (R:=R) hR λR hR=>?_
   refine⟨_,rfl,_,rfl,_,rfl,rfl,z,rfl,rfl,by(clear u5 u4 u3 u2 u1 s2 s1 af oz ez ae r1 r0 ab I hx hB hi U J aa e0 hp hb hl h5 hA hm;lia),_,rfl,_,rfl,z,rfl,by(clear u5 u4 u3 u2 u1 s2 s1 af oz ez ae r1 r0 ab I hx hB hi U J aa e0 hp hb h5 hA hm;lia),rfl,_,rfl,rfl,by(clear u5 u4 u3 u2 u1 s2 af oz ez ae r1 r0 ab I hx hB hi U J aa e0 hp hb hl h5 hA hm;lia),_,rfl,_,rfl,z,rfl,by(clear u5 u4 u3 u2 u1 s2 s1 af oz ez ae r1 r0 ab I hx hB hi U J aa e0 hp hb h5 hA hm;lia),_,_,rfl,rfl,by(clear u5 u3 u2 u1 af oz ez ae r1 r0 ab I hx hB hi U J aa e0 hp hb h5 hA hm;lia),(by show 4<=sizeLine;(clear u5 u4 u3 u2 u1 s2 s1 af oz lz ez ae r1 r0 ab I hx hB hi U J aa e0 hp hb h5 hA hm;lia)),λq hq=>?_⟩;refine⟨_,rfl,_,_,rfl,rfl,⟨by decide,by decide⟩,_,_,rfl,rfl,(by show(0:Int)<4;decide),?_⟩;obtain⟨y,hy,ey⟩:=lB (ss:=[z,z,Txt.upper z,Txt.upper (Txt.slice z none (some 1))++Txt.slice z (some 1) none]) (n:=r/7) (L:=4) (by simp) rfl;have aA:y.length<=7/\y.cps.toList.all eJ=true/\y.cps.toList.all pL=true/\(codes y).map K01.lo=codes z:=by
    have aB:y=z\/y=z\/y=Txt.upper z\/y=Txt.upper (Txt.slice z none (some 1))++Txt.slice z (some 1) none:=by simpa using hy
    rcases aB with e|e|e|e
    ·rw[e];exact⟨by(clear e ey hq u5 u4 u3 u2 u1 s2 s1 af oz ez ae r1 r0 ab I hx hB hi U J aa e0 hp hb hl h5 hA hm;lia),af,vF oz,vx oz⟩
    ·rw[e];exact⟨by(clear e ey hq u5 u4 u3 u2 u1 s2 s1 af oz ez ae r1 r0 ab I hx hB hi U J aa e0 hp hb hl h5 hA hm;lia),af,vF oz,vx oz⟩
    ·rw[e];exact⟨by(clear e ey hq u5 u4 u3 u1 s2 s1 af oz ez ae r1 r0 ab I hx hB hi U J aa e0 hp hb hl h5 hA hm;lia),u1,AK oz,zk oz⟩
    ·rw[e];exact⟨by rw[NM];(clear e ey hq u5 u3 u2 u1 af oz ez ae r1 r0 ab I hx hB hi U J aa e0 hp hb hl h5 hA hm;lia),m7 u3 u5,m7 (AK (jM none (some 1) oz)) (vF (jM (some 1) none oz)),by rw[qf,Mf,zk (jM none (some 1) oz),vx (jM (some 1) none oz),Ij]⟩
   obtain⟨aG,ai,au,aC⟩:=aA;refine⟨q,_,_,_,rfl,rfl,cS.of cT,ey,?_⟩;obtain⟨t,ht,et⟩:=lB (ss:=jt) (n:=r/31) (L:=12) (by decide) rfl;obtain⟨aD,aj⟩:=IV t ht;have ag:(upd H' q (.lst [V.str z,V.str z,V.str (Txt.upper z),V.str (Txt.upper (Txt.slice z none (some 1))++Txt.slice z (some 1) none)])) b=some (.lst (jt.map V.str)):=by rw[cW (dF hB hq)];exact hB
   refine uH (R:=R) hR ?_;refine⟨_,rfl,_,rfl,_,_,rfl,rfl,by(clear ag aj aD et ai ey hq u5 u4 u3 u2 u1 s2 s1 af oz lz ez ae r1 r0 ab I hB U J aa e0 hp hb h5 hA;lia),_,rfl,_,rfl,_,_,rfl,rfl,⟨by decide,by decide⟩,_,_,rfl,rfl,(by show(0:Int)<12;decide),b,_,_,_,rfl,rfl,cS.of ag,et,_,_,rfl,rfl,by rw[NM];(clear ag aj et ai ey hq u5 u4 u3 u2 u1 s2 s1 af oz lz ez ae r1 r0 ab I hB U J aa e0 hp hb h5 hA;lia),?_⟩;have aE:sc false (codes (x++y++t))<=i+1:=by
    rw[qf,qf];have a1:=Aq (codes x++codes y) (codes t);have a2:=Aq (codes x) (codes y);have a3:=zt (codes y) false au;have a4:=uU (codes t) false (BA t ht);rw[LX (by decide)] at a3
    lia
   exact az _ _ ⟨x++y++t,_,_,_,rfl,cR.upd sm hq,ag,by rw[NM,NM];(clear ag aj et ai ey hq u5 u4 u3 u2 u1 s2 s1 af oz lz ez ae r1 r0 ab I hB hi U J aa e0 hp hb hl h5 hA hm;lia),m7 (m7 I ai) aj,aE,ah.go au hz aC (BA t ht) (Lz t ht)⟩
  ·rintro σ H' ⟨x,v5,v6,v7,rfl,sm,hB,hx,I,ar,ah⟩;have ak:sc false (codes x)<=m:=by simpa using ar
   have aq:x.length<=2+10*m:=by simpa using hx
   refine⟨_,rfl,_,_,rfl,rfl,⟨by decide,by decide⟩,_,_,rfl,rfl,(by show(0:Int)<3;decide),rfl,_,rfl,?_⟩;refine oZ (λ_=>?_) (λ_=>?_)
   ·refine⟨_,rfl,rfl,x,rfl,rfl,by(clear aq I hB U J aa e0 hp hb h5 hA;lia),kk _ _ sm ?_ (Dw I) (by rw[vW];exact Mr (GY x) ak) (ah.rp.strip I)⟩;have:=IF x
    (clear aq I hB U J aa e0 hp hb hl h5 hA;lia)
   ·exact⟨_,rfl,kk _ _ sm (by(clear aq I hB U J aa e0 hp hb hl h5 hA;lia)) I (by rw[vW];exact ak) ah.rp⟩
end
theorem so{z:Str}(h:∀ c∈z.cps.toList,c<1114112):(Nj z).canLay0=true:=by
 show(z.cps.all λc=>decide (c<0x110000))=true;rw[<-Array.all_toList,List.all_eq_true];exact λc I=>Mb (h c I)
theorem HA{t:Str}(h:t.cps.toList.all dW=true):(Nj t).canLay0=true:=so λc I=>by
 have:=jE (List.all_eq_true.mp h c I)
 lia
noncomputable def gA(ps:LR (Str×Str)):LR OV:=ps.map λp=> .tuple [.str p.1,.str p.2]
theorem qE{K:Mm}{H:Hp}:∀{xs:LR V} {ps:LR (Str×Str)},eX H xs (ps.map kp)->fQ K H xs (gA ps)
 |[],[],_=> .nil
 |_::_,[],h=>by cases h
 |[],_::_,h=>by cases h
 |x::xs,p::ps,h=>by
  cases h with
  |cons h t=>
   obtain⟨q,rfl,I⟩:=h;exact .cons (.tup (dY.of I) (.cons (.str _) (.cons (.str _) .nil))) (qE t)
theorem rq:∀{ps:LR (Str×Str)},(∀ p∈ps,dA 12 (.str p.1)=true/\dX (.str p.2)=true)->(NP (gA ps)).canLay0=true
 |[],_=>rfl
 |p::ps,h=>by
  obtain⟨h1,h2⟩:=h p Mi;have a1:(Nj p.1).canLay0=true:=HA (by
   have h':(decide (1<=p.1.length)&&decide (p.1.length<=12)&&p.1.cps.toList.all dW)=true:=h1;rw[MO] at h';exact h'.2);have a2:(Nj p.2).canLay0=true:=so λc I=>by
   have h':(decide (p.2.length<=2000)&&p.2.cps.toList.all eJ)=true:=h2;rw[MO] at h';have:=jz (List.all_eq_true.mp h'.2 c I)
   lia
  show(((Nj p.1).canLay0&&((Nj p.2).canLay0&&true))&&(NP (gA ps)).canLay0)=true;rw[a1,a2,rq λq J=>h q (Mg _ J)];rfl
theorem tH:∀ ps:LR (Str×Str),(NP (gA ps)).depth<=3
 |[]=>by decide
 |p::ps=>by
  show max (max 0 (max 0 0)+1) (NW (gA ps))+1<=3
  have I:NW (gA ps)+1<=3:=tH ps
  lia
noncomputable def ix(rows:LR (LR (Str×Str))):LR OV:=rows.map λps=> .list (gA ps)
noncomputable def qy(H:Hp):LR V->LR (LR (Str×Str))->Prop:=MY λv ps=>∃ p xs,v= .ref p/\H p=some (.lst xs)/\eX H xs (ps.map kp)
theorem qy.same {H H':Hp}{xs:LR V}{t:LR (LR (Str×Str))}(h:qy H xs t)(s:cR H H'):qy H' xs t:=Gn.Paired.imp2 h λ_ _ ⟨p,xs,e,q,r⟩=>⟨p,xs,e,s _ _ q,r.same s⟩
theorem tV{K:Mm}{H:Hp}:∀{xs:LR V} {rows:LR (LR (Str×Str))},qy H xs rows->fQ K H xs (ix rows)
 |[],[],_=> .nil
 |_::_,[],h=>by cases h
 |[],_::_,h=>by cases h
 |x::xs,p::ps,h=>by
  cases h with
  |cons h t=>
   obtain⟨q,ys,rfl,I,J⟩:=h;exact .cons (.lst (cS.of I) (qE J)) (tV t)
theorem d6.all {pss:LR (LR (Str×Str))}(h:d6 pss):∀ ps∈pss,∀ p∈ps,dA 12 (.str p.1)=true/\dX (.str p.2)=true:=λps I p J=>h.g p (List.mem_flatten.mpr ⟨ps,I,J⟩)
section
variable {P : Mq} {w : MT} {K : Mz} {mg : Str -> Mc LW} {base : Nn} {C CH : LS}
noncomputable def C3(K:Mm):R2:=λx y H Q=>∃ dx I,gc K H x dx/\gc K H y I/\dx.canLay0=true/\I.canLay0=true/\min dx.depth I.depth<=100/\Q (.bl (!PyData.eqv dx I)) H
theorem nK{X:Cx}{K:Mm}(h:X.K=K)(hu:X.A.units+100<PR):fz X (NX .NotEq) (C3 K):=by subst h;exact EW hu
end
end K25
namespace L2
open PySem PySem.Spec PyProof.Rows
section
variable {X : Cx}
theorem AJ:∀(n:Nat) (ys:LR Str),Vals (ys.map V.str) (strsFrom n ys)
 |_,[]=> .nil
 |n,y::ys=> .cons ⟨_,rfl⟩ (AJ (n+1) ys)
theorem Hq:ju X "str.split" (λx xs H Q=>∃ z y,x= .str z/\xs=[.str y]/\(y.length==0)=false/\z.length<=100000/\∀ p,H p=none->Q (.ref p) (upd H p (.lst ((Txt.split z y).map V.str)))):=by
 intro pins s σ H x xs v us Q I U rs h;obtain⟨z,y,rfl,rfl,J,hz,q⟩:=h;obtain⟨t,rfl⟩:=U;obtain⟨u0,rfl,⟨u,rfl⟩⟩:=vals1 rs;have hl:(sizeLine:Nat)=16777216:=Mt;have hf:H s.heap.objs.size=none:=I.hok.fresh (Ma _);have ho:=QW z y 0 z.length (z.length+1);have hp:=len_partsBetween z (NT z y 0 z.length (z.length+1)) y.length;have one:∀(e:Txt.split z y=[z]),EP X pins σ Q (.ref s.heap.objs.size) {s with heap:=s.heap.push {cls:= .type "list",data:= .seq [PJ z t].toArray}}:=λe=>by
  rw[e] at q;exact⟨.ref s.heap.objs.size,_,I.laid (t':=s.toks) (o:= .lst [.str z]) (λb u e=>Heap.get?_push_of_some _ e) (Ma _) ⟨by show 1<=_;lia,[.str z t],0,.cons ⟨_,rfl⟩ .nil,Heap.get?_push_size _ rfl⟩,rfl,q _ hf⟩
 cases h1:(decide (z.length<y.length)||decide (Builtin.Str.strKind z<Builtin.Str.strKind y))
 ·cases hf':(NT z y 0 z.length (z.length+1)).isEmpty
  ·refine P8 P9 (QQ s z t) Q9 (QT _ _) (meets_str_split_sep z y t u h1 J hf' (by lia) (by lia)) ?_;have e:Txt.split z y=Builtin.Str.partsBetween z (NT z y 0 z.length (z.length+1)) y.length:=by unfold Txt.split;rw[LX (by rw[h1];exact MC),LX (by rw[hf'];exact MC)]
   rw[<-e] at hp ⊢;exact⟨.ref s.heap.objs.size,_,I.laid (o:= .lst ((Txt.split z y).map V.str)) (λb u e=>Heap.get?_push_of_some _ e) (Ma _) ⟨by rw[LV];lia,_,0,AJ s.toks (Txt.split z y),Heap.get?_push_size _ rfl⟩,rfl,q _ hf⟩
  ·refine P8 P9 (QQ s z t) Q9 (QT _ _) (meets_str_split_not_found z y t u h1 J hf') ?_;exact one (by unfold Txt.split;rw[LX (by rw[h1];exact MC),LZ hf'])
 ·refine P8 P9 (QQ s z t) Q9 (QT _ _) (meets_str_split_cannot_occur z y t u h1) ?_;exact one (by unfold Txt.split;rw[LZ h1])
theorem yr{X:Cx}{o:Nv}{name:Str}{T id:OE}{apos cpos:Pos}{r:V->LR V->Hp->VK->Prop}{to:TE}{K:Mm}(hK:X.K=K)(pa:PlainAttrs T)(slot:Slot T name id)(hty:RQ (.builtin id)=pure (.type "method_descriptor"))(hm:ju X id r)(ho:PE X o to)
  (hbase:OB o name X.env (eval o X.env)=eval o X.env:=by rfl)(hline:(apos.endLine==cpos.line)=true:=by rfl):PE X (.Call (.Attribute o name apos) [] [] cpos) (yG K T r to):=by
 subst hK;exact pQ pa slot hty hm ho hbase hline
end
end L2
namespace K25
open PySem L2 PyProof.Rows PySem.Spec Gn K04 K01 BK
noncomputable def gu(q:Nat->Nw)(p:Nw):LR Nat->Nat
 |[]=>0
 |c::r=>(if q c=true/\p=false then 1 else 0)+gu q (q c) r
theorem zD:∀(l:LR Nat) (p:Nw),sc p l=gu pL p l
 |[],_=>rfl
 |c::r,p=>by show _+sc (pL c) r=_+gu pL (pL c) r;rw[zD r]
theorem AH{q:Nat->Nw}{f:Nat->Nat}:∀(l:LR Nat) (p:Nw),gu q p (l.map f)=gu (λc=>q (f c)) p l
 |[],_=>rfl
 |c::r,p=>by show _+gu q (q (f c)) (r.map f)=_+gu _ _ r;rw[AH r]
theorem Ba{q q':Nat->Nw}:∀(l:LR Nat) (p:Nw),(∀ c∈l,q c=q' c)->gu q p l=gu q' p l
 |[],_,_=>rfl
 |c::r,p,h=>by
  show(if q c=true/\p=false then 1 else 0)+gu q (q c) r=(if q' c=true/\p=false then 1 else 0)+gu q' (q' c) r;rw[h c Mi,Ba r _ λc I=>h c (Mg _ I)]
noncomputable def nz(c:Nat):Nw:=decide (c≠32)
theorem tY{c:Nat}(h:c≠32):nz c=true:=Mb h
theorem zy:∀(a:LR Nat) (p:Nw),32∉a->gu nz p a=if a=[]\/p=true then 0 else 1
 |[],p,_=>by rw[LZ (.inl rfl)];rfl
 |c::r,p,h=>by
  have I:nz c=true:=tY λe=>h (by rw[e];exact Mi)
  show(if nz c=true/\p=false then 1 else 0)+gu nz (nz c) r=_;rw[I,zy r true λz=>h (Mg _ z),LZ (show r=[]\/true=true from .inr rfl)];cases p<;>simp
theorem Br:∀(a b:LR Nat) (p:Nw),32∉a->gu nz p (a++32::b)=(if a=[]\/p=true then 0 else 1)+gu nz false b
 |[],b,p,_=>by
  rw[LZ (.inl rfl)];show(if nz 32=true/\p=false then 1 else 0)+gu nz (nz 32) b=_;rw[LX (λz=>by have:=z.1;revert this;decide)];rfl
 |c::r,b,p,h=>by
  have I:nz c=true:=tY λe=>h (by rw[e];exact Mi)
  show(if nz c=true/\p=false then 1 else 0)+gu nz (nz c) (r++32::b)=_;rw[I,Br r b true λz=>h (Mg _ z),LZ (show r=[]\/true=true from .inr rfl)];cases p<;>simp
noncomputable def jn:LR (LR Nat)->LR Nat
 |[]=>[]
 |[x]=>x
 |x::y::r=>x++32::jn (y::r)
theorem AV:∀ ls:LR (LR Nat),(∀ a∈ls,32∉a)->gu nz false (jn ls)=(ls.filter λa=> !decide (a=[])).length
 |[],_=>rfl
 |[x],h=>by
  show gu nz false x=_;rw[zy x false (h x (by simp)),NY];by_cases e:x=[]
  ·rw[e];rfl
  ·rw[LY e];simp[e]
 |x::y::r,h=>by
  show gu nz false (x++32::jn (y::r))=_;rw[Br x _ false (h x (by simp)),AV (y::r) λa ha=>h a (Mg _ ha),NY (x:=x)];by_cases e:x=[]
  ·rw[e];simp
  ·rw[LY e,LX (by simp[e]),LZ (by rfl),Ms];lia
theorem Iy:LU " "=(⟨[32].toArray⟩:Str):=dkq
theorem JC:∀ ls:LR (LR Nat),Str.join (LU " ") (ls.map λx=>(⟨x.toArray⟩:Str))=⟨(jn ls).toArray⟩:=by
 intro ls;induction ls with
 |nil=>rfl
 |cons x r I=>
  cases r with
  |nil=>rfl
  |cons y r=>
   show(⟨x.toArray⟩:Str)++LU " "++Str.join (LU " ") ((y::r).map _)=_;rw[I,Iy,qp,qp];show(⟨(x++[32]++jn (y::r)).toArray⟩:Str)=⟨(x++32::jn (y::r)).toArray⟩;rw[Nc];rfl
theorem JD(x:Str):((Txt.split x (LU " ")).filter λz=> !decide (z=LU "")).length=gu nz false (codes x):=by
 have j:=StrLaws.join_split x (LU " ")
 have fr:∀ p∈Txt.split x (LU " "),32∉codes p:=StrLaws.split_free x 32;generalize Txt.split x (LU " ")=S at j fr;have I:S=(S.map codes).map λx=>(⟨x.toArray⟩:Str):=by
  rw[NG];exact(List.map_id' S).symm.trans (Ox λz _=>(toStr z).symm)
 have e:codes x=jn (S.map codes):=by
  rw[I,JC] at j;rw[<-j];rfl
 rw[e,AV _ λa ha=>by
  obtain⟨z,J,rfl⟩:=List.mem_map.mp ha;exact fr z J,List.filter_map,LV]
 congr 1
 refine List.filter_congr λz _=>?_
 show(!decide (z=LU ""))= !decide (codes z=[])
 congr 1
 refine decide_eq_decide.mpr ⟨λh=>by rw[h];rfl,λh=>?_⟩;rw[<-toStr z,h];rfl
theorem split_len(x:Str):(Txt.split x (LU " ")).length<=x.length+2:=by
 have I:=QW x (LU " ") 0 x.length (x.length+1)
 have J:=len_partsBetween x (NT x (LU " ") 0 x.length (x.length+1)) (LU " ").length;unfold Txt.split;split
 ·show 1<=_;lia
 ·split
  ·show 1<=_;lia
  ·lia
noncomputable def iu(c:Nat):Nat:=if pL c=true then K01.lo c else 32
theorem zV:∀ c,c<128->eJ c=true->(Txt.isalnum ⟨#[c]⟩=pL c/\(pL c=true->K01.lo c≠32)):=dkq
theorem jz{c:Nat}(h:eJ c=true):c<128:=by
 unfold eJ at h;simp at h
 lia
theorem Hm{z:Str}(h:(codes z).all eJ=true):gu nz false ((codes z).map iu)=(tw z).length:=by
 rw[vW,zD,AH];refine Ba _ _ λc I=>?_
 have hok:=List.all_eq_true.mp h c I;unfold iu;cases e:pL c with
 |true=>rw[LZ rfl];exact tY ((zV c (jz hok) hok).2 e)
 |false=>rw[LX MC];rfl
section
variable {P : Mq} {w : MT} {K : Mz} {mg : Str -> Mc LW} {base : Nn} {C CH CN CNo CW CK CT C2 : LS}
noncomputable def Cq:TE:=λσ H Q=>∃ z:Str,σ[0]? =some (some (.str z))/\(codes z).all eJ=true/\z.length<=2000/\∀ p,H p=none->Q (.ref p) (upd H p (.lst (((codes z).map iu).map λc=>V.str ⟨#[c]⟩)))
noncomputable def CJ(K:Mm):TE:=λσ H Q=>∃ z:Str,σ[1]? =some (some (.str z))/\z.length<=2000/\∀ l xs H',cR H H'->H l=none->H' l=some (.lst xs)->xs.length=((Txt.split z (LU " ")).filter λz=> !decide (z=LU "")).length->Q (.ref l) H'
noncomputable def xk:Sp:=λvs H Q _=>∃ z:Str,vs=[.str z]/\Drawn z/\∀ l xs H',cR H H'->H l=none->H' l=some (.lst xs)->xs.length=(tw z).length->Q (.ref l) H'
theorem Bo:dC ["_law_text_here","_law_small"] ["_law_text_here"] (c9 lu):=⟨rfl,rfl,rfl,dkq,rfl,dkq,dkq⟩
theorem Jc:(["_law_sign"]:LR Str).Nodup:=dkq
theorem Lo:(["_law_word"]:LR Str).Nodup:=dkq
seal dj PS PE PT PA PG PI dE dD in
theorem Ih{f:LS}{fd:Mj}(D:Df K mg "_law_words" lu f fd):cV P w K mg base dc 1 f fd ["_law_text_here"] xk:=by
 refine D.F.ok Bo (λvs H Q E h=>?_) (λcdv A outer s H vs Q E hr h=>?_)
 ·obtain⟨z,rfl,_⟩:=h;rfl
 ·obtain⟨z,rfl,hd,kk⟩:=h;have hz:(sizeLine:Nat)=16777216:=Mt;refine⟨_,cU (di (i:=1) Bo.nd rfl (Mh rfl) (eV NZ Rz RA tX dq (cP (PE.imp (t':=Cq) (fP (own:=1) (caps:=[]) (N:=["_law_sign"]) (N0:=["_law_text_here","_law_small"]) (sc0:=c9 lu) rfl (va (pv 0))
    (λ_ _ _=>dB (i:=0) Jc rfl (Mh rfl)) (λ_ _ _=>fF) (λ_ _ _=>r6 (fM (yr (K:=K) rfl NZ F.slot_str_isalnum F.type_str_isalnum Iw (pv 0))) (yr (K:=K) rfl NZ F.slot_str_lower F.type_str_lower Bf (pv 0)) dq) (eM (by decide)) rfl rfl
    dkq rfl dkq dkq rfl dkq) ?mS) cQ)))
   (cY (dg (PE.imp (t':=CJ K) (fP (own:=1) (caps:=[]) (N:=["_law_word"]) (N0:=["_law_text_here","_law_small"]) (sc0:=c9 lu) rfl (eZ (eV NZ P9 F.type_str_split Hq (pv 1) (cP dq cQ)))
    (λ_ _ _=>dB (i:=0) Lo rfl (Mh rfl)) (λ_ _ _=>Bv (dU qt (pv 0) dq (dH _))) (λ_ _ _=>pv 0) (eM (by decide)) rfl rfl
    dkq rfl dkq dkq rfl dkq) ?mN))),?_⟩
  case mS=>
   rintro σ H1 Q1 ⟨z,h0,hok,hl,q⟩;have hsz:z.cps.size=z.length:=rfl;refine⟨_,h0,z,rfl,vT (x:=z) (λi ys H'=>H'=H1/\ys=(((codes z).take i).map iu).map λc=>V.str ⟨#[c]⟩) (by lia) ⟨rfl,rfl⟩ ?_ ?_⟩
   ·rintro i c ys H' N hc ⟨rfl,rfl⟩ hN;have U:(codes z)[i]? =some c:=by unfold codes;rw[Array.getElem?_toList];exact hc
    have J:=List.all_eq_true.mp hok c (List.mem_of_getElem? U);obtain⟨ha,_⟩:=zV c (jz J) J;have fin:∀ v:Nat,v=iu c->N ((((codes z).take i).map iu).map (λc=>V.str ⟨#[c]⟩)++[V.str ⟨#[v]⟩]) H':=λv e=>hN _ _ ⟨rfl,by rw[e,take_snoc U,Mf,Mf];rfl⟩
    refine g1 ?_;refine⟨_,rfl,rfl,⟨#[c]⟩,rfl,rfl,_,rfl,?_⟩;rw[ha];cases e:pL c with
    |true=>
     refine dG ⟨_,rfl,rfl,⟨#[c]⟩,rfl,rfl,by show 1<=_;decide,?_⟩;rw[yI (show(codes ⟨#[c]⟩).all eJ=true by show(eJ c&&true)=true;rw[J];rfl)];exact fin (K01.lo c) (by unfold iu;rw[LZ e])
    |false=>exact df (fin 32 (by unfold iu;rw[LX (by rw[e];decide)]))
   ·rintro ys H' ⟨rfl,rfl⟩ _ l hl;rw[MZ (by unfold codes;rw[OP];exact Ma _)];exact q l hl
  case mN=>
   rintro σ H1 Q1 ⟨z,h0,hl,q⟩;have aa:=split_len z;refine⟨_,h0,rfl,z,LU " ",rfl,rfl,rfl,by lia,λp hp=>?_⟩;have e1:upd H1 p (.lst ((Txt.split z (LU " ")).map V.str)) p=some (.lst ((Txt.split z (LU " ")).map V.str)):=cT;have s1:cR H1 (upd H1 p (.lst ((Txt.split z (LU " ")).map V.str))):=da hp;generalize Txt.split z (LU " ")=S at q e1 s1 aa ⊢;generalize upd H1 p (.lst (S.map V.str))=H2 at e1 s1 ⊢;refine⟨p,rfl,⟨_,cS.of e1⟩,gC (xs:=S.map V.str) (λi ys H'=>H'=H2/\ys.length=((S.take i).filter λz=> !decide (z=LU "")).length) (by rw[LV];lia) (λi ys H' e=>by rw[e.1];exact cS.of e1) ⟨rfl,rfl⟩ ?_ ?_⟩
   ·rintro i v ys H' N hv ⟨rfl,hy⟩ hN;rw[List.getElem?_map] at hv;obtain⟨y,ab,rfl⟩:=Option.map_eq_some_iff.mp hv;have ef:(S.take (i+1)).filter (λz=> !decide (z=LU ""))=(S.take i).filter (λz=> !decide (z=LU ""))++[y].filter (λz=> !decide (z=LU "")):=by rw[take_snoc ab,QS]
    refine⟨_,rfl,rfl,_,rfl,?_⟩;show if (!decide (V.str y=V.str (LU "")))=true then _ else _
    by_cases e:y=LU ""
    ·rw[Mb (Nl V.str e)];refine df (hN _ _ ⟨rfl,?_⟩);rw[ef,hy,e];show _=(_++[]).length;rw[MR]
    ·rw[LY (λz=>e (V.str.inj z))];refine dG ⟨_,rfl,hN _ _ ⟨rfl,?_⟩⟩;rw[ef,Md,hy,Md];simp[e]
   ·rintro ys H' ⟨rfl,hy⟩ _ l hl;rw[LV,MG] at hy;exact q l ys _ (cR.upd s1 hl) (s1.free hl) cT hy
  refine⟨rfl,z,rfl,hd.2,hd.1,λp hp=>?_⟩;have s1:cR H (upd H p (.lst (((codes z).map iu).map λc=>V.str ⟨#[c]⟩))):=da hp;have eL:(((codes z).map iu).map λc=>V.str ⟨#[c]⟩)=(((codes z).map iu).map λc=>(⟨#[c]⟩:Str)).map V.str:=by rw[NG (f:=λc=>(⟨#[c]⟩:Str))];rfl
  have ae:(codes z).length=z.length:=by unfold codes;simp[NB]
  have I:=uZ ((codes z).map iu);rw[LV] at I;have af:=hd.1;refine⟨LU "",p,((codes z).map iu).map λc=>(⟨#[c]⟩:Str),rfl,rfl,cS.of (by rw[cT,eL]),?_,?_⟩
  ·rw[I];show _+_*0<=_
   lia
  ·rw[join_eq];refine⟨⟨((codes z).map iu).toArray⟩,rfl,by show((codes z).map iu).toArray.size<=_;rw[Mu,LV];lia,λl xs H' s2 hl hx hn=>kk l xs H' (s1.trans s2) (s1.free hl) hx ?_⟩;rw[hn,JD];exact Hm hd.2
end
end K25
namespace L2
open PySem PySem.Spec PyProof.Rows
theorem qk{K:Mm}{H:Hp}:∀(ns:LR Nw),fQ K H (ns.map V.bl) (ns.map O0)
 |[]=> .nil
 |n::ns=> .cons (.bl n) (qk ns)
theorem vi:∀(ns:LR Nw),(NP (ns.map O0)).canLay0=true:=by
 intro ns;induction ns with
 |nil=>rfl
 |cons n ns I=>exact I
theorem ua:∀(ns:LR Nw),(ns.map O0).all Shape.bool.has=true
 |[]=>rfl
 |n::ns=>by rw[Nb,OC,ua ns];rfl
section
variable {X : Cx}
theorem Lp:ju X "list.count" (λx xs H Q=>∃(p:LS) (bs:LR Nw) (k:Nw),x= .ref p/\xs=[.bl k]/\cS X.K H p (bs.map V.bl)/\Q (.int (Spec.countIn (.bool k) (bs.map O0))) H):=by
 intro pins s σ H x xs v us Q I J rs h;obtain⟨p,bs,k,rfl,rfl,U,q⟩:=h;cases J;obtain⟨u,rfl,r1⟩:=vals1 rs;cases r1;obtain⟨aa,r,pl,_⟩:=I.list U;obtain⟨as,ra⟩:=fQ.reads I (qk (K:=X.K) (H:=H) bs) r;exact count_list_bools pl.isList ra (ua bs) ⟨.int _,H,I.tok _,⟨_,rfl⟩,q⟩
theorem KQ:ju X "list.index" (λx xs H Q=>∃(p:LS) (bs:LR Nw) (k:Nw) (j:Nat),x= .ref p/\xs=[.bl k]/\cS X.K H p (bs.map V.bl)/\j<1000/\bs[j]? =some k/\(∀ m,m<j->bs[m]? ≠some k)/\Q (.int j) H):=by
 intro pins s σ H x xs v us Q I rx rs h;obtain⟨p,bs,k,j,rfl,rfl,hq,hj,hit,aa,q⟩:=h;cases rx;obtain⟨u,rfl,r1⟩:=vals1 rs;cases r1;obtain⟨J,r,pl,_⟩:=I.list hq;obtain⟨as,ra⟩:=fQ.reads I (qk (K:=X.K) (H:=H) bs) r;obtain⟨⟨cls,dd,data,sl⟩,ho,hc,n,hd⟩:=pl.isList;simp only at hc hd;subst hc hd;have hlen:=r.length;rw[LV] at hlen;have U:j<J.length:=by
  rw[<-hlen];exact(List.getElem?_eq_some_iff.mp hit).1
 refine P8 F.slot_list_index ⟨_,ho,rfl⟩ F.entry_list_index (F.args_list_index_2 _ _)
  (SeqAt.list_indexAt p J.toArray n dd sl (.bool k) (isBoolOf k) j (by simpa using U) (by lia) ?_ ?_) ⟨ho,λy hy=>eq_isBoolOf k ra (ua bs) y (by simpa using hy) _ _,⟨.int _,H,I.tok _,⟨_,rfl⟩,q⟩⟩
 ·show isBoolOf k J[j]=true;obtain⟨b,e1,e2⟩:=sJ r j J[j] (List.getElem?_eq_getElem U);rw[hit] at e1;rw[e2,<-Ml e1];exact Rj k
 ·intro m hm ab;have ae:m<J.length:=by simpa using hm
  show isBoolOf k J[m]=false;obtain⟨b,e1,e2⟩:=sJ r m J[m] (List.getElem?_eq_getElem ae);rw[e2];refine beq_eq_false_iff_ne.mpr λz=>aa m ab ?_
  rw[e1,z]
end
end L2
namespace K25
open PySem L2 PyProof.Rows PySem.Spec Gn K04 K01 BK
inductive Res where
 |non
 |rf (n : Nat)
 |tx (t : Str)
noncomputable def Res.d:Res->OV
 |.non=> .none
 |.rf n=> .list [.str "refused",.int (n:Int)]
 |.tx t=> .tuple [.str t,.int 0]
noncomputable def fY(H:Hp)(v:V):Res->Prop
 |.non=>v= .non
 |.rf n=>∃ l,v= .ref l/\H l=some (.lst [.str "refused",.int (n:Int)])
 |.tx t=>∃ l,v= .ref l/\H l=some (.tup [.str t,.int 0])
theorem fY.same {H H':Hp}{v:V}{r:Res}(h:fY H v r)(s:cR H H'):fY H' v r:=by
 cases r with
 |non=>exact h
 |rf n=>obtain⟨l,e,q⟩:=h;exact⟨l,e,s _ _ q⟩
 |tx t=>obtain⟨l,e,q⟩:=h;exact⟨l,e,s _ _ q⟩
theorem fY.dt {K:Mm}{H:Hp}{v:V}{r:Res}(h:fY H v r):gc K H v r.d:=by
 cases r with
 |non=>rw[show v= .non from h];exact .non
 |rf n=>obtain⟨l,rfl,q⟩:=h;exact .lst (cS.of q) (.cons (.str _) (.cons (.int _) .nil))
 |tx t=>obtain⟨l,rfl,q⟩:=h;exact .tup (dY.of q) (.cons (.str _) (.cons (.int _) .nil))
noncomputable def Res.ok:Res->Prop
 |.non=>True
 |.rf n=>n<10
 |.tx t=>dX (.str t)=true
theorem mL:∀ n:Nat,n<10->(Res.rf n).d.canLay0=true:=dkq
theorem Res.lay {r:Res}(h:r.ok):r.d.canLay0=true:=by
 cases r with
 |non=>rfl
 |rf n=>exact mL n h
 |tx t=>
  have h1:(Nj t).canLay0=true:=so λc I=>by
   have:=jz (List.all_eq_true.mp (kE h).2 c I)
   lia
  show(PyData.canLay0 (.str t)&&_)=true;rw[h1];rfl
theorem Res.dep (r:Res):r.d.depth<=100:=by
 cases r<;>simp[Res.d,QI,NW]
noncomputable def dk(ps:LR (Str×Str)):LR (Key×V):=ps.map λp=>(MF p.1,V.str p.2)
theorem qo(ps:LR (Str×Str)):(dk ps).length=ps.length:=LV _
theorem pq:∀{ps:LR (Str×Str)} {k:Str},k∉ps.map (·.1)->dQ (dk ps) (MF k)=none
 |[],_,_=>rfl
 |p::ps,k,h=>by
  show dQ ((MF p.1,V.str p.2)::dk ps) _=none;rw[g6 (λe=>h (by rw[<-Ph e];exact Mi))];exact pq λz=>h (Mg _ z)
theorem sX:∀{ps:LR (Str×Str)} {k t:Str},(ps.map (·.1)).Nodup->(k,t)∈ps->dQ (dk ps) (MF k)=some (.str t)
 |p::ps,k,t,nd,h=>by
  obtain⟨I,J⟩:=List.nodup_cons.mp (show(p.1::ps.map (·.1)).Nodup from nd);show dQ ((MF p.1,V.str p.2)::dk ps) _=_;rcases List.mem_cons.mp h with e|e
  ·subst e;exact iE rfl
  ·rw[g6 (λz=>I (by rw[Ph z];exact NH (f:=(·.1)) e))];exact sX J e
theorem yp{ps:LR (Str×Str)}{k t:Str}(h:k∉ps.map (·.1)):putK (dk ps) (MF k) (.str t)=dk (ps++[(k,t)]):=by
 rw[uF _ (pq h)];unfold dk;rw[Mf];rfl
theorem qH(k:Str):∀ ps:LR (Str×Str),iS (dk ps) (MF k)=dk (wo k ps)
 |[]=>rfl
 |p::ps=>by
  show iS ((MF p.1,V.str p.2)::dk ps) _=dk ((p::ps).filter _);rw[NY];by_cases e:p.1=k
  ·rw[HG (Nl MF e),Mb e,qH k ps,LX (by decide)];rfl
  ·rw[FG (λz=>e (Ph z)),LY e,qH k ps,LZ (by decide)];rfl
noncomputable def g8:LR Str:=["put","take","pour","text"]
noncomputable def iR(k:Str)(ps:LR (Str×Str)):Str:=((ps.find? λp=>decide (p.1=k)).map (·.2)).getD NU
theorem nh:∀{ps:LR (Str×Str)} {k t:Str},(ps.map (·.1)).Nodup->(k,t)∈ps->iR k ps=t
 |p::ps,k,t,nd,h=>by
  obtain⟨I,J⟩:=List.nodup_cons.mp (show(p.1::ps.map (·.1)).Nodup from nd);unfold iR;rw[List.find?_cons];rcases List.mem_cons.mp h with e|e
  ·subst e;simp
  ·rw[LY (λz=>I (by rw[z];exact NH (f:=(·.1)) e))];exact nh J e
theorem nA{ps:LR (Str×Str)}{k:Str}(nd:(ps.map (·.1)).Nodup)(h:k∈ps.map (·.1)):(k,iR k ps)∈ps:=by
 obtain⟨p,I,rfl⟩:=List.mem_map.mp h;rw[nh nd (t:=p.2) I];exact I
noncomputable def fZ(ps:LR (Str×Str))(way key:Str):Res:=
 if way="pour" then .non else if way="put" then (if key∈ps.map (·.1) then .rf 0 else .non) else if key∈ps.map (·.1) then .tx (iR key ps) else .rf 1
noncomputable def gp(ps:LR (Str×Str))(way key text:Str):LR (Str×Str):=
 if way="put" then (if key∈ps.map (·.1) then ps else ps++[(key,text)]) else if way="take" then wo key ps else ps
section
variable {P : Mq} {w : MT} {K : Mz} {mg : Str -> Mc LW} {base : Nn} {C CH CA CN CNo CW CK CT C2 : LS}
structure CF (K : Mm) (CA C2 CNo CK CT CN D : LS) (i : Nat) : Prop where
 x : W.ExcCls K D
 k0 : Ng K (.ref D) (.ref C2) = some (decide (i = 0))
 k1 : Ng K (.ref D) (.ref CNo) = some (decide (i = 1))
 k2 : Ng K (.ref D) (.ref CK) = some (decide (i = 2))
 k3 : Ng K (.ref D) (.ref CT) = some (decide (i = 3))
 n : Ng K (.ref D) (.ref CN) = some false
 v : Ng K (.ref D) (.type "ValueError") = some true
 e : Pl K (.ref D) (.ref CA) = some true
structure uh (K : Mm) (mg : Str -> Mc LW) (CA C2 CNo CK CT CN : LS) : Prop where
 h : mg "HallError" = some (.ref CA)
 m0 : mg "Twice" = some (.ref C2)
 m1 : mg "NoText" = some (.ref CNo)
 m2 : mg "BadKey" = some (.ref CK)
 m3 : mg "BadText" = some (.ref CT)
 m4 : mg "BadNumber" = some (.ref CN)
 c0 : CF K CA C2 CNo CK CT CN C2 0
 c1 : CF K CA C2 CNo CK CT CN CNo 1
 c2 : CF K CA C2 CNo CK CT CN CK 2
 c3 : CF K CA C2 CNo CK CT CN CT 3
noncomputable def kz(i:Nat):LR Nw:=[decide (i=0),decide (i=1),decide (i=2),decide (i=3)]
theorem CV:∀ i,i<4->Spec.countIn (.bool true) ((kz i).map O0)=1:=by decide
theorem E3:∀ i,i<4->(kz i)[i]? =some true:=by decide
theorem Fy:∀ i,i<4->∀ m,m<i->(kz i)[m]? ≠some true:=by decide
noncomputable def xJ(K:Mm)(CA C2 CNo CK CT CN:LS):LR V->Hp->VK->Prop:=λvs H Q=>∃(I D:LS) (i:Nat),vs=[.ref I]/\H I=some (nQ I D)/\CF K CA C2 CNo CK CT CN D i/\i<4/\
 ∀ l H',cR H H'->H l=none->H' l=some (.lst [.str "refused",.int (i:Int)])->Q (.ref l) H'
theorem xi:dC ["_law_e","_law_found"] ["_law_e"] (c9 pH):=⟨rfl,rfl,rfl,dkq,rfl,dkq,dkq⟩
seal dj PS PE PT PA PG PI dE dD in
theorem Ca{f:LS}{fd:Mj}(D:Df K mg "_law_class" pH f fd)(X:uh K mg CA C2 CNo CK CT CN)(T:Txt mg):qb P w K mg base 1 f fd ["_law_e"] (xJ K CA C2 CNo CK CT CN):=by
 refine D.F.okN xi (λvs H Q h=>?_) (λcdv A outer s H vs Q hr h=>?_)
 ·obtain⟨I,D,i,rfl,_⟩:=h;rfl
 ·obtain⟨I,D,i,rfl,J,F,U,kk⟩:=h;refine⟨_,cU (di (i:=1) xi.nd rfl (Mh rfl) (dZ (cP (dR oa rfl T.isi gG (cP (pv 0) (cP (gJ (v:= .ref C2) rfl X.m0 rfl) cQ))) (cP (dR oa rfl T.isi gG (cP (pv 0) (cP (gJ (v:= .ref CNo) rfl X.m1 rfl) cQ))) (cP (dR oa rfl T.isi gG (cP (pv 0) (cP (gJ (v:= .ref CK) rfl X.m2 rfl) cQ))) (cP (dR oa rfl T.isi gG (cP (pv 0) (cP (gJ (v:= .ref CT) rfl X.m3 rfl) cQ))) cQ))))))
   (cU (dP (PW.pt (iw (dU qt (eV PN PySem.F.slot_list_count PySem.F.type_list_count Lp (pv 1) (cP fN cQ)) cX (dH _))
     (iw (f9 (fM (dR oa rfl T.isi gG (cP (pv 0) (cP (iF (v:= .ty "ValueError") rfl T.val Ej rfl) cQ))))) (jc (fM (dR oa rfl T.isi gG (cP (pv 0) (cP (gJ (v:= .ref CN) rfl X.m4 rfl) cQ))))))))
    (cY (dg (dZ (cP dq (cP cX cQ))))) dO)
   (cY (dg (dZ (cP dq (cP (eV PN PySem.F.slot_list_index PySem.F.type_list_index KQ (pv 1) (cP fN cQ)) cQ)))))),?_⟩;refine⟨_,rfl,I,D,_,_,rfl,J,F.x,.inr (.inl ⟨_,rfl,F.k0⟩),_,rfl,I,D,_,_,rfl,J,F.x,.inr (.inl ⟨_,rfl,F.k1⟩),_,rfl,I,D,_,_,rfl,J,F.x,.inr (.inl ⟨_,rfl,F.k2⟩),_,rfl,I,D,_,_,rfl,J,F.x,.inr (.inl ⟨_,rfl,F.k3⟩),(by show 4<=sizeLine;decide),λp hp=>?_⟩;have s1:cR H (upd H p (.lst ((kz i).map V.bl))):=da hp;have h1:upd H p (.lst ((kz i).map V.bl)) p=some (.lst ((kz i).map V.bl)):=cT;refine⟨_,rfl,.inl ⟨rfl,_,cS.of h1⟩,p,kz i,true,rfl,rfl,cS.of h1,?_⟩;rw[CV i U];refine⟨rfl,_,rfl,df ⟨_,rfl,I,D,_,_,rfl,s1 _ _ J,F.x,.inl ⟨_,rfl,F.v⟩,_,rfl,df ⟨_,rfl,I,D,_,_,rfl,s1 _ _ J,F.x,.inr (.inl ⟨_,rfl,F.n⟩),_,rfl,df ?_⟩⟩⟩;refine⟨_,rfl,.inl ⟨rfl,_,cS.of h1⟩,p,kz i,true,i,rfl,rfl,cS.of h1,Nat.lt_trans U (by decide),E3 i U,Fy i U,(by show 2<=sizeLine;decide),λl hl=>?_⟩;exact kk l _ (s1.trans (da hl)) (s1.free hl) cT
noncomputable def A3:Sp:=λvs H Q _=>∃(a b:Nat),vs=[.int (a:Int),.int (b:Int)]/\Q (.bl (decide (a=b))) H
theorem EJ:dC ["_law_found","_law_due_here"] ["_law_found","_law_due_here"] (c9 pJ):=⟨rfl,rfl,rfl,dkq,rfl,dkq,dkq⟩
seal dj PS PE PT PA PG PI dE dD in
theorem GF{f:LS}{fd:Mj}(D:Df K mg "_law_whole" pJ f fd)(T:Txt mg):cV P w K mg base dc 1 f fd ["_law_found","_law_due_here"] A3:=by
 refine D.F.ok EJ (λvs H Q E h=>?_) (λcdv A outer s H vs Q E J h=>?_)
 ·obtain⟨a,b,rfl,_⟩:=h;rfl
 ·obtain⟨a,b,rfl,k⟩:=h;refine⟨_,cY (dg (kd (dR jb rfl T.isi gG (cP (pv 0) (cP (iF (v:= .ty "int") rfl T.int yV rfl) cQ)))
   (kd (xm (dR jb rfl T.isi gG (cP (pv 0) (cP (iF (v:= .ty "bool") rfl T.bool vm rfl) cQ)))) (kD (jq fV (pv 0) (pv 1) (dH _)))))),?_⟩;have I:fO K H (.int (a:Int)) (.type "int"):= .int _;refine⟨_,rfl,.int (a:Int),.ty "int",_,_,rfl,I,.inl ⟨_,rfl,z6 I⟩,_,rfl,?_⟩;rw[LZ (show pZ (V.int (a:Int))=true from rfl)];refine⟨_,rfl,.int (a:Int),.ty "bool",_,_,rfl,I,.inl ⟨_,rfl,uG I⟩,_,rfl,?_⟩;refine⟨_,rfl,?_⟩;rw[LZ (show(!qY (V.int (a:Int)))=true from rfl)];refine⟨_,rfl,_,rfl,rfl,?_⟩;rw[show decide (V.int (a:Int)=V.int (b:Int))=decide (a=b) from decide_eq_decide.mpr ⟨λh=>by have:=V.int.inj h;lia,λh=>by rw[h]⟩];exact k
end
theorem pF{H:Hp}{d:LS}{o:HO}(h:H d=some o):upd H d o=H:=by
 funext a
 unfold upd;split
 ·rename_i e;rw[e,h]
 ·rfl
theorem j8(a b:Str):decide (V.str a=V.str b)=decide (a=b):=decide_eq_decide.mpr ⟨λh=>V.str.inj h,λh=>by rw[h]⟩
section
variable {P : Mq} {w : MT} {K : Mz} {mg : Str -> Mc LW} {base : Nn} {C CH CA CN CNo CW CK CT C2 : LS}
noncomputable def sI:Sp:=λvs H Q _=>∃(d:LS) (way key text:Str) (ps:LR (Str×Str)),vs=[.ref d,.str way,.str key,.str text]/\H d=some (.dK (dk ps))/\(ps.map (·.1)).Nodup/\ps.length<=1000/\way∈g8/\
 ∀ v H',cR (upd H d (.dK (dk (gp ps way key text)))) H'->fY H' v (fZ ps way key)->(∀ l,v= .ref l->H l=none)->Q v H'
theorem HW:dC ["_law_plain","_law_way","_law_key","_law_text_here"] ["_law_plain","_law_way","_law_key","_law_text_here"] (c9 oP):=⟨rfl,rfl,rfl,dkq,rfl,dkq,dkq⟩
seal dj PS PE PT PA PG PI dE dD in
theorem JT{f:LS}{fd:Mj}(D:Df K mg "_law_due" oP f fd):cV P w K mg base dc 1 f fd ["_law_plain","_law_way","_law_key","_law_text_here"] sI:=by
 refine D.F.ok HW (λvs H Q E h=>?_) (λcdv A outer s H vs Q E hr h=>?_)
 ·obtain⟨d,way,key,text,ps,rfl,_⟩:=h;rfl
 ·obtain⟨d,way,key,text,ps,rfl,hd,nd,hl,hw,kk⟩:=h;have hu:=iP hr;have hz:(sizeLine:Nat)=16777216:=Mt;refine⟨_,cU (dP (dU fV (pv 1) dq (dH _)) (cY (dg qS)) dO)
   (cU (dP (PW.pt (mj (dU fV (pv 1) dq (dH _)) (lT (iZ (nC hu (pv 2) (pv 0)))))) (cY (dg (dZ (cP dq (cP cX cQ))))) dO)
   (cU (dP (dU fV (pv 1) dq (dH _)) (cU (me hu (pv 0) (pv 2) (pv 3) rfl) (cY (dg qS))) dO)
   (cU (dP (iZ (uD hu (pv 2) (pv 0))) (cY (dg (dZ (cP dq (cP cX cQ))))) dO)
   (cU (dP (dU fV (pv 1) dq (dH _)) (cY (dg (ip (cP (oj hu (pv 0) (pv 2) (λ_ _=>rfl)) (cP cX cQ))))) dO)
   (cY (dg (ip (cP (Bd (pv 0) (pv 2) ⟨rfl,rfl,rfl,rfl⟩) (cP cX cQ))))))))),?_⟩;refine⟨_,rfl,rfl,_,rfl,?_⟩;show if decide (V.str way=V.str (LU "pour"))=true then _ else _
  rw[j8];by_cases U:way="pour"
  ·rw[Mb U];refine dG (kk .non H ?_ ?_ (λl z=>by cases z))
   ·have:gp ps way key text=ps:=by unfold gp;rw[LX (by rw[U];decide +kernel),LX (by rw[U];decide +kernel)]
    rw[this,pF hd];exact cR.refl _
   ·unfold fZ;rw[LZ U];rfl
  rw[LY U];refine df ⟨_,rfl,rfl,_,rfl,?_⟩;show if decide (V.str way=V.str (LU "put"))=true then _ else _
  rw[j8];have J:∀ H1:Hp,H1 d=some (.dK (dk ps))->gh H1 d (.str key) (dQ (dk ps) (MF key)):=λH1 e=>gh.k (k:=MF key) e
  by_cases hk:key∈ps.map (·.1)
  ·have tm:=nA nd hk
   have hv:=sX nd tm;by_cases I:way="put"
   ·rw[Mb I];refine dG ⟨_,rfl,_,rfl,d,_,rfl,J H hd,_,rfl,?_⟩;rw[hv];refine dG ⟨(by show 2<=sizeLine;decide),λl hl=>kk (.ref l) _ ?_ ?_ (λl' e=>by injection e with e;rw[<-e];exact hl)⟩
    ·have:gp ps way key text=ps:=by unfold gp;rw[LZ I,LZ hk]
     rw[this,pF hd];exact da hl
    ·have:fZ ps way key= .rf 0:=by unfold fZ;rw[LX U,LZ I,LZ hk]
     rw[this];exact⟨l,rfl,cT⟩
   ·rw[LY I];refine df ?_;refine⟨_,rfl,rfl,_,rfl,?_⟩;show if decide (V.str way=V.str (LU "put"))=true then _ else _
    rw[j8,LY I];refine df ⟨_,rfl,_,rfl,d,_,rfl,J H hd,_,rfl,?_⟩;rw[hv];refine df ⟨_,rfl,rfl,_,rfl,?_⟩;show if decide (V.str way=V.str (LU "text"))=true then _ else _
    rw[j8];have aa:fZ ps way key= .tx (iR key ps):=by unfold fZ;rw[LX U,LX I,LZ hk]
    by_cases w3:way="text"
    ·rw[Mb w3];have hg:=J H hd;rw[hv] at hg;refine dG ⟨_,rfl,_,rfl,d,_,rfl,hg,(by show 2<=sizeLine;decide),λl hl=>kk (.ref l) _ ?_ ?_ (λl' e=>by injection e with e;rw[<-e];exact hl)⟩
     ·have:gp ps way key text=ps:=by unfold gp;rw[LX I,LX (by rw[w3];decide +kernel)]
      rw[this,pF hd];exact da hl
     ·rw[aa];exact⟨l,rfl,cT⟩
    ·rw[LY w3];have w4:way="take":=by
      simp only[g8,Ra,Qa,or_false] at hw;rcases hw with h|h|h|h
      ·exact absurd h I
      ·exact h
      ·exact absurd h U
      ·exact absurd h w3
     refine df ⟨_,rfl,d,rfl,.inl ⟨_,.inl hd⟩,_,rfl,dk ps,MF key,_,hd,rfl,hv,(by show 2<=sizeLine;decide),λl hl=>?_⟩;rw[qH] at hl ⊢;have hn:gp ps way key text=wo key ps:=by unfold gp;rw[LX I,LZ w4]
     refine kk (.ref l) _ ?_ ?_ (λl' e=>?_)
     ·rw[hn];exact da hl
     ·rw[aa];exact⟨l,rfl,cT⟩
     ·injection e with e;rw[<-e];have ab:l≠d:=λz=>by rw[z,cT] at hl;cases hl
      rwa [cW ab] at hl
  ·have hv:=pq hk;by_cases I:way="put"
   ·rw[Mb I];refine dG ⟨_,rfl,_,rfl,d,_,rfl,J H hd,_,rfl,?_⟩;rw[hv];refine df ⟨_,rfl,rfl,_,rfl,?_⟩;show if decide (V.str way=V.str (LU "put"))=true then _ else _
    rw[j8,Mb I];refine dG ⟨_,rfl,_,rfl,_,rfl,d,_,rfl,iQ.k (k:=MF key) hd (by rw[qo];lia),?_⟩;rw[yp hk];refine kk .non _ ?_ ?_ (λl z=>by cases z)
    ·have:gp ps way key text=ps++[(key,text)]:=by unfold gp;rw[LZ I,LX hk]
     rw[this];exact cR.refl _
    ·unfold fZ;rw[LX U,LZ I,LX hk];rfl
   ·rw[LY I];refine df ⟨_,rfl,rfl,_,rfl,?_⟩;show if decide (V.str way=V.str (LU "put"))=true then _ else _
    rw[j8,LY I];refine df ⟨_,rfl,_,rfl,d,_,rfl,J H hd,_,rfl,?_⟩;rw[hv];refine dG ⟨(by show 2<=sizeLine;decide),λl hl=>kk (.ref l) _ ?_ ?_ (λl' e=>by injection e with e;rw[<-e];exact hl)⟩
    ·have:gp ps way key text=ps:=by
      unfold gp;rw[LX I];split
      ·exact oo hk
      ·rfl
     rw[this,pF hd];exact da hl
    ·have:fZ ps way key= .rf 1:=by unfold fZ;rw[LX U,LX I,LX hk]
     rw[this];exact⟨l,rfl,cT⟩
end
noncomputable def eT(pss:LR (LR (Str×Str)))(way:Str)(kv tv:V):Res:=
 if way="put" then (if dA 12 kv=false then .rf 2 else if dX tv=false then .rf 3 else if fK pss kv=true then .rf 0 else .non)
 else if way="take"\/way="text" then (if fK pss kv=true then .tx (iR (gq kv) pss.flatten) else .rf 1) else .non
noncomputable def eF(pss:LR (LR (Str×Str)))(way:Str)(kv tv:V):LR (LR (Str×Str)):=
 if way="put" then (if dA 12 kv=true/\dX tv=true/\fK pss kv=false then iy pss [(gq kv,gq tv)] else pss)
 else if way="take" then (if fK pss kv=true then j5 (gq kv) pss else pss) else if way="text" then pss else lq pss
section
variable {P : Mq} {w : MT} {K : Mz} {mg : Str -> Mc LW} {base : Nn} {C CH CA CN CNo CW CK CT C2 : LS}
structure HM (P : Mq) (w : MT) (K : Mm) (mg : Str -> Mc LW) (base : Nn) (C CH CK CT C2 CNo : LS) (fPu fTa fTe fPo : LS) (dPu dTa dTe dPo : Mj) : Prop where
 F1 : dv K "put" "House.put" mv fPu dPu
 m1 : Meth K CH "put" fPu
 G1 : cV P w K mg base (dz P w) 12 fPu dPu ["self", "key", "text"] (A0 K C CH CK CT C2)
 F2 : dv K "take" "House.take" k9 fTa dTa
 m2 : Meth K CH "take" fTa
 G2 : cV P w K mg base (dz P w) 11 fTa dTa ["self", "key"] (w6 K C CH CNo)
 F3 : dv K "text" "House.text" md fTe dTe
 m3 : Meth K CH "text" fTe
 G3 : cV P w K mg base (dz P w) 5 fTe dTe ["self", "key"] (BQ K C CH CNo)
 F4 : dv K "pour" "House.pour" mi fPo dPo
 m4 : Meth K CH "pour" fPo
 G4 : cV P w K mg base dc 11 fPo dPo ["self"] (yz C CH)
noncomputable def om(K:Mm)(C CH:LS):Sp:=λvs H Q _=>∃(x:LS) (way:Str) (J tv:V) (I:LR (LR (Str×Str))) (L:Hp),vs=[.ref x,.str way,J,tv]/\Hs C CH L H x I/\d6 I/\Known K H J/\fT J/\Known K H tv/\fT tv/\way∈g8/\
 (way="put"->∀ k t,J= .str k->tv= .str t->dA 12 (.str k)=true->dX (.str t)=true->k∉keysOf I->d6 (I++[[(k,t)]]))/\
 ∀ v L' H',cR L L'->Hs C CH L' H' x (eF I way J tv)->fY L' v (eT I way J tv)->Q v H'
theorem xf:dC ["_law_house","_law_way","_law_key","_law_text_here","_law_e"] ["_law_house","_law_way","_law_key","_law_text_here"] (c9 kW):=⟨rfl,rfl,rfl,dkq,rfl,dkq,dkq⟩
seal dj PS PE PT PA PG PI dE dD in
theorem GD{f fc fPu fTa fTe fPo:LS}{fd fdc dPu dTa dTe dPo:Mj}(D:Df K mg "_law_answer" kW f fd)(HC:gT K mg C CH)(M:HM P w K mg base C CH CK CT C2 CNo fPu fTa fTe fPo dPu dTa dTe dPo)(X:uh K mg CA C2 CNo CK CT CN)
  (DC:Df K mg "_law_class" pH fc fdc)(GC:qb P w K mg base 1 fc fdc ["_law_e"] (xJ K CA C2 CNo CK CT CN)):cV P w K mg base dc 13 f fd ["_law_house","_law_way","_law_key","_law_text_here"] (om K C CH):=by
 have bC:=eI (p:="_law_e") DC.F λ_ _ _ _ _ _ _=>rfl
 have b1:=M.F1.binds (ps:=["self","key","text"]) λ_ _ _ _ _ _ us hl=>jD (λ_ _ _=>rfl) us hl
 have b2:=M.F2.binds (ps:=["self","key"]) λ_ _ _ _ _ _ us hl=>eO (λ_ _=>rfl) us hl
 have b3:=M.F3.binds (ps:=["self","key"]) λ_ _ _ _ _ _ us hl=>eO (λ_ _=>rfl) us hl
 have b4:=M.F4.binds (ps:=["self"]) λ_ _ _ _ _ _ us hl=>gD (λ_=>rfl) us hl
 refine D.F.ok xf (λvs H Q E h=>?_) (λcdv A outer s H vs Q E hr h=>?_)
 ·obtain⟨x,way,U,tv,I,L,rfl,_⟩:=h;rfl
 ·obtain⟨x,way,U,tv,I,L,rfl,hs,hok,ag,ah,aq,ar,hw,aj,kk⟩:=h;refine⟨_,cY (E7 (CH:=CA) (i:=4) (λσ cls _ H'=>σ=[some (.ref x),some (.str way),some U,some tv,none]/\cR H H'/\∃(i:Nat) (D:LS),cls= .ref D/\CF K CA C2 CNo CK CT CN D i/\i<4/\eT I way U tv= .rf i/\eF I way U tv=I) rfl rfl xf.nd rfl rfl rfl X.h
    (λp xe hx=>cU (dP (dU fV (pv 1) dq (dH _)) (cY (dg (rz (pv 0) HC.cl M.m1 M.G1 hr b1 .nil hx (cP (pv 2) (cP (pv 3) cQ))))) dO)
     (cU (dP (dU fV (pv 1) dq (dH _)) (cY (dg (ip (cP (rz (pv 0) HC.cl M.m2 (M.G2.mono (by decide)) hr b2 .nil hx (cP (pv 2) cQ)) (cP cX cQ))))) dO)
     (cU (dP (dU fV (pv 1) dq (dH _)) (cY (dg (ip (cP (rz (pv 0) HC.cl M.m3 (M.G3.mono (by decide)) hr b3 .nil hx (cP (pv 2) cQ)) (cP cX cQ))))) dO)
     (cY (dg (g0 (pv 0) HC.cl M.m4 (M.G4.mono (by decide)) hr b4 .nil du))))))
    (λea p=>cY (dg (Ke GC ((hr.toN.mono (by decide)).mark _) rfl DC.m DC.F.kp bC .nil (cP (pv 4) cQ))))),?_⟩;obtain⟨vl,dx,bs,hx,ax,ay,az⟩:=hs.ex;have nd:=hok.n;refine⟨?_,?_⟩
  ·refine⟨_,rfl,rfl,_,rfl,?_⟩;show if decide (V.str way=V.str (LU "put"))=true then _ else _
   rw[j8];by_cases w1:way="put"
   ·rw[Mb w1];have e1:∀ r,(if dA 12 U=false then .rf 2 else if dX tv=false then .rf 3 else if fK I U=true then .rf 0 else .non)=r->eT I way U tv=r:=λr e=>by unfold eT;rw[LZ w1];exact e
    have e2:¬ (dA 12 U=true/\dX tv=true/\fK I U=false)->eF I way U tv=I:=λn=>by unfold eF;rw[LZ w1,LX n]
    refine dG ⟨_,rfl,x,dx,_,rfl,hx,gQ,_,rfl,_,rfl,x,U,tv,I,L,rfl,hs,ag,ah,aq,ar,λh1 H' s'=>?_,λh1 h2 H' s'=>?_,λh2 h3 H' s'=>?_,λh1 h2 h3=>?_⟩
    ·exact⟨rfl,s',2,CK,rfl,X.c2,by decide,e1 _ (LZ h1),e2 λz=>by rw[h1] at z;cases z.1⟩
    ·exact⟨rfl,s',3,CT,rfl,X.c3,by decide,e1 _ (by rw[LX (by rw[h1];decide),LZ h2]),e2 λz=>by rw[h2] at z;cases z.2.1⟩
    ·obtain⟨k,rfl,ak,_⟩:=Ds h3;exact⟨rfl,s',0,C2,rfl,X.c0,by decide,e1 _ (by rw[LX (by rw[ak];decide),LX (by rw[h2];decide),LZ h3]),e2 λz=>by rw[h3] at z;cases z.2.2⟩
    ·obtain⟨k,rfl⟩:=Ao h1;obtain⟨t,rfl⟩:=K8 h2;have au:k∉keysOf I:=λz=>by rw[ko h1 z] at h3;cases h3
     refine⟨k,t,rfl,rfl,aj w1 k t rfl rfl h1 h2 au,λH' aa=>kk .non L H' (cR.refl _) ?_ ?_⟩
     ·have:eF I way (.str k) (.str t)=iy I [(k,t)]:=by unfold eF;rw[LZ w1,LZ ⟨h1,h2,h3⟩];rfl
      rw[this];exact aa
     ·rw[e1 .non (by rw[LX (by rw[h1];decide),LX (by rw[h2];decide),LX (by rw[h3];decide)])];rfl
   rw[LY w1];refine df ⟨_,rfl,rfl,_,rfl,?_⟩;show if decide (V.str way=V.str (LU "take"))=true then _ else _
   rw[j8];by_cases w2:way="take"
   ·rw[Mb w2];refine dG ⟨_,rfl,x,dx,_,rfl,hx,gQ,_,rfl,x,U,I,L,rfl,hs,hok,ag,ah,λh1 H' s'=>?_,λk t H' e hm aa=>?_⟩
    ·refine⟨rfl,s',1,CNo,rfl,X.c1,by decide,?_,?_⟩
     ·unfold eT;rw[LX w1,LZ (.inl w2),LX (by rw[h1];decide)]
     ·unfold eF;rw[LX w1,LZ w2,LX (by rw[h1];decide)]
    ·subst e;have ai:k∈keysOf I:=NH (f:=(·.1)) hm;have af:fK I (.str k)=true:=ko (hok.g (k,t) hm).1 ai;refine⟨(by show 2<=sizeLine;decide),λtt ab=>?_⟩;obtain⟨L',sL,ae,J,_⟩:=aa.ext (da ab (o:= .tup [.str t,.int 0]));refine kk (.ref tt) L' _ sL ?_ ?_
     ·have:eF I way (.str k) tv=j5 k I:=by unfold eF;rw[LX w1,LZ w2,LZ af];rfl
      rw[this];exact ae
     ·have:eT I way (.str k) tv= .tx t:=by
       unfold eT;rw[LX w1,LZ (.inl w2),LZ af,show gq (.str k)=k from rfl,nh nd hm]
      rw[this];exact⟨tt,rfl,J _ _ ab cT⟩
   rw[LY w2];refine df ⟨_,rfl,rfl,_,rfl,?_⟩;show if decide (V.str way=V.str (LU "text"))=true then _ else _
   rw[j8];by_cases w3:way="text"
   ·rw[Mb w3];have e2:eF I way U tv=I:=by unfold eF;rw[LX w1,LX w2,LZ w3]
    refine dG ⟨_,rfl,x,dx,_,rfl,hx,gQ,_,rfl,x,U,I,rfl,hs.r,hok,ag,ah,λh1 H' s'=>?_,λk t H' e hm s'=>?_⟩
    ·refine⟨rfl,s',1,CNo,rfl,X.c1,by decide,?_,e2⟩;unfold eT;rw[LX w1,LZ (.inr w3),LX (by rw[h1];decide)]
    ·subst e;have ai:k∈keysOf I:=NH (f:=(·.1)) hm;have af:fK I (.str k)=true:=ko (hok.g (k,t) hm).1 ai;refine⟨(by show 2<=sizeLine;decide),λtt ab=>?_⟩;obtain⟨L',sL,ae,J,_⟩:=hs.ext (s'.trans (da ab (o:= .tup [.str t,.int 0])));refine kk (.ref tt) L' _ sL (by rw[e2];exact ae) ?_;have:eT I way (.str k) tv= .tx t:=by
      unfold eT;rw[LX w1,LZ (.inr w3),LZ af,show gq (.str k)=k from rfl,nh nd hm]
     rw[this];exact⟨tt,rfl,J _ _ (s'.free ab) cT⟩
   rw[LY w3];refine df ⟨_,rfl,x,dx,_,rfl,hx,gQ,x,I,L,rfl,hs,hok,λH' aa=>kk .non L H' (cR.refl _) ?_ ?_⟩
   ·have:eF I way U tv=lq I:=by unfold eF;rw[LX w1,LX w2,LX w3]
    rw[this];exact aa
   ·have:eT I way U tv= .non:=by unfold eT;rw[LX w1,LX (by rintro(z|z);exact w2 z;exact w3 z)]
    rw[this];rfl
  ·rintro aA cls H' ea ⟨rfl,sm,i,D,rfl,hF,h4,ao,av⟩ hn;refine⟨_,rfl,hF.e,_,rfl,ea,D,i,rfl,cT,hF,h4,λl H1 s1 hl aw=>?_⟩;have sE:cR H (upd H' ea (nQ ea D)):=cR.upd sm hn;obtain⟨L',sL,ae,J,_⟩:=hs.ext (sE.trans s1);refine kk (.ref l) L' H1 sL (by rw[av];exact ae) ?_;rw[ao];exact⟨l,rfl,J _ _ (sE.free hl) aw⟩
end
noncomputable def si(C CH:LS)(L L1:Hp)(x:LS)(p:LR (LR (Str×Str))):Prop:=∃(I dx:LS) (bs:LR V),L1 x=some (.ins CH dx (gj I))/\L1 I=some (.lst bs)/\L I=none/\L x=none/\gI C (NL (upd L I (.lst bs)) L1) bs p
structure W2 (C CH : LS) (L H : Hp) (x1 : LS) (p1 : LR (LR (Str × Str))) (x2 : LS) (p2 : LR (LR (Str × Str))) : Prop where
 a : ∃ L1, Hs C CH L1 H x1 p1 /\ cR L L1 /\ si C CH L L1 x2 p2
 b : ∃ L2, Hs C CH L2 H x2 p2 /\ cR L L2 /\ si C CH L L2 x1 p1
theorem W2.swap {C CH:LS}{L H:Hp}{x1 x2:LS}{p1 p2:LR (LR (Str×Str))}(h:W2 C CH L H x1 p1 x2 p2):W2 C CH L H x2 p2 x1 p1:=⟨h.b,h.a⟩
theorem W2.s {C CH:LS}{L H:Hp}{x1 x2:LS}{p1 p2:LR (LR (Str×Str))}(h:W2 C CH L H x1 p1 x2 p2):cR L H:=by
 obtain⟨I,h1,s,_⟩:=h.a;exact s.trans h1.s
noncomputable def hJ(L L1 L1':Hp):Hp:=λa=>match L1' a with|some (.tup ts)=>some (.tup ts)|o=>(match L1 a with|none=>o|some _=>(match L a with|none=>none|some _=>o))
theorem E2{L L1 L1':Hp}{a:LS}{ts:LR V}(h:L1' a=some (.tup ts)):hJ L L1 L1' a=some (.tup ts):=by unfold hJ;rw[h]
theorem BG{L L1 L1':Hp}{a:LS}(h:L1 a=none):hJ L L1 L1' a=L1' a:=by
 unfold hJ;split
 ·rename_i e;rw[e]
 ·rw[h]
theorem jY{L L1 L1':Hp}{a:LS}{o:HO}(s:cR L L1)(h:L a=some o):hJ L L1 L1' a=L1' a:=by
 unfold hJ;split
 ·rename_i e;rw[e]
 ·rw[s _ _ h,h]
theorem ug{L L1 L1':Hp}{a:LS}{o:HO}(h1:L1 a=some o)(h:L a=none)(n:∀ ts,L1' a≠some (.tup ts)):hJ L L1 L1' a=none:=by
 unfold hJ;split
 ·rename_i e;exact absurd e (n _)
 ·rw[h1,h]
theorem ya{L L1 L1':Hp}:cR (hJ L L1 L1') L1':=λa o h=>by
 unfold hJ at h;split at h
 ·rename_i e;rw[e];exact h
 ·split at h
  ·exact h
  ·split at h
   ·cases h
   ·exact h
open Classical in
noncomputable def jO(x2:LS)(L' L1' H':Hp):Hp:=λa=>if a=x2 then none else if (∃ m,Mo m/\L1' a=some m)/\¬ (∃ m,Mo m/\L' a=some m) then none else H' a
theorem qW{x2 a:LS}{L' L1' H':Hp}(h:a≠x2)(n:¬ ((∃ m,Mo m/\L1' a=some m)/\¬ (∃ m,Mo m/\L' a=some m))):jO x2 L' L1' H' a=H' a:=by unfold jO;rw[LX h,LX n]
theorem zo{x2 a:LS}{L' L1' H':Hp}(n:(∃ m,Mo m/\L1' a=some m)/\¬ (∃ m,Mo m/\L' a=some m)):jO x2 L' L1' H' a=none:=by
 unfold jO;by_cases h:a=x2
 ·rw[LZ h]
 ·rw[LX h,LZ n]
theorem Ai{x2:LS}{L' L1' H':Hp}:cR (jO x2 L' L1' H') H':=λa o h=>by
 unfold jO at h;split at h
 ·cases h
 ·split at h
  ·cases h
  ·exact h
theorem W2.mk' {C CH:LS}{L' L1' H':Hp}{x1 x2:LS}{p1 p2:LR (LR (Str×Str))}(ne:CH≠C)(hs:Hs C CH L1' H' x1 p1)(sL:cR L' L1')(hI:si C CH L' L1' x2 p2):W2 C CH L' H' x1 p1 x2 p2:=by
 refine⟨⟨L1',hs,sL,hI⟩,⟨jO x2 L' L1' H',⟨?_,?_,Ai⟩,λa o h=>?_,?_⟩⟩
 ·obtain⟨J,dx,bs,h1,h2,U,h4,h5⟩:=hI;refine⟨J,dx,bs,hs.s _ _ h1,hs.s _ _ h2,zo ⟨⟨.lst bs,trivial,h2⟩,λ⟨m,_,e⟩=>by rw[U] at e;cases e⟩,Gn.Paired.imp2 h5 λ_ _ ⟨b,e,q⟩=>⟨b,e,q.same λa o ha=>?_⟩⟩;have I:=gY _ _ ha;refine iH (hs.s _ _ I) λm hm z=>?_
  have na:a≠J:=λz=>by subst z;exact gO ha (.lst bs) trivial cT
  rw[cW na] at z;have e2:=Ai _ _ z;rw[hs.s _ _ I] at e2;cases e2;rw[zo ⟨⟨_,hm,I⟩,λ⟨m',aa,e⟩=>gO ha m' aa ((cW na).trans e)⟩] at z;cases z
 ·show jO x2 L' L1' H' x2=none;unfold jO;rw[LZ rfl]
 ·have hx:a≠x2:=λz=>by obtain⟨_,_,_,_,_,_,h4,_⟩:=hI;rw[z,h4] at h;cases h
  rw[qW hx λz=>z.2 ?_]
  ·exact hs.s _ _ (sL _ _ h)
  ·obtain⟨m,hm,e⟩:=z.1;rw[sL _ _ h] at e;cases e;exact⟨_,hm,h⟩
 ·obtain⟨_,ab,_,g1,_⟩:=hI;obtain⟨J,dx,bs,h1,h2,U,h4⟩:=hs.ex;have nx:∀{a:LS},L1' a=none->a≠x2:=λ{a} e z=>by rw[z,g1] at e;cases e
  have nc:∀{a:LS},L1' a=none->¬ ((∃ m,Mo m/\L1' a=some m)/\¬ (∃ m,Mo m/\L' a=some m)):=λ{a} e z=>by obtain⟨m,_,q⟩:=z.1;rw[e] at q;cases q
  refine⟨J,dx,bs,(qW (nx hs.lx) (nc hs.lx)).trans h1,(qW (nx U) (nc U)).trans h2,sL.free U,sL.free hs.lx,Gn.Paired.imp2 h4 λ_ _ ⟨b,e,q⟩=>⟨b,e,q.ch ne λa o ha n=>?_⟩⟩;have I:=gY _ _ ha;have na:a≠J:=λz=>by subst z;exact gO ha (.lst bs) trivial cT
  have hx:a≠x2:=λz=>by
   rw[z,hs.s _ _ g1] at I;exact n _ _ (Ml I).symm
  refine iH ((qW hx λz=>?_).trans I) λm hm z=>?_
  ·obtain⟨m,hm,q⟩:=z.1;exact gO ha m hm ((cW na).trans q)
  ·rw[cW na] at z;exact gO ha m hm ((cW na).trans (sL _ _ z))
theorem W2.step {C CH:LS}{L L1 L1' H':Hp}{x1 x2:LS}{p1 p2:LR (LR (Str×Str))}(ne:CH≠C)(sL:cR L L1)(hI:si C CH L L1 x2 p2)(hs:Hs C CH L1' H' x1 p1)(k1:∀ a o,L1 a=some o->(∀ m,Mo m->L a≠some m)->L1' a=some o):
  W2 C CH (hJ L L1 L1') H' x1 p1 x2 p2:=by
 refine W2.mk' ne hs ya ?_;obtain⟨vl,dx,bs,h1,h2,J,U,h5⟩:=hI;have nn:∀{a:LS},L a=none->∀ m,Mo m->L a≠some m:=λ{a} e m _ z=>by rw[e] at z;cases z
 refine⟨vl,dx,bs,k1 _ _ h1 (nn U),k1 _ _ h2 (nn J),ug h2 J (λts z=>by rw[k1 _ _ h2 (nn J)] at z;cases z),ug h1 U (λts z=>by rw[k1 _ _ h1 (nn U)] at z;cases z),Gn.Paired.imp2 h5 λ_ _ ⟨b,e,q⟩=>⟨b,e,q.same λa o ha=>?_⟩⟩;have I:=gY _ _ ha;have na:a≠vl:=λz=>by subst z;exact gO ha (.lst bs) trivial cT
 have nm:∀ m,Mo m->L a≠some m:=λm hm z=>gO ha m hm ((cW na).trans z)
 refine iH (k1 _ _ I nm) λm hm z=>?_
 rw[cW na] at z;cases e:L a with
 |none=>
  have q:=ya _ _ z;rw[ug I e (λts y=>by rw[y] at q;cases q;exact hm)] at z;cases z
 |some u=>
  have e2:=sL _ _ e;rw[I] at e2;cases e2;rw[jY sL e,k1 _ _ I nm] at z;cases z;exact nm _ hm e
theorem W2.ext {C CH:LS}{L H H':Hp}{x1 x2:LS}{p1 p2:LR (LR (Str×Str))}(ne:CH≠C)(h:W2 C CH L H x1 p1 x2 p2)(s:cR H H'):∃ L',cR L L'/\W2 C CH L' H' x1 p1 x2 p2/\∀ a o,H a=none->H' a=some o->L' a=some o:=by
 obtain⟨L1,h1,I,hI⟩:=h.a;obtain⟨J,s1,U,hn,_⟩:=h1.ext s;exact⟨hJ L L1 J,λa o e=>by rw[jY I e];exact s1 _ _ (I _ _ e),W2.step ne I hI U λa o e _=>s1 _ _ e,λa o e e'=>by rw[BG (h1.s.free e)];exact hn a o e e'⟩
theorem W2.mset {C CH:LS}{L H:Hp}{x1 x2 p:LS}{p1 p2:LR (LR (Str×Str))}{m0 m:HO}(ne:CH≠C)(h:W2 C CH L H x1 p1 x2 p2)(hm0:Mo m0)(hm:Mo m)(hp:L p=some m0):W2 C CH (upd L p m) (upd H p m) x1 p1 x2 p2:=by
 obtain⟨L1,h1,sL,I,dx,bs,g1,g2,g3,J,g5⟩:=h.a;have U:=sL _ _ hp;have nx:x2≠p:=λz=>by rw[z,hp] at J;cases J
 have nv:I≠p:=λz=>by rw[z,hp] at g3;cases g3
 refine W2.mk' ne (h1.mset hm0 hm U) (λa o e=>?_) ⟨I,dx,bs,(cW nx).trans g1,(cW nv).trans g2,(cW nv).trans g3,(cW nx).trans J,Gn.Paired.imp2 g5 λ_ _ ⟨b,e,q⟩=>⟨b,e,q.same λa o ha=>?_⟩⟩
 ·by_cases z:a=p
  ·subst z;rw[cT] at e ⊢;exact e
  ·rw[cW z] at e ⊢;exact sL _ _ e
 ·have e1:=gY _ _ ha
  have na:a≠I:=λz=>by subst z;exact gO ha (.lst bs) trivial cT
  have np:a≠p:=λz=>by subst z;exact gO ha m0 hm0 ((cW na).trans hp)
  refine iH ((cW np).trans e1) λm' aa z=>gO ha m' aa ?_
  rw[cW na,cW np] at z;exact(cW na).trans z
structure uN (ks : LR Str) : Prop where
 n : ks.Nodup
 g : ∀ k ∈ ks, dA 12 (.str k) = true
theorem Bh{cs:LR Nat}(h1:1<=cs.length)(h2:cs.length<=12)(h:cs.all dW=true):dA 12 (.str ⟨cs.toArray⟩)=true:=by
 show(decide (1<=(⟨cs.toArray⟩:Str).length)&&decide ((⟨cs.toArray⟩:Str).length<=12)&&(⟨cs.toArray⟩:Str).cps.toList.all dW)=true;rw[iY,Mb h1,Mb h2];simpa using h
theorem str_inj{a b:LR Nat}(h:(⟨a.toArray⟩:Str)=⟨b.toArray⟩):a=b:=by
 have:(⟨a.toArray⟩:Str).cps.toList=(⟨b.toArray⟩:Str).cps.toList:=by rw[h]
 simpa using this
theorem tS{p:Nat->Nw}{l:LR Nat}(n:Nat)(h:l.all p=true):(l.take n).all p=true:=List.all_eq_true.mpr λc I=>List.all_eq_true.mp h c (Pn I)
theorem Hh{p:Nat->Nw}{l:LR Nat}(n:Nat)(h:l.all p=true):(l.drop n).all p=true:=List.all_eq_true.mpr λc I=>List.all_eq_true.mp h c (Qm I)
noncomputable def wQ(cs:LR Nat)(j:Nat):Str:=⟨(cs.take (j+1)).toArray⟩
noncomputable def vL(a m:LR Nat)(j:Nat):Str:=⟨(a++((codes gx).getD j 0::m)).toArray⟩
theorem xA{α:Type}{f:Nat->α}{n:Nat}(h:∀ i j,i<n->j<n->f i=f j->i=j):((NQ n).map f).Nodup:=by
 refine List.pairwise_map.mpr (List.Pairwise.imp_of_mem (λ{a b} ha hb I e=>I (h a b (List.mem_range.mp ha) (List.mem_range.mp hb) e)) List.nodup_range)
theorem KW{cs:LR Nat}{n:Nat}(hl:cs.length=12)(h:cs.all dW=true)(hn:n<=12):uN ((NQ n).map (wQ cs)):=by
 refine⟨xA λi j hi I e=>?_,λk hk=>?_⟩
 ·have:=Nl MQ (str_inj e);rw[ML,ML] at this
  lia
 ·obtain⟨j,I,rfl⟩:=List.mem_map.mp hk;have:=List.mem_range.mp I;exact Bh (by rw[ML];lia) (by rw[ML];lia) (tS _ h)
theorem BN:(codes gx).length=36/\(codes gx).all dW=true/\(codes gx).Nodup:=dkq
theorem JS{a m:LR Nat}{n:Nat}(ha:a.length<=7)(hm:m.length<=3)(h1:a.all dW=true)(h2:m.all dW=true)(hn:n<=36):uN ((NQ n).map (vL a m)):=by
 obtain⟨s1,s2,s3⟩:=BN;have I:∀ j,j<36->(codes gx).getD j 0∈codes gx:=λj J=>by
  rw[List.getD_eq_getElem?_getD,List.getElem?_eq_getElem (by lia)];exact Pq _
 refine⟨xA λi j hi J e=>?_,λk hk=>?_⟩
 ·have e1:=List.append_cancel_left (str_inj e)
  have U:=(Pa e1).1;rw[List.getD_eq_getElem?_getD,List.getD_eq_getElem?_getD,List.getElem?_eq_getElem (by lia),List.getElem?_eq_getElem (by lia)] at U;exact(List.getElem_inj s3).mp U
 ·obtain⟨j,J,rfl⟩:=List.mem_map.mp hk;have:=List.mem_range.mp J;refine Bh (by rw[Md,Ms];lia) (by rw[Md,Ms];lia) ?_;rw[O8,OC,h1,h2,List.all_eq_true.mp s2 _ (I j (by lia))];rfl
theorem xE{R:Str}{j:Int}(h0:0<=j)(h1:j<=R.length):Txt.slice R none (some j)=⟨((codes R).take j.toNat).toArray⟩:=by
 have l:R.cps.toList.length=R.length:=by simp[NB]
 have e:Txt.slice R none (some j)=_:=OG ⟨h0,by lia⟩;rw[e,List.drop_zero,Int.sub_zero];rfl
theorem Fl{R:Str}{i j:Int}(h0:0<=i)(h1:i<=j)(h2:j<=R.length):Txt.slice R (some i) (some j)=⟨(((codes R).drop i.toNat).take (j-i).toNat).toArray⟩:=by
 have l:R.cps.toList.length=R.length:=by simp[NB]
 exact Qn ⟨h0,h1,by lia⟩
theorem zN(a b:LR Nat):(⟨a.toArray⟩:Str)++(⟨b.toArray⟩:Str)=⟨(a++b).toArray⟩:=by
 have e:(⟨a.toArray⟩:Str)++(⟨b.toArray⟩:Str)=⟨a.toArray++b.toArray⟩:=rfl;rw[e,List.append_toArray]
section
variable {P : Mq} {w : MT} {K : Mz} {mg : Str -> Mc LW} {base : Nn} {C CH : LS}
noncomputable def wF:Sp:=λvs H Q _=>∃(n:Int) (m:Nat),vs=[.int n,.int m]/\0<=n/\m<=26/\∀ l ks H',cR H H'->H l=none->H' l=some (.lst (ks.map V.str))->ks.length=m->uN ks->Q (.ref l) H'
noncomputable abbrev qJ:LR Str:=["_law_number_here","_law_many","_law_signs","_law_rest","_law_at"]
theorem rh:dC qJ ["_law_number_here","_law_many"] (c9 kb):=⟨rfl,rfl,rfl,dkq,rfl,dkq,dkq⟩
theorem Gy:(["_law_j","_law_signs","_law_number_here"]:LR Str).Nodup:=dkq
theorem K5:(["_law_k","_law_rest"]:LR Str).Nodup:=dkq
theorem Jm:(["_law_k","_law_rest","_law_at","_law_signs","_law_number_here"]:LR Str).Nodup:=dkq
seal dj PS PE PT PA PG PI dE dD in
theorem II{f fm:LS}{fd fdm:Mj}(D:Df K mg "_law_keys" kb f fd)(DM:Df K mg "_law_mixed" kM fm fdm)(T:Txt mg):cV P w K mg base dc 2 f fd ["_law_number_here","_law_many"] wF:=by
 have GM:cV P w K mg base dc 1 fm fdm ["_law_number_here","_law_k"] pC:=qO DM
 have bM:=DM.F.binds (ps:=["_law_number_here","_law_k"]) λ_ _ _ _ _ _ us hl=>eO (λ_ _=>rfl) us hl
 refine D.F.ok rh (λvs H Q E h=>?_) (λcdv A outer s H vs Q E hr h=>?_)
 ·obtain⟨n,m,rfl,_⟩:=h;rfl
 ·obtain⟨n,m,rfl,aq,ai,kk⟩:=h;have hl:(sizeLine:Nat)=16777216:=Mt;refine⟨_,cU (di (i:=2) rh.nd rfl (Rq rfl) dq)
   (cU (di (i:=3) rh.nd rfl (Rq rfl) (eV NZ Rz RA tX dq (cP (fP (own:=1) (caps:=[2,0]) (N:=["_law_j","_law_signs","_law_number_here"])
     (N0:=qJ) (sc0:=c9 kb) rfl
    (iO rfl T.range (cP cX cQ)) (λ_ _ _=>dB (i:=0) Gy rfl (Mh rfl)) (λ_ _ _=>fF)
    (λ_ _ _=>eB sZ (pv 1) (de eR (dw GM hr rfl DM.m DM.F.kp bM .nil du (cP (pv 2) (cP (de eP cX (pv 0)) cQ))) cX) (λ_ _=>rfl)) (eM (by decide)) rfl rfl
    dkq rfl dkq dkq rfl dkq) cQ)))
   (cU (dP (PW.pt (mj (dU fV (de eR (pv 0) cX) cX (dH _)) (lT (dU kh (pv 1) cX (dH _)))))
    (cY (dg (fP (own:=1) (caps:=[3]) (N:=["_law_k","_law_rest"]) (N0:=qJ) (sc0:=c9 kb) rfl
     (iO rfl T.range (cP (pv 1) cQ)) (λ_ _ _=>dB (i:=0) K5 rfl (Mh rfl)) (λ_ _ _=>fF)
     (λ_ _ _=>ik jS (pv 1) js (gL (de eP (pv 0) cX))) (eM (by decide)) rfl rfl
     dkq rfl dkq dkq rfl dkq))) dO)
   (cU (di (i:=4) rh.nd rfl (Rq rfl) (de eR (de gz (pv 0) cX) cX))
   (cY (dg (fP (own:=1) (caps:=[3,4,2,0]) (N:=["_law_k","_law_rest","_law_at","_law_signs","_law_number_here"]) (N0:=qJ) (sc0:=c9 kb) rfl
     (iO rfl T.range (cP (pv 1) cQ)) (λ_ _ _=>dB (i:=0) Jm rfl (Mh rfl)) (λ_ _ _=>fF)
     (λ_ _ _=>de kZ (de kZ (ik jS (pv 1) js (gL (pv 2))) (eB sZ (pv 3) (pv 0) (λ_ _=>rfl))) (ik jS (pv 1) (gL (pv 2)) (gL (de eP (pv 2) (de eR (de gz (pv 4) cX) cX))))) (eM (by decide)) rfl rfl
     dkq rfl dkq dkq rfl dkq)))))),?_⟩;obtain⟨ar,hS,_⟩:=BN;have aj:gx.length=36:=dkq;refine xj λR1 ab=>?_
  show R1 _ [some (.int n),some (.int m),some (.str gx),none,none] H;refine iB (R:=R1) ab λR2 ae=>?_
  refine⟨rfl,12,rfl,by decide,by decide,ow (λi ys H1=>H1=H/\∃ cs:LR Nat,cs.length=i/\cs.all dW=true/\ys=cs.map λc=>V.str ⟨#[c]⟩) (by rw[hl];decide) ⟨rfl,[],rfl,rfl,rfl⟩ ?_ ?_⟩
  ·rintro i ys H1 N hi ⟨rfl,cs,hc,hok,rfl⟩ hN;have ak:i<12:=hi;refine g1 ?_;refine⟨_,rfl,_,rfl,_,rfl,_,_,rfl,rfl,_,_,rfl,by lia,by lia,λr r0 r1=>?_⟩;refine⟨_,_,rfl,rfl,(by show(0:Int)<36;decide),?_⟩;obtain⟨j,hj,au⟩:=kG (r:=r) (n:=36) (by decide);have I:j<(codes gx).length:=by lia
   refine⟨gx,_,(codes gx)[j],rfl,rfl,by lia,?_,hN _ _ ⟨rfl,cs++[(codes gx)[j]],by simp[hc],by rw[O8,hok];simp[wK (p:=dW) (l:=codes gx) hS I],by rw[Mf];rfl⟩⟩;rw[<-hj];exact dS (List.getElem?_eq_getElem I)
  ·rintro ys H1 ⟨rfl,cs,hc,hok,rfl⟩ _ p hp;have U:cs.length=12:=hc;refine⟨_,p,cs.map λc=>(⟨#[c]⟩:Str),rfl,rfl,cS.of (by rw[cT,NG];rfl),?_,?_⟩
   ·rw[uZ,LV];show cs.length+cs.length*0<=_
    lia
   rw[join_eq];have sm:cR H1 (upd H1 p (.lst (cs.map λc=>V.str ⟨#[c]⟩))):=da hp;generalize upd H1 p (.lst (cs.map λc=>V.str ⟨#[c]⟩))=H2 at sm ⊢;have af:(⟨cs.toArray⟩:Str).length=12:=by rw[iY];exact U
   have J:codes ⟨cs.toArray⟩=cs:=by unfold codes;simp
   generalize (⟨cs.toArray⟩:Str)=R at af J ⊢;refine iB (R:=R2) ae λR3 ag=>?_
   have W2:R3 {nx:=λx H'=>Q V.non H',rt:=Q} [some (.int n),some (.int m),some (.str gx),some (.str R),none] H2:=by
    subst ag;obtain⟨at_,ha,av⟩:=kG (r:=n/3) (n:=8) (by decide);obtain⟨ex,he,aw⟩:=kG (r:=n/24) (n:=4) (by decide);refine⟨_,rfl,_,_,rfl,rfl,⟨by decide,by decide⟩,_,_,rfl,rfl,(by show(0:Int)<8;decide),?_⟩;show lh 4 (V.int (n/3%8)) _ _ _;rw[<-ha];refine⟨_,rfl,m,rfl,by lia,by lia,ow (λi ys H3=>H3=H2/\ys=((NQ i).map (vL (cs.take at_) ((cs.drop at_).take ex))).map V.str) (by rw[hl];lia) ⟨rfl,rfl⟩ ?_ ?_⟩
    ·rintro i ys H3 N hi ⟨rfl,rfl⟩ hN;have ah:i<m:=by simpa using hi
     have I:i<(codes gx).length:=by lia
     have e1:Txt.slice R none (some ((at_:Nat):Int))=⟨(cs.take at_).toArray⟩:=by rw[xE (by lia) (by lia),J,NF]
     have e2:Txt.slice R (some ((at_:Nat):Int)) (some ((at_:Int)+n/24%4))=⟨((cs.drop at_).take ex).toArray⟩:=by
      rw[<-he,Fl (by lia) (by lia) (by lia),J,NF]
      congr 3
      lia
     have l1:=Txt.slice_le R none (some ((at_:Nat):Int))
     have l2:=Txt.slice_le R (some ((at_:Nat):Int)) (some ((at_:Int)+n/24%4))
     have ao:(⟨#[(codes gx)[i]]⟩:Str).length=1:=rfl;refine g1 ?_;refine⟨_,rfl,_,rfl,_,rfl,R,rfl,by lia,_,rfl,_,rfl,gx,_,(codes gx)[i],rfl,rfl,by lia,(by rw[Oj];exact dS (List.getElem?_eq_getElem I)),_,_,rfl,rfl,by lia,_,rfl,_,rfl,_,rfl,_,rfl,_,rfl,_,_,rfl,rfl,⟨by decide,by decide⟩,_,_,rfl,rfl,(by show(0:Int)<4;decide),_,_,rfl,rfl,_,rfl,R,rfl,by lia,_,_,rfl,rfl,by rw[NM];lia,hN _ _ ⟨rfl,?_⟩⟩;rw[Ry,Mf,Mf]
     congr 1
     show [V.str (Txt.slice R none (some ((at_:Nat):Int))++⟨#[(codes gx)[i]]⟩++Txt.slice R (some ((at_:Nat):Int)) (some ((at_:Int)+n/24%4)))]=[V.str (vL _ _ i)];rw[e1,e2];have e3:(⟨#[(codes gx)[i]]⟩:Str)=⟨[(codes gx).getD i 0].toArray⟩:=by
      rw[List.getD_eq_getElem?_getD,List.getElem?_eq_getElem I];rfl
     rw[e3,zN,zN,Nc];rfl
    ·rintro ys H3 ⟨rfl,rfl⟩ _ q hq;rw[NF] at *;refine kk q _ _ (sm.trans (da hq)) (sm.free hq) cT (by rw[LV,Pf]) (JS ?_ ?_ (tS _ hok) (tS _ (Hh _ hok)) (by lia))
     ·rw[ML];lia
     ·rw[ML];lia
   refine⟨_,rfl,_,_,rfl,rfl,(by show(0:Int)<3;decide),rfl,_,rfl,?_⟩;refine oZ (λ_=>?_) (λ_=>df W2);refine⟨_,rfl,_,_,rfl,rfl,_,rfl,?_⟩;by_cases aa:(m:Int)<13
   ·rw[Mb aa];refine dG ⟨_,rfl,m,rfl,by lia,by lia,ow (λi ys H3=>H3=H2/\ys=((NQ i).map (wQ cs)).map V.str) (by rw[hl];lia) ⟨rfl,rfl⟩ ?_ ?_⟩
    ·rintro i ys H3 N hi ⟨rfl,rfl⟩ hN;have ah:i<m:=by simpa using hi
     refine g1 ?_;refine⟨_,rfl,_,rfl,_,_,rfl,rfl,_,rfl,R,rfl,by lia,hN _ _ ⟨rfl,?_⟩⟩;rw[Ry,Mf,Mf]
     congr 1
     show [V.str (Txt.slice R none (some ((0:Int)+i+1)))]=[V.str (wQ cs i)]
     have e:(0:Int)+i+1=((i+1:Nat):Int):=by lia
     rw[e,xE (by lia) (by lia),J,NF];rfl
    ·rintro ys H3 ⟨rfl,rfl⟩ _ q hq;rw[NF] at *;exact kk q _ _ (sm.trans (da hq)) (sm.free hq) cT (by rw[LV,Pf]) (KW U hok (by lia))
   ·rw[LY aa];exact df W2
end
structure Tx (ws : LR Str) (n : Nat) (x : Str) : Prop where
 d : Drawn x
 l : (tw x).length<=n
 r : Mp ws x
noncomputable def lA(H:Hp):LR V->LR (Str×Str×Str)->Prop:=MY λv d=>∃ p,v= .ref p/\H p=some (.tup [.str d.1,.str d.2.1,.str d.2.2])
theorem lA.same {H H':Hp}{xs:LR V}{t:LR (Str×Str×Str)}(h:lA H xs t)(s:cR H H'):lA H' xs t:=Gn.Paired.imp2 h λ_ _ ⟨p,e,q⟩=>⟨p,e,s _ _ q⟩
theorem Ja{H:Hp}{pa:LS}{xs:LR V}{qs:LR (Str×Str×Str)}{p:LS}{q:Str×Str×Str}(ha:H pa=some (.lst xs))(h:lA H xs qs)(hp:H p=some (.tup [.str q.1,.str q.2.1,.str q.2.2])):lA (upd H pa (.lst (xs++[.ref p]))) (xs++[.ref p]) (qs++[q]):=by
 have I:∀{b:LS} {ts:LR V},H b=some (.tup ts)->b≠pa:=λe z=>by rw[z,ha] at e;cases e
 exact Gn.Paired.app (Gn.Paired.imp2 h λ_ _ ⟨b,e,z⟩=>⟨b,e,by rw[cW (I z)];exact z⟩) ⟨p,rfl,by rw[cW (I hp)];exact hp⟩
section
variable {P : Mq} {w : MT} {K : Mz} {mg : Str -> Mc LW} {base : Nn} {C CH : LS}
noncomputable def ki:LR Str:=["put","put","put","put","take","take","pour"]
noncomputable def yA(K:Mm):Sp:=λvs H Q _=>∃(a b:LS) (ns:LR Int) (ws:LR Str) (f:Nat),vs=[.ref a,.int f,.ref b]/\f<=100/\cS K H a (ns.map V.int)/\ns.length<=63/\H b=some (.lst (ws.map V.str))/\1<=ws.length/\(∀ z∈ws,Wm z)/\
 ∀ l xs ds H',cR H H'->H l=none->H' l=some (.lst xs)->lA H' xs ds->ds.length<=11->(∀ d∈ds,d.1∈ki/\dA 12 (.str d.2.1)=true/\Tx ws 90 d.2.2)->Q (.ref l) H'
theorem kS:dC ["_law_script","_law_first","_law_menu_here","_law_keys_here","_law_found","_law_k","_law_number_here","_law_way","_law_size"] ["_law_script","_law_first","_law_menu_here"] (c9 pP):=⟨rfl,rfl,rfl,dkq,rfl,dkq,dkq⟩
seal dj PS PE PT PA PG PI dE dD in
theorem IH{f fn fk ft:LS}{fd fdn fdk fdt:Mj}(D:Df K mg "_law_deeds" pP f fd)(DN:Df K mg "_law_number" mX fn fdn)(GN:cV P w K mg base dc 2 fn fdn ["_law_script","_law_k"] (wH K))
  (DK:Df K mg "_law_keys" kb fk fdk)(GK:cV P w K mg base dc 2 fk fdk ["_law_number_here","_law_many"] wF)(DT:Df K mg "_law_text" pW ft fdt)(GT:cV P w K mg base dc 2 ft fdt ["_law_number_here","_law_menu_here","_law_many"] xH)(T:Txt mg):
  cV P w K mg base dc 3 f fd ["_law_script","_law_first","_law_menu_here"] (yA K):=by
 have bN:=DN.F.binds (ps:=["_law_script","_law_k"]) λ_ _ _ _ _ _ us hl=>eO (λ_ _=>rfl) us hl
 have bK:=DK.F.binds (ps:=["_law_number_here","_law_many"]) λ_ _ _ _ _ _ us hl=>eO (λ_ _=>rfl) us hl
 have bT:=DT.F.binds (ps:=["_law_number_here","_law_menu_here","_law_many"]) λ_ _ _ _ _ _ us hl=>jD (λ_ _ _=>rfl) us hl
 refine D.F.ok kS (λvs H Q E h=>?_) (λcdv A outer s H vs Q E hr h=>?_)
 ·obtain⟨a,b,ns,ws,f0,rfl,_⟩:=h;rfl
 ·obtain⟨a,b,ns,ws,f0,rfl,aC,hS,U,hB,h5,ak,kk⟩:=h;have hl:(sizeLine:Nat)=16777216:=Mt;refine⟨_,cU (di (i:=3) kS.nd rfl (Mh rfl) (dw GK hr rfl DK.m DK.F.kp bK .nil du (cP (dw GN hr rfl DN.m DN.F.kp bN .nil du (cP (pv 0) (cP (pv 1) cQ))) (cP cX cQ))))
   (cU (di (i:=4) kS.nd rfl (Mh rfl) (dZ cQ))
   (cU (fx MK rfl (iO rfl T.range (cP (de eP cX (de eR (dw GN hr rfl DN.m DN.F.kp bN .nil du (cP (pv 0) (cP (de eP (pv 1) cX) cQ))) cX)) cQ)) (dB (i:=5) kS.nd rfl (Mh rfl))
    (cU (di (i:=6) kS.nd rfl (Mh rfl) (dw GN hr rfl DN.m DN.F.kp bN .nil du (cP (pv 0) (cP (de eP (de eP (pv 1) cX) (pv 5)) cQ))))
    (cU (di (i:=7) kS.nd rfl (Mh rfl) (eB eY (dZ (cP dq (cP dq (cP dq (cP dq (cP dq (cP dq (cP dq cQ)))))))) (de eR (pv 6) cX) (λ_ _=>rfl)))
    (cU (di (i:=8) kS.nd rfl (Mh rfl) (de eR (de gz (pv 6) cX) cX))
    (cU (uX (dU fV (de eR (de gz (pv 6) cX) cX) cX (dH _)) (cY (di (i:=8) kS.nd rfl (Mh rfl) cX)) dO)
    (cY (fv (eV MP MN MS gE (pv 4)
     (cP (ip (cP (pv 7) (cP (eB eY (pv 3) (de eR (de gz (pv 6) cX) cX) (λ_ _=>rfl))
      (cP (dw GT hr rfl DT.m DT.F.kp bT .nil du (cP (de gz (pv 6) cX) (cP (pv 2) (cP (pv 8) cQ)))) cQ)))) cQ)))))))))
   (cY (dg (pv 4))))),?_⟩;refine⟨_,rfl,_,rfl,a,ns,f0,rfl,hS,U,by lia,λr0 H1 ao aD s1=>?_⟩;refine⟨r0,9,rfl,ao,by decide,λkl ks H2 s2 aE hK aq ar=>?_⟩;refine⟨MM _,λl aa=>?_⟩;have s3:cR H2 (upd H2 l (.lst [])):=da aa;have e3:upd H2 l (.lst []) l=some (.lst []):=cT;have ae:=s1.trans s2;have J:H l=none:=ae.free aa;have au:kl≠l:=dF hK aa;generalize upd H2 l (.lst [])=H3 at s3 e3 ⊢;have af:=ae.trans s3;refine⟨_,rfl,_,rfl,_,_,rfl,rfl,a,ns,f0+1,rfl,af.seq hS,U,by lia,λr1 H4 aF aG s4=>?_⟩;obtain⟨j9,aH,aB⟩:=kG (r:=r1) (n:=9) (by decide);refine⟨_,_,rfl,rfl,(by show(0:Int)<9;decide),_,_,rfl,rfl,?_⟩;refine⟨3+r1%9,rfl,by lia,by lia,?_⟩;have en:(3+r1%9).toNat=3+j9:=by lia
  refine mm (λi σ H'=>∃(xs:LR V) (ds:LR (Str×Str×Str)) (v5 v6 v7 v8:Mc V),σ=[some (.ref a),some (.int f0),some (.ref b),some (.ref kl),some (.ref l),v5,v6,v7,v8]/\cR H H'/\H' kl=some (.lst (ks.map V.str))/\H' l=some (.lst xs)/\lA H' xs ds/\ds.length=i/\
   (∀ d∈ds,d.1∈ki/\dA 12 (.str d.2.1)=true/\Tx ws 90 d.2.2)) ?_ ?_ ?_
  ·exact⟨[],[],none,none,none,none,rfl,af.trans s4,(s3.trans s4) _ _ hK,s4 _ _ e3,.nil,rfl,(λd h=>nomatch h)⟩
  ·rintro i σ H' hi ⟨xs,ds,v5,v6,v7,v8,rfl,sm,ab,hL,hD,hlen,hd⟩;rw[en] at hi;refine⟨_,rfl,_,rfl,_,_,rfl,rfl,_,rfl,_,_,rfl,rfl,?_⟩;refine⟨a,ns,f0+2+i,Nl (λz=>[V.ref a,V.int z]) (show((f0:Int)+2+(0+(i:Int)))=((f0+2+i:Nat):Int) by lia),sm.seq hS,U,by lia,λr H5 r0 r1 s5=>?_⟩;refine⟨(by show 7<=sizeLine;lia),λp hp=>?_⟩;have s6:cR H5 (upd H5 p (.lst (ki.map V.str))):=da hp;obtain⟨wy,av,ew⟩:=lB (ss:=ki) (n:=r) (L:=7) (by decide) rfl;refine⟨_,rfl,_,_,rfl,rfl,(by show(0:Int)<7;decide),p,ki.map V.str,_,_,rfl,rfl,cS.of cT,ew,?_⟩;refine⟨_,rfl,_,_,rfl,rfl,⟨by decide,by decide⟩,_,_,rfl,rfl,(by show(0:Int)<9;decide),?_⟩;have ag:=(sm.trans s5).trans s6;have I:=s5.trans s6;refine⟨λah H7=>H7=upd H5 p (.lst (ki.map V.str))/\∃ sz:Nat,sz<=90/\ah=[some (.ref a),some (.int f0),some (.ref b),some (.ref kl),some (.ref l),some (.int (0+(i:Int))),some (.int r),some (.str wy),some (.int (sz:Int))],?_,?_⟩
   ·obtain⟨j,hj,aI⟩:=kG (r:=r/700) (n:=9) (by decide);refine⟨_,rfl,_,_,rfl,rfl,⟨by decide,by decide⟩,_,_,rfl,rfl,(by show(0:Int)<60;decide),rfl,_,rfl,?_⟩;refine oZ (λ_=>⟨rfl,90,Ma _,rfl⟩) (λ_=>⟨rfl,j,by lia,?_⟩);show [some (V.ref a),some (.int f0),some (.ref b),some (.ref kl),some (.ref l),some (.int (0+(i:Int))),some (.int r),some (.str wy),some (V.int (r/700%9))]=_;rw[<-hj]
   ·rintro ah H7 ⟨rfl,sz,hsz,rfl⟩;generalize upd H5 p (.lst (ki.map V.str))=H6 at s6 ag I ⊢;obtain⟨key,ai,ek⟩:=lB (ss:=ks) (n:=r/7) (L:=9) (by lia) (by rw[aq];rfl);refine⟨_,rfl,.inl ⟨rfl,_,cS.of (I _ _ hL)⟩,_,rfl,_,rfl,_,rfl,_,_,rfl,rfl,⟨by decide,by decide⟩,_,_,rfl,rfl,(by show(0:Int)<9;decide),kl,_,_,_,rfl,rfl,cS.of (I _ _ ab),ek,_,rfl,_,_,rfl,rfl,⟨by decide,by decide⟩,_,rfl,_,rfl,?_⟩;refine⟨r/100,b,ws,sz,rfl,by lia,ag _ _ hB,h5,ak,λx H7 s7 aw ax ay az=>?_⟩;refine⟨(by show 3<=sizeLine;lia),λq hq=>?_⟩;have s8:cR H' (upd H7 q (.tup [.str wy,.str key,.str x])):=(I.trans s7).trans (da hq);have aj:upd H7 q (.tup [.str wy,.str key,.str x]) q=some (.tup [.str wy,.str key,.str x]):=cT;generalize upd H7 q (.tup [.str wy,.str key,.str x])=H8 at s8 aj ⊢;have aJ:=Gn.Paired.len hD;refine⟨l,_,_,rfl,rfl,s8 _ _ hL,(by lia),?_⟩;refine⟨xs++[.ref q],ds++[(wy,key,x)],_,_,_,_,rfl,λc u e=>(cW (dF e J)).trans ((sm.trans s8) _ _ e),(cW au).trans (s8 _ _ ab),cT,Ja (s8 _ _ hL) (hD.same s8) aj,by rw[Md,hlen];rfl,λd aA=>?_⟩;rcases List.mem_append.mp aA with z|z
    ·exact hd d z
    ·rw[List.mem_singleton.mp z];exact⟨av,ar.g key ai,⟨aw,ax⟩,Mr ay hsz,az⟩
  ·rintro σ H' ⟨xs,ds,v5,v6,v7,v8,rfl,sm,ab,hL,hD,hlen,hd⟩;rw[en] at hlen;exact⟨_,rfl,kk l xs ds H' sm J hL hD (by lia) hd⟩
end
noncomputable def iN(ts:LR Str):Nat:=(ts.map λt=>t.length+2).sum
theorem A7:∀(ts:LR Str) (k:Nat) (acc:Str),(textFrom k acc ts).length<=acc.length+iN ts
 |[],k,acc=>Nat.le_add_right _ _
 |t::r,k,acc=>by
  have h:=A7 r (k+1) (acc++(if k>0 then ", " else "":OE)++t)
  have e:(acc++(if k>0 then ", " else "":OE)++t).length=acc.length+(if k>0 then 2 else 0)+t.length:=by
   rw[Qc,Qc];split<;>rfl
  rw[e] at h;show(textFrom (k+1) _ r).length<=acc.length+((t.length+2)::r.map λt=>t.length+2).sum;rw[OO];have:(if k>0 then 2 else 0:Nat)<=2:=by split<;>decide
  have:iN r=(r.map λt=>t.length+2).sum:=rfl
  lia
theorem wG(ts:LR Str):(RG ts).length<=iN ts+2:=by
 have:=A7 ts 0 "[";unfold RG;rw[Qc];have I:NB (LU "[")=1:=dkq;have J:NB (LU "]")=1:=dkq;have U:NB ("]":Str)=1:=J;have e4:NB ("[":Str)=1:=I;rw[e4] at this;rw[U]
 lia
theorem De(a b:Str):(tupleText [a,b]).length<=a.length+b.length+4:=by
 have h:=join_length_add [a,b] (by simp)
 have e:piled [a,b]=a.length+2+(b.length+2):=by simp[piled]
 unfold tupleText;rw[Qc,Qc];have I:NB ("(":Str)=1:=dkq;have J:NB ((if ([a,b]:LR Str).length==1 then ",)" else ")":OE):Str)=1:=by
  show NB (LU ")")=1;decide +kernel
 rw[I,J]
 lia
theorem sx{z:Str}(h:(codes z).all eJ=true):(Nj z).shown.length<=10*z.length+2:=StrLaws.reprText_len z λc I=>by
 have:=jz (List.all_eq_true.mp h c I)
 have e:(16:Nat) ^ 8=4294967296:=by decide
 rw[e]
 lia
theorem all_map(ds:LR OV):Qx ds=ds.map N7:=by
 induction ds with
 |nil=>rfl
 |cons d r I=>show _::_=_;rw[I];rfl
theorem IE(a b:LR Str):iN (a++b)=iN a+iN b:=by unfold iN;rw[Mf,PB]
theorem zS{ts:LR Str}{m:Nat}(h:∀ t∈ts,t.length<=m):iN ts<=ts.length*(m+2):=by
 induction ts with
 |nil=>exact MM _
 |cons t r I=>
  have h1:=h t Mi
  have h2:=I λu J=>h u (Mg _ J)
  show((t.length+2)::r.map λt=>t.length+2).sum<=_;rw[OO,Ms,Rv];have:iN r=(r.map λt=>t.length+2).sum:=rfl
  lia
theorem ve{k:Str}(h:dA 12 (.str k)=true):(codes k).all eJ=true/\k.length<=12:=by
 have h':(decide (1<=k.length)&&decide (k.length<=12)&&k.cps.toList.all dW)=true:=h;rw[MO,MO] at h';exact⟨List.all_eq_true.mpr λc I=>wq (List.all_eq_true.mp h'.2 c I),Nh h'.1.2⟩
theorem Gm{p:Str×Str}(h:dA 12 (.str p.1)=true/\dX (.str p.2)=true):(PyData.tuple [.str p.1,.str p.2]).shown.length<=20200:=by
 obtain⟨a1,a2⟩:=ve h.1;have b:=kE h.2;have h1:=sx a1;have h2:=sx b.2;have I:=b.1;have:=De (Nj p.1).shown (Nj p.2).shown;show(tupleText [(Nj p.1).shown,(Nj p.2).shown]).length<=_
 lia
theorem zx:∀{rows:LR (LR (Str×Str))},(∀ ps∈rows,∀ p∈ps,dA 12 (.str p.1)=true/\dX (.str p.2)=true)->iN ((ix rows).map N7)<=rows.flatten.length*20202+rows.length*4
 |[],_=>MM _
 |ps::r,h=>by
  have ih:=zx λI J=>h I (Mg _ J)
  have h1:iN ((gA ps).map N7)<=ps.length*20202:=by
   have:=zS (ts:=(gA ps).map N7) (m:=20200) λt ht=>by
    obtain⟨d,hd,rfl⟩:=List.mem_map.mp ht;obtain⟨p,U,rfl⟩:=List.mem_map.mp hd;exact Gm (h ps Mi p U)
   rwa [LV,show(gA ps).length=ps.length from LV _] at this
  have h2:=wG ((gA ps).map N7)
  show(((NP (gA ps)).shown.length+2)::((ix r).map N7).map λ(t:Str)=>t.length+2).sum<=_;rw[OO,NS,Md,Ms,Nat.add_mul,Rv];have e:(NP (gA ps)).shown=RG ((gA ps).map N7):=by show RG (Qx _)=_;rw[all_map]
  have:iN ((ix r).map N7)=(((ix r).map N7).map λ(t:Str)=>t.length+2).sum:=rfl;rw[e]
  lia
structure oQ (d : OV) : Prop where
 s : d.showable = true
 n : d.hasDict = false
 p : d.depth<=100
 l : d.shown.length<=sizeLine
theorem yW(ts:LR Str):O6 (ts.map Nj)=true/\Pg (ts.map Nj)=false/\NW (ts.map Nj)<=1:=by
 induction ts with
 |nil=>exact⟨rfl,rfl,MM _⟩
 |cons t r I=>
  refine⟨?_,?_,?_⟩
  ·show(true&&_)=true;rw[I.1];rfl
  ·show(false||_)=false;rw[I.2.1];rfl
  ·show max _ _<=1
   have:(Nj t).depth<=1:=by simp[QI]
   exact Nat.max_le.mpr ⟨this,I.2.2⟩
theorem vf:(codes (LU "more")).all eJ=true/\(LU "more").length<=12:=dkq
theorem JX{ts:LR Str}(h:∀ t∈ts,(codes t).all eJ=true/\t.length<=12)(hl:ts.length<=100):oQ (.list (ts.map Nj)):=by
 obtain⟨a,b,c⟩:=yW ts;refine⟨a,b,?_,?_⟩
 ·show NW (ts.map Nj)+1<=100
  lia
 ·have h1:=wG ((ts.map Nj).map N7)
  have h2:=zS (ts:=(ts.map Nj).map N7) (m:=122) λt ht=>by
   obtain⟨d,hd,rfl⟩:=List.mem_map.mp ht;obtain⟨z,I,rfl⟩:=List.mem_map.mp hd;have:=sx (h z I).1;have:=(h z I).2
   lia
  rw[LV,LV] at h2;have I:(sizeLine:Nat)=16777216:=Mt;show(RG (Qx _)).length<=_;rw[all_map];have:ts.length*(122+2)<=100*124:=Qo _ hl
  lia
theorem Bw(ps:LR (Str×Str)):O6 (gA ps)=true/\Pg (gA ps)=false:=by
 induction ps with
 |nil=>exact⟨rfl,rfl⟩
 |cons p r I=>exact⟨by show(true&&_)=true;exact I.1,by show(false||_)=false;exact I.2⟩
theorem B4(rows:LR (LR (Str×Str)))(ds:LR OV)(h:O6 ds=true)(h':Pg ds=false):O6 (ix rows++ds)=true/\Pg (ix rows++ds)=false:=by
 induction rows with
 |nil=>exact⟨h,h'⟩
 |cons ps r I=>
  refine⟨?_,?_⟩
  ·show(O6 (gA ps)&&_)=true;rw[(Bw ps).1];exact I.1
  ·show(Pg (gA ps)||_)=false;rw[(Bw ps).2];exact I.2
theorem GX(rows:LR (LR (Str×Str))):NW (ix rows++[.str "more"])<=4:=by
 induction rows with
 |nil=>show max _ _<=4;simp[QI,NW]
 |cons ps r I=>
  show max (NP (gA ps)).depth _<=4;exact Nat.max_le.mpr ⟨Mr (tH ps) (by decide),I⟩
theorem Ew{rows:LR (LR (Str×Str))}(h:∀ ps∈rows,∀ p∈ps,dA 12 (.str p.1)=true/\dX (.str p.2)=true)(hl:rows.flatten.length<=150)(h2:rows.length<=90):oQ (.list (ix rows++[.str "more"])):=by
 obtain⟨a,b⟩:=B4 rows [.str "more"] rfl rfl;refine⟨a,b,?_,?_⟩
 ·show NW _+1<=100
  have:=GX rows
  lia
 ·have I:=wG ((ix rows++[Nj "more"]).map N7)
  have J:=zx h
  have U:=sx vf.1
  have h6:=vf.2;rw[Mf,IE] at I;have e:iN ([Nj "more"].map N7)=(Nj (LU "more")).shown.length+2:=rfl;have hz:(sizeLine:Nat)=16777216:=Mt;show(RG (Qx _)).length<=_;rw[all_map,Mf];have:rows.flatten.length*20202<=150*20202:=Qo _ hl;have:rows.length*4<=90*4:=Qo _ h2
  lia
noncomputable def B8(L:Hp)(hl:LS):LR V->LR (LR (Str×Str))->Prop:=MY λv ps=>∃ p xs,v= .ref p/\p≠hl/\L p=some (.lst xs)/\eX L xs (ps.map kp)
noncomputable def hZ(L:Hp)(hl:LS)(v:V):Prop:=∃(p l:LS) (d:OV),v= .ref p/\L p=some (.tup [.ref l,.str d.shown])/\oQ d/\l≠hl/\
 ((∃ ts:LR Str,L l=some (.lst (ts.map V.str))/\d= .list (ts.map Nj))\/∃ rs rows,L l=some (.lst (rs++[.str "more"]))/\B8 L hl rs rows/\d= .list (ix rows++[.str "more"]))
noncomputable def Kp(hl:LS)(L L':Hp):Prop:=∀ a o,a≠hl->(∀ kvs,o≠ .dK kvs)->L a=some o->L' a=some o
theorem eX.kpN {L L':Hp}{hl:LS}{xs:LR V}{ps:LR (V×V)}(hh:∀ ts,L hl≠some (.tup ts))(k:Kp hl L L')(h:eX L xs ps):eX L' xs ps:=
 Gn.Paired.imp2 h λ_ _ ⟨p,e,q⟩=>⟨p,e,k _ _ (λz=>hh _ (by rw[<-z];exact q)) (by intro _ z;cases z) q⟩
theorem Jj{L:Hp}{a:LS}{xs:LR V}(h:L a=some (.lst xs)):∀ ts,L a≠some (.tup ts):=λts z=>by rw[h] at z;cases z
theorem hZ.keepN {L L':Hp}{hl:LS}{v:V}(hh:∀ ts,L hl≠some (.tup ts))(k:Kp hl L L')(h:hZ L hl v):hZ L' hl v:=by
 obtain⟨p,l,d,e,I,J,hn,U⟩:=h;refine⟨p,l,d,e,k _ _ (λz=>hh _ (by rw[<-z];exact I)) (by intro _ z;cases z) I,J,hn,?_⟩;rcases U with ⟨ts,h1,h2⟩|⟨rs,rows,h1,h2,h3⟩
 ·exact .inl ⟨ts,k _ _ hn (by intro _ z;cases z) h1,h2⟩
 ·exact .inr ⟨rs,rows,k _ _ hn (by intro _ z;cases z) h1,Gn.Paired.imp2 h2 λ_ _ ⟨q,xs,e,n,a,b⟩=>⟨q,xs,e,n,k _ _ n (by intro _ z;cases z) a,b.kpN hh k⟩,h3⟩
theorem hZ.keep {L L':Hp}{hl:LS}{hs:LR V}{v:V}(hh:L hl=some (.lst hs))(k:Kp hl L L')(h:hZ L hl v):hZ L' hl v:=h.keepN (Jj hh) k
noncomputable def Fr(L L':Hp):Hp:=λa=>match L' a with|some (.tup ts)=>some (.tup ts)|o=>(match L a with|none=>o|some _=>none)
theorem su{L L':Hp}{a:LS}{ts:LR V}(h:L' a=some (.tup ts)):Fr L L' a=some (.tup ts):=by unfold Fr;rw[h]
theorem qQ{L L':Hp}{a:LS}{o:HO}(h0:L a=none)(h:L' a=some o):Fr L L' a=some o:=by
 unfold Fr;rw[h,h0];cases o<;>rfl
theorem wM{L L':Hp}{a:LS}{o:HO}(h:Fr L L' a=some o):L' a=some o/\(L a=none\/∃ ts,o= .tup ts):=by
 unfold Fr at h;split at h
 ·rename_i ts e;cases h;exact⟨e,.inr ⟨ts,rfl⟩⟩
 ·split at h
  ·rename_i I;exact⟨h,.inl I⟩
  ·cases h
theorem zG{L L':Hp}:cR (Fr L L') L':=λ_ _ h=>(wM h).1
theorem rK{L L' M M':Hp}{a:LS}{o:HO}(h:Fr L L' a=some o)(h1:L a=none->M a=none)(h2:L' a=some o->M' a=some o):Fr M M' a=some o:=by
 obtain⟨e,c⟩:=wM h;rcases c with c|⟨ts,c⟩
 ·exact qQ (h1 c) (h2 e)
 ·subst c;exact su (h2 e)
theorem qm{K:Mm}{H:Hp}:∀ ts:LR Str,fQ K H (ts.map V.str) (ts.map Nj)
 |[]=> .nil
 |t::ts=> .cons (.str _) (qm ts)
theorem fQ.app {K:Mm}{H:Hp}:∀{a b:LR V} {x y:LR OV},fQ K H a x->fQ K H b y->fQ K H (a++b) (x++y)
 |_,_,_,_,.nil,h=>h
 |_,_,_,_,.cons h t,h2=> .cons h (fQ.app t h2)
theorem hZ.dt {K:Mm}{L:Hp}{hl:LS}{v:V}(h:hZ L hl v):∃(p l:LS) (d:OV),v= .ref p/\L p=some (.tup [.ref l,.str d.shown])/\oQ d/\gc K L (.ref l) d:=by
 obtain⟨p,l,d,e,I,J,hn,U⟩:=h;refine⟨p,l,d,e,I,J,?_⟩;rcases U with ⟨ts,h1,rfl⟩|⟨rs,rows,h1,h2,rfl⟩
 ·exact .lst (cS.of h1) (qm ts)
 ·exact .lst (cS.of h1) (fQ.app (tV (Gn.Paired.imp2 h2 λ_ _ ⟨q,xs,e,n,a,b⟩=>⟨q,xs,e,a,b⟩)) (.cons (.str _) .nil))
theorem jR{z:Str}(h:z.length<=5000:=by decide +kernel):fT (.str z):=λy e=>by
 injection e with e;rw[<-e]
 lia
theorem jC(a b:Int):decide (V.int a=V.int b)=decide (a=b):=decide_eq_decide.mpr ⟨λh=>V.int.inj h,λh=>by rw[h]⟩
theorem D1(bs:LR Nw):(NP (bs.map O0)).depth<=100:=by
 have:NW (bs.map O0)<=1:=by
  induction bs with
  |nil=>exact MM _
  |cons b r I=>show max _ _<=1;exact Nat.max_le.mpr ⟨by simp[QI],I⟩
 show _+1<=100
 lia
theorem all_true(bs:LR Nw):((bs.map λ_=>true).all id)=true:=by
 induction bs with
 |nil=>rfl
 |cons b r I=>exact I
theorem ED{ts:LR Str}(h:∀ t∈ts,(codes t).all eJ=true):(NP (ts.map Nj)).canLay0=true:=by
 show PyData.canLayAll0 _=true;induction ts with
 |nil=>rfl
 |cons t r I=>
  show((Nj t).canLay0&&_)=true;rw[so (λc J=>by have:=jz (List.all_eq_true.mp (h t Mi) c J);lia),I λq U=>h q (Mg _ U)];rfl
theorem EB(ts:LR Str):(NP (ts.map Nj)).depth<=100:=by
 have:=(yW ts).2.2
 show _+1<=100
 lia
theorem Bc{H:Hp}:∀{xs:LR V} {ps:LR (Str×Str)},eX H xs (ps.map kp)->∃ qs:LR LS,xs=qs.map V.ref/\MY (l9 H) qs ps
 |_,[],.nil=>⟨[],rfl,.nil⟩
 |_,p::ps,.cons ⟨q,e,h⟩ t=>by
  obtain⟨qs,I,h2⟩:=Bc t;exact⟨q::qs,by rw[e,I];rfl,.cons h h2⟩
theorem ux{α β γ:Type}{F:α->γ->Prop}{f:β->γ}:∀{l:LR α} {m:LR β},MY F l (m.map f)->MY (λa b=>F a (f b)) l m
 |_,[],.nil=> .nil
 |_,_::_,.cons h t=> .cons h (ux t)
theorem u6{H:Hp}:∀{qs:LR LS} {ps:LR (Str×Str)},MY (l9 H) qs ps->eX H (qs.map V.ref) (ps.map kp)
 |_,_,.nil=> .nil
 |_,_,.cons h t=> .cons ⟨_,rfl,h⟩ (u6 t)
theorem uv{K:Mm}{H:Hp}:∀{vs:LR V} {rs:LR Res},MY (fY H) vs rs->fQ K H vs (rs.map Res.d)
 |_,_,.nil=> .nil
 |_,_,.cons h t=> .cons h.dt (uv t)
theorem vq{α β γ:Type}{F:α->γ->Prop}{f:β->γ}:∀{l:LR α} {m:LR β},MY (λa b=>F a (f b)) l m->MY F l (m.map f)
 |_,_,.nil=> .nil
 |_,_,.cons h t=> .cons h (vq t)
theorem vn{rs:LR Res}(h:∀ r∈rs,r.ok):(NP (rs.map Res.d)).canLay0=true:=by
 show PyData.canLayAll0 _=true;induction rs with
 |nil=>rfl
 |cons r t I=>
  show(r.d.canLay0&&_)=true;rw[Res.lay (h r Mi),I λq J=>h q (Mg _ J)];rfl
theorem JG(rs:LR Res):(NP (rs.map Res.d)).depth<=100:=by
 have:NW (rs.map Res.d)<=3:=by
  induction rs with
  |nil=>exact MM _
  |cons r t I=>show max _ _<=3;exact Nat.max_le.mpr ⟨by cases r<;>simp[Res.d,QI,NW],I⟩
 show _+1<=100
 lia
theorem fY.new {H H1 L1:Hp}{v:V}{r:Res}(h:fY H1 v r)(hn:∀ a o,H a=none->H1 a=some o->L1 a=some o)(hf:∀ q,v= .ref q->H q=none):fY L1 v r:=by
 cases r with
 |non=>exact h
 |rf n=>obtain⟨l,e,q⟩:=h;exact⟨l,e,hn _ _ (hf l e) q⟩
 |tx t=>obtain⟨l,e,q⟩:=h;exact⟨l,e,hn _ _ (hf l e) q⟩
theorem FV{pss:LR (LR (Str×Str))}(hok:d6 pss)(k:Str):(fZ pss.flatten "text" k).ok:=by
 unfold fZ;rw[LX dkq,LX dkq];split
 ·rename_i h;exact(hok.g _ (nA hok.n h)).2
 ·show 1<10;decide
theorem C9{pss:LR (LR (Str×Str))}{ks:LR Str}(hok:d6 pss)(hk:∀ k∈ks,dA 12 (.str k)=true):(ks.map λk=>eT pss "text" (.str k) (.str ""))=ks.map λk=>fZ pss.flatten "text" k:=by
 refine Ox λk hm=>?_
 have a1:¬ LU "text"=LU "put":=dkq
 have a2:¬ LU "text"=LU "pour":=dkq
 have I:eT pss "text" (.str k) (.str "")=if fK pss (.str k)=true then .tx (iR (gq (.str k)) pss.flatten) else .rf 1:=by
  unfold eT;rw[LX a1,LZ (show LU "text"=LU "take"\/LU "text"=LU "text" from .inr rfl)]
 have J:fZ pss.flatten "text" k=if k∈pss.flatten.map (·.1) then .tx (iR k pss.flatten) else .rf 1:=by
  unfold fZ;rw[LX a2,LX a1]
 rw[I,J];by_cases h:k∈pss.flatten.map (·.1)
 ·rw[LZ (ko (hk k hm) h),LZ h];rfl
 ·rw[LX (show ¬ fK pss (.str k)=true by rw[nY h];exact MC),LX h]
noncomputable def ly:LR Str:=["_law_house","_law_plain","_law_keys_here","_law_turn","_law_held","_law_told","_law_due_here","_law_found","_law_laid","_law_row"]
section
variable {P : Mq} {w : MT} {K : Mz} {mg : Str -> Mc LW} {base : Nn} {C CH CA CN CNo CW CK CT C2 : LS}
theorem xV:Ny "str"=some (.type "str"):=dkq
theorem lD:dC ly ["_law_house","_law_plain","_law_keys_here","_law_turn","_law_held"] (c9 jk):=⟨rfl,rfl,rfl,dkq,rfl,dkq,dkq⟩
theorem yk:(["_law_key","_law_house"]:LR Str).Nodup:=dkq
theorem AM:(["_law_key","_law_plain"]:LR Str).Nodup:=dkq
theorem KG:(["_law_one"]:LR Str).Nodup:=dkq
theorem KS:(["_law_text_here"]:LR Str).Nodup:=dkq
noncomputable def oq(ks:LR Str):Prop:=ks.length<=64/\∀ k∈ks,dA 12 (.str k)=true
noncomputable def G8(K:Mm)(C CH:LS):TE:=λσ H Q=>∃(x kl:LS) (ks:LR Str) (I:LR (LR (Str×Str))),σ[0]? =some (some (.ref x))/\σ[2]? =some (some (.ref kl))/\ia C CH H x I/\H kl=some (.lst (ks.map V.str))/\oq ks/\∀ l H',cR H H'->H l=none->H' l=some (.lst ((ks.map λk=>decide (k∈keysOf I)).map V.bl))->Q (.ref l) H'
noncomputable def Gz:TE:=λσ H Q=>∃(d kl:LS) (ks:LR Str) (ps:LR (Str×Str)),σ[1]? =some (some (.ref d))/\σ[2]? =some (some (.ref kl))/\H d=some (.dK (dk ps))/\H kl=some (.lst (ks.map V.str))/\oq ks/\(ps.map (·.1)).Nodup/\∀ l,H l=none->Q (.ref l) (upd H l (.lst ((ks.map λk=>decide (k∈ps.map (·.1))).map V.bl)))
noncomputable def KY:TE:=λσ H Q=>∃(tl:LS) (bs:LR Nw),σ[5]? =some (some (.ref tl))/\H tl=some (.lst (bs.map V.bl))/\bs.length<=64/\∀ l,H l=none->Q (.ref l) (upd H l (.lst ((bs.map λ_=>true).map V.bl)))
noncomputable def Er:TE:=λσ H Q=>∃(d kl:LS) (ks:LR Str) (ps:LR (Str×Str)),σ[1]? =some (some (.ref d))/\σ[2]? =some (some (.ref kl))/\H d=some (.dK (dk ps))/\H kl=some (.lst (ks.map V.str))/\oq ks/\(ps.map (·.1)).Nodup/\ps.length<=1000/\
 ∀ l vs H',cR H H'->H l=none->H' l=some (.lst vs)->MY (λv k=>fY H' v (fZ ps "text" k)/\∀ q,v= .ref q->H q=none) vs ks->Q (.ref l) H'
noncomputable def JQ(K:Mm)(C CH:LS):TE:=λσ H Q=>∃(x kl:LS) (ks:LR Str) (I:LR (LR (Str×Str))) (L:Hp),σ[0]? =some (some (.ref x))/\σ[2]? =some (some (.ref kl))/\Hs C CH L H x I/\d6 I/\L kl=some (.lst (ks.map V.str))/\oq ks/\
 ∀ l vs L' H',cR L L'->Hs C CH L' H' x I->L' l=some (.lst vs)->MY (λv k=>fY L' v (eT I "text" (.str k) (.str ""))) vs ks->Q (.ref l) H'
noncomputable def DY:TE:=λσ H Q=>∃(d:LS) (ps:LR (Str×Str)),σ[1]? =some (some (.ref d))/\H d=some (.dK (dk ps))/\(∀ p∈ps,Drawn p.2)/\ps.length<=1000/\∀ l H',cR H H'->H l=none->H' l=some (.lst (nl (ps.map λp=>(tw p.2).length)))->Q (.ref l) H'
noncomputable def zE(C CH:LS):Sp:=λvs H Q _=>∃(x d kl hl:LS) (turn:Int) (I:LR (LR (Str×Str))) (ks:LR Str) (hs:LR V) (L:Hp),vs=[.ref x,.ref d,.ref kl,.int turn,.ref hl]/\Hs C CH L H x I/\d6 I/\I.flatten.length<64/\L d=some (.dK (dk I.flatten))/\
 L kl=some (.lst (ks.map V.str))/\oq ks/\0<=turn/\turn<=5/\L hl=some (.lst hs)/\hs.length<=5000/\(∀ v∈hs,hZ L hl v)/\hl≠kl/\
 ∀ J L' H',Hs C CH L' H' x I->(∀ a o,a≠hl->L a=some o->L' a=some o)->L' hl=some (.lst J)->J.length<=hs.length+1->(∀ v∈J,v∈hs\/hZ (Fr L L') hl v)->Q (.bl true) H'
structure HQ (P : Mq) (w : MT) (K : Mm) (mg : Str -> Mc LW) (base : Nn) (C CH : LS) (f1 f2 f3 f4 f5 : LS) (d1 d2 d3 d4 d5 : Mj) : Prop where
 F1 : dv K "has" "House.has" jJ f1 d1
 m1 : Meth K CH "has" f1
 G1 : cV P w K mg base dc 4 f1 d1 ["self", "key"] (q8 K C CH)
 F2 : dv K "many" "House.many" lG f2 d2
 m2 : Meth K CH "many" f2
 G2 : cV P w K mg base dc 3 f2 d2 ["self"] (xa C CH)
 F3 : dv K "total" "House.total" kA f3 d3
 m3 : Meth K CH "total" f3
 G3 : cV P w K mg base dc 2 f3 d3 ["self"] (w5 C CH)
 F4 : dv K "all_keys" "House.all_keys" kU f4 d4
 m4 : Meth K CH "all_keys" f4
 G4 : cV P w K mg base dc 2 f4 d4 ["self"] (zJ C CH)
 F5 : dv K "shelves" "House.shelves" jK f5 d5
 m5 : Meth K CH "shelves" f5
 G5 : cV P w K mg base dc 1 f5 d5 ["self"] (wz C CH)
seal dj PS PE PT PA PG PI dE dD in
theorem EH{f fu fa fw fl f1 f2 f3 f4 f5:LS}{fd fdu fda fdw fdl d1 d2 d3 d4 d5:Mj}(D:Df K mg "_law_asked" jk f fd)(HC:gT K mg C CH)(M:HQ P w K mg base C CH f1 f2 f3 f4 f5 d1 d2 d3 d4 d5)
  (DU:Df K mg "_law_due" oP fu fdu)(GU:cV P w K mg base dc 1 fu fdu ["_law_plain","_law_way","_law_key","_law_text_here"] sI)
  (DA:Df K mg "_law_answer" kW fa fda)(GA:cV P w K mg base dc 13 fa fda ["_law_house","_law_way","_law_key","_law_text_here"] (om K C CH))
  (DW:Df K mg "_law_whole" pJ fw fdw)(GW:cV P w K mg base dc 1 fw fdw ["_law_found","_law_due_here"] A3)
  (DL:Df K mg "_law_words" lu fl fdl)(GL:cV P w K mg base dc 1 fl fdl ["_law_text_here"] xk)(T:Txt mg)(hS:mg "sum"=none):
  cV P w K mg base dc 14 f fd ["_law_house","_law_plain","_law_keys_here","_law_turn","_law_held"] (zE C CH):=by
 have bU:=DU.F.binds (ps:=["_law_plain","_law_way","_law_key","_law_text_here"]) λ_ _ _ _ _ _ us hl=>lY (λ_ _ _ _=>rfl) us hl
 have bA:=DA.F.binds (ps:=["_law_house","_law_way","_law_key","_law_text_here"]) λ_ _ _ _ _ _ us hl=>lY (λ_ _ _ _=>rfl) us hl
 have bW:=DW.F.binds (ps:=["_law_found","_law_due_here"]) λ_ _ _ _ _ _ us hl=>eO (λ_ _=>rfl) us hl
 have bL:=eI (p:="_law_text_here") DL.F λ_ _ _ _ _ _ _=>rfl
 have b1:=M.F1.binds (ps:=["self","key"]) λ_ _ _ _ _ _ us hl=>eO (λ_ _=>rfl) us hl
 have b2:=M.F2.binds (ps:=["self"]) λ_ _ _ _ _ _ us hl=>gD (λ_=>rfl) us hl
 have b3:=M.F3.binds (ps:=["self"]) λ_ _ _ _ _ _ us hl=>gD (λ_=>rfl) us hl
 have b4:=M.F4.binds (ps:=["self"]) λ_ _ _ _ _ _ us hl=>gD (λ_=>rfl) us hl
 have b5:=M.F5.binds (ps:=["self"]) λ_ _ _ _ _ _ us hl=>gD (λ_=>rfl) us hl
 refine D.F.ok lD (λvs H Q E h=>?_) (λcdv A outer s H vs Q E hr h=>?_)
 ·obtain⟨x,d,kl,hl,turn,I,ks,hs,L,rfl,_⟩:=h;rfl
 ·obtain⟨x,d,kl,ab,turn,I,ks,hs,L,rfl,J,hok,aG,hd,hk,U,t0,t5,hh,b8,hH,b9,kk⟩:=h;have hu:=iP hr;have hz:(sizeLine:Nat)=16777216:=Mt;refine⟨_,cU (dP (dU fV (pv 3) cX (dH _))
    (cU (rB (i:=5) (t':=G8 K C CH) lD.nd rfl (Mh rfl) (own:=1) (caps:=[0]) (N:=["_law_key","_law_house"]) (N0:=ly) (sc0:=c9 jk) rfl (eZ (pv 2))
     (λ_ _ _=>dB (i:=0) yk rfl (Mh rfl)) (λ_ _ _=>fF) (λ_ _ _=>gU (pv 1) HC.cl M.m1 (M.G1.mono (by decide)) hr b1 .nil du (cP (pv 0) cQ)) (eM (by decide)) rfl rfl
     dkq rfl dkq dkq rfl dkq ?mH)
    (cY (dg (kd (jq (vG (K:=K) rfl hr.units100) (pv 5) (PE.imp (t':=Gz) (fP (own:=1) (caps:=[1]) (N:=["_law_key","_law_plain"]) (N0:=ly) (sc0:=c9 jk) rfl (eZ (pv 2))
     (λ_ _ _=>dB (i:=0) AM rfl (Mh rfl)) (λ_ _ _=>fF) (λ_ _ _=>AN (nC hu (pv 0) (pv 1))) (eM (by decide)) rfl rfl
     dkq rfl dkq dkq rfl dkq) ?mI) (dH _))
     (kD (dR (nG rfl) rfl T.all oM (cP (PE.imp (t':=KY) (fP (own:=1) (caps:=[]) (N:=["_law_one"]) (N0:=ly) (sc0:=c9 jk) rfl (eZ (pv 5))
     (λ_ _ _=>dB (i:=0) KG rfl (Mh rfl)) (λ_ _ _=>fF) (λ_ _ _=>dR (Bl (K:=K) rfl) rfl T.isi gG (cP (pv 0) (cP (iF (v:= .ty "bool") rfl T.bool vm rfl) cQ))) (eM (by decide)) rfl rfl
     dkq rfl dkq dkq rfl dkq) ?mB) cQ))))))) dO)
   (cU (dP (dU fV (pv 3) cX (dH _))
    (cU (rB (i:=6) (t':=Er) lD.nd rfl (Mh rfl) (own:=1) (caps:=[1]) (N:=["_law_key","_law_plain"]) (N0:=ly) (sc0:=c9 jk) rfl (eZ (pv 2))
     (λ_ _ _=>dB (i:=0) AM rfl (Mh rfl)) (λ_ _ _=>fF) (λ_ _ _=>dw (GU.mono (by decide)) hr rfl DU.m DU.F.kp bU .nil du (cP (pv 1) (cP dq (cP (pv 0) (cP dq cQ))))) (eM (by decide)) rfl rfl
     dkq rfl dkq dkq rfl dkq ?mD)
    (cY (dg (jq (vG (K:=K) rfl hr.units100) (PE.imp (t':=JQ K C CH) (fP (own:=1) (caps:=[0]) (N:=["_law_key","_law_house"]) (N0:=ly) (sc0:=c9 jk) rfl (eZ (pv 2))
     (λ_ _ _=>dB (i:=0) yk rfl (Mh rfl)) (λ_ _ _=>fF) (λ_ _ _=>dw GA hr rfl DA.m DA.F.kp bA .nil du (cP (pv 1) (cP dq (cP (pv 0) (cP dq cQ))))) (eM (by decide)) rfl rfl
     dkq rfl dkq dkq rfl dkq) ?mA) (pv 6) (dH _))))) dO)
   (cU (dP (dU fV (pv 3) cX (dH _))
    (cY (dg (dw (GW.mono (by decide)) hr rfl DW.m DW.F.kp bW .nil du (cP (g0 (pv 0) HC.cl M.m2 (M.G2.mono (by decide)) hr b2 .nil du) (cP (dR zO rfl T.len gf (cP (pv 1) cQ)) cQ))))) dO)
   (cU (dP (dU fV (pv 3) cX (dH _))
    (cY (dg (dw (GW.mono (by decide)) hr rfl DW.m DW.F.kp bW .nil du (cP (g0 (pv 0) HC.cl M.m3 (M.G3.mono (by decide)) hr b3 .nil du) (cP (dR (rj rfl) rfl hS rm (cP (PE.imp (t':=DY) (B3 (fP (own:=1) (caps:=[]) (N:=["_law_text_here"]) (N0:=ly) (sc0:=c9 jk) rfl (Ef (pv 1))
     (λ_ _ _=>dB (i:=0) KS rfl (Mh rfl)) (λ_ _ _=>fF) (λ_ _ _=>dR (zw (K:=K) rfl) rfl T.len gf (cP (dw (GL.mono (by decide)) hr rfl DL.m DL.F.kp bL .nil du (cP (pv 0) cQ)) cQ)) (eM (by decide)) rfl rfl
     dkq rfl dkq dkq rfl dkq)) ?mV) cQ)) cQ))))) dO)
   (cU (di (i:=7) lD.nd rfl (Mh rfl) (r6 (dU fV (pv 3) cX (dH _)) (g0 (pv 0) HC.cl M.m4 (M.G4.mono (by decide)) hr b4 .nil du) (g0 (pv 0) HC.cl M.m5 (M.G5.mono (by decide)) hr b5 .nil du)))
   (cU (dP (f9 (fM (dR (Bl (K:=K) rfl) rfl T.isi gG (cP (pv 7) (cP (iF (v:= .ty "list") rfl T.list jL rfl) cQ))))) (cY (dg fN)) dO)
   (cU (dP (PW.pt (mj (dU fV (pv 3) cX (dH _)) (lT (dU (nK (K:=K) rfl hr.units100) (pv 7) (dR zW rfl T.sorted p7 (cP (jw (CU rfl) rfl T.list jL (cP (pv 1) cQ)) cQ)) (dH _))))) (cY (dg fN)) dO)
   (cU (dP (dU fV (pv 3) cX (dH _))
    (cU (di (i:=8) lD.nd rfl (Mh rfl) (dZ cQ))
    (cU (fx MK rfl (eZ (pv 7)) (dB (i:=9) lD.nd rfl (Mh rfl)) (cY (di (i:=8) lD.nd rfl (Mh rfl) (de q5 (pv 8) (pv 9)))))
    (cY (dP (dU (nK (K:=K) rfl hr.units100) (dR Aa rfl T.sorted p7 (cP (pv 8) cQ)) (dR Aa rfl T.sorted p7 (cP (Ge rfl rfl T.list (pv 1)) cQ)) (dH _)) (cY (dg fN)) dO)))) dO)
   (cU (fv (eV MP MN MS gE (pv 7) (cP dq cQ)))
   (cU (fv (eV MP MN MS gE (pv 4) (cP (ip (cP (pv 7) (cP (jw (BE hr (by decide)) rfl T.str xV (cP (pv 7) cQ)) cQ))) cQ)))
   (cY (dg fN))))))))))),?_⟩
  case mH=>
   rintro σ H1 Q1 ⟨x,kl,ks,I,h0,h2,hH,hk,U,q⟩;have aq:=U.1;obtain⟨vl,dx,bs,hx,_⟩:=hH.ex;refine⟨_,h2,kl,rfl,⟨_,cS.of hk⟩,gC (xs:=ks.map V.str) (λi ys H'=>cR H1 H'/\ys=((ks.take i).map λk=>decide (k∈keysOf I)).map V.bl) (by rw[LV];lia) (λi ys H' p=>cS.of (p.1 _ _ hk)) ⟨cR.refl _,rfl⟩ ?_ ?_⟩
   ·rintro i v ys H' N hv ⟨sm,rfl⟩ hN;rw[List.getElem?_map] at hv;obtain⟨k,ae,rfl⟩:=Option.map_eq_some_iff.mp hv;have ao:=U.2 k (List.mem_of_getElem? ae);have e0:([some (V.str k),(σ[0]?).join]:L2.St)[1]? =some (some (.ref x)):=by show some ((σ[0]?).join)=_;rw[h0];rfl
    refine g1 ?_;refine⟨_,e0,x,dx,_,rfl,sm _ _ hx,gQ,_,rfl,x,.str k,I,rfl,hH.same sm,⟨_,.str _⟩,mr ao (by decide),λH2 s2=>hN _ _ ⟨sm.trans s2,?_⟩⟩;rw[take_snoc ae,Mf,Mf];show _++[V.bl (dA 12 (.str k)&&_)]=_;rw[ao];rfl
   ·rintro ys H' ⟨sm,rfl⟩ _ l hl;rw[LV,MG];exact q l _ (cR.upd sm hl) (sm.free hl) cT
  case mI=>
   rintro σ H1 Q1 ⟨d,kl,ks,ps,h1,h2,hd,hk,U,nd,q⟩;have aq:=U.1;refine⟨_,h2,kl,rfl,⟨_,cS.of hk⟩,gC (xs:=ks.map V.str) (λi ys H'=>H'=H1/\ys=((ks.take i).map λk=>decide (k∈ps.map (·.1))).map V.bl) (by rw[LV];lia) (λi ys H' p=>by rw[p.1];exact cS.of hk) ⟨rfl,rfl⟩ ?_ ?_⟩
   ·rintro i v ys H' N hv ⟨rfl,rfl⟩ hN;rw[List.getElem?_map] at hv;obtain⟨k,ae,rfl⟩:=Option.map_eq_some_iff.mp hv;have e1:([some (V.str k),(σ[1]?).join]:L2.St)[1]? =some (some (.ref d)):=by show some ((σ[1]?).join)=_;rw[h1];rfl
    refine g1 ?_;refine⟨_,rfl,_,e1,d,_,rfl,gh.k (k:=MF k) hd,hN _ _ ⟨rfl,?_⟩⟩;rw[take_snoc ae,Mf,Mf]
    congr 1
    show [V.bl _]=[V.bl _]
    congr 2
    show(dQ (dk ps) (MF k)).isSome=decide (k∈ps.map (·.1));by_cases hm:k∈ps.map (·.1)
    ·rw[Mb hm,sX nd (nA nd hm)];rfl
    ·rw[LY hm,pq hm];rfl
   ·rintro ys H' ⟨rfl,rfl⟩ _ l hl;rw[LV,MG];exact q l hl
  case mB=>
   rintro σ H1 Q1 ⟨tl,bs,h5,ht,hlen,q⟩;refine⟨_,h5,tl,rfl,⟨_,cS.of ht⟩,gC (xs:=bs.map V.bl) (λi ys H'=>H'=H1/\ys=((bs.take i).map λ_=>true).map V.bl) (by rw[LV];lia) (λi ys H' p=>by rw[p.1];exact cS.of ht) ⟨rfl,rfl⟩ ?_ ?_⟩
   ·rintro i v ys H' N hv ⟨rfl,rfl⟩ hN;rw[List.getElem?_map] at hv;obtain⟨b,hb,rfl⟩:=Option.map_eq_some_iff.mp hv;have ar:fO K H' (.bl b) (.type "bool"):= .bl _;refine g1 ?_;refine⟨_,rfl,.bl b,.ty "bool",_,_,rfl,ar,.inl ⟨_,rfl,uG ar⟩,hN _ _ ⟨rfl,?_⟩⟩;rw[take_snoc hb,Mf,Mf];rfl
   ·rintro ys H' ⟨rfl,rfl⟩ _ l hl;rw[LV,MG];exact q l hl
  case mD=>
   rintro σ H1 Q1 ⟨d,kl,ks,ps,h1,h2,hd,hk,U,nd,bt,q⟩;have aq:=U.1;refine⟨_,h2,kl,rfl,⟨_,cS.of hk⟩,gC (xs:=ks.map V.str) (λi ys H'=>cR H1 H'/\MY (λv k=>fY H' v (fZ ps "text" k)/\∀ q,v= .ref q->H1 q=none) ys (ks.take i)) (by rw[LV];lia) (λi ys H' p=>cS.of (p.1 _ _ hk)) ⟨cR.refl _,.nil⟩ ?_ ?_⟩
   ·rintro i v ys H' N hv ⟨sm,hY⟩ hN;rw[List.getElem?_map] at hv;obtain⟨k,ae,rfl⟩:=Option.map_eq_some_iff.mp hv;have e1:([some (V.str k),(σ[1]?).join]:L2.St)[1]? =some (some (.ref d)):=by show some ((σ[1]?).join)=_;rw[h1];rfl
    refine g1 ?_;refine⟨_,e1,_,rfl,d,"text",k,"",ps,rfl,sm _ _ hd,nd,bt,dkq,λv H2 s2 af hf=>hN _ _ ⟨?_,?_⟩⟩
    all_goals
     have en:gp ps "text" k ""=ps:=by unfold gp;rw[LX dkq,LX dkq]
     rw[en,pF (sm _ _ hd)] at s2
    ·exact sm.trans s2
    ·rw[take_snoc ae];exact Gn.Paired.app (Gn.Paired.imp2 hY λ_ _ h=>⟨h.1.same s2,h.2⟩) ⟨af,λq e=>sm.free (hf q e)⟩
   ·rintro ys H' ⟨sm,hY⟩ _ l hl;rw[LV,MG] at hY;exact q l ys _ (cR.upd sm hl) (sm.free hl) cT (Gn.Paired.imp2 hY λ_ _ h=>⟨h.1.same (da hl),h.2⟩)
  case mA=>
   rintro σ H1 Q1 ⟨x,kl,ks,I,L,h0,h2,hs,hok,hk,U,q⟩;have aq:=U.1;refine⟨_,h2,kl,rfl,⟨_,cS.of (hs.s _ _ hk)⟩,gC (xs:=ks.map V.str) (λi ys H'=>∃ L',cR L L'/\Hs C CH L' H' x I/\MY (λv k=>fY L' v (eT I "text" (.str k) (.str ""))) ys (ks.take i)) (by rw[LV];lia) (λi ys H' ⟨L',s,h,_⟩=>cS.of (h.s _ _ (s _ _ hk))) ⟨L,cR.refl _,hs,.nil⟩ ?_ ?_⟩
   ·rintro i v ys H' N hv ⟨L',sL,aN,hY⟩ hN;rw[List.getElem?_map] at hv;obtain⟨k,ae,rfl⟩:=Option.map_eq_some_iff.mp hv;have ao:=U.2 k (List.mem_of_getElem? ae);have e0:([some (V.str k),(σ[0]?).join]:L2.St)[1]? =some (some (.ref x)):=by show some ((σ[0]?).join)=_;rw[h0];rfl
    refine g1 ?_;refine⟨_,e0,_,rfl,x,"text",.str k,.str "",I,L',rfl,aN,hok,⟨_,.str _⟩,mr ao (by decide),⟨_,.str _⟩,jR,dkq,λz=>absurd z dkq,λv L2 H2 s2 h2 af=>hN _ _ ⟨L2,sL.trans s2,?_,?_⟩⟩
    ·have en:eF I "text" (.str k) (.str "")=I:=by unfold eF;rw[LX dkq,LX dkq,LZ rfl]
     rwa [en] at h2
    ·rw[take_snoc ae];exact Gn.Paired.app (Gn.Paired.imp2 hY λ_ _ h=>h.same s2) af
   ·rintro ys H' ⟨L',sL,aN,hY⟩ _ l hl;rw[LV,MG] at hY;obtain⟨L2,s2,h2,hn,_⟩:=aN.ext (da hl (o:= .lst ys));exact q l ys L2 _ (sL.trans s2) h2 (hn _ _ hl cT) (Gn.Paired.imp2 hY λ_ _ h=>h.same s2)
  case mV=>
   rintro σ H1 Q1 ⟨d,ps,h1,hd,bu,hlen,q⟩;refine⟨_,h1,d,dk ps,rfl,hd,λo hF=>?_⟩;have e1:upd H1 d (iV d o) d=some (iV d o):=cT;have sb:∀ a u,a≠d->H1 a=some u->upd H1 d (iV d o) a=some u:=λa u n e=>(cW n).trans e
   generalize upd H1 d (iV d o)=H2 at e1 sb ⊢;refine Ed (λi ys H'=>cR H2 H'/\ys=nl ((ps.take i).map λp=>(tw p.2).length)) (by rw[qo];lia) (λi ys H' p=>p.1 _ _ e1) ⟨cR.refl _,rfl⟩ ?_ ?_
   ·rintro i kv ys H' N hv ⟨sm,rfl⟩ hN;unfold dk at hv;rw[List.getElem?_map] at hv;obtain⟨p,hp,rfl⟩:=Option.map_eq_some_iff.mp hv;refine g1 ?_;refine⟨_,rfl,p.2,rfl,bu p (List.mem_of_getElem? hp),λl xs H3 s3 hl hx aO=>⟨l,xs,rfl,.inl (cS.of hx),hN _ _ ⟨sm.trans s3,?_⟩⟩⟩;rw[take_snoc hp,Mf,ie,aO];rfl
   ·rintro ys H' ⟨sm,rfl⟩ _ l hl;rw[qo,MG];have aP:d≠l:=λz=>by rw[<-z,sm _ _ e1] at hl;cases hl
    have ax:H1 l=none:=by
     cases e:H1 l with
     |none=>rfl
     |some u=>
      have:=sm _ _ (sb l u (Nt aP) e);rw[hl] at this;cases this
    refine⟨d,o,dk ps,(cW aP).trans (sm _ _ e1),hF,q l _ (λa u e=>?_) ax ((cW (Nt aP)).trans cT)⟩;by_cases ea:a=d
    ·subst ea;rw[hd] at e;cases e;exact cT
    ·rw[cW ea];have:=sm _ _ (sb a u ea e);rw[cW (dF this hl)];exact this
  have aM:∀ L' H',cR L L'->Hs C CH L' H' x I->Q (.bl true) H':=λL' H' s h=>kk hs L' H' h (λa o _ e=>s _ _ e) (s _ _ hh) (NC _) λv hv=> .inl hv
  have fin:∀ H',cR H H'->Q (.bl true) H':=λH' s=>by
   obtain⟨L',sL,h,_⟩:=J.ext s;exact aM L' H' sL h
  have au:=J.s _ _ hd
  have aQ:=J.s _ _ hk;obtain⟨vl,dx,bs,hx,_⟩:=J.ex;have nd:(I.flatten.map (·.1)).Nodup:=hok.n;have bw:=hok.p;refine⟨_,rfl,rfl,_,rfl,?_⟩;show if decide (V.int turn=V.int 0)=true then _ else _
  rw[jC];by_cases a7:turn=0
  ·rw[Mb a7];refine dG ⟨x,kl,ks,I,rfl,rfl,J.r,aQ,U,λl H1 s1 hl hL=>?_⟩;refine⟨_,rfl,d,kl,ks,I.flatten,rfl,rfl,s1 _ _ au,s1 _ _ aQ,U,nd,λl2 aR=>?_⟩;have s2:cR H1 (upd H1 l2 (.lst ((ks.map λk=>decide (k∈I.flatten.map (·.1))).map V.bl))):=da aR;refine⟨_,_,.lst (cS.of (s2 _ _ hL)) (qk _),.lst (cS.of cT) (qk _),vi _,vi _,Mr (Ou _ _) (D1 _),_,rfl,?_⟩;rw[show RL (.list ((ks.map λk=>decide (k∈keysOf I)).map O0)) (.list ((ks.map λk=>decide (k∈I.flatten.map (·.1))).map O0))=true from jG (vi _)];refine dG ⟨l,_,rfl,s2 _ _ hL,by rw[LV];exact U.1,λl3 aS=>⟨l3,_,rfl,cS.of cT,?_⟩⟩;rw[all_true];exact fin _ ((s1.trans s2).trans (da aS))
  rw[LY a7];refine df ⟨_,rfl,rfl,_,rfl,?_⟩;show if decide (V.int turn=V.int 1)=true then _ else _
  rw[jC];by_cases a8:turn=1
  ·rw[Mb a8];refine dG ⟨d,kl,ks,I.flatten,rfl,rfl,au,aQ,U,nd,by lia,λl vs H1 s1 hl hL hV=>?_⟩;obtain⟨L1,ag,av,ah,_⟩:=J.ext s1;refine⟨x,kl,ks,I,L1,rfl,rfl,av,hok,ag _ _ hk,U,λl2 cb L2 H2 s2 h2 bx bz=>?_⟩;have e:=C9 hok U.2;have ay:∀ r∈ks.map (λk=>fZ I.flatten "text" k),r.ok:=λr hr=>by
    obtain⟨k,_,rfl⟩:=List.mem_map.mp hr;exact FV hok k
   refine⟨_,rfl,.list ((ks.map λk=>eT I "text" (.str k) (.str "")).map Res.d),.list ((ks.map λk=>fZ I.flatten "text" k).map Res.d),.lst (cS.of (h2.s _ _ bx)) (uv (Gn.Paired.imp2 (vq bz) λ_ _ h=>h.same h2.s)),
    .lst (cS.of (h2.s _ _ (s2 _ _ (ah _ _ hl hL)))) (uv (vq (Gn.Paired.imp2 hV λv k h=>(h.1.new ah h.2).same (s2.trans h2.s)))),by rw[e];exact vn ay,vn ay,Mr (Nat.min_le_right _ _) (JG _),?_⟩;rw[e,jG (vn ay)];exact aM L2 H2 (ag.trans s2) h2
  rw[LY a8];refine df ⟨_,rfl,rfl,_,rfl,?_⟩;show if decide (V.int turn=V.int 2)=true then _ else _
  rw[jC];by_cases a9:turn=2
  ·rw[Mb a9];refine dG ⟨_,rfl,x,dx,_,rfl,hx,gQ,x,I,rfl,J.r,hok,λH1 s1=>⟨_,rfl,d,_,rfl,s1 _ _ au,I.flatten.length,(dk I.flatten).length,rfl,?_⟩⟩;rw[qo,Mb rfl];exact fin H1 s1
  rw[LY a9];refine df ⟨_,rfl,rfl,_,rfl,?_⟩;show if decide (V.int turn=V.int 3)=true then _ else _
  rw[jC];by_cases ba:turn=3
  ·rw[Mb ba];have et:(I.flatten.map λp=>(tw p.2).length).sum=d8 (cZ I.flatten):=by unfold d8 cZ;rw[NG];rfl
   have ht:=hok.f.t;refine dG ⟨_,rfl,x,dx,_,rfl,hx,gQ,x,I,rfl,J.r,hok,λH1 s1=>⟨d,I.flatten,rfl,s1 _ _ au,λp hp=>kE (hok.g p hp).2,by lia,λl H2 s2 hl hL=>⟨l,_,rfl,cS.of hL,by rw[et];lia,d8 (cZ I.flatten),(I.flatten.map λp=>(tw p.2).length).sum,rfl,?_⟩⟩⟩;rw[et,Mb rfl];exact fin H2 (s1.trans s2)
  rw[LY ba];refine df ⟨_,rfl,rfl,_,rfl,?_⟩;show if decide (V.int turn=V.int 4)=true then _ else _
  rw[jC];by_cases aH:turn=4
  ·rw[Mb aH];refine dG ⟨_,rfl,x,dx,_,rfl,hx,gQ,x,I,rfl,J.r,hok,aG,λl ts H1 s1 hl hL hp bb=>?_⟩;have bB:=s1 _ _ au;have ar:fO K H1 (.ref l) (.type "list"):= .lst hL;refine⟨_,rfl,.ref l,.ty "list",_,_,rfl,ar,.inl ⟨_,rfl,sv⟩,_,rfl,df ?_⟩;refine⟨_,rfl,rfl,_,rfl,?_⟩;show if decide (V.int turn=V.int 4)=true then _ else _
   rw[jC,Mb aH];have ek:((dk I.flatten).map λkv=>kV kv.1)=(keysOf I).map V.str:=by unfold dk keysOf;rw[NG,NG];rfl
   have aq:(keysOf I).length<64:=by unfold keysOf;rw[LV];exact aG
   refine dG ⟨_,rfl,_,rfl,d,_,rfl,bB,λl2 aR=>?_⟩;rw[ek];have s2:cR H1 (upd H1 l2 (.lst ((keysOf I).map V.str))):=da aR;have e2:upd H1 l2 (.lst ((keysOf I).map V.str)) l2=some (.lst ((keysOf I).map V.str)):=cT;generalize upd H1 l2 (.lst ((keysOf I).map V.str))=H2 at s2 e2 ⊢;refine⟨l2,keysOf I,rfl,cS.of e2,aq,λl3 us aS bC az=>?_⟩;have eu:us=ts:=BK.wh az bb (bC.trans hp.symm);subst eu;have s3:cR H2 (upd H2 l3 (.lst (us.map V.str))):=da aS;have e3:upd H2 l3 (.lst (us.map V.str)) l3=some (.lst (us.map V.str)):=cT;have aA:=s3 _ _ (s2 _ _ hL);generalize upd H2 l3 (.lst (us.map V.str))=H3 at s3 e3 aA ⊢;have bc:∀ t∈us,dA 12 (.str t)=true:=λt ht=>by
    obtain⟨p,bD,e⟩:=List.mem_map.mp (hp.mem_iff.mp ht);rw[<-e];exact(hok.g p bD).1
   have aB:(NP (us.map Nj)).canLay0=true:=ED λt ht=>(ve (bc t ht)).1
   refine⟨_,_,.lst (cS.of aA) (qm us),.lst (cS.of e3) (qm us),aB,aB,Mr (Ou _ _) (EB us),_,rfl,?_⟩;rw[jG aB];refine df ⟨_,rfl,rfl,_,rfl,?_⟩;show if decide (V.int turn=V.int 5)=true then _ else _
   rw[jC,LY (by lia)];have aT:=(s1.trans s2).trans s3;obtain⟨L1,ag,av,ah,_⟩:=J.ext aT;have ax:=ah _ _ hl aA;have cc:us.length<64:=by rw[hp.length_eq];exact aq
   have b0:=av.s _ _ (ag _ _ hh)
   have hS:oQ (.list ((us++[LU "more"]).map Nj)):=JX (λt ht=>(List.mem_append.mp ht).elim (λh=>ve (bc t h)) λh=>by rw[List.mem_singleton.mp h];exact vf) (by rw[Md];show _+1<=100;lia)
   have em:us.map V.str++[V.str (LU "more")]=(us++[LU "more"]).map V.str:=by rw[Mf];rfl
   refine df ⟨_,rfl,.inl ⟨rfl,_,cS.of aA⟩,l,_,_,rfl,rfl,aA,(by rw[LV];lia),?_⟩;rw[em];have aC:l≠ab:=λz=>by rw[z] at hl;rw[J.s _ _ hh] at hl;cases hl
   have aa:=av.mset (m0:= .lst (us.map V.str)) (m:= .lst ((us++[LU "more"]).map V.str)) trivial trivial ax
   have ai:upd L1 l (.lst ((us++[LU "more"]).map V.str)) l=some (.lst ((us++[LU "more"]).map V.str)):=cT
   have kL:∀ a o,L a=some o->upd L1 l (.lst ((us++[LU "more"]).map V.str)) a=some o:=λa o e=>(cW (λz=>by rw[z] at e;rw[J.s _ _ e] at hl;cases hl)).trans (ag _ _ e)
   generalize upd L1 l (.lst ((us++[LU "more"]).map V.str))=L2 at aa ai kL;generalize upd H3 l (.lst ((us++[LU "more"]).map V.str))=H4 at aa ⊢;have aU:=aa.s _ _ (kL _ _ hh);refine⟨_,rfl,.inl ⟨rfl,_,cS.of aU⟩,_,rfl,_,rfl,l,_,rfl,.lst (cS.of (aa.s _ _ ai)) (qm _),hS.s,hS.n,hS.p,hS.l,(by show 2<=sizeLine;decide),λtt aj=>?_⟩;obtain⟨L3,aw,az,aV,_⟩:=aa.ext (da aj (o:= .tup [.ref l,.str (NP ((us++[LU "more"]).map Nj)).shown]));have aD:tt≠ab:=Nt (dF aU aj);have aW:=aV _ _ aj cT;refine⟨ab,_,_,rfl,rfl,(cW (Nt aD)).trans aU,(by lia),?_⟩;have aX:=az.mset (m0:= .lst hs) (m:= .lst (hs++[V.ref tt])) trivial trivial (aw _ _ (kL _ _ hh));refine kk (hs++[.ref tt]) _ _ aX (λa o n e=>(cW n).trans (aw _ _ (kL _ _ e))) cT (by rw[Md];exact Ma _) λv hv=>?_
   rcases List.mem_append.mp hv with h|h
   ·exact .inl h
   ·rw[List.mem_singleton.mp h];exact .inr ⟨tt,l,_,rfl,su ((cW aD).trans aW),hS,aC,.inl ⟨_,qQ (J.s.free hl) ((cW aC).trans (aw _ _ ai)),rfl⟩⟩
  rw[LY aH];have bE:turn=5:=by lia
  refine df ⟨_,rfl,x,dx,_,rfl,hx,gQ,x,I,rfl,J.r,Mr hok.l (by decide),λl ss H1 s1 hl hS=>?_⟩;have s2:cR H1 (upd H1 l (.lst ss)):=da hl;have hL:upd H1 l (.lst ss) l=some (.lst ss):=cT;have bf:=hS.same s2;generalize upd H1 l (.lst ss)=H2 at s2 hL bf ⊢;have bg:=s1.trans s2;have ak:=s1.free hl;have ar:fO K H2 (.ref l) (.type "list"):= .lst hL;refine⟨_,rfl,.ref l,.ty "list",_,_,rfl,ar,.inl ⟨_,rfl,sv⟩,_,rfl,df ?_⟩;refine⟨_,rfl,rfl,_,rfl,?_⟩;show if decide (V.int turn=V.int 4)=true then _ else _
  rw[jC,LY aH];refine df ⟨_,rfl,rfl,_,rfl,?_⟩;show if decide (V.int turn=V.int 5)=true then _ else _
  rw[jC,Mb bE];refine dG ⟨MM _,λaE bh=>?_⟩;have s3:cR H2 (upd H2 aE (.lst [])):=da bh;have e3:upd H2 aE (.lst []) aE=some (.lst []):=cT;generalize upd H2 aE (.lst [])=H3 at s3 e3 ⊢;have aY:=s3 _ _ hL;have bF:=bf.same s3;have bG:=Gn.Paired.len hS;have bH:=s3 _ _ (bg _ _ au);have aT:=bg.trans s3;refine⟨_,rfl,l,rfl,⟨_,cS.of aY⟩,?_⟩;refine iW (xs:=ss) (λi σ H'=>∃(la:LS) (xs:LR V) (o9:Mc V),σ=[some (.ref x),some (.ref d),some (.ref kl),some (.int turn),some (.ref ab),none,none,some (.ref l),some (.ref la),o9]/\cR H3 H'/\H' la=some (.lst xs)/\eX H' xs ((I.take i).flatten.map kp)) ⟨aE,[],none,rfl,cR.refl _,e3,.nil⟩ ?_ ?_ ?_
  ·rintro i σ H' _ ⟨la,xs,o9,_,sm,_⟩;exact cS.of (sm _ _ aY)
  ·rintro i v σ H' hv ⟨la,xs,o9,rfl,sm,aZ,hX⟩;obtain⟨ps,bj,p,ys,rfl,_,hp,hP⟩:=fX bF hv;have aO:=Gn.Paired.len hX;have bI:=Gn.Paired.len hP;rw[LV] at aO bI;have b6:=(jN (List.mem_of_getElem? bj)).length_le;have cf:(I.take i).flatten.length<=I.flatten.length:=by
    have e:I.flatten=(I.take i).flatten++(I.drop i).flatten:=by rw[<-Nm,NR]
    rw[e,Md];exact Nat.le_add_right _ _
   refine⟨_,rfl,_,rfl,la,p,xs,ys,rfl,rfl,aZ,sm _ _ hp,(by lia),λr af=>?_⟩;refine⟨r,xs++ys,_,rfl,cR.upd sm af,cT,?_⟩;rw[take_snoc bj,Nm,Mf];have:[ps].flatten=ps:=by simp
   rw[this];exact Gn.Paired.cat (hX.same (da af)) ((hP.same sm).same (da af))
  ·rintro σ H4 ⟨la,xs,o9,rfl,s4,aZ,hX⟩;rw[bG,MG] at hX;obtain⟨qs,rfl,hQ⟩:=Bc hX;refine⟨_,rfl,la,qs,I.flatten,rfl,aZ,hQ,nd,aG,λl5 aI bJ bK bM bN bO=>?_⟩;have s5:cR H4 (upd H4 l5 (.lst (aI.map V.ref))):=da bK;have e5:upd H4 l5 (.lst (aI.map V.ref)) l5=some (.lst (aI.map V.ref)):=cT;generalize upd H4 l5 (.lst (aI.map V.ref))=H5 at s5 e5 ⊢;have bo:=s4.trans s5;refine⟨_,rfl,d,_,rfl,bo _ _ bH,λli qi H6 s6 b7 bP bQ=>?_⟩;have bp:MY (l9 H6) qi I.flatten:=by
    have:=ux bQ;unfold dk at this;exact Gn.Paired.imp2 (ux this) λq p h=>h
   refine⟨li,qi,I.flatten,rfl,bP,bp,nd,aG,λl7 aJ aK bR bS bq bT=>?_⟩;have s7:cR H6 (upd H6 l7 (.lst (aJ.map V.ref))):=da bR;have e7:upd H6 l7 (.lst (aJ.map V.ref)) l7=some (.lst (aJ.map V.ref)):=cT;generalize upd H6 l7 (.lst (aJ.map V.ref))=H7 at s7 e7 ⊢;have er:aK=bJ:=L2.wh nd bq bN bT bO;subst er;have a0:∀ p∈aK,dA 12 (.str p.1)=true/\dX (.str p.2)=true:=λp hp=>hok.g p (bq.mem_iff.mp hp)
   refine⟨.list (gA aK),.list (gA aK),.lst (cS.of (s7 _ _ (s6 _ _ e5))) (qE (u6 (Gn.Paired.imp2 bM λ_ _ h=>s7 _ _ (s6 _ _ (s5 _ _ h))))),.lst (cS.of e7) (qE (u6 (Gn.Paired.imp2 bS λ_ _ h=>s7 _ _ h))),rq a0,rq a0,Mr (Ou _ _) (Mr (tH _) (by decide)),_,rfl,?_⟩;rw[jG (rq a0)];have a3:=(bo.trans s6).trans s7;have bV:=aT.trans a3;have a4:=a3 _ _ aY;obtain⟨L1,ag,av,ah,bX⟩:=J.ext bV;have ax:=ah _ _ ak a4;have aF:oQ (.list (ix I++[.str (LU "more")])):=Ew hok.all hok.p hok.l;refine df ⟨_,rfl,.inl ⟨rfl,_,cS.of a4⟩,l,_,_,rfl,rfl,a4,(by have:=hok.l;lia),?_⟩;have aC:l≠ab:=λz=>by rw[z] at ak;rw[J.s _ _ hh] at ak;cases ak
   have aa:=av.mset (m0:= .lst ss) (m:= .lst (ss++[.str (LU "more")])) trivial trivial ax
   have ai:upd L1 l (.lst (ss++[.str (LU "more")])) l=some (.lst (ss++[.str (LU "more")])):=cT
   have kN:∀ a o,a≠l->L1 a=some o->upd L1 l (.lst (ss++[.str (LU "more")])) a=some o:=λa o n e=>(cW n).trans e
   have kL:∀ a o,L a=some o->upd L1 l (.lst (ss++[.str (LU "more")])) a=some o:=λa o e=>kN a o (λz=>by rw[z] at e;rw[J.s _ _ e] at ak;cases ak) (ag _ _ e)
   have br:=s2.trans (s3.trans a3)
   have a5:MY (λv (ps:LR (Str×Str))=>∃ p xs,v= .ref p/\p≠ab/\L p=none/\upd L1 l (.lst (ss++[.str (LU "more")])) p=some (.lst xs)/\eX (upd L1 l (.lst (ss++[.str (LU "more")]))) xs (ps.map kp)) ss I:=Gn.Paired.imp2 hS λ_ _ ⟨p,ys,e,aL,hp,hP⟩=>
    ⟨p,ys,e,(λz=>by rw[z,J.s _ _ hh] at aL;cases aL),J.s.free aL,kN _ _ (dF hp hl) (ah _ _ aL (br _ _ hp)),Gn.Paired.imp2 hP λ_ _ ⟨t,e,q⟩=>⟨t,e,kN _ _ (dF q hl) (bX _ _ (br _ _ q))⟩⟩
   generalize upd L1 l (.lst (ss++[.str (LU "more")]))=L2 at aa ai kL a5;generalize upd H7 l (.lst (ss++[.str (LU "more")]))=H8 at aa ⊢;have a6:=aa.s _ _ (kL _ _ hh);have bY:gc K H8 (.ref l) (.list (ix I++[.str (LU "more")])):= .lst (cS.of (aa.s _ _ ai)) (fQ.app (tV (qy.same (Gn.Paired.imp2 a5 λ_ _ ⟨q,ys,e,n,_,a,b⟩=>⟨q,ys,e,a,b⟩) aa.s)) (.cons (.str _) .nil));refine⟨_,rfl,.inl ⟨rfl,_,cS.of a6⟩,_,rfl,_,rfl,l,_,rfl,bY,aF.s,aF.n,aF.p,aF.l,(by show 2<=sizeLine;decide),λtt aj=>?_⟩;obtain⟨L3,aw,az,aV,_⟩:=aa.ext (da aj (o:= .tup [.ref l,.str (NP (ix I++[.str (LU "more")])).shown]));have aD:tt≠ab:=Nt (dF a6 aj);have aW:=aV _ _ aj cT;refine⟨ab,_,_,rfl,rfl,(cW (Nt aD)).trans a6,(by lia),?_⟩;have aX:=az.mset (m0:= .lst hs) (m:= .lst (hs++[V.ref tt])) trivial trivial (aw _ _ (kL _ _ hh));have k4:∀ a o,a≠ab->L2 a=some o->upd L3 ab (.lst (hs++[V.ref tt])) a=some o:=λa o n e=>(cW n).trans (aw _ _ e)
   have bZ:=kL _ _ hh;refine kk (hs++[.ref tt]) _ _ aX (λa o n e=>k4 _ _ n (kL _ _ e)) cT (by rw[Md];exact Ma _) λv hv=>?_
   rcases List.mem_append.mp hv with h|h
   ·exact .inl h
   ·rw[List.mem_singleton.mp h];exact .inr ⟨tt,l,_,rfl,su ((cW aD).trans aW),aF,aC,.inr ⟨ss,I,qQ (J.s.free ak) (k4 _ _ aC ai),Gn.Paired.imp2 a5 λ_ _ ⟨p,ys,e,n,z,a,b⟩=>⟨p,ys,e,n,qQ z (k4 _ _ n a),Gn.Paired.imp2 b λ_ _ ⟨t,e,q⟩=>⟨t,e,su (k4 _ _ (λz=>by rw[z,bZ] at q;cases q) q)⟩⟩,rfl⟩⟩
end
noncomputable def tW:LR Str:=["_law_house","_law_plain","_law_keys_here","_law_number_here","_law_held","_law_turns","_law_at","_law_some"]
section
variable {P : Mq} {w : MT} {K : Mz} {mg : Str -> Mc LW} {base : Nn} {C CH CA CN CNo CW CK CT C2 : LS}
theorem sf:dC tW ["_law_house","_law_plain","_law_keys_here","_law_number_here","_law_held"] (c9 mQ):=⟨rfl,rfl,rfl,dkq,rfl,dkq,dkq⟩
theorem EM:(["_law_k","_law_number_here"]:LR Str).Nodup:=dkq
theorem B6:(["_law_turn","_law_held","_law_house","_law_plain","_law_some"]:LR Str).Nodup:=dkq
noncomputable def JJ:TE:=λσ H Q=>∃ n:Int,σ[3]? =some (some (.int n))/\∀ l (ts:LR Nat) H',cR H H'->H l=none->H' l=some (.lst (nl ts))->ts.length<=6->(∀ t∈ts,t<=5)->Q (.ref l) H'
structure Sd (C CH : LS) (L H : Hp) (x : LS) (pss : LR (LR (Str × Str))) (d kl hl : LS) (ks : LR Str) (hs : LR V) : Prop where
 h : Hs C CH L H x pss
 d : L d = some (.dK (dk pss.flatten))
 k : L kl = some (.lst (ks.map V.str))
 l : L hl = some (.lst hs)
 v : ∀ v ∈ hs, hZ L hl v
noncomputable def Cm(C CH:LS):TE:=λσ H Q=>∃(x d sl hl tl:LS) (I:LR (LR (Str×Str))) (ks:LR Str) (hs:LR V) (ts:LR Nat) (L:Hp),σ[0]? =some (some (.ref x))/\σ[1]? =some (some (.ref d))/\σ[4]? =some (some (.ref hl))/\σ[5]? =some (some (.ref tl))/\σ[7]? =some (some (.ref sl))/\
 Sd C CH L H x I d sl hl ks hs/\d6 I/\I.flatten.length<64/\oq ks/\hl≠sl/\hs.length<=4900/\L tl=some (.lst (nl ts))/\tl≠hl/\ts.length<=6/\(∀ t∈ts,t<=5)/\
 ∀ l n J L' H',Sd C CH L' H' x I d sl hl ks J->(∀ a o,a≠hl->L a=some o->L' a=some o)->J.length<=hs.length+6->(∀ v∈J,v∈hs\/hZ (Fr L L') hl v)->H' l=some (.lst ((ND n true).map V.bl))->Q (.ref l) H'
noncomputable def vJ(C CH:LS):Sp:=λvs H Q _=>∃(x d kl hl:LS) (n:Int) (I:LR (LR (Str×Str))) (ks:LR Str) (hs:LR V) (L:Hp),vs=[.ref x,.ref d,.ref kl,.int n,.ref hl]/\Sd C CH L H x I d kl hl ks hs/\d6 I/\I.flatten.length<64/\
 ks.length=9/\(∀ k∈ks,dA 12 (.str k)=true)/\0<=n/\hs.length<=4900/\hl≠kl/\
 ∀ J L' H',Sd C CH L' H' x I d kl hl ks J->(∀ a o,a≠hl->L a=some o->L' a=some o)->J.length<=hs.length+6->(∀ v∈J,v∈hs\/hZ (Fr L L') hl v)->Q (.bl true) H'
theorem oJ{L L':Hp}{hl:LS}{hs:LR V}(h:L' hl=some (.lst hs)):∀ ts,Fr L L' hl≠some (.tup ts):=λts z=>by
 have:=zG _ _ z;rw[h] at this;cases this
theorem JF{L L':Hp}{hl a:LS}{hs:LR V}(k:∀ a o,a≠hl->L a=some o->L' a=some o)(h:L' hl=some (.lst hs))(z:L' a=none):L a=none:=by
 cases e:L a with
 |none=>rfl
 |some o=>
  have n:a≠hl:=λy=>by rw[y,h] at z;cases z
  rw[k _ _ n e] at z;cases z
theorem Sd.ext {C CH:LS}{L H H':Hp}{x:LS}{pss:LR (LR (Str×Str))}{d kl hl:LS}{ks:LR Str}{hs:LR V}(h:Sd C CH L H x pss d kl hl ks hs)(s:cR H H'):∃ L',cR L L'/\Sd C CH L' H' x pss d kl hl ks hs/\∀ a o,H a=none->H' a=some o->L' a=some o:=by
 obtain⟨L',I,h1,hn,_⟩:=h.h.ext s;exact⟨L',I,⟨h1,I _ _ h.d,I _ _ h.k,I _ _ h.l,λv J=>(h.v v J).keep h.l λa o _ _ e=>I _ _ e⟩,hn⟩
@[elab_as_elim] theorem x6 {α:Type}{p:LR α->Prop}(h:∀ a b c d e,p [a,b,c,d,e])(us:LR α)(hl:us.length=5):p us:=by
 cases us with
 |nil=>cases hl
 |cons a r=>exact @lY _ (λr=>p (a::r)) (λb c d e=>h a b c d e) r (Oi hl)
seal dj PS PE PT PA PG PI dE dD in
theorem KH{f fa:LS}{fd fda:Mj}(D:Df K mg "_law_stands" mQ f fd)(DA:Df K mg "_law_asked" jk fa fda)(GA:cV P w K mg base dc 14 fa fda ["_law_house","_law_plain","_law_keys_here","_law_turn","_law_held"] (zE C CH))(T:Txt mg):
  cV P w K mg base dc 15 f fd ["_law_house","_law_plain","_law_keys_here","_law_number_here","_law_held"] (vJ C CH):=by
 have bA:=DA.F.binds (ps:=["_law_house","_law_plain","_law_keys_here","_law_turn","_law_held"]) λ_ _ _ _ _ _ us hl=>x6 (λ_ _ _ _ _=>rfl) us hl
 refine D.F.ok sf (λvs H Q E h=>?_) (λcdv A outer s H vs Q E hr h=>?_)
 ·obtain⟨x,d,kl,hl,n,aa,ks,hs,L,rfl,_⟩:=h;rfl
 ·obtain⟨x,d,kl,hl,n,aa,ks,hs,L,rfl,hS,hok,ah,h9,ag,aG,ao,ay,kk⟩:=h;have hz:(sizeLine:Nat)=16777216:=Mt;refine⟨_,cU (dP (dU fV (de eR (pv 3) cX) cX (dH _)) (cY (dg fN)) dO)
   (cU (rB (i:=5) (t':=JJ) sf.nd rfl (Mh rfl) (own:=1) (caps:=[3]) (N:=["_law_k","_law_number_here"]) (N0:=tW) (sc0:=c9 mQ) rfl (iO rfl T.range (cP cX cQ))
    (λ_ _ _=>dB (i:=0) EM rfl (Mh rfl)) (λ_ _ _=>fF) (λ_ _ _=>de eR (de eP (de gz (pv 1) cX) (de jg (pv 0) (eB (BV (K:=K) rfl) (dZ (cP cX (cP cX cQ))) (de eR (de gz (pv 1) cX) cX) (λ_ _=>rfl)))) cX) (eM (by decide)) rfl rfl
    dkq rfl dkq dkq rfl dkq ?mT)
   (cU (di (i:=6) sf.nd rfl (Mh rfl) (de eR (de gz (pv 3) cX) (dR gZ rfl T.len gf (cP (pv 2) cQ))))
   (cU (di (i:=7) sf.nd rfl (Rq rfl) (ik oC (de q5 (ik oC (pv 2) (gL (pv 6)) js) (ik oC (pv 2) js (gL (pv 6)))) js (gL (de kT cX (de eR (de gz (pv 3) cX) cX)))))
   (cY (dg (dR (nG rfl) rfl T.all oM (cP (PE.imp (t':=Cm C CH) (fP (own:=1) (caps:=[4,0,1,7]) (N:=["_law_turn","_law_held","_law_house","_law_plain","_law_some"]) (N0:=tW) (sc0:=c9 mQ) rfl (eZ (pv 5))
    (λ_ _ _=>dB (i:=0) B6 rfl (Mh rfl)) (λ_ _ _=>fF) (λ_ _ _=>dw GA hr rfl DA.m DA.F.kp bA .nil du (cP (pv 2) (cP (pv 3) (cP (pv 4) (cP (pv 0) (cP (pv 1) cQ)))))) (eM (by decide)) rfl rfl
    dkq rfl dkq dkq rfl dkq) ?mA) cQ))))))),?_⟩
  case mT=>
   rintro σ H1 Q1 ⟨n,h3,q⟩;refine⟨6,rfl,by decide,by decide,ow (n:=6) (λi ys H'=>cR H1 H'/\∃ ts:LR Nat,ys=nl ts/\ts.length<=i/\∀ t∈ts,t<=5) (by lia) ⟨cR.refl _,[],rfl,Ma _,λ_ h=>by cases h⟩ ?_ ?_⟩
   ·rintro i ys H' N hi ⟨sm,ts,rfl,aq,ht⟩ hN;have e0:([some (V.int (0+i)),(σ[3]?).join]:L2.St)[1]? =some (some (.int n)):=by show some ((σ[3]?).join)=_;rw[h3];rfl
    have hm:∃(j:Nat) (v:Int),n/30%2=(j:Int)/\([V.int 1,V.int 5]:LR V)[j]? =some (.int v):=by
     rcases(by lia:n/30%2=0\/n/30%2=1) with h|h
     ·exact⟨0,1,h,rfl⟩
     ·exact⟨1,5,h,rfl⟩
    obtain⟨j,v,hj,hv⟩:=hm;refine g1 ?_;refine⟨_,e0,n,5,rfl,rfl,⟨by decide,by decide⟩,_,rfl,(by show 2<=sizeLine;lia),?_⟩;intro p hp;refine⟨_,e0,n,30,rfl,rfl,⟨by decide,by decide⟩,_,2,rfl,rfl,(by show(0:Int)<2;decide),p,_,_,.int v,rfl,rfl,cS.of cT,by rw[hj];exact dS hv,_,v,rfl,rfl,.inl ⟨by lia,by lia⟩,_,_,rfl,rfl,_,6,rfl,rfl,(by show(0:Int)<6;decide),?_⟩;generalize n/5+(0+(i:Int))*v=z;refine hN _ _ ⟨cR.upd sm hp,ts++[(z%6).toNat],?_,?_,?_⟩
    ·rw[ie];show _++[V.int (z%6)]=_++[V.int ((z%6).toNat:Int)];rw[Ow (by lia)]
    ·rw[Md];show _+1<=_;lia
    ·intro t hm;rcases List.mem_append.mp hm with h|h
     ·exact ht t h
     ·rw[List.mem_singleton.mp h];lia
   ·rintro ys H' ⟨sm,ts,rfl,aq,ht⟩ _ l hl;exact q l ts _ (cR.upd sm hl) (sm.free hl) cT aq ht
  case mA=>
   rintro σ H1 Q1 ⟨x,d,sl,hl,tl,aa,ks,hs,ts,L,h0,h1,h4,h5,h7,hS,hok,ah,az,ar,ao,ae,aA,au,ai,q⟩;refine⟨_,h5,tl,rfl,⟨_,cS.of (hS.h.s _ _ ae)⟩,gC (xs:=nl ts) (λi ys H'=>∃ L' J,Sd C CH L' H' x aa d sl hl ks J/\(∀ a o,a≠hl->L a=some o->L' a=some o)/\J.length<=hs.length+i/\(∀ v∈J,v∈hs\/hZ (Fr L L') hl v)/\ys=(ND i true).map V.bl) (by rw[fD];lia) (λi ys H' ⟨L',J,h,k,_⟩=>cS.of (h.h.s _ _ (k _ _ aA ae))) ⟨L,hs,hS,λ_ _ _ h=>h,Ma _,λ_ h=> .inl h,rfl⟩ ?_ ?_⟩
   ·rintro i v ys H' N hv ⟨L',J,I,k',af,ab,rfl⟩ hN;obtain⟨t,ht,rfl⟩:=jx hv;have hi:i<ts.length:=(List.getElem?_eq_some_iff.mp ht).1;have t5:=ai t (List.mem_of_getElem? ht);have e1:([some (V.int t),(σ[4]?).join,(σ[0]?).join,(σ[1]?).join,(σ[7]?).join]:L2.St)[2]? =some (some (.ref x)):=by show some ((σ[0]?).join)=_;rw[h0];rfl
    have e2:([some (V.int t),(σ[4]?).join,(σ[0]?).join,(σ[1]?).join,(σ[7]?).join]:L2.St)[3]? =some (some (.ref d)):=by show some ((σ[1]?).join)=_;rw[h1];rfl
    have e3:([some (V.int t),(σ[4]?).join,(σ[0]?).join,(σ[1]?).join,(σ[7]?).join]:L2.St)[4]? =some (some (.ref sl)):=by show some ((σ[7]?).join)=_;rw[h7];rfl
    have e4:([some (V.int t),(σ[4]?).join,(σ[0]?).join,(σ[1]?).join,(σ[7]?).join]:L2.St)[1]? =some (some (.ref hl)):=by show some ((σ[4]?).join)=_;rw[h4];rfl
    refine g1 ?_;refine⟨_,e1,_,e2,_,e3,_,rfl,_,e4,x,d,sl,hl,(t:Int),aa,ks,J,L',rfl,I.h,hok,ah,I.d,I.k,az,by lia,by lia,I.l,by lia,I.v,ar,λaB L2 H2 hh k2 l2 n2 v2=>hN _ _ ⟨L2,aB,⟨hh,k2 _ _ (λz=>?_) I.d,k2 _ _ (Nt ar) I.k,l2,λv hv=>(v2 v hv).elim (λh=>(I.v v h).keep I.l λa o n _ e=>k2 _ _ n e) λh=>h.keepN (oJ l2) λa o _ _ e=>zG _ _ e⟩,λa o n e=>k2 _ _ n (k' _ _ n e),by lia,(λv hv=>(v2 v hv).elim (λh=>(ab v h).imp id λh=>h.keepN (oJ I.l) λa o n _ e=>rK e id (k2 _ _ n)) λh=> .inr (h.keepN (oJ l2) λa o n _ e=>rK e (λz=>JF k' I.l z) id)),by rw[Qj,Mf];rfl⟩⟩;have:=I.d;rw[z,I.l] at this;cases this
   ·rintro ys H' ⟨L',J,I,k',af,ab,rfl⟩ _ l aC;obtain⟨L2,s2,S2,_⟩:=I.ext (da aC (o:= .lst ((ND (nl ts).length true).map V.bl)));rw[fD] at af;exact q l _ J L2 _ S2 (λa o n e=>s2 _ _ (k' _ _ n e)) (by lia) (λv hv=>(ab v hv).imp id λh=>h.keepN (oJ I.l) λa o n _ e=>rK e id (s2 _ _)) cT
  refine⟨_,rfl,n,5,rfl,rfl,(by show(0:Int)<5;decide),rfl,_,rfl,?_⟩;show if decide (V.int (n%5)=V.int 4)=true then _ else _
  rw[jC];by_cases h4:n%5=4
  ·rw[Mb h4];exact dG (kk hs L H hS (λ_ _ _ e=>e) (by lia) λ_ h=> .inl h)
  rw[LY h4];refine df ⟨n,rfl,?_⟩;intro tl ts H1 s1 av ae au ai;obtain⟨L1,aw,S1,n1⟩:=hS.ext s1;have aD:=n1 _ _ av ae;have n0:n/60%9=((n/60%9).toNat:Int):=(Ow (by lia)).symm;have z0:(n/60%9).toNat<9:=by lia
  have m0:9-n/600%8=((9-n/600%8).toNat:Int):=(Ow (by lia)).symm;refine⟨_,rfl,n,60,rfl,rfl,⟨by decide,by decide⟩,_,rfl,kl,_,rfl,.inl (cS.of (S1.h.s _ _ S1.k)),_,9,rfl,by rw[LV,h9];rfl,(by show(0:Int)<9;decide),?_⟩;show oH _ _ _ ([some (V.ref x),some (.ref d),some (.ref kl),some (.int n),some (.ref hl),some (.ref tl),some (.int (n/60%9)),none]:L2.St) H1;rw[n0];generalize (n/60%9).toNat=U;have kH:=S1.h.s _ _ S1.k;refine⟨_,rfl,_,rfl,_,rfl,kl,_,rfl,cS.of kH,?_⟩;intro p hp;have s2:cR H1 (upd H1 p (.lst (ib (ks.map V.str) (some (U:Int)) none))):=da hp;have u2:upd H1 p (.lst (ib (ks.map V.str) (some (U:Int)) none)) p=some (.lst ((ks.map V.str).drop U)):=by rw[cT,yU]
  generalize upd H1 p _=H2 at s2 u2 ⊢;refine⟨_,rfl,_,rfl,_,rfl,kl,_,rfl,cS.of (s2 _ _ kH),?_⟩;intro p2 ax;have s3:=s2.trans (da ax (o:= .lst (ib (ks.map V.str) none (some (U:Int)))));have u3:upd H2 p2 (.lst (ib (ks.map V.str) none (some (U:Int)))) p2=some (.lst ((ks.map V.str).take U)):=by rw[cT,wJ]
  have v3:=da ax (o:= .lst (ib (ks.map V.str) none (some (U:Int)))) _ _ u2;generalize upd H2 p2 _=H3 at s3 u3 v3 ⊢;refine⟨p,p2,_,_,rfl,rfl,v3,u3,by rw[NJ,ML,LV];lia,?_⟩;intro p3 aE;rw[<-List.map_drop,<-List.map_take,<-Mf];have s4:=s3.trans (da aE (o:= .lst ((ks.drop U++ks.take U).map V.str)));have u4:upd H3 p3 (.lst ((ks.drop U++ks.take U).map V.str)) p3=_:=cT;generalize upd H3 p3 _=H4 at s4 u4 ⊢;refine⟨_,rfl,n,600,rfl,rfl,⟨by decide,by decide⟩,_,8,rfl,rfl,(by show(0:Int)<8;decide),_,_,rfl,rfl,_,rfl,p3,_,rfl,cS.of u4,?_⟩;intro p4 aj;rw[m0];generalize (9-n/600%8).toNat=m1;have aF:=s4.free aj;rw[wJ,<-List.map_take];have s5:=cR.upd s4 aj (o:= .lst (((ks.drop U++ks.take U).take m1).map V.str));have u5:upd H4 p4 (.lst (((ks.drop U++ks.take U).take m1).map V.str)) p4=_:=cT;generalize upd H4 p4 _=H5 at s5 u5 ⊢;obtain⟨L5,ak,S5,n5⟩:=S1.ext s5;have l5:=n5 _ _ aF u5;have np:hl≠p4:=λz=>by
   have:=s4 _ _ (S1.h.s _ _ S1.l);rw[z,aj] at this;cases this
  have nt:tl≠hl:=λz=>by
   have:=hS.h.s _ _ hS.l;rw[<-z,av] at this;cases this
  refine⟨x,d,p4,hl,tl,aa,(ks.drop U++ks.take U).take m1,hs,ts,L5,rfl,rfl,rfl,rfl,rfl,⟨S5.h,S5.d,l5,S5.l,S5.v⟩,hok,ah,⟨?_,?_⟩,np,ao,ak _ _ aD,nt,au,ai,?_⟩
  ·rw[ML,Md,NJ,ML]
   lia
  ·intro k hk;rcases List.mem_append.mp (Pn hk) with h|h
   ·exact ag k (Qm h)
   ·exact ag k (Pn h)
  ·intro l m J L' H' S' k' af ab hb;refine⟨l,_,rfl,cS.of hb,?_⟩;have e:(ND m true).all id=true:=List.all_eq_true.mpr λb h=>Py h
   rw[e];exact kk J L' H' ⟨S'.h,S'.d,k' _ _ (Nt ay) S5.k,S'.l,S'.v⟩ (λa o n e=>k' _ _ n (ak _ _ (aw _ _ e))) af λv hv=>(ab v hv).imp id λh=>h.keepN (oJ S'.l) λa o n _ e=>rK e (λz=>aw.free (ak.free z)) id
end
end K25
namespace L2
open PySem PySem.Spec PyProof.Rows
theorem Ec{X:Cx}:fz X (NX .Is) (λx y H Q=>∃ a b:Nw,x= .bl a/\y= .bl b/\Q (.bl (a==b)) H):=by
 intro pins s σ H x y v u Q I J U h;obtain⟨a,b,rfl,rfl,q⟩:=h;cases J;cases U;exact wpAny_is_plain rfl ⟨.bl _,H,I,by cases a<;>cases b<;>rfl,q⟩
end L2
namespace K25
open PySem L2 PyProof.Rows PySem.Spec Gn K04 K01 BK
section
variable {P : Mq} {w : MT} {K : Mz} {mg : Str -> Mc LW} {base : Nn} {C CH CA CN CNo CW CK CT C2 : LS}
noncomputable def N5:LR Str:=["_law_house","_law_number_here","_law_key","_law_text_here","_law_told"]
theorem tq:dC N5 ["_law_house","_law_number_here"] (c9 og):=⟨rfl,rfl,rfl,dkq,rfl,dkq,dkq⟩
theorem FL:(["_law_row"]:LR Str).Nodup:=dkq
noncomputable def xx:Str:=Txt.mul "x" 2001
theorem Lu{α:Type}(x:Nd α)(n:Nat):∀ acc:Nd α,((ND n x).foldl (· ++ ·) acc).size=acc.size+n*x.size:=by
 induction n with
 |zero=>intro acc;rw[Nat.zero_mul];rfl
 |succ n I=>
  intro acc;rw[List.replicate_succ,List.foldl_cons,I,Array.size_append,Rv]
  lia
theorem Ae:xx.length=2001:=by
 unfold xx Txt.mul;rw[LX (by decide),LX dkq];exact(Lu _ _ _).trans rfl
theorem E9:MulOk "x" 2001:=⟨dkq,λ_ _=>dkq,λ_ _=>dkq⟩
noncomputable def Kn(K:Mm)(L:Hp)(v:V):Prop:=fT v/\((∀ H,Known K H v)\/∃ a,v= .ref a/\L a=some (.lst [.str "a"]))
theorem Kn.same {L L':Hp}{v:V}(h:Kn K L v)(s:cR L L'):Kn K L' v:=⟨h.1,h.2.elim .inl λ⟨a,e,q⟩=> .inr ⟨a,e,s _ _ q⟩⟩
theorem Kn.known {L H:Hp}{v:V}(h:Kn K L v)(s:cR L H):Known K H v:=h.2.elim (λk=>k H) λ⟨a,e,q⟩=>by subst e;exact⟨_,.lst (s _ _ q)⟩
theorem kC{L:Hp}{z:Str}(h:z.length<=5000):Kn K L (.str z):=⟨λy e=>by cases e;exact h,.inl λH=>⟨_,.str z⟩⟩
theorem zU{L:Hp}:Kn K L .non:=⟨λy e=>(by cases e),.inl λH=>⟨_,.non⟩⟩
theorem zM{L:Hp}{i:Int}:Kn K L (.int i):=⟨λy e=>(by cases e),.inl λH=>⟨_,.int i⟩⟩
theorem D0{L:Hp}{b:Nw}:Kn K L (.bl b):=⟨λy e=>(by cases e),.inl λH=>⟨_,.bl b⟩⟩
theorem yw{L:Hp}{a:LS}(h:L a=some (.lst [.str "a"])):Kn K L (.ref a):=⟨λy e=>(by cases e),.inr ⟨a,rfl,h⟩⟩
theorem GZ{L:Hp}{a:LS}(h:L a=some (.lst [.str "a"]))(n:Int):∃ v,iT ([.str "",.str "A",.str "a b",.str "abcdefghijklm",.non,.int 5,.ref a,.bl true,.str "a-b"]:LR V) (n%9)=some v/\Kn K L v/\dA 12 v=false:=by
 have e:n%9=((n%9).toNat:Int):=(Ow (by lia)).symm
 have l:(n%9).toNat<9:=by lia
 rw[e];generalize (n%9).toNat=j at l
 match j,l with
 |0,_=>exact⟨_,dS rfl,kC dkq,dkq⟩
 |1,_=>exact⟨_,dS rfl,kC dkq,dkq⟩
 |2,_=>exact⟨_,dS rfl,kC dkq,dkq⟩
 |3,_=>exact⟨_,dS rfl,kC dkq,dkq⟩
 |4,_=>exact⟨_,dS rfl,zU,rfl⟩
 |5,_=>exact⟨_,dS rfl,zM,rfl⟩
 |6,_=>exact⟨_,dS rfl,yw h,rfl⟩
 |7,_=>exact⟨_,dS rfl,D0,rfl⟩
 |8,_=>exact⟨_,dS rfl,kC dkq,dkq⟩
theorem Il{L:Hp}{a:LS}(h:L a=some (.lst [.str "a"]))(n:Int):∃ v,iT ([.str "a\tb",.str "\t",.non,.int 5,.str xx,.ref a]:LR V) (n%6)=some v/\Kn K L v/\dX v=false:=by
 have e:n%6=((n%6).toNat:Int):=(Ow (by lia)).symm
 have l:(n%6).toNat<6:=by lia
 rw[e];generalize (n%6).toNat=j at l
 match j,l with
 |0,_=>exact⟨_,dS rfl,kC dkq,dkq⟩
 |1,_=>exact⟨_,dS rfl,kC dkq,dkq⟩
 |2,_=>exact⟨_,dS rfl,zU,rfl⟩
 |3,_=>exact⟨_,dS rfl,zM,rfl⟩
 |4,_=>exact⟨_,dS rfl,kC (by rw[Ae];decide),by show(decide (xx.length<=2000)&&xx.cps.toList.all eJ)=false;rw[Ae];rfl⟩
 |5,_=>exact⟨_,dS rfl,yw h,rfl⟩
noncomputable def Tl(L:Hp)(p:LS)(vs:LR V)(ns:LR Nat):Prop:=L p=some (.lst vs)/\MY (λv (n:Nat)=>∃ l,v= .ref l/\L l=some (.lst [.str "refused",.int (n:Int)])) vs ns
theorem AQ{L:Hp}{p l:LS}{vs:LR V}{ns:LR Nat}{n:Nat}(t:Tl L p vs ns)(h:L l=some (.lst [.str "refused",.int (n:Int)])):l≠p:=λz=>by
 obtain⟨t1,I⟩:=t;rw[<-z,h] at t1;cases t1;cases I with
 |cons h _=>obtain⟨_,e,_⟩:=h;cases e
theorem Tl.app {L0 L L' H':Hp}{p x:LS}{v:V}{vs:LR V}{ns:LR Nat}{n:Nat}{pss:LR (LR (Str×Str))}(f0:L0 p=none)(s0:cR L0 L)(t:Tl L p vs ns)(s:cR L L')(hs:Hs C CH L' H' x pss)(r:fY L' v (.rf n)):
  cR L0 (upd L' p (.lst (vs++[v])))/\Hs C CH (upd L' p (.lst (vs++[v]))) (upd H' p (.lst (vs++[v]))) x pss/\Tl (upd L' p (.lst (vs++[v]))) p (vs++[v]) (ns++[n]):=by
 have t':Tl L' p vs ns:=⟨s _ _ t.1,Gn.Paired.imp2 t.2 λ_ _ ⟨l,e,q⟩=>⟨l,e,s _ _ q⟩⟩;obtain⟨l,e,hl⟩:=r;refine⟨λa o h=>(cW (dF h f0)).trans (s _ _ (s0 _ _ h)),hs.mset (m0:= .lst vs) trivial trivial t'.1,cT,Gn.Paired.app (Gn.Paired.imp2 t'.2 λ_ _ ⟨l,e,q⟩=>⟨l,e,(cW (AQ t' q)).trans q⟩) ⟨l,e,(cW (AQ t' hl)).trans hl⟩⟩
theorem Av{pss:LR (LR (Str×Str))}{v:V}(h:dA 12 v=false):fK pss v=false:=by
 cases v with
 |str k=>show(dA 12 (.str k)&&_)=false;rw[h];rfl
 |_=>rfl
noncomputable def Dx:TE:=λσ H Q=>∃(p:LS) (vs:LR V) (ns:LR Nat),σ[4]? =some (some (.ref p))/\Tl H p vs ns/\ns.length<=5/\∀ l,H l=none->Q (.ref l) (upd H l (.lst (nl ns)))
noncomputable def uW(C CH:LS):Sp:=λvs H Q _=>∃(x:LS) (n:Int) (I:LR (LR (Str×Str))) (L:Hp),vs=[.ref x,.int n]/\Hs C CH L H x I/\d6 I/\∀ L' H',cR L L'->Hs C CH L' H' x I->Q (.bl true) H'
seal dj PS PE PT PA PG PI dE dD in
theorem Ek{f fa f1:LS}{fd fda d1:Mj}(D:Df K mg "_law_bad" og f fd)(HC:gT K mg C CH)(F1:dv K "has" "House.has" jJ f1 d1)(m1:Meth K CH "has" f1)(G1:cV P w K mg base dc 4 f1 d1 ["self","key"] (q8 K C CH))
  (DA:Df K mg "_law_answer" kW fa fda)(GA:cV P w K mg base dc 13 fa fda ["_law_house","_law_way","_law_key","_law_text_here"] (om K C CH))(T:Txt mg):
  cV P w K mg base dc 14 f fd ["_law_house","_law_number_here"] (uW C CH):=by
 have bA:=DA.F.binds (ps:=["_law_house","_law_way","_law_key","_law_text_here"]) λ_ _ _ _ _ _ us hl=>lY (λ_ _ _ _=>rfl) us hl
 have b1:=F1.binds (ps:=["self","key"]) λ_ _ _ _ _ _ us hl=>eO (λ_ _=>rfl) us hl
 refine D.F.ok tq (λvs H Q E h=>?_) (λcdv A outer s H vs Q E hr h=>?_)
 ·obtain⟨x,n,I,L,rfl,_⟩:=h;rfl
 ·obtain⟨x,n,I,L,rfl,hs,hok,kk⟩:=h;have hz:(sizeLine:Nat)=16777216:=Mt;refine⟨_,cU (di (i:=2) tq.nd rfl (Mh rfl) (eB eY (dZ (cP dq (cP dq (cP dq (cP dq (cP qS (cP cX (cP (dZ (cP dq cQ)) (cP fN (cP dq cQ)))))))))) (de eR (pv 1) cX) (λ_ _=>rfl)))
   (cU (di (i:=3) tq.nd rfl (Mh rfl) (eB eY (dZ (cP dq (cP dq (cP qS (cP cX (cP (de Dh dq cX) (cP (dZ (cP dq cQ)) cQ))))))) (de eR (de gz (pv 1) cX) cX) (λ_ _=>rfl)))
   (cU (di (i:=4) tq.nd rfl (Mh rfl) (dZ (cP (dw GA hr rfl DA.m DA.F.kp bA .nil du (cP (pv 0) (cP dq (cP (pv 2) (cP dq cQ))))) cQ)))
   (cU (fv (eV MP MN MS gE (pv 4) (cP (dw GA hr rfl DA.m DA.F.kp bA .nil du (cP (pv 0) (cP dq (cP (pv 2) (cP (pv 3) cQ))))) cQ)))
   (cU (fv (eV MP MN MS gE (pv 4) (cP (dw GA hr rfl DA.m DA.F.kp bA .nil du (cP (pv 0) (cP dq (cP dq (cP (pv 3) cQ))))) cQ)))
   (cU (fv (eV MP MN MS gE (pv 4) (cP (dw GA hr rfl DA.m DA.F.kp bA .nil du (cP (pv 0) (cP dq (cP (pv 2) (cP dq cQ))))) cQ)))
   (cU (fv (eV MP MN MS gE (pv 4) (cP (dw GA hr rfl DA.m DA.F.kp bA .nil du (cP (pv 0) (cP dq (cP (pv 2) (cP dq cQ))))) cQ)))
   (cY (dg (kd (jq (vG (K:=K) rfl hr.units100) (PE.imp (t':=Dx) (fP (own:=1) (caps:=[]) (N:=["_law_row"]) (N0:=N5) (sc0:=c9 og) rfl (eZ (pv 4))
     (λ_ _ _=>dB (i:=0) FL rfl (Mh rfl)) (λ_ _ _=>fF) (λ_ _ _=>eB (BV (K:=K) rfl) (pv 0) cX (λ_ _=>rfl)) (eM (by decide)) rfl rfl
     dkq rfl dkq dkq rfl dkq) ?mR) (dZ (cP cX (cP cX (cP cX (cP cX (cP cX cQ)))))) (dH _))
    (kD (jq Ec (gU (pv 0) HC.cl m1 (G1.mono (by decide)) hr b1 .nil du (cP (pv 2) cQ)) fN (dH _)))))))))))),?_⟩
  case mR=>
   rintro σ H1 Q1 ⟨p,vs,ns,h4,ht,h5,q⟩;have el:=Gn.Paired.len ht.2;refine⟨_,h4,p,rfl,⟨_,cS.of ht.1⟩,gC (xs:=vs) (λi ys H'=>H'=H1/\ys=nl (ns.take i)) (by lia) (λi ys H' e=>by rw[e.1];exact cS.of ht.1) ⟨rfl,rfl⟩ ?_ ?_⟩
   ·rintro i v ys H' N hv ⟨rfl,rfl⟩ hN;obtain⟨m,hm,l,rfl,hl⟩:=Gn.fX ht.2 hv;refine g1 ?_;refine⟨_,rfl,l,_,1,.int (m:Int),rfl,rfl,cS.of hl,dS (j:=1) rfl,hN _ _ ⟨rfl,?_⟩⟩;rw[take_snoc hm,ie];rfl
   ·rintro ys H' ⟨rfl,rfl⟩ _ l hl;rw[el,MG];exact q l hl
  have w2:¬ LU "take"=LU "put":=dkq
  have w3:¬ LU "text"=LU "put":=dkq
  have w4:¬ LU "text"=LU "take":=dkq
  have z9:dA 12 (.str "zz9")=true:=dkq;refine⟨(by show 1<=sizeLine;lia),?_⟩;intro a0 ah;refine⟨(by show 9<=sizeLine;lia),?_⟩;intro a1 ai;have sA:=cR.upd (da ah (o:= .lst [.str "a"])) ai (o:= .lst [.str "",.str "A",.str "a b",.str "abcdefghijklm",.non,.int 5,.ref a0,.bl true,.str "a-b"]);have uA:=da ai (o:= .lst [.str "",.str "A",.str "a b",.str "abcdefghijklm",.non,.int 5,.ref a0,.bl true,.str "a-b"]) a0 _ cT;obtain⟨L1,au,aj,av,_⟩:=hs.ext sA;obtain⟨J,ek,U,kR⟩:=GZ (K:=K) (av _ _ ah uA) n;refine⟨_,rfl,n,9,rfl,rfl,(by show(0:Int)<9;decide),a1,_,_,J,rfl,rfl,cS.of cT,ek,?_⟩;generalize upd (upd H a0 _) a1 _=H1 at aj ⊢;refine⟨"x",2001,rfl,rfl,E9,(by show 1<=sizeLine;lia),?_⟩;intro b0 ak;refine⟨(by show 6<=sizeLine;lia),?_⟩;intro b1 ao;have sB:=cR.upd (da ak (o:= .lst [.str "a"])) ao (o:= .lst [.str "a\tb",.str "\t",.non,.int 5,.str (Txt.mul "x" 2001),.ref b0]);have uB:=da ao (o:= .lst [.str "a\tb",.str "\t",.non,.int 5,.str (Txt.mul "x" 2001),.ref b0]) b0 _ cT;obtain⟨L2,aq,ag,aw,_⟩:=aj.ext sB;obtain⟨tv,et,tK,tR⟩:=Il (K:=K) (aw _ _ ak uB) (n/9);refine⟨_,rfl,n,9,rfl,rfl,⟨by decide,by decide⟩,_,6,rfl,rfl,(by show(0:Int)<6;decide),b1,_,_,tv,rfl,rfl,cS.of cT,et,?_⟩;generalize upd (upd H1 b0 _) b1 _=H2 at ag ⊢
  replace U:=U.same aq
  have nH:∀ tv:V,eF I "put" J tv=I:=λtv=>by unfold eF;rw[LZ rfl,LX λz=>by rw[kR] at z;cases z.1]
  have rH:∀ tv:V,eT I "put" J tv= .rf 2:=λtv=>by unfold eT;rw[LZ rfl,LZ kR]
  have cK:∀ tv:V,(LU "put"=LU "put"->∀ k t,J= .str k->tv= .str t->dA 12 (.str k)=true->dX (.str t)=true->k∉keysOf I->d6 (I++[[(k,t)]])):=λ_ _ k t e1 _ e2=>by rw[<-e1,kR] at e2;cases e2
  refine⟨_,rfl,_,rfl,x,"put",J,.str "a",I,L2,rfl,ag,hok,U.known ag.s,U.1,⟨_,.str _⟩,jR,dkq,cK _,?_⟩;intro v1 L3 H3 s3 h3 r3;rw[nH] at h3;rw[rH] at r3;refine⟨(by show 1<=sizeLine;lia),?_⟩;intro p hp;obtain⟨L4,s4,h4,n4,_⟩:=h3.ext (da hp (o:= .lst [v1]));have f0:L2 p=none:=s3.free (h3.s.free hp);have t4:Tl L4 p [v1] [2]:=⟨n4 _ _ hp cT,by obtain⟨l,e,q⟩:=r3;exact .cons ⟨l,e,s4 _ _ q⟩ .nil⟩;have g4:=s3.trans s4;generalize upd H3 p _=H4 at h4 ⊢;refine⟨_,rfl,.inl ⟨rfl,_,cS.of (h4.s _ _ t4.1)⟩,_,rfl,_,rfl,_,rfl,x,"put",J,tv,I,L4,rfl,h4,hok,U.known (g4.trans h4.s),U.1,tK.known (g4.trans h4.s),tK.1,dkq,cK _,?_⟩;intro v2 L5 H5 s5 h5 r5;rw[nH] at h5;rw[rH] at r5;refine⟨p,_,_,rfl,rfl,h5.s _ _ (s5 _ _ t4.1),(by show 1<sizeLine;lia),?_⟩;obtain⟨g5,aa,t5⟩:=t4.app f0 g4 s5 h5 r5;generalize upd H5 p _=H6 at aa ⊢;generalize upd L5 p _=L6 at g5 aa t5;have nZ:eF I "put" (.str "zz9") tv=I:=by unfold eF;rw[LZ rfl,LX λz=>by rw[tR] at z;cases z.2.1]
  have rZ:eT I "put" (.str "zz9") tv= .rf 3:=by unfold eT;rw[LZ rfl,LX (by rw[z9];decide),LZ tR]
  refine⟨_,rfl,.inl ⟨rfl,_,cS.of (aa.s _ _ t5.1)⟩,_,rfl,_,rfl,x,"put",.str "zz9",tv,I,L6,rfl,aa,hok,⟨_,.str _⟩,jR,tK.known (g5.trans aa.s),tK.1,dkq,(λ_ k t _ e1 _ e2=>(by rw[<-e1,tR] at e2;cases e2)),?_⟩;intro v3 L7 H7 s7 h7 r7;rw[nZ] at h7;rw[rZ] at r7;refine⟨p,_,_,rfl,rfl,h7.s _ _ (s7 _ _ t5.1),(by show 2<sizeLine;lia),?_⟩;obtain⟨g7,ab,t7⟩:=t5.app f0 g5 s7 h7 r7;generalize upd H7 p _=H8 at ab ⊢;generalize upd L7 p _=L8 at g7 ab t7;have iK:¬ fK I J=true:=by rw[Av kR];decide
  have nT:eF I "take" J (.str "")=I:=by unfold eF;rw[LX w2,LZ rfl,LX iK]
  have rT:eT I "take" J (.str "")= .rf 1:=by unfold eT;rw[LX w2,LZ (.inl rfl),LX iK]
  refine⟨_,rfl,.inl ⟨rfl,_,cS.of (ab.s _ _ t7.1)⟩,_,rfl,_,rfl,x,"take",J,.str "",I,L8,rfl,ab,hok,U.known (g7.trans ab.s),U.1,⟨_,.str _⟩,jR,dkq,λz=>absurd z w2,?_⟩;intro v4 L9 H9 s9 h9 r9;rw[nT] at h9;rw[rT] at r9;refine⟨p,_,_,rfl,rfl,h9.s _ _ (s9 _ _ t7.1),(by show 3<sizeLine;lia),?_⟩;obtain⟨g9,ae,t9⟩:=t7.app f0 g7 s9 h9 r9;generalize upd H9 p _=Ha at ae ⊢;generalize upd L9 p _=La at g9 ae t9;have nX:eF I "text" J (.str "")=I:=by unfold eF;rw[LX w3,LX w4,LZ rfl]
  have rX:eT I "text" J (.str "")= .rf 1:=by unfold eT;rw[LX w3,LZ (.inr rfl),LX iK]
  refine⟨_,rfl,.inl ⟨rfl,_,cS.of (ae.s _ _ t9.1)⟩,_,rfl,_,rfl,x,"text",J,.str "",I,La,rfl,ae,hok,U.known (g9.trans ae.s),U.1,⟨_,.str _⟩,jR,dkq,λz=>absurd z w3,?_⟩;intro v5 Lb Hb sb hb rb;rw[nX] at hb;rw[rX] at rb;refine⟨p,_,_,rfl,rfl,hb.s _ _ (sb _ _ t9.1),(by show 4<sizeLine;lia),?_⟩;obtain⟨gb,af,tb⟩:=t9.app f0 g9 sb hb rb;generalize upd Hb p _=Hc at af ⊢;generalize upd Lb p _=Lc at gb af tb;refine⟨p,_,[2,2,3,1,1],rfl,⟨af.s _ _ tb.1,Gn.Paired.imp2 tb.2 λ_ _ ⟨l,e,q⟩=>⟨l,e,af.s _ _ q⟩⟩,by decide,?_⟩;intro q1 ax;refine⟨(by show 5<=sizeLine;lia),?_⟩;intro q2 ar;have sC:=cR.upd (da ax (o:= .lst (nl [2,2,3,1,1]))) ar (o:= .lst [.int 2,.int 2,.int 3,.int 1,.int 1]);have uC:=da ar (o:= .lst [.int 2,.int 2,.int 3,.int 1,.int 1]) q1 _ cT;have vC:upd (upd Hc q1 (.lst (nl [2,2,3,1,1]))) q2 (.lst [.int 2,.int 2,.int 3,.int 1,.int 1]) q2=some (.lst (nl [2,2,3,1,1])):=cT;obtain⟨Ld,sd,hd,_⟩:=af.ext sC;refine⟨.list (dN [2,2,3,1,1]),.list (dN [2,2,3,1,1]),.lst (cS.of uC) (uc _),.lst (cS.of vC) (uc _),rS _,rS _,dkq,true,by rw[jG (rS _)],?_⟩;generalize upd (upd Hc q1 _) q2 _=Hd at hd ⊢;have gd:=gb.trans sd;obtain⟨vl,dx,bs,hx,_⟩:=hd.ex;refine⟨_,rfl,x,dx,_,rfl,hx,gQ,_,rfl,x,J,I,rfl,hd.r,U.known (gd.trans hd.s),U.1,?_⟩;intro He se;rw[Av kR];obtain⟨Le,sL,he,_⟩:=hd.ext se;exact⟨false,false,rfl,rfl,kk Le He (((au.trans aq).trans gd).trans sL) he⟩
end
theorem xZ{k:Str}{ps:LR (Str×Str)}:k∉(wo k ps).map (·.1):=λh=>by
 obtain⟨p,I,e⟩:=List.mem_map.mp h;have:=(List.mem_filter.mp I).2;simp[e] at this
theorem rP{pss:LR (LR (Str×Str))}{p:Str×Str}:(pss++[[p]]).flatten=pss.flatten++[p]:=by rw[Nm];simp
section
variable {P : Mq} {w : MT} {K : Mz} {mg : Str -> Mc LW} {base : Nn} {C CH CA CN CNo CW CK CT C2 : LS}
theorem FD:dC ["_law_house","_law_plain","_law_key"] ["_law_house","_law_plain","_law_key"] (c9 oR):=⟨rfl,rfl,rfl,dkq,rfl,dkq,dkq⟩
noncomputable def uE(C CH:LS):Sp:=λvs H Q _=>∃(x d:LS) (k:Str) (I:LR (LR (Str×Str))) (L:Hp),vs=[.ref x,.ref d,.str k]/\Hs C CH L H x I/\d6 I/\L d=some (.dK (dk I.flatten))/\dA 12 (.str k)=true/\
 (∀ U:LR (LR (Str×Str)),U.flatten=wo k I.flatten->U.length<=I.length->d6 (U++[[(k,LU "new b")]]))/\I.length<=80/\
 ∀ J L' H',Hs C CH L' H' x J->L' d=some (.dK (dk J.flatten))->(∀ a o,a≠d->L a=some o->L' a=some o)->d6 J->J.flatten.length<=I.flatten.length+1->Q (.bl true) H'
seal dj PS PE PT PA PG PI dE dD in
theorem Dy{f fa fPu fTa fTe fPo:LS}{fd fda dPu dTa dTe dPo:Mj}(D:Df K mg "_law_again" oR f fd)(HC:gT K mg C CH)(M:HM P w K mg base C CH CK CT C2 CNo fPu fTa fTe fPo dPu dTa dTe dPo)
  (DA:Df K mg "_law_answer" kW fa fda)(GA:cV P w K mg base dc 13 fa fda ["_law_house","_law_way","_law_key","_law_text_here"] (om K C CH)):
  cV P w K mg base dc 14 f fd ["_law_house","_law_plain","_law_key"] (uE C CH):=by
 have bA:=DA.F.binds (ps:=["_law_house","_law_way","_law_key","_law_text_here"]) λ_ _ _ _ _ _ us hl=>lY (λ_ _ _ _=>rfl) us hl
 have b1:=M.F1.binds (ps:=["self","key","text"]) λ_ _ _ _ _ _ us hl=>jD (λ_ _ _=>rfl) us hl
 have b3:=M.F3.binds (ps:=["self","key"]) λ_ _ _ _ _ _ us hl=>eO (λ_ _=>rfl) us hl
 refine D.F.ok FD (λvs H Q E h=>?_) (λcdv A outer s H vs Q E hr h=>?_)
 ·obtain⟨x,d,k,I,L,rfl,_⟩:=h;rfl
 ·obtain⟨x,d,k,I,L,rfl,hs,hok,hd,aa,ai,ay,kk⟩:=h;have hu:=iP hr;have hz:(sizeLine:Nat)=16777216:=Mt;refine⟨_,cU (uX (iZ (nC hu (pv 2) (pv 1)))
    (cU (dP (dU (nK (K:=K) rfl hr.units100) (dw GA hr rfl DA.m DA.F.kp bA .nil du (cP (pv 0) (cP dq (cP (pv 2) (cP dq cQ))))) (dZ (cP dq (cP cX cQ))) (dH _)) (cY (dg fN)) dO)
    (cY (dP (dU (nK (K:=K) rfl hr.units100) (dw GA hr rfl DA.m DA.F.kp bA .nil du (cP (pv 0) (cP dq (cP (pv 2) (cP dq cQ))))) (ip (cP (Bd (pv 1) (pv 2) ⟨rfl,rfl,rfl,rfl⟩) (cP cX cQ))) (dH _)) (cY (dg fN)) dO)))
    (cY (dP (dU (nK (K:=K) rfl hr.units100) (dw GA hr rfl DA.m DA.F.kp bA .nil du (cP (pv 0) (cP dq (cP (pv 2) (cP dq cQ))))) (dZ (cP dq (cP cX cQ))) (dH _)) (cY (dg fN)) dO)))
   (cU (me hu (pv 1) (pv 2) dq rfl)
   (cY (dg (kd (AN (ui (gU (pv 0) HC.cl M.m1 (M.G1.mono (by decide)) hr b1 .nil ig (cP (pv 2) (cP dq cQ)))))
    (kD (jq fV (gU (pv 0) HC.cl M.m3 (M.G3.mono (by decide)) hr b3 .nil ig (cP (pv 2) cQ)) dq (dH _))))))),?_⟩;have w2:¬ LU "take"=LU "put":=dkq;have tn:dX (.str "new b")=true:=dkq;have nd:(I.flatten.map (·.1)).Nodup:=hok.n;have ab:∀ H,Known K H (.str k):=λH=>⟨_,.str _⟩
  have ae:fT (.str k):=mr aa (by decide)
  have ar:=hs.s _ _ hd;refine⟨λaj H'=>aj=[some (.ref x),some (.ref d),some (.str k)]/\∃ J L',Hs C CH L' H' x J/\L' d=some (.dK (dk J.flatten))/\J.flatten=wo k I.flatten/\J.length<=I.length/\∀ a o,a≠d->L a=some o->L' a=some o,?_,?_⟩
  ·refine⟨_,rfl,_,rfl,d,_,rfl,gh.k (k:=MF k) ar,_,rfl,?_⟩;by_cases hk:k∈I.flatten.map (·.1)
   ·have hv:=sX nd (nA nd hk)
    have U:=ko aa hk;rw[hv];have r1:eT I "put" (.str k) (.str "new b")= .rf 0:=by unfold eT;rw[LZ rfl,LX (by rw[aa];decide),LX (by rw[tn];decide),LZ U]
    have x1:eF I "put" (.str k) (.str "new b")=I:=by unfold eF;rw[LZ rfl,LX λz=>by rw[U] at z;cases z.2.2]
    refine dG ⟨_,rfl,_,rfl,x,"put",.str k,.str "new b",I,L,rfl,hs,hok,ab _,ae,⟨_,.str _⟩,jR,dkq,(λ_ k' t e _ _ _ z=>absurd (by cases e;exact hk) z),?_⟩;intro v1 L1 H1 s1 h1 q1;rw[x1] at h1;rw[r1] at q1;refine⟨(by show 2<=sizeLine;lia),?_⟩;intro l hl;have sm:=da hl (o:= .lst [.str "refused",.int 0]);refine⟨_,_,(q1.same (h1.s.trans sm)).dt,(show fY _ (.ref l) (.rf 0) from⟨l,rfl,cT⟩).dt,mL 0 (by decide),mL 0 (by decide),Mr (Ou _ _) (Res.dep _),_,rfl,?_⟩;rw[jG (mL 0 (by decide))];obtain⟨L2,s2,h2,_⟩:=h1.ext sm;generalize upd H1 l _=H2 at h2 ⊢;have r2:eT I "take" (.str k) (.str "")= .tx (iR k I.flatten):=by unfold eT;rw[LX w2,LZ (.inl rfl),LZ U];rfl
    have x2:eF I "take" (.str k) (.str "")=j5 k I:=by unfold eF;rw[LX w2,LZ rfl,LZ U];rfl
    refine df ⟨_,rfl,_,rfl,x,"take",.str k,.str "",I,L2,rfl,h2,hok,ab _,ae,⟨_,.str _⟩,jR,dkq,(λz=>absurd z w2),?_⟩;intro v3 L3 H3 s3 h3 q3;rw[x2] at h3;rw[r2] at q3;have ah:=s3 _ _ (s2 _ _ (s1 _ _ hd));have ag:=h3.s _ _ ah;refine⟨_,rfl,d,rfl,.inl ⟨_,.inl ag⟩,_,rfl,dk I.flatten,MF k,_,ag,rfl,hv,(by show 2<=sizeLine;decide),λl2 ak=>?_⟩;rw[qH] at ak ⊢;have h4:=h3.mset (m0:= .dK (dk I.flatten)) (m:= .dK (dk (wo k I.flatten))) trivial trivial ah;have q4:fY (upd L3 d (.dK (dk (wo k I.flatten)))) v3 (.tx (iR k I.flatten)):=by
     obtain⟨l,e,q⟩:=q3;exact⟨l,e,(cW λz=>by rw[z,ah] at q;cases q).trans q⟩
    have ao:=da ak (o:= .tup [.str (iR k I.flatten),.int 0])
    have gk:=(hok.g _ (nA nd hk)).2
    have lay:=Res.lay (r:= .tx (iR k I.flatten)) gk;refine⟨_,_,(q4.same (h4.s.trans ao)).dt,(show fY _ (.ref l2) (.tx (iR k I.flatten)) from⟨l2,rfl,cT⟩).dt,lay,lay,Mr (Ou _ _) (Res.dep _),_,rfl,?_⟩;rw[jG lay];obtain⟨L5,s5,h5,_⟩:=h4.ext ao;exact df ⟨rfl,_,L5,h5,by rw[rN];exact s5 _ _ cT,rN _ _,z7 _ _,λa o n e=>s5 _ _ ((cW n).trans (s3 _ _ (s2 _ _ (s1 _ _ e))))⟩
   ·have hv:=pq hk
    have U:¬ fK I (.str k)=true:=by rw[nY hk];decide
    rw[hv];have r2:eT I "take" (.str k) (.str "")= .rf 1:=by unfold eT;rw[LX w2,LZ (.inl rfl),LX U]
    have x2:eF I "take" (.str k) (.str "")=I:=by unfold eF;rw[LX w2,LZ rfl,LX U]
    refine df ⟨_,rfl,_,rfl,x,"take",.str k,.str "",I,L,rfl,hs,hok,ab _,ae,⟨_,.str _⟩,jR,dkq,(λz=>absurd z w2),?_⟩;intro v1 L1 H1 s1 h1 q1;rw[x2] at h1;rw[r2] at q1;refine⟨(by show 2<=sizeLine;lia),?_⟩;intro l hl;have sm:=da hl (o:= .lst [.str "refused",.int 1]);refine⟨_,_,(q1.same (h1.s.trans sm)).dt,(show fY _ (.ref l) (.rf 1) from⟨l,rfl,cT⟩).dt,mL 1 (by decide),mL 1 (by decide),Mr (Ou _ _) (Res.dep _),_,rfl,?_⟩;rw[jG (mL 1 (by decide))];obtain⟨L2,s2,h2,_⟩:=h1.ext sm;exact df ⟨rfl,I,L2,h2,s2 _ _ (s1 _ _ hd),(oo hk).symm,Ma _,λa o _ e=>s2 _ _ (s1 _ _ e)⟩
  ·rintro aj H1 ⟨rfl,J,L1,h1,d1,hf,hl,k1⟩;have ok1:=ai J hf hl;have nk:k∉J.flatten.map (·.1):=by rw[hf];exact xZ
   have az:J.flatten.length<=I.flatten.length:=by rw[hf];exact List.filter_sublist.length_le
   have ax:=hok.p;refine⟨_,rfl,_,rfl,d,_,rfl,iQ.k (k:=MF k) (h1.s _ _ d1) (by rw[qo];lia),?_⟩;rw[yp nk];have h2:=h1.mset (m0:= .dK (dk J.flatten)) (m:= .dK (dk (J.flatten++[(k,LU "new b")]))) trivial trivial d1;obtain⟨vl,dx,bs,hx,_⟩:=h2.ex;have U:fK J (.str k)=false:=nY nk;refine⟨_,rfl,x,dx,_,rfl,hx,gQ,_,rfl,x,.str k,.str "new b",J,_,rfl,h2,ab _,ae,⟨_,.str _⟩,jR,(λz=>by rw[aa] at z;cases z),(λ_ z=>by rw[tn] at z;cases z),(λ_ z=>by rw[U] at z;cases z),λ_ _ _=>⟨k,"new b",rfl,rfl,ok1,λH3 h3=>?_⟩⟩;have fl:(iy J [(k,LU "new b")]).flatten=J.flatten++[(k,LU "new b")]:=BY _ _;have af:d6 (iy J [(k,LU "new b")]):=ok1.sub (by rw[fl,rP];exact N3 _) (by have:=Ah J [(k,LU "new b")];lia);have aq:(k,LU "new b")∈(iy J [(k,LU "new b")]).flatten:=by rw[fl];exact MA _ (List.mem_singleton.mpr rfl)
   have au:k∈keysOf (iy J [(k,LU "new b")]):=List.mem_map.mpr ⟨_,aq,rfl⟩;obtain⟨aA,av,aB,aw,_⟩:=h3.ex;refine⟨_,rfl,dG ⟨_,rfl,x,av,_,rfl,aw,gQ,_,rfl,x,.str k,_,rfl,h3.r,af,ab _,ae,(λz=>by rw[ko aa au] at z;cases z),λk' t H4 e hm s4=>⟨rfl,?_⟩⟩⟩;cases e;have et:t=LU "new b":=(nh af.n hm).symm.trans (nh af.n aq);rw[et,Mb rfl];obtain⟨L4,sL,h4,_⟩:=h3.ext s4;exact kk _ L4 H4 h4 (by rw[fl];exact sL _ _ cT) (λa o n e=>sL _ _ ((cW n).trans (k1 _ _ n e))) af (by rw[fl,Md];show _+1<=_;lia)
end
section
variable {p : LR (LR (Str × Str))} {way k t : Str}
theorem xg(hw:way∈g8)(hk:dA 12 (.str k)=true)(ht:dX (.str t)=true):eT p way (.str k) (.str t)=fZ p.flatten way k:=by
 have a1:¬ LU "put"=LU "pour":=dkq
 have a2:¬ LU "take"=LU "put":=dkq
 have J:¬ LU "take"=LU "pour":=dkq
 have I:¬ LU "text"=LU "put":=dkq
 have U:¬ LU "text"=LU "pour":=dkq
 have a6:¬ LU "pour"=LU "put":=dkq
 have a7:¬ (LU "pour"=LU "take"\/LU "pour"=LU "text"):=dkq;unfold eT fZ;simp only[g8,Ra,Qa,or_false] at hw;by_cases hm:k∈p.flatten.map (·.1)
 ·have hi:=ko hk hm;rcases hw with rfl|rfl|rfl|rfl
  ·rw[LZ rfl,LX (by rw[hk];decide),LX (by rw[ht];decide),LZ hi,LX a1,LZ rfl,LZ hm]
  ·rw[LX a2,LZ (.inl rfl),LZ hi,LX J,LX a2,LZ hm];rfl
  ·rw[LX a6,LX a7,LZ rfl]
  ·rw[LX I,LZ (.inr rfl),LZ hi,LX U,LX I,LZ hm];rfl
 ·have hi:¬ fK p (.str k)=true:=by rw[nY hm];decide
  rcases hw with rfl|rfl|rfl|rfl
  ·rw[LZ rfl,LX (by rw[hk];decide),LX (by rw[ht];decide),LX hi,LX a1,LZ rfl,LX hm]
  ·rw[LX a2,LZ (.inl rfl),LX hi,LX J,LX a2,LX hm]
  ·rw[LX a6,LX a7,LZ rfl]
  ·rw[LX I,LZ (.inr rfl),LX hi,LX U,LX I,LX hm]
theorem vD(hw:way∈g8)(hk:dA 12 (.str k)=true)(ht:dX (.str t)=true):
  (eF p way (.str k) (.str t)=iy p [(k,t)]/\way="put"/\k∉keysOf p/\gp p.flatten way k t=p.flatten++[(k,t)])\/(eF p way (.str k) (.str t)=j5 k p/\gp p.flatten way k t=wo k p.flatten)\/((eF p way (.str k) (.str t)=p\/eF p way (.str k) (.str t)=lq p)/\gp p.flatten way k t=p.flatten):=by
 have a2:¬ LU "take"=LU "put":=dkq
 have I:¬ LU "text"=LU "put":=dkq
 have J:¬ LU "text"=LU "take":=dkq
 have U:¬ LU "pour"=LU "put":=dkq
 have a7:¬ LU "pour"=LU "take":=dkq
 have a8:¬ LU "pour"=LU "text":=dkq;unfold eF gp;simp only[g8,Ra,Qa,or_false] at hw;by_cases hm:k∈p.flatten.map (·.1)
 ·have hi:=ko hk hm;rcases hw with rfl|rfl|rfl|rfl
  ·rw[LZ rfl,LZ rfl,LZ hm,LX λz=>by rw[hi] at z;cases z.2.2];exact .inr (.inr ⟨.inl rfl,rfl⟩)
  ·rw[LX a2,LX a2,LZ rfl,LZ rfl,LZ hi];exact .inr (.inl ⟨rfl,rfl⟩)
  ·rw[LX U,LX U,LX a7,LX a7,LX a8];exact .inr (.inr ⟨.inr rfl,rfl⟩)
  ·rw[LX I,LX I,LX J,LX J,LZ rfl];exact .inr (.inr ⟨.inl rfl,rfl⟩)
 ·have hi:=nY hm;rcases hw with rfl|rfl|rfl|rfl
  ·rw[LZ rfl,LZ rfl,LX hm,LZ ⟨hk,ht,hi⟩];exact .inl ⟨rfl,rfl,hm,rfl⟩
  ·rw[LX a2,LX a2,LZ rfl,LZ rfl,LX (by rw[hi];decide),oo hm];exact .inr (.inr ⟨.inl rfl,rfl⟩)
  ·rw[LX U,LX U,LX a7,LX a7,LX a8];exact .inr (.inr ⟨.inr rfl,rfl⟩)
  ·rw[LX I,LX I,LX J,LX J,LZ rfl];exact .inr (.inr ⟨.inl rfl,rfl⟩)
theorem Co:(lq p).flatten=p.flatten:=by
 unfold lq;split
 ·rename_i h;rw[List.length_eq_zero_iff.mp h]
 ·simp
theorem ny(hw:way∈g8)(hk:dA 12 (.str k)=true)(ht:dX (.str t)=true):(eF p way (.str k) (.str t)).flatten=gp p.flatten way k t:=by
 rcases vD (p:=p) hw hk ht with ⟨h,_,_,e⟩|⟨h,e⟩|⟨h|h,e⟩<;>rw[h,e]
 ·exact BY _ _
 ·exact rN _ _
 ·exact Co
theorem Ab(hw:way∈g8)(hk:dA 12 (.str k)=true)(ht:dX (.str t)=true):(eF p way (.str k) (.str t)).flatten.Sublist (p.flatten++[(k,t)])/\(eF p way (.str k) (.str t)).length<=p.length+1:=by
 rcases vD (p:=p) hw hk ht with ⟨h,_,_,e⟩|⟨h,e⟩|⟨h|h,e⟩<;>rw[ny hw hk ht,e,h]
 ·exact⟨N3 _,Ah _ _⟩
 ·exact⟨List.filter_sublist.trans (ON _ _),Od (z7 _ _)⟩
 ·exact⟨ON _ _,NC _⟩
 ·refine⟨ON _ _,?_⟩;unfold lq;split
  ·exact MM _
  ·exact Pt (MM _)
theorem K4(hw:way∈g8)(hk:dA 12 (.str k)=true)(ht:dX (.str t)=true)(hok:d6 p)(hput:k∉keysOf p->d6 (p++[[(k,t)]]))(hl:p.length<90):d6 (eF p way (.str k) (.str t)):=by
 have I:=(Ab (p:=p) hw hk ht).2;rcases vD (p:=p) hw hk ht with ⟨h,_,hm,e⟩|⟨h,e⟩|⟨_,e⟩
 ·exact(hput hm).sub (by rw[ny hw hk ht,e,rP];exact N3 _) (by lia)
 ·exact hok.sub (by rw[ny hw hk ht,e];exact QA) (by lia)
 ·exact hok.sub (by rw[ny hw hk ht,e];exact N3 _) (by lia)
end
theorem FA{ps:LR (Str×Str)}{m:Nat}(h:∀ p∈ps,(tw p.2).length<=m):d8 (cZ ps)<=ps.length*m:=by
 induction ps with
 |nil=>exact MM _
 |cons p r I=>
  have h1:=h p Mi
  have h2:=I λq J=>h q (Mg _ J)
  show((tw p.2).length::(cZ r).map MQ).sum<=_;rw[OO,Ms,Rv];have U:d8 (cZ r)=((cZ r).map MQ).sum:=rfl
  lia
structure Un (us : LR Str) (U : LR (Str × Str)) : Prop where
 g : ∀ p ∈ U, (dA 12 (.str p.1) = true /\ dX (.str p.2) = true) /\ (∀ x ∈ tw p.2, x ∈ us) /\ (tw p.2).length<=90
 l : U.length<=14
theorem Un.ok {us:LR Str}{U:LR (Str×Str)}{pss:LR (LR (Str×Str))}(h:Un us U)(hu:us.length<64)(s:pss.flatten.Sublist U)(n:(keysOf pss).Nodup)(l:pss.length<=90):d6 pss:=by
 have hl:(cZ U).length=U.length:=by unfold cZ;rw[LV]
 have ht:=FA (ps:=U) (m:=90) λp I=>(h.g p I).2.2
 have J:gN (cZ U):=⟨by have:=h.l;lia,by have:=h.l;lia⟩
 have hW:mw (cZ U):=⟨us,hu,λws hm x hx=>by
  obtain⟨p,I,rfl⟩:=List.mem_map.mp hm;exact(h.g p I).2.1 x hx⟩;exact⟨λp I=>(h.g p (s.mem I)).1,n,J.sub s,hW.sub s,l,by have:=s.length_le;have:=h.l;lia⟩
noncomputable def mC(d:Str×Str×Str):Str×Str:=(d.2.1,d.2.2)
theorem zl{pss:LR (LR (Str×Str))}{k t:Str}(n:(keysOf pss).Nodup)(h:k∉keysOf pss):(keysOf (pss++[[(k,t)]])).Nodup:=by
 have e:keysOf (pss++[[(k,t)]])=keysOf pss++[k]:=by unfold keysOf;rw[Nm,Mf];simp
 rw[e];exact List.nodup_append.mpr ⟨n,by simp,λa ha b hb e=>h (by rw[<-List.mem_singleton.mp hb,<-e];exact ha)⟩
structure Zs (C CH : LS) (L H : Hp) (x1 d1 : LS) (p1 : LR (LR (Str × Str))) (q1 : LR (Str × Str)) (x2 d2 : LS) (p2 : LR (LR (Str × Str))) (q2 : LR (Str × Str)) (kl hl : LS) (ks : LR Str) (hs : LR V) : Prop where
 w : W2 C CH L H x1 p1 x2 p2
 d : L d1 = some (.dK (dk q1))
 e : L d2 = some (.dK (dk q2))
 k : L kl = some (.lst (ks.map V.str))
 l : L hl = some (.lst hs)
 v : ∀ v ∈ hs, hZ L hl v
 n : d1 ≠ d2
 nk : hl ≠ kl
section
variable {K : Mz} {C CH : LS} {L H : Hp} {x1 d1 : LS} {p1 : LR (LR (Str × Str))} {q1 : LR (Str × Str)} {x2 d2 : LS} {p2 : LR (LR (Str × Str))} {q2 : LR (Str × Str)} {kl hl : LS} {ks : LR Str} {hs : LR V}
theorem Zs.swap (z:Zs C CH L H x1 d1 p1 q1 x2 d2 p2 q2 kl hl ks hs):Zs C CH L H x2 d2 p2 q2 x1 d1 p1 q1 kl hl ks hs:=⟨z.w.swap,z.e,z.d,z.k,z.l,z.v,Nt z.n,z.nk⟩
theorem Zs.ext {H':Hp}(ne:CH≠C)(z:Zs C CH L H x1 d1 p1 q1 x2 d2 p2 q2 kl hl ks hs)(s:cR H H'):∃ L',cR L L'/\Zs C CH L' H' x1 d1 p1 q1 x2 d2 p2 q2 kl hl ks hs/\∀ a o,H a=none->H' a=some o->L' a=some o:=by
 obtain⟨L',I,w,n⟩:=z.w.ext ne s;exact⟨L',I,⟨w,I _ _ z.d,I _ _ z.e,I _ _ z.k,I _ _ z.l,λv J=>(z.v v J).keep z.l λa o _ _ e=>I _ _ e,z.n,z.nk⟩,n⟩
theorem Zs.ans {way k t:Str}{Q:VK}{E:XK}(ne:CH≠C)(z:Zs C CH L H x1 d1 p1 q1 x2 d2 p2 q2 kl hl ks hs)(hok:d6 p1)(hw:way∈g8)(hk:dA 12 (.str k)=true)(ht:fT (.str t))(hput:k∉keysOf p1->d6 (p1++[[(k,t)]]))
  (kk:∀ v L' H',cR L L'->Zs C CH L' H' x1 d1 (eF p1 way (.str k) (.str t)) q1 x2 d2 p2 q2 kl hl ks hs->fY H' v (eT p1 way (.str k) (.str t))->Q v H'):om K C CH [.ref x1,.str way,.str k,.str t] H Q E:=by
 obtain⟨L1,h1,J,hI⟩:=z.w.a;refine⟨x1,way,.str k,.str t,p1,L1,rfl,h1,hok,⟨_,.str _⟩,mr hk (by decide),⟨_,.str _⟩,ht,hw,(λ_ k' t' e1 e2 _ _ z=>by cases e1;cases e2;exact hput z),λv U H' s' h' r'=>?_⟩;have I:cR L (hJ L L1 U):=λa o e=>by rw[jY J e];exact s' _ _ (J _ _ e)
 exact kk v _ H' I ⟨W2.step ne J hI h' λa o e _=>s' _ _ e,I _ _ z.d,I _ _ z.e,I _ _ z.k,I _ _ z.l,λv hv=>(z.v v hv).keep z.l λa o _ _ e=>I _ _ e,z.n,z.nk⟩ (r'.same h'.s)
theorem Zs.nd1 {a:LS}{xs:LR V}(z:Zs C CH L H x1 d1 p1 q1 x2 d2 p2 q2 kl hl ks hs)(h:L a=some (.lst xs)):a≠d1:=λy=>by rw[y,z.d] at h;cases h
theorem Zs.due {way k t:Str}{Q:VK}{E:XK}(ne:CH≠C)(z:Zs C CH L H x1 d1 p1 q1 x2 d2 p2 q2 kl hl ks hs)(nd:(q1.map (·.1)).Nodup)(h1:q1.length<=1000)(hw:way∈g8)
  (kk:∀ v L' H',(∀ a o,a≠d1->L a=some o->L' a=some o)->Zs C CH L' H' x1 d1 p1 (gp q1 way k t) x2 d2 p2 q2 kl hl ks hs->fY H' v (fZ q1 way k)->(∀ v0 r,fY H v0 r->fY H' v0 r)->Q v H'):sI [.ref d1,.str way,.str k,.str t] H Q E:=by
 have hd:=z.w.s _ _ z.d;refine⟨d1,way,k,t,q1,rfl,hd,nd,h1,hw,λv H' s' J _=>?_⟩;have U:=z.w.mset ne (m0:= .dK (dk q1)) (m:= .dK (dk (gp q1 way k t))) trivial trivial z.d;obtain⟨L',I,w',_⟩:=U.ext ne s';have kp:∀ a o,a≠d1->L a=some o->L' a=some o:=λa o n e=>I _ _ ((cW n).trans e)
 refine kk v L' H' kp ⟨w',I _ _ cT,kp _ _ (Nt z.n) z.e,kp _ _ (z.nd1 z.k) z.k,kp _ _ (z.nd1 z.l) z.l,λv hv=>(z.v v hv).keep z.l λa o _ n e=>kp _ _ (λy=>n (dk q1) (by rw[y,z.d] at e;exact(Ml e).symm)) e,z.n,z.nk⟩ J λv0 r h=>?_
 cases r with
 |non=>exact h
 |rf n=>obtain⟨l,e,q⟩:=h;exact⟨l,e,s' _ _ ((cW λy=>by rw[y,hd] at q;cases q).trans q)⟩
 |tx t=>obtain⟨l,e,q⟩:=h;exact⟨l,e,s' _ _ ((cW λy=>by rw[y,hd] at q;cases q).trans q)⟩
theorem Zs.stands {n:Int}{Q:VK}{E:XK}(ne:CH≠C)(z:Zs C CH L H x1 d1 p1 p1.flatten x2 d2 p2 q2 kl hl ks hs)(hok:d6 p1)(h64:p1.flatten.length<64)(h9:ks.length=9)(hrow:∀ k∈ks,dA 12 (.str k)=true)(hn:0<=n)(hhs:hs.length<=4900)
  (kk:∀ hs' L' H',Zs C CH L' H' x1 d1 p1 p1.flatten x2 d2 p2 q2 kl hl ks hs'->(∀ a o,a≠hl->L a=some o->L' a=some o)->hs'.length<=hs.length+6->Q (.bl true) H'):vJ C CH [.ref x1,.ref d1,.ref kl,.int n,.ref hl] H Q E:=by
 obtain⟨L1,h1,I,hI⟩:=z.w.a;refine⟨x1,d1,kl,hl,n,p1,ks,hs,L1,rfl,⟨h1,I _ _ z.d,I _ _ z.k,I _ _ z.l,λv U=>(z.v v U).keep z.l λa o _ _ e=>I _ _ e⟩,hok,h64,h9,hrow,hn,hhs,z.nk,λhs' aa H' J k' ab ae=>?_⟩;have kp:∀ a o,a≠hl->L a=some o->hJ L L1 aa a=some o:=λa o n e=>by rw[jY I e];exact k' _ _ n (I _ _ e)
 refine kk hs' _ H' ⟨W2.step ne I hI J.h λa o e nm=>k' _ _ (λy=>nm (.lst hs) trivial (by rw[y];exact z.l)) e,by rw[jY I z.d];exact J.d,kp _ _ (λy=>by have:=z.e;rw[y,z.l] at this;cases this) z.e,kp _ _ (Nt z.nk) z.k,by rw[jY I z.l];exact J.l,λv U=>?_,z.n,z.nk⟩ kp ab;rcases ae v U with h|h
 ·exact(z.v v h).keep z.l λa o n _ e=>kp _ _ n e
 ·refine h.keepN (oJ J.l) λa o n _ e=>?_
  obtain⟨e1,c⟩:=wM e;rcases c with c|⟨ts,c⟩
  ·rw[BG c];exact e1
  ·subst c;exact E2 e1
theorem Zs.bad {n:Int}{Q:VK}{E:XK}(ne:CH≠C)(z:Zs C CH L H x1 d1 p1 q1 x2 d2 p2 q2 kl hl ks hs)(hok:d6 p1)(kk:∀ L' H',Zs C CH L' H' x1 d1 p1 q1 x2 d2 p2 q2 kl hl ks hs->cR L L'->Q (.bl true) H'):uW C CH [.ref x1,.int n] H Q E:=by
 obtain⟨L1,h1,J,hI⟩:=z.w.a;refine⟨x1,n,p1,L1,rfl,h1,hok,λU H' s' h'=>?_⟩;have I:cR L (hJ L L1 U):=λa o e=>by rw[jY J e];exact s' _ _ (J _ _ e)
 exact kk _ H' ⟨W2.step ne J hI h' λa o e _=>s' _ _ e,I _ _ z.d,I _ _ z.e,I _ _ z.k,I _ _ z.l,λv hv=>(z.v v hv).keep z.l λa o _ _ e=>I _ _ e,z.n,z.nk⟩ I
theorem Zs.again {k:Str}{Q:VK}{E:XK}(ne:CH≠C)(z:Zs C CH L H x1 d1 p1 p1.flatten x2 d2 p2 q2 kl hl ks hs)(hok:d6 p1)(hk:dA 12 (.str k)=true)(hput:∀ qss:LR (LR (Str×Str)),qss.flatten=wo k p1.flatten->qss.length<=p1.length->d6 (qss++[[(k,LU "new b")]]))(h80:p1.length<=80)
  (kk:∀ p1' L' H',Zs C CH L' H' x1 d1 p1' p1'.flatten x2 d2 p2 q2 kl hl ks hs->(∀ a o,a≠d1->L a=some o->L' a=some o)->d6 p1'->p1'.flatten.length<=p1.flatten.length+1->Q (.bl true) H'):uE C CH [.ref x1,.ref d1,.str k] H Q E:=by
 obtain⟨L1,h1,I,hI⟩:=z.w.a;refine⟨x1,d1,k,p1,L1,rfl,h1,hok,I _ _ z.d,hk,hput,h80,λp1' J H' h' d' k' U aa=>?_⟩;have kp:∀ a o,a≠d1->L a=some o->hJ L L1 J a=some o:=λa o n e=>by rw[jY I e];exact k' _ _ n (I _ _ e)
 exact kk p1' _ H' ⟨W2.step ne I hI h' λa o e nm=>k' _ _ (λy=>nm (.dK (dk p1.flatten)) trivial (by rw[y];exact z.d)) e,by rw[jY I z.d];exact d',kp _ _ (Nt z.n) z.e,kp _ _ (z.nd1 z.k) z.k,kp _ _ (z.nd1 z.l) z.l,λv hv=>(z.v v hv).keep z.l λa o _ n e=>kp _ _ (λy=>n (dk p1.flatten) (by rw[y,z.d] at e;exact(Ml e).symm)) e,z.n,z.nk⟩ kp U aa
end
theorem xW{C CH:LS}{H:Hp}{x dx vl:LS}(hx:H x=none)(hdx:H dx=none)(hvl:upd (upd H dx (.own x)) x (.ins CH dx []) vl=none):Hs C CH H (upd (upd (upd (upd H dx (.own x)) x (.ins CH dx [])) vl (.lst [])) x (.ins CH dx (gj vl))) x []/\H vl=none/\
  (upd (upd (upd (upd H dx (.own x)) x (.ins CH dx [])) vl (.lst [])) x (.ins CH dx (gj vl))) x=some (.ins CH dx (gj vl))/\(upd (upd (upd (upd H dx (.own x)) x (.ins CH dx [])) vl (.lst [])) x (.ins CH dx (gj vl))) vl=some (.lst []):=by
 have s4:cR H (upd (upd H dx (.own x)) x (.ins CH dx [])):=xq hx hdx
 have I:vl≠x:=λz=>by rw[z,cT] at hvl;cases hvl
 refine⟨⟨⟨vl,dx,[],cT,(cW I).trans cT,s4.free hvl,.nil⟩,hx,λb u e=>(cW (dF e hx)).trans ((cW (dF (s4 _ _ e) hvl)).trans (s4 _ _ e))⟩,s4.free hvl,cT,(cW I).trans cT⟩
theorem Dc{X:Cx}{K:Mm}(h:X.K=K){k:Nat}(hr:eK k X.A)(hk:2<=k):gy X (.type "str") (λxs H Q=>∃(p:LS) (d:OV),xs=[.ref p]/\gc K H (.ref p) d/\d.showable=true/\d.hasDict=false/\d.depth<=100/\d.shown.length<=sizeLine/\Q (.str d.shown) H):=by subst h;exact BE hr hk
theorem FZ{σ:L2.St}{H:Hp}{te:TE}{M:V->Hp->Prop}{N0:Hp->Prop}(h:te σ H M):tf σ H λb H3=>if b=true then te σ H3 M else N0 H3:=by
 show if true=true then te σ H M else N0 H
 exact dG h
theorem tn{σ:L2.St}{H:Hp}{F:LR V->Hp->Prop}(h:F [] H):jB σ H F:=h
noncomputable def Gx(L:Hp)(d1 d2 hl:LS):Hp:=λa=>if a=d1\/a=d2\/a=hl then none else L a
theorem AS{L:Hp}{d1 d2 hl a:LS}{o:HO}(h:Gx L d1 d2 hl a=some o):(a≠d1/\a≠d2/\a≠hl)/\L a=some o:=by
 unfold Gx at h;split at h
 ·cases h
 ·rename_i n;exact⟨⟨λe=>n (.inl e),λe=>n (.inr (.inl e)),λe=>n (.inr (.inr e))⟩,h⟩
theorem vP{L:Hp}{d1 d2 hl a:LS}{o:HO}(h:L a=some o)(n1:a≠d1)(n2:a≠d2)(n3:a≠hl):Gx L d1 d2 hl a=some o:=by
 unfold Gx;rw[LX (by rintro(z|z|z);exact n1 z;exact n2 z;exact n3 z)];exact h
structure Hk (ds : LR (Str × Str × Str)) (i : Nat) (p : LR (LR (Str × Str))) : Prop where
 ok : d6 p
 s : p.flatten.Sublist ((ds.take i).map mC)
 l : p.length<=i
section
variable {us : LR Str} {ds : LR (Str × Str × Str)} {i : Nat} {p : LR (LR (Str × Str))} {d : Str × Str × Str}
theorem Hk.mono (h:Hk ds i p):Hk ds (i+1) p:=⟨h.ok,h.s.trans ((List.take_sublist_take_left (NC i)).map _),Od h.l⟩
theorem Hk.ap (h:Hk ds i p)(hd:ds[i]? =some d):(p.flatten++[mC d]).Sublist ((ds.take (i+1)).map mC):=by
 rw[take_snoc hd,Mf];exact h.s.append (N3 _)
theorem Hk.put (h:Hk ds i p)(hu:us.length<64)(hU:Un us (ds.map mC))(hd:ds[i]? =some d)(hn:d.2.1∉keysOf p):d6 (p++[[(d.2.1,d.2.2)]]):=by
 have hl:=(List.getElem?_eq_some_iff.mp hd).1
 have I:=hU.l;rw[LV] at I;exact hU.ok hu (by rw[rP];exact(h.ap hd).trans ((Q4 _ _).map _)) (zl h.ok.n hn) (by rw[Md];have:=h.l;show p.length+1<=90;lia)
theorem Hk.step (h:Hk ds i p)(hu:us.length<64)(hU:Un us (ds.map mC))(hd:ds[i]? =some d)(hw:d.1∈g8)(hk:dA 12 (.str d.2.1)=true)(ht:dX (.str d.2.2)=true):Hk ds (i+1) (eF p d.1 (.str d.2.1) (.str d.2.2)):=by
 have hl:=(List.getElem?_eq_some_iff.mp hd).1
 have I:=hU.l;rw[LV] at I;have hs:=Ab (p:=p) hw hk ht;exact⟨K4 hw hk ht h.ok (h.put hu hU hd) (by have:=h.l;lia),hs.1.trans (h.ap hd),Mr hs.2 (Pt h.l)⟩
theorem Hk.le (h:Hk ds i p)(h11:ds.length<=11):p.flatten.length<=11:=by
 have:=h.s.length_le;rw[LV,ML] at this
 lia
end
theorem yP{p:LR (LR (Str×Str))}{way k:Str}(hok:d6 p):(fZ p.flatten way k).ok:=by
 unfold fZ;split
 ·trivial
 ·split
  ·split
   ·show 0<10;decide
   ·trivial
  ·split
   ·rename_i h;exact(hok.g _ (nA hok.n h)).2
   ·show 1<10;decide
theorem ES{z:Str}(h:z∈ki):z∈g8:=by
 simp only[ki,g8,Ra,Qa,or_false] at h ⊢;rcases h with h|h|h|h|h|h|h<;>simp[h]
section
variable {P : Mq} {w : MT} {K : Mz} {mg : Str -> Mc LW} {base : Nn} {C CH CA CN CNo CW CK CT C2 : LS}
noncomputable def BZ:LR Str:=["_law_script","_law_menu_here","_law_deeds_here","_law_keys_here","_law_houses","_law_plain","_law_held","_law_k","_law_way","_law_key","_law_text_here","_law_side","_law_number_here"]
noncomputable def ou(K:Mm):Sp:=λvs H Q _=>∃(a:LS) (ns:LR Int),vs=[.ref a]/\cS K H a (ns.map V.int)/\ns.length<=63/\∀ H',Q (.bl true) H'
theorem ic:dC BZ ["_law_script"] (c9 jf):=⟨rfl,rfl,rfl,dkq,rfl,dkq,dkq⟩
theorem Bm:(["_law_found","_law_shown"]:LR Str).Nodup:=dkq
noncomputable def Lm:TE:=λσ H Q=>∃(hl:LS) (hs:LR V),σ[6]? =some (some (.ref hl))/\H hl=some (.lst hs)/\(∀ v∈hs,hZ H hl v)/\hs.length<=5000/\∀ l,H l=none->Q (.ref l) (upd H l (.lst ((ND hs.length true).map V.bl)))
set_option maxHeartbeats 8000000 in
seal dj PS PE PT PA PG PI dE dD in
theorem Ky{f fMe fNu fDe fKe fA fU fS fB fG fi:LS}{fd fdMe fdNu fdDe fdKe fdA fdU fdS fdB fdG fdi:Mj}(D:Df K mg "law" jf f fd)(T:Txt mg)(HC:gT K mg C CH)
  (DMe:Df K mg "_law_menu" lQ fMe fdMe)(GMe:cV P w K mg base dc 2 fMe fdMe ["_law_number_here"] As)
  (DNu:Df K mg "_law_number" mX fNu fdNu)(GNu:cV P w K mg base dc 2 fNu fdNu ["_law_script","_law_k"] (wH K))
  (DDe:Df K mg "_law_deeds" pP fDe fdDe)(GDe:cV P w K mg base dc 3 fDe fdDe ["_law_script","_law_first","_law_menu_here"] (yA K))
  (DKe:Df K mg "_law_keys" kb fKe fdKe)(GKe:cV P w K mg base dc 2 fKe fdKe ["_law_number_here","_law_many"] wF)
  (DA:Df K mg "_law_answer" kW fA fdA)(GA:cV P w K mg base dc 13 fA fdA ["_law_house","_law_way","_law_key","_law_text_here"] (om K C CH))
  (DU:Df K mg "_law_due" oP fU fdU)(GU:cV P w K mg base dc 1 fU fdU ["_law_plain","_law_way","_law_key","_law_text_here"] sI)
  (DS:Df K mg "_law_stands" mQ fS fdS)(GS:cV P w K mg base dc 15 fS fdS ["_law_house","_law_plain","_law_keys_here","_law_number_here","_law_held"] (vJ C CH))
  (DB:Df K mg "_law_bad" og fB fdB)(GB:cV P w K mg base dc 14 fB fdB ["_law_house","_law_number_here"] (uW C CH))
  (DG:Df K mg "_law_again" oR fG fdG)(GG:cV P w K mg base dc 14 fG fdG ["_law_house","_law_plain","_law_key"] (uE C CH))
  (FHI:dv K "__init__" "House.__init__" lL fi fdi)(MH:L2.Mk K CH fi)(GHI:cV P w K mg base dc 1 fi fdi ["self"] (BF CH)):cV P w K mg base dc 16 f fd ["_law_script"] (ou K):=by
 have bE:=eI (p:="_law_number_here") DMe.F λ_ _ _ _ _ _ _=>rfl
 have ay:=DNu.F.binds (ps:=["_law_script","_law_k"]) λ_ _ _ _ _ _ us hl=>eO (λ_ _=>rfl) us hl
 have bF:=DDe.F.binds (ps:=["_law_script","_law_first","_law_menu_here"]) λ_ _ _ _ _ _ us hl=>jD (λ_ _ _=>rfl) us hl
 have bH:=DKe.F.binds (ps:=["_law_number_here","_law_many"]) λ_ _ _ _ _ _ us hl=>eO (λ_ _=>rfl) us hl
 have bA:=DA.F.binds (ps:=["_law_house","_law_way","_law_key","_law_text_here"]) λ_ _ _ _ _ _ us hl=>lY (λ_ _ _ _=>rfl) us hl
 have bU:=DU.F.binds (ps:=["_law_plain","_law_way","_law_key","_law_text_here"]) λ_ _ _ _ _ _ us hl=>lY (λ_ _ _ _=>rfl) us hl
 have bS:=DS.F.binds (ps:=["_law_house","_law_plain","_law_keys_here","_law_number_here","_law_held"]) λ_ _ _ _ _ _ us hl=>x6 (λ_ _ _ _ _=>rfl) us hl
 have bB:=DB.F.binds (ps:=["_law_house","_law_number_here"]) λ_ _ _ _ _ _ us hl=>eO (λ_ _=>rfl) us hl
 have bG:=DG.F.binds (ps:=["_law_house","_law_plain","_law_key"]) λ_ _ _ _ _ _ us hl=>jD (λ_ _ _=>rfl) us hl
 have aV:=FHI.binds (ps:=["self"]) λ_ _ _ _ _ _ us hl=>gD (λ_=>rfl) us hl
 refine D.F.ok ic (λvs H Q E h=>?_) (λcdv A outer s H vs Q E hr h=>?_)
 ·obtain⟨a,ns,rfl,_⟩:=h;rfl
 ·obtain⟨a,ns,rfl,hS,aq,kk⟩:=h;have hz:(sizeLine:Nat)=16777216:=Mt;refine⟨_,(cU (di (i:=1) ic.nd rfl (Mh rfl) (dw (GMe.mono (by decide)) hr rfl DMe.m DMe.F.kp bE .nil du (cP (dw (GNu.mono (by decide)) hr rfl DNu.m DNu.F.kp ay .nil du (cP (pv 0) (cP cX cQ))) cQ)))
   (cU (di (i:=2) ic.nd rfl (Mh rfl) (dw (GDe.mono (by decide)) hr rfl DDe.m DDe.F.kp bF .nil du (cP (pv 0) (cP cX (cP (pv 1) cQ)))))
   (cU (di (i:=3) ic.nd rfl (Mh rfl) (dw (GKe.mono (by decide)) hr rfl DKe.m DKe.F.kp bH .nil du (cP (dw (GNu.mono (by decide)) hr rfl DNu.m DNu.F.kp ay .nil du (cP (pv 0) (cP cX cQ))) (cP cX cQ))))
   (cU (di (i:=4) ic.nd rfl (Mh rfl) (dZ (cP (y1 MH (GHI.mono (k:=14) (by decide)) hr rfl HC.mgC aV .nil du) (cP (y1 MH (GHI.mono (k:=14) (by decide)) hr rfl HC.mgC aV .nil du) cQ))))
   (cU (di (i:=5) ic.nd rfl (Mh rfl) (dZ (cP jV (cP jV cQ))))
   (cU (di (i:=6) ic.nd rfl (Mh rfl) (dZ cQ))
   (cU (fx MK rfl (iO rfl T.range (cP (dR gZ rfl T.len gf (cP (pv 2) cQ)) cQ)) (dB (i:=7) ic.nd rfl (Mh rfl))
    (cU (Az (eB eY (pv 2) (pv 7) (λ_ _=>rfl)) (ir (n:=3) rfl (fe (dB (i:=8) ic.nd rfl (Mh rfl)) (fe (dB (i:=9) ic.nd rfl (Mh rfl)) (fe (dB (i:=10) ic.nd rfl (Mh rfl)) il)))))
    (cU (fx MK rfl (iO rfl T.range (cP (de eP cX (de eR (pv 7) cX)) cQ)) (dB (i:=11) ic.nd rfl (Mh rfl))
     (cY (dP (dU (nK (K:=K) rfl hr.units100) (dw (GA.mono (by decide)) hr rfl DA.m DA.F.kp bA .nil du (cP (eB eY (pv 4) (pv 11) (λ_ _=>rfl)) (cP (pv 8) (cP (pv 9) (cP (pv 10) cQ))))) (dw (GU.mono (by decide)) hr rfl DU.m DU.F.kp bU .nil du (cP (eB eY (pv 5) (pv 11) (λ_ _=>rfl)) (cP (pv 8) (cP (pv 9) (cP (pv 10) cQ))))) (dH _)) (cY (dg fN)) dO)))
    (cU (di (i:=12) ic.nd rfl (Mh rfl) (dw (GNu.mono (by decide)) hr rfl DNu.m DNu.F.kp ay .nil du (cP (pv 0) (cP (de eP cX (pv 7)) cQ))))
    (cY (fx MK rfl (eZ (eB eY (dZ (cP (dZ (cP cX (cP cX cQ))) (cP (dZ (cP cX (cP cX cQ))) cQ))) (de eR (pv 12) cX) (λ_ _=>rfl))) (dB (i:=11) ic.nd rfl (Mh rfl))
     (cY (dP (f9 (fM (dw GS hr rfl DS.m DS.F.kp bS .nil du (cP (eB eY (pv 4) (pv 11) (λ_ _=>rfl)) (cP (eB eY (pv 5) (pv 11) (λ_ _=>rfl)) (cP (pv 3) (cP (de eP (de gz (pv 12) cX) (pv 11)) (cP (pv 6) cQ)))))))) (cY (dg fN)) dO))))))))
   (cU (di (i:=12) ic.nd rfl (Mh rfl) (dw (GNu.mono (by decide)) hr rfl DNu.m DNu.F.kp ay .nil du (cP (pv 0) (cP cX cQ))))
   (cU (dP (PW.pt (iw (f9 (fM (dw (GB.mono (by decide)) hr rfl DB.m DB.F.kp bB .nil du (cP (eB eY (pv 4) cX (λ_ _=>rfl)) (cP (pv 12) cQ)))))
    (jc (f9 (fM (dw (GG.mono (by decide)) hr rfl DG.m DG.F.kp bG .nil du (cP (eB eY (pv 4) cX (λ_ _=>rfl)) (cP (eB eY (pv 5) cX (λ_ _=>rfl)) (cP (eB eY (pv 3) (de eR (de gz (pv 12) cX) cX) (λ_ _=>rfl)) cQ))))))))) (cY (dg fN)) dO)
   (cU (fx MK rfl (iO rfl T.range (cP cX cQ)) (dB (i:=11) ic.nd rfl (Mh rfl))
     (cY (dP (f9 (fM (dw GS hr rfl DS.m DS.F.kp bS .nil du (cP (eB eY (pv 4) (pv 11) (λ_ _=>rfl)) (cP (eB eY (pv 5) (pv 11) (λ_ _=>rfl)) (cP (pv 3) (cP (de jg cX (pv 11)) (cP (pv 6) cQ)))))))) (cY (dg fN)) dO)))
   (cY (dg (dR (nG rfl) rfl T.all oM (cP (PE.imp (t':=Lm) (fP (own:=2) (caps:=[]) (N:=["_law_found","_law_shown"]) (N0:=BZ) (sc0:=c9 jf) rfl (eZ (pv 6))
     (λ_ _ _=>ir (n:=2) rfl (fe (dB (i:=0) Bm rfl (Mh rfl)) (fe (dB (i:=1) Bm rfl (Mh rfl)) il))) (λ_ _ _=>fF) (λ_ _ _=>jq fV (jw (Dc (K:=K) rfl (k:=15) hr (by decide)) rfl T.str xV (cP (pv 0) cQ)) (pv 1) (dH _)) (oO (iX (eM (by decide)) (iX (eM (by decide)) nB))) rfl rfl
     dkq rfl dkq dkq rfl dkq) ?mS) cQ)))))))))))))),?_⟩
  case mS=>
   rintro σ H1 Q1 ⟨hl,hs,h6,hh,hH,h5,q⟩;refine⟨_,h6,hl,rfl,⟨_,cS.of hh⟩,gC (xs:=hs) (λi ys H'=>H'=H1/\ys=(ND i true).map V.bl) (by lia) (λi ys H' e=>by rw[e.1];exact cS.of hh) ⟨rfl,rfl⟩ ?_ ?_⟩
   ·rintro i v ys H' N hv ⟨rfl,rfl⟩ hN;obtain⟨p,l,d,rfl,hp,hS,hd⟩:=(hH v (List.mem_of_getElem? hv)).dt (K:=K);refine⟨p,_,rfl,dY.of hp,rfl,_,_,rfl,_,_,rfl,rfl,?_⟩;refine FZ ?_;refine⟨_,rfl,l,d,rfl,hd,hS.s,hS.n,hS.p,hS.l,_,rfl,rfl,hN _ _ ⟨rfl,?_⟩⟩;rw[Qj,Mf];show _++[V.bl (decide (V.str d.shown=V.str d.shown))]=_;rw[Mb rfl];rfl
   ·rintro ys H' ⟨rfl,rfl⟩ _ l aW;exact q l aW
  refine xj λR1 bI=>?_
  refine⟨_,rfl,a,ns,0,rfl,hS,aq,by decide,λr0 H1 _ _ s1=>?_⟩;refine⟨r0,rfl,λml H2 ws s2 bJ h5 aX=>?_⟩;have aY:=s1.trans s2;refine iB (R:=R1) bI λR2 bK=>?_
  refine⟨_,rfl,_,rfl,a,ml,ns,ws,1,rfl,by decide,aY.seq hS,aq,bJ,by lia,aX,λdl xs ds H3 s3 cy aI bL aj ar=>?_⟩;have aZ:=aY.trans s3;refine iB (R:=R2) bK λR3 bM=>?_
  refine⟨_,rfl,a,ns,1,rfl,aZ.seq hS,aq,by decide,λr1 H4 bN _ s4=>⟨r1,9,rfl,bN,by decide,λkl ks H5 s5 a0 a3 au ak=>?_⟩⟩;have bO:=aZ.trans (s4.trans s5);have a4:=s5 _ _ (s4 _ _ aI);have bP:=(bL.same s4).same s5;have cz:kl≠dl:=λz=>by rw[z,s4 _ _ aI] at a0;cases a0
  refine iB (R:=R3) bM λR4 bQ=>?_
  intro x1 az bR a5 cv;refine⟨x1,az,rfl,cT,λa6 a7=>⟨rfl,?_⟩⟩;obtain⟨aA,_⟩:=xW (C:=C) (CH:=CH) bR a5 a7;generalize upd (upd (upd (upd H5 az (.own x1)) x1 (.ins CH az [])) a6 (.lst [])) x1 (.ins CH az (gj a6))=H6 at aA ⊢;intro x2 av aM a8 cw;refine⟨x2,av,rfl,cT,λaN a9=>⟨rfl,?_⟩⟩;obtain⟨ba,bb,bc,bf⟩:=xW (C:=C) (CH:=CH) aM a8 a9;generalize upd (upd (upd (upd H6 av (.own x2)) x2 (.ins CH av [])) aN (.lst [])) x2 (.ins CH av (gj aN))=H7 at ba bc bf ⊢;obtain⟨L6,bT,bg,n6,_⟩:=aA.ext ba.s;have w7:W2 C CH H5 H7 x1 [] x2 []:=W2.mk' HC.ne bg bT ⟨aN,av,[],n6 _ _ aM bc,n6 _ _ bb bf,aA.s.free bb,aA.s.free aM,.nil⟩;refine⟨(by show 2<=sizeLine;lia),λhb bh=>?_⟩;have sb:=da bh (o:= .lst [.ref x1,.ref x2]);have eb:upd H7 hb (.lst [.ref x1,.ref x2]) hb=some (.lst [.ref x1,.ref x2]):=cT;generalize upd H7 hb _=H8 at sb eb ⊢;refine iB (R:=R4) bQ λR5 bV=>?_
  intro d1 aB;have af:=da aB (o:= .dK []);have aC:upd H8 d1 (.dK []) d1=some (.dK []):=cT;generalize upd H8 d1 _=H9 at af aC ⊢;intro d2 hd2;have ah:=da hd2 (o:= .dK []);have aO:upd H9 d2 (.dK []) d2=some (.dK []):=cT;have bW:d1≠d2:=dF aC hd2;generalize upd H9 d2 _=Ha at ah aO ⊢;refine⟨(by show 2<=sizeLine;lia),λpl aD=>?_⟩;have sp:=da aD (o:= .lst [.ref d1,.ref d2]);have ep:upd Ha pl (.lst [.ref d1,.ref d2]) pl=some (.lst [.ref d1,.ref d2]):=cT;generalize upd Ha pl _=Hb at sp ep ⊢;refine iB (R:=R5) bV λR6 bX=>?_
  refine⟨MM _,λhl aw=>?_⟩;have sh:=da aw (o:= .lst []);have eh:upd Hb hl (.lst []) hl=some (.lst []):=cT;generalize upd Hb hl _=Hc at sh eh ⊢;have bj:=af.trans (ah.trans (sp.trans sh));have bY:=sb.trans bj;obtain⟨Lc,bZ,wc,nc⟩:=w7.ext HC.ne bY;have f5:∀{b:LS} {o:HO},H5 b=some o->Lc b=some o/\b≠d1/\b≠d2/\b≠hl:=λ{b o} e=>by
   have e7:=sb _ _ (w7.s _ _ e);exact⟨bZ _ _ e,dF e7 aB,dF (af _ _ e7) hd2,dF (sp _ _ (ah _ _ (af _ _ e7))) aw⟩
  have aE:cR H5 (Gx Lc d1 d2 hl):=λb o e=>vP (f5 e).1 (f5 e).2.1 (f5 e).2.2.1 (f5 e).2.2.2
  have ae:Gx Lc d1 d2 hl hb=some (.lst [.ref x1,.ref x2]):=vP (nc _ _ bh (bj _ _ eb)) (dF eb aB) (dF (af _ _ eb) hd2) (dF (sp _ _ (ah _ _ (af _ _ eb))) aw)
  have bo:∀{b:LS},Ha b=none->H7 b=none:=λ{b} e=>(sb.trans (af.trans ah)).free e
  have ag:Gx Lc d1 d2 hl pl=some (.lst [.ref d1,.ref d2]):=vP (nc _ _ (bo aD) (sh _ _ ep)) (Nt (dF (ah _ _ aC) aD)) (Nt (dF aO aD)) (dF ep aw)
  have z0:Zs C CH Lc Hc x1 d1 [] [] x2 d2 [] [] kl hl ks []:=⟨wc,nc _ _ (sb.free aB) (sh _ _ (sp _ _ (ah _ _ aC))),nc _ _ (sb.free (af.free hd2)) (sh _ _ (sp _ _ aO)),(f5 a3).1,nc _ _ (bo (sp.free aw)) eh,(λv hv=>nomatch hv),bW,Nt (f5 a3).2.2.2⟩
  have hG:cR (Gx Lc d1 d2 hl) Lc:=λb o e=>(AS e).2
  have gn:∀{b:LS} {o:HO},Gx Lc d1 d2 hl b=some o->b≠d1/\b≠d2/\b≠hl:=λe=>(AS e).1
  generalize Gx Lc d1 d2 hl=G at aE ae ag hG gn;have bp:=aE _ _ a4;have bq:=bP.same aE;have br:cS K G a (ns.map V.int):=(bO.trans aE).seq hS;have b0:=Gn.Paired.len bq;have hu:(pres ws++[LU "new",LU "b"]).length<64:=by rw[Md,KZ,h5];decide
  have ao:∀ d∈ds,d.1∈g8/\dA 12 (.str d.2.1)=true/\dX (.str d.2.2)=true/\(∀ x∈tw d.2.2,x∈pres ws++[LU "new",LU "b"])/\(tw d.2.2).length<=90:=λd hd=>
   ⟨ES (ar d hd).1,(ar d hd).2.1,Dn (ar d hd).2.2.d,λx hx=>MX _ ((ar d hd).2.2.r.pres aX x hx),(ar d hd).2.2.l⟩
  have hU:Un (pres ws++[LU "new",LU "b"]) (ds.map mC):=⟨λp hp=>by
   obtain⟨d,hd,rfl⟩:=List.mem_map.mp hp;exact⟨⟨(ao d hd).2.1,(ao d hd).2.2.1⟩,(ao d hd).2.2.2.1,(ao d hd).2.2.2.2⟩,by rw[LV];lia⟩
  have bt:∀ x∈tw (LU "new b"),x∈pres ws++[LU "new",LU "b"]:=λx hx=>MA _ (by rw[show tw (LU "new b")=[LU "new",LU "b"] by decide +kernel] at hx;exact hx)
  generalize pres ws++[LU "new",LU "b"]=us at hu ao hU bt;have bu:Hk ds 0 []:=⟨hU.ok hu (OD _) NK (by decide),OD _,Ma _⟩;refine iB (R:=R6) bX λR7 b1=>?_
  refine⟨_,rfl,dl,xs,rfl,.inl (cS.of (z0.w.s _ _ (hG _ _ bp))),_,rfl,by lia,by lia,?_⟩;refine mm (λi σ H'=>∃(L:Hp) (p1 p2:LR (LR (Str×Str))) (hs:LR V) (o7 o8 o9 aF J aG:Mc V),σ=[some (.ref a),some (.ref ml),some (.ref dl),some (.ref kl),some (.ref hb),some (.ref pl),some (.ref hl),o7,o8,o9,aF,J,aG]/\cR G L/\Zs C CH L H' x1 d1 p1 p1.flatten x2 d2 p2 p2.flatten kl hl ks hs/\Hk ds i p1/\Hk ds i p2/\hs.length<=12*i)
   ⟨Lc,[],[],[],none,none,none,none,none,none,rfl,hG,z0,bu,bu,Ma _⟩ ?_ ?_
  ·rintro i σ H' hi ⟨L,p1,p2,hs,o7,o8,o9,aF,J,aG,rfl,I,z,k1,k2,bw⟩;rw[NF] at hi;obtain⟨v,hv⟩:∃ v,xs[i]? =some v:=⟨_,List.getElem?_eq_getElem hi⟩;obtain⟨d,hd,q,rfl,hq⟩:=fX bq hv;obtain⟨hw,aa,ab,_,_⟩:=ao d (List.mem_of_getElem? hd);have aJ:=Bi ab;refine⟨_,rfl,_,rfl,dl,xs,_,.ref q,rfl,rfl,cS.of (z.w.s _ _ (I _ _ bp)),by rw[Oj];exact dS hv,q,_,rfl,dY.of (z.w.s _ _ (I _ _ hq)),rfl,_,_,rfl,_,_,rfl,_,_,rfl,rfl,?_⟩;refine⟨_,rfl,_,_,rfl,rfl,(by show(0:Int)<2;decide),_,_,rfl,rfl,_,rfl,by lia,by lia,?_⟩;refine mm (λj σ H'=>∃(L:Hp) (p1 p2:LR (LR (Str×Str))) (J:Mc V),σ=[some (.ref a),some (.ref ml),some (.ref dl),some (.ref kl),some (.ref hb),some (.ref pl),some (.ref hl),some (.int (0+(i:Int))),some (.str d.1),some (.str d.2.1),some (.str d.2.2),J,aG]/\cR G L/\Zs C CH L H' x1 d1 p1 p1.flatten x2 d2 p2 p2.flatten kl hl ks hs/\Hk ds (if 1<=j then i+1 else i) p1/\Hk ds (if 2<=j then i+1 else i) p2)
    ⟨L,p1,p2,_,rfl,I,z,k1,k2⟩ ?_ ?_
   ·rintro j σ H2 hj ⟨L,p1,p2,J,rfl,I,z,k1,k2⟩;rcases(by lia:j=0\/j=1) with rfl|rfl
    ·rw[LX (by decide)] at k1 k2;refine⟨_,rfl,_,rfl,hb,_,_,.ref x1,rfl,rfl,cS.of (z.w.s _ _ (I _ _ ae)),by rw[Oj];exact dS rfl,_,rfl,_,rfl,_,rfl,?_⟩;refine z.ans (E:=E0) HC.ne k1.ok hw aa aJ (k1.put hu hU hd) ?_;intro v1 L1 H3 s1 z1 r1;rw[xg hw aa ab] at r1;refine⟨_,rfl,_,rfl,pl,_,_,.ref d1,rfl,rfl,cS.of (z1.w.s _ _ (s1 _ _ (I _ _ ag))),by rw[Oj];exact dS rfl,_,rfl,_,rfl,_,rfl,?_⟩;refine z1.due (E:=E0) HC.ne k1.ok.n (Mr k1.ok.p (by decide)) hw ?_;intro v2 L2 H4 kp z2 r2 kr;have lay:=Res.lay (yP (way:=d.1) (k:=d.2.1) k1.ok);refine⟨_,_,(kr _ _ r1).dt,r2.dt,lay,lay,Mr (Ou _ _) (Res.dep _),_,rfl,?_⟩;rw[jG lay];rw[<-ny hw aa ab] at z2;exact df ⟨L2,_,p2,_,rfl,λb o e=>kp _ _ (gn e).1 (s1 _ _ (I _ _ e)),z2,k1.step hu hU hd hw aa ab,k2⟩
    ·rw[LZ (by decide)] at k1;rw[LX (by decide)] at k2;refine⟨_,rfl,_,rfl,hb,_,_,.ref x2,rfl,rfl,cS.of (z.w.s _ _ (I _ _ ae)),by rw[Oj];exact dS rfl,_,rfl,_,rfl,_,rfl,?_⟩;refine z.swap.ans (E:=E0) HC.ne k2.ok hw aa aJ (k2.put hu hU hd) ?_;intro v1 L1 H3 s1 z1 r1;rw[xg hw aa ab] at r1;refine⟨_,rfl,_,rfl,pl,_,_,.ref d2,rfl,rfl,cS.of (z1.w.s _ _ (s1 _ _ (I _ _ ag))),by rw[Oj];exact dS rfl,_,rfl,_,rfl,_,rfl,?_⟩;refine z1.due (E:=E0) HC.ne k2.ok.n (Mr k2.ok.p (by decide)) hw ?_;intro v2 L2 H4 kp z2 r2 kr;have lay:=Res.lay (yP (way:=d.1) (k:=d.2.1) k2.ok);refine⟨_,_,(kr _ _ r1).dt,r2.dt,lay,lay,Mr (Ou _ _) (Res.dep _),_,rfl,?_⟩;rw[jG lay];rw[<-ny hw aa ab] at z2;exact df ⟨L2,p1,_,_,rfl,λb o e=>kp _ _ (gn e).2.1 (s1 _ _ (I _ _ e)),z2.swap,k1,k2.step hu hU hd hw aa ab⟩
   ·rintro σ H2 ⟨L,p1,p2,J,rfl,I,z,k1,k2⟩;rw[LZ (by lia)] at k1
    replace k2:Hk ds (i+1) p2:=by
     split at k2
     ·exact k2
     ·exact k2.mono
    refine⟨_,rfl,_,rfl,_,_,rfl,rfl,a,ns,30+i,Nl (λz=>[V.ref a,V.int z]) (show(30:Int)+(0+(i:Int))=((30+i:Nat):Int) by lia),(I.trans z.w.s).seq br,aq,by lia,λr H3 r0 _ s3=>?_⟩;obtain⟨L3,b2,z3,n3⟩:=z.ext HC.ne s3;have aP:=I.trans b2;refine⟨(by show 2<=sizeLine;lia),?_⟩;intro q1 aH;refine⟨(by show 2<=sizeLine;lia),?_⟩;intro q2 aQ;refine⟨(by show 2<=sizeLine;lia),?_⟩;intro q3 aR;have sq:=cR.upd (cR.upd (da aH (o:= .lst [.int 0,.int 1])) aQ (o:= .lst [.int 1,.int 0])) aR (o:= .lst [.ref q1,.ref q2]);have e1:=da aR (o:= .lst [.ref q1,.ref q2]) _ _ (da aQ (o:= .lst [.int 1,.int 0]) q1 (.lst [.int 0,.int 1]) cT);have e2:=da aR (o:= .lst [.ref q1,.ref q2]) q2 (.lst [.int 1,.int 0]) cT;have e3:upd (upd (upd H3 q1 (.lst [.int 0,.int 1])) q2 (.lst [.int 1,.int 0])) q3 (.lst [.ref q1,.ref q2]) q3=some (.lst [.ref q1,.ref q2]):=cT;generalize upd (upd (upd H3 q1 _) q2 _) q3 _=H4 at sq e1 e2 e3 ⊢;have aK:H3 q2=none:=(da aH (o:= .lst [.int 0,.int 1])).free aQ;obtain⟨L4,b3,z4,n4⟩:=z3.ext HC.ne sq;have b4:=aP.trans b3;obtain⟨qq,sd,b5,nq,bx,b6,b7⟩:∃(qq:LS) (sd:LR Nat),iT [V.ref q1,.ref q2] (r%2)=some (.ref qq)/\qq≠hl/\L4 qq=some (.lst (nl sd))/\sd.length=2/\∀ s∈sd,s=0\/s=1:=by
     rcases(by lia:r%2=0\/r%2=1) with h|h
     ·exact⟨q1,[0,1],by rw[h];exact dS (j:=0) rfl,Nt (dF (z3.w.s _ _ z3.l) aH),n4 _ _ aH e1,rfl,by simp⟩
     ·exact⟨q2,[1,0],by rw[h];exact dS (j:=1) rfl,Nt (dF (z3.w.s _ _ z3.l) aK),n4 _ _ aK e2,rfl,by simp⟩
    refine⟨_,rfl,r,2,rfl,rfl,(by show(0:Int)<2;decide),q3,_,_,.ref qq,rfl,rfl,cS.of e3,b5,qq,rfl,⟨_,cS.of (z4.w.s _ _ bx)⟩,?_⟩;refine iW (xs:=nl sd) (λj σ H'=>∃(L:Hp) (U:LR V) (J:Mc V),σ=[some (.ref a),some (.ref ml),some (.ref dl),some (.ref kl),some (.ref hb),some (.ref pl),some (.ref hl),some (.int (0+(i:Int))),some (.str d.1),some (.str d.2.1),some (.str d.2.2),J,some (.int r)]/\cR G L/\L qq=some (.lst (nl sd))/\Zs C CH L H' x1 d1 p1 p1.flatten x2 d2 p2 p2.flatten kl hl ks U/\U.length<=hs.length+6*j)
     ⟨L4,hs,_,rfl,b4,bx,z4,Ma _⟩ ?_ ?_ ?_
    ·rintro j σ H' _ ⟨L,U,_,_,_,hq,z,_⟩;exact cS.of (z.w.s _ _ hq)
    ·rintro j v σ H' hv ⟨L,U,J,rfl,I,aS,z,hle⟩;obtain⟨s,ax,rfl⟩:=jx hv;have cA:j<sd.length:=(List.getElem?_eq_some_iff.mp ax).1;have b8:=k1.le aj;have b9:=k2.le aj;rcases b7 s (List.mem_of_getElem? ax) with rfl|rfl
     ·refine⟨_,rfl,_,rfl,hb,_,_,.ref x1,rfl,rfl,cS.of (z.w.s _ _ (I _ _ ae)),dS (j:=0) rfl,_,rfl,_,rfl,pl,_,_,.ref d1,rfl,rfl,cS.of (z.w.s _ _ (I _ _ ag)),dS (j:=0) rfl,_,rfl,_,rfl,_,_,rfl,rfl,⟨by decide,by decide⟩,_,rfl,_,_,rfl,rfl,_,rfl,?_⟩;refine tn ?_;refine z.stands (n:=r/2+((0:Nat):Int)) (E:=E0) HC.ne k1.ok (by lia) au ak.g (by lia) (by lia) ?_;intro ai L2 H5 z2 kp cb;exact⟨_,rfl,df ⟨L2,ai,_,rfl,λb o e=>kp _ _ (gn e).2.2 (I _ _ e),kp _ _ nq aS,z2,by lia⟩⟩
     ·refine⟨_,rfl,_,rfl,hb,_,_,.ref x2,rfl,rfl,cS.of (z.w.s _ _ (I _ _ ae)),dS (j:=1) rfl,_,rfl,_,rfl,pl,_,_,.ref d2,rfl,rfl,cS.of (z.w.s _ _ (I _ _ ag)),dS (j:=1) rfl,_,rfl,_,rfl,_,_,rfl,rfl,⟨by decide,by decide⟩,_,rfl,_,_,rfl,rfl,_,rfl,?_⟩;refine tn ?_;refine z.swap.stands (n:=r/2+((1:Nat):Int)) (E:=E0) HC.ne k2.ok (by lia) au ak.g (by lia) (by lia) ?_;intro ai L2 H5 z2 kp cb;exact⟨_,rfl,df ⟨L2,ai,_,rfl,λb o e=>kp _ _ (gn e).2.2 (I _ _ e),kp _ _ nq aS,z2.swap,by lia⟩⟩
    ·rintro σ H' ⟨L,U,J,rfl,I,aS,z,hle⟩;rw[fD,b6] at hle;exact⟨L,p1,p2,U,_,_,_,_,_,_,rfl,I,z,k1,k2,by lia⟩
  ·rintro σ H' ⟨L,p1,p2,hs,o7,o8,o9,aF,J,aG,rfl,I,z,k1,k2,bw⟩;rw[NF,b0] at k1 k2 bw;have b8:=k1.le aj;have b9:=k2.le aj;refine iB (R:=R7) b1 λR8 cc=>?_
   refine⟨_,rfl,a,ns,60,rfl,(I.trans z.w.s).seq br,aq,by decide,λr cB r0 _ cf=>?_⟩;obtain⟨L1,cg,z1,_⟩:=z.ext HC.ne cf;have bz:=I.trans cg;refine iB (R:=R8) cc λR9 cj=>?_
   refine⟨_,rfl,hb,_,_,.ref x1,rfl,rfl,cS.of (z1.w.s _ _ (bz _ _ ae)),dS (j:=0) rfl,_,rfl,?_⟩;refine tn ?_;refine z1.bad (n:=r) (E:=E0) HC.ne k1.ok ?_;intro L2 cC z2 ck;have aT:=bz.trans ck;obtain⟨key,aL,ek⟩:=lB (ss:=ks) (n:=r/60) (L:=9) (by lia) (by rw[au];rfl);refine⟨_,rfl,df ⟨_,rfl,hb,_,_,.ref x1,rfl,rfl,cS.of (z2.w.s _ _ (aT _ _ ae)),dS (j:=0) rfl,_,rfl,pl,_,_,.ref d1,rfl,rfl,cS.of (z2.w.s _ _ (aT _ _ ag)),dS (j:=0) rfl,_,rfl,_,rfl,_,_,rfl,rfl,⟨by decide,by decide⟩,_,_,rfl,rfl,(by show(0:Int)<9;decide),kl,_,_,.str key,rfl,rfl,cS.of (z2.w.s _ _ z2.k),ek,?_⟩⟩;have cm:Un us (ds.map mC++[(key,LU "new b")]):=⟨λp hp=>(List.mem_append.mp hp).elim (hU.g p) λh=>by
    rw[List.mem_singleton.mp h];exact⟨⟨ak.g key aL,(by decide +kernel:dX (.str (LU "new b"))=true)⟩,bt,(by decide +kernel:(tw (LU "new b")).length<=90)⟩,by rw[Md,LV];show ds.length+1<=14;lia⟩;refine tn ?_;refine z2.again (E:=E0) HC.ne k1.ok (ak.g key aL) (λbC hf cD=>?_) (by have:=k1.l;lia) ?_
   ·have ax:bC.flatten.Sublist p1.flatten:=by rw[hf];exact QA
    exact cm.ok hu (by rw[rP];exact(ax.trans (k1.s.trans ((Q4 _ _).map _))).append (N3 _)) (zl ((ax.map _).nodup k1.ok.n) (by unfold keysOf;rw[hf];exact xZ)) (by rw[Md];have:=k1.l;show bC.length+1<=90;lia)
   intro p3 L3 cE z3 kp cn cF;refine⟨_,rfl,df ?_⟩;have aP:cR G L3:=λb o e=>kp _ _ (gn e).1 (aT _ _ e)
   refine iB (R:=R9) cj λcq bD=>?_
   refine⟨2,rfl,by decide,by decide,?_⟩;refine mm (λj σ H'=>∃(L:Hp) (U:LR V) (J:Mc V),σ=[some (.ref a),some (.ref ml),some (.ref dl),some (.ref kl),some (.ref hb),some (.ref pl),some (.ref hl),o7,o8,o9,aF,J,some (.int r)]/\cR G L/\Zs C CH L H' x1 d1 p3 p3.flatten x2 d2 p2 p2.flatten kl hl ks U/\U.length<=hs.length+6*j)
    ⟨L3,hs,_,rfl,aP,z3,Ma _⟩ ?_ ?_
   ·rintro j σ H' hj ⟨L,U,J,rfl,I,z,hle⟩;have cG:j<2:=hj;rcases(by lia:j=0\/j=1) with rfl|rfl
    ·refine⟨_,rfl,_,rfl,hb,_,_,.ref x1,rfl,rfl,cS.of (z.w.s _ _ (I _ _ ae)),by rw[Oj];exact dS rfl,_,rfl,_,rfl,pl,_,_,.ref d1,rfl,rfl,cS.of (z.w.s _ _ (I _ _ ag)),by rw[Oj];exact dS rfl,_,rfl,_,rfl,_,_,rfl,rfl,.inl ⟨by decide,by decide⟩,_,rfl,?_⟩;refine tn ?_;refine z.stands (n:=60*(0+((0:Nat):Int))) (E:=E0) HC.ne cn (by lia) au ak.g (by decide) (by lia) ?_;intro ai L4 H5 z4 aU cu;exact⟨_,rfl,df ⟨L4,ai,_,rfl,λb o e=>aU _ _ (gn e).2.2 (I _ _ e),z4,by lia⟩⟩
    ·refine⟨_,rfl,_,rfl,hb,_,_,.ref x2,rfl,rfl,cS.of (z.w.s _ _ (I _ _ ae)),by rw[Oj];exact dS rfl,_,rfl,_,rfl,pl,_,_,.ref d2,rfl,rfl,cS.of (z.w.s _ _ (I _ _ ag)),by rw[Oj];exact dS rfl,_,rfl,_,rfl,_,_,rfl,rfl,.inl ⟨by decide,by decide⟩,_,rfl,?_⟩;refine tn ?_;refine z.swap.stands (n:=60*(0+((1:Nat):Int))) (E:=E0) HC.ne k2.ok (by lia) au ak.g (by decide) (by lia) ?_;intro ai L4 H5 z4 aU cu;exact⟨_,rfl,df ⟨L4,ai,_,rfl,λb o e=>aU _ _ (gn e).2.2 (I _ _ e),z4.swap,by lia⟩⟩
   ·rintro σ H' ⟨L,U,J,rfl,I,z,hle⟩;have cx:U.length<=hs.length+6*2:=hle;refine uH (R:=cq) bD ?_;refine⟨hl,U,rfl,z.w.s _ _ z.l,λv hv=>(z.v v hv).keep z.l λa o _ _ e=>z.w.s _ _ e,by lia,λl aW=>⟨l,_,rfl,cS.of cT,?_⟩⟩;have e:(ND U.length true).all id=true:=List.all_eq_true.mpr λb h=>Py h
    rw[e];exact kk _
end
section
variable {P : Mq} {w : MT} {K : Mz} {mg : Str -> Mc LW} {base h : Nn} {CK CT C2 CN C0 CW CA C CH : LS}
theorem Gs(X:K.In h)(G:h.Ns Mw mg){t0 t1 t2 t3 t4 t5 t6:Tok}
  (n0:N6 K Mw "isinstance"=some none)
  (n1:N6 K Mw "int"=some none)
  (n2:N6 K Mw "bool"=some none)
  (n3:N6 K Mw "str"=some none)
  (n4:N6 K Mw "list"=some none)
  (n5:N6 K Mw "tuple"=some none)
  (n6:N6 K Mw "len"=some none)
  (n7:N6 K Mw "all"=some none)
  (n8:N6 K Mw "ord"=some none)
  (n9:N6 K Mw "range"=some none)
  (n10:N6 K Mw "enumerate"=some none)
  (n11:N6 K Mw "sorted"=some none)
  (n12:N6 K Mw "ValueError"=some none)
  (c0:N6 K Mw "MOST_TEXT_SIGNS"=some (some (.int 2000 t0)))
  (c1:N6 K Mw "MOST_KEY_SIGNS"=some (some (.int 12 t1)))
  (c2:N6 K Mw "MOST_WORD_SIGNS"=some (some (.int 2000 t2)))
  (c3:N6 K Mw "SMALL_SIGNS"=some (some (.str "abcdefghijklmnopqrstuvwxyz0123456789" t3)))
  (c4:N6 K Mw "PERCENT_NUMBER"=some (some (.int 37 t4)))
  (c5:N6 K Mw "GREATEST_PART"=some (some (.int 255 t5)))
  (c6:N6 K Mw "MORE_COMES"=some (some (.int 128 t6)))
  :Txt mg where
 isi:=N1 X G n0
 int:=N1 X G n1
 bool:=N1 X G n2
 str:=N1 X G n3
 list:=N1 X G n4
 tuple:=N1 X G n5
 len:=N1 X G n6
 all:=N1 X G n7
 ord:=N1 X G n8
 range:=N1 X G n9
 enum:=N1 X G n10
 sorted:=N1 X G n11
 val:=N1 X G n12
 cText:=⟨t0,Oa X G c0⟩
 cKey:=⟨t1,Oa X G c1⟩
 cWord:=⟨t2,Oa X G c2⟩
 cSmall:=⟨t3,Oa X G c3⟩
 cPer:=⟨t4,Oa X G c4⟩
 cGreat:=⟨t5,Oa X G c5⟩
 cMore:=⟨t6,Oa X G c6⟩
noncomputable def vy(K:Mm)(mg:Str->Mc LW):Prop:=∃ CK CT C2 CN C0 CW CA,Ex K mg "BadKey" CK/\Ex K mg "BadText" CT/\Ex K mg "Twice" C2/\Ex K mg "BadNumber" CN/\Ex K mg "NoText" C0/\Ex K mg "BadWord" CW/\uh K mg CA C2 C0 CK CT CN/\Pl K (.ref C0) (.ref C0)=some true
theorem HI(X:K.In h)(G:h.Ns Mw mg)
  (a0:N6 K Mw "BadKey"=some (some (.ref CK)))
  (x0:QH K CK [.type "ValueError",.type "Exception",.type "BaseException",.type "object"] "ValueError.__new__"=true)
  (a1:N6 K Mw "BadText"=some (some (.ref CT)))
  (x1:QH K CT [.type "ValueError",.type "Exception",.type "BaseException",.type "object"] "ValueError.__new__"=true)
  (a2:N6 K Mw "Twice"=some (some (.ref C2)))
  (x2:QH K C2 [.type "ValueError",.type "Exception",.type "BaseException",.type "object"] "ValueError.__new__"=true)
  (a3:N6 K Mw "BadNumber"=some (some (.ref CN)))
  (x3:QH K CN [.type "ValueError",.type "Exception",.type "BaseException",.type "object"] "ValueError.__new__"=true)
  (a4:N6 K Mw "NoText"=some (some (.ref C0)))
  (x4:QH K C0 [.type "ValueError",.type "Exception",.type "BaseException",.type "object"] "ValueError.__new__"=true)
  (a5:N6 K Mw "BadWord"=some (some (.ref CW)))
  (x5:QH K CW [.type "ValueError",.type "Exception",.type "BaseException",.type "object"] "ValueError.__new__"=true)
  (aA:N6 K Mw "HallError"=some (some (.ref CA)))
  (hn:W.specialIn K (.builtin "object.__class__") "__get__"=some (some (.builtin "getset_descriptor.__get__")))
  (ht:W.takesIn K (.builtin "object.__class__")=some true)
  {cd0:ClassData}
  (cl0:W.clsIn K C2=some cd0)
  (ga0:MU K (.ref C2) "__getattribute__"=some (some (.builtin "BaseException.__getattribute__")))
  (hk0:MU K (.ref C2) "__getattr__"=some none)
  (ha0:MU K (.ref C2) "__class__"=some (some (.builtin "object.__class__")))
  (hm0:QZ K C2 (.type "object")=some true)
  (hb0:QZ K C2 (.type "BaseException")=some true)
  (q0_0:Ng K (.ref C2) (.ref C2)=some true)
  (q1_0:Ng K (.ref C2) (.ref C0)=some false)
  (q2_0:Ng K (.ref C2) (.ref CK)=some false)
  (q3_0:Ng K (.ref C2) (.ref CT)=some false)
  (q4_0:Ng K (.ref C2) (.ref CN)=some false)
  (v0:Ng K (.ref C2) (.type "ValueError")=some true)
  (e0:Pl K (.ref C2) (.ref CA)=some true)
  {cd1:ClassData}
  (cl1:W.clsIn K C0=some cd1)
  (ga1:MU K (.ref C0) "__getattribute__"=some (some (.builtin "BaseException.__getattribute__")))
  (hk1:MU K (.ref C0) "__getattr__"=some none)
  (ha1:MU K (.ref C0) "__class__"=some (some (.builtin "object.__class__")))
  (hm1:QZ K C0 (.type "object")=some true)
  (hb1:QZ K C0 (.type "BaseException")=some true)
  (q0_1:Ng K (.ref C0) (.ref C2)=some false)
  (q1_1:Ng K (.ref C0) (.ref C0)=some true)
  (q2_1:Ng K (.ref C0) (.ref CK)=some false)
  (q3_1:Ng K (.ref C0) (.ref CT)=some false)
  (q4_1:Ng K (.ref C0) (.ref CN)=some false)
  (v1:Ng K (.ref C0) (.type "ValueError")=some true)
  (e1:Pl K (.ref C0) (.ref CA)=some true)
  {cd2:ClassData}
  (cl2:W.clsIn K CK=some cd2)
  (ga2:MU K (.ref CK) "__getattribute__"=some (some (.builtin "BaseException.__getattribute__")))
  (hk2:MU K (.ref CK) "__getattr__"=some none)
  (ha2:MU K (.ref CK) "__class__"=some (some (.builtin "object.__class__")))
  (hm2:QZ K CK (.type "object")=some true)
  (hb2:QZ K CK (.type "BaseException")=some true)
  (q0_2:Ng K (.ref CK) (.ref C2)=some false)
  (q1_2:Ng K (.ref CK) (.ref C0)=some false)
  (q2_2:Ng K (.ref CK) (.ref CK)=some true)
  (q3_2:Ng K (.ref CK) (.ref CT)=some false)
  (q4_2:Ng K (.ref CK) (.ref CN)=some false)
  (v2:Ng K (.ref CK) (.type "ValueError")=some true)
  (e2:Pl K (.ref CK) (.ref CA)=some true)
  {cd3:ClassData}
  (cl3:W.clsIn K CT=some cd3)
  (ga3:MU K (.ref CT) "__getattribute__"=some (some (.builtin "BaseException.__getattribute__")))
  (hk3:MU K (.ref CT) "__getattr__"=some none)
  (ha3:MU K (.ref CT) "__class__"=some (some (.builtin "object.__class__")))
  (hm3:QZ K CT (.type "object")=some true)
  (hb3:QZ K CT (.type "BaseException")=some true)
  (q0_3:Ng K (.ref CT) (.ref C2)=some false)
  (q1_3:Ng K (.ref CT) (.ref C0)=some false)
  (q2_3:Ng K (.ref CT) (.ref CK)=some false)
  (q3_3:Ng K (.ref CT) (.ref CT)=some true)
  (q4_3:Ng K (.ref CT) (.ref CN)=some false)
  (v3:Ng K (.ref CT) (.type "ValueError")=some true)
  (e3:Pl K (.ref CT) (.ref CA)=some true)
  (ee:Pl K (.ref C0) (.ref C0)=some true)
  :vy K mg:=
 ⟨CK,CT,C2,CN,C0,CW,CA,⟨Oa X G a0,x0⟩,⟨Oa X G a1,x1⟩,⟨Oa X G a2,x2⟩,⟨Oa X G a3,x3⟩,⟨Oa X G a4,x4⟩,⟨Oa X G a5,x5⟩,⟨Oa X G aA,Oa X G a2,Oa X G a4,Oa X G a0,Oa X G a1,Oa X G a3,⟨⟨by rw[cl0];rfl,ga0,hk0,ha0,hn,ht,hm0,hb0⟩,q0_0,q1_0,q2_0,q3_0,q4_0,v0,e0⟩,⟨⟨by rw[cl1];rfl,ga1,hk1,ha1,hn,ht,hm1,hb1⟩,q0_1,q1_1,q2_1,q3_1,q4_1,v1,e1⟩,⟨⟨by rw[cl2];rfl,ga2,hk2,ha2,hn,ht,hm2,hb2⟩,q0_2,q1_2,q2_2,q3_2,q4_2,v2,e2⟩,⟨⟨by rw[cl3];rfl,ga3,hk3,ha3,hn,ht,hm3,hb3⟩,q0_3,q1_3,q2_3,q3_3,q4_3,v3,e3⟩⟩,ee⟩
noncomputable def Bk(K:Mm)(mg:Str->Mc LW):Prop:=∃ C CH:LS,gB K mg C/\gT K mg C CH/\(∃ f d,kK K "__init__" "Book.__init__" jA f d #[.none]/\L2.Mk K C f)/\(∃ f d,dv K "__init__" "House.__init__" lL f d/\L2.Mk K CH f)/\(∃ f d,dv K "many" "Book.many" i9 f d/\Meth K C "many" f)/\(∃ f d,dv K "need_own" "Book.need_own" lP f d/\Meth K C "need_own" f)/\(∃ f d,dv K "key_of" "Book.key_of" lr f d/\Meth K C "key_of" f)/\(∃ f d,dv K "text_of" "Book.text_of" jX f d/\Meth K C "text_of" f)/\(∃ f d,dv K "number_of" "Book.number_of" ku f d/\Meth K C "number_of" f)/\(∃ f d,dv K "words" "Book.words" lW f d/\Meth K C "words" f)/\(∃ f d,dv K "parts_of" "Book.parts_of" mF f d/\Meth K C "parts_of" f)/\(∃ f d,dv K "row_of" "Book.row_of" lH f d/\Meth K C "row_of" f)/\(∃ f d,dv K "total" "Book.total" mx f d/\Meth K C "total" f)/\(∃ f d,dv K "place_of" "House.place_of" jP f d/\Meth K CH "place_of" f)/\(∃ f d,dv K "has" "House.has" jJ f d/\Meth K CH "has" f)/\(∃ f d,dv K "put" "House.put" mv f d/\Meth K CH "put" f)/\(∃ f d,dv K "take" "House.take" k9 f d/\Meth K CH "take" f)/\(∃ f d,dv K "books" "House.books" kO f d/\Meth K CH "books" f)/\(∃ f d,dv K "shelves" "House.shelves" jK f d/\Meth K CH "shelves" f)/\(∃ f d,dv K "pour" "House.pour" mi f d/\Meth K CH "pour" f)/\(∃ f d,dv K "text" "House.text" md f d/\Meth K CH "text" f)/\(∃ f d,dv K "all_keys" "House.all_keys" kU f d/\Meth K CH "all_keys" f)/\(∃ f d,dv K "many" "House.many" lG f d/\Meth K CH "many" f)/\(∃ f d,dv K "total" "House.total" kA f d/\Meth K CH "total" f)
theorem Kf{fI T:LS}{odI anI tdI:Mc LS}{slI tslI:Nd (Mc LW)}{ocI kVI dcI pmI cdI ctI tcI:LW}{tnI:Nat}{fJ:LS}{odJ anJ:Mc LS}{slJ:Nd (Mc LW)}{ocJ kVJ dcJ pmJ cdJ ctJ:LW}{f0:LS}{od0 an0:Mc LS}{sl0:Nd (Mc LW)}{oc0 kV0 dc0 pm0 cd0 ct0:LW}{f1:LS}{od1 an1:Mc LS}{sl1:Nd (Mc LW)}{oc1 kV1 dc1 pm1 cd1 ct1:LW}{f2:LS}{od2 an2:Mc LS}{sl2:Nd (Mc LW)}{oc2 kV2 dc2 pm2 cd2 ct2:LW}{f3:LS}{od3 an3:Mc LS}{sl3:Nd (Mc LW)}{oc3 kV3 dc3 pm3 cd3 ct3:LW}{f4:LS}{od4 an4:Mc LS}{sl4:Nd (Mc LW)}{oc4 kV4 dc4 pm4 cd4 ct4:LW}{f5:LS}{od5 an5:Mc LS}{sl5:Nd (Mc LW)}{oc5 kV5 dc5 pm5 cd5 ct5:LW}{f6:LS}{od6 an6:Mc LS}{sl6:Nd (Mc LW)}{oc6 kV6 dc6 pm6 cd6 ct6:LW}{f7:LS}{od7 an7:Mc LS}{sl7:Nd (Mc LW)}{oc7 kV7 dc7 pm7 cd7 ct7:LW}{f8:LS}{od8 an8:Mc LS}{sl8:Nd (Mc LW)}{oc8 kV8 dc8 pm8 cd8 ct8:LW}{f20:LS}{od20 an20:Mc LS}{sl20:Nd (Mc LW)}{oc20 kV20 dc20 pm20 cd20 ct20:LW}{f21:LS}{od21 an21:Mc LS}{sl21:Nd (Mc LW)}{oc21 kV21 dc21 pm21 cd21 ct21:LW}{f22:LS}{od22 an22:Mc LS}{sl22:Nd (Mc LW)}{oc22 kV22 dc22 pm22 cd22 ct22:LW}{f23:LS}{od23 an23:Mc LS}{sl23:Nd (Mc LW)}{oc23 kV23 dc23 pm23 cd23 ct23:LW}{f24:LS}{od24 an24:Mc LS}{sl24:Nd (Mc LW)}{oc24 kV24 dc24 pm24 cd24 ct24:LW}{f25:LS}{od25 an25:Mc LS}{sl25:Nd (Mc LW)}{oc25 kV25 dc25 pm25 cd25 ct25:LW}{f26:LS}{od26 an26:Mc LS}{sl26:Nd (Mc LW)}{oc26 kV26 dc26 pm26 cd26 ct26:LW}{f27:LS}{od27 an27:Mc LS}{sl27:Nd (Mc LW)}{oc27 kV27 dc27 pm27 cd27 ct27:LW}{f28:LS}{od28 an28:Mc LS}{sl28:Nd (Mc LW)}{oc28 kV28 dc28 pm28 cd28 ct28:LW}{f29:LS}{od29 an29:Mc LS}{sl29:Nd (Mc LW)}{oc29 kV29 dc29 pm29 cd29 ct29:LW}{f30:LS}{od30 an30:Mc LS}{sl30:Nd (Mc LW)}{oc30 kV30 dc30 pm30 cd30 ct30:LW}
  (X:K.In h)(G:h.Ns Mw mg)
  (aC:N6 K Mw "Book"=some (some (.ref C)))
  (aI:MU K (.ref C) "__init__"=some (some (.ref fI)))
  (iI:Oy K (.ref fI)=true)
  (lI:K.lookup fI=some ⟨ocI,odI,.func (NN "__init__" "Book.__init__" (eU jA) (eG jA) (c9 jA) (.ref T) kVI dcI pmI anI cdI ctI),slI⟩)
  (cI:NA K cdI "Book.__init__"=true)
  (tI:K.lookup T=some ⟨tcI,tdI,.seq #[.none] tnI,tslI⟩)
  (a0:MU K (.ref C) "many"=some (some (.ref f0)))
  (i0:Oy K (.ref f0)=true)
  (l0:K.lookup f0=some ⟨oc0,od0,.func (NN "many" "Book.many" (eU i9) (eG i9) (c9 i9) .none kV0 dc0 pm0 an0 cd0 ct0),sl0⟩)
  (c0:NA K cd0 "Book.many"=true)
  (k0:Nx K (.ref f0)=true)
  (a1:MU K (.ref C) "need_own"=some (some (.ref f1)))
  (i1:Oy K (.ref f1)=true)
  (l1:K.lookup f1=some ⟨oc1,od1,.func (NN "need_own" "Book.need_own" (eU lP) (eG lP) (c9 lP) .none kV1 dc1 pm1 an1 cd1 ct1),sl1⟩)
  (c1:NA K cd1 "Book.need_own"=true)
  (k1:Nx K (.ref f1)=true)
  (a2:MU K (.ref C) "key_of"=some (some (.ref f2)))
  (i2:Oy K (.ref f2)=true)
  (l2:K.lookup f2=some ⟨oc2,od2,.func (NN "key_of" "Book.key_of" (eU lr) (eG lr) (c9 lr) .none kV2 dc2 pm2 an2 cd2 ct2),sl2⟩)
  (c2:NA K cd2 "Book.key_of"=true)
  (k2:Nx K (.ref f2)=true)
  (a3:MU K (.ref C) "text_of"=some (some (.ref f3)))
  (i3:Oy K (.ref f3)=true)
  (l3:K.lookup f3=some ⟨oc3,od3,.func (NN "text_of" "Book.text_of" (eU jX) (eG jX) (c9 jX) .none kV3 dc3 pm3 an3 cd3 ct3),sl3⟩)
  (c3:NA K cd3 "Book.text_of"=true)
  (k3:Nx K (.ref f3)=true)
  (a4:MU K (.ref C) "number_of"=some (some (.ref f4)))
  (i4:Oy K (.ref f4)=true)
  (l4:K.lookup f4=some ⟨oc4,od4,.func (NN "number_of" "Book.number_of" (eU ku) (eG ku) (c9 ku) .none kV4 dc4 pm4 an4 cd4 ct4),sl4⟩)
  (c4:NA K cd4 "Book.number_of"=true)
  (k4:Nx K (.ref f4)=true)
  (a5:MU K (.ref C) "words"=some (some (.ref f5)))
  (i5:Oy K (.ref f5)=true)
  (l5:K.lookup f5=some ⟨oc5,od5,.func (NN "words" "Book.words" (eU lW) (eG lW) (c9 lW) .none kV5 dc5 pm5 an5 cd5 ct5),sl5⟩)
  (c5:NA K cd5 "Book.words"=true)
  (k5:Nx K (.ref f5)=true)
  (a6:MU K (.ref C) "parts_of"=some (some (.ref f6)))
  (i6:Oy K (.ref f6)=true)
  (l6:K.lookup f6=some ⟨oc6,od6,.func (NN "parts_of" "Book.parts_of" (eU mF) (eG mF) (c9 mF) .none kV6 dc6 pm6 an6 cd6 ct6),sl6⟩)
  (c6:NA K cd6 "Book.parts_of"=true)
  (k6:Nx K (.ref f6)=true)
  (a7:MU K (.ref C) "row_of"=some (some (.ref f7)))
  (i7:Oy K (.ref f7)=true)
  (l7:K.lookup f7=some ⟨oc7,od7,.func (NN "row_of" "Book.row_of" (eU lH) (eG lH) (c9 lH) .none kV7 dc7 pm7 an7 cd7 ct7),sl7⟩)
  (c7:NA K cd7 "Book.row_of"=true)
  (k7:Nx K (.ref f7)=true)
  (a8:MU K (.ref C) "total"=some (some (.ref f8)))
  (i8:Oy K (.ref f8)=true)
  (l8:K.lookup f8=some ⟨oc8,od8,.func (NN "total" "Book.total" (eU mx) (eG mx) (c9 mx) .none kV8 dc8 pm8 an8 cd8 ct8),sl8⟩)
  (c8:NA K cd8 "Book.total"=true)
  (k8:Nx K (.ref f8)=true)
  (pg:QL K C NU=true)
  (hd:QY K C=true)
  (po:RC K C=true)
  (sa:MU K (.ref C) "__setattr__"=some (some (.builtin "object.__setattr__")))
  (mk:W.makesIn K C=true)
  (kc:Nx K (.ref C)=true)
  (nN:MU K (.ref C) "numbers"=some none)
  (nP:MU K (.ref C) "pairs"=some none)
  (nS:MU K (.ref C) "sizes"=some none)
  (nR:MU K (.ref C) "rows"=some none)
  (nI:MU K (.ref C) "rising"=some none)
  (aH:N6 K Mw "House"=some (some (.ref CH)))
  (aJ:MU K (.ref CH) "__init__"=some (some (.ref fJ)))
  (iJ:Oy K (.ref fJ)=true)
  (lJ:K.lookup fJ=some ⟨ocJ,odJ,.func (NN "__init__" "House.__init__" (eU lL) (eG lL) (c9 lL) .none kVJ dcJ pmJ anJ cdJ ctJ),slJ⟩)
  (cJ:NA K cdJ "House.__init__"=true)
  (kJ:Nx K (.ref fJ)=true)
  (a20:MU K (.ref CH) "place_of"=some (some (.ref f20)))
  (i20:Oy K (.ref f20)=true)
  (l20:K.lookup f20=some ⟨oc20,od20,.func (NN "place_of" "House.place_of" (eU jP) (eG jP) (c9 jP) .none kV20 dc20 pm20 an20 cd20 ct20),sl20⟩)
  (c20:NA K cd20 "House.place_of"=true)
  (k20:Nx K (.ref f20)=true)
  (a21:MU K (.ref CH) "has"=some (some (.ref f21)))
  (i21:Oy K (.ref f21)=true)
  (l21:K.lookup f21=some ⟨oc21,od21,.func (NN "has" "House.has" (eU jJ) (eG jJ) (c9 jJ) .none kV21 dc21 pm21 an21 cd21 ct21),sl21⟩)
  (c21:NA K cd21 "House.has"=true)
  (k21:Nx K (.ref f21)=true)
  (a22:MU K (.ref CH) "put"=some (some (.ref f22)))
  (i22:Oy K (.ref f22)=true)
  (l22:K.lookup f22=some ⟨oc22,od22,.func (NN "put" "House.put" (eU mv) (eG mv) (c9 mv) .none kV22 dc22 pm22 an22 cd22 ct22),sl22⟩)
  (c22:NA K cd22 "House.put"=true)
  (k22:Nx K (.ref f22)=true)
  (a23:MU K (.ref CH) "take"=some (some (.ref f23)))
  (i23:Oy K (.ref f23)=true)
  (l23:K.lookup f23=some ⟨oc23,od23,.func (NN "take" "House.take" (eU k9) (eG k9) (c9 k9) .none kV23 dc23 pm23 an23 cd23 ct23),sl23⟩)
  (c23:NA K cd23 "House.take"=true)
  (k23:Nx K (.ref f23)=true)
  (a24:MU K (.ref CH) "books"=some (some (.ref f24)))
  (i24:Oy K (.ref f24)=true)
  (l24:K.lookup f24=some ⟨oc24,od24,.func (NN "books" "House.books" (eU kO) (eG kO) (c9 kO) .none kV24 dc24 pm24 an24 cd24 ct24),sl24⟩)
  (c24:NA K cd24 "House.books"=true)
  (k24:Nx K (.ref f24)=true)
  (a25:MU K (.ref CH) "shelves"=some (some (.ref f25)))
  (i25:Oy K (.ref f25)=true)
  (l25:K.lookup f25=some ⟨oc25,od25,.func (NN "shelves" "House.shelves" (eU jK) (eG jK) (c9 jK) .none kV25 dc25 pm25 an25 cd25 ct25),sl25⟩)
  (c25:NA K cd25 "House.shelves"=true)
  (k25:Nx K (.ref f25)=true)
  (a26:MU K (.ref CH) "pour"=some (some (.ref f26)))
  (i26:Oy K (.ref f26)=true)
  (l26:K.lookup f26=some ⟨oc26,od26,.func (NN "pour" "House.pour" (eU mi) (eG mi) (c9 mi) .none kV26 dc26 pm26 an26 cd26 ct26),sl26⟩)
  (c26:NA K cd26 "House.pour"=true)
  (k26:Nx K (.ref f26)=true)
  (a27:MU K (.ref CH) "text"=some (some (.ref f27)))
  (i27:Oy K (.ref f27)=true)
  (l27:K.lookup f27=some ⟨oc27,od27,.func (NN "text" "House.text" (eU md) (eG md) (c9 md) .none kV27 dc27 pm27 an27 cd27 ct27),sl27⟩)
  (c27:NA K cd27 "House.text"=true)
  (k27:Nx K (.ref f27)=true)
  (a28:MU K (.ref CH) "all_keys"=some (some (.ref f28)))
  (i28:Oy K (.ref f28)=true)
  (l28:K.lookup f28=some ⟨oc28,od28,.func (NN "all_keys" "House.all_keys" (eU kU) (eG kU) (c9 kU) .none kV28 dc28 pm28 an28 cd28 ct28),sl28⟩)
  (c28:NA K cd28 "House.all_keys"=true)
  (k28:Nx K (.ref f28)=true)
  (a29:MU K (.ref CH) "many"=some (some (.ref f29)))
  (i29:Oy K (.ref f29)=true)
  (l29:K.lookup f29=some ⟨oc29,od29,.func (NN "many" "House.many" (eU lG) (eG lG) (c9 lG) .none kV29 dc29 pm29 an29 cd29 ct29),sl29⟩)
  (c29:NA K cd29 "House.many"=true)
  (k29:Nx K (.ref f29)=true)
  (a30:MU K (.ref CH) "total"=some (some (.ref f30)))
  (i30:Oy K (.ref f30)=true)
  (l30:K.lookup f30=some ⟨oc30,od30,.func (NN "total" "House.total" (eU kA) (eG kA) (c9 kA) .none kV30 dc30 pm30 an30 cd30 ct30),sl30⟩)
  (c30:NA K cd30 "House.total"=true)
  (k30:Nx K (.ref f30)=true)
  (pgH:QL K CH NU=true)
  (hdH:QY K CH=true)
  (poH:RC K CH=true)
  (saH:MU K (.ref CH) "__setattr__"=some (some (.builtin "object.__setattr__")))
  (mkH:W.makesIn K CH=true)
  (kcH:Nx K (.ref CH)=true)
  (nV:MU K (.ref CH) "volumes"=some none)
  (ne:CH≠C)
  :Bk K mg:=
 ⟨C,CH,⟨⟨pg,hd,po,sa⟩,nN,nP,nS,nR,nI,Oa X G aC⟩,⟨⟨pgH,hdH,poH,saH⟩,nV,Oa X G aH,ne⟩,⟨fI,_,⟨ocI,odI,kVI,dcI,pmI,anI,cdI,ctI,slI,T,_,tnI,rfl,lI,cI,tI,rfl⟩,⟨mk,aI,iI,kc⟩⟩,⟨fJ,_,gg lJ cJ kJ,⟨mkH,aJ,iJ,kcH⟩⟩,⟨f0,_,gg l0 c0 k0,⟨a0,i0,k0⟩⟩,⟨f1,_,gg l1 c1 k1,⟨a1,i1,k1⟩⟩,⟨f2,_,gg l2 c2 k2,⟨a2,i2,k2⟩⟩,⟨f3,_,gg l3 c3 k3,⟨a3,i3,k3⟩⟩,⟨f4,_,gg l4 c4 k4,⟨a4,i4,k4⟩⟩,⟨f5,_,gg l5 c5 k5,⟨a5,i5,k5⟩⟩,⟨f6,_,gg l6 c6 k6,⟨a6,i6,k6⟩⟩,⟨f7,_,gg l7 c7 k7,⟨a7,i7,k7⟩⟩,⟨f8,_,gg l8 c8 k8,⟨a8,i8,k8⟩⟩,⟨f20,_,gg l20 c20 k20,⟨a20,i20,k20⟩⟩,⟨f21,_,gg l21 c21 k21,⟨a21,i21,k21⟩⟩,⟨f22,_,gg l22 c22 k22,⟨a22,i22,k22⟩⟩,⟨f23,_,gg l23 c23 k23,⟨a23,i23,k23⟩⟩,⟨f24,_,gg l24 c24 k24,⟨a24,i24,k24⟩⟩,⟨f25,_,gg l25 c25 k25,⟨a25,i25,k25⟩⟩,⟨f26,_,gg l26 c26 k26,⟨a26,i26,k26⟩⟩,⟨f27,_,gg l27 c27 k27,⟨a27,i27,k27⟩⟩,⟨f28,_,gg l28 c28 k28,⟨a28,i28,k28⟩⟩,⟨f29,_,gg l29 c29 k29,⟨a29,i29,k29⟩⟩,⟨f30,_,gg l30 c30 k30,⟨a30,i30,k30⟩⟩⟩
theorem sum_mk(X:K.In h)(G:h.Ns Mw mg)(n:N6 K Mw "sum"=some none):mg "sum"=none:=N1 X G n
theorem Dz(T:Txt mg)(X:vy K mg)(B:Bk K mg)(hS:mg "sum"=none)
  (d_sWhole:∃ f fd,Df K mg "is_whole" ke f fd)
  (d_sSign:∃ f fd,Df K mg "is_text_sign" qr f fd)
  (d_sText:∃ f fd,Df K mg "is_text" oG f fd)
  (d_sRow:∃ f fd,Df K mg "is_small_row" lE f fd)
  (d_sKey:∃ f fd,Df K mg "is_key" lR f fd)
  (d_sNText:∃ f fd,Df K mg "need_text" lC f fd)
  (d_sNKey:∃ f fd,Df K mg "need_key" mY f fd)
  (d_sOne:∃ f fd,Df K mg "parts_of_one" pD f fd)
  (d_sPacked:∃ f fd,Df K mg "packed" oW f fd)
  (d_sNParts:∃ f fd,Df K mg "need_parts" qd f fd)
  (d_sUnp:∃ f fd,Df K mg "unpacked" pj f fd)
  (d_sRis:∃ f fd,Df K mg "is_rising" mU f fd)
  (d_sHasP:∃ f fd,Df K mg "has_places" pS f fd)
  (d_sNRow:∃ f fd,Df K mg "need_row" lM f fd)
  (d_sGaps:∃ f fd,Df K mg "gaps_of" nu f fd)
  (d_sNums:∃ f fd,Df K mg "numbers_by" qC f fd)
  (d_sPRow:∃ f fd,Df K mg "packed_row" ni f fd)
  (d_sURow:∃ f fd,Df K mg "unpacked_row" px f fd)
  (d_sWord:∃ f fd,Df K mg "is_word" qB f fd)
  (d_sNWord:∃ f fd,Df K mg "need_word" qg f fd)
  (d_sWordsIn:∃ f fd,Df K mg "words_in" pB f fd)
  (d_sPlain:∃ f fd,Df K mg "plain_words" m9 f fd)
  (d_sNBK:∃ f fd,Df K mg "numbers_by_key" oS f fd)
  (d_sPBW:∃ f fd,Df K mg "places_by_word" p8 f fd)
  (d_sPRs:∃ f fd,Df K mg "packed_rows" oF f fd)
  (d_sRBW:∃ f fd,Df K mg "rows_by_word" oV f fd)
  (d_sCopy:∃ f fd,Df K mg "copied_rows" qA f fd)
  (d_sNGone:∃ f fd,Df K mg "need_gone" ph f fd)
  (d_sPour:∃ f fd,Df K mg "pour_rows" p0 f fd)
  (d_sPB:∃ f fd,Df K mg "poured_behind" qc f fd)
  (d_lMixed:∃ f fd,Df K mg "_law_mixed" kM f fd)
  (d_lNumber:∃ f fd,Df K mg "_law_number" mX f fd)
  (d_lMenu:∃ f fd,Df K mg "_law_menu" lQ f fd)
  (d_lText:∃ f fd,Df K mg "_law_text" pW f fd)
  (d_lWords:∃ f fd,Df K mg "_law_words" lu f fd)
  (d_lKeys:∃ f fd,Df K mg "_law_keys" kb f fd)
  (d_lDeeds:∃ f fd,Df K mg "_law_deeds" pP f fd)
  (d_lClass:∃ f fd,Df K mg "_law_class" pH f fd)
  (d_lAnswer:∃ f fd,Df K mg "_law_answer" kW f fd)
  (d_lDue:∃ f fd,Df K mg "_law_due" oP f fd)
  (d_lWhole:∃ f fd,Df K mg "_law_whole" pJ f fd)
  (d_lAsked:∃ f fd,Df K mg "_law_asked" jk f fd)
  (d_lStands:∃ f fd,Df K mg "_law_stands" mQ f fd)
  (d_lBad:∃ f fd,Df K mg "_law_bad" og f fd)
  (d_lAgain:∃ f fd,Df K mg "_law_again" oR f fd)
  (d_sNNum:∃ f fd,gS K mg "need_number" kq f fd #[.none])
  (d_sPoured:∃ f fd,gS K mg "poured" lU f fd #[.none])
  {f:LS}{fd:Mj}(D:Df K mg "law" jf f fd):cV P w K mg base dc 16 f fd ["_law_script"] (ou K):=by
 obtain⟨CK,CT,C2,CN,C0,CW,CA,XK,XT,X2,XN,X0,XW,XF,XE⟩:=X;obtain⟨C,CH,BC,HC,⟨fI,dI,FI,MI⟩,⟨fJ,dJ,FJ,MJ⟩,⟨f0,e0,F0,M0⟩,⟨f1,e1,F1,M1⟩,⟨f2,e2,F2,M2⟩,⟨f3,e3,F3,M3⟩,⟨f4,e4,F4,M4⟩,⟨f5,e5,F5,M5⟩,⟨f6,e6,F6,M6⟩,⟨f7,e7,F7,M7⟩,⟨f8,e8,F8,M8⟩,⟨cq,cu,bh,bA⟩,⟨cv,cw,bj,bB⟩,⟨cx,cy,bC,bP⟩,⟨cz,cA,bD,bQ⟩,⟨cB,cC,bR,b7⟩,⟨cD,cE,bE,bS⟩,⟨cF,cG,bF,bT⟩,⟨cH,cI,bG,bU⟩,⟨cJ,cK,bV,b8⟩,⟨cL,cM,bW,b9⟩,⟨cN,cO,bX,cb⟩⟩:=B;obtain⟨_,_,J⟩:=d_sWhole;obtain⟨_,_,a5⟩:=d_sSign;obtain⟨_,_,aJ⟩:=d_sText;obtain⟨_,_,aU⟩:=d_sRow;obtain⟨_,_,ai⟩:=d_sKey;obtain⟨_,_,ab⟩:=d_sNText;obtain⟨_,_,ak⟩:=d_sNKey;obtain⟨_,_,aV⟩:=d_sOne;obtain⟨_,_,ao⟩:=d_sPacked;obtain⟨_,_,aq⟩:=d_sNParts;obtain⟨_,_,aW⟩:=d_sUnp;obtain⟨_,_,aj⟩:=d_sRis;obtain⟨_,_,aK⟩:=d_sHasP;obtain⟨_,_,aL⟩:=d_sNRow;obtain⟨_,_,a6⟩:=d_sGaps;obtain⟨_,_,a7⟩:=d_sNums;obtain⟨_,_,aM⟩:=d_sPRow;obtain⟨_,_,aN⟩:=d_sURow;obtain⟨_,_,aO⟩:=d_sWord;obtain⟨_,_,ax⟩:=d_sNWord;obtain⟨_,_,ah⟩:=d_sWordsIn;obtain⟨_,_,ay⟩:=d_sPlain;obtain⟨_,_,aX⟩:=d_sNBK;obtain⟨_,_,aY⟩:=d_sPBW;obtain⟨_,_,aG⟩:=d_sPRs;obtain⟨_,_,aZ⟩:=d_sRBW;obtain⟨_,_,aP⟩:=d_sCopy;obtain⟨_,_,az⟩:=d_sNGone;obtain⟨_,_,aQ⟩:=d_sPour;obtain⟨_,_,a8⟩:=d_sPB;obtain⟨_,_,ae⟩:=d_lMixed;obtain⟨_,_,af⟩:=d_lNumber;obtain⟨_,_,aR⟩:=d_lMenu;obtain⟨_,_,aS⟩:=d_lText;obtain⟨_,_,aA⟩:=d_lWords;obtain⟨_,_,ar⟩:=d_lKeys;obtain⟨_,_,aB⟩:=d_lDeeds;obtain⟨_,_,aC⟩:=d_lClass;obtain⟨_,_,I⟩:=d_lAnswer;obtain⟨_,_,aH⟩:=d_lDue;obtain⟨_,_,aD⟩:=d_lWhole;obtain⟨_,_,aE⟩:=d_lAsked;obtain⟨_,_,au⟩:=d_lStands;obtain⟨_,_,a0⟩:=d_lBad;obtain⟨_,_,aF⟩:=d_lAgain;obtain⟨_,_,aa⟩:=d_sNNum;obtain⟨_,_,U⟩:=d_sPoured;have bH:=Dv (P:=P) (w:=w) (base:=base) aJ a5 T;have a9:=KR (P:=P) (w:=w) (base:=base) ai aU T;have bI:=Lg (P:=P) (w:=w) (base:=base) aO aU T;have aI:=EG ab aJ XT bH;have ba:=Cv ak ai XK a9;have bo:=C5 ax aO XW bI;have bb:=HP (P:=P) (w:=w) (base:=base) aa J XN T;have bp:=EN ay ah (C7 ah ab aI T);have bY:=Fq (P:=P) (w:=w) (base:=base) aW aq (Dd aq J T) T;have bJ:=KC aN aW bY a7 T;have bc:=Cy (P:=P) (w:=w) (base:=base) ao aV (IA aV T) aa (Lk aa J T)
 have bK:=Ly (P:=P) (w:=w) (base:=base) aL aj (Kx aj J T) aK (K7 aK aj (LA aj J T) T) T
 have bL:=J3 aM aL bK a6 ao bc T
 have bw:=B7 aG aM bL
 have bZ:=Jw aZ aY (JN aY T) aG bw T
 have b0:=Gv aX ak ba ab aI X2 T
 have bf:=IL FI BC T aX b0 ay bp aZ bZ aP (Jn aP T)
 have ag:=Kv (P:=P) (w:=w) (base:=base) F0 BC T
 have bx:=Eg F1 BC F0 M0 ag aa bb
 have bq:=KL F1 M1 bx BC F2
 have av:=Gf F1 M1 bx BC F3
 have a3:=Fs F4 BC ai a9 X0
 have br:=Ln (P:=P) (w:=w) (base:=base) F5 BC T
 have bt:=Ic F6 BC ax bo T
 have bu:=Iz F7 BC F6 M6 bt aN bJ
 have cc:=Et az BC F0 M0 ag aa bb XN T
 have bM:=Kc aQ BC F5 M5 br F7 M7 bu
 have aw:=Hl U BC T az cc F0 M0 ag F2 M2 bq F3 M3 av aQ bM aG bw FI MI bf
 have cf:=JV a8 BC F0 M0 ag U aw T
 have hI:=Fd (P:=P) (w:=w) (base:=base) FJ HC
 have bN:=G6 bh HC BC ai a9 X0 T
 have bO:=Fc bj HC bh bA bN X0 XE
 have b1:=HZ bC HC BC ak ba ab aI bj bB bO a8 cf X2 FI MI bf
 have b2:=J8 bD HC BC bh bA bN F4 M4 a3 U aw F0 M0 ag F3 M3 av
 have cg:=B2 bR HC BC F0 M0 ag
 have b3:=FE (P:=P) (w:=w) (base:=base) bE HC BC T
 have b4:=CM bF HC U aw T
 have b5:=EI bG HC BC bh bA bN F4 M4 a3 F3 M3 av
 have cj:=Di bW HC bR b7 cg hS
 have ck:=J6 bX HC BC F8 M8 (KN (P:=P) (w:=w) (base:=base) F8 BC hS) hS
 have cm:=Lj bV HC bE bS b3 T
 have aT:=Jk (P:=P) (w:=w) (base:=base) af ae T
 have bg:=II (P:=P) (w:=w) (base:=base) ar ae T
 have cn:=HY (P:=P) (w:=w) (base:=base) aS ae T
 have bz:=JT (P:=P) (w:=w) (base:=base) aH
 have a4:=GD I HC ⟨bC,bP,b1,bD,bQ,b2,bG,bU,b5,bF,bT,b4⟩ XF aC (Ca aC XF T)
 have b6:=EH aE HC ⟨bj,bB,bO,bW,b9,cj,bX,cb,ck,bV,b8,cm,bE,bS,b3⟩ aH bz I a4 aD (GF aD T) aA (Ih aA) T hS;exact Ky D T HC aR (JK aR ae T) af aT aB (IH aB af aT ar bg aS cn T) ar bg I a4 aH bz au (KH au aE b6 T) a0 (Ek a0 HC bj bB bO I a4 T) aF (Dy aF HC ⟨bC,bP,b1,bD,bQ,b2,bG,bU,b5,bF,bT,b4⟩ I a4) FJ MJ hI
theorem El{f fa:LS}{oc kV doc pm cd ct:LW}{od an:Mc LS}{sl:Nd (Mc LW)}(X:K.In h)(G:h.Ns Mw mg)(hfa:mg "law"=some (.ref fa))(a:N6 K Mw "law"=some (some (.ref f)))
  (l:K.lookup f=some ⟨oc,od,.func (NN "law" "law" (eU jf) (eG jf) (c9 jf) .none kV doc pm an cd ct),sl⟩)(c:NA K cd "law"=true)(k:Nx K (.ref f)=true)
  (ok:∀(fd:Mj) (base:Nn),Df K mg "law" jf f fd->cV P w K mg base dc 16 f fd ["_law_script"] (ou K)):
  ∃ fd:Mj,(∀(s:Me) (v:LW),RJ s fd ⟨[v],[]⟩ [("_law_script",v)])/\∀ base:Nn,K.In base->base.Ns Mw mg->cV P w K mg base dc 16 fa fd ["_law_script"] (ou K):=by
 have e:=hfa.symm.trans (Oa X G a);cases e;exact⟨NN "law" "law" (eU jf) (eG jf) (c9 jf) .none kV doc pm an cd ct,λs v=> .of_eq rfl,λbase _ _=>ok _ base ⟨gg l c k,Oa X G a⟩⟩
end
theorem walk{l:W.OpenLaw}{q:Mq}{loose:LR Str}{XP:(Str->Mc LW)->Nn->Prop}{YP:MT->Nn->Prop}{d:DefRec}{K:Params->Mm}(hn:l.most=some 63)(hdf:d.params.defaults=[])
  (hY:∀(w:MT) (h:Nn),YP w h->(K w.params).In h)
  (F:∀(w:MT) (mg:Str->Mc LW) (fa:LS) (h:Nn),(K w.params).In h->h.Ns Mw mg->mg d.name=some (.ref fa)->
   ∃ fd:Mj,(∀(s:Me) (u:LW),RJ s fd ⟨[u],[]⟩ [("_law_script",u)])/\∀ base:Nn,(K w.params).In base->base.Ns Mw mg->cV l.prog w (K w.params) mg base dc 16 fa fd ["_law_script"] (ou (K w.params))):
  W.WalkO q loose XP YP l.row.toRowW d [] (λf vs=>PySem.call f vs):=
 HJ (n:=63) (k:=16) (x:="_law_script") (sp:=ou) hn (by decide) hdf ⟨rfl,by decide,by decide,rfl⟩ hY F λK H a ns hl hb I=>⟨a,ns,rfl,I,hl,λ_=>rfl⟩
end K25
open PySem PySem.W PyProof.Rows
set_option maxRecDepth 100000 in
set_option maxHeartbeats 0 in
theorem PySem.Challenge.cw_findhall_k25_a_house_by_a_dict_holds : PySem.Challenge.rw_findhall_k25_a_house_by_a_dict.Holds := by
 refine H25.head ?_
 k_fill
 refine K25.walk (l := PySem.Challenge.rw_findhall_k25_a_house_by_a_dict) rfl rfl (fun w h Y => PySem.W.kIn_of Y) ?F
 case F =>
  intro w mg fa h I G a8
  have hC : K25.vy (L2.dm I) mg := by
   dsimp only [L2.dm]
   refine' K25.HI I G ?a0 ?x0 ?a1 ?x1 ?a2 ?x2 ?a3 ?x3 ?a4 ?x4 ?a5 ?x5 ?aA ?hn ?ht ?cl0 ?ga0 ?hk0 ?ha0 ?hm0 ?hb0 ?q0_0 ?q1_0 ?q2_0 ?q3_0 ?q4_0 ?v0 ?e0 ?cl1 ?ga1 ?hk1 ?ha1 ?hm1 ?hb1 ?q0_1 ?q1_1 ?q2_1 ?q3_1 ?q4_1 ?v1 ?e1 ?cl2 ?ga2 ?hk2 ?ha2 ?hm2 ?hb2 ?q0_2 ?q1_2 ?q2_2 ?q3_2 ?q4_2 ?v2 ?e2 ?cl3 ?ga3 ?hk3 ?ha3 ?hm3 ?hb3 ?q0_3 ?q1_3 ?q2_3 ?q3_3 ?q4_3 ?v3 ?e3 ?ee
   (case a0 => k_is)
   (case x0 => k_exc)
   (case a1 => k_is)
   (case x1 => k_exc)
   (case a2 => k_is)
   (case x2 => k_exc)
   (case a3 => k_is)
   (case x3 => k_exc)
   (case a4 => k_is)
   (case x4 => k_exc)
   (case a5 => k_is)
   (case x5 => k_exc)
   (case aA => k_is)
   (case hn => k_is)
   (case ht => k_is)
   (case cl0 => k_is)
   (case ga0 => k_is)
   (case hk0 => k_is)
   (case ha0 => k_is)
   (case hm0 => k_is)
   (case hb0 => k_is)
   (case q0_0 => kit_is)
   (case q1_0 => kit_is)
   (case q2_0 => kit_is)
   (case q3_0 => kit_is)
   (case q4_0 => kit_is)
   (case v0 => kit_is)
   (case e0 => kts_exm)
   (case cl1 => k_is)
   (case ga1 => k_is)
   (case hk1 => k_is)
   (case ha1 => k_is)
   (case hm1 => k_is)
   (case hb1 => k_is)
   (case q0_1 => kit_is)
   (case q1_1 => kit_is)
   (case q2_1 => kit_is)
   (case q3_1 => kit_is)
   (case q4_1 => kit_is)
   (case v1 => kit_is)
   (case e1 => kts_exm)
   (case cl2 => k_is)
   (case ga2 => k_is)
   (case hk2 => k_is)
   (case ha2 => k_is)
   (case hm2 => k_is)
   (case hb2 => k_is)
   (case q0_2 => kit_is)
   (case q1_2 => kit_is)
   (case q2_2 => kit_is)
   (case q3_2 => kit_is)
   (case q4_2 => kit_is)
   (case v2 => kit_is)
   (case e2 => kts_exm)
   (case cl3 => k_is)
   (case ga3 => k_is)
   (case hk3 => k_is)
   (case ha3 => k_is)
   (case hm3 => k_is)
   (case hb3 => k_is)
   (case q0_3 => kit_is)
   (case q1_3 => kit_is)
   (case q2_3 => kit_is)
   (case q3_3 => kit_is)
   (case q4_3 => kit_is)
   (case v3 => kit_is)
   (case e3 => kts_exm)
   (case ee => kts_exm)
  have T : K25.Txt mg := by
   refine' K25.Gs I G ?n0 ?n1 ?n2 ?n3 ?n4 ?n5 ?n6 ?n7 ?n8 ?n9 ?n10 ?n11 ?n12 ?c0 ?c1 ?c2 ?c3 ?c4 ?c5 ?c6
   (case n0 => k_is)
   (case n1 => k_is)
   (case n2 => k_is)
   (case n3 => k_is)
   (case n4 => k_is)
   (case n5 => k_is)
   (case n6 => k_is)
   (case n7 => k_is)
   (case n8 => k_is)
   (case n9 => k_is)
   (case n10 => k_is)
   (case n11 => k_is)
   (case n12 => k_is)
   (case c0 => k_is)
   (case c1 => k_is)
   (case c2 => k_is)
   (case c3 => k_is)
   (case c4 => k_is)
   (case c5 => k_is)
   (case c6 => k_is)
  have B : K25.Bk (L2.dm I) mg := by
   dsimp only [L2.dm]
   refine' K25.Kf I G ?zaC ?zaI ?ziI ?zlI ?zcI ?ztI ?za0 ?zi0 ?zl0 ?zc0 ?zk0 ?za1 ?zi1 ?zl1 ?zc1 ?zk1 ?za2 ?zi2 ?zl2 ?zc2 ?zk2 ?za3 ?zi3 ?zl3 ?zc3 ?zk3 ?za4 ?zi4 ?zl4 ?zc4 ?zk4 ?za5 ?zi5 ?zl5 ?zc5 ?zk5 ?za6 ?zi6 ?zl6 ?zc6 ?zk6 ?za7 ?zi7 ?zl7 ?zc7 ?zk7 ?za8 ?zi8 ?zl8 ?zc8 ?zk8 ?zpg ?zhd ?zpo ?zsa ?zmk ?zkc ?znN ?znP ?znS ?znR ?znI ?zaH ?zaJ ?ziJ ?zlJ ?zcJ ?zkJ ?za20 ?zi20 ?zl20 ?zc20 ?zk20 ?za21 ?zi21 ?zl21 ?zc21 ?zk21 ?za22 ?zi22 ?zl22 ?zc22 ?zk22 ?za23 ?zi23 ?zl23 ?zc23 ?zk23 ?za24 ?zi24 ?zl24 ?zc24 ?zk24 ?za25 ?zi25 ?zl25 ?zc25 ?zk25 ?za26 ?zi26 ?zl26 ?zc26 ?zk26 ?za27 ?zi27 ?zl27 ?zc27 ?zk27 ?za28 ?zi28 ?zl28 ?zc28 ?zk28 ?za29 ?zi29 ?zl29 ?zc29 ?zk29 ?za30 ?zi30 ?zl30 ?zc30 ?zk30 ?zpgH ?zhdH ?zpoH ?zsaH ?zmkH ?zkcH ?znV ?zne
   (case zaC => k_is)
   (case zaI => k_is)
   (case ziI => k_is)
   (case zlI => k_is)
   (case zcI => k_is)
   (case ztI => k_is)
   (case za0 => k_is)
   (case zi0 => k_is)
   (case zl0 => k_is)
   (case zc0 => k_is)
   (case zk0 => k_is)
   (case za1 => k_is)
   (case zi1 => k_is)
   (case zl1 => k_is)
   (case zc1 => k_is)
   (case zk1 => k_is)
   (case za2 => k_is)
   (case zi2 => k_is)
   (case zl2 => k_is)
   (case zc2 => k_is)
   (case zk2 => k_is)
   (case za3 => k_is)
   (case zi3 => k_is)
   (case zl3 => k_is)
   (case zc3 => k_is)
   (case zk3 => k_is)
   (case za4 => k_is)
   (case zi4 => k_is)
   (case zl4 => k_is)
   (case zc4 => k_is)
   (case zk4 => k_is)
   (case za5 => k_is)
   (case zi5 => k_is)
   (case zl5 => k_is)
   (case zc5 => k_is)
   (case zk5 => k_is)
   (case za6 => k_is)
   (case zi6 => k_is)
   (case zl6 => k_is)
   (case zc6 => k_is)
   (case zk6 => k_is)
   (case za7 => k_is)
   (case zi7 => k_is)
   (case zl7 => k_is)
   (case zc7 => k_is)
   (case zk7 => k_is)
   (case za8 => k_is)
   (case zi8 => k_is)
   (case zl8 => k_is)
   (case zc8 => k_is)
   (case zk8 => k_is)
   (case zpg => k_is)
   (case zhd => k_is)
   (case zpo => k_is)
   (case zsa => k_is)
   (case zmk => k_is)
   (case zkc => k_is)
   (case znN => k_is)
   (case znP => k_is)
   (case znS => k_is)
   (case znR => k_is)
   (case znI => k_is)
   (case zaH => k_is)
   (case zaJ => k_is)
   (case ziJ => k_is)
   (case zlJ => k_is)
   (case zcJ => k_is)
   (case zkJ => k_is)
   (case za20 => k_is)
   (case zi20 => k_is)
   (case zl20 => k_is)
   (case zc20 => k_is)
   (case zk20 => k_is)
   (case za21 => k_is)
   (case zi21 => k_is)
   (case zl21 => k_is)
   (case zc21 => k_is)
   (case zk21 => k_is)
   (case za22 => k_is)
   (case zi22 => k_is)
   (case zl22 => k_is)
   (case zc22 => k_is)
   (case zk22 => k_is)
   (case za23 => k_is)
   (case zi23 => k_is)
   (case zl23 => k_is)
   (case zc23 => k_is)
   (case zk23 => k_is)
   (case za24 => k_is)
   (case zi24 => k_is)
   (case zl24 => k_is)
   (case zc24 => k_is)
   (case zk24 => k_is)
   (case za25 => k_is)
   (case zi25 => k_is)
   (case zl25 => k_is)
   (case zc25 => k_is)
   (case zk25 => k_is)
   (case za26 => k_is)
   (case zi26 => k_is)
   (case zl26 => k_is)
   (case zc26 => k_is)
   (case zk26 => k_is)
   (case za27 => k_is)
   (case zi27 => k_is)
   (case zl27 => k_is)
   (case zc27 => k_is)
   (case zk27 => k_is)
   (case za28 => k_is)
   (case zi28 => k_is)
   (case zl28 => k_is)
   (case zc28 => k_is)
   (case zk28 => k_is)
   (case za29 => k_is)
   (case zi29 => k_is)
   (case zl29 => k_is)
   (case zc29 => k_is)
   (case zk29 => k_is)
   (case za30 => k_is)
   (case zi30 => k_is)
   (case zl30 => k_is)
   (case zc30 => k_is)
   (case zk30 => k_is)
   (case zpgH => k_is)
   (case zhdH => k_is)
   (case zpoH => k_is)
   (case zsaH => k_is)
   (case zmkH => k_is)
   (case zkcH => k_is)
   (case znV => k_is)
   (case zne => decide)
  have hS : mg "sum" = none := by
   refine' K25.sum_mk I G ?n
   (case n => k_is)
  have ah : ∃ f fd, Gn.Df (L2.dm I) mg "is_whole" K25.ke f fd := by
   dsimp only [L2.dm]
   refine' Gn.d9 I G ?a ?l ?c ?k
   (case a => k_is); (case l => k_is); (case c => k_is); (case k => k_is)
  have az : ∃ f fd, Gn.Df (L2.dm I) mg "is_text_sign" K25.qr f fd := by
   dsimp only [L2.dm]
   refine' Gn.d9 I G ?a ?l ?c ?k
   (case a => k_is); (case l => k_is); (case c => k_is); (case k => k_is)
  have aB : ∃ f fd, Gn.Df (L2.dm I) mg "is_text" K25.oG f fd := by
   dsimp only [L2.dm]
   refine' Gn.d9 I G ?a ?l ?c ?k
   (case a => k_is); (case l => k_is); (case c => k_is); (case k => k_is)
  have aQ : ∃ f fd, Gn.Df (L2.dm I) mg "is_small_row" K25.lE f fd := by
   dsimp only [L2.dm]
   refine' Gn.d9 I G ?a ?l ?c ?k
   (case a => k_is); (case l => k_is); (case c => k_is); (case k => k_is)
  have aR : ∃ f fd, Gn.Df (L2.dm I) mg "is_key" K25.lR f fd := by
   dsimp only [L2.dm]
   refine' Gn.d9 I G ?a ?l ?c ?k
   (case a => k_is); (case l => k_is); (case c => k_is); (case k => k_is)
  have ai : ∃ f fd, Gn.Df (L2.dm I) mg "need_text" K25.lC f fd := by
   dsimp only [L2.dm]
   refine' Gn.d9 I G ?a ?l ?c ?k
   (case a => k_is); (case l => k_is); (case c => k_is); (case k => k_is)
  have aC : ∃ f fd, Gn.Df (L2.dm I) mg "need_key" K25.mY f fd := by
   dsimp only [L2.dm]
   refine' Gn.d9 I G ?a ?l ?c ?k
   (case a => k_is); (case l => k_is); (case c => k_is); (case k => k_is)
  have aS : ∃ f fd, Gn.Df (L2.dm I) mg "parts_of_one" K25.pD f fd := by
   dsimp only [L2.dm]
   refine' Gn.d9 I G ?a ?l ?c ?k
   (case a => k_is); (case l => k_is); (case c => k_is); (case k => k_is)
  have U : ∃ f fd, Gn.Df (L2.dm I) mg "packed" K25.oW f fd := by
   dsimp only [L2.dm]
   refine' Gn.d9 I G ?a ?l ?c ?k
   (case a => k_is); (case l => k_is); (case c => k_is); (case k => k_is)
  have aa : ∃ f fd, Gn.Df (L2.dm I) mg "need_parts" K25.qd f fd := by
   dsimp only [L2.dm]
   refine' Gn.d9 I G ?a ?l ?c ?k
   (case a => k_is); (case l => k_is); (case c => k_is); (case k => k_is)
  have aT : ∃ f fd, Gn.Df (L2.dm I) mg "unpacked" K25.pj f fd := by
   dsimp only [L2.dm]
   refine' Gn.d9 I G ?a ?l ?c ?k
   (case a => k_is); (case l => k_is); (case c => k_is); (case k => k_is)
  have aU : ∃ f fd, Gn.Df (L2.dm I) mg "is_rising" K25.mU f fd := by
   dsimp only [L2.dm]
   refine' Gn.d9 I G ?a ?l ?c ?k
   (case a => k_is); (case l => k_is); (case c => k_is); (case k => k_is)
  have aD : ∃ f fd, Gn.Df (L2.dm I) mg "has_places" K25.pS f fd := by
   dsimp only [L2.dm]
   refine' Gn.d9 I G ?a ?l ?c ?k
   (case a => k_is); (case l => k_is); (case c => k_is); (case k => k_is)
  have aE : ∃ f fd, Gn.Df (L2.dm I) mg "need_row" K25.lM f fd := by
   dsimp only [L2.dm]
   refine' Gn.d9 I G ?a ?l ?c ?k
   (case a => k_is); (case l => k_is); (case c => k_is); (case k => k_is)
  have aF : ∃ f fd, Gn.Df (L2.dm I) mg "gaps_of" K25.nu f fd := by
   dsimp only [L2.dm]
   refine' Gn.d9 I G ?a ?l ?c ?k
   (case a => k_is); (case l => k_is); (case c => k_is); (case k => k_is)
  have aG : ∃ f fd, Gn.Df (L2.dm I) mg "numbers_by" K25.qC f fd := by
   dsimp only [L2.dm]
   refine' Gn.d9 I G ?a ?l ?c ?k
   (case a => k_is); (case l => k_is); (case c => k_is); (case k => k_is)
  have aH : ∃ f fd, Gn.Df (L2.dm I) mg "packed_row" K25.ni f fd := by
   dsimp only [L2.dm]
   refine' Gn.d9 I G ?a ?l ?c ?k
   (case a => k_is); (case l => k_is); (case c => k_is); (case k => k_is)
  have aI : ∃ f fd, Gn.Df (L2.dm I) mg "unpacked_row" K25.px f fd := by
   dsimp only [L2.dm]
   refine' Gn.d9 I G ?a ?l ?c ?k
   (case a => k_is); (case l => k_is); (case c => k_is); (case k => k_is)
  have aJ : ∃ f fd, Gn.Df (L2.dm I) mg "is_word" K25.qB f fd := by
   dsimp only [L2.dm]
   refine' Gn.d9 I G ?a ?l ?c ?k
   (case a => k_is); (case l => k_is); (case c => k_is); (case k => k_is)
  have aj : ∃ f fd, Gn.Df (L2.dm I) mg "need_word" K25.qg f fd := by
   dsimp only [L2.dm]
   refine' Gn.d9 I G ?a ?l ?c ?k
   (case a => k_is); (case l => k_is); (case c => k_is); (case k => k_is)
  have J : ∃ f fd, Gn.Df (L2.dm I) mg "words_in" K25.pB f fd := by
   dsimp only [L2.dm]
   refine' Gn.d9 I G ?a ?l ?c ?k
   (case a => k_is); (case l => k_is); (case c => k_is); (case k => k_is)
  have ak : ∃ f fd, Gn.Df (L2.dm I) mg "plain_words" K25.m9 f fd := by
   dsimp only [L2.dm]
   refine' Gn.d9 I G ?a ?l ?c ?k
   (case a => k_is); (case l => k_is); (case c => k_is); (case k => k_is)
  have aV : ∃ f fd, Gn.Df (L2.dm I) mg "numbers_by_key" K25.oS f fd := by
   dsimp only [L2.dm]
   refine' Gn.d9 I G ?a ?l ?c ?k
   (case a => k_is); (case l => k_is); (case c => k_is); (case k => k_is)
  have aW : ∃ f fd, Gn.Df (L2.dm I) mg "places_by_word" K25.p8 f fd := by
   dsimp only [L2.dm]
   refine' Gn.d9 I G ?a ?l ?c ?k
   (case a => k_is); (case l => k_is); (case c => k_is); (case k => k_is)
  have aX : ∃ f fd, Gn.Df (L2.dm I) mg "packed_rows" K25.oF f fd := by
   dsimp only [L2.dm]
   refine' Gn.d9 I G ?a ?l ?c ?k
   (case a => k_is); (case l => k_is); (case c => k_is); (case k => k_is)
  have aY : ∃ f fd, Gn.Df (L2.dm I) mg "rows_by_word" K25.oV f fd := by
   dsimp only [L2.dm]
   refine' Gn.d9 I G ?a ?l ?c ?k
   (case a => k_is); (case l => k_is); (case c => k_is); (case k => k_is)
  have aK : ∃ f fd, Gn.Df (L2.dm I) mg "copied_rows" K25.qA f fd := by
   dsimp only [L2.dm]
   refine' Gn.d9 I G ?a ?l ?c ?k
   (case a => k_is); (case l => k_is); (case c => k_is); (case k => k_is)
  have ao : ∃ f fd, Gn.Df (L2.dm I) mg "need_gone" K25.ph f fd := by
   dsimp only [L2.dm]
   refine' Gn.d9 I G ?a ?l ?c ?k
   (case a => k_is); (case l => k_is); (case c => k_is); (case k => k_is)
  have aL : ∃ f fd, Gn.Df (L2.dm I) mg "pour_rows" K25.p0 f fd := by
   dsimp only [L2.dm]
   refine' Gn.d9 I G ?a ?l ?c ?k
   (case a => k_is); (case l => k_is); (case c => k_is); (case k => k_is)
  have a7 : ∃ f fd, Gn.Df (L2.dm I) mg "poured_behind" K25.qc f fd := by
   dsimp only [L2.dm]
   refine' Gn.d9 I G ?a ?l ?c ?k
   (case a => k_is); (case l => k_is); (case c => k_is); (case k => k_is)
  have aq : ∃ f fd, Gn.Df (L2.dm I) mg "_law_mixed" K25.kM f fd := by
   dsimp only [L2.dm]
   refine' Gn.d9 I G ?a ?l ?c ?k
   (case a => k_is); (case l => k_is); (case c => k_is); (case k => k_is)
  have ab : ∃ f fd, Gn.Df (L2.dm I) mg "_law_number" K25.mX f fd := by
   dsimp only [L2.dm]
   refine' Gn.d9 I G ?a ?l ?c ?k
   (case a => k_is); (case l => k_is); (case c => k_is); (case k => k_is)
  have aM : ∃ f fd, Gn.Df (L2.dm I) mg "_law_menu" K25.lQ f fd := by
   dsimp only [L2.dm]
   refine' Gn.d9 I G ?a ?l ?c ?k
   (case a => k_is); (case l => k_is); (case c => k_is); (case k => k_is)
  have aN : ∃ f fd, Gn.Df (L2.dm I) mg "_law_text" K25.pW f fd := by
   dsimp only [L2.dm]
   refine' Gn.d9 I G ?a ?l ?c ?k
   (case a => k_is); (case l => k_is); (case c => k_is); (case k => k_is)
  have ar : ∃ f fd, Gn.Df (L2.dm I) mg "_law_words" K25.lu f fd := by
   dsimp only [L2.dm]
   refine' Gn.d9 I G ?a ?l ?c ?k
   (case a => k_is); (case l => k_is); (case c => k_is); (case k => k_is)
  have aO : ∃ f fd, Gn.Df (L2.dm I) mg "_law_keys" K25.kb f fd := by
   dsimp only [L2.dm]
   refine' Gn.d9 I G ?a ?l ?c ?k
   (case a => k_is); (case l => k_is); (case c => k_is); (case k => k_is)
  have au : ∃ f fd, Gn.Df (L2.dm I) mg "_law_deeds" K25.pP f fd := by
   dsimp only [L2.dm]
   refine' Gn.d9 I G ?a ?l ?c ?k
   (case a => k_is); (case l => k_is); (case c => k_is); (case k => k_is)
  have av : ∃ f fd, Gn.Df (L2.dm I) mg "_law_class" K25.pH f fd := by
   dsimp only [L2.dm]
   refine' Gn.d9 I G ?a ?l ?c ?k
   (case a => k_is); (case l => k_is); (case c => k_is); (case k => k_is)
  have ae : ∃ f fd, Gn.Df (L2.dm I) mg "_law_answer" K25.kW f fd := by
   dsimp only [L2.dm]
   refine' Gn.d9 I G ?a ?l ?c ?k
   (case a => k_is); (case l => k_is); (case c => k_is); (case k => k_is)
  have aZ : ∃ f fd, Gn.Df (L2.dm I) mg "_law_due" K25.oP f fd := by
   dsimp only [L2.dm]
   refine' Gn.d9 I G ?a ?l ?c ?k
   (case a => k_is); (case l => k_is); (case c => k_is); (case k => k_is)
  have aw : ∃ f fd, Gn.Df (L2.dm I) mg "_law_whole" K25.pJ f fd := by
   dsimp only [L2.dm]
   refine' Gn.d9 I G ?a ?l ?c ?k
   (case a => k_is); (case l => k_is); (case c => k_is); (case k => k_is)
  have ax : ∃ f fd, Gn.Df (L2.dm I) mg "_law_asked" K25.jk f fd := by
   dsimp only [L2.dm]
   refine' Gn.d9 I G ?a ?l ?c ?k
   (case a => k_is); (case l => k_is); (case c => k_is); (case k => k_is)
  have af : ∃ f fd, Gn.Df (L2.dm I) mg "_law_stands" K25.mQ f fd := by
   dsimp only [L2.dm]
   refine' Gn.d9 I G ?a ?l ?c ?k
   (case a => k_is); (case l => k_is); (case c => k_is); (case k => k_is)
  have a6 : ∃ f fd, Gn.Df (L2.dm I) mg "_law_bad" K25.og f fd := by
   dsimp only [L2.dm]
   refine' Gn.d9 I G ?a ?l ?c ?k
   (case a => k_is); (case l => k_is); (case c => k_is); (case k => k_is)
  have ay : ∃ f fd, Gn.Df (L2.dm I) mg "_law_again" K25.oR f fd := by
   dsimp only [L2.dm]
   refine' Gn.d9 I G ?a ?l ?c ?k
   (case a => k_is); (case l => k_is); (case c => k_is); (case k => k_is)
  have aP : ∃ f fd, Gn.gS (L2.dm I) mg "need_number" K25.kq f fd #[.none] := by
   dsimp only [L2.dm]
   refine' Gn.yD I G ?a ?l ?c ?k ?t
   (case a => k_is); (case l => k_is); (case c => k_is); (case k => k_is); (case t => k_is)
  have ag : ∃ f fd, Gn.gS (L2.dm I) mg "poured" K25.lU f fd #[.none] := by
   dsimp only [L2.dm]
   refine' Gn.yD I G ?a ?l ?c ?k ?t
   (case a => k_is); (case l => k_is); (case c => k_is); (case k => k_is); (case t => k_is)
  refine' K25.El I G a8 ?a ?l ?c ?k fun fd base D => K25.Dz T hC B hS ah az aB aQ aR ai aC aS U aa aT aU aD aE aF aG aH aI aJ aj J ak aV aW aX aY aK ao aL a7 aq ab aM aN ar aO au av ae aZ aw ax af a6 ay aP ag D
  (case a => k_is); (case l => k_is); (case c => k_is); (case k => k_is)
