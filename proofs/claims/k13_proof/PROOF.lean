import PyProof.Rows.All
import Wide.All
import OpenK.AllK
import Wide.FinOn
import PyProof.EqAt
import PyProof.EqKinds
import PyProof.TupleCall
import Lean
import PySem.Challenge.RW_findhall_k13_asks_written
noncomputable section
set_option Elab.async false
set_option linter.all false
set_option compiler.extract_closed false
set_option maxRecDepth 100000
set_option maxHeartbeats 4000000
namespace H13
open PySem PySem.W PyProof.Rows
abbrev pQ : Program := PySem.Challenge.pw_findhall_k13_asks_written
def vQ : Program := PySem.W.view pQ [0, 2, 3, 4, 5, 7, 8, 9, 10, 11, 12, 13, 14, 16, 17, 19, 20, 21, 22, 23, 24, 26, 27, 28, 29, 30, 31, 32, 33, 34, 35, 36, 37, 38, 39, 40, 41, 43, 45, 46, 47, 48, 49, 50, 51, 52, 53, 54, 56, 57, 58, 59, 60, 61, 62, 63, 64, 65, 66, 67, 68, 69, 70, 71, 72, 73, 74, 75]
def lQ : List Str := [Str.ofString "TOLD_LENGTHS", Str.ofString "BEHIND"]
def xQ (s : Shared) : Bool := xlAt vQ [] s && recOk (RowW.records PySem.Challenge.rw_findhall_k13_asks_written.row.toRowW) s
def sQ (w : World) (os : OsState) : Shared := ⟨boot_heap w.params, Array.mk [], boot_drawn, boot_toks, os⟩
def topRunT (tb : String -> Option Builtin) (p : Program) (w : World) (n₀ : Nat) (ann : Option Value) : Nat -> SharedT -> Thread -> Option SharedT
 | 0, _, _ => none
 | n + 1, s, t => match through t with
  | true => some s
  | false => match stepOk n₀ ann t with
   | false => none
   | true => match stepT (denote tb) p w s t with
    | some (s', t') => topRunT tb p w n₀ ann n s' t'
    | none => none
theorem topRun_of {tb : String -> Option Builtin} {p : Program} {w : World} {n₀ : Nat} {ann : Option Value} : ∀ {n : Nat} {s s' : SharedT} {t : Thread}, topRunT tb p w n₀ ann n s t = some s' -> topRun tb p w n₀ ann n s.abs t = some s'.abs
 | 0, _, _, _, h => by cases h
 | n + 1, s, s', t, h => by
  unfold topRunT at h
  unfold topRun
  cases he : through t with
  | true => rw [he] at h; cases h; rfl
  | false =>
   rw [he] at h
   cases hk : stepOk n₀ ann t with
   | false => rw [hk] at h; cases h
   | true =>
    rw [hk] at h
    cases hs : stepT (denote tb) p w s t with
    | none => rw [hs] at h; cases h
    | some r => obtain ⟨s₂, t₂⟩ := r; rw [hs] at h; rw [stepT_spec hs]; exact topRun_of h
def buildT : List Obj -> BT -> Nat -> Option BT
 | [], t, _ => some t
 | o :: r, t, n => match ((t.ins n o).get n).isSome with
  | true => buildT r (t.ins n o) (n + 1)
  | false => none
theorem build_of : ∀ {l : List Obj} {t t' : BT} {n : Nat} (life : Life), buildT l t n = some t' -> absHeap t' (n + l.length) life = ⟨(absHeap t n life).objs ++ l.toArray, life⟩
 | [], t, t', n, life, h => by
  cases h
  show absHeap t n life = _
  unfold absHeap
  simp
 | o :: r, t, t', n, life, h => by
  unfold buildT at h
  cases hs : ((t.ins n o).get n).isSome with
  | false => rw [hs] at h; cases h
  | true =>
   rw [hs] at h
   have e := build_of life h
   rw [show n + (o :: r).length = n + 1 + r.length by rw [List.length_cons]; omega, e, absHeap_ins hs]
   show Heap.mk _ _ = Heap.mk _ _
   congr 1
   show (absHeap t n life).objs.push o ++ r.toArray = (absHeap t n life).objs ++ (o :: r).toArray
   apply Array.ext'
   simp
def annQ (w : World) (os : OsState) : Option Value := (sQ w os).heap.nsMap mainGlobals (Str.ofString "__annotations__")
def topQ (w : World) (os : OsState) : Option Shared := match buildT (boot_heap w.params).objs.toList .nil 0 with
 | none => none
 | some t => (topRunT treeTable pQ w (boot_heap w.params).objs.size (annQ w os) 20000 ⟨t, (boot_heap w.params).objs.size, (boot_heap w.params).life, Array.mk [], boot_drawn, boot_toks, os⟩ (topStub pQ)).map SharedT.abs
theorem topQ_run {w : World} {os : OsState} {s : Shared} (h : topQ w os = some s) : topRun treeTable pQ w (sQ w os).heap.objs.size ((sQ w os).heap.nsMap mainGlobals (Str.ofString "__annotations__")) 20000 (sQ w os) (topStub pQ) = some s := by
 unfold topQ at h
 cases hb : buildT (boot_heap w.params).objs.toList .nil 0 with
 | none => rw [hb] at h; cases h
 | some t =>
  rw [hb] at h
  obtain ⟨x, hx, e⟩ := Option.map_eq_some_iff.mp h
  have q := topRun_of hx
  have a : absHeap t (boot_heap w.params).objs.size (boot_heap w.params).life = boot_heap w.params := by
   have := build_of (boot_heap w.params).life hb
   rw [Nat.zero_add, Array.length_toList] at this
   rw [this]
   show Heap.mk _ _ = _
   have e0 : (absHeap .nil 0 (boot_heap w.params).life).objs = #[] := by unfold absHeap BT.list; simp
   rw [e0]
   simp
  have es : SharedT.abs ⟨t, (boot_heap w.params).objs.size, (boot_heap w.params).life, Array.mk [], boot_drawn, boot_toks, os⟩ = sQ w os := by
   unfold SharedT.abs sQ
   rw [a]
  rw [es] at q
  rw [<- e]
  exact q
def okQ (h : Heap) (s : Shared) : Bool := staticsOk (importedModules pQ.main.body) h s.heap && namesBound pQ s.heap && gensDone s && laidKept h s.heap
def seenQ (s : Shared) := openSeen vQ lQ (importedModules pQ.main.body) xQ true s
def goodQ := openGood vQ lQ
def ok9 (w : World) (os : OsState) (s : Shared) : Bool := okQ (boot_heap w.params) s && ((sQ w os).heap.isNs mainGlobals && (sQ w os).gens.size == 0)
def seenA (s : Shared) := (fun x => (x.1, x.2.1, x.2.2.1, x.2.2.2.1, x.2.2.2.2.1, x.2.2.2.2.2.1, x.2.2.2.2.2.2.1, x.2.2.2.2.2.2.2.1, x.2.2.2.2.2.2.2.2)) (seenQ s)
def goodA := (true, (fun x => (x.1, x.2.1, x.2.2.1, x.2.2.2.1, x.2.2.2.2.1, x.2.2.2.2.2.1, x.2.2.2.2.2.2.1, x.2.2.2.2.2.2.2.1, x.2.2.2.2.2.2.2.2)) goodQ)
def runA (w : World) (os : OsState) := (topQ w os).map fun s => (ok9 w os s, seenA s)
def runK (as : List Nat) (w : World) (os : OsState) := (topQ w os).map fun s => as.map s.heap.get?
def _root_.PySem.W.Fast.tw14598715356260435866 := PySem.W.boot_o_0
theorem _root_.PySem.W.Fast.te14598715356260435866 : PySem.W.boot_o_0 = PySem.W.Fast.tw14598715356260435866 := rfl
def _root_.PySem.W.Fast.tw15206149664975928935 := PySem.Challenge.pw_findhall_k13_asks_written
theorem _root_.PySem.W.Fast.te15206149664975928935 : PySem.Challenge.pw_findhall_k13_asks_written = PySem.W.Fast.tw15206149664975928935 := rfl
lay_quick runA goodA
theorem hA0 : ∀ w os, PySem.W.Fast.tw2950362555844286997 (World.withFollow w "special-get-raises" false) os = some PySem.W.Fast.tw7600713767559432141 := fun w os => by kernel_rfl
theorem hA1 : ∀ w os, PySem.W.Fast.tw2950362555844286997 (World.withFollow w "special-get-raises" true) os = some PySem.W.Fast.tw7600713767559432141 := fun w os => by kernel_rfl
lay_quick runK
theorem rA (w : World) (os : OsState) : runA w os = some goodA := by
 have k : ∀ b, runA (World.withFollow w "special-get-raises" b) os = some goodA := fun b => by
  rw [PySem.W.Fast.te2950362555844286997, PySem.W.Fast.te7600713767559432141]
  cases b
  ·exact hA0 w os
  ·exact hA1 w os
 have := k (w.params.followText "special-get-raises")
 rwa [World.withFollow_self] at this
theorem spl {as : List Nat} {V : World -> List (Option Obj)} {w : World} {os : OsState} (k : ∀ b, PySem.W.Fast.tw4018855459578168484 as (World.withFollow w "special-get-raises" b) os = some (V (World.withFollow w "special-get-raises" b))) : PySem.W.Fast.tw4018855459578168484 as w os = some (V w) := by
 have := k (w.params.followText "special-get-raises")
 rwa [World.withFollow_self] at this
theorem topFrom_some {tb : String -> Option Builtin} {p : Program} {w : World} {N : Nat} {s0 s : Shared} (h1 : (s0.heap.isNs mainGlobals && s0.gens.size == 0) = true) (h2 : topRun tb p w s0.heap.objs.size (s0.heap.nsMap mainGlobals (Str.ofString "__annotations__")) N s0 (topStub p) = some s)
  (h3 : (staticsOk (importedModules p.main.body) s0.heap s.heap && namesBound p s.heap && gensDone s && laidKept s0.heap s.heap) = true) : topFrom tb p w N s0 = some s := by
 unfold topFrom
 rw [h1]
 dsimp only
 rw [h2]
 dsimp only [Option.bind]
 rw [h3]
theorem openEnds_some {tb : String -> Option Builtin} {p : Program} {w : World} {N : Nat} {s0 s : Shared} (a : fencedOpening tb p w N = some s0) (b : topFrom tb p w N s0 = some s) : openEnds tb p w N = some s := by
 unfold openEnds
 rw [a]
 exact b
theorem map_at {α β : Type} {o : Option α} {s : α} {f : α -> β} {b : β} (h : o = some s) (e : o.map f = some b) : f s = b := by
 subst h
 exact Option.some.inj e
theorem map_some' {α β : Type} {o : Option α} {f : α -> β} {b : β} (e : o.map f = some b) : ∃ s, o = some s := by
 cases o with
 | none => cases e
 | some s => exact ⟨s, rfl⟩
theorem pair_of {α β σ : Type} {f : σ -> α} {g : σ -> β} {o : Option σ} {s : σ} {a : α} {b : β} (e : o = some s) (h1 : f s = a) (h2 : g s = b) : o.map (fun s => (f s, g s)) = some (a, b) := by
 subst e
 subst h1
 subst h2
 rfl
theorem sh_eq {s : Shared} {h : Heap} {g : Array GenState} {d : Drawn} {k : Nat} (a : s.heap = h) (b : s.gens = g) (c : s.drawn = d) (e : s.toks = k) : s = ⟨h, g, d, k, s.os⟩ := by
 cases s
 cases a
 cases b
 cases c
 cases e
 rfl
theorem opQ : opening pQ = plainProg pQ.main.scope.names := by kernel_rfl
theorem feQ (s : Shared) : fenceModules? pQ s = some s := by kernel_rfl
theorem seen_eq {s : Shared} (aA : seenA s = goodA.2) : seenQ s = goodQ :=
 Prod.ext (congrArg (fun y => y.1) aA) (Prod.ext (congrArg (fun y => y.2.1) aA) (Prod.ext (congrArg (fun y => y.2.2.1) aA) (Prod.ext (congrArg (fun y => y.2.2.2.1) aA) (Prod.ext (congrArg (fun y => y.2.2.2.2.1) aA) (Prod.ext (congrArg (fun y => y.2.2.2.2.2.1) aA) (Prod.ext (congrArg (fun y => y.2.2.2.2.2.2.1) aA) (Prod.ext (congrArg (fun y => y.2.2.2.2.2.2.2.1) aA) ((congrArg (fun y => y.2.2.2.2.2.2.2.2) aA)))))))))
theorem end_of {as : List Nat} {V : World -> List (Option Obj)} {w : World} {os : OsState} {s : Shared} (ht : topQ w os = some s) (hs0 : fencedOpening treeTable pQ w 20000 = some (sQ w os)) (e : runK as w os = some (V w)) :
  openEnds treeTable pQ w 20000 = some s /\ seenQ s = goodQ /\ as.map s.heap.get? = V w := by
 have d0 := map_at (f := fun (s : Shared) => (ok9 w os s, seenA s)) ht (rA w os)
 have d1 : ok9 w os s = true := congrArg (fun y => y.1) d0
 have dA : seenA s = goodA.2 := congrArg (fun y => y.2) d0
 obtain ⟨d2, d3⟩ := Bool.and_eq_true_iff.mp d1
 exact ⟨openEnds_some hs0 (topFrom_some d3 (topQ_run ht) d2), seen_eq dA , map_at (f := fun (s : Shared) => as.map s.heap.get?) ht e⟩
theorem hl_of {as : List Nat} {V : World -> List (Option Obj)} (h : ∀ w os, PySem.W.Fast.tw4018855459578168484 as w os = some (V w)) : LeftO pQ vQ lQ xQ (fun s => as.map s.heap.get?) V 20000 := fun w => by
 obtain ⟨s0, hs0, hv⟩ := Option.map_eq_some_iff.mp (boot_open (p := pQ) (N := 20000) opQ rfl feQ w)
 have es : s0 = sQ w s0.os := sh_eq (congrArg (fun x => x.1) hv) (congrArg (fun x => x.2.1) hv) (congrArg (fun x => x.2.2.1) hv) (congrArg (fun x => x.2.2.2) hv)
 rw [es] at hs0
 obtain ⟨s, ht⟩ := map_some' (rA w s0.os)
 have e : runK as w s0.os = some (V w) := by rw [PySem.W.Fast.te4018855459578168484]; exact h w s0.os
 obtain ⟨e1, e2, e3⟩ := end_of ht hs0 e
 exact pair_of (f := seenQ) (g := fun s => as.map s.heap.get?) (a := goodQ) e1 e2 e3
theorem dry {p : Prop} (_ : True) (h : p) : p := h
end H13
section
open PySem PySem.W PyProof.Rows
local macro_rules | `(tactic| o_head $H:term) => `(tactic| refine H13.dry ?hw ?hc)
local macro_rules | `(tactic| w_witness2) => `(tactic| trivial)
open_top H13.pre for PySem.Challenge.rw_findhall_k13_asks_written
end
namespace H13
open PySem PySem.W PyProof.Rows
noncomputable def asQ : List Addr := [2, 3, 15, 17, 18, 20, 21, 22, 29, 30, 31, 32, 35, 42, 43, 44, 47, 54, 55, 56, 59, 66, 68, 69, 71, 72, 73, 74, 75, 78, 80, 81, 83, 84, 85, 87, 88, 90, 91, 92, 95, 96, 97, 100, 101, 102, 104, 105, 107, 108, 109, 111, 112, 114, 115, 116, 117, 118, 120, 121, 123, 124, 132, 134, 135, 137, 138, 139, 141, 142, 144, 145, 146, 148, 149, 151, 152, 153, 154, 155, 156, 157, 160, 167, 169, 170, 172, 173, 174, 176, 177, 179, 180, 181, 183, 184, 186, 187, 188, 190, 191, 193, 194, 195, 196, 197, 200, 207, 209, 210, 212, 213, 214, 216, 217, 219, 220, 221, 223, 224, 226, 227, 228, 230, 231, 233, 234, 235, 236, 237, 240, 247, 249, 250, 252, 253, 254, 256, 257, 259, 260, 261, 263, 264, 266, 267, 268, 270, 271, 273, 274, 275, 276, 277, 280, 287, 289, 290, 292, 293, 294, 296, 297, 299, 300, 301, 303, 304, 306, 307, 308, 310, 311, 313, 314, 315, 317, 318, 320, 321, 322, 323, 324, 327, 334, 336, 337, 339, 340, 341, 343, 344, 346, 347, 348, 350, 351, 353, 354, 355, 357, 358, 360, 361, 362, 364, 365, 367, 368, 369, 371, 372, 374, 375, 376, 378, 379, 381, 382, 383, 384, 385, 388, 395, 397, 398, 400, 401, 402, 404, 405, 407, 408, 409, 411, 412, 414, 415, 416, 418, 419, 421, 422, 423, 425, 426, 428, 429, 430, 432, 433, 435, 436, 437, 439, 440, 442, 443, 444, 445, 446, 449, 456, 458, 459, 461, 462, 463, 465, 466, 468, 469, 470, 472, 473, 475, 476, 477, 479, 480, 482, 483, 484, 486, 487, 489, 490, 491, 493, 494, 496, 497, 498, 500, 501, 503, 504, 505, 506, 507, 510, 512, 513, 515, 516, 517, 519, 520, 522, 523, 524, 527, 528, 529, 531, 532, 534, 535, 536, 538, 539, 541, 542, 543, 546, 547, 548, 550, 551, 553, 554, 555, 556, 557, 558, 559, 560, 561, 562, 563, 564, 566, 567, 569, 570, 571, 573, 574, 576, 577, 578, 580, 581, 583, 584, 585, 587, 588, 590, 591, 592, 595, 596, 597, 599, 600, 602, 603, 604, 606, 607, 609, 610, 618, 620, 621, 623, 624, 625, 627, 628, 630, 631, 632, 634, 635, 637, 638, 639, 641, 642, 644, 645, 646, 648, 649, 651, 652, 653, 654, 655, 656, 657, 667, 669, 670, 672, 673, 674, 676, 677, 679, 680, 681, 683, 684, 686, 687, 688, 690, 691, 693, 694, 695, 697, 698, 700, 701, 702, 704, 705, 707, 708, 709, 710, 711, 712, 713, 716, 718, 719, 721, 722, 723, 725, 726, 728, 729, 730, 732, 733, 735, 736, 737, 740, 741, 742, 745, 746, 747, 749, 750, 752, 753, 754, 756, 757, 759, 760, 761, 763, 764, 766, 767, 768, 771, 772, 773, 776, 777, 778, 780, 781, 783, 784, 785, 787, 788, 790, 791, 792, 795, 796, 797, 799, 800, 802, 803, 804, 806, 807, 809, 810, 811, 813, 814, 816, 817, 818, 820, 821, 823, 824, 825, 828, 829, 830, 832, 833, 835, 836, 837, 839, 840, 842, 843, 844, 846, 847, 849, 850]
noncomputable abbrev hkQ : Hook := kHook H13.pre.heap_39 asQ (fun _ => by kernel_rfl)
theorem kF : ∀ w os, PySem.W.Fast.tw4018855459578168484 asQ (World.withFollow w "special-get-raises" false) os = some (Hook.val hkQ (World.withFollow w "special-get-raises" false)) := fun w os => by kernel_rfl
theorem kT : ∀ w os, PySem.W.Fast.tw4018855459578168484 asQ (World.withFollow w "special-get-raises" true) os = some (Hook.val hkQ (World.withFollow w "special-get-raises" true)) := fun w os => by kernel_rfl
theorem kB (w : World) (os : OsState) : ∀ b, PySem.W.Fast.tw4018855459578168484 asQ (World.withFollow w "special-get-raises" b) os = some (Hook.val hkQ (World.withFollow w "special-get-raises" b))
 | false => kF w os
 | true => kT w os
end H13
section
open PySem PySem.W PyProof.Rows
local macro_rules | `(tactic| o_head $H:term) => `(tactic|
 refine holds_open
  (q := H13.vQ) (loose := H13.lQ)
  (Xt := H13.xQ) (XP := XL H13.vQ [])
  (Yf := Hook.obs H13.hkQ)
  (Ya := Hook.val H13.hkQ) (YP := Hook.says H13.hkQ)
  (N := 20000)
  (H13.hl_of fun w os => H13.spl (H13.kB w os))
  (Hook.of H13.hkQ) (Hook.keeps H13.hkQ)
  (fun s e => xl_of s (Bool.and_eq_true_iff.mp e).1)
  XL.keeps rfl rfl rfl
  (fun s e => recFacts_of (Bool.and_eq_true_iff.mp e).2)
  rfl
  (by first | assumption | decide +kernel)
  (by decide +kernel)
  ⟨rfl, rfl, rfl, rfl, rfl, by decide +kernel⟩
  ?hw ?hc)
open_top H13.head for PySem.Challenge.rw_findhall_k13_asks_written
end
open PySem.Str renaming ofString→JO,length_append→L3,length→N3,join→Pa
open _root_ renaming List→JP,decide_eq_false→JQ,decide_eq_true→JS,Option→JW,if_pos→J1,Bool→KS,congrArg→K9,False→LG,DecidableEq→LY,of_decide_eq_true→LZ,String→Mx,Array→MM,decide_eq_true_eq→MR,or_false→N4,True→O3
open PySem renaming Addr→JR,Value→JT,Shared→JZ,FuncData→J2,wpAny_bind→J8,Program→Ka,mainGlobals→Kc,PyData→Kf,model→Ko,wpAny→Kq,World→Ku,sizeLine_eq→Kv,starEach→KA,Expr→KI,wpAny_pure→KN,Heap→KP,Spec→KQ,wpAny_mono→KY,Stmt→K0,Around→K4,Paired→Lo,bootBuiltins→Lp,compareOp→Lz,wpAny_truthy_bool→LD,mem_of_lookup→LO,wpAny_Call_Name_kw→LU,noteFrame→L0,wpAny_passesOwn→Mb,foldedSetIterable→Me,sysModules→Mg,backTo→Mh,bindName→Mm,wpAny_bindName→Mn,wpAny_getItem_str_slice→Mp,assignInOrder→MG,wpAny_standAt→MH,attributeBase→MI,wpAny_newObj_type→MN,Scope→MS,NameKind→MV,call_meets→MY,wpAny_execs_cons→M4,wpAny_execs_nil→Nb,letOwnedTupleGo→Nc,typeIs_str→Nf,codeAny_mono→Nj,codeAny→Nz,strIterType→NF,post_val_or_str→NJ,assignEach→NY,wpAny_newFunctionEnv_cells→N2,wpAny_Assign_Name→N8,wpAny_pyIter_list→Oa,keywordEach→Ob,list_append→Oc,swapsWithSole→Of,swappedStores→Og,behindInMarks→Oh,wpAny_toks_of→Oj,swapsWith→Ol,binaryOp→Oo,setFlight→Ov,valueAt→OD,exec_Assign_arm→OH,recursionLimit→OR,subscripted→OS,compEnvC→OT,wpAny_field→OU,holding→OZ,getMethod→O0,BindsTo→O1,callerA→O2,wpAny_call→O4,Operator→O5,backToKw→O6,getItem→O7,compPost→O8,handleBy→O9,cLine→Pc
open List renaming length_append→JU,length_cons→JV,length_map→JX,mem_cons_of_mem→J0,map_append→J5,reverse_cons→Ke,mem_append_right→Ki,size_toArray→Kk,append_assoc→Kt,mem_cons_self→KG,length_drop→KH,append_nil→KR,map_cons→KU,length_reverse→K8,drop_eq_getElem_cons→Lb,take_add_one→Lk,mem_append_left→Ll,dropLast_concat→Ln,take_of_length_le→Lq,length_take→Lr,lookup_cons→Lu,count_cons_of_ne→Lv,map_map→LB,takeWhile_cons→LC,range→LL,not_mem_nil→LW,filter_cons→LX,mem_cons→L5,take_left→L8,filter_append→L9,length_replicate→Ma,length_nil→Mc,count_cons_self→Mf,take_length→Mq,drop_length→Ms,lookup→Mv,length→Mw,drop_of_length_le→MD,length_filter_le→ML,drop_drop→M0,getElem_mem→M5,map_congr_left→M7,all_cons→M9,count_cons→Nd,count_append→Nl,set_comm→Ny,sum_cons→NC,drop_append_of_le_length→NG,of_mem_zip→NI,sum_append→NK,nil_append→NL,takeWhile_append_of_pos→NN,filterMap_cons→NO,any_cons→Oi,map_nil→OC,all_map→OE,map_id'→OF,all_append→OK,drop_left→OV,drop_zero→OW
open Nat renaming le_refl→JY,le_of_ble_eq_true→J9,le_trans→Kj,lt_of_lt_of_le→Km,ne_of_lt→Kr,zero_le→Ks,lt_irrefl→Kw,le_succ_of_le→Kz,add_sub_cancel_left→Lj,lt_succ_self→LJ,pow_le_pow_right→LK,ble_eq_true_of_le→LS,min_le_right→LV,lt_succ_of_lt→MP,le_succ→MU,le_of_lt→M3,succ_le_succ→M6,lt_of_le_of_lt→N5,ne_of_gt→OA,le_add_left→ON
open Bool renaming false_ne_true→J3,and_eq_true→Lc,not_eq_true'→MQ,and_false→MZ,eq_iff_iff→NH,false_and→NZ,or_eq_true→OJ
open PySem.W renaming Frag→J7,Frag→Kl,findIn→Li,kitAny→Lm,kitOne→Lw,nsIn→Lx,mg_of→LF,mg_none_of→LN,emptyDict→Mu,keepIn→ME,kia_one→MJ,fnOf→Nk,instObj→Nv,callWith_K→NR,hideAll→NV,codeIn→N1,cellsFrom_some→Oq,of_hideAll→Oz,plainGet→OB,methodCall_KW→OI,hideAll_none→OP,hasDictIn→OQ
open PySem.Heap renaming lt_size→Kb,SameBut→Md,size_push→Mo,FlyingW→NS
open Option.some renaming inj→Kg
open Or renaming inl→Kh,inr→Pb
open PySem.F renaming plainAttrs_list→Kp,excBase_ValueError→Kx,slot_list_append→KO,type_list_append→K6,plainAttrs_str→LA,slot_list_pop→LP,type_list_pop→L4,slot_str_split→Mr,entry_str_split→Np,slot_list_count→Nq,type_list_count→Nr,args_list_append_2→ND,entry_list_append→NP,args_str_split_2→N7,slot_str_lower→Ow,type_str_lower→Ox,slot_str_join→OL,type_str_join→OM
open PySem.Value renaming ref→Ky,none→My,int→Nu,str→NU,bool→Oy
open PySem.PyData renaming strOk→KW,tuple→Ld,keyHash→Le,canLayAll0→LM,str→MC,eqv→Nx,depthAll→OO
open PySem.PassesOwn renaming never→KZ
open PySem.NameKind renaming free→K2,cell→NB
open Ne renaming symm→K5
open PySem.Builtin.Str renaming occurrences→K7,strSliceIndices→Lh,spaceWords→Nn,glued→Od
open False renaming elim→La
open PySem.Obj renaming mapFields→Lg,mapSeq→Nw
open Int renaming emod_lt_of_pos→Ly,emod_nonneg→LR,toNat_of_nonneg→Ml,toNat_natCast→Oe,zero_add→OG
open PyProof.Rows renaming assignInOrder_cons→LH,envOfC→Mz,callWith_type1→MO,assignInOrder_nil→Nh,AllBare→NQ,unpackItems_tuple→N9
open ForInStep renaming yield→LQ
open PySem.Calls renaming spliced_cons→L6,callWith_builtin→MA,evalArgs_plain→MX,spliced_nil→Ni,Constant_str→NW,Name_function_global→NX
open PySem.StrLaws renaming sliceText_to→L7,found_one→Ng,glued_eq_join→Nt,sliceText_nat→NT
open True renaming intro→Mi
open PySem.Builtin.Int renaming intBits→Mj
open PySem.Paired renaming length→M8
open PySem.Builtin.List renaming listTooLong→Na
open PySem.KWd renaming step→N6
open PySem.Flow renaming next→Om
open PySem.IsL renaming update→Ot
open PySem.W.WData renaming int→Ou
open Sum renaming inl→OX,inr→OY
namespace L2
open PySem PySem.Spec PyProof.Rows
theorem _root_.dkq {p:Prop} [Decidable p] (h:decide p=true:=by kernel_rfl):p:=LZ h
noncomputable abbrev Key:=Sum Int Str
noncomputable def nQ:Key->JT->KS
 |.inl k,v=>Value.isInt k v
 |.inr x,v=>Value.isStrOf x v
noncomputable def HF(w:Ku):Key->Int
 |.inl k=>hashInt k
 |.inr x=>hashStr w x
theorem jT:∀{k:Key} {v:JT},nQ k v=true->(∃ i t,k=OX i/\v=Nu i t)\/(∃ x t,k=OY x/\v=NU x t)
 |.inl i,v,h=>by
  obtain⟨t,e⟩:=Value.isInt_shape (k:=i) (v:=v) h;exact .inl ⟨i,t,rfl,e⟩
 |.inr x,v,h=>by
  obtain⟨t,e⟩:=Value.isStrOf_shape (x:=x) (v:=v) h;exact .inr ⟨x,t,rfl,e⟩
theorem Hi(i:Int)(t:Tok):nQ (.inl i) (.int i t)=true:=by simp[nQ,Value.isInt]
theorem eV(x:Str)(t:Tok):nQ (.inr x) (.str x t)=true:=by simp[nQ,Value.isStrOf]
theorem Ik(a b:Int):decide ((OX a:Key)=OX b)=(a==b):=by
 by_cases e:a=b
 ·subst e;simp
 ·have h:¬ (OX a:Key)=OX b:=λq=>e (Sum.inl.inj q)
  rw[JQ h];exact(beq_eq_false_iff_ne.mpr e).symm
theorem Jn(a b:Str):decide ((OY a:Key)=OY b)=decide (a=b):=by
 by_cases e:a=b
 ·subst e;simp
 ·have h:¬ (OY a:Key)=OY b:=λq=>e (Sum.inr.inj q)
  rw[JQ h,JQ e]
theorem Ec(a:Int)(b:Str):decide ((OX a:Key)=OY b)=false:=JQ (λq=>nomatch q)
theorem Ht(a:Str)(b:Int):decide ((OY a:Key)=OX b)=false:=JQ (λq=>nomatch q)
noncomputable def g7(prog:Ka)(w:Ku):PySem.KeyKind prog w Key where
 is:=nQ
 hash:=HF w
 inj:=λv a b ha hb=>by
  rcases jT ha with ⟨i,t,rfl,rfl⟩|⟨x,t,rfl,rfl⟩
  ·rcases jT hb with ⟨j,u,rfl,e⟩|⟨y,u,rfl,e⟩
   ·injection e with e1 _;rw[e1]
   ·exact nomatch e
  ·rcases jT hb with ⟨j,u,rfl,e⟩|⟨y,u,rfl,e⟩
   ·exact nomatch e
   ·injection e with e1 _;rw[e1]
 byValue:=λk v h=>by
  rcases jT h with ⟨i,t,rfl,rfl⟩|⟨x,t,rfl,rfl⟩<;>rfl
 pyHash:=λJ h=>by
  rcases jT J with ⟨i,t,rfl,rfl⟩|⟨x,t,rfl,rfl⟩
  ·exact wpAny_pyHash_int h
  ·exact wpAny_pyHash_str h
 eqBool:=λU J h=>by
  rcases jT U with ⟨i,t,rfl,rfl⟩|⟨x,t,rfl,rfl⟩
  ·rcases jT J with ⟨j,u,rfl,rfl⟩|⟨y,u,rfl,rfl⟩
   ·rw[Ik] at h;exact wpAny_eqBool_int h
   ·rw[Ec] at h;exact SeqAt.EqAt.int_str i t y u _ _ _ _ h
  ·rcases jT J with ⟨j,u,rfl,rfl⟩|⟨y,u,rfl,rfl⟩
   ·rw[Ht] at h;exact SeqAt.EqAt.str_int x t j u _ _ _ _ h
   ·rw[Jn] at h;exact wpAny_eqBool_str h
 «strs»:=λk x t v h=>by
  rcases jT h with ⟨i,u,rfl,e⟩|⟨y,u,rfl,e⟩
  ·exact nomatch e
  ·injection e with e1 _;subst e1;cases v<;>rfl
theorem EN(prog:Ka)(w:Ku)(i:Int)(t:Tok):(g7 prog w).is (.inl i) (.int i t)=true:=Hi i t
theorem FC(prog:Ka)(w:Ku)(x:Str)(t:Tok):(g7 prog w).is (.inr x) (.str x t)=true:=eV x t
inductive V where
 |non|bl (b : KS)|int (i : Int)|str (x : Str)|byt (b : MM UInt8)|flt (b : UInt64)|ref (a : JR)|ty (n : Mx)
 deriving LY
noncomputable def RelV:V->JT->Prop
 |.non,u=>u=My
 |.bl b,u=>u=Oy b
 |.int i,u=>∃ t,u=Nu i t
 |.str x,u=>∃ t,u=NU x t
 |.byt b,u=>∃ t,u=Value.bytes b t
 |.flt b,u=>∃ t,u=Value.float b t
 |.ref a,u=>u=Ky a
 |.ty n,u=>u=Value.type n
noncomputable abbrev Vals:JP V->JP JT->Prop:=Lo RelV
theorem Vals.length {xs:JP V}{us:JP JT}(r:Vals xs us):xs.length=us.length:=M8 r
theorem Vals.get:∀{xs:JP V} {us:JP JT} {i:Nat} {x:V},Vals xs us->xs[i]? =some x->∃ u,us[i]? =some u/\RelV x u
 |_,_,_,_,.nil,e=>by simp at e
 |_,_,0,_,.cons r _,e=>by simp at e;subst e;exact⟨_,rfl,r⟩
 |_,_,i+1,x,.cons _ t,e=>by
  obtain⟨u,h1,h2⟩:=Vals.get (i:=i) (x:=x) t (by simpa using e);exact⟨u,by simpa using h1,h2⟩
theorem Vals.set {x:V}{u:JT}(r:RelV x u):∀{xs:JP V} {us:JP JT} (i:Nat),Vals xs us->Vals (xs.set i x) (us.set i u)
 |_,_,_,.nil=> .nil
 |_,_,0,.cons _ t=> .cons r t
 |_,_,i+1,.cons q t=> .cons q (Vals.set r i t)
theorem Vals.append:∀{xs ys:JP V} {us ws:JP JT},Vals xs us->Vals ys ws->Vals (xs++ys) (us++ws)
 |_,_,_,_,.nil,s=>s
 |_,_,_,_,.cons r t,s=> .cons r (Vals.append t s)
noncomputable def gY:JW V->JW JT->Prop
 |some v,some u=>RelV v u
 |none,none=>O3
 |_,_=>LG
noncomputable def KV{κ:Type}:JP (κ×V)->JP (κ×JT)->Prop:=Lo λ(p:κ×V) (q:κ×JT)=>p.1=q.1/\RelV p.2 q.2
noncomputable def kV:Key->V
 |.inl i=> .int i
 |.inr x=> .str x
inductive HO where
 |lst (xs : JP V)
 |tup (xs : JP V)
 |dK (kvs : JP (Key × V))|dT (kvs : JP (JP Key × V))
 |set (S : Int -> KS) (n : Nat)
 |ins (C dx : JR) (fs : JP (Str × V))
 |own (x : JR)
 |xd (fs : JP (Str × V))
 |met (f x : JR)
 |rng (lo hi : Int)
 |frz (o : Obj) (u : HO)
 |tbl (ps : MM JT)
 |ext (φ : KP -> Prop)
noncomputable abbrev Hp:=JR->JW HO
noncomputable def upd(H:Hp)(a:JR)(o:HO):Hp:=λb=>if b=a then some o else H b
theorem b6{H:Hp}{a:JR}{o:HO}:upd H a o a=some o:=by unfold upd;rw[J1 rfl]
theorem cF{H:Hp}{a b:JR}{o:HO}(h:b≠a):upd H a o b=H b:=by unfold upd;rw[if_neg h]
theorem qL{H:Hp}{a:JR}{o u:HO}:upd (upd H a o) a u=upd H a u:=by
 funext b;unfold upd;split<;>rfl
theorem r9{H:Hp}{a b:JR}{o u:HO}(h:H a=some o)(h':H b=some u)(d:o≠u):a≠b:=by
 intro e;subst e;rw[h] at h';exact d (Kg h')
theorem dM{H:Hp}{a b:JR}{o:HO}(h:H a=some o)(h':H b=none):a≠b:=by
 intro e;subst e;rw[h] at h';cases h'
section
variable (P : Ka) (w : Ku)
noncomputable def e6(H:Hp)(h:KP)(a:JR):HO->Prop
 |.lst xs=>xs.length<=sizeLine/\∃(J:JP JT) (n:Nat),Vals xs J/\h.get? a=some {cls:= .type "list",data:= .seq J.toArray n}
 |.tup xs=>xs.length<=sizeLine/\∃ J:JP JT,Vals xs J/\IsTup h a J.toArray
 |.dK kvs=>kvs.length<=sizeLine/\(a==Mg)=false/\∃ vs,KV kvs vs/\h.DictOf (g7 P w) a vs
 |.dT kvs=>kvs.length<=sizeLine/\(a==Mg)=false/\∃ xs:JP (JP Key×JR×JT),
   Lo (λ(p:JP Key×V) (q:JP Key×JR×JT)=>p.1=q.1/\H q.2.1=some (.tup (p.1.map kV))/\RelV p.2 q.2.2) kvs xs/\
   ∃ o es I,h.get? a=some o/\o.ExactDict/\o.data= .dict es I/\es.toList=xs.map (entryOfKey (tupleKind (g7 P w)))/\(xs.map (·.1)).Nodup
 |.set S n=>h.SetOf (intKind P w) a S n
 |.ins C dx fs=>H dx=some (.own a)/\fs.length<=1000/\dx≠a/\h.get? a=some (Nv C dx)/\
   ∃ mA,h.Ns1 dx mA/\(∀ f,gY (fs.lookup f) (mA f))/\PySem.Within mA (fs.map (·.1))
 |.own _=>∃ o,h.get? a=some o
 |.xd fs=>∃ mA,h.Ns1 a mA/\∀ f,gY (fs.lookup f) (mA f)
 |.rng lo hi=>∃ t u v,h.get? a=some {cls:= .type "range",data:= .fields #[.int lo t,.int hi u,.int 1 v]}
 |.frz o u=>h.get? a=some o/\e6 H h a u
 |.tbl ps=>h.get? a=some {cls:= .none,data:= .fields ps}
 |.met f x=>h.get? a=some (W.methodObj (.ref f) (.ref x))
 |.ext U=>U h/\(∃ o,h.get? a=some o)/\∀ h1 h2:KP,U h1->(∀ o,h1.get? a=some o->h2.get? a=some o)->U h2
noncomputable def eJ(H:Hp)(h:KP):Prop:=∀ a o,H a=some o->e6 P w H h a o
end
section
variable {P : Ka} {w : Ku} {H H' : Hp} {h h' : KP} {a : JR} {o : HO}
theorem e6.lt (x:e6 P w H h a o):a<h.objs.size:=by
 cases o with
 |lst xs=>obtain⟨_,_,_,_,e⟩:=x;exact Kb e
 |tup xs=>obtain⟨_,_,_,p⟩:=x;exact p.lt
 |dK kvs=>obtain⟨_,_,_,_,o,_,_,e,_⟩:=x;exact Kb e
 |dT kvs=>obtain⟨_,_,_,_,o,_,_,e,_⟩:=x;exact Kb e
 |set S n=>obtain⟨o,_,_,_,e,_⟩:=x;exact Kb e
 |ins C dx fs=>obtain⟨_,_,_,e,_⟩:=x;exact Kb e
 |own y=>obtain⟨_,e⟩:=x;exact Kb e
 |xd fs=>obtain⟨_,⟨_,_,_,e,_⟩,_⟩:=x;exact Kb e
 |rng lo hi=>obtain⟨_,_,_,e⟩:=x;exact Kb e
 |frz ob u=>obtain⟨e,_⟩:=x;exact Kb e
 |tbl ps=>exact Kb (show h.get? a=some _ from x)
 |met f y=>exact Kb (show h.get? a=some _ from x)
 |ext J=>obtain⟨_,⟨_,e⟩,_⟩:=x;exact Kb e
theorem Paired.mapP {α β:Type}{F G:α->β->Prop}:∀{l₁:JP α} {l₂:JP β},Lo F l₁ l₂->(∀ a b,F a b->G a b)->Lo G l₁ l₂
 |_,_,.nil,_=> .nil
 |_,_,.cons r t,f=> .cons (f _ _ r) (Paired.mapP t f)
theorem e6.stay (x:e6 P w H h a o)(k:∀ b u,(b=a\/H b=some (.own a))->h.get? b=some u->h'.get? b=some u)
  (ho:∀ b,H b=some (.own a)->H' b=some (.own a))(ht:∀ b xs,H b=some (.tup xs)->H' b=some (.tup xs)):e6 P w H' h' a o:=by
 induction o with
 |lst xs=>obtain⟨z,U,n,r,e⟩:=x;exact⟨z,U,n,r,k _ _ (.inl rfl) e⟩
 |tup xs=>obtain⟨z,U,r,ob,e,c⟩:=x;exact⟨z,U,r,ob,k _ _ (.inl rfl) e,c⟩
 |dK kvs=>obtain⟨z,y,vs,r,ob,es,J,e,c⟩:=x;exact⟨z,y,vs,r,ob,es,J,k _ _ (.inl rfl) e,c⟩
 |dT kvs=>
  obtain⟨z,y,xs,r,ob,es,J,e,c⟩:=x;exact⟨z,y,xs,Paired.mapP r λp q z=>⟨z.1,ht _ _ z.2.1,z.2.2⟩,ob,es,J,k _ _ (.inl rfl) e,c⟩
 |set S n=>obtain⟨ob,es,J,t,e,c⟩:=x;exact⟨ob,es,J,t,k _ _ (.inl rfl) e,c⟩
 |ins C dx fs=>
  obtain⟨d,z,ne,e,mA,⟨I,es,J,e2,c⟩,r⟩:=x;exact⟨ho _ d,z,ne,k _ _ (.inl rfl) e,mA,⟨I,es,J,k _ _ (.inr d) e2,c⟩,r⟩
 |own y=>obtain⟨ob,e⟩:=x;exact⟨ob,k _ _ (.inl rfl) e⟩
 |xd fs=>obtain⟨mA,⟨I,es,J,e,c⟩,r⟩:=x;exact⟨mA,⟨I,es,J,k _ _ (.inl rfl) e,c⟩,r⟩
 |rng lo hi=>obtain⟨t,u,v,e⟩:=x;exact⟨t,u,v,k _ _ (.inl rfl) e⟩
 |frz ob u ih=>obtain⟨e,q⟩:=x;exact⟨k _ _ (.inl rfl) e,ih q⟩
 |tbl ps=>
  have e:h.get? a=some {cls:= .none,data:= .fields ps}:=x
  show h'.get? a=some {cls:= .none,data:= .fields ps};exact k a _ (.inl rfl) e
 |met f y=>
  have e:h.get? a=some (W.methodObj (.ref f) (.ref y)):=x
  show h'.get? a=some (W.methodObj (.ref f) (.ref y));exact k a _ (.inl rfl) e
 |ext φ=>obtain⟨p,⟨o,e⟩,st⟩:=x;exact⟨st _ _ p λo q=>k _ _ (.inl rfl) q,⟨o,k _ _ (.inl rfl) e⟩,st⟩
theorem eJ.lt (x:eJ P w H h)(e:H a=some o):a<h.objs.size:=(x a o e).lt
theorem eJ.fresh (x:eJ P w H h)(e:h.objs.size<=a):H a=none:=by
 cases q:H a with
 |none=>rfl
 |some u=>exact absurd (Km (x.lt q) e) (Kw _)
theorem eJ.kept (x:eJ P w H h)(k:∀ b u,h.get? b=some u->h'.get? b=some u):eJ P w H h':=λa o e=>
 (x a o e).stay (λb u _ q=>k b u q) (λ_ q=>q) λ_ _ q=>q
theorem eJ.laid (x:eJ P w H h)(k:∀ b u,h.get? b=some u->h'.get? b=some u)(hp:h.objs.size<=a)(new:e6 P w (upd H a o) h' a o):eJ P w (upd H a o) h':=λb u e=>by
 have hn:=x.fresh hp;by_cases hb:b=a
 ·subst hb;rw[b6] at e;cases e;exact new
 ·rw[cF hb] at e;exact(x b u e).stay (λc v _ q=>k c v q) (λc q=>by rw[cF (dM q hn)];exact q) λc xs q=>by rw[cF (dM q hn)];exact q
end
noncomputable def Rd(H:Hp)(a:JR)(u:HO):Prop:=H a=some u\/∃ o,H a=some (.frz o u)
theorem Rd.ok {P:Ka}{w:Ku}{H:Hp}{h:KP}{a:JR}{u:HO}(r:Rd H a u)(x:eJ P w H h):e6 P w H h a u:=by
 rcases r with r|⟨o,r⟩
 ·exact x a u r
 ·obtain⟨_,q⟩:=x a _ r;exact q
noncomputable def qh:JW HO->Prop
 |some (.lst _)=>O3
 |some (.dK _)=>O3
 |some (.dT _)=>O3
 |some (.set _ _)=>O3
 |some (.ins _ _ _)=>O3
 |some (.ext _)=>O3
 |_=>LG
section
variable {P : Ka} {w : Ku} {H : Hp} {h h' : KP} {x e : JR} {o' : HO}
theorem eJ.write (ok:eJ P w H h)(mu:qh (H x))(he:e=x\/H e=some (.own x))(k:∀ b u,b≠e->h.get? b=some u->h'.get? b=some u)(heo:∃ u,h'.get? e=some u)
  (new:e6 P w (upd H x o') h' x o'):eJ P w (upd H x o') h':=λb u q=>by
 have U:∀ c y,H c=some (.own y)->c≠x:=λc y r z=>by subst z;rw[r] at mu;exact mu
 have I:∀ c xs,H c=some (.tup xs)->c≠x:=λc xs r z=>by subst z;rw[r] at mu;exact mu
 by_cases hb:b=x
 ·subst hb;rw[b6] at q;cases q;exact new
 ·rw[cF hb] at q;by_cases J:b=e
  ·have q':H b=some (.own x):=by
    rcases he with z|z
    ·exact absurd (J.trans z) hb
    ·rw[J];exact z
   rw[q] at q';cases q';obtain⟨v,hv⟩:=heo;exact⟨v,by rw[J];exact hv⟩
  ·refine(ok b u q).stay (λc v hc r=>k c v ?_ r) (λc r=>by rw[cF (U c b r)];exact r) λc xs r=>by rw[cF (I c xs r)];exact r
   rcases hc with rfl|hc
   ·exact J
   ·rintro rfl;rcases he with z|z
    ·exact U c b hc z
    ·rw[hc] at z;cases z;exact hb rfl
end
structure Un (fs ex : JP JR) (H H' : Hp) (h h' : KP) : Prop where
 keep : ∀ b o, h.get? b = some o -> H b = none -> b ∉ fs -> b ∉ ex -> h'.get? b = some o
 slot : ∀ b o, h.get? b = some o -> H b = none -> b ∈ fs -> b ∉ ex -> ∃ sl, h'.get? b = some { o with slots := sl }
 free : ∀ b o, h.get? b = some o -> H b = none -> b ∉ ex -> H' b = none
 there : ∀ b o, h.get? b = some o -> b ∉ ex -> ∃ o', h'.get? b = some o'
 tups : ∀ b xs, H b = some (.tup xs) -> H' b = some (.tup xs)
 frzs : ∀ b o u, H b = some (.frz o u) -> H' b = some (.frz o u)
 tbls : ∀ b ps, H b = some (.tbl ps) -> ∃ more, H' b = some (.tbl (ps ++ more))
section
variable {fs fs' ex ex' : JP JR} {H H1 H2 : Hp} {h h1 h2 h' : KP} {a x e : JR} {o : HO}
theorem Un.any (u:Un fs ex H H1 h h1){b:JR}{ob:Obj}(q:h.get? b=some ob)(n:H b=none)(hx:b∉ex):∃ sl,h1.get? b=some {ob with slots:=sl}:=by
 by_cases hb:b∈fs
 ·exact u.slot b ob q n hb hx
 ·exact⟨ob.slots,u.keep b ob q n hb hx⟩
theorem Un.kept (k:∀ b u,h.get? b=some u->h'.get? b=some u):Un fs ex H H h h':=
 ⟨λb ob q _ _ _=>k b ob q,λb ob q _ _ _=>⟨ob.slots,k b ob q⟩,λ_ _ _ n _=>n,λb ob q _=>⟨ob,k b ob q⟩,λ_ _ q=>q,λ_ _ _ q=>q,λ_ ps q=>⟨#[],by rw[q];simp⟩⟩
theorem Un.refl:Un fs ex H H h h:=Un.kept λ_ _ q=>q
theorem Un.laid (k:∀ b u,h.get? b=some u->h'.get? b=some u)(hp:h.objs.size<=a)(hn:H a=none):Un fs ex H (upd H a o) h h' where
 keep:=λb u q _ _ _=>k b u q
 slot:=λb u q _ _ _=>⟨u.slots,k b u q⟩
 free:=λb u q n _=>by rw[cF (Kr (Km (Kb q) hp))];exact n
 there:=λb u q _=>⟨u,k b u q⟩
 tups:=λb xs q=>by rw[cF (dM q hn)];exact q
 frzs:=λb u xs q=>by rw[cF (dM q hn)];exact q
 tbls:=λb ps q=>⟨#[],by rw[cF (dM q hn),q];simp⟩
theorem Un.write (mu:qh (H x))(he:e=x\/H e=some (.own x))(k:∀ b u,b≠e->h.get? b=some u->h'.get? b=some u)(heo:∃ u,h'.get? e=some u):Un fs ex H (upd H x o) h h':=by
 have U:∀ b,H b=none->b≠x:=λb n z=>by subst z;rw[n] at mu;exact mu
 have hb:∀ b,H b=none->b≠e:=λb n z=>by
  subst z;rcases he with r|r
  ·exact U b n r
  ·rw[n] at r;cases r
 have hm:∀ b u,H b=some u->¬ qh (some u)->b≠x:=λb u q nm z=>by subst z;rw[q] at mu;exact nm mu
 refine⟨λb u q n _ _=>k b u (hb b n) q,λb u q n _ _=>⟨u.slots,k b u (hb b n) q⟩,λb u q n _=>by rw[cF (U b n)];exact n,λb u q _=>?_,
  λb xs q=>by rw[cF (hm b _ q λz=>z)];exact q,λb u xs q=>by rw[cF (hm b _ q λz=>z)];exact q,λb ps q=>⟨#[],by rw[cF (hm b _ q λz=>z),q];simp⟩⟩;by_cases J:b=e
 ·subst J;exact heo
 ·exact⟨u,k b u J q⟩
end
noncomputable def qU(h:KP)(H:Hp):JP JR:=(LL h.objs.size).filter λa=>(H a).isSome
noncomputable def ki(h:KP)(H:Hp):KP:=NV h (qU h H)
theorem E4(h:KP)(H:Hp):(ki h H).objs.size=h.objs.size:=W.hideAll_size _ _
theorem IT{h:KP}{H:Hp}{b:JR}{o:Obj}(e:h.get? b=some o)(n:H b=none):(ki h H).get? b=some o:=
 W.hideAll_get _ e λhm=>by
  have q:(H b).isSome=true:=(List.mem_filter.mp hm).2;rw[n] at q;simp at q
theorem C5{h:KP}{H:Hp}{b:JR}{o:Obj}(e:(ki h H).get? b=some o):h.get? b=some o/\H b=none:=by
 have J:h.get? b=some o:=Oz (qU h H) e;refine⟨J,?_⟩;cases q:H b with
 |none=>rfl
 |some x=>
  have hm:b∈qU h H:=List.mem_filter.mpr ⟨List.mem_range.mpr (Kb J),by simp[q]⟩
  have z:(ki h H).get? b=none:=OP (qU h H) hm;rw[z] at e;cases e
structure Mod (K : Kl) (mg : Str -> JW JT) (base : KP) : Prop where
 kin : K.In base
 glob : base.Ns Kc mg
 blt : ∃ mb, base.Ns builtinsNs mb /\ ∀ x : Str, x ≠ "__name__" -> mb x = Lp x
 nolimit : base.NoLimit
structure Cx where
 prog : Ka
 w : Ku
 K : Kl
 mg : Str -> JW JT
 base : KP
 A : K4
 N : JP Str
 s₀ : JZ
 H₀ : Hp
 env : Env
 outer : JP Env
 stack : JP Env
 ex : JP JR
 fn : Str -> KS
 calm : KS
 pn : JP (JR × Obj)
 xe : JT -> JZ -> Prop
noncomputable def dz(l:JP Env):JP JR:=l.filterMap (·.frame)
noncomputable abbrev Cx.fs (X:Cx):JP JR:=dz X.outer
noncomputable def tJ(sc:MS)(x:Str):Prop:=sc.names.lookup x=some .local\/sc.names.lookup x=some .cell\/sc.names.lookup x=some .free
noncomputable def Loc(sc:MS)(x:Str):Prop:=sc.names.lookup x=some .local\/sc.names.lookup x=some .cell
noncomputable def Look(env:Env)(h:KP)(m:Str->JW JT)(x:Str)(u:JT):Prop:=
 (env.kindOf x=some .local/\m x=some u)\/((env.kindOf x=some .cell\/env.kindOf x=some .free)/\∃ c,env.cells.lookup x=some c/\h.IsCell c (some u))
structure Cx.Ok (X : Cx) : Prop where
 mod : Mod X.K X.mg X.base
 kind : X.env.scope.kind = .function
 glob : X.env.globals = Kc
 blt : X.env.builtins = builtinsNs
 above : X.s₀.heap.objs.size<=X.env.locals
 inj : ∀ x y c, X.env.cells.lookup x = some c -> X.env.cells.lookup y = some c -> x = y
 has : ∀ x, (X.env.kindOf x = some .cell \/ X.env.kindOf x = some .free) -> ∃ c, X.env.cells.lookup x = some c
 cab : ∀ x c, X.fn x = true -> X.env.cells.lookup x = some c -> X.s₀.heap.objs.size<=c
 hd : X.calm = true -> X.A.handled = none
 frames : X.A.frames = some X.stack
 stk : X.stack = X.outer \/ (X.stack = X.env :: X.outer /\ X.env.frame = some X.env.locals)
 exf : ∀ b ∈ X.ex, b ≠ X.env.locals /\ ∀ x c, X.env.cells.lookup x = some c -> c ≠ b
 bs : ∀ b o, X.base.get? b = some o -> X.s₀.heap.get? b = some o /\ X.H₀ b = none
 bsz : X.base.objs.size<=X.s₀.heap.objs.size
 noex : ∀ b o, X.base.get? b = some o -> b ∉ X.ex
 exfs : ∀ b ∈ X.ex, b ∉ X.fs
 funs : X.s₀.heap.FunFrames X.base X.outer
 frf : ∀ b ∈ X.fs, X.H₀ b = none
structure Inv (X : Cx) (pins : JP (JR × Obj)) (σ : JP (JW V)) (H : Hp) (s : JZ) : Prop where
 ok : X.Ok
 os : s.os = X.s₀.os
 bare : NQ s.gens
 base : Un X.fs X.ex X.H₀ H X.s₀.heap s.heap
 loc : ∃ m, s.heap.Ns X.env.locals m /\ ∀ (i : Nat) (x : Str) (v : V), X.N[i]? = some x -> σ[i]? = some (some v) -> tJ X.env.scope x -> ∃ u, RelV v u /\ Look X.env s.heap m x u
 cell : ∀ x c, X.env.cells.lookup x = some c -> ∃ v, s.heap.IsCell c v
 free : H X.env.locals = none
 freeC : ∀ x c, X.env.cells.lookup x = some c -> H c = none
 pin : ∀ p ∈ X.pn ++ pins, s.heap.get? p.1 = some p.2 /\ H p.1 = none /\ p.1 ≠ X.env.locals /\ p.1 ∉ X.fs /\ ∀ v, p.2.data ≠ .cell v
 hok : eJ X.prog X.w H s.heap
 len : σ.length = X.N.length
section
variable {X : Cx} {pins : JP (JR × Obj)} {σ : JP (JW V)} {H H' : Hp} {s : JZ} {h' : KP}
theorem Cx.Ok.nofr (ok:X.Ok){b:JR}{o:Obj}(e:X.base.get? b=some o):b∉X.fs:=λhb=>by
 have:=(ok.funs.mem hb).1;rw[e] at this;cases this
theorem Inv.bs (I:Inv X pins σ H s):∀ b o,X.base.get? b=some o->s.heap.get? b=some o/\H b=none:=λb o e=>
 ⟨I.base.keep b o (I.ok.bs b o e).1 (I.ok.bs b o e).2 (I.ok.nofr e) (I.ok.noex b o e),I.base.free b o (I.ok.bs b o e).1 (I.ok.bs b o e).2 (I.ok.noex b o e)⟩
theorem Inv.bk (I:Inv X pins σ H s):∀ b o,X.base.get? b=some o->s.heap.get? b=some o:=λb o e=>(I.bs b o e).1
theorem Inv.mod (I:Inv X pins σ H s):Mod X.K X.mg X.base:=I.ok.mod
theorem Inv.kIn (I:Inv X pins σ H s):X.K.In s.heap:=I.ok.mod.kin.keeps I.bk
theorem Inv.fr (I:Inv X pins σ H s):∃ m,Fr X.base X.env.locals s.heap m:=
 let ⟨m,hn,_⟩:=I.loc
 ⟨m,hn,I.bk,Kj I.ok.bsz I.ok.above⟩
theorem Inv.lt (I:Inv X pins σ H s):X.env.locals<s.heap.objs.size:=let ⟨_,hn,_⟩:=I.loc;hn.lt
theorem Inv.sz (I:Inv X pins σ H s):X.s₀.heap.objs.size<=s.heap.objs.size:=Kj I.ok.above (M3 I.lt)
theorem Inv.nofs (I:Inv X pins σ H s){a:JR}(h:s.heap.objs.size<=a):a∉X.fs:=λhb=>by
 obtain⟨_,o,J,_⟩:=I.ok.funs.mem hb;exact absurd (Km (Kb J) (Kj I.sz h)) (Kw _)
theorem Inv.cne (I:Inv X pins σ H s):∀ x c,X.env.cells.lookup x=some c->c≠X.env.locals:=λx c e z=>by
 obtain⟨v,o,ho,hd⟩:=I.cell x c e;obtain⟨m,⟨o',es,ep,J,U,_⟩,_⟩:=I.loc;rw[z,J] at ho;cases ho;rw[U] at hd;cases hd
theorem Inv.funs (I:Inv X pins σ H s):s.heap.FunFrames X.base X.outer:=by
 have all:∀(l:JP Env),(∀ b∈dz l,b∈X.fs)->X.s₀.heap.FunFrames X.base l->s.heap.FunFrames X.base l:=by
  intro l;induction l with
  |nil=>intro _ _;trivial
  |cons env r ih=>
   intro U hl;obtain⟨hk,⟨L,o,hf,hn,ho,hd⟩,hr⟩:=hl;have J:L∈X.fs:=U L (by unfold dz;rw[NO,hf];exact KG);obtain⟨sl,e⟩:=I.base.slot L o ho (I.ok.frf L J) J λz=>I.ok.exfs L z J
   exact⟨hk,⟨L,_,hf,hn,e,hd⟩,ih (λb hb=>U b (by unfold dz;rw[NO,hf];exact J0 _ hb)) hr⟩
 exact all X.outer (λ_ hb=>hb) I.ok.funs
theorem Inv.stack (I:Inv X pins σ H s):s.heap.FunFrames X.base X.stack:=by
 rcases I.ok.stk with e|⟨e,hf⟩
 ·rw[e];exact I.funs
 ·rw[e];obtain⟨m,hn,_⟩:=I.loc;refine .cons (by rw[I.ok.kind];decide) hf hn ?_ I.funs;exact Heap.get?_none_of_le (Kj I.ok.bsz I.ok.above)
theorem Inv.stkSub (I:Inv X pins σ H s):∀ b∈dz X.stack,b∈X.env.locals::X.fs:=λb hb=>by
 rcases I.ok.stk with e|⟨e,hf⟩
 ·rw[e] at hb;exact J0 _ hb
 ·rw[e] at hb;unfold dz at hb;rw[NO,hf] at hb;exact hb
theorem Inv.stkFree (I:Inv X pins σ H s):∀ b∈dz X.stack,H b=none:=λb hb=>by
 rcases List.mem_cons.mp (I.stkSub b hb) with e|hb
 ·rw[e];exact I.free
 ·obtain⟨_,o,J,_⟩:=I.ok.funs.mem hb;exact I.base.free b o J (I.ok.frf b hb) λz=>I.ok.exfs b z hb
theorem Inv.step {g':MM GenState}{t':Nat}{d':Drawn}{ch:JP JR}(I:Inv X pins σ H s)
  (hch:∀ b∈ch,(b∈X.ex\/X.s₀.heap.objs.size<=b)/\b≠X.env.locals/\(∀ x c,X.env.cells.lookup x=some c->c≠b)/\∀ p∈X.pn++pins,p.1≠b)
  (keep:∀ b o,b≠X.env.locals->b∉X.fs->b∉ch->s.heap.get? b=some o->H b=none->h'.get? b=some o)
  (slot:∀ b o,b≠X.env.locals->b∈X.fs->b∉ch->s.heap.get? b=some o->H b=none->∃ sl,h'.get? b=some {o with slots:=sl})(free:∀ b o,b∉ch->s.heap.get? b=some o->H b=none->H' b=none)
  (there:∀ b o,b∉ch->s.heap.get? b=some o->∃ o',h'.get? b=some o')
  (tups:∀ b xs,H b=some (.tup xs)->H' b=some (.tup xs))(frzs:∀ b o u,H b=some (.frz o u)->H' b=some (.frz o u))(tbls:∀ b ps,H b=some (.tbl ps)->∃ more,H' b=some (.tbl (ps++more)))
  (ns:∀ m,s.heap.Ns X.env.locals m->h'.Ns X.env.locals m)(hok:eJ X.prog X.w H' h')(hg:NQ g'):
  Inv X pins σ H' {s with heap:=h',gens:=g',drawn:=d',toks:=t'}:=by
 have ab:∀ b o,X.s₀.heap.get? b=some o->b≠X.env.locals:=λb o e=>Kr (Km (Kb e) I.ok.above)
 have aa:∀ b o,X.s₀.heap.get? b=some o->b∉X.ex->b∉ch:=λb o e J hb=>by
  rcases(hch b hb).1 with z|z
  ·exact J z
  ·exact absurd (Km (Kb e) z) (Kw _)
 have cellK:∀ x c,X.env.cells.lookup x=some c->∀ v,s.heap.IsCell c v->h'.IsCell c v:=λx c e v ⟨o,ho,hd⟩=>by
  have U:c∉ch:=λz=>(hch c z).2.2.1 x c e rfl
  by_cases hc:c∈X.fs
  ·obtain⟨sl,q⟩:=slot c o (I.cne x c e) hc U ho (I.freeC x c e);exact⟨_,q,hd⟩
  ·exact⟨o,keep c o (I.cne x c e) hc U ho (I.freeC x c e),hd⟩
 refine⟨I.ok,I.os,hg,⟨λb o e n hb J=>?_,λb o e n hb J=>?_,λb o e n J=>?_,λb o e J=>?_,λb xs e=>tups b xs (I.base.tups b xs e),λb o xs e=>frzs b o xs (I.base.frzs b o xs e),λb ps e=>?_⟩,?_,λx c e=>?_,?_,λx c e=>?_,λp hp=>?_,hok,I.len⟩
 ·exact keep b o (ab b o e) hb (aa b o e J) (I.base.keep b o e n hb J) (I.base.free b o e n J)
 ·obtain⟨sl,e1⟩:=I.base.slot b o e n hb J;obtain⟨ae,e2⟩:=slot b _ (ab b o e) hb (aa b o e J) e1 (I.base.free b o e n J);exact⟨ae,e2⟩
 ·obtain⟨o',e1⟩:=I.base.there b o e J;exact free b o' (aa b o e J) e1 (I.base.free b o e n J)
 ·obtain⟨o',e1⟩:=I.base.there b o e J;exact there b o' (aa b o e J) e1
 ·obtain⟨m1,e1⟩:=I.base.tbls b ps e;obtain⟨m2,e2⟩:=tbls b _ e1;exact⟨m1++m2,by rw[e2,Array.append_assoc]⟩
 ·obtain⟨m,hn,hl⟩:=I.loc;refine⟨m,ns m hn,λi x v e1 e2 e3=>?_⟩;obtain⟨u,r,l⟩:=hl i x v e1 e2 e3;refine⟨u,r,?_⟩;rcases l with l|⟨k,c,e,z⟩
  ·exact .inl l
  ·exact .inr ⟨k,c,e,cellK x c e _ z⟩
 ·obtain⟨v,z⟩:=I.cell x c e;exact⟨v,cellK x c e v z⟩
 ·obtain⟨m,⟨o,_,_,ho,_⟩,_⟩:=I.loc;exact free _ o (λz=>(hch _ z).2.1 rfl) ho I.free
 ·obtain⟨v,o,ho,hd⟩:=I.cell x c e;exact free c o (λz=>(hch c z).2.2.1 x c e rfl) ho (I.freeC x c e)
 ·obtain⟨e,n,ne,nf,d⟩:=I.pin p hp;have U:p.1∉ch:=λz=>(hch p.1 z).2.2.2 p hp rfl
  exact⟨keep p.1 p.2 ne nf U e n,free p.1 p.2 U e n,ne,nf,d⟩
theorem Inv.un {t':Nat}(I:Inv X pins σ H s)(u:Un X.fs [] H H' s.heap h')(hok:eJ X.prog X.w H' h'):Inv X pins σ H' {s with heap:=h',toks:=t'}:=by
 obtain⟨m,⟨o,es,ep,ho,r⟩,_⟩:=id I.loc;obtain⟨sl,hL⟩:=u.any ho I.free (by simp);exact I.step (g':=s.gens) (d':=s.drawn) (ch:=[]) (λ_ z=>nomatch z) (λb o _ hb _ e n=>u.keep b o e n hb (by simp)) (λb o _ hb _ e n=>u.slot b o e n hb (by simp)) (λb o _ e n=>u.free b o e n (by simp)) (λb o _ e=>u.there b o e (by simp)) u.tups u.frzs u.tbls (λm' hm=>by
  obtain⟨o',U,aa,J,r'⟩:=hm;rw[ho] at J;cases J;exact⟨_,U,aa,hL,r'⟩) hok I.bare
theorem Inv.call {g':MM GenState}{t':Nat}{d':Drawn}{ch:JP JR}(I:Inv X pins σ H s)(u:Un (dz X.stack) ch H H' s.heap h')(hok:eJ X.prog X.w H' h')(hg:NQ g')
  (hch:∀ b∈ch,(b∈X.ex\/X.s₀.heap.objs.size<=b)/\b≠X.env.locals/\(∀ x c,X.env.cells.lookup x=some c->c≠b)/\∀ p∈X.pn++pins,p.1≠b):
  Inv X pins σ H' {s with heap:=h',gens:=g',drawn:=d',toks:=t'}:=by
 obtain⟨m,⟨o,es,ep,ho,r⟩,_⟩:=id I.loc;obtain⟨sl,hL⟩:=u.any ho I.free λz=>(hch _ z).2.1 rfl
 exact I.step (ch:=ch) hch (λb o hL hb J e n=>u.keep b o e n (λz=>(List.mem_cons.mp (I.stkSub b z)).elim hL hb) J) (λb o _ _ J e n=>u.any e n J) (λb o J e n=>u.free b o e n J) (λb o J e=>u.there b o e J) u.tups u.frzs u.tbls (λm' hm=>by
  obtain⟨o',aa,ab,U,r'⟩:=hm;rw[ho] at U;cases U;exact⟨_,aa,ab,hL,r'⟩) hok hg
theorem Inv.turned {t':Nat}{it:JR}(I:Inv X pins σ H s)(k:∀ b o,b≠it->s.heap.get? b=some o->h'.get? b=some o)(hn:H it=none)(hL:it≠X.env.locals)
  (h1:it∈X.ex\/X.s₀.heap.objs.size<=it)(h2:∀ x c,X.env.cells.lookup x=some c->c≠it)(h3:∀ p∈X.pn++pins,p.1≠it):Inv X pins σ H {s with heap:=h',toks:=t'}:=by
 have U:∀ b u,H b=some u->b≠it:=λb u e z=>by rw[z,hn] at e;cases e
 refine I.step (g':=s.gens) (d':=s.drawn) (ch:=[it]) (λb hb=>?_) (λb o _ _ J e _=>k b o (λz=>J (by simp[z])) e) (λb o _ _ J e _=>⟨o.slots,k b o (λz=>J (by simp[z])) e⟩) (λ_ _ _ _ n=>n)
  (λb o J e=>⟨o,k b o (λz=>J (by simp[z])) e⟩) (λ_ _ e=>e) (λ_ _ _ e=>e) (λb ps e=>⟨#[],by rw[e];simp⟩) (λm hm=>?_) (λb u e=>?_) I.bare
 ·have e:b=it:=by simpa using hb
  subst e;exact⟨h1,hL,h2,h3⟩
 ·obtain⟨o,es,ep,ho,r⟩:=hm;exact⟨o,es,ep,k _ o (K5 hL) ho,r⟩
 ·refine(I.hok b u e).stay (λc v J q=>k c v ?_ q) (λ_ q=>q) λ_ _ q=>q
  rcases J with z|z
  ·rw[z];exact U b u e
  ·exact U c _ z
theorem Inv.tok (I:Inv X pins σ H s)(t:Nat):Inv X pins σ H {s with toks:=t}:=I.un (h':=s.heap) (t':=t) Un.refl I.hok
theorem Inv.kept {t':Nat}(I:Inv X pins σ H s)(k:∀ b u,s.heap.get? b=some u->h'.get? b=some u):Inv X pins σ H {s with heap:=h',toks:=t'}:=I.un (Un.kept k) (I.hok.kept k)
theorem Inv.laid {a:JR}{o:HO}{t':Nat}(I:Inv X pins σ H s)(k:∀ b u,s.heap.get? b=some u->h'.get? b=some u)(hp:s.heap.objs.size<=a)(new:e6 X.prog X.w (upd H a o) h' a o):
  Inv X pins σ (upd H a o) {s with heap:=h',toks:=t'}:=I.un (Un.laid k hp (I.hok.fresh hp)) (I.hok.laid k hp new)
theorem Inv.write {x e:JR}{o:HO}{t':Nat}(I:Inv X pins σ H s)(mu:qh (H x))(he:e=x\/H e=some (.own x))(k:∀ b u,b≠e->s.heap.get? b=some u->h'.get? b=some u)(heo:∃ u,h'.get? e=some u)
  (new:e6 X.prog X.w (upd H x o) h' x o):Inv X pins σ (upd H x o) {s with heap:=h',toks:=t'}:=I.un (Un.write mu he k heo) (I.hok.write mu he k heo new)
theorem Inv.weak {σ':JP (JW V)}(I:Inv X pins σ H s)(hl:σ'.length=σ.length)(w:∀(i:Nat) v,σ'[i]? =some (some v)->σ[i]? =some (some v)):Inv X pins σ' H s:=
 ⟨I.ok,I.os,I.bare,I.base,let ⟨m,hn,hl'⟩:=I.loc;⟨m,hn,λi x v J U e3=>hl' i x v J (w i v U) e3⟩,I.cell,I.free,I.freeC,I.pin,I.hok,hl.trans I.len⟩
theorem Inv.pins_of {pins':JP (JR×Obj)}(I:Inv X pins σ H s)(h:∀ p∈pins',s.heap.get? p.1=some p.2/\H p.1=none/\p.1≠X.env.locals/\p.1∉X.fs/\∀ v,p.2.data≠ .cell v):Inv X pins' σ H s:=
 ⟨I.ok,I.os,I.bare,I.base,I.loc,I.cell,I.free,I.freeC,λp hp=>(List.mem_append.mp hp).elim (λz=>I.pin p (Ll _ z)) (h p),I.hok,I.len⟩
theorem AV{N:JP Str}(hN:N.Nodup){i j:Nat}{x:Str}(a:N[i]? =some x)(b:N[j]? =some x):i=j:=by
 obtain⟨h1,J⟩:=List.getElem?_eq_some_iff.mp a;obtain⟨h2,U⟩:=List.getElem?_eq_some_iff.mp b;exact(List.getElem_inj hN).mp (J.trans U.symm)
theorem A8{M:Model}{A:K4}{E:JT->JZ->Prop}{i:Nat}{x:Str}{v:V}{u:JT}{Q:Unit->JZ->Prop}(I:Inv X pins σ H s)(hN:X.N.Nodup)(hi:X.N[i]? =some x)(hx:Loc X.env.scope x)(r:RelV v u)
  (h:∀ s',Inv X pins (σ.set i (some v)) H s'->(∃ a,Md a s.heap s'.heap/\(a=X.env.locals\/X.env.cells.lookup x=some a))->Q () s')(hf:X.fn x=true\/X.env.scope.names.lookup x=some .local:=by first|exact .inl rfl|exact .inr rfl|assumption):Kq M A (storeName X.env x u) Q E s:=by
 obtain⟨m,hn,hl⟩:=id I.loc;have af:(X.env.scope.kind == .class||(X.env.scope.kind == .module&&X.env.locals != X.env.globals))=false:=by rw[I.ok.kind];rfl
 have ab:i<σ.length:=by rw[I.len];exact(List.getElem?_eq_some_iff.mp hi).1
 have cne:=I.cne
 have tracked:∀{a:JR} {h':KP},(∃ o,s.heap.get? a=some o/\H a=none)->Md a s.heap h'->eJ X.prog X.w H h':=λ{a h'} ha J b ob e=>by
  obtain⟨_,_,aa⟩:=ha;refine(I.hok b ob e).stay (λc w' hc q=>(J.2 c ?_).trans q) (λ_ q=>q) λ_ _ q=>q
  rintro rfl;rcases hc with rfl|hc
  ·rw[aa] at e;cases e
  ·rw[aa] at hc;cases hc
 rcases hx with hk|hk
 ·refine wpAny_storeName_local hk hn (λh' ak J=>?_) af;obtain⟨oL,_,_,ao,_⟩:=id hn;refine h _ ⟨I.ok,I.os,I.bare,⟨λb o e n hb hx=>?_,λb o e n hb hx=>?_,I.base.free,λb o e hx=>?_,I.base.tups,I.base.frzs,I.base.tbls⟩,⟨_,ak,λj y v' U e2 e3=>?_⟩,λy c e=>?_,I.free,I.freeC,λp hp=>?_,tracked ⟨oL,ao,I.free⟩ J,by simpa using I.len⟩ ⟨_,J,.inl rfl⟩
  ·exact(J.2 b (Kr (Km (Kb e) I.ok.above))).trans (I.base.keep b o e n hb hx)
  ·obtain⟨sl,U⟩:=I.base.slot b o e n hb hx;exact⟨sl,(J.2 b (Kr (Km (Kb e) I.ok.above))).trans U⟩
  ·obtain⟨o',U⟩:=I.base.there b o e hx;exact⟨o',(J.2 b (Kr (Km (Kb e) I.ok.above))).trans U⟩
  ·by_cases hj:j=i
   ·subst hj;rw[hi] at U;cases U;rw[List.getElem?_set_self ab] at e2;cases e2;exact⟨u,r,.inl ⟨hk,by simp⟩⟩
   ·rw[List.getElem?_set_ne (K5 hj)] at e2;obtain⟨u',r',q⟩:=hl j y v' U e2 e3;refine⟨u',r',?_⟩;rcases q with ⟨k,e⟩|⟨k,c,e,z⟩
    ·refine .inl ⟨k,?_⟩;have:y≠x:=λe=>hj (AV hN U (e ▸ hi))
     simp[this,e]
    ·exact .inr ⟨k,c,e,z.sameBut J (cne y c e)⟩
  ·obtain⟨w',z⟩:=I.cell y c e;exact⟨w',z.sameBut J (cne y c e)⟩
  ·obtain⟨e,n,ne,nf,d⟩:=I.pin p hp;exact⟨(J.2 p.1 ne).trans e,n,ne,nf,d⟩
 ·have ae:X.fn x=true:=by
   rcases hf with z|z
   ·exact z
   ·rw[z] at hk;cases hk
  obtain⟨c,hc⟩:=I.ok.has x (.inl hk);obtain⟨w',z⟩:=I.cell x c hc;refine wpAny_storeName_cell I.ok.kind hk hc z (λh' ag J=>?_);obtain⟨oc,ah,ai⟩:=id z;refine h {s with heap:=h'} ⟨I.ok,I.os,I.bare,⟨λb o e n hb hx=>?_,λb o e n hb hx=>?_,I.base.free,λb o e hx=>?_,I.base.tups,I.base.frzs,I.base.tbls⟩,⟨m,hn.sameBut J (K5 (cne x c hc)),λj y v' U e2 e3=>?_⟩,λy c' e=>?_,I.free,I.freeC,λp hp=>?_,tracked ⟨oc,ah,I.freeC x c hc⟩ J,by simpa using I.len⟩ ⟨c,J,.inr hc⟩
  ·exact(J.2 b (Kr (Km (Kb e) (I.ok.cab x c ae hc)))).trans (I.base.keep b o e n hb hx)
  ·obtain⟨sl,U⟩:=I.base.slot b o e n hb hx;exact⟨sl,(J.2 b (Kr (Km (Kb e) (I.ok.cab x c ae hc)))).trans U⟩
  ·obtain⟨o',U⟩:=I.base.there b o e hx;exact⟨o',(J.2 b (Kr (Km (Kb e) (I.ok.cab x c ae hc)))).trans U⟩
  ·by_cases hj:j=i
   ·subst hj;rw[hi] at U;cases U;rw[List.getElem?_set_self ab] at e2;cases e2;exact⟨u,r,.inr ⟨.inl hk,c,hc,ag⟩⟩
   ·rw[List.getElem?_set_ne (K5 hj)] at e2;obtain⟨u',r',q⟩:=hl j y v' U e2 e3;refine⟨u',r',?_⟩;rcases q with q|⟨k,c',e,z'⟩
    ·exact .inl q
    ·refine .inr ⟨k,c',e,z'.sameBut J ?_⟩;rintro rfl;exact hj (AV hN U (I.ok.inj _ _ _ e hc ▸ hi))
  ·by_cases aj:c'=c
   ·subst aj;exact⟨_,ag⟩
   ·obtain⟨w2,z2⟩:=I.cell y c' e;exact⟨w2,z2.sameBut J aj⟩
  ·obtain⟨e,n,ne,nf,d⟩:=I.pin p hp;refine⟨(J.2 p.1 ?_).trans e,n,ne,nf,d⟩;intro q;rw[q,ah] at e;have q':oc=p.2:=Kg e;exact d w' (by rw[<-q'];exact ai)
theorem iU{M:Model}{A:K4}{E:JT->JZ->Prop}{i:Nat}{x:Str}{v:V}{u:JT}{Q:Unit->JZ->Prop}(I:Inv X pins σ H s)(hN:X.N.Nodup)(hi:X.N[i]? =some x)(hx:Loc X.env.scope x)(r:RelV v u)
  (h:∀ s',Inv X pins (σ.set i (some v)) H s'->Q () s')(hf:X.fn x=true\/X.env.scope.names.lookup x=some .local:=by first|exact .inl rfl|exact .inr rfl|assumption):Kq M A (storeName X.env x u) Q E s:=
 A8 I hN hi hx r (λs' J _=>h s' J) hf
theorem Inv.call' {s':JZ}{ch:JP JR}(I:Inv X pins σ H s)(ho:s'.os=s.os)(u:Un (dz X.stack) ch H H' s.heap s'.heap)(hok:eJ X.prog X.w H' s'.heap)(hg:NQ s'.gens)
  (hch:∀ b∈ch,(b∈X.ex\/X.s₀.heap.objs.size<=b)/\b≠X.env.locals/\(∀ x c,X.env.cells.lookup x=some c->c≠b)/\∀ p∈X.pn++pins,p.1≠b):Inv X pins σ H' s':=by
 obtain⟨h',g',d',t',o'⟩:=s';have e:o'=s.os:=ho;subst e;exact I.call (g':=g') (t':=t') (d':=d') u hok hg hch
end
noncomputable abbrev XK:=JT->JW JR->Hp->Prop
noncomputable abbrev St:=JP (JW V)
noncomputable abbrev VK:=V->Hp->Prop
noncomputable abbrev TE:=St->Hp->VK->Prop
noncomputable abbrev TT:=St->Hp->(KS->Hp->Prop)->Prop
noncomputable abbrev TA:=St->Hp->(JP V->Hp->Prop)->Prop
structure Ends where
 nx : St -> Hp -> Prop
 rt : VK
 bk : St -> Hp -> Prop := λ_ _ => LG
 ct : St -> Hp -> Prop := λ_ _ => LG
noncomputable abbrev TS:=Ends->St->Hp->Prop
noncomputable def EP(X:Cx)(pins:JP (JR×Obj))(σ:St)(Q:VK)(u:JT)(s':JZ):Prop:=∃ v H',Inv X pins σ H' s'/\RelV v u/\Q v H'
noncomputable def TP(X:Cx)(pins:JP (JR×Obj))(σ:St)(Q:KS->Hp->Prop)(b:KS)(s':JZ):Prop:=∃ H',Inv X pins σ H' s'/\Q b H'
noncomputable def AP(X:Cx)(pins:JP (JR×Obj))(σ:St)(Q:JP V->Hp->Prop)(us:JP JT)(s':JZ):Prop:=∃ vs H',Inv X pins σ H' s'/\Vals vs us/\Q vs H'
noncomputable def SP(X:Cx)(pins:JP (JR×Obj))(D:Ends)(f:Flow)(s':JZ):Prop:=
 match f with
 |.next=>∃ J H',Inv X pins J H' s'/\D.nx J H'
 |.brk=>∃ J H',Inv X pins J H' s'/\D.bk J H'
 |.cont=>∃ J H',Inv X pins J H' s'/\D.ct J H'
 |.ret u=>∃ v J H',Inv X pins J H' s'/\RelV v u/\D.rt v H'
noncomputable def PE(X:Cx)(e:KI)(t:TE):Prop:=
 ∀(pins:JP (JR×Obj)) (s:JZ) (σ:St) (H:Hp) (Q:VK),Inv X pins σ H s->t σ H Q->Kq (Ko X.prog X.w) X.A (eval e X.env) (EP X pins σ Q) X.xe s
noncomputable def PT(X:Cx)(e:KI)(t:TT):Prop:=
 ∀(pins:JP (JR×Obj)) (s:JZ) (σ:St) (H:Hp) (Q:KS->Hp->Prop),Inv X pins σ H s->t σ H Q->Kq (Ko X.prog X.w) X.A (isTrue e X.env (eval e X.env)) (TP X pins σ Q) X.xe s
noncomputable def PW(X:Cx)(e:KI)(t:TT):Prop:=
 ∀(whole:Sem JT) (pins:JP (JR×Obj)) (s:JZ) (σ:St) (H:Hp) (Q:KS->Hp->Prop),Inv X pins σ H s->t σ H Q->Kq (Ko X.prog X.w) X.A (isTrue e X.env whole) (TP X pins σ Q) X.xe s
theorem PW.pt {X:Cx}{e:KI}{t:TT}(h:PW X e t):PT X e t:=h _
noncomputable def PA(X:Cx)(es:JP KI)(t:TA):Prop:=
 ∀(pos:Pos) (pins:JP (JR×Obj)) (s:JZ) (σ:St) (H:Hp) (Q:JP V->Hp->Prop),Inv X pins σ H s->t σ H Q->Kq (Ko X.prog X.w) X.A (spliced (Mh pos (KA es X.env))) (AP X pins σ Q) X.xe s
noncomputable def PS(X:Cx)(st:K0)(t:TS):Prop:=
 ∀(pins:JP (JR×Obj)) (s:JZ) (σ:St) (H:Hp) (D:Ends),Inv X pins σ H s->t D σ H->Kq (Ko X.prog X.w) X.A (exec st X.env) (SP X pins D) X.xe s
noncomputable def cH(X:Cx)(st:JP K0)(t:TS):Prop:=
 ∀(pins:JP (JR×Obj)) (s:JZ) (σ:St) (H:Hp) (D:Ends),Inv X pins σ H s->t D σ H->Kq (Ko X.prog X.w) X.A (execs st X.env) (SP X pins D) X.xe s
theorem cv{α:Type}{t:Sem α}{Q Q':α->JZ->Prop}{M:Model}{A:K4}{E:JT->JZ->Prop}{s:JZ}(h:Kq M A t Q E s)(hQ:∀ a s,Q a s->Q' a s):Kq M A t Q' E s:=KY h hQ λ_ _ x=>x
section
variable {X : Cx}
noncomputable def zN(i:Nat):TE:=λσ H Q=>∃ v,σ[i]? =some (some v)/\Q v H
noncomputable def tC(v:V):TE:=λ_ H Q=>Q v H
theorem JB{i:Nat}{x:Str}{pos:Pos}(hN:X.N[i]? =some x)(hv:tJ X.env.scope x)(hd:(x==("__debug__":Str))=false:=by decide)(hcd:(x==("__classdict__":Str))=false:=by decide):PE X (.Name x pos) (zN i):=by
 intro pins s σ H Q I h;obtain⟨v,e,h⟩:=h;obtain⟨m,hn,hl⟩:=I.loc;obtain⟨u,r,l⟩:=hl i x v hN e hv;have fin:EP X pins σ Q u s:=⟨v,H,I,r,h⟩;rcases l with ⟨hk,hm⟩|⟨hk,c,U,J⟩
 ·exact wpAny_Name (wpAny_loadName_local I.ok.kind hk hn hm fin) hd
 ·rcases hk with hk|hk
  ·exact wpAny_Name (wpAny_loadName_cell I.ok.kind hk U J fin) hd
  ·exact wpAny_Name (wpAny_loadName_free I.ok.kind hk U J fin hcd) hd
theorem bZ{i j pos}:PE X (.Constant (.int i) j pos) (tC (.int i)):=λ_ _ _ H _ I h=>wpAny_Constant_int ⟨.int i,H,I.tok _,⟨_,rfl⟩,h⟩
theorem ij{b j pos}:PE X (.Constant (.bool b) j pos) (tC (.bl b)):=λ_ _ _ H _ I h=>Constant_bool ⟨.bl b,H,I,rfl,h⟩
theorem ir{j pos}:PE X (.Constant .none j pos) (tC .non):=λ_ _ _ H _ I h=>Constant_none ⟨.non,H,I,rfl,h⟩
theorem b8{x j pos}:PE X (.Constant (.str x) j pos) (tC (.str x)):=λ_ _ _ H _ I h=>NW ⟨.str x,H,I.tok _,⟨_,rfl⟩,h⟩
noncomputable def Gl(X:Cx)(x:Str):Prop:=X.env.kindOf x=some .globalImplicit
theorem jw{E:JT->JZ->Prop}{pins:JP (JR×Obj)}{s:JZ}{σ:St}{H:Hp}{x:Str}{u:JT}{pos:Pos}{Q:JT->JZ->Prop}(I:Inv X pins σ H s)(hg:Gl X x)(hm:X.mg x=some u)(h:Q u s)
  (hd:(x==("__debug__":Str))=false:=by decide):Kq (Ko X.prog X.w) X.A (eval (.Name x pos) X.env) Q E s:=
 NX I.ok.kind hg (Calls.loadGlobal_global (by rw[I.ok.glob];exact I.mod.glob.keeps I.bk) hm h) hd
theorem qi{E:JT->JZ->Prop}{pins:JP (JR×Obj)}{s:JZ}{σ:St}{H:Hp}{x:Str}{u:JT}{pos:Pos}{Q:JT->JZ->Prop}(I:Inv X pins σ H s)(hg:Gl X x)(hm:X.mg x=none)(hv:Lp x=some u)(h:Q u s)
  (hn:x≠"__name__":=by decide)(hd:(x==("__debug__":Str))=false:=by decide):Kq (Ko X.prog X.w) X.A (eval (.Name x pos) X.env) Q E s:=by
 obtain⟨J,h1,h2⟩:=I.mod.blt;exact NX I.ok.kind hg (Calls.loadGlobal_builtin (by rw[I.ok.glob];exact I.mod.glob.keeps I.bk) hm (by rw[I.ok.blt];exact h1.keeps I.bk) ((h2 x hn).trans hv) h) hd
theorem fK{x:Str}{v:V}{u:JT}{pos:Pos}(hg:Gl X x)(hm:X.mg x=some u)(r:RelV v u)(hd:(x==("__debug__":Str))=false:=by decide):PE X (.Name x pos) (tC v):=
 λ_ _ _ H _ I h=>jw I hg hm ⟨v,H,I,r,h⟩ hd
theorem lj{x:Str}{v:V}{u:JT}{pos:Pos}(hg:Gl X x)(hm:X.mg x=none)(hv:Lp x=some u)(r:RelV v u)(hn:x≠"__name__":=by decide)(hd:(x==("__debug__":Str))=false:=by decide):PE X (.Name x pos) (tC v):=
 λ_ _ _ H _ I h=>qi I hg hm hv ⟨v,H,I,r,h⟩ hn hd
variable {a b : KI} {ta tb : TE} {pos : Pos}
noncomputable def tB(t:TE):TT:=λσ H Q=>t σ H λx H1=>∃ c,x= .bl c/\Q c H1
theorem fU{e:KI}{t:TE}(h:PE X e t)(he:∀ whole,isTrue e X.env whole=(do let v<-whole;standAt e.pos;OZ [v] (truthy v)):=by intro _;rfl):PT X e (tB t):=by
 intro pins s σ H Q I hw;refine isTrue_plain (cv (h pins s σ H _ I hw) λv s1 ⟨x,H1,J,r1,U⟩=>?_) (he _);obtain⟨d,rfl,q⟩:=U;cases r1;exact LD ⟨H1,J,q⟩
variable {tA tB' : TT} {rest : JP KI}
noncomputable def Gi(t u:TT):TT:=λσ H Q=>t σ H λc H1=>if c=true then u σ H1 Q else Q false H1
noncomputable def Ct(t u:TT):TT:=λσ H Q=>t σ H λc H1=>if c=true then Q true H1 else u σ H1 Q
noncomputable def HS(t:TT):TT:=λσ H Q=>t σ H λc H1=>Q (!c) H1
theorem hU(ha:PT X a tA):PW X (.BoolOp .And [a] pos) tA:=by
 intro J pins s σ H Q I h;refine isTrue_and (cv (ha pins s σ H Q I h) λc s1 e=>?_);cases c with
 |true=>exact isTrue_and_nil e
 |false=>exact e
theorem ig(ha:PT X a tA):PW X (.BoolOp .Or [a] pos) tA:=by
 intro J pins s σ H Q I h;refine isTrue_or (cv (ha pins s σ H Q I h) λc s1 e=>?_);cases c with
 |false=>exact isTrue_or_nil e
 |true=>exact e
theorem hZ(ha:PT X a tA)(hb:PW X (.BoolOp .And (b::rest) pos) tB'):PW X (.BoolOp .And (a::b::rest) pos) (Gi tA tB'):=by
 intro wh pins s σ H Q I h;refine isTrue_and (cv (ha pins s σ H _ I h) λc s1 ⟨H1,J,U⟩=>?_);cases c with
 |true=>exact hb wh pins s1 σ H1 Q J U
 |false=>exact⟨H1,J,U⟩
theorem gu(ha:PT X a tA)(hb:PW X (.BoolOp .Or (b::rest) pos) tB'):PW X (.BoolOp .Or (a::b::rest) pos) (Ct tA tB'):=by
 intro wh pins s σ H Q I h;refine isTrue_or (cv (ha pins s σ H _ I h) λc s1 ⟨H1,J,U⟩=>?_);cases c with
 |true=>exact⟨H1,J,U⟩
 |false=>exact hb wh pins s1 σ H1 Q J U
theorem gG(ha:PT X a tA):PT X (.UnaryOp .Not a pos) (HS tA):=by
 intro pins s σ H Q I h;exact isTrue_not (ha pins s σ H (λc H1=>Q (!c) H1) I h)
noncomputable def Bq(ta tb:TE):TE:=λσ H Q=>ta σ H λx H1=>∃ c,x= .bl c/\if c=true then tb σ H1 Q else Q (.bl false) H1
noncomputable def EL(ta tb:TE):TE:=λσ H Q=>ta σ H λx H1=>∃ c,x= .bl c/\if c=true then Q (.bl true) H1 else tb σ H1 Q
noncomputable def Jb(ta:TE):TE:=λσ H Q=>ta σ H λx H1=>∃ c,x= .bl c/\Q (.bl (!c)) H1
theorem rN{op}{t:TE}(h:PE X a t):PE X (.BoolOp op [a] pos) t:=λpins s σ H Q I hw=>BoolOp_one (h pins s σ H Q I hw)
theorem AA(ha:PE X a ta)(hb:PE X (.BoolOp .And (b::rest) pos) tb):PE X (.BoolOp .And (a::b::rest) pos) (Bq ta tb):=by
 intro pins s σ H Q I h;refine BoolOp_and (cv (ha pins s σ H _ I h) λv s1 ⟨x,H1,U,r1,J⟩=>?_);obtain⟨c,rfl,J⟩:=J;cases r1;refine LD ?_;cases c with
 |true=>exact hb pins s1 σ H1 Q U J
 |false=>exact⟨.bl false,H1,U,rfl,J⟩
theorem zB(ha:PE X a ta)(hb:PE X (.BoolOp .Or (b::rest) pos) tb):PE X (.BoolOp .Or (a::b::rest) pos) (EL ta tb):=by
 intro pins s σ H Q I h;refine BoolOp_or (cv (ha pins s σ H _ I h) λv s1 ⟨x,H1,U,r1,J⟩=>?_);obtain⟨c,rfl,J⟩:=J;cases r1;refine LD ?_;cases c with
 |false=>exact hb pins s1 σ H1 Q U J
 |true=>exact⟨.bl true,H1,U,rfl,J⟩
theorem xr(ha:PE X a ta):PE X (.UnaryOp .Not a pos) (Jb ta):=by
 intro pins s σ H Q I h;refine UnaryOp_ (cv (ha pins s σ H _ I h) λv s1 ⟨x,H1,U,r1,J⟩=>?_);obtain⟨c,rfl,J⟩:=J;cases r1;exact not_of (LD ⟨.bl (!c),H1,U,rfl,J⟩)
noncomputable def Gy(t:TT)(ta tb:TE):TE:=λσ H Q=>t σ H λc H1=>if c=true then ta σ H1 Q else tb σ H1 Q
theorem i6{c:KI}(hc:PT X c tA)(ha:PE X a ta)(hb:PE X b tb):PE X (.IfExp c a b pos) (Gy tA ta tb):=by
 intro pins s σ H Q I h;refine wpAny_IfExp (cv (hc pins s σ H _ I h) λd s1 ⟨H1,J,U⟩=>?_);cases d with
 |true=>exact ha pins s1 σ H1 Q J U
 |false=>exact hb pins s1 σ H1 Q J U
end
noncomputable def ck(K:Kl)(H:Hp)(a:JR)(xs:JP V):Prop:=
 Rd H a (.lst xs)\/
  ∃(o:Obj) (J:MM JT) (n:Nat),K.lookup a=some o/\o.cls= .type "list"/\o.dict=none/\o.data= .seq J n/\J.size<=sizeLine/\Vals xs J.toList
noncomputable def cu(K:Kl)(H:Hp)(a:JR)(xs:JP V):Prop:=
 Rd H a (.tup xs)\/
  ∃(o:Obj) (J:MM JT) (n:Nat),K.lookup a=some o/\o.cls= .type "tuple"/\o.data= .seq J n/\J.size<=sizeLine/\Vals xs J.toList
noncomputable def Iy:JT->JW V
 |.none=>some .non
 |.bool b=>some (.bl b)
 |.int i _=>some (.int i)
 |.str x _=>some (.str x)
 |.bytes b _=>some (.byt b)
 |.float b _=>some (.flt b)
 |.ref a=>some (.ref a)
 |.type n=>some (.ty n)
 |_=>none
theorem RelV.abs {x:V}{u:JT}(r:RelV x u):Iy u=some x:=by
 cases x with
 |non=>cases r;rfl
 |bl _=>cases r;rfl
 |int _=>obtain⟨t,rfl⟩:=r;rfl
 |str _=>obtain⟨t,rfl⟩:=r;rfl
 |byt _=>obtain⟨t,rfl⟩:=r;rfl
 |flt _=>obtain⟨t,rfl⟩:=r;rfl
 |ref _=>cases r;rfl
 |ty _=>cases r;rfl
theorem RelV.inj {x y:V}{u:JT}(r:RelV x u)(q:RelV y u):x=y:=Kg (r.abs.symm.trans q.abs)
theorem Vals.inj:∀{xs ys:JP V} {us:JP JT},Vals xs us->Vals ys us->xs=ys
 |_,_,_,.nil,.nil=>rfl
 |_,_,_,.cons r t,.cons J t'=>by rw[r.inj J,Vals.inj t t']
section
variable {X : Cx} {pins : JP (JR × Obj)} {σ : St} {H : Hp} {s : JZ} {a : JR} {xs ys : JP V}
theorem ck.of {K:Kl}(h:H a=some (.lst xs)):ck K H a xs:= .inl (.inl h)
theorem cu.of {K:Kl}(h:H a=some (.tup xs)):cu K H a xs:= .inl (.inl h)
theorem Inv.list (I:Inv X pins σ H s)(h:ck X.K H a xs):∃ its:JP JT,Vals xs its/\PlainL s.heap a its.toArray/\xs.length<=sizeLine:=by
 rcases h with h|⟨o,its,n,hk,J,hd,U,hz,r⟩
 ·obtain⟨z,its,n,r,e⟩:=h.ok I.hok;exact⟨its,r,⟨_,n,e,rfl,rfl,rfl⟩,z⟩
 ·refine⟨its.toList,r,⟨o,n,I.kIn a o hk,J,hd,by simpa using U⟩,?_⟩;have e:=r.length;simp only[Array.length_toList] at e
  lia
theorem Inv.tuple (I:Inv X pins σ H s)(h:cu X.K H a xs):∃ its:JP JT,Vals xs its/\IsTup s.heap a its.toArray/\xs.length<=sizeLine:=by
 rcases h with h|⟨o,its,n,hk,J,U,hz,r⟩
 ·obtain⟨z,its,r,p⟩:=h.ok I.hok;exact⟨its,r,p,z⟩
 ·refine⟨its.toList,r,⟨o,I.kIn a o hk,J,n,by simpa using U⟩,?_⟩;have e:=r.length;simp only[Array.length_toList] at e
  lia
theorem Inv.list_inj (I:Inv X pins σ H s)(h:ck X.K H a xs)(h':ck X.K H a ys):xs=ys:=by
 obtain⟨J,r,⟨o,n,e,_,_,d⟩,_⟩:=I.list h;obtain⟨its',r',⟨o',n',U,_,_,d'⟩,_⟩:=I.list h';rw[e] at U;cases U;rw[d] at d';injection d' with d1 _;have:J=its':=by simpa using K9 Array.toList d1
 subst this;exact r.inj r'
theorem Inv.tuple_inj (I:Inv X pins σ H s)(h:cu X.K H a xs)(h':cu X.K H a ys):xs=ys:=by
 obtain⟨J,r,⟨o,e,_,n,d⟩,_⟩:=I.tuple h;obtain⟨its',r',⟨o',U,_,n',d'⟩,_⟩:=I.tuple h';rw[e] at U;cases U;rw[d] at d';injection d' with d1 _;have:J=its':=by simpa using K9 Array.toList d1
 subst this;exact r.inj r'
end
noncomputable abbrev Cx.wish (X:Cx)(E:JT->JZ->Prop):Cx:={X with xe:=E}
noncomputable abbrev Cx.nox (X:Cx):Cx:=X.wish λ_ _=>LG
theorem Cx.Ok.wish {X:Cx}(ok:X.Ok)(E:JT->JZ->Prop):(X.wish E).Ok:=
 ⟨ok.mod,ok.kind,ok.glob,ok.blt,ok.above,ok.inj,ok.has,ok.cab,ok.hd,ok.frames,ok.stk,ok.exf,ok.bs,ok.bsz,ok.noex,ok.exfs,ok.funs,ok.frf⟩
theorem Cx.Ok.unwish {X:Cx}{E:JT->JZ->Prop}(ok:(X.wish E).Ok):X.Ok:=
 ⟨ok.mod,ok.kind,ok.glob,ok.blt,ok.above,ok.inj,ok.has,ok.cab,ok.hd,ok.frames,ok.stk,ok.exf,ok.bs,ok.bsz,ok.noex,ok.exfs,ok.funs,ok.frf⟩
section
variable {X : Cx} {pins : JP (JR × Obj)} {σ : St} {H : Hp} {s : JZ} {E : JT -> JZ -> Prop}
theorem Inv.wish (I:Inv X pins σ H s)(E:JT->JZ->Prop):Inv (X.wish E) pins σ H s:=⟨I.ok.wish E,I.os,I.bare,I.base,I.loc,I.cell,I.free,I.freeC,I.pin,I.hok,I.len⟩
theorem Inv.unwish (I:Inv (X.wish E) pins σ H s):Inv X pins σ H s:=⟨I.ok.unwish,I.os,I.bare,I.base,I.loc,I.cell,I.free,I.freeC,I.pin,I.hok,I.len⟩
theorem SP.unwish {D:Ends}{f:Flow}{s':JZ}(h:SP (X.wish E) pins D f s'):SP X pins D f s':=by
 cases f with
 |next=>obtain⟨J,H',I,q⟩:=h;exact⟨J,H',I.unwish,q⟩
 |brk=>obtain⟨J,H',I,q⟩:=h;exact⟨J,H',I.unwish,q⟩
 |cont=>obtain⟨J,H',I,q⟩:=h;exact⟨J,H',I.unwish,q⟩
 |ret u=>obtain⟨v,J,H',I,r,q⟩:=h;exact⟨v,J,H',I.unwish,r,q⟩
theorem cH.nox {st:JP K0}{t:TS}(h:cH X.nox st t):cH X st t:=λpins s σ H D I hw=>
 KY (h pins s σ H D (I.wish _) hw) (λ_ _ q=>q.unwish) λ_ _ z=>La z
end
section
variable {X : Cx} {st : K0} {rest : JP K0} {t u : TS} {e : KI} {te : TE} {pos : Pos}
noncomputable def D7:TS:=λD σ H=>D.nx σ H
noncomputable def kC(t u:TS):TS:=λD σ H=>t {D with nx:=u D} σ H
theorem cX:cH X [] D7:=λ_ _ σ H _ I h=>Nb ⟨σ,H,I,h⟩
theorem b9(h1:PS X st t)(h2:cH X rest u):cH X (st::rest) (kC t u):=by
 intro pins s σ H D I h;refine M4 (cv (h1 pins s σ H {D with nx:=u D} I h) λf s1 q=>?_);cases f with
 |next=>
  obtain⟨J,H',U,q⟩:=q;exact h2 pins s1 J H' D U q
 |ret v=>exact q
 |brk=>exact q
 |cont=>exact q
theorem b5(h1:PS X st t):cH X [st] t:=by
 intro pins s σ H D I h;refine M4 (cv (h1 pins s σ H D I h) λf s1 q=>?_);cases f with
 |next=>exact Nb q
 |ret v=>exact q
 |brk=>exact q
 |cont=>exact q
theorem Inv.quiet {pins:JP (JR×Obj)}{σ:St}{H:Hp}{s:JZ}(I:Inv X pins σ H s):interactive X.env=false:=by simp[interactive,I.ok.kind]
noncomputable def FY(te:TE):TS:=λD σ H=>te σ H λ_ H1=>D.nx σ H1
theorem e9(he:PE X e te)(hs:Ol e none pos.line X.env=pure false:=by rfl):PS X (.Expr e pos) (FY te):=by
 intro pins s σ H D I h;exact wpAny_Expr_any (cv (he pins s σ H _ I h) λv s1 ⟨x,H1,J,r1,U⟩=>⟨σ,H1,J,U⟩) I.quiet hs
noncomputable def Hf(te:TE):TS:=λD σ H=>te σ H D.rt
theorem cy(he:PE X e te):PS X (.Return (some e) pos) (Hf te):=by
 intro pins s σ H D I h;exact wpAny_Return_some (cv (he pins s σ H _ I h) λv s1 ⟨x,H1,J,r1,U⟩=>⟨x,σ,H1,J,r1,U⟩)
noncomputable def Bx(c:TT)(t u:TS):TS:=λD σ H=>c σ H λb H1=>if b=true then t D σ H1 else u D σ H1
theorem cM{c:KI}{a b:JP K0}{tc:TT}(hc:PT X c tc)(ha:cH X a t)(hb:cH X b u):PS X (.If c a b pos) (Bx tc t u):=by
 intro pins s σ H D I h;refine wpAny_If (cv (hc pins s σ H _ I h) λd s1 ⟨H1,J,U⟩=>?_);cases d with
 |true=>exact ha pins s1 σ H1 D J U
 |false=>exact hb pins s1 σ H1 D J U
noncomputable def Ju:TS:=λ_ _ _=>LG
theorem pV{sts:JP K0}:cH X sts Ju:=λ_ _ _ _ _ _ h=>h.elim
end
noncomputable abbrev TG:=V->St->Hp->(St->Hp->Prop)->Prop
noncomputable abbrev mV:=JP V->St->Hp->(St->Hp->Prop)->Prop
noncomputable def PG(X:Cx)(target:KI)(t:TG):Prop:=
 ∀(pins:JP (JR×Obj)) (s:JZ) (σ:St) (H:Hp) (v:V) (u:JT) (Q:St->Hp->Prop),Inv X pins σ H s->RelV v u->t v σ H Q->
  Kq (Ko X.prog X.w) X.A (assign target X.env u) (λ_ s'=>∃ J H',Inv X pins J H' s'/\Q J H') X.xe s
noncomputable def cT(X:Cx)(ts:JP KI)(t:mV):Prop:=
 ∀(pins:JP (JR×Obj)) (s:JZ) (σ:St) (H:Hp) (vs:JP V) (us:JP JT) (Q:St->Hp->Prop),Inv X pins σ H s->Vals vs us->t vs σ H Q->
  Kq (Ko X.prog X.w) X.A (MG ((NY ts X.env).map (·.2)) us) (λ_ s'=>∃ J H',Inv X pins J H' s'/\Q J H') X.xe s
noncomputable abbrev wO:=V->V->V->Hp->(Hp->Prop)->Prop
noncomputable def yO(X:Cx)(t:wO):Prop:=
 ∀(pins:JP (JR×Obj)) (s:JZ) (σ:St) (H:Hp) (o i v:V) (J U u:JT) (Q:Hp->Prop),Inv X pins σ H s->RelV o J->RelV i U->RelV v u->t o i v H Q->
  Kq (Ko X.prog X.w) X.A (setItem J U u) (λ_ s'=>∃ H',Inv X pins σ H' s'/\Q H') X.xe s
noncomputable abbrev sJ:=V->V->Hp->VK->Prop
noncomputable def yR(X:Cx)(op:O5)(t:sJ):Prop:=
 ∀(pins:JP (JR×Obj)) (s:JZ) (σ:St) (H:Hp) (x y:V) (v u:JT) (Q:VK),Inv X pins σ H s->RelV x v->RelV y u->t x y H Q->
  Kq (Ko X.prog X.w) X.A (inplaceOp op v u) (EP X pins σ Q) X.xe s
section
variable {X : Cx} {pos : Pos}
noncomputable def g6(i:Nat):TG:=λv σ H Q=>Q (σ.set i (some v)) H
theorem eY{i:Nat}{x:Str}(hN:X.N.Nodup)(hi:X.N[i]? =some x)(hx:Loc X.env.scope x)(hf:X.fn x=true\/X.env.scope.names.lookup x=some .local:=by first|exact .inl rfl|exact .inr rfl|assumption):PG X (.Name x pos) (g6 i):=by
 intro pins s σ H v u Q I r h;exact wpAny_assign_Name (iU I hN hi hx r (λs' J=>⟨_,H,J,h⟩) hf)
noncomputable def Dl:mV:=λvs σ H Q=>vs=[]/\Q σ H
noncomputable def Iu(t:TG)(u:mV):mV:=λvs σ H Q=>∃ v r,vs=v::r/\t v σ H λJ H'=>u r J H' Q
theorem pH:cT X [] Dl:=by
 intro pins s σ H vs us Q I r h;obtain⟨e,h⟩:=h;subst e;cases r;exact Nh ⟨σ,H,I,h⟩
theorem iK{e:KI}{es:JP KI}{t:TG}{u:mV}(h1:PG X e t)(h2:cT X es u)
  (hs:(NY (e::es) X.env).map (·.2)=assign e X.env::(NY es X.env).map (·.2):=by rfl):cT X (e::es) (Iu t u):=by
 intro pins s σ H vs us Q I r h;obtain⟨v,vr,U,h⟩:=h;subst U;cases r with
 |cons r rr=>
  rw[hs];refine LH (cv (h1 pins s σ H _ _ _ I r h) λ_ s1 ⟨J,H1,I1,q1⟩=>?_);exact h2 pins s1 J H1 _ _ Q I1 rr q1
noncomputable def BB(K:Kl)(n:Nat)(t:mV):TG:=λv σ H Q=>∃ a xs,v= .ref a/\cu K H a xs/\xs.length=n/\t xs σ H Q
theorem qI{es:JP KI}{k:Nat}{t:mV}{n:Nat}(hc:X.calm=true)(h:cT X es t)
  (hn:(NY es X.env).length=n:=by rfl)(hst:(NY es X.env).findIdx? (·.1)=none:=by rfl):PG X (.Tuple es k pos) (BB X.K n t):=by
 intro pins s σ H v u Q I r hw;obtain⟨a,xs,U,hq,hl,hw⟩:=hw;subst U;cases r;obtain⟨aa,J,ht,hz⟩:=I.tuple hq;refine assign_Tuple_tuple (I.ok.hd hc) ht (by simp[hn,<-hl,J.length]) hst λh' hx=>?_
 have I1:Inv X pins σ H {s with heap:=h'}:=I.kept (t':=s.toks) λb o e=>hx b o (Kr (Kb e)) e
 exact h pins _ σ H xs _ Q I1 (by simpa using J) hw
noncomputable def Gu(to ti:TE)(t:wO):TG:=λv σ H Q=>to σ H λo H1=>ti σ H1 λi H2=>t o i v H2 λJ=>Q σ J
theorem FT{o i:KI}{to ti:TE}{t:wO}(ho:PE X o to)(hi:PE X i ti)(hs:yO X t)
  (ha:∀ v,assign (.Subscript o i pos) X.env v=(do
   let ov<-OZ [v] (eval o X.env)
   let iv<-OZ [v,ov] (eval i X.env)
   standAt pos
   OZ [v,ov,iv] (setItem ov iv v)
   release [v,ov,iv] []):=by intro _;rfl):PG X (.Subscript o i pos) (Gu to ti t):=by
 intro pins s σ H v u Q I r h;rw[ha];refine J8 (wpAny_holding (cv (ho pins s σ H _ I h) λov s1 ⟨x,H1,J,r1,U⟩=>?_));refine J8 (wpAny_holding (cv (hi pins s1 σ H1 _ J U) λiv s2 ⟨y,H2,I2,r2,q2⟩=>?_));refine J8 (MH (J8 (wpAny_holding (cv (hs pins s2 σ H2 x y v ov iv u _ I2 r1 r2 r q2) λ_ s3 ⟨H3,I3,q3⟩=>?_))));exact wpAny_release ⟨σ,H3,I3,q3⟩
noncomputable def p9(te:TE)(g:TG):TS:=λD σ H=>te σ H λx H1=>g x σ H1 D.nx
theorem vW{tg e:KI}{te:TE}{g:TG}(he:PE X e te)(hg:PG X tg g)(hs:Of [tg] e pos.line X.env=pure false:=by rfl)(hw:Og [tg] e X.env=pure none:=by rfl)
  (h1:(NY [tg] X.env).map (·.2)=[assign tg X.env]:=by rfl):PS X (.Assign [tg] e pos) (p9 te g):=by
 intro pins s σ H D I h;refine wpAny_Assign_stores (cv (he pins s σ H _ I h) λv s1 ⟨x,H1,J,r1,U⟩=>?_) hs hw;rw[h1];exact cv (hg pins s1 σ H1 x v _ J r1 U) λ_ s2 q=>q
theorem cZ{i:Nat}{x:Str}{e:KI}{te:TE}{pos':Pos}(hN:X.N.Nodup)(hi:X.N[i]? =some x)(hx:Loc X.env.scope x)(he:PE X e te)(hs:Ol e (some (.Name x pos')) pos.line X.env=pure false:=by rfl)(hf:X.fn x=true\/X.env.scope.names.lookup x=some .local:=by first|exact .inl rfl|exact .inr rfl|assumption):
  PS X (.Assign [.Name x pos'] e pos) (p9 te (g6 i)):=by
 intro pins s σ H D I h;refine N8 (cv (he pins s σ H _ I h) λv s1 ⟨y,H1,J,r1,U⟩=>?_) hs;exact iU J hN hi hx r1 (λs2 I2=>⟨_,H1,I2,U⟩) hf
noncomputable def xv(i j:Nat)(ta:TA):TS:=λD σ H=>ta σ H λvs H1=>∃ v w,vs=[v,w]/\D.nx ((σ.set i (some v)).set j (some w)) H1
theorem ye{i j:Nat}{x y:Str}{a b:KI}{ta:TA}{px py pt:Pos}{kt k2 pt2}(hc:X.calm=true)(hN:X.N.Nodup)(hi:X.N[i]? =some x)(hj:X.N[j]? =some y)(hij:i≠j)
  (hx:X.env.scope.names.lookup x=some .local)(hy:X.env.scope.names.lookup y=some .local)(ha:PA X [a,b] ta)
  (hw:Og [.Tuple [.Name x px,.Name y py] kt pt] (.Tuple [a,b] k2 pt2) X.env=pure (some [x,y]))
  (hs:Of [.Tuple [.Name x px,.Name y py] kt pt] (.Tuple [a,b] k2 pt2) pos.line X.env=pure false:=by rfl):
  PS X (.Assign [.Tuple [.Name x px,.Name y py] kt pt] (.Tuple [a,b] k2 pt2) pos) (xv i j ta):=by
 intro pins s σ H D I h;rw[OH];refine J8 (MH ?_);rw[hs];refine J8 (KN ?_);rw[if_neg (by decide)];refine J8 (Tuple_ (cv (ha _ pins s σ H _ I h) λus s1 ⟨vs,H1,I1,r1,q1⟩=>?_));obtain⟨v,w,e1,q1⟩:=q1;subst e1;obtain⟨J,U,rfl,rv,aa⟩:∃ J U,us=[J,U]/\RelV v J/\RelV w U:=by
  cases r1 with
  |cons p q=>
   cases q with
   |cons p' q'=>
    cases q';exact⟨_,_,rfl,p,p'⟩
 refine MN ?_ (by show 2<=sizeLine;decide);have I2:Inv X pins σ H1 {s1 with heap:=s1.heap.push {cls:= .type "tuple",data:= .seq [J,U].toArray}}:=I1.kept (t':=s1.toks) λb o e=>Heap.get?_push_of_some _ e
 rw[hw];refine J8 (KN ?_);show Kq (Ko X.prog X.w) X.A (do rule "assign.swapped-stores";let items<-unpackItems (.ref s1.heap.objs.size) 2 none;MG [λv=>Mm X.env y v,λv=>Mm X.env x v] items.reverse;pure Om) _ _ _;refine J8 (wpAny_rule (J8 (N9 (items:=#[J,U]) (I.ok.hd hc) (IsTup.new s1.heap _) λh' ab=>?_)));have I3:=I2.kept (h':=h') (t':=s1.toks) λb o e=>ab b o (Kr (Kb e)) e
 show Kq _ _ (MG [λv=>Mm X.env y v,λv=>Mm X.env x v] [U,J] >>= λ_=>pure Om) _ _ _;refine J8 (LH (Mn (iU I3 hN hj (.inl hy) aa (λs2 I4=>?_) (.inr hy))));refine LH (Mn (iU I4 hN hi (.inl hx) rv (λs3 I5=>Nh (KN ?_)) (.inr hx)));rw[Ny _ _ (K5 hij)] at I5;exact⟨_,H1,I5,q1⟩
noncomputable def Ds(i:Nat)(te:TE)(ti:sJ):TS:=λD σ H=>∃ x,σ[i]? =some (some x)/\te σ H λy H1=>ti x y H1 λz H2=>D.nx (σ.set i (some z)) H2
theorem zY{i:Nat}{x:Str}{e:KI}{te:TE}{op:O5}{ti:sJ}{pos':Pos}(hN:X.N.Nodup)(hi:X.N[i]? =some x)(hx:Loc X.env.scope x)(he:PE X e te)(ho:yR X op ti)(hf:X.fn x=true\/X.env.scope.names.lookup x=some .local:=by first|exact .inl rfl|exact .inr rfl|assumption):
  PS X (.AugAssign (.Name x pos') op e pos) (Ds i te ti):=by
 intro pins s σ H D I h;obtain⟨v,e1,h⟩:=h;obtain⟨m,hn,hl⟩:=I.loc;have ab:tJ X.env.scope x:=by rcases hx with k|k;exact .inl k;exact .inr (.inl k)
 obtain⟨u,r,l⟩:=hl i x v hi e1 ab;refine wpAny_AugAssign_Name ?_;have go:Kq (Ko X.prog X.w) X.A (eval e X.env) (λw U=>Kq (Ko X.prog X.w) X.A (inplaceOp op u w) (λr aa=>Kq (Ko X.prog X.w) X.A (storeName X.env x r) (λ_=>SP X pins D .next) X.xe aa) X.xe U) X.xe s:=by
  refine cv (he pins s σ H _ I h) λw s1 ⟨y,H1,I1,r1,q1⟩=>?_
  refine cv (ho pins s1 σ H1 v y u w _ I1 r r1 q1) λz s2 ⟨zv,H2,I2,r2,q2⟩=>?_
  exact iU I2 hN hi hx r2 (λs3 I3=>⟨_,H2,I3,q2⟩) hf
 rcases l with ⟨hk,hm⟩|⟨hk,c,hc,J⟩
 ·exact wpAny_loadName_local I.ok.kind hk hn hm go
 ·rcases hk with hk|hk
  ·exact wpAny_loadName_cell I.ok.kind hk hc J go
  ·rcases hx with k|k
   ·have:X.env.scope.names.lookup x=some .free:=hk;rw[k] at this;cases this
   ·have:X.env.scope.names.lookup x=some .free:=hk;rw[k] at this;cases this
noncomputable def Bo(f:Int->Int->Int):sJ:=λx y H Q=>∃ i j,x= .int i/\y= .int j/\Q (.int (f i j)) H
theorem zD:yR X .Add (Bo λi j=>i+j):=by
 intro pins s σ H x y v u Q I r1 r2 h;obtain⟨i,j,J,U,q⟩:=h;subst J;subst U;obtain⟨t,rfl⟩:=r1;obtain⟨t',rfl⟩:=r2;exact iadd_int ⟨.int _,H,I.tok _,⟨_,rfl⟩,q⟩
noncomputable def vM(c:TT)(tb:TS):TS:=λD σ H=>∃ W:Nat->St->Hp->Prop,(∃ m,W m σ H)/\∀ m σ H,W m σ H->
 c σ H λb H1=>if b=true then ∃ N:St->Hp->Prop,(∀ J H',N J H'->∃ U,U<m/\W U J H')/\tb {D with nx:=N,ct:=N,bk:=D.nx} σ H1 else D.nx σ H1
theorem kj{c:KI}{body:JP K0}{tc:TT}{tb:TS}(hp:PassesOwn (Ko X.prog X.w) X.A X.env X.xe)(hc:PT X c tc)(hb:cH X body tb):PS X (.While c body [] pos) (vM tc tb):=by
 intro pins s σ H D I h;obtain⟨W,⟨m0,w0⟩,turn⟩:=h;refine wpAny_While (codeAny_whileLoop (λn s'=>∃ aa H',Inv X pins aa H' s'/\W n aa H') ?_ m0 ⟨σ,H,I,w0⟩);rintro n s1 ⟨U,H1,I1,w1⟩;refine Mb hp (cv (hc pins s1 U H1 _ I1 (turn n U H1 w1)) λb s2 ⟨H2,I2,q2⟩=>?_);cases b with
 |true=>
  obtain⟨N,hN,q2⟩:=q2;rw[J1 rfl];refine Mb hp (cv (hb pins s2 U H2 _ I2 q2) λf s3 q3=>?_);cases f with
  |next=>
   obtain⟨J,H3,I3,n3⟩:=q3;obtain⟨m',hm,w3⟩:=hN J H3 n3;exact⟨m',hm,J,H3,I3,w3⟩
  |cont=>
   obtain⟨J,H3,I3,n3⟩:=q3;obtain⟨m',hm,w3⟩:=hN J H3 n3;exact⟨m',hm,J,H3,I3,w3⟩
  |brk=>exact q3
  |ret v=>exact q3
 |false=>
  rw[if_neg J3];exact Nb ⟨U,H2,I2,q2⟩
end
structure It where
 go : Nat -> Hp -> Prop
 yld : Nat -> Hp -> V -> Hp -> Prop
 stop : Nat -> Hp -> Prop
noncomputable def iD(X:Cx)(pins:JP (JR×Obj))(H:Hp)(b:JR):Prop:=
 H b=none/\b≠X.env.locals/\b∉X.fs/\(b∈X.ex\/X.s₀.heap.objs.size<=b)/\(∀ x c,X.env.cells.lookup x=some c->c≠b)/\∀ p∈X.pn++pins,p.1≠b
theorem Inv.fpOk {X:Cx}{pins:JP (JR×Obj)}{σ:St}{H H':Hp}{s:JZ}{b:JR}(I:Inv X pins σ H s)(hb:s.heap.objs.size<=b)(hn:H' b=none):iD X pins H' b:=by
 refine⟨hn,OA (Km I.lt hb),I.nofs hb,.inr (Kj I.sz hb),λx c e z=>?_,λp hp z=>?_⟩
 ·obtain⟨v,q⟩:=I.cell x c e;exact absurd (Km q.lt (by rw[z];exact hb)) (Kw _)
 ·exact absurd (Km (Kb (I.pin p hp).1) (by rw[z];exact hb)) (Kw _)
structure Turn (P : Ka) (w : Ku) (K : Kl) (tg : KI) (J : It) (fp : JP JR) (it : JR) (tn : Nat -> KP -> Prop) : Prop where
 mem : it ∈ fp
 obj : ∀ i h, tn i h -> ∀ b ∈ fp, ∃ o, h.get? b = some o /\ ∀ v, o.data ≠ .cell v
 keep : ∀ i h h', tn i h -> (∀ b ∈ fp, ∀ o, h.get? b = some o -> h'.get? b = some o) -> tn i h'
 item : ∀ (X : Cx), X.prog = P -> X.w = w -> X.K = K -> X.calm = true -> ∀ (i : Nat) (pins : JP (JR × Obj)) (s : JZ) (σ : St) (H : Hp) (E : JT -> JZ -> Prop), Inv X pins σ H s -> (∀ b ∈ fp, iD X pins H b) -> tn i s.heap -> J.go i H ->
  Kq (Ko P w) X.A (pyNext (.ref it)) (λr s1 => ∃ u, r = some u /\
   Kq (Ko P w) X.A (Nc tg (.ref it) u) (λ_ s2 => ∃ x H', Inv X pins σ H' s2 /\ RelV x u /\ J.yld i H x H' /\ tn (i+1) s2.heap /\ ∀ b ∈ fp, H' b = none) E s1) E s
 done : ∀ (X : Cx), X.prog = P -> X.w = w -> X.K = K -> X.calm = true -> ∀ (i : Nat) (pins : JP (JR × Obj)) (s : JZ) (σ : St) (H : Hp) (E : JT -> JZ -> Prop), Inv X pins σ H s -> (∀ b ∈ fp, iD X pins H b) -> tn i s.heap -> J.stop i H ->
  Kq (Ko P w) X.A (pyNext (.ref it)) (λr s1 => r = none /\ Inv X pins σ H s1) E s
 self : ∀ (A : K4) (i : Nat) (s : JZ) (Q : JT -> JZ -> Prop) (E : JT -> JZ -> Prop), tn i s.heap -> Q (.ref it) s -> Kq (Ko P w) A (pyIter (.ref it)) Q E s
noncomputable abbrev TI:=St->Hp->(It->Hp->Prop)->Prop
noncomputable def AJ(X:Cx)(pins:JP (JR×Obj))(σ:St)(tg:KI)(R:It->Hp->Prop)(itv:JT)(s2:JZ):Prop:=
 ∃(it:JR) (fp:JP JR) (U:Nat->KP->Prop) (J:It) (H':Hp),itv= .ref it/\Inv X pins σ H' s2/\Turn X.prog X.w X.K tg J fp it U/\U 0 s2.heap/\(∀ b∈fp,iD X pins H' b)/\R J H'
noncomputable def PI(X:Cx)(tg iter:KI)(wi:TI):Prop:=
 ∀(pins:JP (JR×Obj)) (s:JZ) (σ:St) (H:Hp) (R:It->Hp->Prop),Inv X pins σ H s->wi σ H R->
  Kq (Ko X.prog X.w) X.A (eval iter X.env) (λv s1=>Kq (Ko X.prog X.w) X.A (pyIter v) (AJ X pins σ tg R) X.xe s1) X.xe s
theorem q8 {M : Model} {A : K4} {E : JT -> JZ -> Prop} {s : JZ} {tg : KI} {it : JR} {u : JT} {o : Obj} {n : Mx} {vs : MM JT} {Q : Unit -> JZ -> Prop} (ho : s.heap.get? it = some o) (hc : o.cls = .type n) (hd : o.data = .fields vs)
  (hn : ["enumerate", "zip", "dict_itemiterator", "dict_reverseitemiterator", "odict_iterator", "itertools.zip_longest", "itertools.pairwise"].contains n = false) (hQ : Q () s) : Kq M A (Nc tg (.ref it) u) Q E s := by
 unfold Nc
 cases tg <;> first
  | exact KN hQ
  | (cases u <;> first
    | exact KN hQ
    | (refine J8 (wpAny_load ho ?_)
       rw [hc, hd]
       show Kq M A (if (["enumerate", "zip", "dict_itemiterator", "dict_reverseitemiterator", "odict_iterator", "itertools.zip_longest", "itertools.pairwise"].contains n && vs[0]? == some (rawInt _)) = true then _ else _) Q E s
       rw [if_neg (by intro h; rw [hn, NZ] at h; cases h)]
       exact KN hQ))
noncomputable def om(K:Kl)(a:JR):It:=
 ⟨λi H=>∃ xs x,ck K H a xs/\xs[i]? =some x,λi H x H'=>H'=H/\∀ xs,ck K H a xs->xs[i]? =some x,λi H=>∃ xs,ck K H a xs/\xs.length<=i⟩
noncomputable def oK(K:Kl)(a:JR):It:=
 ⟨λi H=>∃ xs x,cu K H a xs/\xs[i]? =some x,λi H x H'=>H'=H/\∀ xs,cu K H a xs->xs[i]? =some x,λi H=>∃ xs,cu K H a xs/\xs.length<=i⟩
noncomputable def my(lo:Int)(n:Nat):It:=⟨λi _=>i<n,λi H x H'=>H'=H/\x= .int (lo+i),λi _=>n<=i⟩
theorem F1{P:Ka}{w:Ku}{K:Kl}{tg:KI}(a it:JR):Turn P w K tg (om K a) [it] it (λi h=>h.IsListIter it a i) where
 mem:=by simp
 obj:=λi h st b hb=>by
  have e:b=it:=by simpa using hb
  subst e;obtain⟨o,e,c,d⟩:=st;exact⟨o,e,λv z=>by rw[d] at z;cases z⟩
 keep:=λi h h' st k=>st.at λo e=>k it (by simp) o e
 item:=by
  intro X hP hw hK hc i pins s σ H E I hf st hg;subst hP hw hK;obtain⟨xs,x,U,hx⟩:=hg;obtain⟨aa,rv,p,hz⟩:=I.list U;obtain⟨u,hu,ru⟩:=rv.get hx;obtain⟨f0,f1,f2,f3,f4,f5⟩:=hf it (by simp);refine wpAny_pyNext_list_item st p.isList (x:=u) (by simpa using hu) λh' J sb=>?_
  have I1:Inv X pins σ H {s with heap:=h'}:=I.turned (t':=s.toks) (λb o hb e=>(sb.2 b hb).trans e) f0 f1 f3 f4 f5;obtain⟨o,e,c,d⟩:=id J;exact⟨u,rfl,q8 (s:={s with heap:=h'}) e c d (by decide) ⟨x,H,I1,ru,⟨rfl,λys hy=>by rw[I.list_inj hy U];exact hx⟩,J,λb hb=>(hf b hb).1⟩⟩
 done:=by
  intro X hP hw hK hc i pins s σ H E I hf st hg;subst hP hw hK;obtain⟨xs,U,hx⟩:=hg;obtain⟨aa,rv,p,hz⟩:=I.list U;obtain⟨f0,f1,f2,f3,f4,f5⟩:=hf it (by simp);have hl:=rv.length;exact wpAny_pyNext_list_end (I.ok.hd hc) st p.isList (by simp;lia) λh' eb=>⟨rfl,I.turned (t':=s.toks) (λb o hb e=>eb b o hb e) f0 f1 f3 f4 f5⟩
 self:=λ_ _ _ _ _ st h=>wpAny_pyIter_listiter st h
theorem FJ{P:Ka}{w:Ku}{K:Kl}{tg:KI}(a it:JR):Turn P w K tg (oK K a) [it] it (λi h=>h.IsTupleIter it a i) where
 mem:=by simp
 obj:=λi h st b hb=>by
  have e:b=it:=by simpa using hb
  subst e;obtain⟨o,e,c,d⟩:=st;exact⟨o,e,λv z=>by rw[d] at z;cases z⟩
 keep:=λi h h' st k=>st.at λo e=>k it (by simp) o e
 item:=by
  intro X hP hw hK hc i pins s σ H E I hf st hg;subst hP hw hK;obtain⟨xs,x,hq,hx⟩:=hg;obtain⟨J,rv,p,hz⟩:=I.tuple hq;obtain⟨u,hu,ru⟩:=rv.get hx;obtain⟨f0,f1,f2,f3,f4,f5⟩:=hf it (by simp);refine wpAny_pyNext_tuple_item st (show s.heap.IsTuple a J.toArray from p) (x:=u) (by simpa using hu) λh' U sb=>?_
  have I1:Inv X pins σ H {s with heap:=h'}:=I.turned (t':=s.toks) (λb o hb e=>(sb.2 b hb).trans e) f0 f1 f3 f4 f5;obtain⟨o,e,c,d⟩:=id U;exact⟨u,rfl,q8 (s:={s with heap:=h'}) e c d (by decide) ⟨x,H,I1,ru,⟨rfl,λys hy=>by rw[I.tuple_inj hy hq];exact hx⟩,U,λb hb=>(hf b hb).1⟩⟩
 done:=by
  intro X hP hw hK hc i pins s σ H E I hf st hg;subst hP hw hK;obtain⟨xs,hq,hx⟩:=hg;obtain⟨J,rv,p,hz⟩:=I.tuple hq;obtain⟨f0,f1,f2,f3,f4,f5⟩:=hf it (by simp);have hl:=rv.length;exact wpAny_pyNext_tuple_end (I.ok.hd hc) st (show s.heap.IsTuple a J.toArray from p) (by simp;lia) λh' eb=>⟨rfl,I.turned (t':=s.toks) (λb o hb e=>eb b o hb e) f0 f1 f3 f4 f5⟩
 self:=λ_ _ _ _ _ st h=>wpAny_pyIter_tupleiter st h
theorem Eo{P:Ka}{w:Ku}{K:J7}{tg:KI}(it:JR)(lo:Int)(n:Nat):Turn P w K tg (my lo n) [it] it (λi h=>IsRangeIter h it (lo+(i:Nat)*1) ((n:Int)-(i:Nat)) 1) where
 mem:=by simp
 obj:=λi h st b hb=>by
  have e:b=it:=by simpa using hb
  subst e;exact⟨_,st,λv z=>by
   have z':Data.fields _=Data.cell v:=z;cases z'⟩
 keep:=λi h h' st k=>k it (by simp) _ st
 item:=by
  intro X U hw hK hc i pins s σ H E I hf st hg;subst U hw hK;obtain⟨f0,f1,f2,f3,f4,f5⟩:=hf it (by simp);have W:=Walks.range (prog:=X.prog) (w:=X.w) (I.ok.hd hc) it lo 1 n;refine W.item i s _ _ hg st λv h' tk hv J kk=>?_
  obtain⟨t,rfl⟩:=hv;have I1:Inv X pins σ H {s with heap:=h',toks:=tk}:=I.turned (λb o hb e=>kk b o (by simpa using hb) e) f0 f1 f3 f4 f5;refine⟨_,rfl,q8 (s:={s with heap:=h',toks:=tk}) (n:="range_iterator") J rfl rfl (by decide) ⟨.int (lo+i),H,I1,⟨t,?_⟩,⟨rfl,rfl⟩,J,λb hb=>(hf b hb).1⟩⟩;rw[Int.mul_one]
 done:=by
  intro X U hw hK hc i pins s σ H E I hf st hg;subst U hw hK;obtain⟨f0,f1,f2,f3,f4,f5⟩:=hf it (by simp);exact wpAny_pyNext_range_end (I.ok.hd hc) st (by have:n<=i:=hg;lia) λh' eb=>⟨rfl,I.turned (t':=s.toks) (λb o hb e=>eb b o hb e) f0 f1 f3 f4 f5⟩
 self:=λ_ _ _ _ _ st h=>wpAny_pyIter_rangeiter st h
section
variable {X : Cx} {tg : KI}
noncomputable def D4(K:Kl)(tl:TE):TI:=λσ H R=>tl σ H λx H1=>∃ a,x= .ref a/\(∃ xs,ck K H1 a xs)/\R (om K a) H1
noncomputable def CU(K:Kl)(tl:TE):TI:=λσ H R=>tl σ H λx H1=>∃ a,x= .ref a/\(∃ xs,cu K H1 a xs)/\R (oK K a) H1
theorem pj{l:KI}{tl:TE}(hl:PE X l tl):PI X tg l (D4 X.K tl):=by
 intro pins s σ H R I h;refine cv (hl pins s σ H _ I h) λv s1 ⟨x,H1,J,r1,U⟩=>?_
 obtain⟨a,e,⟨xs,hq⟩,q⟩:=U;subst e;cases r1;obtain⟨aa,rv,p,hz⟩:=J.list hq;refine Oa p.isList ?_;refine⟨s1.heap.objs.size,[s1.heap.objs.size],_,_,H1,rfl,J.kept (t':=s1.toks) λb o e=>Heap.get?_push_of_some _ e,F1 a _,⟨_,Heap.get?_push_size _ rfl,rfl,rfl⟩,λb hb=>?_,q⟩;have e:b=s1.heap.objs.size:=by simpa using hb
 subst e;exact J.fpOk (JY _) (J.hok.fresh (JY _))
theorem zm{l:KI}{tl:TE}(hl:PE X l tl):PI X tg l (CU X.K tl):=by
 intro pins s σ H R I h;refine cv (hl pins s σ H _ I h) λv s1 ⟨x,H1,J,r1,q1⟩=>?_
 obtain⟨a,e,⟨xs,hq⟩,q⟩:=q1;subst e;cases r1;obtain⟨U,rv,p,hz⟩:=J.tuple hq;refine wpAny_pyIter_tuple (show s1.heap.IsTuple a U.toArray from p) ?_;refine⟨s1.heap.objs.size,[s1.heap.objs.size],_,_,H1,rfl,J.kept (t':=s1.toks) λb o e=>Heap.get?_push_of_some _ e,FJ a _,⟨_,Heap.get?_push_size _ rfl,rfl,rfl⟩,λb hb=>?_,q⟩;have e:b=s1.heap.objs.size:=by simpa using hb
 subst e;exact J.fpOk (JY _) (J.hok.fresh (JY _))
theorem GZ{pins:JP (JR×Obj)}{σ:St}{H:Hp}{s:JZ}{R:It->Hp->Prop}{E:JT->JZ->Prop}{lo hi:Int}{t u v:Tok}{tk:Nat}(I:Inv X pins σ H s)(h1: -(2 ^ 62)<=lo)(h2:lo<2 ^ 62)(h3: -(2 ^ 62)<=hi)(h4:hi<2 ^ 62)
  (q:R (my lo (hi-lo).toNat) H):Kq (Ko X.prog X.w) X.A (pyIter (.ref s.heap.objs.size)) (AJ X pins σ tg R) E {s with heap:=s.heap.push {cls:= .type "range",data:= .fields #[.int lo t,.int hi u,.int 1 v]},toks:=tk}:=by
 refine wpAny_pyIter_range (IsRange.new ..) (small_one h1 h2 h3 h4) ?_;have J:Inv X pins σ H {s with heap:=s.heap.push {cls:= .type "range",data:= .fields #[.int lo t,.int hi u,.int 1 v]},toks:=tk}:=I.kept λb o e=>Heap.get?_push_of_some _ e
 refine⟨(s.heap.push {cls:= .type "range",data:= .fields #[.int lo t,.int hi u,.int 1 v]}).objs.size,[(s.heap.push {cls:= .type "range",data:= .fields #[.int lo t,.int hi u,.int 1 v]}).objs.size],_,_,H,rfl,
  J.kept (t':=tk) λb o e=>Heap.get?_push_of_some _ e,Eo _ lo (hi-lo).toNat,?_,λb hb=>?_,q⟩
 ·have U:lo+((0:Nat):Int)*1=lo:=by simp
  have e2:(((hi-lo).toNat:Nat):Int)-((0:Nat):Int)=Builtin.Range.rangeSize lo hi 1:=by rw[rangeSize_one];split<;>lia
  show IsRangeIter _ _ (lo+((0:Nat):Int)*1) ((((hi-lo).toNat:Nat):Int)-((0:Nat):Int)) 1;rw[U,e2];exact Heap.get?_push_size _ rfl
 ·have e:b=(s.heap.push {cls:= .type "range",data:= .fields #[.int lo t,.int hi u,.int 1 v]}).objs.size:=by simpa using hb
  subst e;exact J.fpOk (JY _) (J.hok.fresh (JY _))
noncomputable def BJ(ta:TA):TI:=λσ H R=>ta σ H λvs H1=>∃ j:Int,vs=[.int j]/\ -(2 ^ 62)<=j/\j<2 ^ 62/\R (my 0 j.toNat) H1
theorem lF{a:KI}{ta:TA}{p pos:Pos}(hg:Gl X "range")(hm:X.mg "range"=none)(ha:PA X [a] ta)(hs:KA [a] X.env=[(false,eval a X.env)]:=by rfl):PI X tg (.Call (.Name "range" p) [a] [] pos) (BJ ta):=by
 intro pins s σ H R I h;refine Call_ (qi I hg hm boot_range (MO (cv (ha pos pins s σ H _ I h) λus s1 ⟨vs,H1,U,r1,J⟩=>?_) hs rfl));obtain⟨j,e,J,q2,q⟩:=J;subst e;cases r1 with
 |cons r rr=>
  cases rr;obtain⟨t,rfl⟩:=r;exact call_range_1 (GZ U (by lia) (by lia) J q2 (by simpa using q))
noncomputable def Jm(wi:TI)(g:TG)(tb:TS):TS:=λD σ H=>wi σ H λJ H1=>∃ W:Nat->Nat->St->Hp->Prop,(∃ m,W 0 m σ H1)/\∀ i m σ H,W i m σ H->
 (J.stop i H/\D.nx σ H)\/(J.go i H/\∃ N:St->Hp->Prop,(∀ U H',N U H'->∃ m',m'<m/\W (i+1) m' U H')/\∀ x H',J.yld i H x H'->g x σ H' λI H2=>tb {D with nx:=N,ct:=N,bk:=D.nx} I H2)
noncomputable def ow(fp:JP JR)(h:KP):JP (JR×Obj):=fp.filterMap λb=>(h.get? b).map λo=>(b,o)
theorem nY{fp:JP JR}{h:KP}{b:JR}{o:Obj}(hb:b∈fp)(e:h.get? b=some o):(b,o)∈ow fp h:=List.mem_filterMap.mpr ⟨b,hb,by rw[e];rfl⟩
theorem HK{fp:JP JR}{h:KP}{p:JR×Obj}(hp:p∈ow fp h):p.1∈fp/\h.get? p.1=some p.2:=by
 obtain⟨b,hb,e⟩:=List.mem_filterMap.mp hp;cases q:h.get? b with
 |none=>rw[q] at e;cases e
 |some o=>
  rw[q] at e;have J:(b,o)=p:=Kg e;subst J;exact⟨hb,q⟩
theorem Inv.pinned {pins:JP (JR×Obj)}{σ:St}{H:Hp}{s:JZ}{fp:JP JR}(I:Inv X pins σ H s)(hf:∀ b∈fp,iD X pins H b)(ho:∀ b∈fp,∃ o,s.heap.get? b=some o/\∀ v,o.data≠ .cell v):Inv X (pins++ow fp s.heap) σ H s:=
 I.pins_of λp hp=>(List.mem_append.mp hp).elim (λz=>I.pin p (Ki _ z)) λz=>by
  obtain⟨hb,e⟩:=HK z;obtain⟨f0,f1,f2,_⟩:=hf p.1 hb;obtain⟨o,J,d⟩:=ho p.1 hb;rw[e] at J;cases J;exact⟨e,f0,f1,f2,d⟩
theorem Inv.unpinned {pins pl:JP (JR×Obj)}{σ:St}{H:Hp}{s:JZ}(I:Inv X (pins++pl) σ H s):Inv X pins σ H s:=I.pins_of λp hp=>I.pin p (Ki _ (Ll _ hp))
theorem kT{iter:KI}{body:JP K0}{wi:TI}{g:TG}{tb:TS}{pos:Pos}(hp:PassesOwn (Ko X.prog X.w) X.A X.env X.xe)(hc:X.calm=true)(hi:PI X tg iter wi)(hg:PG X tg g)(hb:cH X body tb)
  (hs:∀ x,Me iter X.env x=pure x:=by intro _;rfl):PS X (.For tg iter body [] pos) (Jm wi g tb):=by
 intro pins s σ H D I h;refine wpAny_For (cv (hi pins s σ H _ I h) λv s1 h1=>cv h1 λaq s2 h2=>?_) hs;obtain⟨it,fp,tn,J,H2,e,I2,T,ai,f2,W,⟨m0,w0⟩,turn⟩:=h2;subst e;have aa:∀{H':Hp},(∀ b∈fp,H' b=none)->∀ b∈fp,iD X pins H' b:=λhn b hb=>⟨hn b hb,(f2 b hb).2⟩
 refine codeAny_forLoop_any (λn s'=>∃ i ab H',Inv X pins ab H' s'/\tn i s'.heap/\(∀ b∈fp,H' b=none)/\W i n ab H') ?_ m0 ⟨0,σ,H2,I2,ai,λb hb=>(f2 b hb).1,w0⟩;rintro n s3 ⟨i,ae,H3,I3,ag,ah,w3⟩;rcases turn i n ae H3 w3 with ⟨stop,qn⟩|⟨go,N,hN,step⟩
 ·refine Mb hp (cv (T.done X rfl rfl rfl hc i pins s3 ae H3 X.xe I3 (aa ah) ag stop) λr s4 ⟨hr,I4⟩=>?_);subst hr;exact Nb ⟨ae,H3,I4,qn⟩
 ·refine Mb hp (cv (T.item X rfl rfl rfl hc i pins s3 ae H3 X.xe I3 (aa ah) ag go) λr s4 ⟨u,hr,h4⟩=>?_);subst hr;refine Mb hp (cv h4 λ_ s5 ⟨x,H5,I5,r5,y5,af,aj⟩=>?_);have ak:=I5.pinned (aa aj) (T.obj _ _ af);refine Mb hp (cv (hg _ s5 ae H5 x u _ ak r5 (step x H5 y5)) λ_ s6 ⟨ao,H6,I6,q6⟩=>?_);refine Mb hp (cv (hb _ s6 ao H6 _ I6 q6) λf s7 q7=>?_);have again:∀{U:St} {H7:Hp},Inv X (pins++ow fp s5.heap) U H7 s7->N U H7->∃ m,m<n/\∃ i ab H',Inv X pins ab H' s7/\tn i s7.heap/\(∀ b∈fp,H' b=none)/\W i m ab H':=λ{U H7} I7 n7=>by
   obtain⟨m',hm,w7⟩:=hN U H7 n7;refine⟨m',hm,i+1,U,H7,I7.unpinned,T.keep _ _ _ af λb hb o e=>(I7.pin (b,o) (Ki _ (Ki _ (nY hb e)))).1,λb hb=>?_,w7⟩;obtain⟨o,e,d⟩:=T.obj _ _ af b hb;exact(I7.pin (b,o) (Ki _ (Ki _ (nY hb e)))).2.1
  cases f with
  |next=>obtain⟨U,H7,I7,n7⟩:=q7;exact again I7 n7
  |cont=>obtain⟨U,H7,I7,n7⟩:=q7;exact again I7 n7
  |brk=>obtain⟨U,H7,I7,q7⟩:=q7;exact⟨U,H7,I7.unpinned,q7⟩
  |ret v=>obtain⟨x7,U,H7,I7,r7,q7⟩:=q7;exact⟨x7,U,H7,I7.unpinned,r7,q7⟩
end
theorem xY{K:J7}{a:JR}{xs:JP V}{g:TG}{tb:TS}{D:Ends}{σ:St}{H:Hp}(Pv:Nat->St->Hp->Prop)(h0:Pv 0 σ H)(hl:∀ i σ H,i<=xs.length->Pv i σ H->ck K H a xs)
  (hs:∀ i x σ H,xs[i]? =some x->Pv i σ H->g x σ H λσ2 H2=>tb {D with nx:=Pv (i+1),ct:=Pv (i+1),bk:=D.nx} σ2 H2)(hd:∀ σ H,Pv xs.length σ H->D.nx σ H):
  ∃ W:Nat->Nat->St->Hp->Prop,(∃ m,W 0 m σ H)/\∀ i m σ H,W i m σ H->
   ((om K a).stop i H/\D.nx σ H)\/((om K a).go i H/\∃ N:St->Hp->Prop,(∀ σ' H',N σ' H'->∃ m',m'<m/\W (i+1) m' σ' H')/\∀ x H',(om K a).yld i H x H'->g x σ H' λσ2 H2=>tb {D with nx:=N,ct:=N,bk:=D.nx} σ2 H2):=by
 refine⟨λi m σ H=>m=xs.length-i/\i<=xs.length/\Pv i σ H,⟨xs.length,by simp,Ks _,h0⟩,?_⟩;rintro i m σ H ⟨rfl,hi,p⟩;have q:=hl i σ H hi p;by_cases J:i<xs.length
 ·refine .inr ⟨⟨xs,xs[i],q,by simp[J]⟩,Pv (i+1),λσ' H' U=>⟨xs.length-(i+1),by lia,rfl,J,U⟩,λx H' y=>?_⟩;obtain⟨e,y⟩:=y;subst e;exact hs i x σ _ (y xs q) p
 ·have e:i=xs.length:=by lia
  subst e;exact .inl ⟨⟨xs,q,JY _⟩,hd σ H p⟩
theorem CV{K:J7}{a:JR}{xs:JP V}{g:TG}{tb:TS}{D:Ends}{σ:St}{H:Hp}(Pv:Nat->St->Hp->Prop)(h0:Pv 0 σ H)(hl:∀ i σ H,i<=xs.length->Pv i σ H->cu K H a xs)
  (hs:∀ i x σ H,xs[i]? =some x->Pv i σ H->g x σ H λσ2 H2=>tb {D with nx:=Pv (i+1),ct:=Pv (i+1),bk:=D.nx} σ2 H2)(hd:∀ σ H,Pv xs.length σ H->D.nx σ H):
  ∃ W:Nat->Nat->St->Hp->Prop,(∃ m,W 0 m σ H)/\∀ i m σ H,W i m σ H->
   ((oK K a).stop i H/\D.nx σ H)\/((oK K a).go i H/\∃ N:St->Hp->Prop,(∀ σ' H',N σ' H'->∃ m',m'<m/\W (i+1) m' σ' H')/\∀ x H',(oK K a).yld i H x H'->g x σ H' λσ2 H2=>tb {D with nx:=N,ct:=N,bk:=D.nx} σ2 H2):=by
 refine⟨λi m σ H=>m=xs.length-i/\i<=xs.length/\Pv i σ H,⟨xs.length,by simp,Ks _,h0⟩,?_⟩;rintro i m σ H ⟨rfl,hi,p⟩;have q:=hl i σ H hi p;by_cases J:i<xs.length
 ·refine .inr ⟨⟨xs,xs[i],q,by simp[J]⟩,Pv (i+1),λσ' H' U=>⟨xs.length-(i+1),by lia,rfl,J,U⟩,λx H' y=>?_⟩;obtain⟨e,y⟩:=y;subst e;exact hs i x σ _ (y xs q) p
 ·have e:i=xs.length:=by lia
  subst e;exact .inl ⟨⟨xs,q,JY _⟩,hd σ H p⟩
theorem tP{lo:Int}{n:Nat}{g:TG}{tb:TS}{D:Ends}{σ:St}{H:Hp}(Pv:Nat->St->Hp->Prop)(h0:Pv 0 σ H)
  (hs:∀ i σ H,i<n->Pv i σ H->g (.int (lo+i)) σ H λσ2 H2=>tb {D with nx:=Pv (i+1),ct:=Pv (i+1),bk:=D.nx} σ2 H2)(hd:∀ σ H,Pv n σ H->D.nx σ H):
  ∃ W:Nat->Nat->St->Hp->Prop,(∃ m,W 0 m σ H)/\∀ i m σ H,W i m σ H->
   ((my lo n).stop i H/\D.nx σ H)\/((my lo n).go i H/\∃ N:St->Hp->Prop,(∀ σ' H',N σ' H'->∃ m',m'<m/\W (i+1) m' σ' H')/\∀ x H',(my lo n).yld i H x H'->g x σ H' λσ2 H2=>tb {D with nx:=N,ct:=N,bk:=D.nx} σ2 H2):=by
 refine⟨λi m σ H=>m=n-i/\i<=n/\Pv i σ H,⟨n,by simp,Ks _,h0⟩,?_⟩;rintro i m σ H ⟨rfl,hi,p⟩;by_cases J:i<n
 ·refine .inr ⟨J,Pv (i+1),λσ' H' U=>⟨n-(i+1),by lia,rfl,J,U⟩,λx H' y=>?_⟩;obtain⟨e,y⟩:=y;subst e y;exact hs i σ _ J p
 ·have e:i=n:=by lia
  subst e;exact .inl ⟨JY _,hd σ H p⟩
theorem kq{c:TT}{tb:TS}{D:Ends}{σ:St}{H:Hp}(Pv:St->Hp->Prop)(μ:St->Hp->Nat)(h0:Pv σ H)
  (hs:∀ σ H,Pv σ H->c σ H λb H1=>if b=true then tb {D with nx:=λσ' H'=>Pv σ' H'/\μ σ' H'<μ σ H,ct:=λσ' H'=>Pv σ' H'/\μ σ' H'<μ σ H,bk:=D.nx} σ H1 else D.nx σ H1)
  (mono:∀ σ H Q Q',(∀ b H1,Q b H1->Q' b H1)->c σ H Q->c σ H Q'):vM c tb D σ H:=by
 refine⟨λm σ H=>m=μ σ H/\Pv σ H,⟨_,rfl,h0⟩,?_⟩;rintro m σ H ⟨rfl,p⟩;refine mono σ H _ _ (λb H1 q=>?_) (hs σ H p);cases b with
 |true=>exact⟨_,λσ' H' ⟨J,l⟩=>⟨_,l,rfl,J⟩,q⟩
 |false=>exact q
noncomputable abbrev R2:=V->V->Hp->VK->Prop
noncomputable def eT(X:Cx)(f:JT->JT->Sem JT)(r:R2):Prop:=
 ∀(pins:JP (JR×Obj)) (s:JZ) (σ:St) (H:Hp) (x y:V) (v u:JT) (Q:VK),Inv X pins σ H s->RelV x v->RelV y u->r x y H Q->
  Kq (Ko X.prog X.w) X.A (f v u) (EP X pins σ Q) X.xe s
noncomputable def vd(X:Cx)(f:JT->Sem JT)(r:V->Hp->VK->Prop):Prop:=
 ∀(pins:JP (JR×Obj)) (s:JZ) (σ:St) (H:Hp) (x:V) (v:JT) (Q:VK),Inv X pins σ H s->RelV x v->r x H Q->
  Kq (Ko X.prog X.w) X.A (f v) (EP X pins σ Q) X.xe s
noncomputable def iO(X:Cx)(f:JT)(r:JP V->Hp->VK->Prop):Prop:=
 ∀(pins:JP (JR×Obj)) (s:JZ) (σ:St) (H:Hp) (xs:JP V) (us:JP JT) (Q:VK),Inv X pins σ H s->Vals xs us->r xs H Q->
  Kq (Ko X.prog X.w) X.A (call f us) (EP X pins σ Q) X.xe s
noncomputable def rG(r:R2)(ta tb:TE):TE:=λσ H Q=>ta σ H λx H1=>tb σ H1 λy H2=>r x y H2 Q
noncomputable def B3(r:V->Hp->VK->Prop)(ta:TE):TE:=λσ H Q=>ta σ H λx H1=>r x H1 Q
noncomputable def rI(C:Int->Int->Prop)(g:Int->Int->V):R2:=λx y H Q=>∃ i j,x= .int i/\y= .int j/\C i j/\Q (g i j) H
noncomputable def jR(g:Int->Int->V):R2:=λx y H Q=>∃ i j,x= .int i/\y= .int j/\Q (g i j) H
noncomputable def rU(g:Int->V):V->Hp->VK->Prop:=λx H Q=>∃ i,x= .int i/\Q (g i) H
section
variable {X : Cx} {a b c : KI} {ta tb tc : TE} {pos : Pos}
theorem tZ(ha:PE X a ta)(hb:PE X b tb){pins:JP (JR×Obj)}{s:JZ}{σ:St}{H:Hp}{R:V->V->Hp->Prop}(I:Inv X pins σ H s)
  (h:ta σ H λx H1=>tb σ H1 λy H2=>R x y H2){Q:JT->JZ->Prop}{f:JT->JT->Sem JT}
  (hf:∀ v u s2 x y H2,Inv X pins σ H2 s2->RelV x v->RelV y u->R x y H2->Kq (Ko X.prog X.w) X.A (f v u) Q X.xe s2):
  Kq (Ko X.prog X.w) X.A (eval a X.env) (λv s₁=>Kq (Ko X.prog X.w) X.A (eval b X.env) (λu s₂=>Kq (Ko X.prog X.w) X.A (f v u) Q X.xe s₂) X.xe s₁) X.xe s:=by
 refine cv (ha pins s σ H _ I h) λv s1 ⟨x,H1,J,r1,U⟩=>?_
 refine cv (hb pins s1 σ H1 _ J U) λu s2 ⟨y,H2,I2,r2,q2⟩=>?_
 exact hf v u s2 x y H2 I2 r1 r2 q2
theorem cA{op:O5}{r:R2}(ho:eT X (Oo op) r)(ha:PE X a ta)(hb:PE X b tb):PE X (.BinOp a op b pos) (rG r ta tb):=by
 intro pins s σ H Q I h;exact wpAny_BinOp (tZ ha hb I h λv u s2 x y H2 J U ry q=>ho pins s2 σ H2 x y v u Q J U ry q)
theorem lL{op:UnaryOp}{r:V->Hp->VK->Prop}(ho:vd X (unaryOp op) r)(ha:PE X a ta):PE X (.UnaryOp op a pos) (B3 r ta):=by
 intro pins s σ H Q I h;exact UnaryOp_ (cv (ha pins s σ H _ I h) λv s1 ⟨x,H1,J,r1,U⟩=>ho pins s1 σ H1 x v Q J r1 U)
theorem vH{f:JT->JT->Sem JT}{C:Int->Int->Prop}{g:Int->Int->Int}
  (rule:∀(i j:Int) (t u:Tok) (s:JZ) (Q:JT->JZ->Prop) (E:JT->JZ->Prop),C i j->Q (.int (g i j) s.toks) {s with toks:=s.toks+1}->Kq (Ko X.prog X.w) X.A (f (.int i t) (.int j u)) Q E s):
  eT X f (rI C λi j=> .int (g i j)):=by
 intro pins s σ H x y v u Q I J U h;obtain⟨i,j,rfl,rfl,hc,q⟩:=h;obtain⟨t,rfl⟩:=J;obtain⟨t',rfl⟩:=U;exact rule i j t t' s _ _ hc ⟨.int (g i j),H,I.tok _,⟨_,rfl⟩,q⟩
theorem uH{f:JT->JT->Sem JT}{g:Int->Int->Int}
  (rule:∀(i j:Int) (t u:Tok) (s:JZ) (Q:JT->JZ->Prop) (E:JT->JZ->Prop),Q (.int (g i j) s.toks) {s with toks:=s.toks+1}->Kq (Ko X.prog X.w) X.A (f (.int i t) (.int j u)) Q E s):
  eT X f (jR λi j=> .int (g i j)):=by
 intro pins s σ H x y v u Q I J U h;obtain⟨i,j,rfl,rfl,q⟩:=h;obtain⟨t,rfl⟩:=J;obtain⟨t',rfl⟩:=U;exact rule i j t t' s _ _ ⟨.int (g i j),H,I.tok _,⟨_,rfl⟩,q⟩
theorem rH{f:JT->JT->Sem JT}{g:Int->Int->KS}
  (rule:∀(i j:Int) (t u:Tok) (s:JZ) (Q:JT->JZ->Prop) (E:JT->JZ->Prop),Q (.bool (g i j)) s->Kq (Ko X.prog X.w) X.A (f (.int i t) (.int j u)) Q E s):
  eT X f (jR λi j=> .bl (g i j)):=by
 intro pins s σ H x y v u Q I J U h;obtain⟨i,j,rfl,rfl,q⟩:=h;obtain⟨t,rfl⟩:=J;obtain⟨t',rfl⟩:=U;exact rule i j t t' s _ _ ⟨.bl (g i j),H,I,rfl,q⟩
noncomputable def Dp(i j:Int):Prop:=0<j/\j<1073741824
noncomputable def vC(i j:Int):Prop:=(-(2 ^ 64)<i/\i<2 ^ 64)\/(-(2 ^ 64)<j/\j<2 ^ 64)
theorem vC.ok {i j:Int}(h:vC i j):IntMulOk i j:=by
 rcases h with ⟨h1,h2⟩|⟨h1,h2⟩
 ·exact .of_left (intBits_le_64 h1 h2)
 ·exact .of_right (intBits_le_64 h1 h2)
theorem eD:eT X (Oo .Add) (jR λi j=> .int (i+j)):=uH λ_ _ _ _ _ _ _ q=>add_int q
theorem qc:eT X (Oo .Sub) (jR λi j=> .int (i-j)):=uH λ_ _ _ _ _ _ _ q=>sub_int q
theorem lQ:eT X (Oo .Mult) (rI vC λi j=> .int (i*j)):=vH λ_ _ _ _ _ _ _ J q=>mul_int q J.ok
theorem iy:eT X (Oo .FloorDiv) (rI Dp λi j=> .int (i/j)):=vH λi j _ _ _ _ _ J q=>by
 have h1:(0:Int)<j:=J.1
 have h2:j<1073741824:=J.2;exact floordiv_int (by lia) (by rw[Int.fdiv_eq_ediv_of_nonneg i (by lia)];exact q) (.inl (PyProof.noPylong_small (by lia)))
theorem fI:eT X (Oo .Mod) (rI (λ_ j=>0<j) λi j=> .int (i%j)):=vH λi j _ _ _ _ _ J q=>by
 have h1:(0:Int)<j:=J;exact mod_int' (by lia) (by rw[Int.fmod_eq_emod_of_nonneg i (by lia)];exact q)
theorem Dq:eT X (inplaceOp .Add) (jR λi j=> .int (i+j)):=uH λ_ _ _ _ _ _ _ q=>iadd_int q
theorem JL{f:JT->Sem JT}{g:Int->Int}
  (rule:∀(i:Int) (t:Tok) (s:JZ) (Q:JT->JZ->Prop) (E:JT->JZ->Prop),Q (.int (g i) s.toks) {s with toks:=s.toks+1}->Kq (Ko X.prog X.w) X.A (f (.int i t)) Q E s):
  vd X f (rU λi=> .int (g i)):=by
 intro pins s σ H x v Q I J h;obtain⟨i,rfl,q⟩:=h;obtain⟨t,rfl⟩:=J;exact rule i t s _ _ ⟨.int (g i),H,I.tok _,⟨_,rfl⟩,q⟩
theorem mn:vd X (unaryOp .USub) (rU λi=> .int (-i)):=JL λ_ _ _ _ _ q=>neg_int q
end
noncomputable def wt:V->V->KS
 |.non,.non=>true|.non,.int _=>true|.int _,.non=>true|.non,.bl _=>true|.bl _,.non=>true|.non,.str _=>true|.str _,.non=>true
 |.int _,.int _=>true|.bl _,.bl _=>true|.str _,.str _=>true|.byt _,.byt _=>true
 |.int _,.str _=>true|.str _,.int _=>true|.bl _,.str _=>true|.str _,.bl _=>true
 |_,_=>false
noncomputable def E1:R2:=λx y H Q=>wt x y=true/\Q (.bl (decide (x=y))) H
noncomputable def Gq:R2:=λx y H Q=>wt x y=true/\Q (.bl (!decide (x=y))) H
theorem xb{i j:Int}:decide (V.int i=V.int j)=(i==j):=by
 rw[NH];simp
theorem xN{i j:KS}:decide (V.bl i=V.bl j)=(i==j):=by
 rw[NH];simp
theorem xq{i j:Str}:decide (V.str i=V.str j)=(i==j):=by
 rw[NH];simp
theorem yp{i j:MM UInt8}:decide (V.byt i=V.byt j)=(i.toList==j.toList):=by
 rw[NH];cases i;cases j;simp
section
variable {X : Cx} {a b c : KI} {ta tb tc : TE} {pos : Pos}
theorem eP{pins:JP (JR×Obj)}{σ:St}{H:Hp}{s:JZ}{Q:VK}{k k':KS}(I:Inv X pins σ H s)(q:Q (.bl k) H)(e:k=k'):EP X pins σ Q (.bool k') s:=by
 subst e;exact⟨.bl k,H,I,rfl,q⟩
theorem cU:eT X (Lz .Eq) E1:=by
 intro pins s σ H x y v u Q I rx J h;obtain⟨U,q⟩:=h;cases x with
 |non=>
  cases rx;cases y with
  |non=>cases J;exact PySem.EqNone.eq_none_none (eP I q (by simp))
  |bl j=>cases J;exact PySem.EqNone.eq_none_bool (eP I q (by simp))
  |int j=>obtain⟨t',rfl⟩:=J;exact PySem.EqNone.eq_none_int (eP I q (by simp))
  |str j=>obtain⟨t',rfl⟩:=J;exact PySem.EqNone.eq_none_str (eP I q (by simp))
  |_=>exact absurd (show false=true from U) J3
 |bl i=>
  cases rx;cases y with
  |non=>cases J;exact PySem.EqNone.eq_bool_none (eP I q (by simp))
  |bl j=>cases J;exact eq_bool (eP I q xN)
  |str j=>obtain⟨t',rfl⟩:=J;exact PySem.EqMixed.eq_bool_str (eP I q (by simp))
  |_=>exact absurd (show false=true from U) J3
 |int i=>
  obtain⟨t,rfl⟩:=rx;cases y with
  |non=>cases J;exact PySem.EqNone.eq_int_none (eP I q (by simp))
  |int j=>obtain⟨t',rfl⟩:=J;exact eq_int (eP I q xb)
  |str j=>obtain⟨t',rfl⟩:=J;exact PySem.EqMixed.eq_int_str (eP I q (by simp))
  |_=>exact absurd (show false=true from U) J3
 |str i=>
  obtain⟨t,rfl⟩:=rx;cases y with
  |non=>cases J;exact PySem.EqNone.eq_str_none (eP I q (by simp))
  |bl j=>cases J;exact PySem.EqMixed.eq_str_bool (eP I q (by simp))
  |int j=>obtain⟨t',rfl⟩:=J;exact PySem.EqMixed.eq_str_int (eP I q (by simp))
  |str j=>obtain⟨t',rfl⟩:=J;exact eq_str (eP I q xq)
  |_=>exact absurd (show false=true from U) J3
 |byt i=>
  obtain⟨t,rfl⟩:=rx;cases y with
  |byt j=>obtain⟨t',rfl⟩:=J;exact W.eq_bytes (eP I q yp)
  |_=>exact absurd (show false=true from U) J3
 |_=>cases y<;>exact absurd (show false=true from U) J3
theorem k8:eT X (Lz .NotEq) Gq:=by
 intro pins s σ H x y v u Q I rx J h;obtain⟨U,q⟩:=h;cases x with
 |non=>
  cases rx;cases y with
  |non=>cases J;exact PySem.EqNone.ne_none_none (eP I q (by simp))
  |bl j=>cases J;exact PySem.EqNone.ne_none_bool (eP I q (by simp))
  |int j=>obtain⟨t',rfl⟩:=J;exact PySem.EqNone.ne_none_int (eP I q (by simp))
  |str j=>obtain⟨t',rfl⟩:=J;exact PySem.EqNone.ne_none_str (eP I q (by simp))
  |_=>exact absurd (show false=true from U) J3
 |bl i=>
  cases rx;cases y with
  |non=>cases J;exact PySem.EqNone.ne_bool_none (eP I q (by simp))
  |bl j=>cases J;exact ne_bool (eP I q (K9 not xN))
  |str j=>obtain⟨t',rfl⟩:=J;exact PySem.EqMixed.ne_bool_str (eP I q (by simp))
  |_=>exact absurd (show false=true from U) J3
 |int i=>
  obtain⟨t,rfl⟩:=rx;cases y with
  |non=>cases J;exact PySem.EqNone.ne_int_none (eP I q (by simp))
  |int j=>obtain⟨t',rfl⟩:=J;exact ne_int (eP I q (K9 not xb))
  |str j=>obtain⟨t',rfl⟩:=J;exact PySem.EqMixed.ne_int_str (eP I q (by simp))
  |_=>exact absurd (show false=true from U) J3
 |str i=>
  obtain⟨t,rfl⟩:=rx;cases y with
  |non=>cases J;exact PySem.EqNone.ne_str_none (eP I q (by simp))
  |bl j=>cases J;exact PySem.EqMixed.ne_str_bool (eP I q (by simp))
  |int j=>obtain⟨t',rfl⟩:=J;exact PySem.EqMixed.ne_str_int (eP I q (by simp))
  |str j=>obtain⟨t',rfl⟩:=J;exact ne_str (eP I q (K9 not xq))
  |_=>exact absurd (show false=true from U) J3
 |byt i=>
  obtain⟨t,rfl⟩:=rx;cases y with
  |byt j=>obtain⟨t',rfl⟩:=J;exact W.ne_bytes (eP I q (K9 not yp))
  |_=>exact absurd (show false=true from U) J3
 |_=>cases y<;>exact absurd (show false=true from U) J3
theorem iS:eT X (Lz .Lt) (jR λi j=> .bl (decide (i<j))):=rH λ_ _ _ _ _ _ _ q=>lt_int q
theorem yk:eT X (Lz .LtE) (jR λi j=> .bl (decide (i<=j))):=rH λ_ _ _ _ _ _ _ q=>le_int q
theorem iH:eT X (Lz .Gt) (jR λi j=> .bl (decide (j<i))):=rH λ_ _ _ _ _ _ _ q=>gt_int q
theorem Ga:eT X (Lz .GtE) (jR λi j=> .bl (decide (j<=i))):=rH λ_ _ _ _ _ _ _ q=>ge_int q
theorem pQ:eT X (Lz .In) (λx y H Q=>∃ i j,x= .str i/\y= .str j/\Q (.bl (!(K7 j i 0 j.length 1).isEmpty)) H):=by
 intro pins s σ H x y v u Q I J U h;obtain⟨i,j,rfl,rfl,q⟩:=h;obtain⟨t,rfl⟩:=J;obtain⟨t',rfl⟩:=U;exact in_str (eP I q rfl)
theorem yz:eT X (Lz .Is) (λx y H Q=>y= .non/\Q (.bl (decide (x= .non))) H):=by
 intro pins s σ H x y v u Q I J U h;obtain⟨rfl,q⟩:=h;cases U;refine is_none_gen (eP I q ?_);cases x<;>first
  |(cases J;rfl)
  |(obtain⟨t,rfl⟩:=J;rfl)
theorem cC(b:KI){op:CmpOp}(h:op≠ .In:=by decide)(h2:op≠ .NotIn:=by decide):Oh op b=false:=by
 have J:(op==CmpOp.In)=false:=by cases op<;>first|rfl|exact absurd rfl h
 have U:(op==CmpOp.NotIn)=false:=by cases op<;>first|rfl|exact absurd rfl h2
 cases b<;>simp[Oh,J,U]
theorem ip{op:CmpOp}{r:R2}(ho:eT X (Lz op) r)(ha:PE X a ta)(hb:PE X b tb)(hm:Oh op b=false):PE X (.Compare a [op] [b] pos) (rG r ta tb):=by
 intro pins s σ H Q I h;exact wpAny_Compare1 (tZ ha hb I h λv u s2 x y H2 J U ry q=>ho pins s2 σ H2 x y v u Q J U ry q) hm
noncomputable def AM(t:TE):TT:=λσ H Q=>t σ H λx H'=>∃ k,x= .bl k/\Q k H'
theorem cx{op:CmpOp}{r:R2}(ho:eT X (Lz op) r)(ha:PE X a ta)(hb:PE X b tb)(hm:Oh op b=false):PT X (.Compare a [op] [b] pos) (AM (rG r ta tb)):=by
 intro pins s σ H Q I h;refine wpAny_isTrue_Compare1 (cv (ha pins s σ H _ I h) λv s1 ⟨x,H1,J,r1,U⟩=>cv (hb pins s1 σ H1 _ J U) λu s2 ⟨y,H2,I2,r2,q2⟩=>
  cv (ho pins s2 σ H2 x y v u _ I2 r1 r2 q2) λc s3 ⟨z,H3,I3,r3,k,e,q3⟩=>?_) hm;subst e;cases r3;exact LD ⟨H3,I3,q3⟩
noncomputable def yc(r r':R2)(ta tb tc:TE):TE:=λσ H Q=>ta σ H λx H1=>tb σ H1 λy H2=>r x y H2 λz J=>∃ k,z= .bl k/\
 (if k=true then tc σ J λU I=>r' y U I Q else Q (.bl false) J)
theorem IW{op op':CmpOp}{r r':R2}(ho:eT X (Lz op) r)(ho':eT X (Lz op') r')(ha:PE X a ta)(hb:PE X b tb)(hc:PE X c tc)
  (hm:lastMarks [op,op'] [b,c]=false:=by with_unfolding_all rfl):PE X (.Compare a [op,op'] [b,c] pos) (yc r r' ta tb tc):=by
 intro pins s σ H Q I h;refine Compare_chain (cv (ha pins s σ H _ I h) λv s1 ⟨x,H1,I1,r1,q1⟩=>chain_link (cv (hb pins s1 σ H1 _ I1 q1) λu s2 ⟨y,H2,I2,r2,q2⟩=>
  cv (ho pins s2 σ H2 x y v u _ I2 r1 r2 q2) λd s3 ⟨z,J,U,r3,k,e,q3⟩=>?_)) hm;subst e;cases r3;refine LD ?_;cases k with
 |false=>exact ite_ff ⟨.bl false,J,U,rfl,q3⟩
 |true=>exact ite_tt (chain_last (cv (hc pins s3 σ J _ U q3) λw' s4 ⟨z',H4,I4,r4,q4⟩=>ho' pins s4 σ H4 y z' u w' Q I4 r2 r4 q4))
theorem Gf{op op':CmpOp}{r r':R2}(ho:eT X (Lz op) r)(ho':eT X (Lz op') r')(ha:PE X a ta)(hb:PE X b tb)(hc:PE X c tc)
  (hm:lastMarks [op,op'] [b,c]=false:=by with_unfolding_all rfl):PT X (.Compare a [op,op'] [b,c] pos) (AM (yc r r' ta tb tc)):=by
 intro pins s σ H Q I h;refine isTrue_chain (cv (ha pins s σ H _ I h) λv s1 ⟨x,H1,I1,r1,q1⟩=>test_link (cv (hb pins s1 σ H1 _ I1 q1) λu s2 ⟨y,H2,I2,r2,q2⟩=>
  cv (ho pins s2 σ H2 x y v u _ I2 r1 r2 q2) λd s3 ⟨z,J,U,r3,k,e,q3⟩=>?_)) hm;subst e;cases r3;refine LD ?_;cases k with
 |false=>
  obtain⟨k',e',q'⟩:=q3;cases e';exact ite_ff ⟨J,U,q'⟩
 |true=>
  refine ite_tt (test_last (cv (hc pins s3 σ J _ U q3) λw' s4 ⟨z',H4,I4,r4,q4⟩=>cv (ho' pins s4 σ H4 y z' u w' _ I4 r2 r4 q4) λd' s5 ⟨z2,H5,I5,r5,k2,e2,q5⟩=>?_));subst e2;cases r5;exact LD ⟨H5,I5,q5⟩
theorem o9:(sizeLine:Nat)<2 ^ 63:=by rw[Kv];decide
theorem gh:eT X (Oo .Add) (λx y H Q=>∃ i j,x= .str i/\y= .str j/\i.length+j.length<=sizeLine/\Q (.str (i++j)) H):=by
 intro pins s σ H x y v u Q I J U h;obtain⟨i,j,rfl,rfl,hz,q⟩:=h;obtain⟨t,rfl⟩:=J;obtain⟨t',rfl⟩:=U;exact add_str (λt' tk=>⟨.str (i++j),H,I.tok _,⟨_,rfl⟩,q⟩) hz
theorem vals1{x:V}{us:JP JT}(r:Vals [x] us):∃ u,us=[u]/\RelV x u:=by
 cases r with
 |cons r1 r2=>cases r2;exact⟨_,rfl,r1⟩
theorem vals2{x y:V}{us:JP JT}(r:Vals [x,y] us):∃ u w',us=[u,w']/\RelV x u/\RelV y w':=by
 cases r with
 |cons r1 r2=>
  cases r2 with
  |cons r3 r4=>cases r4;exact⟨_,_,rfl,r1,r3⟩
theorem lV:iO X (.type "int") (λxs H Q=>(∃ i,xs=[.int i]/\Q (.int i) H)\/∃ k,xs=[.bl k]/\Q (.int (if k then 1 else 0)) H):=by
 intro pins s σ H xs us Q I r h;rcases h with ⟨i,rfl,q⟩|⟨k,rfl,q⟩
 ·obtain⟨u,rfl,t,rfl⟩:=vals1 r;exact call_int_int ⟨.int i,H,I,⟨_,rfl⟩,q⟩
 ·obtain⟨u,rfl,r1⟩:=vals1 r;cases r1;exact call_int_bool ⟨.int (if k then 1 else 0),H,I.tok _,⟨_,rfl⟩,q⟩
theorem vv:iO X (.type "str") (λxs H Q=>∃ i,xs=[.int i]/\i.natAbs.log2<1920/\Q (.str (toString i)) H):=by
 intro pins s σ H xs us Q I r h;obtain⟨i,rfl,J,q⟩:=h;obtain⟨u,rfl,t,rfl⟩:=vals1 r;exact PySem.P.str_of_int J ⟨.str _,H,I.tok _,⟨_,rfl⟩,q⟩
theorem B4:iO X (.builtin "ord") (λxs H Q=>∃ x,xs=[.str x]/\x.length=1/\Q (.int (x.cps.getD 0 0:Nat)) H):=by
 intro pins s σ H xs us Q I r h;obtain⟨x,rfl,J,q⟩:=h;obtain⟨u,rfl,t,rfl⟩:=vals1 r;exact ord_of_one J ⟨.int _,H,I.tok _,⟨_,rfl⟩,q⟩
end
structure ng (h : KP) (x dx C : JR) (mA : Str -> JW JT) : Prop where
 obj : h.get? x = some (Nv C dx)
 ns : h.Ns1 dx mA
 ne : dx ≠ x
theorem Hr{h:KP}{dx:JR}{mA:Str->JW JT}(n:h.Ns1 dx mA):∃ od,h.get? dx=some od/\∀ name,W.lookIn name od=some (mA name):=by
 obtain⟨o,es,ep,U,hd,hk,_,hm⟩:=n;refine⟨o,U,λname=>?_⟩;have e:=hm name;unfold nsFind findBy at e;rw[<-Array.find?_toList] at e;unfold W.lookIn;rw[hd];dsimp only;split
 ·rename_i y q;rw[q] at e;exact K9 some e
 ·rename_i q;rw[q] at e;have a:es.toList.any (·.refKey)=false:=by
   rw[List.any_eq_false];intro y I;obtain⟨z,t,J⟩:=hk y (Array.mem_toList_iff.mp I);simp[DictEntry.refKey,J]
  have a':¬ es.toList.any (·.refKey)=true:=by rw[a];exact J3
  rw[if_neg a'];exact K9 some e
theorem ng.look {h:KP}{x dx C:JR}{mA:Str->JW JT}(I:ng h x dx C mA):∃ od,W.InstAt h x (Nv C dx) C (some od)/\∀ name,W.lookIn name od=some (mA name):=
 let ⟨od,ho,hl⟩:=Hr I.ns
 ⟨od,⟨I.obj,rfl,rfl,ho⟩,hl⟩
section
variable {prog : Ka} {w : Ku} {A : K4} {E : JT -> JZ -> Prop} {s : JZ} {K : J7} {x dx C f : JR} {mA : Str -> JW JT} {name : Str} {v : JT}
theorem get_map{expr:KS}{Q:JT->JZ->Prop}(X:K.In s.heap)(I:ng s.heap x dx C mA)(hg:OB K C name=true)(hh:OQ K C=true)
  (ha:Li K (.ref C) name=some none)(hv:mA name=some v)(hv':W.handedIn v=true)(h:Q v {s with toks:=s.toks+1}):
  Kq (Ko prog w) A (getAttr (.ref x) name expr) Q E s:=by
 obtain⟨od,J,U⟩:=I.look;exact W.get_value X J (W.plainGet_of hg).1 (W.findObj_own hh ha rfl (by rw[U,hv])) hv' h
theorem Eu{pl:Sem KS}{Q:JT×JP JT->JZ->Prop}(X:K.In s.heap)(I:ng s.heap x dx C mA)(hg:OB K C name=true)
  (hf:Li K (.ref C) name=some (some (.ref f)))(ht:W.isFn K (.ref f)=true)(hv:mA name=none)(h:Q (.ref f,[.ref x]) s):
  Kq (Ko prog w) A (O0 (.ref x) name pl) Q E s:=by
 obtain⟨U,J,hl⟩:=I.look;exact W.method_fn X J (W.plainGet_of hg).1 (W.plainGet_of hg).2 hf (beq_iff_eq.mp ht) (by show(W.lookIn name U).map (·.isSome)=some false;rw[hl,hv];rfl) h
theorem Fi{ns:JP Str}{Q:Unit->JZ->Prop}(X:K.In s.heap)(I:ng s.heap x dx C mA)
  (hs:Li K (.ref C) "__setattr__"=some (some (.builtin "object.__setattr__")))(hp:W.plainOver K C=true)(ht:W.takerIn K C name=some none)(hh:OQ K C=true)
  (hw:PySem.Within mA ns)(hsz:ns.length<=sizeLine)
  (h:∀ h',ng h' x dx C (λy=>if y=name then some v else mA y)->Md dx s.heap h'->Q () {s with heap:=h',toks:=s.toks+2}):
  Kq (Ko prog w) A (setAttr (.ref x) name v) Q E s:=by
 obtain⟨od,J,hl⟩:=I.look;refine W.set_plain X J hs (W.osa_open (s:={s with toks:=s.toks+1}) (r:=none) X J hp ht λb=>?_);obtain⟨cd,hc,ab⟩:=W.any_some hh;have hx:s.heap.get? x=some ⟨.ref C,some dx,.plain,#[]⟩:=I.obj;refine J8 (KN (J8 (J8 (wpAny_loadPart hx (J8 (W.Looks.here (s:={s with toks:=s.toks+1}) (W.looks_clsIn X hc) ?_))))));rw[ab];refine KN (a:=some dx) (J8 (KN (J8 ?_)));refine wpAny_nsSet1 (s:={s with toks:=s.toks+1}) I.ns λh' U aa=>?_
 obtain⟨oD,ah,ai,ae,af,ag⟩:=U.count (PySem.Within.cons name v hw);refine J8 (wpAny_lookBehind ae (by rw[af];exact pastItsLine_dict (Kj ag (by rw[JV];lia))) ?_);exact KN (h _ ⟨(aa.2 _ (K5 I.ne)).trans I.obj,U,I.ne⟩ aa)
theorem E6{R:Result->JZ->Prop}{vs:JP JT}{kw:JP (Str×JT)}(X:K.In s.heap)(hm:W.makesIn K C=true)
  (hi:Li K (.ref C) "__init__"=some (some (.ref f)))(hf:W.typeIn K (.ref f)=some (.type "function"))
  (h:Nz (Ko prog w) (A.under (.builtin "type.__call__" ⟨.ref C::vs,kw⟩)) (.call (.ref f) ⟨.ref (s.heap.objs.size+1)::vs,kw⟩) (W.InitBack (s.heap.objs.size+1) R)
   {s with heap:=(s.heap.push Mu).push (Nv C s.heap.objs.size)}):
  Nz (Ko prog w) A (.call (.ref C) ⟨vs,kw⟩) R s:=by
 obtain⟨J,g,d,t,os⟩:=s;exact W.make_core (W.makes_of X hm) (W.looks_findIn X hi) (λself=>W.bind_fn X self hf) (.inl rfl) h
end
noncomputable def dh(f:Str)(v:V):JP (Str×V)->JP (Str×V)
 |[]=>[(f,v)]
 |(g,x)::r=>if g=f then (g,v)::r else (g,x)::dh f v r
theorem dO(f g:Str)(v:V):∀ fs:JP (Str×V),(dh f v fs).lookup g=if g=f then some v else fs.lookup g
 |[]=>by
  show Mv g [(f,v)]=_;by_cases h:g=f
  ·have hb:(g==f)=true:=beq_iff_eq.mpr h;simp only[Mv,hb,J1 h]
  ·have hb:(g==f)=false:=beq_eq_false_iff_ne.mpr h;simp only[Mv,hb,if_neg h]
 |(k,x)::r=>by
  have J:=dO f g v r;rw[show dh f v ((k,x)::r)=(if k=f then (k,v)::r else (k,x)::dh f v r) from rfl];by_cases hk:k=f
  ·rw[J1 hk];by_cases h:g=k
   ·have hb:(g==k)=true:=beq_iff_eq.mpr h;simp only[Mv,hb,J1 (h.trans hk)]
   ·have hb:(g==k)=false:=beq_eq_false_iff_ne.mpr h;simp only[Mv,hb,if_neg (λe:g=f=>h (e.trans hk.symm))]
  ·rw[if_neg hk];by_cases h:g=k
   ·have hb:(g==k)=true:=beq_iff_eq.mpr h;simp only[Mv,hb,if_neg (λe:g=f=>hk (h.symm.trans e))]
   ·have hb:(g==k)=false:=beq_eq_false_iff_ne.mpr h;simp only[Mv,hb];exact J
theorem uN(f:Str)(v:V):∀ fs:JP (Str×V),f∈(dh f v fs).map (·.1)/\∀ g,g∈fs.map (·.1)->g∈(dh f v fs).map (·.1)
 |[]=>⟨by simp[dh],λg h=>by simp at h⟩
 |(k,x)::r=>by
  obtain⟨J,U⟩:=uN f v r;rw[show dh f v ((k,x)::r)=(if k=f then (k,v)::r else (k,x)::dh f v r) from rfl];by_cases hk:k=f
  ·rw[J1 hk];subst hk;exact⟨by simp,λg h=>by simpa using h⟩
  ·rw[if_neg hk];refine⟨?_,λg h=>?_⟩
   ·rw[KU];exact J0 _ J
   ·rw[KU] at h ⊢;rcases List.mem_cons.mp h with e|e
    ·exact List.mem_cons.mpr (.inl e)
    ·exact J0 _ (U g e)
theorem kg(f:Str)(v:V):∀ fs:JP (Str×V),(dh f v fs).length<=fs.length+1
 |[]=>by simp[dh]
 |(k,x)::r=>by
  have J:=kg f v r;rw[show dh f v ((k,x)::r)=(if k=f then (k,v)::r else (k,x)::dh f v r) from rfl];by_cases hk:k=f
  ·rw[J1 hk,JV,JV];lia
  ·rw[if_neg hk,JV,JV];lia
theorem gY.some_of {v:V}{o:JW JT}(r:gY (some v) o):∃ u,o=some u/\RelV v u:=by
 cases o with
 |none=>exact(show LG from r).elim
 |some u=>exact⟨u,rfl,r⟩
theorem gY.none_of {o:JW JT}(r:gY none o):o=none:=by
 cases o with
 |none=>rfl
 |some u=>exact(show LG from r).elim
theorem BP{v:V}{u:JT}(r:RelV v u):W.handedIn u=true:=by
 cases v with
 |non=>cases (show u=My from r);rfl
 |bl b=>cases (show u=Oy b from r);rfl
 |int i=>obtain⟨t,e⟩:=(show ∃ t,u=Nu i t from r);cases e;rfl
 |str x=>obtain⟨t,e⟩:=(show ∃ t,u=NU x t from r);cases e;rfl
 |byt b=>obtain⟨t,e⟩:=(show ∃ t,u=Value.bytes b t from r);cases e;rfl
 |flt b=>obtain⟨t,e⟩:=(show ∃ t,u=Value.float b t from r);cases e;rfl
 |ref a=>cases (show u=Ky a from r);rfl
 |ty n=>cases (show u=Value.type n from r);rfl
section
variable {P : Ka} {w : Ku} {H H' : Hp} {h h' : KP} {a C dx : JR} {fs fs' : JP (Str × V)}
theorem qg(hok:eJ P w H h)(e:H a=some (.ins C dx fs)):∃ mA,ng h a dx C mA/\(∀ f,gY (fs.lookup f) (mA f))/\PySem.Within mA (fs.map (·.1))/\fs.length<=1000/\H dx=some (.own a):=by
 obtain⟨d,z,ne,ob,mA,n,r,q⟩:=(show e6 P w H h a (.ins C dx fs) from hok a _ e);exact⟨mA,⟨ob,n,ne⟩,r,q,z,d⟩
end
structure gA (K : Kl) (C : JR) : Prop where
 pg : OB K C Str.empty = true
 hd : OQ K C = true
 po : W.plainOver K C = true
 sa : Li K (.ref C) "__setattr__" = some (some (.builtin "object.__setattr__"))
theorem gA.get {K:Kl}{C:JR}(c:gA K C)(f:Str):OB K C f=true:=c.pg
noncomputable def gm(K:Kl)(C:JR)(f:Str):Prop:=Li K (.ref C) f=some none
theorem gm.taker {K:Kl}{C:JR}{f:Str}(n:gm K C f):W.takerIn K C f=some none:=by
 unfold W.takerIn;rw[show Li K (.ref C) f=some none from n];rfl
structure Meth (K : Kl) (C : JR) (m : Str) (f : JR) : Prop where
 at_ : Li K (.ref C) m = some (some (.ref f))
 fn : W.isFn K (.ref f) = true
 kp : ME K (.ref f) = true
section
variable {X : Cx} {pins : JP (JR × Obj)} {σ : St} {H : Hp} {s : JZ} {a C dx : JR} {fs : JP (Str × V)} {f : Str} {v : V} {A : K4} {E : JT -> JZ -> Prop}
theorem x6{b:KS}{Q:JT->JZ->Prop}(I:Inv X pins σ H s)(e:H a=some (.ins C dx fs))(c:gA X.K C)(n:gm X.K C f)(l:fs.lookup f=some v)
  (h:∀ u s',Inv X pins σ H s'->RelV v u->Q u s'):Kq (Ko X.prog X.w) A (getAttr (.ref a) f b) Q E s:=by
 obtain⟨mA,O,r,_,_,_⟩:=qg I.hok e;obtain⟨u,U,J⟩:=gY.some_of (v:=v) (o:=mA f) (by rw[<-l];exact r f);exact get_map I.kIn O (c.get f) c.hd n U (BP J) (h u _ (I.tok _) J)
theorem wa{m:Str}{g:JR}{pl:Sem KS}{Q:JT×JP JT->JZ->Prop}(I:Inv X pins σ H s)(e:H a=some (.ins C dx fs))(c:gA X.K C)(k:Meth X.K C m g)(l:fs.lookup m=none)
  (h:Q (.ref g,[.ref a]) s):Kq (Ko X.prog X.w) A (O0 (.ref a) m pl) Q E s:=by
 obtain⟨mA,O,r,_,_,_⟩:=qg I.hok e;have hn:mA m=none:=gY.none_of (by rw[<-l];exact r m);exact Eu I.kIn O (c.get m) k.at_ k.fn hn h
theorem yM{y:V}{u:JT}{Q:Unit->JZ->Prop}(I:Inv X pins σ H s)(e:H a=some (.ins C dx fs))(c:gA X.K C)(n:gm X.K C f)(hl:fs.length<1000)(ry:RelV y u)
  (h:∀ s',Inv X pins σ (upd H a (.ins C dx (dh f y fs))) s'->Q () s'):Kq (Ko X.prog X.w) A (setAttr (.ref a) f u) Q E s:=by
 obtain⟨mA,O,r,U,_,ho⟩:=qg I.hok e;have hz:(fs.map (·.1)).length<=sizeLine:=by rw[JX,Kv];lia
 refine Fi I.kIn O c.sa c.po n.taker c.hd U hz λh' J sb=>h _ ?_
 have hd:∃ o,h'.get? dx=some o:=let ⟨o,_,_,e',_⟩:=J.ns;⟨o,e'⟩;refine I.write (x:=a) (e:=dx) (by rw[e];exact Mi) (.inr ho) (λb q hb z=>(sb.2 b hb).trans z) hd ?_;refine⟨by rw[cF O.ne];exact ho,?_,O.ne,J.obj,_,J.ns,λg=>?_,λg hg=>?_⟩
 ·have:=kg f y fs;lia
 ·show gY ((dh f y fs).lookup g) (if g=f then some u else mA g);rw[dO];by_cases q:g=f
  ·rw[J1 q,J1 q];exact ry
  ·rw[if_neg q,if_neg q];exact r g
 ·by_cases q:g=f
  ·rw[q];exact(uN f y fs).1
  ·refine(uN f y fs).2 g (U g λz=>hg ?_);show(if g=f then some u else mA g)=none;rw[if_neg q];exact z
theorem Inv.made (I:Inv X pins σ H s):Inv X pins σ (upd (upd H s.heap.objs.size (.own (s.heap.objs.size+1))) (s.heap.objs.size+1) (.ins C s.heap.objs.size []))
  {s with heap:=(s.heap.push Mu).push (Nv C s.heap.objs.size)}:=by
 have J:(s.heap.push Mu).get? s.heap.objs.size=some Mu:=Heap.get?_push_size s.heap rfl
 have U:((s.heap.push Mu).push (Nv C s.heap.objs.size)).get? (s.heap.objs.size+1)=some (Nv C s.heap.objs.size):=by
  have:=Heap.get?_push_size (s.heap.push Mu) (o:=Nv C s.heap.objs.size) rfl
  rwa [Mo] at this
 have e3:(s.heap.push Mu).Ns s.heap.objs.size (λ_=>none):=⟨Mu,#[],_,J,rfl,(λe he=>absurd he (by simp)),λ_=>rfl⟩
 have I1:=I.laid (a:=s.heap.objs.size) (o:= .own (s.heap.objs.size+1)) (h':=s.heap.push Mu) (t':=s.toks) (λb u q=>Heap.get?_push_of_some _ q) (JY _) ⟨_,J⟩;refine I1.laid (a:=s.heap.objs.size+1) (o:= .ins C s.heap.objs.size []) (t':=s.toks) (λb u q=>Heap.get?_push_of_some _ q) (Nat.le_of_eq (Mo _ _)) ?_;have ne:s.heap.objs.size≠s.heap.objs.size+1:=Kr (LJ _);refine⟨by rw[cF ne,b6],Ks _,ne,U,λ_=>none,(Heap.Ns1.of_empty e3).at λo q=>Heap.get?_push_of_some _ q,λ_=>Mi,λy hy=>absurd rfl hy⟩
theorem DV{prog:Ka}{w:Ku}{env:Env}{e:KI}{f:Str}{pos:Pos}{s:JZ}{Q:JT->JZ->Prop}(hb:MI e f env (eval e env)=eval e env)
  (h:Kq (Ko prog w) A (eval e env) (λo s₁=>Kq (Ko prog w) A (getAttr o f true) Q E s₁) E s):Kq (Ko prog w) A (eval (.Attribute e f pos) env) Q E s:=
 Attribute_any_ h (by rw[arm_eval_Attribute,hb])
end
noncomputable def Ej(K:Kl)(ta:TE)(f:Str):TE:=λσ H Q=>ta σ H λx H1=>∃ a C dx fs v,x= .ref a/\H1 a=some (.ins C dx fs)/\gA K C/\gm K C f/\fs.lookup f=some v/\Q v H1
noncomputable def C3(K:Kl)(ta tv:TE)(f:Str):TS:=λD σ H=>tv σ H λy H1=>ta σ H1 λx H2=>∃ a C dx fs,x= .ref a/\H2 a=some (.ins C dx fs)/\gA K C/\gm K C f/\fs.length<1000/\
 D.nx σ (upd H2 a (.ins C dx (dh f y fs)))
noncomputable def El(X:Cx)(op:O5)(rd:V->V->Hp->VK->Prop):Prop:=
 ∀(pins:JP (JR×Obj)) (s:JZ) (σ:St) (H:Hp) (x y:V) (u v:JT) (Q:VK),Inv X pins σ H s->RelV x u->RelV y v->rd x y H Q->Kq (Ko X.prog X.w) X.A (inplaceOp op u v) (EP X pins σ Q) X.xe s
noncomputable def Ck(K:Kl)(ta tv:TE)(rd:V->V->Hp->VK->Prop)(f:Str):TS:=λD σ H=>ta σ H λx H1=>∃ a C dx fs v,x= .ref a/\H1 a=some (.ins C dx fs)/\gA K C/\gm K C f/\fs.lookup f=some v/\
 tv σ H1 λy H2=>rd v y H2 λz U=>∃ J fs',U a=some (.ins C J fs')/\fs'.length<1000/\D.nx σ (upd U a (.ins C J (dh f z fs')))
section
variable {X : Cx} {o e value : KI} {f : Str} {pos pos' tpos : Pos} {ta tv : TE}
theorem df(he:PE X e ta)(hb:MI e f X.env (eval e X.env)=eval e X.env):PE X (.Attribute e f pos) (Ej X.K ta f):=by
 intro pins s σ H Q I h;refine DV hb (cv (he pins s σ H _ I h) λu s1 ⟨x,H1,J,U,a,C,dx,fs,v,ex,ea,c,n,l,q⟩=>?_);subst ex;obtain rfl:u=Ky a:=U;exact x6 J ea c n l λu' s2 I2 ru=>⟨v,H1,I2,ru,q⟩
theorem fD(ha:PE X o ta)(hv:PE X value tv)(hs:Ol value (some (.Attribute o f pos')) pos.line X.env=pure false):PS X (.Assign [.Attribute o f pos'] value pos) (C3 X.K ta tv f):=by
 intro pins s σ H D I h;refine plainObj_wpAny_Assign_Attribute (cv (hv pins s σ H _ I h) λu s1 ⟨y,H1,J,U,q⟩=>cv (ha pins s1 σ H1 _ J q) λov s2 ⟨x,H2,I2,rx,a,C,dx,fs,ex,ea,c,n,l,q2⟩=>?_) hs;subst ex;obtain rfl:ov=Ky a:=rx;exact yM I2 ea c n l U λs3 I3=>⟨σ,_,I3,q2⟩
theorem EW{op:O5}{rd:V->V->Hp->VK->Prop}(ha:PE X o ta)(hv:PE X value tv)(hop:El X op rd):PS X (.AugAssign (.Attribute o f tpos) op value pos) (Ck X.K ta tv rd f):=by
 intro pins s σ H D I h;refine wpAny_AugAssign_AttributeAny (cv (ha pins s σ H _ I h) λU s1 ⟨x,H1,I1,rx,a,C,dx,fs,v,ex,ea,c,n,l,q⟩=>?_);subst ex;obtain rfl:U=Ky a:=rx;refine x6 I1 ea c n l λu s2 I2 ru=>cv (hv pins s2 σ H1 _ I2 q) λw3 s3 ⟨y,H2,I3,ry,q3⟩=>cv (hop pins s3 σ H2 v y u w3 _ I3 ru ry q3) λw4 s4 ⟨z,H3,I4,rz,aa,fs',J,l',q4⟩=>?_
 exact yM I4 J c n l' rz λs5 I5=>⟨σ,_,I5,q4⟩
end
section
variable {X : Cx} {pins : JP (JR × Obj)} {σ : St} {H : Hp} {s : JZ} {A : K4} {E : JT -> JZ -> Prop} {Q : JT -> JZ -> Prop} {c : JT} {b : KS}
inductive gz (K : Kl) (H : Hp) : V -> JT -> Prop where
 |non : gz K H .non (.type "NoneType")
 |bl (x : KS) : gz K H (.bl x) (.type "bool")
 |int (i : Int) : gz K H (.int i) (.type "int")
 |str (x : Str) : gz K H (.str x) (.type "str")
 |flt (x : UInt64) : gz K H (.flt x) (.type "float")
 |lst {a : JR} {xs : JP V} (e : H a = some (.lst xs)) : gz K H (.ref a) (.type "list")
 |frz {a : JR} {o : Obj} {xs : JP V} (e : H a = some (.frz o (.lst xs))) : gz K H (.ref a) (.type "list")
 |tup {a : JR} {xs : JP V} (e : H a = some (.tup xs)) : gz K H (.ref a) (.type "tuple")
 |dK {a : JR} {kvs : JP (Key × V)} (e : H a = some (.dK kvs)) : gz K H (.ref a) (.type "dict")
 |dT {a : JR} {kvs : JP (JP Key × V)} (e : H a = some (.dT kvs)) : gz K H (.ref a) (.type "dict")
 |ins {a C dx : JR} {fs : JP (Str × V)} (e : H a = some (.ins C dx fs)) (cl : gA K C) (ha : Li K (.ref C) "__class__" = some (some (.builtin "object.__class__")))
   (hn : W.specialIn K (.builtin "object.__class__") "__get__" = some (some (.builtin "getset_descriptor.__get__"))) (htk : W.takesIn K (.builtin "object.__class__") = some true)
   (hm : W.mroIn K C (.type "object") = some true) : gz K H (.ref a) (.ref C)
theorem Au{x:V}{u t:JT}(I:Inv X pins σ H s)(rx:RelV x u)(ty:gz X.K H x t)(e:Lw X.K t c=some b)(h:∀ tk,Q (.bool b) {s with toks:=tk}):
  Kq (Ko X.prog X.w) A (call (.builtin "isinstance") [u,c]) Q E s:=by
 cases ty with
 |non=>cases (show u=My from rx);exact MJ W.kitx_none I.kIn Mi e (λz=>nomatch z) h
 |bl y=>cases (show u=Oy y from rx);exact MJ W.kitx_bool I.kIn Mi e (λz=>nomatch z) h
 |int i=>obtain⟨t,q⟩:=(show ∃ t,u=Nu i t from rx);cases q;exact MJ W.kitx_int I.kIn Mi e (λz=>nomatch z) h
 |str y=>obtain⟨t,q⟩:=(show ∃ t,u=NU y t from rx);cases q;exact MJ W.kitx_str I.kIn Mi e (λz=>nomatch z) h
 |flt y=>obtain⟨t,q⟩:=(show ∃ t,u=Value.float y t from rx);cases q;exact MJ W.kitx_float I.kIn Mi e (λz=>nomatch z) h
 | @lst a xs U=>
  cases (show u=Ky a from rx);obtain⟨_,_,n,_,h1⟩:=(show e6 X.prog X.w H s.heap a (.lst xs) from I.hok a _ U);exact MJ W.kitx_list I.kIn ⟨_,h1,rfl⟩ e (λz=>nomatch z) h
 | @frz a ob xs U=>
  cases (show u=Ky a from rx);obtain⟨_,_,_,n,_,h1⟩:=(show e6 X.prog X.w H s.heap a (.frz ob (.lst xs)) from I.hok a _ U);exact MJ W.kitx_list I.kIn ⟨_,h1,rfl⟩ e (λz=>nomatch z) h
 | @tup a xs U=>
  cases (show u=Ky a from rx);obtain⟨_,_,_,p⟩:=(show e6 X.prog X.w H s.heap a (.tup xs) from I.hok a _ U);obtain⟨o,h1,h2,_⟩:=p;exact MJ W.kitx_tuple I.kIn ⟨o,h1,h2⟩ e (λz=>nomatch z) h
 | @dK a kvs U=>
  cases (show u=Ky a from rx);obtain⟨_,_,vs,_,p⟩:=(show e6 X.prog X.w H s.heap a (.dK kvs) from I.hok a _ U);obtain⟨o,es,ep,h1,h2,_⟩:=p;exact MJ W.kitx_dict I.kIn ⟨o,h1,h2.1⟩ e (λz=>nomatch z) h
 | @dT a kvs U=>
  cases (show u=Ky a from rx);obtain⟨_,_,xs,_,o,es,ep,h1,h2,_⟩:=(show e6 X.prog X.w H s.heap a (.dT kvs) from I.hok a _ U);exact MJ W.kitx_dict I.kIn ⟨o,h1,h2.1⟩ e (λz=>nomatch z) h
 | @ins a C dx fs U cl ha hn htk hm=>
  cases (show u=Ky a from rx);obtain⟨mA,O,_⟩:=qg I.hok U;obtain⟨od,J,_⟩:=O.look;exact MJ (W.kitx_own (cl.get _) cl.hd ha hn htk hm) I.kIn J e (λz=>nomatch z) h
end
structure eF (k : Nat) (A : K4) : Prop where
 hd : A.handled = none
 dp : A.depth+3*k+5<OR
 un : A.units+16*k+200<Pc
theorem eF.mono {j k:Nat}{A:K4}(r:eF k A)(h:j<=k):eF j A:=⟨r.hd,by have:=r.dp;lia,by have:=r.un;lia⟩
theorem eF.deeper {k:Nat}{A:K4}(r:eF (k+1) A)(env:Env):eF k (A.deeper env):=
 ⟨r.hd,by have:=r.dp;show A.depth+1+3*k+5<_;lia,by have:=r.un;show A.units+3+16*k+200<_;lia⟩
theorem Jk{A:K4}{C:JR}{us:JP JT}{kw:JP (Str×JT)}:(A.under (.builtin "type.__call__" ⟨.ref C::us,kw⟩)).depth=A.depth+1:=by
 first|rfl|simp[Around.under,Code.weight,Code.isCreation,Code.isGuard,Code.isCaller,Code.frames,Code.isFrame,guardIds]
theorem CW{A:K4}{C:JR}{us:JP JT}{kw:JP (Str×JT)}:(A.under (.builtin "type.__call__" ⟨.ref C::us,kw⟩)).units=A.units+1:=by
 first|rfl|simp[Around.under,Code.cUnits,Code.frames,Code.isFrame]
theorem eF.make {k:Nat}{A:K4}(r:eF (k+1) A)(C:JR)(us:JP JT)(kw:JP (Str×JT)):eF k (A.under (.builtin "type.__call__" ⟨.ref C::us,kw⟩)):=
 ⟨r.hd,by have:=r.dp;rw[Jk];lia,by have:=r.un;rw[CW];lia⟩
theorem eF.depth {k:Nat}{A:K4}(r:eF k A):A.depth<OR:=by have:=r.dp;lia
noncomputable def qf:TA:=λ_ H Q=>Q [] H
noncomputable def wy(ta:TE)(tr:TA):TA:=λσ H Q=>ta σ H λx H1=>tr σ H1 λxs H2=>Q (x::xs) H2
section
variable {X : Cx} {e : KI} {es : JP KI} {te : TE} {t : TA} {pos : Pos}
theorem bV:PA X [] qf:=λ_ _ _ _ H Q I h=>Ni ⟨[],H,I,.nil,h⟩
theorem bU(ha:PE X e te)(hr:PA X es t)(hs:KA (e::es) X.env=(false,eval e X.env)::KA es X.env:=by rfl):PA X (e::es) (wy te t):=by
 intro pos pins s σ H Q I h;rw[hs];show Kq _ _ (spliced ((false,eval e X.env)::Mh pos (KA es X.env))) _ _ s;refine L6 (cv (ha pins s σ H _ I h) λu s1 ⟨x,H1,J,r1,U⟩=>?_);exact cv (hr pos pins s1 σ H1 _ J U) λus s2 ⟨xs,H2,I2,r2,q2⟩=>⟨x::xs,H2,I2,.cons r1 r2,q2⟩
noncomputable def HD(t:TA):TE:=λσ H Q=>t σ H λxs H1=>xs.length<=sizeLine/\∀ p,H1 p=none->Q (.ref p) (upd H1 p (.tup xs))
noncomputable def Ib(t:TA):TE:=λσ H Q=>t σ H λxs H1=>xs.length<=sizeLine/\∀ p,H1 p=none->Q (.ref p) (upd H1 p (.lst xs))
theorem dm{x1}(h:PA X es t):PE X (.Tuple es x1 pos) (HD t):=by
 intro pins s σ H Q I U;refine wpAny_Tuple_spliced (cv (h pos pins s σ H _ I U) λus s1 ⟨xs,H1,J,r,z,q⟩=>⟨by rw[<-r.length];exact z,?_⟩);have hf:H1 s1.heap.objs.size=none:=J.hok.fresh (JY _);refine⟨.ref s1.heap.objs.size,upd H1 s1.heap.objs.size (.tup xs),J.laid (t':=s1.toks) (λb u e=>Heap.get?_push_of_some _ e) (JY _) ?_,rfl,q _ hf⟩;exact⟨z,us,r,⟨_,Heap.get?_push_size _ rfl,rfl,_,rfl⟩⟩
theorem eZ(h:PA X es t):PE X (.List es pos) (Ib t):=by
 intro pins s σ H Q I U;refine wpAny_List_spliced (cv (h pos pins s σ H _ I U) λus s1 ⟨xs,H1,J,r,z,q⟩=>⟨by rw[<-r.length];exact z,?_⟩);have hf:H1 s1.heap.objs.size=none:=J.hok.fresh (JY _);refine⟨.ref s1.heap.objs.size,upd H1 s1.heap.objs.size (.lst xs),J.laid (t':=s1.toks) (λb u e=>Heap.get?_push_of_some _ e) (JY _) ?_,rfl,q _ hf⟩;exact⟨z,us,0,r,Heap.get?_push_size _ rfl⟩
end
noncomputable abbrev Sp:=JP V->Hp->VK->XK->Prop
noncomputable abbrev gv:=JP Env->Hp->JZ->XK->JT->JZ->Prop
structure k4 (P : Ka) (w : Ku) (K : Kl) (mg : Str -> JW JT) (base : KP) (A : K4) (outer : JP Env) (s : JZ) (H : Hp) : Prop where
 frames : A.frames = some outer
 mod : Mod K mg base
 bs : ∀ b o, base.get? b = some o -> s.heap.get? b = some o /\ H b = none
 bsz : base.objs.size<=s.heap.objs.size
 funs : s.heap.FunFrames base outer
 frf : ∀ b ∈ dz outer, H b = none
 hok : eJ P w H s.heap
 bare : NQ s.gens
noncomputable def CE(outer:JP Env)(P:Ka)(w:Ku)(H:Hp)(s:JZ)(Q:VK)(u:JT)(s':JZ):Prop:=
 ∃ v H',s'.os=s.os/\NQ s'.gens/\Un (dz outer) [] H H' s.heap s'.heap/\eJ P w H' s'.heap/\RelV v u/\Q v H'
noncomputable def CR(CX:gv)(outer:JP Env)(P:Ka)(w:Ku)(H:Hp)(s:JZ)(Q:VK)(E:XK)(r:Result)(s':JZ):Prop:=
 match r with
 |.ok (.ret u)=>CE outer P w H s Q u s'
 |.ok _=>LG
 |.error e=>CX outer H s E e s'
structure bX (P : Ka) (w : Ku) (K : Kl) (mg : Str -> JW JT) (base : KP) (CX : gv) (k : Nat) (f : JR) (fd : J2) (ps : JP Str) (sp : Sp) : Prop where
 len : ∀ vs H Q E, sp vs H Q E -> vs.length = ps.length
 run : ∀ (A : K4) (outer : JP Env) (s : JZ) (H : Hp) (args : Args) (us : JP JT) (vs : JP V) (Q : VK) (E : XK), eF k A -> k4 P w K mg base A outer s H -> O1 s fd args (ps.zip us) -> Vals vs us -> sp vs H Q E ->
  Nz (Ko P w) A (.call (.ref f) args) (CR CX outer P w H s Q E) s
theorem bX.mono {P:Ka}{w:Ku}{K:Kl}{mg:Str->JW JT}{base:KP}{CX:gv}{j k:Nat}{f:JR}{fd:J2}{ps:JP Str}{sp:Sp}(F:bX P w K mg base CX j f fd ps sp)(h:j<=k):
  bX P w K mg base CX k f fd ps sp:=⟨F.len,λA outer s H args us vs Q E J=>F.run A outer s H args us vs Q E (J.mono h)⟩
theorem bX.imp {P:Ka}{w:Ku}{K:Kl}{mg:Str->JW JT}{base:KP}{CX:gv}{k:Nat}{f:JR}{fd:J2}{ps:JP Str}{sp sp':Sp}(F:bX P w K mg base CX k f fd ps sp)
  (h:∀ vs H Q E,sp' vs H Q E->sp vs H Q E):bX P w K mg base CX k f fd ps sp':=
 ⟨λvs H Q E q=>F.len vs H Q E (h _ _ _ _ q),λA outer s H args us vs Q E J he hb U I=>F.run A outer s H args us vs Q E J he hb U (h _ _ _ _ I)⟩
theorem k4.make {P:Ka}{w:Ku}{K:Kl}{mg:Str->JW JT}{base:KP}{A:K4}{outer:JP Env}{s:JZ}{H:Hp}(e:k4 P w K mg base A outer s H)(C:JR)(us:JP JT)(kw:JP (Str×JT)):
  k4 P w K mg base (A.under (.builtin "type.__call__" ⟨.ref C::us,kw⟩)) outer s H:=⟨by first|exact e.frames|(simpa[Around.under,Code.envs,Code.isFrame,pushEnvs] using e.frames),e.mod,e.bs,e.bsz,e.funs,e.frf,e.hok,e.bare⟩
section
variable {X : Cx} {pins : JP (JR × Obj)} {σ : St} {H : Hp} {s s' : JZ}
theorem Inv.env0 (I:Inv X pins σ H s):k4 X.prog X.w X.K X.mg X.base X.A X.stack s H:=
 ⟨I.ok.frames,I.ok.mod,I.bs,Kj I.ok.bsz I.sz,I.stack,I.stkFree,I.hok,I.bare⟩
theorem Inv.after {Q:VK}{u:JT}(I:Inv X pins σ H s)(h:CE X.stack X.prog X.w H s Q u s'):EP X pins σ Q u s':=by
 obtain⟨v,H',os,bare,un,hok,r,q⟩:=h;obtain⟨U,g,d,t,J⟩:=s';obtain rfl:J=s.os:=os;exact⟨v,H',I.call (h':=U) (g':=g) (d':=d) (t':=t) (ch:=[]) un hok bare (λb z=>absurd z (by simp)),r,q⟩
end
noncomputable def yt(sp:Sp)(dvs:JP V)(E:XK)(t:TA):TE:=λσ H Q=>t σ H λvs H1=>sp (vs++dvs) H1 Q E
noncomputable def yy(C:JR)(m:Str)(sp:Sp)(dvs:JP V)(E:XK)(ta:TE)(t:TA):TE:=λσ H Q=>ta σ H λx H1=>∃ a dx fs,x= .ref a/\H1 a=some (.ins C dx fs)/\fs.lookup m=none/\
 t σ H1 λvs H2=>sp (x::(vs++dvs)) H2 Q E
noncomputable def xX(C:JR)(sp:Sp)(dvs:JP V)(E:XK)(t:TA):TE:=λσ H Q=>t σ H λvs H1=>∀ x dx,H1 x=none->H1 dx=none->dx≠x->
 sp (.ref x::(vs++dvs)) (upd (upd H1 dx (.own x)) x (.ins C dx [])) (λv H2=>v= .non/\Q (.ref x) H2) E
noncomputable def Binds(K:Kl)(fd:J2)(ps:JP Str)(ds:JP JT):Prop:=
 ∀(s:JZ) (us:JP JT),K.In s.heap->(us++ds).length=ps.length->O1 s fd ⟨us,[]⟩ (ps.zip (us++ds))
theorem Binds.all {K:Kl}{fd:J2}{ps:JP Str}(h:∀ us:JP JT,us.length=ps.length->bindArgs fd ⟨us,[]⟩=pure (ps.zip us)):Binds K fd ps []:=λs us _ J=>by
 rw[KR] at J ⊢;exact .of_eq (h us J)
noncomputable def Passes(CX:gv)(X:Cx)(E:XK):Prop:=∀(pins:JP (JR×Obj)) (σ:St) (H:Hp) (s:JZ) (e:JT) (s':JZ),Inv X pins σ H s->CX X.stack H s E e s'->X.xe e s'
section
variable {X : Cx} {CX : gv} {k : Nat} {f C : JR} {fd : J2} {ps : JP Str} {sp : Sp} {dvs : JP V} {ds : JP JT} {E : XK} {x m : Str} {p pos apos : Pos} {e o : KI} {es : JP KI} {ta : TE} {t : TA}
theorem rJ{pins:JP (JR×Obj)}{σ:St}{H:Hp}{s:JZ}{Q:VK}{us:JP JT}{vs:JP V}(F:bX X.prog X.w X.K X.mg X.base CX k f fd ps sp)(hr:eF k X.A)(hb:Binds X.K fd ps ds)(hd:Vals dvs ds)(hx:Passes CX X E)
  (I:Inv X pins σ H s)(r:Vals vs us)(h:sp (vs++dvs) H Q E):Kq (Ko X.prog X.w) X.A (call (.ref f) us) (EP X pins σ Q) X.xe s:=by
 have r2:Vals (vs++dvs) (us++ds):=r.append hd
 have U:(us++ds).length=ps.length:=by rw[<-r2.length];exact F.len _ _ _ _ h
 refine O4 (Nj (F.run X.A X.stack s H ⟨us,[]⟩ (us++ds) (vs++dvs) Q E hr I.env0 (hb s us I.kIn U) r2 h) λr s' J=>?_);cases r with
 |error e=>exact hx pins σ H s e s' I J
 |ok fl=>
  cases fl with
  |ret u=>exact I.after J
  |next=>exact La J
  |brk=>exact La J
  |cont=>exact La J
theorem cQ(F:bX X.prog X.w X.K X.mg X.base CX k f fd ps sp)(hr:eF k X.A)(hg:Gl X x)(hm:X.mg x=some (.ref f))(hk:ME X.K (.ref f)=true)(hb:Binds X.K fd ps ds)(hd:Vals dvs ds)(hx:Passes CX X E)
  (ha:PA X (e::es) t)(hdb:(x==("__debug__":Str))=false:=by decide)(he:KA (e::es) X.env=(false,eval e X.env)::KA es X.env:=by rfl)(hpl:(Mh pos (KA es X.env)).any (·.1)=false:=by rfl):
  PE X (.Call (.Name x p) (e::es) [] pos) (yt sp dvs E t):=by
 intro pins s σ H Q I h;refine LU (jw I hg hm ?_ hdb);refine NR (h₀:=X.base) I.ok.mod.kin hk (cv (ha pos pins s σ H _ I h) λus s1 ⟨vs,H1,J,r,q⟩=>⟨J.kIn,?_⟩) he hpl;exact rJ F hr hb hd hx J r q
theorem mq{pl:Sem KS}(he:PE X o ta)(c:gA X.K C)(hm:Meth X.K C m f)(F:bX X.prog X.w X.K X.mg X.base CX k f fd ps sp)(hr:eF k X.A)(hb:Binds X.K fd ps ds)(hd:Vals dvs ds)(hx:Passes CX X E)(ha:PA X (e::es) t)
  (hst:KA (e::es) X.env=(false,eval e X.env)::KA es X.env:=by rfl)(hpl:(Mh pos (KA es X.env)).any (·.1)=false:=by rfl)
  (ht:eval (.Call (.Attribute o m apos) (e::es) [] pos) X.env=(do
   let ov<-eval o X.env
   standAt apos.atName
   let (f,first)<-OZ [ov] (O0 ov m pl)
   callWith pos f first (Mh pos (KA (e::es) X.env)) (O6 pos (Ob [] X.env))):=by rfl):
  PE X (.Call (.Attribute o m apos) (e::es) [] pos) (yy C m sp dvs E ta t):=by
 intro pins s σ H Q I h;refine OI (pl:=pl) (cv (he pins s σ H _ I h) λu s1 ⟨x,H1,J,rx,a,dx,fs,ex,ea,l,q⟩=>?_) ht;subst ex;obtain rfl:u=Ky a:=rx;refine wa J ea c hm l ?_;refine NR (first:=[.ref a]) (h₀:=X.base) I.ok.mod.kin hm.kp (cv (ha pos pins s1 σ H1 _ J q) λus s2 ⟨vs,H2,U,r,q2⟩=>⟨U.kIn,?_⟩) hst hpl;exact rJ (us:= .ref a::us) (vs:= .ref a::vs) F hr hb hd hx U (.cons rfl r) q2
theorem oR{pl:Sem KS}(he:PE X o ta)(c:gA X.K C)(hm:Meth X.K C m f)(F:bX X.prog X.w X.K X.mg X.base CX k f fd ps sp)(hr:eF k X.A)(hb:Binds X.K fd ps ds)(hd:Vals dvs ds)(hx:Passes CX X E)
  (ht:eval (.Call (.Attribute o m apos) [] [] pos) X.env=(do
   let ov<-eval o X.env
   standAt apos.atName
   let (f,first)<-OZ [ov] (O0 ov m pl)
   callWith pos f first (Mh pos (KA [] X.env)) (O6 pos (Ob [] X.env))):=by rfl):
  PE X (.Call (.Attribute o m apos) [] [] pos) (yy C m sp dvs E ta qf):=by
 intro pins s σ H Q I h;refine OI (pl:=pl) (cv (he pins s σ H _ I h) λu s1 ⟨x,H1,J,U,a,dx,fs,ex,ea,l,q⟩=>?_) ht;subst ex;obtain rfl:u=Ky a:=U;refine wa J ea c hm l ?_;exact W.callWith_K0 (first:=[.ref a]) J.kIn hm.kp (rJ (us:=[.ref a]) (vs:=[.ref a]) F hr hb hd hx J (.cons rfl .nil) q)
structure Mk (K : Kl) (C f : JR) : Prop where
 makes : W.makesIn K C = true
 init : Li K (.ref C) "__init__" = some (some (.ref f))
 fn : W.isFn K (.ref f) = true
 kp : ME K (.ref C) = true
theorem yY{pins:JP (JR×Obj)}{σ:St}{H:Hp}{s:JZ}{Q:VK}{us:JP JT}{vs:JP V}(M:Mk X.K C f)(F:bX X.prog X.w X.K X.mg X.base CX k f fd ps sp)(hr:eF (k+1) X.A)(hb:Binds X.K fd ps ds)(hd:Vals dvs ds)
  (hx:Passes CX X E)(I:Inv X pins σ H s)(r:Vals vs us)
  (h:∀ x dx,H x=none->H dx=none->dx≠x->sp (.ref x::(vs++dvs)) (upd (upd H dx (.own x)) x (.ins C dx [])) (λv H2=>v= .non/\Q (.ref x) H2) E):
  Kq (Ko X.prog X.w) X.A (call (.ref C) us) (EP X pins σ Q) X.xe s:=by
 have hq:=h (s.heap.objs.size+1) s.heap.objs.size (I.hok.fresh (MU _)) (I.hok.fresh (JY _)) (Kr (LJ _))
 have U:=Inv.made (C:=C) I
 have r2:Vals (V.ref (s.heap.objs.size+1)::(vs++dvs)) (Ky (s.heap.objs.size+1)::(us++ds)):= .cons rfl (r.append hd)
 have hl:(Ky (s.heap.objs.size+1)::us++ds).length=ps.length:=by
  have e:=r2.length;rw[F.len _ _ _ _ hq] at e;exact e.symm
 refine O4 (E6 (f:=f) I.kIn M.makes M.init (beq_iff_eq.mp M.fn) (Nj (F.run _ X.stack _ _ ⟨Ky (s.heap.objs.size+1)::us,[]⟩ (Ky (s.heap.objs.size+1)::(us++ds)) _ _ E (hr.make C us [])
  (U.env0.make C us []) (hb _ (Ky (s.heap.objs.size+1)::us) U.kIn hl) r2 hq) λr s' J=>?_));cases r with
 |error e=>exact hx pins σ _ _ e s' U J
 |ok fl=>
  cases fl with
  |ret u=>
   obtain⟨v,H',I3,rv,ev,q3⟩:=U.after J;subst ev;exact⟨rv,⟨V.ref (s.heap.objs.size+1),H',I3,rfl,q3⟩⟩
  |next=>exact La J
  |brk=>exact La J
  |cont=>exact La J
theorem mF(M:Mk X.K C f)(F:bX X.prog X.w X.K X.mg X.base CX k f fd ps sp)(hr:eF (k+1) X.A)(hg:Gl X x)(hm:X.mg x=some (.ref C))(hb:Binds X.K fd ps ds)(hd:Vals dvs ds)(hx:Passes CX X E)
  (ha:PA X (e::es) t)(hdb:(x==("__debug__":Str))=false:=by decide)(he:KA (e::es) X.env=(false,eval e X.env)::KA es X.env:=by rfl)(hpl:(Mh pos (KA es X.env)).any (·.1)=false:=by rfl):
  PE X (.Call (.Name x p) (e::es) [] pos) (xX C sp dvs E t):=by
 intro pins s σ H Q I h;refine LU (jw I hg hm ?_ hdb);refine NR (h₀:=X.base) I.ok.mod.kin M.kp (cv (ha pos pins s σ H _ I h) λus s1 ⟨vs,H1,J,r,q⟩=>⟨J.kIn,?_⟩) he hpl;exact yY M F hr hb hd hx J r q
theorem wA(M:Mk X.K C f)(F:bX X.prog X.w X.K X.mg X.base CX k f fd ps sp)(hr:eF (k+1) X.A)(hg:Gl X x)(hm:X.mg x=some (.ref C))(hb:Binds X.K fd ps ds)(hd:Vals dvs ds)(hx:Passes CX X E)
  (hdb:(x==("__debug__":Str))=false:=by decide):PE X (.Call (.Name x p) [] [] pos) (xX C sp dvs E qf):=by
 intro pins s σ H Q I h;refine LU (jw I hg hm ?_ hdb);exact W.callWith_K0 I.kIn M.kp (yY (us:=[]) M F hr hb hd hx I .nil h)
end
section
variable {X : Cx} {CX : gv} {k : Nat} {f C : JR} {fd : J2} {ps ks : JP Str} {sp : Sp} {E : XK} {x m : Str} {p pos apos kpos : Pos} {e o : KI} {es : JP KI} {kws : JP Keyword} {te ta : TE} {t tk : TA} {nm : JW Str}
variable {g : JP JT -> JP JT -> JP JT} {gV : JP V -> JP V -> JP V}
end
structure da (N P : JP Str) (sc : MS) : Prop where
 kind : sc.kind = .function
 co : sc.isCoroutine = false
 gen : sc.isGenerator = false
 nd : N.Nodup
 pre : N.take P.length = P
 par : ∀ x ∈ P, sc.names.lookup x = some .local \/ sc.names.lookup x = some .cell
 nofree : ∀ y ∈ sc.names, y.2 ≠ .free
theorem yJ{kindOf:Str->JW MV}{x:Str}:∀{binds:JP (Str×JT)} {m:Str->JW JT},(∀ v,(x,v)∉binds)->bindL kindOf binds m x=m x
 |[],_,_=>rfl
 |(n,v)::r,m,h=>by
  unfold bindL;rw[yJ λw hw=>h w (J0 _ hw)];split
  ·have:x≠n:=by rintro rfl;exact h v KG
   simp[this]
  ·rfl
theorem z4{kindOf:Str->JW MV}{x:Str}:∀{binds:JP (Str×JT)} {m:Str->JW JT},(∀ v,(x,v)∉binds)->bindC kindOf binds m x=m x
 |[],_,_=>rfl
 |(n,v)::r,m,h=>by
  unfold bindC;rw[z4 λw hw=>h w (J0 _ hw)];split
  ·rfl
  ·have:x≠n:=by rintro rfl;exact h v KG
   simp[this]
theorem AB{kindOf:Str->JW MV}{x:Str}{v:JT}:∀{P:JP Str} {vs:JP JT} {i:Nat} {m:Str->JW JT},P.Nodup->P[i]? =some x->vs[i]? =some v->kindOf x=some .local->
  bindL kindOf (P.zip vs) m x=some v
 |[],_,_,_,_,h,_,_=>by simp at h
 |_::_,[],_,_,_,_,h,_=>by simp at h
 |p::P,w::vs,0,m,nd,h1,h2,hk=>by
  simp at h1 h2;subst h1;subst h2;show bindL kindOf ((p,w)::P.zip vs) m p=_;unfold bindL;rw[yJ λv J=>(List.nodup_cons.mp nd).1 (NI J).1,J1 hk];simp
 |p::P,w::vs,i+1,m,nd,h1,h2,hk=>by
  show bindL kindOf ((p,w)::P.zip vs) m x=_;unfold bindL;exact AB (i:=i) (List.nodup_cons.mp nd).2 (by simpa using h1) (by simpa using h2) hk
theorem zk{kindOf:Str->JW MV}{x:Str}{v:JT}:∀{P:JP Str} {vs:JP JT} {i:Nat} {m:Str->JW JT},P.Nodup->P[i]? =some x->vs[i]? =some v->kindOf x≠some .local->
  bindC kindOf (P.zip vs) m x=some v
 |[],_,_,_,_,h,_,_=>by simp at h
 |_::_,[],_,_,_,_,h,_=>by simp at h
 |p::P,w::vs,0,m,nd,h1,h2,hk=>by
  simp at h1 h2;subst h1;subst h2;show bindC kindOf ((p,w)::P.zip vs) m p=_;unfold bindC;rw[z4 λv J=>(List.nodup_cons.mp nd).1 (NI J).1,if_neg hk];simp
 |p::P,w::vs,i+1,m,nd,h1,h2,hk=>by
  show bindC kindOf ((p,w)::P.zip vs) m x=_;unfold bindC;exact zk (i:=i) (List.nodup_cons.mp nd).2 (by simpa using h1) (by simpa using h2) hk
noncomputable def start(N:JP Str)(vs:JP V):St:=vs.map some++List.replicate (N.length-vs.length) none
noncomputable def eM(CX:gv)(P:Ka)(w:Ku)(K:Kl)(mg:Str->JW JT)(base:KP)(N:JP Str)(qual:Str)(scope:MS)(f:JR)(cd:JT)(A:K4)(outer:JP Env)(s:JZ)(H:Hp)(E:XK):Cx where
 prog:=P
 w:=w
 K:=K
 mg:=mg
 base:=base
 A:=A.deeper (Mz qual scope s.heap.objs.size f cd)
 N:=N
 s₀:=s
 H₀:=H
 env:=Mz qual scope s.heap.objs.size f cd
 outer:=outer
 stack:=Mz qual scope s.heap.objs.size f cd::outer
 ex:=[]
 calm:=true
 fn:=λ_=>true
 pn:=[]
 xe:=λe s'=>Kq (Ko P w) (A.deeper (Mz qual scope s.heap.objs.size f cd)) (leaving (Mz qual scope s.heap.objs.size f cd) e) (λ_ J=>CX outer H s E e J) (λU J=>CX outer H s E U J) s'
theorem yF{sc:MS}{n:Nat}{x:Str}(h:sc.names.lookup x=some .cell):∃ c,(cellsFrom n sc.names []).lookup x=some c:=by
 have q:=Oq sc.names n [] (.inl h);exact Option.isSome_iff_exists.mp q
theorem yG{CX:gv}{P:Ka}{w:Ku}{K:Kl}{mg:Str->JW JT}{base:KP}{N ps:JP Str}{qual:Str}{scope:MS}{f:JR}{cd:JT}{A:K4}{outer:JP Env}{s s1:JZ}{H:Hp}{E:XK}{us:JP JT}{vs:JP V}
  (S:da N ps scope)(hd:A.handled=none)(e0:k4 P w K mg base A outer s H)(hl:vs.length=ps.length)(r:Vals vs us)
  (x:InCallC s s.heap.objs.size (bindL (Mz qual scope s.heap.objs.size f cd).kindOf (ps.zip us) λ_=>none) (cellsFrom (s.heap.objs.size+1) scope.names []) (bindC (Mz qual scope s.heap.objs.size f cd).kindOf (ps.zip us) λ_=>none) s1):
  Inv (eM CX P w K mg base N qual scope f cd A outer s H E) [] (start N vs) H s1:=by
 have aa:ps.length<=N.length:=by have:=K9 Mw S.pre;rw[Lr] at this;lia
 obtain⟨h1,tk,rfl,hk⟩:=x.done;have J:∀ b:JR,b∉(eM CX P w K mg base N qual scope f cd A outer s H E).ex:=λb z=>absurd (show b∈([]:JP JR) from z) (by simp)
 refine⟨⟨e0.mod,S.kind,rfl,rfl,JY _,λy z c h1 h2=>?_,λy hy=>?_,λy c _ h=>?_,λ_=>hd,Around.frames_deeper e0.frames,.inr ⟨rfl,rfl⟩,λb z=>absurd z (J b),e0.bs,e0.bsz,λb _ _=>J b,λb z=>absurd z (J b),e0.funs,e0.frf⟩,
  rfl,e0.bare,Un.kept hk,⟨_,x.toInCall.ns,λi y v h1 h2 h3=>?_⟩,λy c h=>⟨_,x.cell y c h⟩,e0.hok.fresh (JY _),λy c h=>?_,λp hp=>absurd (show p∈([]:JP (JR×Obj)) from hp) (by simp),e0.hok.kept hk,?_⟩
 ·exact name_of_addr x.apart (LO h1) (LO h2)
 ·have hy:scope.names.lookup y=some .cell\/scope.names.lookup y=some .free:=hy;rcases hy with hy|hy
  ·exact yF hy
  ·exact absurd rfl (S.nofree _ (LO hy))
 ·exact M3 (x.above y c (LO h))
 ·have hi:i<vs.length:=by
   unfold start at h2;by_cases hi:i<vs.length
   ·exact hi
   ·rw[List.getElem?_append_right (by simpa using hi)] at h2;rw[List.getElem?_replicate] at h2;split at h2<;>cases h2
  have ha:vs[i]? =some v:=by
   unfold start at h2;rw[List.getElem?_append_left (by simpa using hi),List.getElem?_map] at h2;cases e:vs[i]? with
   |none=>rw[e] at h2;cases h2
   |some a=>rw[e] at h2;cases h2;rfl
  obtain⟨u,I,rv⟩:=r.get ha;have hp:ps[i]? =some y:=by
   rw[<-S.pre,List.getElem?_take_of_lt (by lia)];exact h1
  have U:ps.Nodup:=by rw[<-S.pre];exact S.nd.sublist (List.take_sublist _ _)
  refine⟨u,rv,?_⟩;rcases S.par y (List.mem_of_getElem? hp) with k|k
  ·exact .inl ⟨k,AB U hp I k⟩
  ·obtain⟨c,e⟩:=yF (n:=s.heap.objs.size+1) k;refine .inr ⟨.inl k,c,e,?_⟩;have q:=x.cell y c e;rw[zk U hp I (by show scope.names.lookup y≠_;rw[k];decide)] at q;exact q
 ·exact e0.hok.fresh (M3 (x.above y c (LO h)))
 ·unfold start;show _=N.length;rw[JU,JX,Ma]
  lia
theorem yS{CX:gv}{P:Ka}{w:Ku}{K:Kl}{mg:Str->JW JT}{base:KP}{k:Nat}{f:JR}{name qual:Str}{params:Arguments}{body:JP K0}{scope:MS}{dV kV doc pm cdv ct oc:JT}{an od:JW JR}
  {osl:MM (JW JT)}{N ps:JP Str}{sp:Sp}(lk:K.lookup f=some ⟨oc,od,.func (Nk name qual params body scope dV kV doc pm an cdv ct),osl⟩)(hcd:N1 K cdv qual=true)(S:da N ps scope)
  (len:∀ vs H Q E,sp vs H Q E->vs.length=ps.length)
  (hbody:∀(A:K4) (outer:JP Env) (s:JZ) (H:Hp) (vs:JP V) (Q:VK) (E:XK),eF k (A.deeper (Mz qual scope s.heap.objs.size f cdv))->sp vs H Q E->
   ∃ t,cH (eM CX P w K mg base N qual scope f cdv A outer s H E) body t/\t {nx:=λ_ H'=>Q .non H',rt:=Q} (start N vs) H):
  bX P w K mg base CX (k+1) f (Nk name qual params body scope dV kV doc pm an cdv ct) ps sp:=by
 refine⟨len,λA outer s H args us vs Q E hr e0 hb r ab=>?_⟩;have hl:=len _ _ _ _ ab;have KX:K.In s.heap:=e0.mod.kin.keeps λb o e=>(e0.bs b o e).1
 have lim:s.heap.NoLimit:=e0.mod.nolimit.keeps λb o e=>(e0.bs b o e).1
 have aa:∀ y∈ps.zip us,scope.names.lookup y.1=some .local\/(scope.names.lookup y.1=some .cell/\((cellsFrom (s.heap.objs.size+1) scope.names []).lookup y.1).isSome=true):=λ⟨n,v⟩ hy=>by
  rcases S.par n (NI hy).1 with q|q
  ·exact .inl q
  ·exact .inr ⟨q,Oq _ _ _ (.inl q)⟩
 refine codeAny_call_function hr.depth (KX _ _ lk) rfl S.co S.gen rfl (W.codeRec_of KX hcd) (hb _ _ _ _ ?_);refine N2 S.kind aa λenv he s1 x=>?_
 subst he;refine⟨lim.keeps x.toInCall.keep,codeAny_func ?_⟩;obtain⟨t,ht,hq⟩:=hbody A outer s H vs Q E (hr.deeper _) ab;have I:Inv (eM CX P w K mg base N qual scope f cdv A outer s H E) [] (start N vs) H s1:=yG S hr.hd e0 hl r x;refine KY (ht [] s1 (start N vs) H _ I hq) (λfl s' hs=>?_) λe s' hs=>hs
 have fin:∀{U:St} {H':Hp} {v:V} {u:JT},Inv (eM CX P w K mg base N qual scope f cdv A outer s H E) [] U H' s'->RelV v u->Q v H'->CE outer P w H s Q u s':=
  λ{U H' v u} J rv q=>⟨v,H',J.os,J.bare,J.base,J.hok,rv,q⟩;cases fl with
 |ret u=>
  obtain⟨v,U,H',J,rv,q⟩:=hs;exact fin J rv q
 |next=>
  obtain⟨U,H',J,q⟩:=hs;exact fin (v:=V.non) (u:=My) J rfl q
 |brk=>
  obtain⟨_,_,_,q⟩:=hs;exact La q
 |cont=>
  obtain⟨_,_,_,q⟩:=hs;exact La q
section
variable {X : Cx} {x : Str} {p pos : Pos} {e : KI} {es : JP KI} {t : TA} {id T : Mx} {r : JP V -> Hp -> VK -> Prop}
noncomputable def xt(r:JP V->Hp->VK->Prop)(t:TA):TE:=λσ H Q=>t σ H λvs H1=>r vs H1 Q
theorem dE(hc:iO X (.builtin id) r)(hg:Gl X x)(hm:X.mg x=none)(hv:Lp x=some (.builtin id))(ha:PA X (e::es) t)(hn:x≠"__name__":=by decide)(hdb:(x==("__debug__":Str))=false:=by decide)
  (he:KA (e::es) X.env=(false,eval e X.env)::KA es X.env:=by rfl)(hpl:(Mh pos (KA es X.env)).any (·.1)=false:=by rfl):PE X (.Call (.Name x p) (e::es) [] pos) (xt r t):=by
 intro pins s σ H Q I h;refine LU (qi I hg hm hv ?_ hn hdb);exact PyProof.Rows.callWith_builtin1 (cv (ha pos pins s σ H _ I h) λus s1 ⟨vs,H1,J,r1,U⟩=>hc pins s1 σ H1 vs us Q J r1 U) he hpl
theorem ie(hc:iO X (.type T) r)(hg:Gl X x)(hm:X.mg x=none)(hv:Lp x=some (.type T))(ha:PA X (e::es) t)(hn:x≠"__name__":=by decide)(hdb:(x==("__debug__":Str))=false:=by decide)
  (he:KA (e::es) X.env=(false,eval e X.env)::KA es X.env:=by rfl)(hpl:(Mh pos (KA es X.env)).any (·.1)=false:=by rfl):PE X (.Call (.Name x p) (e::es) [] pos) (xt r t):=by
 intro pins s σ H Q I h;refine LU (qi I hg hm hv ?_ hn hdb);exact MO (cv (ha pos pins s σ H _ I h) λus s1 ⟨vs,H1,J,r1,U⟩=>hc pins s1 σ H1 vs us Q J r1 U) he hpl
end
end L2
namespace HT
open PySem PyProof.Rows
section
open PySem.SeqAt
open PySem.AutoSeq1 (wpAny_loadPart')
open PySem.MeetsSeq PySem.MeetsSeq2 PySem.MeetsSeq3
end
section
variable {prog : Ka} {w : Ku} {A : K4} {E : JT -> JZ -> Prop} {s : JZ}
end
end HT
namespace L2
open PySem PySem.Spec PyProof.Rows
noncomputable abbrev TO:=St->Hp->(JW Int->Hp->Prop)->Prop
noncomputable def PO(X:Cx)(e:JW KI)(t:TO):Prop:=
 ∀(pins:JP (JR×Obj)) (s:JZ) (σ:St) (H:Hp) (Q:JW Int->Hp->Prop),Inv X pins σ H s->t σ H Q->
  Kq (Ko X.prog X.w) X.A (evalPart e X.env) (λu s'=>∃ o H',Inv X pins σ H' s'/\IsPart u o/\Q o H') X.xe s
noncomputable def Io:TO:=λ_ H Q=>Q none H
noncomputable def DZ(t:TE):TO:=λσ H Q=>t σ H λx H1=>∃ i,x= .int i/\Q (some i) H1
section
variable {X : Cx} {e : KI} {te : TE} {lo hi : JW KI} {tl th : TO} {pos p2 : Pos}
theorem lT:PO X none Io:=by
 intro pins s σ H Q I h;rw[evalPart_none];exact KN ⟨none,H,I,.none,h⟩
theorem fE(h:PE X e te):PO X (some e) (DZ te):=by
 intro pins s σ H Q I hw;rw[evalPart_some];refine cv (h pins s σ H _ I hw) λu s1 ⟨x,H1,J,r1,U⟩=>?_
 obtain⟨i,rfl,q⟩:=U;obtain⟨t,rfl⟩:=r1;exact⟨some i,H1,J,.int i t,q⟩
noncomputable def Ab(X:Cx)(r:V->JW Int->JW Int->Hp->VK->Prop):Prop:=
 ∀(pins:JP (JR×Obj)) (s:JZ) (σ:St) (H:Hp) (x:V) (v vl J:JT) (lo hi:JW Int) (sl:JR) (Q:VK),Inv X pins σ H s->RelV x v->s.heap.IsSliceOf sl vl J .none->IsPart vl lo->IsPart J hi->r x lo hi H Q->
  ∃ T id,typeLookup (.type T) "__getitem__"=pure (some (.builtin id))/\s.TypeIs v T/\Kq (Ko X.prog X.w) X.A (O7 v (.ref sl)) (EP X pins σ Q) X.xe s
noncomputable def FE(r:V->JW Int->JW Int->Hp->VK->Prop)(te:TE)(tl th:TO):TE:=λσ H Q=>te σ H λx H1=>tl σ H1 λl H2=>th σ H2 λu J=>r x l u J Q
theorem gP{r:V->JW Int->JW Int->Hp->VK->Prop}(hr:Ab X r)(he:PE X e te)(hl:PO X lo tl)(hu:PO X hi th):PE X (.Subscript e (.Slice lo hi none p2) pos) (FE r te tl th):=by
 intro pins s σ H Q I h;refine Subscript_ (cv (he pins s σ H _ I h) λv s1 ⟨x,H1,I1,r1,q1⟩=>?_);refine wpAny_Slice (cv (hl pins s1 σ H1 _ I1 q1) λvl s2 ⟨l,H2,I2,pl,q2⟩=>cv (hu pins s2 σ H2 _ I2 q2) λJ s3 ⟨u,U,I3,pu,q3⟩=>?_);rw[evalPart_none];refine KN ?_;have I4:Inv X pins σ U {s3 with heap:=s3.heap.push {cls:= .type "slice",data:= .fields #[vl,J,.none]}}:=I3.kept (t':=s3.toks) λb ob q=>Heap.get?_push_of_some _ q
 obtain⟨T,id,hT,ht,hg⟩:=hr pins {s3 with heap:=s3.heap.push {cls:= .type "slice",data:= .fields #[vl,J,.none]}} σ U x v vl J l u s3.heap.objs.size Q I4 r1 (Heap.IsSliceOf.new ..) pl pu q3;show Kq (Ko X.prog X.w) X.A (subscriptTail e (.Slice lo hi none p2) v (.ref s3.heap.objs.size)) (EP X pins σ Q) X.xe {s3 with heap:=s3.heap.push {cls:= .type "slice",data:= .fields #[vl,J,.none]}};exact tail_any (ops:=[.ref s3.heap.objs.size,v]) ht hT hg (by with_unfolding_all rfl)
end
noncomputable def jH(n:Nat)(i:Int):JW Nat:=if 0<=i then (if i<n then some i.toNat else none) else if -(n:Int)<=i then some (i+n).toNat else none
noncomputable def iz{α:Type}(xs:JP α)(i:Int):JW α:=(jH xs.length i).bind λj=>xs[j]?
theorem zX{n:Nat}{i:Int}{j:Nat}(h:jH n i=some j):seqIndex? i n=some j/\j<n/\ -(n:Int)<=i/\i<n:=by
 unfold jH at h;by_cases h0:0<=i
 ·rw[J1 h0] at h;by_cases h1:i<n
  ·rw[J1 h1] at h;have e:i.toNat=j:=Kg h;exact⟨by rw[seqIndex_of h0 h1,e],by lia,by lia,h1⟩
  ·rw[if_neg h1] at h;cases h
 ·rw[if_neg h0] at h;by_cases h1: -(n:Int)<=i
  ·rw[J1 h1] at h;have e:(i+n).toNat=j:=Kg h;exact⟨by rw[seqIndex_neg (by lia) h1,e],by lia,h1,by lia⟩
  ·rw[if_neg h1] at h;cases h
theorem vZ{α:Type}{xs:JP α}{i:Int}{v:α}(h:iz xs i=some v):∃ j,seqIndex? i xs.length=some j/\xs[j]? =some v/\j<xs.length/\ -(xs.length:Int)<=i/\i<xs.length:=by
 unfold iz at h;cases e:jH xs.length i with
 |none=>rw[e] at h;cases h
 |some j=>
  rw[e] at h;obtain⟨h1,h2,J,U⟩:=zX e;exact⟨j,h1,h,h2,J,U⟩
theorem cJ{α:Type}{xs:JP α}{j:Nat}{v:α}(h:xs[j]? =some v):iz xs (j:Int)=some v:=by
 have J:j<xs.length:=(List.getElem?_eq_some_iff.mp h).1
 have e:jH xs.length (j:Int)=some j:=by
  unfold jH;rw[J1 (by lia),J1 (by lia)];simp
 unfold iz;rw[e];exact h
theorem zp{α:Type}(xs:JP α)(v:α):iz (xs++[v]) (-1)=some v:=by
 have J:(xs++[v]).length=xs.length+1:=by simp
 have e:jH (xs++[v]).length (-1)=some xs.length:=by
  unfold jH;rw[J,if_neg (by decide),J1 (by lia)]
  congr 1
  lia
 unfold iz;rw[e];show(xs++[v])[xs.length]? =some v;simp
noncomputable def F9(b:KI):Prop:=∀ o i,OS b false o i=operate [o,i] (O7 o i)
noncomputable def qu(X:Cx)(r:R2):Prop:=
 ∀(value slice:KI) (pins:JP (JR×Obj)) (s:JZ) (σ:St) (H:Hp) (x y:V) (v u:JT) (Q:VK),Inv X pins σ H s->RelV x v->RelV y u->r x y H Q->
  OS slice false v u=operate [v,u] (O7 v u)->Kq (Ko X.prog X.w) X.A (subscriptTail value slice v u) (EP X pins σ Q) X.xe s
noncomputable def jC(X:Cx)(id:Mx)(r:V->JP V->Hp->VK->Prop):Prop:=
 ∀(pins:JP (JR×Obj)) (s:JZ) (σ:St) (H:Hp) (x:V) (xs:JP V) (v:JT) (us:JP JT) (Q:VK),Inv X pins σ H s->RelV x v->Vals xs us->r x xs H Q->
  Kq (Ko X.prog X.w) X.A (call (.builtin id) (v::us)) (EP X pins σ Q) X.xe s
section
variable {X : Cx} {a b : KI} {ta tb : TE} {pos : Pos}
theorem cK{r:R2}(hr:qu X r)(ha:PE X a ta)(hb:PE X b tb)(hs:F9 b):PE X (.Subscript a b pos) (rG r ta tb):=by
 intro pins s σ H Q I h;exact Subscript_ (tZ ha hb I h λv u s2 x y H2 J U ry q=>hr a b pins s2 σ H2 x y v u Q J U ry q (hs _ _))
noncomputable def yD(K:Kl):R2:=λx y H Q=>∃ p xs i v,x= .ref p/\y= .int i/\ck K H p xs/\iz xs i=some v/\Q v H
noncomputable def Eh(K:Kl):R2:=λx y H Q=>∃ p xs i v,x= .ref p/\y= .int i/\cu K H p xs/\iz xs i=some v/\Q v H
noncomputable def Jo:R2:=λx y H Q=>∃ z i c,x= .str z/\y= .int i/\z.length<=sizeLine/\iz z.cps.toList i=some c/\Q (.str ⟨#[c]⟩) H
theorem fN:qu X (yD X.K):=by
 intro value slice pins s σ H x y v u Q I rx ry h hs;obtain⟨p,xs,i,z,rfl,rfl,hq,he,q⟩:=h;cases rx;obtain⟨t,rfl⟩:=ry;obtain⟨J,r,pl,hz⟩:=I.list hq;obtain⟨j,h1,h2,h3,h4,h5⟩:=vZ he;obtain⟨w,ew,U⟩:=r.get h2;have hl:=r.length;have hn:=o9;have fin:EP X pins σ Q w s:=⟨z,H,I,U,q⟩;by_cases h0:0<=i
 ·have hj:i.toNat=j:=by
   rw[seqIndex_of h0 h5] at h1;exact Kg h1
  exact item_listR pl.isList h0 (by lia) (by rw[hj];simpa using ew) fin hs
 ·have hj:(i+(J.toArray.size:Int)).toNat=j:=by
   rw[seqIndex_neg (by lia) h4] at h1;rw[Kk,<-hl];exact Kg h1
  exact subscriptTail_builtinR (x:=w) pl.isList.typeIs slot_list_getitem.lookup
   (wpAny_getItem_list_neg (Q:=λr s'=>r=w/\EP X pins σ Q r s') pl.isList (by lia) (by rw[Kk]<;>lia) (by lia) (by rw[hj];simpa using ew) ⟨rfl,fin⟩) hs
theorem dS:qu X (Eh X.K):=by
 intro value slice pins s σ H x y v u Q I U ry h hs;obtain⟨p,xs,i,z,rfl,rfl,hq,he,q⟩:=h;cases U;obtain⟨t,rfl⟩:=ry;obtain⟨aa,r,pl,hz⟩:=I.tuple hq;obtain⟨j,h1,h2,h3,h4,h5⟩:=vZ he;obtain⟨w,ew,J⟩:=r.get h2;have hl:=r.length;have hn:=o9;have fin:EP X pins σ Q w s:=⟨z,H,I,J,q⟩;exact subscriptTail_builtinR (x:=w) pl.typeIs slot_tuple_getitem.lookup
  (getItem_tuple (j:=j) (Q:=λr s'=>r=w/\EP X pins σ Q r s') pl (by lia) (by lia) (by rw[Kk,<-hl];exact h1) (by simpa using ew) ⟨rfl,fin⟩) hs
theorem gI:qu X Jo:=by
 intro value slice pins s σ H x y v u Q I J U h hs;obtain⟨z,i,c,rfl,rfl,hz,he,q⟩:=h;obtain⟨t,rfl⟩:=J;obtain⟨t',rfl⟩:=U;obtain⟨j,h1,h2,h3,h4,h5⟩:=vZ he;have hl:z.cps.toList.length=z.length:=by simp[N3]
 rw[hl] at h1 h4 h5;have hn:=o9;exact tail_any (Nf s z t) slot_str_getitem.lookup (getItem_str (c:=c) (by
  have e1:decide (i < -(2 ^ 63:Int))=false:=JQ (by lia)
  have e2:decide (i ≥ 2 ^ 63)=false:=JQ (by lia);rw[e1,e2,Bool.or_false]) (by rw[h1];simpa using h2) ⟨.str ⟨#[c]⟩,H,I.tok _,⟨_,rfl⟩,q⟩) hs
theorem Dk(its:JP JT)(n j:Nat)(u:JT):Nw (·.setIfInBounds j u) {cls:= .type "list",data:= .seq its.toArray n}={cls:= .type "list",data:= .seq (its.set j u).toArray n}:=by
 simp[Nw]
theorem Inv.lst {pins:JP (JR×Obj)}{σ:St}{H:Hp}{s:JZ}{p:JR}{xs:JP V}(I:Inv X pins σ H s)(h:H p=some (.lst xs)):
  ∃(its:JP JT) (n:Nat),Vals xs its/\s.heap.get? p=some {cls:= .type "list",data:= .seq its.toArray n}/\xs.length<=sizeLine:=by
 obtain⟨z,its,n,r,e⟩:=I.hok p _ h;exact⟨its,n,r,e,z⟩
theorem Inv.lstUpd {pins:JP (JR×Obj)}{σ:St}{H:Hp}{s:JZ}{p:JR}{xs ys:JP V}{its its':JP JT}{n n':Nat}{f:Obj->Obj}(I:Inv X pins σ H s)(h:H p=some (.lst xs))
  (ho:s.heap.get? p=some {cls:= .type "list",data:= .seq its.toArray n})(hf:f {cls:= .type "list",data:= .seq its.toArray n}={cls:= .type "list",data:= .seq its'.toArray n'})(r:Vals ys its')(hz:ys.length<=sizeLine)(t:Nat):
  Inv X pins σ (upd H p (.lst ys)) {s with heap:=s.heap.update p f,toks:=t}:=by
 have e:(s.heap.update p f).get? p=some {cls:= .type "list",data:= .seq its'.toArray n'}:=by
  rw[Heap.get?_update_self f ho (by rw[hf]<;>rfl),hf]
 refine I.write (x:=p) (e:=p) (by rw[h];trivial) (.inl rfl) (λb u hb q=>(Heap.get?_update_other _ _ (K5 hb)).trans q) ⟨_,e⟩ ?_;exact⟨hz,its',n',r,e⟩
noncomputable def Hd:V->V->V->Hp->(Hp->Prop)->Prop:=λo i v H Q=>∃ p xs k j,o= .ref p/\i= .int k/\H p=some (.lst xs)/\jH xs.length k=some j/\Q (upd H p (.lst (xs.set j v)))
theorem set_list:yO X Hd:=by
 intro pins s σ H o i v ov iv u Q I ro ri rv h;obtain⟨p,xs,k,j,rfl,rfl,hp,hj,q⟩:=h;cases ro;obtain⟨t,rfl⟩:=ri;obtain⟨J,n,r,U,hz⟩:=I.lst hp;obtain⟨h1,h2,h3,h4⟩:=zX hj;have hl:=r.length;have hn:=o9;have I':Inv X pins σ (upd H p (.lst (xs.set j v))) {s with heap:=s.heap.update p (Nw (·.setIfInBounds j u))}:=
  I.lstUpd hp U (Dk J n j u) (r.set rv j) (by rw[List.length_set];exact hz) s.toks;by_cases h0:0<=k
 ·have hk:k.toNat=j:=by
   rw[seqIndex_of h0 h4] at h1;exact Kg h1
  exact W.ki_setAt U h0 (by lia) (by rw[Kk,<-hl];exact h4) (by rw[hk];exact⟨_,I',q⟩)
 ·have hk:(k+(J.toArray.size:Int)).toNat=j:=by
   rw[seqIndex_neg (by lia) h3] at h1;rw[Kk,<-hl];exact Kg h1
  exact W.ki_setBack U (by lia) (by rw[Kk,<-hl];exact h3) (by lia) (by rw[hk];exact⟨_,I',q⟩)
noncomputable def k9:V->KS
 |.non=>true
 |.bl _=>true
 |.int _=>true
 |.str _=>true
 |_=>false
noncomputable def jt:V->V->KS
 |.non,.non=>true
 |.bl a,.bl b=>a==b
 |.bl a,.int b=>(if a then 1 else 0)==b
 |.int a,.bl b=>a==(if b then 1 else 0)
 |.int a,.int b=>a==b
 |.str a,.str b=>a==b
 |_,_=>false
theorem Eg{A:K4}{s:JZ}{y x:V}{u v:JT}(ry:RelV y u)(rx:RelV x v)(fy:k9 y=true)(fx:k9 x=true):SeqAt.EqAt A s u v (jt y x):=by
 cases y with
 |non=>
  cases ry;cases x with
  |non=>cases rx;exact SeqAt.EqAt.same _
  |bl b=>cases rx;exact SeqAt.EqAt.none_bool b
  |int b=>obtain⟨t,rfl⟩:=rx;exact SeqAt.EqAt.none_int b t
  |str b=>obtain⟨t,rfl⟩:=rx;exact SeqAt.EqAt.none_str b t
  |_=>exact absurd (show false=true from fx) J3
 |bl a=>
  cases ry;cases x with
  |non=>cases rx;exact SeqAt.EqAt.bool_none a
  |bl b=>cases rx;exact SeqAt.EqAt.bool_bool a b
  |int b=>obtain⟨t,rfl⟩:=rx;exact SeqAt.EqAt.bool_int a b t
  |str b=>obtain⟨t,rfl⟩:=rx;exact SeqAt.EqAt.bool_str a b t
  |_=>exact absurd (show false=true from fx) J3
 |int a=>
  obtain⟨t',rfl⟩:=ry;cases x with
  |non=>cases rx;exact SeqAt.EqAt.int_none a t'
  |bl b=>cases rx;exact SeqAt.EqAt.int_bool a t' b
  |int b=>obtain⟨t,rfl⟩:=rx;exact SeqAt.EqAt.int_int a t' b t
  |str b=>obtain⟨t,rfl⟩:=rx;exact SeqAt.EqAt.int_str a t' b t
  |_=>exact absurd (show false=true from fx) J3
 |str a=>
  obtain⟨t',rfl⟩:=ry;cases x with
  |non=>cases rx;exact SeqAt.EqAt.str_none a t'
  |bl b=>cases rx;exact SeqAt.EqAt.str_bool a t' b
  |int b=>obtain⟨t,rfl⟩:=rx;exact SeqAt.EqAt.str_int a t' b t
  |str b=>obtain⟨t,rfl⟩:=rx;exact SeqAt.EqAt.str_str a t' b t
  |_=>exact absurd (show false=true from fx) J3
 |_=>exact absurd (show false=true from fy) J3
noncomputable def il(x:V)(u:JT):KS:=match u with
 |.none=>jt .non x
 |.bool b=>jt (.bl b) x
 |.int i _=>jt (.int i) x
 |.str z _=>jt (.str z) x
 |_=>false
theorem zo{x y:V}{u:JT}(r:RelV y u)(f:k9 y=true):il x u=jt y x:=by
 cases y with
 |non=>cases r;rfl
 |bl b=>cases r;rfl
 |int i=>obtain⟨t,rfl⟩:=r;rfl
 |str z=>obtain⟨t,rfl⟩:=r;rfl
 |_=>exact absurd (show false=true from f) J3
theorem pO{x:V}:∀{xs:JP V} {us:JP JT},Vals xs us->xs.all k9=true->us.any (il x)=xs.any λy=>jt y x
 |_,_,.nil,_=>rfl
 |y::xs,u::us,.cons r t,f=>by
  rw[M9,Lc] at f;rw[Oi,Oi,zo r f.1,pO t f.2]
theorem pX{A:K4}{s:JZ}{x:V}{v:JT}(rx:RelV x v)(fx:k9 x=true):∀{xs:JP V} {us:JP JT},Vals xs us->xs.all k9=true->∀ u∈us,SeqAt.EqAt A s u v (il x u)
 |_,_,.nil,_=>λu hu=>by cases hu
 |y::xs,u::us,.cons r t,f=>λJ hu=>by
  rw[M9,Lc] at f;rcases List.mem_cons.mp hu with rfl|hu
  ·rw[zo r f.1];exact Eg r rx f.1 fx
  ·exact pX rx fx t f.2 J hu
noncomputable def e7(x:V)(xs:JP V):KS:=xs.any λy=>jt y x
noncomputable def ud(K:Kl)(neg:KS):R2:=λx y H Q=>∃ p xs,y= .ref p/\(ck K H p xs\/cu K H p xs)/\k9 x=true/\xs.all k9=true/\Q (.bl (if neg then !e7 x xs else e7 x xs)) H
theorem kE:eT X (Lz .In) (ud X.K false):=by
 intro pins s σ H x y v u Q I U ry h;obtain⟨p,xs,rfl,hq,fx,fs,q⟩:=h;cases ry;rcases hq with hq|hq
 ·obtain⟨J,r,pl,hz⟩:=I.list hq;refine SeqAt.in_listAt (il x) pl.isList (λw hw=>pX U fx r fs w (by simpa using hw)) ⟨.bl _,H,I,rfl,?_⟩;rw[show J.toArray.any (il x)=J.any (il x) by simp,pO r fs];exact q
 ·obtain⟨J,r,pl,hz⟩:=I.tuple hq;refine SeqAt.in_tupleAt (il x) pl (λw hw=>pX U fx r fs w (by simpa using hw)) ⟨.bl _,H,I,rfl,?_⟩;rw[show J.toArray.any (il x)=J.any (il x) by simp,pO r fs];exact q
theorem EH:eT X (Lz .NotIn) (ud X.K true):=by
 intro pins s σ H x y v u Q I U ry h;obtain⟨p,xs,rfl,hq,fx,fs,q⟩:=h;cases ry;rcases hq with hq|hq
 ·obtain⟨J,r,pl,hz⟩:=I.list hq;refine SeqAt.notIn_listAt (il x) pl.isList (λw hw=>pX U fx r fs w (by simpa using hw)) ⟨.bl _,H,I,rfl,?_⟩;rw[show J.toArray.any (il x)=J.any (il x) by simp,pO r fs];exact q
 ·obtain⟨J,r,pl,hz⟩:=I.tuple hq;refine SeqAt.notIn_tupleAt (il x) pl (λw hw=>pX U fx r fs w (by simpa using hw)) ⟨.bl _,H,I,rfl,?_⟩;rw[show J.toArray.any (il x)=J.any (il x) by simp,pO r fs];exact q
theorem EG:eT X (Lz .NotIn) (λx y H Q=>∃ i j,x= .str i/\y= .str j/\Q (.bl (!(!(K7 j i 0 j.length 1).isEmpty))) H):=by
 intro pins s σ H x y v u Q I J U h;obtain⟨i,j,rfl,rfl,q⟩:=h;obtain⟨t,rfl⟩:=J;obtain⟨t',rfl⟩:=U;exact notIn_str ⟨.bl _,H,I,rfl,q⟩
theorem iQ:iO X (.builtin "len") (λxs H Q=>∃ p ys,xs=[.ref p]/\(ck X.K H p ys\/cu X.K H p ys)/\Q (.int ys.length) H):=by
 intro pins s σ H xs us Q I r h;obtain⟨p,ys,rfl,hq,q⟩:=h;obtain⟨u,rfl,rx⟩:=vals1 r;cases rx;have hn:=o9;rcases hq with hq|hq
 ·obtain⟨J,U,pl,hz⟩:=I.list hq;have hlen:=U.length;exact Calls.call_len_list pl.isList (by simp only[Kk]<;>lia) ⟨.int ys.length,H,I.tok _,⟨s.toks+1,by rw[Kk,hlen]⟩,q⟩
 ·obtain⟨J,U,pl,hz⟩:=I.tuple hq;have hlen:=U.length;exact len_tuple pl (by simp only[Kk]<;>lia) ⟨.int ys.length,H,I.tok _,⟨s.toks+1,by rw[Kk,hlen]⟩,q⟩
theorem ia:iO X (.builtin "len") (λxs H Q=>∃ z,xs=[.str z]/\z.length<=sizeLine/\Q (.int z.length) H):=by
 intro pins s σ H xs us Q I r h;obtain⟨z,rfl,J,q⟩:=h;obtain⟨u,rfl,t,rfl⟩:=vals1 r;have hn:=o9;exact len_str (by lia) ⟨.int z.length,H,I.tok _,⟨_,rfl⟩,q⟩
theorem sH:iO X (.type "tuple") (λxs H Q=>∃ p ys,xs=[.ref p]/\((ck X.K H p ys/\∀ l,H l=none->Q (.ref l) (upd H l (.tup ys)))\/(cu X.K H p ys/\Q (.ref p) H))):=by
 intro pins s σ H xs us Q I r h;obtain⟨p,ys,rfl,h⟩:=h;obtain⟨u,rfl,rx⟩:=vals1 r;cases rx;rcases h with ⟨U,q⟩|⟨U,q⟩
 ·obtain⟨J,r',pl,hz⟩:=I.list U;have hlen:=r'.length;refine call_tuple_list pl.isList (λh' kp=>?_) (by simp only[Kk]<;>lia);have I1:Inv X pins σ H {s with heap:=h'}:=I.kept (t':=s.toks) kp;have I2:Inv X pins σ (upd H h'.objs.size (.tup ys)) {s with heap:=h'.push {cls:= .type "tuple",data:= .seq J.toArray}}:=
   I1.laid (t':=s.toks) (λb o e=>Heap.get?_push_of_some _ e) (JY _) (show e6 X.prog X.w _ _ _ (.tup ys) from⟨hz,J,r',IsTup.new _ _⟩);exact⟨.ref h'.objs.size,_,I2,rfl,q _ (I1.hok.fresh (JY _))⟩
 ·obtain⟨J,r',pl,hz⟩:=I.tuple U;exact call_tuple_same pl ⟨.ref p,H,I,rfl,q⟩
noncomputable def tY(K:Kl)(T:Mx)(x:V)(H:Hp):Prop:=match x with
 |.str _=>T="str"
 |.int _=>T="int"
 |.ref p=>(T="list"/\∃ xs,ck K H p xs)\/(T="tuple"/\∃ o,K.lookup p=some o/\o.cls= .type "tuple"/\o.dict=none)\/
   (T="dict"/\((∃ kvs,H p=some (.dK kvs))\/∃ kvs,H p=some (.dT kvs)))\/(T="set"/\∃ S n,H p=some (.set S n))
 |_=>LG
theorem Bc{pins:JP (JR×Obj)}{σ:St}{H:Hp}{s:JZ}{T:Mx}{x:V}{v:JT}(I:Inv X pins σ H s)(r:RelV x v)(ty:tY X.K T x H):
  s.TypeIs v T/\∀ a,v= .ref a->∃ ob,s.heap.get? a=some ob/\ob.dict=none:=by
 cases x with
 |str z=>
  obtain⟨t,rfl⟩:=r;cases (show T="str" from ty);exact⟨Nf s z t,λ_ e=>nomatch e⟩
 |int i=>
  obtain⟨t,rfl⟩:=r;cases (show T="int" from ty);exact⟨typeIs_int s i t,λ_ e=>nomatch e⟩
 |ref p=>
  cases r;rcases ty with ⟨rfl,xs,U⟩|⟨rfl,o,hk,hc,hd⟩|⟨rfl,hk⟩|⟨rfl,S,n,hk⟩
  ·obtain⟨aa,_,pl,_⟩:=I.list U;refine⟨pl.isList.typeIs,λa e=>?_⟩;cases e;obtain⟨o,n,e,c,hd,_⟩:=pl;exact⟨o,e,hd⟩
  ·refine⟨⟨o,I.kIn p o hk,hc⟩,λa e=>?_⟩;cases e;exact⟨o,I.kIn _ o hk,hd⟩
  ·have z:∃ o,s.heap.get? p=some o/\o.ExactDict:=by
    rcases hk with ⟨kvs,hk⟩|⟨kvs,hk⟩
    ·obtain⟨_,_,_,_,o,_,_,e,ex,_⟩:=I.hok p _ hk;exact⟨o,e,ex⟩
    ·obtain⟨_,_,_,_,o,_,_,e,ex,_⟩:=I.hok p _ hk;exact⟨o,e,ex⟩
   obtain⟨o,e,ex⟩:=z;refine⟨⟨o,e,ex.1⟩,λa J=>?_⟩;cases J;exact⟨o,e,ex.2.1⟩
  ·obtain⟨o,_,_,_,e,ex,_⟩:=I.hok p _ hk;refine⟨⟨o,e,ex.1⟩,λa J=>?_⟩;cases J;exact⟨o,e,ex.2.1⟩
 |_=>exact La ty
noncomputable def z5(K:Kl)(T:Mx)(r:V->JP V->Hp->VK->Prop)(to:TE):TE:=λσ H Q=>to σ H λx H1=>tY K T x H1/\r x [] H1 Q
noncomputable def HP(K:Kl)(T:Mx)(r:V->JP V->Hp->VK->Prop)(to:TE)(t:TA):TE:=λσ H Q=>to σ H λx H1=>tY K T x H1/\t σ H1 λxs H2=>r x xs H2 Q
variable {o e : KI} {es : JP KI} {to : TE} {t : TA} {name : Str} {apos cpos : Pos} {T id : Mx} {r : V -> JP V -> Hp -> VK -> Prop}
theorem iR(pa:PlainAttrs T)(slot:Slot T name id)(hty:typeOf (.builtin id)=pure (.type "method_descriptor"))(hm:jC X id r)(ho:PE X o to)
  (hbase:MI o name X.env (eval o X.env)=eval o X.env:=by rfl)(hline:(apos.endLine==cpos.line)=true:=by rfl):PE X (.Call (.Attribute o name apos) [] [] cpos) (z5 X.K T r to):=by
 intro pins s σ H Q I h;refine wpAny_Call_method0_late hbase hline (cv (ho pins s σ H _ I h) λv s1 ⟨x,H1,J,r1,ty,U⟩=>?_);obtain⟨h1,h2⟩:=Bc J r1 ty;exact⟨T,id,pa,slot,hty,h1,h2,MA rfl (PySem.evalArgs_none (hm pins s1 σ H1 x [] v [] Q J r1 .nil U))⟩
theorem f7(pa:PlainAttrs T)(slot:Slot T name id)(hty:typeOf (.builtin id)=pure (.type "method_descriptor"))(hm:jC X id r)(ho:PE X o to)(ha:PA X (e::es) t)
  (hbase:MI o name X.env (eval o X.env)=eval o X.env:=by rfl)
  (hfew:((Mh cpos (KA (e::es) X.env)).all (λx=> !x.1)&&(O6 cpos (Ob [] X.env)).all (λx=>x.1.isSome)
   && decide ((e::es).length+([]:JP Keyword).length+(if ([]:JP Keyword).isEmpty then 0 else 1)<30))=true:=by rfl)
  (hline:(apos.endLine==cpos.line)=true:=by rfl)(hs:KA (e::es) X.env=(false,eval e X.env)::KA es X.env:=by rfl)(hplain:(Mh cpos (KA es X.env)).any (·.1)=false:=by rfl):
  PE X (.Call (.Attribute o name apos) (e::es) [] cpos) (HP X.K T r to t):=by
 intro pins s σ H Q I h;refine wpAny_Call_method_late hbase hfew hline rfl (cv (ho pins s σ H _ I h) λv s1 ⟨x,H1,J,r1,ty,q1⟩=>?_);obtain⟨h1,h2⟩:=Bc J r1 ty;refine⟨T,id,pa,slot,hty,h1,h2,?_⟩;have U:=ha cpos pins s1 σ H1 _ J q1;rw[hs] at U ⊢;refine MA (by show(false||(Mh cpos (KA es X.env)).any (·.1))=false;rw[hplain]<;>rfl) (MX ?_);exact cv U λus s2 ⟨vs,H2,I2,r2,q2⟩=>hm pins s2 σ H2 x vs v us Q I2 r1 r2 q2
end
noncomputable def ub(X:Cx)(id:Mx)(r:V->JP V->Hp->VK->Prop):Prop:=
 ∀(pins:JP (JR×Obj)) (s:JZ) (σ:St) (H:Hp) (x:V) (xs:JP V) (v:JT) (us:JP JT) (Q:VK),Inv X pins σ H s->RelV x v->Vals xs us->r x xs H Q->
  Kq (Ko X.prog X.w) X.A (call (.builtin id) (v::us)) (EP X pins σ Q) X.xe s
theorem Vals.one:∀{x:V} {us:JP JT},Vals [x] us->∃ u,us=[u]/\RelV x u
 |_,_,.cons r .nil=>⟨_,rfl,r⟩
theorem Vals.two:∀{x y:V} {us:JP JT},Vals [x,y] us->∃ u v,us=[u,v]/\RelV x u/\RelV y v
 |_,_,_,.cons r (.cons q .nil)=>⟨_,_,rfl,r,q⟩
theorem Vals.zero:∀{us:JP JT},Vals [] us->us=[]
 |_,.nil=>rfl
theorem Vals.dropLast {xs:JP V}{us:JP JT}(h:Vals xs us):Vals xs.dropLast us.dropLast:=by
 induction h with
 |nil=>exact .nil
 |cons r t J=>
  cases t with
  |nil=>exact .nil
  |cons q t'=>exact .cons r J
theorem JM{α:Type}(l:JP α):l.eraseIdx (l.length-1)=l.dropLast:=by
 induction l with
 |nil=>rfl
 |cons a r J=>
  cases r with
  |nil=>rfl
  |cons b r=>
   have e:(a::b::r).length-1=((b::r).length-1)+1:=by
    have h1:(a::b::r).length=r.length+2:=rfl
    have h2:(b::r).length=r.length+1:=rfl
    lia
   rw[e,List.eraseIdx_cons_succ,J]
   all_goals rfl
section
variable {X : Cx} {pins : JP (JR × Obj)} {σ : St} {H : Hp} {s : JZ} {l b : JR} {xs ys zs : JP V}
theorem Inv.lset {its its':JP JT}{n:Nat}{f:MM JT->MM JT}{t':Nat}(I:Inv X pins σ H s)(hH:H l=some (.lst xs))
  (e:s.heap.get? l=some {cls:= .type "list",data:= .seq its.toArray n})(hf:f its.toArray=its'.toArray)(hv:Vals ys its')(hz:ys.length<=sizeLine):
  Inv X pins σ (upd H l (.lst ys)) {s with heap:=s.heap.update l (Nw f),toks:=t'}:=by
 have q:=Ot e f;rw[hf] at q;refine I.write (x:=l) (e:=l) (by rw[hH];exact trivial) (.inl rfl) (λb' u hb J=>(Heap.get?_update_other s.heap (Nw f) (K5 hb)).trans J) ⟨_,q⟩ ?_;exact⟨hz,its',_,hv,q⟩
theorem Inv.lstM (I:Inv X pins σ H s)(hH:H l=some (.lst xs)):xs.length<=sizeLine/\∃(its:JP JT) (n:Nat),Vals xs its/\xs.length=its.length/\s.heap.get? l=some {cls:= .type "list",data:= .seq its.toArray n}:=by
 obtain⟨z,its,n,r,e⟩:=I.hok l _ hH;exact⟨z,its,n,r,r.length,e⟩
theorem BS{n:Nat}(h:n<=sizeLine):Na n=false:=by
 unfold Na;exact JQ (by lia)
end
section
variable {X : Cx}
noncomputable def Ez:V->JP V->Hp->VK->Prop:=λx vs H Q=>∃ l xs y,x= .ref l/\vs=[y]/\H l=some (.lst xs)/\xs.length<sizeLine/\Q .non (upd H l (.lst (xs++[y])))
theorem iM:ub X "list.append" Ez:=by
 intro pins s σ H x vs v us Q I rx rv h;obtain⟨l,xs,y,rfl,rfl,U,hz,q⟩:=h;cases rx;obtain⟨u,rfl,ru⟩:=rv.one;obtain⟨z,J,n,r,hl,e⟩:=I.lstM U;refine MY KO ⟨_,e,rfl⟩ NP (ND _ _) (Oc l J.toArray n u (by rw[Kk];lia)) ⟨e,?_⟩;refine⟨.non,_,I.lset (its':=J++[u]) U e (by simp) (r.append (.cons ru .nil)) ?_,rfl,q⟩;rw[JU,List.length_singleton]
 lia
noncomputable def D5:V->JP V->Hp->VK->Prop:=λx vs H Q=>∃ l b xs zs,x= .ref l/\vs=[.ref b]/\H l=some (.lst xs)/\H b=some (.lst zs)/\xs.length+zs.length<=sizeLine/\Q .non (upd H l (.lst (xs++zs)))
theorem ID:ub X "list.extend" D5:=by
 intro pins s σ H x vs v us Q I rx rv h;obtain⟨l,b,xs,zs,rfl,rfl,hH,hB,hz,q⟩:=h;cases rx;obtain⟨u,rfl,ru⟩:=rv.one;cases ru;obtain⟨z,U,n,r,hl,e⟩:=I.lstM hH;obtain⟨z2,J,n2,r2,ae,e2⟩:=I.lstM hB;have ab:U.toArray.size+J.toArray.size<=sizeLine:=by rw[Kk,Kk];lia
 have aa:¬ (!U.toArray.isEmpty&&Na (U.toArray.size+J.toArray.size))=true:=by
  rw[BS ab,MZ];exact J3
 refine MY F.slot_list_extend ⟨_,e,rfl⟩ F.entry_list_extend (F.args_list_extend_2 _ _)
  (AutoSeq1.list_extend_list_list_0 l U.toArray n b J.toArray n2 aa (by rw[Kk];lia) (by lia)) ⟨e,e2,?_⟩;refine⟨.non,_,I.lset (its':=U++J) hH e (by simp) (r.append r2) ?_,rfl,q⟩;rw[JU]
 lia
noncomputable def BQ:V->JP V->Hp->VK->Prop:=λx vs H Q=>∃ l xs y,x= .ref l/\vs=[]/\H l=some (.lst xs)/\xs[xs.length-1]? =some y/\Q y (upd H l (.lst xs.dropLast))
theorem j8:ub X "list.pop" BQ:=by
 intro pins s σ H x vs v us Q I rx rv h;obtain⟨l,xs,y,rfl,rfl,hH,hy,q⟩:=h;cases rx;have U:=rv.zero;subst U;obtain⟨z,J,n,r,hl,e⟩:=I.lstM hH;obtain⟨u,hu,ru⟩:=r.get hy;have aa:J.toArray[J.toArray.size-1]? =some u:=by
  show J.toArray[J.length-1]? =some u;rw[<-Array.getElem?_toList,<-hl];exact hu
 refine MY LP ⟨_,e,rfl⟩ F.entry_list_pop (F.args_list_pop_1 _) (MeetsSeq.list_pop_last l J.toArray n u aa (by rw[Kk];lia)) ⟨e,?_⟩;refine⟨y,_,I.lset (its':=J.dropLast) hH e ?_ r.dropLast ?_,ru,q⟩
 ·show J.toArray.eraseIdxIfInBounds (J.toArray.size-1)=J.dropLast.toArray;rw[Kk,List.eraseIdxIfInBounds_toArray,JM]
 ·rw[List.length_dropLast]
  lia
end
section
variable {prog : Ka} {w : Ku} {A : K4} {E : JT -> JZ -> Prop} {s : JZ}
end
section
variable {X : Cx}
end
end L2
namespace Att
open PySem PySem.W PySem.Calls PyProof.Rows
theorem Cm{P:Params}{h:KP}:∀(ns:JP Int) (vs:JP JT),WellAll P h vs (ns.map Ou)->IntsAre vs ns:=by
 intro ns;induction ns with
 |nil=>
  intro vs w;rw[OC] at w;cases w;exact .nil
 |cons n ns J=>
  intro vs w;rw[KU] at w;cases w with
  |cons a b=>
   cases a;exact .cons _ _ (J _ b)
theorem IQ{l:OpenLaw}{n:Nat}(hn:l.most=some n){P:Params}{h:KP}{args:JP WData}{vals:JP JT}
  (hpre:l.row.toRowW.claim.pre args=true)(hwl:WellAll P h vals args):
  ∃ a vs ns,vals=[Ky a]/\args=[WData.list (ns.map Ou)]/\h.get? a=some {cls:= .type "list",data:= .seq vs.toArray}/\IntsAre vs ns/\ns.length<=n:=by
 have aa:WShape.hasAll [] args [.list .int]=true:=(pre_splitW hpre).1
 have hc:l.pre.holds [] {args:=args}=true:=(pre_splitW hpre).2;obtain⟨d,r,rfl,h1,h2⟩:=hasAllW_cons aa;obtain rfl:=hasAllW_nil h2;obtain⟨xs,rfl,h3⟩:=hasW_list h1;obtain⟨ns,rfl⟩:=items_int h3;have hlen:ns.length<=n:=by
  unfold OpenLaw.pre at hc;have U:(WTm.not (.lt (.lit (.int (n:Int))) (.len (.arg 0)))).holds [] {args:=[.list (ns.map .int)]}=true:=by
   have U:=(holds_andW hc).1;rw[hn] at U;exact U
  have I:=condW_of U (w_not (w_lt w_lit (w_len_list (w_arg rfl))));rw[JX] at I;refine Nat.le_of_not_lt λq=>?_
  have q':(n:Int)<((ns.length:Nat):Int):=by lia
  first
   |(rw[JS q'] at I;exact absurd I (by decide))
   |(simp at I;lia)
 cases hwl with
 |cons w1 w2=>
  cases w2;cases w1 with
  |list ho J=>exact⟨_,_,ns,rfl,rfl,ho,Cm ns _ J,hlen⟩
theorem GU(l:OpenLaw)(args:JP WData):l.row.toRowW.claim.post args (.bool true) args=true:=
 postW_of (r:=l.row.toRowW) (X:=(true==true))
  (show WShape.has [] (.bool true) .bool=true by first|rfl|decide|simp[WShape.has,WShape.arms,WShape.armsAll])
  (show(WTm.eq .res (.lit (.bool true))).value [] {args:=args,res:=some (.bool true),after:=args}=some (.bool (true==true)) from w_eq_bool (w_res rfl) w_lit) rfl
section
variable {prog : Ka} {w : Ku} {A : K4} {E : JT -> JZ -> Prop} {s : JZ} {K : Frag}
end
end Att
namespace L2
open PySem PySem.Spec PyProof.Rows
theorem y8:∀{vs:JP JT} {ns:JP Int},IntsAre vs ns->Vals (ns.map V.int) vs
 |_,_,.nil=> .nil
 |_,_,.cons n t h=> .cons ⟨t,rfl⟩ (y8 h)
noncomputable def zU(H:Hp):Prop:=∀ b,H b=none\/∃ o xs,H b=some (.frz o (.lst xs))
theorem FD{P:Ka}{w:Ku}{K:Kl}{mg mb:Str->JW JT}{CX:gv}{k:Nat}{fa a:JR}{fd:J2}{x:Str}{sp:Sp}{s₁:JZ}{vs:JP JT}{ns:JP Int}
  (KX:K.In s₁.heap)(hns:s₁.heap.Ns Kc mg)(hb:s₁.heap.Ns builtinsNs mb)(hbb:∀ x:Str,x≠"__name__"->mb x=Lp x)(hlim:s₁.heap.NoLimit)(hg:s₁.gens=#[])
  (ha:s₁.heap.get? a=some {cls:= .type "list",data:= .seq vs.toArray})(hi:IntsAre vs ns)(hl:ns.length<=sizeLine)(hr:eF k O2)
  (F:∀ base:KP,K.In base->base.Ns Kc mg->bX P w K mg base CX k fa fd [x] sp)(hbind:∀(s:JZ) (u:JT),O1 s fd ⟨[u],[]⟩ [(x,u)])
  (hsp:∀ H:Hp,zU H->ck K H a (ns.map V.int)->sp [.ref a] H (λv _=>v= .bl true) λ_ _ _=>LG)
  (hCX:∀ H e s',CX [] H s₁ (λ_ _ _=>LG) e s'->LG):
  Nz (Ko P w) O2 (.call (.ref fa) ⟨[.ref a],[]⟩) (λr s'=>r= .ok (.ret (.bool true))/\OldK s₁.heap s'.heap/\s'.os=s₁.os/\NQ s'.gens) s₁:=by
 have rv:=y8 hi
 have I:=hi.length
 have core:∀ H:Hp,zU H->ck K H a (ns.map V.int)->eJ P w H s₁.heap->(∀ b,H b≠none->b=a)->(H a≠none->K.lookup a=none)->
   Nz (Ko P w) O2 (.call (.ref fa) ⟨[.ref a],[]⟩) (λr s'=>r= .ok (.ret (.bool true))/\OldK s₁.heap s'.heap/\s'.os=s₁.os/\NQ s'.gens) s₁:=by
  intro H hO hS hok hA hK;have J:∀{b:JR} {o:Obj},s₁.heap.get? b=some o->H b=none->(ki s₁.heap H).get? b=some o:=λe n=>IT e n
  have ae:∀{b:JR} {o:Obj} {es:MM DictEntry} {ep:Nat},s₁.heap.get? b=some o->o.data= .dict es ep->H b=none:=λ{b o es ep} e d=>by
   cases q:H b with
   |none=>rfl
   |some u=>
    have e':b=a:=hA b (by rw[q];simp);subst e';rw[ha] at e;cases e;have d':Data.seq vs.toArray _=Data.dict es ep:=d;cases d'
  have U:∀{b:JR} {m:Str->JW JT},s₁.heap.Ns b m->(ki s₁.heap H).Ns b m:=λ{b m} ⟨o,es,ep,e,d,r⟩=>⟨o,es,ep,J e (ae e d),d,r⟩
  have aa:K.In (ki s₁.heap H):=λb o e=>J (KX b o e) (by
   cases q:H b with
   |none=>rfl
   |some u=>
    have e':b=a:=hA b (by rw[q];simp);subst e';rw[hK (by rw[q];simp)] at e;cases e)
  have hM:Mod K mg (ki s₁.heap H):=⟨aa,U hns,⟨mb,U hb,hbb⟩,let ⟨mc,h1,h2⟩:=hlim;⟨mc,U h1,h2⟩⟩
  have e0:k4 P w K mg (ki s₁.heap H) O2 [] s₁ H:=⟨rfl,hM,λb o e=>C5 e,Nat.le_of_eq (E4 _ _),trivial,λb hb=>absurd (show b∈([]:JP JR) from hb) (by simp),hok,.of_eq hg⟩;refine Nj ((F _ aa (U hns)).run O2 [] s₁ H ⟨[.ref a],[]⟩ [.ref a] [.ref a] _ _ hr e0 (hbind s₁ (.ref a)) (.cons rfl .nil) (hsp H hO hS)) λr s' h=>?_
  cases r with
  |error e=>exact(hCX H e s' h).elim
  |ok fl=>
   cases fl with
   |next=>exact La h
   |brk=>exact La h
   |cont=>exact La h
   |ret u=>
    obtain⟨v,H',os,bare,un,ab,r',q⟩:=h;have q':v= .bl true:=q;subst q';obtain rfl:u=Oy true:=r';refine⟨rfl,OldK.of_keep λb o e=>?_,os,bare⟩;cases q:H b with
    |none=>exact un.keep b o e q (by intro z;exact absurd (show b∈([]:JP JR) from z) (by simp)) (by simp)
    |some u=>
     rcases hO b with z|⟨ob,xs,z⟩
     ·rw[q] at z;cases z
     ·have z2:=un.frzs b ob _ z;obtain⟨e1,_⟩:=hok b _ z;obtain⟨e2,_⟩:=ab b _ z2;rw[e] at e1;cases e1;exact e2
 cases hk:K.lookup a with
 |some o=>
  have e:=KX a o hk;rw[ha] at e;cases e;refine core (λ_=>none) (λ_=> .inl rfl) (.inr ⟨_,vs.toArray,_,hk,rfl,rfl,rfl,by rw[Kk,I];exact hl,by simpa using rv⟩) (λb u z=>by have z':(none:JW HO)=some u:=z;cases z') (λb z=>absurd rfl z) λz=>absurd rfl z
 |none=>
  refine core (λb=>if b=a then some (.frz {cls:= .type "list",data:= .seq vs.toArray} (.lst (ns.map V.int))) else none) (λb=>?_) (.inl (.inr ⟨{cls:= .type "list",data:= .seq vs.toArray},J1 rfl⟩)) (λb u z=>?_) (λb z=>?_) λ_=>hk
  ·by_cases hb:b=a
   ·exact .inr ⟨_,_,J1 hb⟩
   ·exact .inl (if_neg hb)
  ·by_cases hb:b=a
   ·have z':=(J1 hb).symm.trans z;cases z';subst hb;exact⟨ha,by rw[JX];exact hl,vs,_,rv,ha⟩
   ·have z':=(if_neg hb).symm.trans z;cases z'
  ·by_cases hb:b=a
   ·exact hb
   ·exact absurd (if_neg hb) z
noncomputable abbrev cI{K:Kl}{h:KP}(_:K.In h):Kl:=K
noncomputable def inClass(s:K0)(j:Nat):K0:=match s with
 |.ClassDef _ _ _ body _ _ _ _ _ _ _=>body.getD j (.Pass ⟨0,0,0,0⟩)
 |_=> .Pass ⟨0,0,0,0⟩
noncomputable def ji(s:K0):Arguments:=match s with
 |.FunctionDef _ a _ _ _ _ _ _ _ _=>a
 |_=>{posonlyargs:=[],args:=[],vararg:=none,kwonlyargs:=[],kw_defaults:=[],kwarg:=none,defaults:=[]}
noncomputable def iC(s:K0):JP K0:=match s with
 |.FunctionDef _ _ b _ _ _ _ _ _ _=>b
 |_=>[]
noncomputable def cG(s:K0):MS:=match s with
 |.FunctionDef _ _ _ _ _ _ sc _ _ _=>sc
 |_=>{kind:= .function,names:=[],isGenerator:=false,isCoroutine:=false}
noncomputable abbrev b7:gv:=λ_ _ _ _ _ _=>LG
noncomputable abbrev E0:XK:=λ_ _ _=>LG
theorem cz{X:Cx}:Passes b7 X E0:=λ_ _ _ _ _ _ _ h=>h.elim
structure ej (K : Kl) (x qual : Str) (st : K0) (f : JR) (fd : J2) : Prop where
 ex : ∃ (oc : JT) (od : JW JR) (kV doc pm : JT) (an : JW JR) (cdv ct : JT) (osl : MM (JW JT)),
  fd = Nk x qual (ji st) (iC st) (cG st) .none kV doc pm an cdv ct /\ K.lookup f = some ⟨oc, od, .func fd, osl⟩ /\ N1 K cdv qual = true
 kp : ME K (.ref f) = true
section
variable {P : Ka} {w : Ku} {K : J7} {mg : Str -> JW JT} {base : KP}
theorem ej.ok {x qual:Str}{st:K0}{f:JR}{fd:J2}{N ps:JP Str}{k:Nat}{sp:Sp}(F:ej K x qual st f fd)(S:da N ps (cG st))(len:∀ vs H Q E,sp vs H Q E->vs.length=ps.length)
  (hbody:∀(cdv:JT) (A:K4) (outer:JP Env) (s:JZ) (H:Hp) (vs:JP V) (Q:VK) (E:XK),eF k (A.deeper (Mz qual (cG st) s.heap.objs.size f cdv))->sp vs H Q E->
   ∃ t,cH (eM b7 P w K mg base N qual (cG st) f cdv A outer s H E).nox (iC st) t/\t {nx:=λ_ H'=>Q .non H',rt:=Q} (start N vs) H):bX P w K mg base b7 (k+1) f fd ps sp:=by
 obtain⟨oc,od,kV,doc,pm,an,cdv,ct,I,rfl,lk,J⟩:=F.ex;refine yS lk J S len λA outer s H vs Q E hr U=>?_
 obtain⟨t,h,q⟩:=hbody cdv A outer s H vs Q E hr U;exact⟨t,h.nox,q⟩
theorem ej.binds {x qual:Str}{st:K0}{f:JR}{fd:J2}{ps:JP Str}(F:ej K x qual st f fd)
  (h:∀(kV doc pm:JT) (an:JW JR) (cdv ct:JT) (us:JP JT),us.length=ps.length->bindArgs (Nk x qual (ji st) (iC st) (cG st) .none kV doc pm an cdv ct) ⟨us,[]⟩=pure (ps.zip us)):Binds K fd ps []:=by
 obtain⟨I,od,kV,doc,pm,an,cdv,ct,J,rfl,lk,U⟩:=F.ex;exact .all (h kV doc pm an cdv ct)
theorem xi{x qual:Str}{st:K0}{f:JR}{oc:JT}{od an:JW JR}{osl:MM (JW JT)}{kV doc pm cdv ct:JT}(l:K.lookup f=some ⟨oc,od,.func (Nk x qual (ji st) (iC st) (cG st) .none kV doc pm an cdv ct),osl⟩)
  (c:N1 K cdv qual=true)(k:ME K (.ref f)=true):ej K x qual st f (Nk x qual (ji st) (iC st) (cG st) .none kV doc pm an cdv ct):=⟨⟨oc,od,kV,doc,pm,an,cdv,ct,osl,rfl,l,c⟩,k⟩
end
section
variable {X : Cx}
theorem pv(i:Nat){x:Str}{pos:Pos}(hN:X.N[i]? =some x:=by rfl)(hv:tJ X.env.scope x:=by first|exact Kh rfl|exact Pb (Kh rfl)|exact Pb (Pb rfl))(hd:(x==("__debug__":Str))=false:=by decide)
  (hcd:(x==("__classdict__":Str))=false:=by decide):PE X (.Name x pos) (zN i):=JB hN hv hd hcd
end
theorem cj{A B:Prop}(h:B):if false=true then A else B:=by
 rw[if_neg J3];exact h
theorem cg{A B:Prop}(h:A):if true=true then A else B:=by
 rw[J1 rfl];exact h
theorem jd{c A B:Prop} [Decidable c] (h1:c->A)(h2:¬ c->B):if c then A else B:=by
 by_cases h:c
 ·rw[J1 h];exact h1 h
 ·rw[if_neg h];exact h2 h
noncomputable def bY(H H':Hp):Prop:=∀ b o,H b=some o->H' b=some o
theorem bY.refl (H:Hp):bY H H:=λ_ _ h=>h
theorem bY.trans {H H1 H2:Hp}(a:bY H H1)(b:bY H1 H2):bY H H2:=λc o h=>b c o (a c o h)
theorem bY.free {H H':Hp}(e:bY H H'){l:JR}(h:H' l=Option.none):H l=Option.none:=by
 cases q:H l with
 |none=>rfl
 |some o=>
  rw[e l o q] at h;cases h
theorem bY.seq {K:Kl}{H H':Hp}{a:JR}{xs:JP V}(e:bY H H')(h:ck K H a xs):ck K H' a xs:=by
 rcases h with (h|⟨o,h⟩)|h
 ·exact .inl (.inl (e _ _ h))
 ·exact .inl (.inr ⟨o,e _ _ h⟩)
 ·exact .inr h
end L2
set_option maxHeartbeats 4000000
namespace L2
open PySem PySem.Spec PyProof.Rows
section
variable {X : Cx}
theorem v9:jC X "str.lower" (λx xs H Q=>∃ z,x= .str z/\xs=[]/\z.length<=5592405/\Q (.str (Txt.lower z)) H):=by
 intro pins s σ H x xs v us Q I J rs h;obtain⟨z,rfl,rfl,U,q⟩:=h;obtain⟨t,rfl⟩:=J;cases rs;exact SCL.lower U λ_=>⟨.str _,H,I.tok _,⟨_,rfl⟩,q⟩
theorem qZ:∀{ys:JP Str} {us:JP JT},Vals (ys.map V.str) us->StrsAre us ys
 |[],_,.nil=> .nil
 |y::ys,_,.cons r t=>by
  obtain⟨k,e⟩:=(show ∃ k,_=NU y k from r);subst e;exact .cons y k (qZ t)
theorem AD:jC X "str.join" (λx xs H Q=>∃ z p ys,x= .str z/\xs=[.ref p]/\ck X.K H p (ys.map V.str)/\(ys.map (·.length)).sum+ys.length*z.length<=16777216/\Q (.str (Txt.join z ys)) H):=by
 intro pins s σ H x xs v us Q I J rs h;obtain⟨z,p,ys,rfl,rfl,U,hz,q⟩:=h;obtain⟨t,rfl⟩:=J;obtain⟨u,rfl,r1⟩:=vals1 rs;cases r1;obtain⟨aa,r,pl,_⟩:=I.list U;exact join_list pl.isList (by simpa using qZ r) hz λt' k=>⟨.str _,H,I.tok _,⟨_,rfl⟩,q⟩
noncomputable def Fy:V->JW Int->JW Int->Hp->VK->Prop:=λx lo hi H Q=>∃ z,x= .str z/\z.length<=sizeLine/\Q (.str (Txt.slice z lo hi)) H
theorem gM:Ab X Fy:=by
 intro pins s σ H x v vl vu lo hi sl Q I rx J pl pu h;obtain⟨z,rfl,U,q⟩:=h;obtain⟨t,rfl⟩:=rx;refine⟨"str",_,F.slot_str_getitem.lookup,Nf _ _ _,?_⟩;cases pl with
 |none=>
  cases pu with
  |none=>exact Mp (l:=none) (u:=none) (st:=none) J rfl (NJ ⟨Kj (Txt.slice_le z _ _) U,λt' k=>⟨.str (Txt.slice z none none),H,I.tok _,⟨_,rfl⟩,q⟩⟩)
  |int j tj=>exact Mp (l:=none) (u:=some (j,tj)) (st:=none) J rfl (NJ ⟨Kj (Txt.slice_le z _ _) U,λt' k=>⟨.str (Txt.slice z none (some j)),H,I.tok _,⟨_,rfl⟩,q⟩⟩)
 |int i ti=>
  cases pu with
  |none=>exact Mp (l:=some (i,ti)) (u:=none) (st:=none) J rfl (NJ ⟨Kj (Txt.slice_le z _ _) U,λt' k=>⟨.str (Txt.slice z (some i) none),H,I.tok _,⟨_,rfl⟩,q⟩⟩)
  |int j tj=>exact Mp (l:=some (i,ti)) (u:=some (j,tj)) (st:=none) J rfl (NJ ⟨Kj (Txt.slice_le z _ _) U,λt' k=>⟨.str (Txt.slice z (some i) (some j)),H,I.tok _,⟨_,rfl⟩,q⟩⟩)
theorem y6:eT X (Lz .LtE) (λx y H Q=>∃ i j,x= .str i/\y= .str j/\Q (.bl (!(decide (j.cps.toList<i.cps.toList)))) H):=by
 intro pins s σ H x y v u Q I J U h;obtain⟨i,j,rfl,rfl,q⟩:=h;obtain⟨t,rfl⟩:=J;obtain⟨t',rfl⟩:=U;exact PySem.P.le_str ⟨.bl _,H,I,rfl,q⟩
mutual
inductive ib (K : J7) (H : Hp) : V -> Kf -> Prop
 |non : ib K H .non .none
 |bl (b : KS) : ib K H (.bl b) (.bool b)
 |int (i : Int) : ib K H (.int i) (.int i)
 |str (x : Str) : ib K H (.str x) (.str x)
 |lst {a : JR} {xs : JP V} {ds : JP Kf} : ck K H a xs -> iY K H xs ds -> ib K H (.ref a) (.list ds)
 |tup {a : JR} {xs : JP V} {ds : JP Kf} : cu K H a xs -> iY K H xs ds -> ib K H (.ref a) (.tuple ds)
inductive iY (K : J7) (H : Hp) : JP V -> JP Kf -> Prop
 |nil : iY K H [] []
 |cons {x : V} {xs : JP V} {d : Kf} {ds : JP Kf} : ib K H x d -> iY K H xs ds -> iY K H (x :: xs) (d :: ds)
end
mutual
theorem ib.reads {pins : JP (JR × Obj)} {σ : St} {H : Hp} {s : JZ} (I : Inv X pins σ H s) : ∀ {x : V} {d : Kf} {u : JT}, ib X.K H x d -> RelV x u -> ∃ as, Reads s.heap u d as
 | _, _, _, .non, r => by cases r; exact ⟨_, .none⟩
 | _, _, _, .bl b, r => by cases r; exact ⟨_, .bool b⟩
 | _, _, _, .int i, r => by obtain ⟨t, rfl⟩ := r; exact ⟨_, .int i t⟩
 | _, _, _, .str x, r => by obtain ⟨t, rfl⟩ := r; exact ⟨_, .str x t⟩
 | _, _, _, .lst hq hs, r => by
  cases r
  obtain ⟨its, rv, ⟨o, n, e, c, _, d⟩, _⟩ := I.list hq
  obtain ⟨as, ra⟩ := iY.reads I hs rv
  exact ⟨_, .list e c d (by simpa using ra)⟩
 | _, _, _, .tup hq hs, r => by
  cases r
  obtain ⟨its, rv, ⟨o, e, c, n, d⟩, _⟩ := I.tuple hq
  obtain ⟨as, ra⟩ := iY.reads I hs rv
  exact ⟨_, .tuple e c d (by simpa using ra)⟩
theorem iY.reads {pins : JP (JR × Obj)} {σ : St} {H : Hp} {s : JZ} (I : Inv X pins σ H s) : ∀ {xs : JP V} {ds : JP Kf} {us : JP JT}, iY X.K H xs ds -> Vals xs us -> ∃ as, ReadsAll s.heap us ds as
 | _, _, _, .nil, .nil => ⟨_, .nil⟩
 | _, _, _, .cons h hs, .cons r rs => by
  obtain ⟨as, ra⟩ := ib.reads I h r
  obtain ⟨bs, rb⟩ := iY.reads I hs rs
  exact ⟨_, .cons ra rb⟩
end
noncomputable def Ed(X:Cx):R2:=λx y H Q=>∃ dx J,ib X.K H x dx/\ib X.K H y J/\dx.canLay0=true/\J.canLay0=true/\min dx.depth J.depth<=100/\Q (.bl (Nx dx J)) H
noncomputable def B5(X:Cx):R2:=λx y H Q=>∃ dx J,ib X.K H x dx/\ib X.K H y J/\dx.canLay0=true/\J.canLay0=true/\min dx.depth J.depth<=100/\Q (.bl (!PyData.eqv dx J)) H
theorem wm(hu:X.A.units+100<Pc):eT X (Lz .Eq) (Ed X):=by
 intro pins s σ H x y v u Q I rx ry h;obtain⟨dx,dy,hx,hy,J,U,hd,q⟩:=h;obtain⟨as,ra⟩:=hx.reads I rx;obtain⟨bs,rb⟩:=hy.reads I ry;exact SeqAt.compareEq_reads ra rb J U (by(clear U J;lia)) ⟨.bl _,H,I,rfl,q⟩
theorem sO(hu:X.A.units+100<Pc):eT X (Lz .NotEq) (B5 X):=by
 intro pins s σ H x y v u Q I rx ry h;obtain⟨dx,dy,hx,hy,J,U,hd,q⟩:=h;obtain⟨as,ra⟩:=hx.reads I rx;obtain⟨bs,rb⟩:=hy.reads I ry;exact SeqAt.compareNe_reads ra rb J U (by(clear U J;lia)) ⟨.bl _,H,I,rfl,q⟩
theorem yZ:∀{bs:JP KS} {us:JP JT},Vals (bs.map V.bl) us->∀(i:Nat) (v:JT),us[i]? =some v->∃ b,bs[i]? =some b/\v= .bool b
 |[],_,.nil,i,v,h=>by simp at h
 |b::bs,_,.cons r t,0,v,h=>by
  have J:_=Oy b:=r;subst J;simp at h;exact⟨b,by simp,h.symm⟩
 |b::bs,_,.cons r t,i+1,v,h=>by
  obtain⟨c,U,I⟩:=yZ t i v (by simpa using h);exact⟨c,by simpa using U,I⟩
theorem tT(hc:X.calm=true):iO X (.builtin "all") (λxs H Q=>∃(p:JR) (bs:JP KS),xs=[.ref p]/\ck X.K H p (bs.map V.bl)/\Q (.bl (bs.all id)) H):=by
 intro pins s σ H xs us Q I r h;obtain⟨p,bs,rfl,hq,q⟩:=h;obtain⟨u,rfl,rx⟩:=vals1 r;cases rx;obtain⟨J,rv,pl,hz⟩:=I.list hq;have U:=pl.isList;have hlen:=rv.length;rw[JX] at hlen;have aa:p<s.heap.objs.size:=by obtain⟨_,e,_⟩:=U;exact Kb e
 refine call_all_walk (Oa U ?_);refine⟨s.heap.objs.size,[s.heap.objs.size,p],[s.heap.objs.size],J.toArray.size,_,_,λi=>(bs[i]?).getD true,rfl,Walks.list (A:=X.A.in1) (I.ok.hd hc) _ p (Kr aa) J.toArray,
  ⟨⟨_,Heap.get?_push_size _ rfl,rfl,rfl⟩,U.push _⟩,λi v s' Q' E' hP hQ=>?_,λh' tk hk=>?_⟩
 ·obtain⟨b,e,rfl⟩:=yZ rv i v (by simpa using hP);simp only[e,Option.getD_some] at hQ;exact LD hQ
 ·have e:((LL J.toArray.size).all λi=>(bs[i]?).getD true)=bs.all id:=by
   rw[Kk,<-hlen];exact LSm.range_all bs
  rw[e];exact⟨.bl _,H,I.kept (LSm.kept_iter hk),rfl,q⟩
theorem jv:iO X (.builtin "isinstance") (λxs H Q=>∃ x c t b,xs=[x,c]/\gz X.K H x t/\
  ((∃ n,c= .ty n/\Lw X.K t (.type n)=some b)\/(∃ C,c= .ref C/\Lw X.K t (.ref C)=some b))/\Q (.bl b) H):=by
 intro pins s σ H xs us Q I r h;obtain⟨x,c,t,b,rfl,ty,U,q⟩:=h;obtain⟨u,w',rfl,J,rc⟩:=vals2 r;rcases U with ⟨n,rfl,e⟩|⟨C,rfl,e⟩
 ·cases rc;exact Au I J ty e λtk=>⟨.bl b,H,I.tok tk,rfl,q⟩
 ·cases rc;exact Au I J ty e λtk=>⟨.bl b,H,I.tok tk,rfl,q⟩
end
section
variable {X : Cx} {pins : JP (JR × Obj)} {σ : St} {H H' : Hp} {s : JZ} {h' : KP}
theorem Inv.track {a:JR}{o:HO}(I:Inv X pins σ H s)(hs:X.s₀.heap.get? a=none\/a∈X.ex)(hn:H a=none)(hL:a≠X.env.locals)(hC:∀ x c,X.env.cells.lookup x=some c->c≠a)(hp:∀ p∈X.pn++pins,p.1≠a)
  (new:e6 X.prog X.w (upd H a o) s.heap a o):Inv X pins σ (upd H a o) s:=by
 refine⟨I.ok,I.os,I.bare,⟨I.base.keep,I.base.slot,λb ob e n U=>?_,I.base.there,λb xs e=>?_,λb ob u e=>?_,λb ps e=>?_⟩,I.loc,I.cell,?_,λx c e=>?_,λp J=>?_,λb u e=>?_,I.len⟩
 ·have hb:b≠a:=by
   rintro rfl;rcases hs with z|z
   ·rw[z] at e;cases e
   ·exact U z
  rw[cF hb];exact I.base.free b ob e n U
 ·have q:=I.base.tups b xs e;rw[cF (dM q hn)];exact q
 ·have q:=I.base.frzs b ob u e;rw[cF (dM q hn)];exact q
 ·obtain⟨m,q⟩:=I.base.tbls b ps e;exact⟨m,by rw[cF (dM q hn)];exact q⟩
 ·rw[cF (K5 hL)];exact I.free
 ·rw[cF (hC x c e)];exact I.freeC x c e
 ·obtain⟨e,n,r⟩:=I.pin p J;exact⟨e,by rw[cF (hp p J)];exact n,r⟩
 ·by_cases hb:b=a
  ·subst hb;rw[b6] at e;cases e;exact new
  ·rw[cF hb] at e;exact(I.hok b u e).stay (λc v _ q=>q) (λc q=>by rw[cF (dM q hn)];exact q) λc xs q=>by rw[cF (dM q hn)];exact q
theorem Inv.turnedL {t':Nat}{fp:JP JR}(I:Inv X pins σ H s)(k:∀ b o,b∉fp->s.heap.get? b=some o->h'.get? b=some o)(hf:∀ b∈fp,iD X pins H b):Inv X pins σ H {s with heap:=h',toks:=t'}:=by
 have U:∀ b u,H b=some u->b∉fp:=λb u e z=>by rw[(hf b z).1] at e;cases e
 refine I.step (g':=s.gens) (d':=s.drawn) (ch:=fp) (λb hb=>?_) (λb o _ _ J e _=>k b o J e) (λb o _ _ J e _=>⟨o.slots,k b o J e⟩) (λ_ _ _ _ n=>n)
  (λb o J e=>⟨o,k b o J e⟩) (λ_ _ e=>e) (λ_ _ _ e=>e) (λb ps e=>⟨#[],by rw[e];simp⟩) (λm hm=>?_) (λb u e=>?_) I.bare
 ·obtain⟨f0,f1,f2,f3,f4,f5⟩:=hf b hb;exact⟨f3,f1,f4,f5⟩
 ·obtain⟨o,es,ep,ho,r⟩:=hm;exact⟨o,es,ep,k _ o (λz=>(hf _ z).2.1 rfl) ho,r⟩
 ·refine(I.hok b u e).stay (λc v J q=>k c v ?_ q) (λ_ q=>q) λ_ _ q=>q
  rcases J with z|z
  ·rw[z];exact U b u e
  ·exact U c _ z
end
noncomputable def uh(x:Str):It:=⟨λi _=>i<x.cps.size,λi H v H'=>H'=H/\∃ c,x.cps[i]? =some c/\v= .str ⟨#[c]⟩,λi _=>i=x.cps.size⟩
theorem yi{P:Ka}{w:Ku}{A:K4}(hh:A.handled=none)(I:JR)(x:Str)(t:Tok):Walks P w A I [I] [I] x.cps.size (SignAt x) (λi h=>h.IsStrIter I (NF x) x t i):=by
 unfold NF;cases x.cps.all (· < 128)
 ·exact Walks.strWide hh I x t
 ·exact Walks.strAscii hh I x t
theorem JF{x:Str}:["enumerate","zip","dict_itemiterator","dict_reverseitemiterator","odict_iterator","itertools.zip_longest","itertools.pairwise"].contains (NF x)=false:=by
 unfold NF;cases x.cps.all (· < 128)<;>decide
theorem Gm{P:Ka}{w:Ku}{K:Kl}{tg:KI}(x:Str)(t:Tok)(it:JR):Turn P w K tg (uh x) [it] it (λi h=>h.IsStrIter it (NF x) x t i) where
 mem:=by simp
 obj:=λi h st b hb=>by
  have e:b=it:=by simpa using hb
  subst e;obtain⟨o,e,c,d⟩:=st;exact⟨o,e,λv z=>by rw[d] at z;cases z⟩
 keep:=λi h h' st k=>by
  obtain⟨o,e,r⟩:=st;exact⟨o,k it (by simp) o e,r⟩
 item:=by
  intro X U hw hK hc i pins s σ H E I hf st hg;subst U hw hK;refine(yi (P:=X.prog) (w:=X.w) (I.ok.hd hc) it x t).item i s _ _ hg st λv h' tk hv J kk=>?_
  obtain⟨c,u,aa,rfl⟩:=hv;have I1:Inv X pins σ H {s with heap:=h',toks:=tk}:=I.turnedL kk hf;obtain⟨o,e,c2,d⟩:=id J;exact⟨_,rfl,q8 (s:={s with heap:=h',toks:=tk}) e c2 d JF ⟨.str ⟨#[c]⟩,H,I1,⟨u,rfl⟩,⟨rfl,c,aa,rfl⟩,J,λb hb=>(hf b hb).1⟩⟩
 done:=by
  intro X U hw hK hc i pins s σ H E I hf st hg;subst U hw hK;have ab:i=x.cps.size:=hg;subst ab;exact(yi (P:=X.prog) (w:=X.w) (I.ok.hd hc) it x t).done s _ _ st λh' tk kk=>⟨rfl,I.turnedL kk hf⟩
 self:=λA i s Q E st h=>by
  revert st;unfold NF;cases x.cps.all (· < 128)
  ·exact λst=>wpAny_pyIter_striter_wide st h
  ·exact λst=>wpAny_pyIter_striter_ascii st h
noncomputable def DX(tl:TE):TI:=λσ H R=>tl σ H λv H1=>∃ x,v= .str x/\R (uh x) H1
section
variable {X : Cx} {tg : KI}
theorem ux{l:KI}{tl:TE}(hl:PE X l tl):PI X tg l (DX tl):=by
 intro pins s σ H R I h;refine cv (hl pins s σ H _ I h) λv s1 ⟨y,H1,J,r1,x,e,q⟩=>?_
 subst e;obtain⟨t,rfl⟩:=r1;refine wpAny_pyIter_strU ?_;refine⟨s1.heap.objs.size,[s1.heap.objs.size],_,_,H1,rfl,J.kept (t':=s1.toks) λb o e=>Heap.get?_push_of_some _ e,Gm x t _,⟨_,Heap.get?_push_size _ rfl,rfl,rfl⟩,λb hb=>?_,q⟩;have e:b=s1.heap.objs.size:=by simpa using hb
 subst e;exact J.fpOk (JY _) (J.hok.fresh (JY _))
end
section
variable {X : Cx}
end
open PySem
noncomputable def gT(env:Env):JP (Str×MV)->JP (Str×JR)->JP (Str×JR)
 |[],cs=>cs
 |(n,k)::r,cs=>gT env r (if (k==K2)=true then (n,(env.cells.lookup n).getD 0)::cs else cs)
theorem yL{scope:MS}{env:Env}(h:∀ x∈scope.names,x.2= .free->∃ c,env.cells.lookup x.1=some c):closureFor scope env=pure (gT env scope.names []):=by
 unfold closureFor;have go:∀(names:JP (Str×MV)) (cs:JP (Str×JR)),(∀ x∈names,x.2= .free->∃ c,env.cells.lookup x.1=some c)->
   (forIn names cs λ(x:Str×MV) (r:JP (Str×JR))=>(match x with
    |(name,kind)=>if (kind==K2)=true then do let a<-cellOf env name;pure (LQ ((name,a)::r)) else pure (LQ r):Sem (ForInStep (JP (Str×JR)))))=pure (gT env names cs):=by
  intro names;induction names with
  |nil=>intro cs _;rfl
  |cons x r J=>
   intro cs h;obtain⟨n,k⟩:=x;rw[List.forIn_cons];have U:=λy hy=>h y (J0 _ hy)
   cases hk:(k==K2) with
   |false=>
    simp only[hk,Bool.false_eq_true,if_false];show(pure (LQ cs) >>= _:Sem _)=_;simp only[pure_bind];rw[J cs U];simp only[gT,hk,Bool.false_eq_true,if_false]
   |true=>
    obtain⟨c,I⟩:=h (n,k) KG (by simpa using hk);have e:cellOf env n=pure c:=by unfold cellOf;rw[show env.cells.lookup n=some c from I]
    simp only[hk,if_true,e,pure_bind];rw[J _ U];simp only[gT,hk,if_true];rw[show env.cells.lookup n=some c from I];rfl
 exact K9 (λm:Sem (JP (Str×JR))=>m >>= λr=>pure r) (go scope.names [] h)
theorem uo{env:Env}{x:Str}{c:JR}:∀{names:JP (Str×MV)} {cs:JP (Str×JR)},(gT env names cs).lookup x=some c->cs.lookup x=some c\/((x,K2)∈names/\c=(env.cells.lookup x).getD 0)
 |[],_,h=> .inl h
 |(n,k)::r,cs,h=>by
  rcases uo (names:=r) h with q|⟨q,e⟩
  ·cases hk:(k==K2) with
   |false=>rw[hk] at q;exact .inl q
   |true=>
    rw[hk,J1 rfl] at q;have J:k=K2:=by simpa using hk
    subst J;cases hx:x==n with
    |true=>
     rw[Lu,hx] at q;have e:x=n:=by simpa using hx
     subst e;exact .inr ⟨KG,(Kg q).symm⟩
    |false=>
     rw[Lu,hx] at q;exact .inl q
  ·exact .inr ⟨J0 _ q,e⟩
theorem nc{env:Env}{x:Str}:∀{names:JP (Str×MV)} {cs:JP (Str×JR)},(x,K2)∈names\/(∃ c,cs.lookup x=some c)->∃ c,(gT env names cs).lookup x=some c
 |[],_,h=>by
  rcases h with h|h
  ·cases h
  ·exact h
 |(n,k)::r,cs,h=>by
  refine nc (names:=r) ?_;rcases h with h|⟨c,h⟩
  ·rcases List.mem_cons.mp h with e|e
   ·cases e;refine .inr ⟨(env.cells.lookup x).getD 0,?_⟩;rw[J1 (by rfl),Lu];simp
   ·exact .inl e
  ·refine .inr ?_;cases hk:(k==K2) with
   |false=>exact⟨c,h⟩
   |true=>
    rw[J1 rfl,Lu];cases hx:x==n with
    |true=>exact⟨_,rfl⟩
    |false=>exact⟨c,h⟩
theorem ui{env:Env}(hf:env.scope.kind= .function):∀{names:JP (Str×MV)} {x:Str},names.lookup x=some .free->env.kindOf x=some .cell->
  (names.map λ(n,k)=>if (k==K2&&env.scope.kind == .function&&env.kindOf n==some .cell) then (n,NB) else (n,k)).lookup x=some .cell
 |[],_,h,_=>by simp at h
 |(n,k)::r,x,h,U=>by
  have I:=@ui env hf r x
  show Mv x ((if (k==K2&&env.scope.kind == .function&&env.kindOf n==some .cell)=true then (n,NB) else (n,k))::_)=_;cases hx:x==n with
  |true=>
   have e:x=n:=by simpa using hx
   subst e;simp only[Lu,hx] at h;cases h;rw[J1 (by rw[hf,U];rfl)];simp[Lu]
  |false=>
   simp only[Lu,hx] at h;by_cases J:(k==K2&&env.scope.kind == .function&&env.kindOf n==some .cell)=true
   ·rw[J1 J];simp only[Lu,hx];exact I h U
   ·rw[if_neg J];simp only[Lu,hx];exact I h U
theorem qt{env:Env}:∀{names:JP (Str×MV)} {x:Str} {k':MV},(∀ y∈names,y.2≠ .cell)->(k'= .cell\/k'= .free)->
  (names.map λ(n,k)=>if (k==K2&&env.scope.kind == .function&&env.kindOf n==some .cell) then (n,NB) else (n,k)).lookup x=some k'->(x,K2)∈names
 |[],_,_,_,_,h=>by simp at h
 |(n,k)::r,x,k',hn,hk,h=>by
  have ih:=@qt env r x k' (λy hy=>hn y (J0 _ hy)) hk
  have h':Mv x ((if (k==K2&&env.scope.kind == .function&&env.kindOf n==some .cell)=true then (n,NB) else (n,k))::r.map λ(n,k)=>if (k==K2&&env.scope.kind == .function&&env.kindOf n==some .cell) then (n,NB) else (n,k))=some k':=h
  have U:k≠ .cell:=hn (n,k) KG;by_cases J:(k==K2&&env.scope.kind == .function&&env.kindOf n==some .cell)=true
  ·rw[J1 J,Lu] at h';have I:k= .free:=by
    rw[Lc,Lc] at J;simpa using J.1.1
   cases hx:x==n with
   |true=>
    have e:x=n:=by simpa using hx
    subst e;rw[I];exact KG
   |false=>rw[hx] at h';exact J0 _ (ih h')
  ·rw[if_neg J,Lu] at h';cases hx:x==n with
   |true=>
    rw[hx] at h';have e:x=n:=by simpa using hx
    subst e;have e2:k=k':=Kg h';subst e2;rcases hk with z|z
    ·exact absurd z U
    ·rw[z];exact KG
   |false=>rw[hx] at h';exact J0 _ (ih h')
section
variable {prog : Ka} {w : Ku} {A : K4} {R : Result -> JZ -> Prop} {s : JZ}
theorem ES{elt target iter:KI}{ifs:JP KI}{scope:MS}{pos:Pos}{it acc:JT}{env:Env}(I:Nat->JZ->Prop)
  (turn:∀ n s,I n s->Kq (Ko prog w) A (pyNext it) (λr s₁=>match r with
   |none=>R (.ok .next) s₁
   |some v=>Kq (Ko prog w) A (Nc target it v) (λ_ s₀=>Kq (Ko prog w) A (assign target env v) (λ_ s₂=>
     Kq (Ko prog w) A (forIn ifs true λc r=>if r=true then do let ok<-isTrue c env (eval c env);pure (LQ ok) else pure (LQ r)) (λok s₃=>
      if ok=true then Kq (Ko prog w) A (eval elt env) (λx s₄=>
       Kq (Ko prog w) A (call (.builtin "list.append") [acc,x]) (λ_ s₅=>∃ m,m<n/\I m s₅) (λ_ _=>LG) s₄) (λ_ _=>LG) s₃
      else ∃ m,m<n/\I m s₃) (λ_ _=>LG) s₂) (λ_ _=>LG) s₀) (λ_ _=>LG) s₁) (λ_ _=>LG) s)
  (n:Nat)(h:I n s):
  Nz (Ko prog w) A (.compLoop (.ListComp elt [⟨target,iter,ifs,0⟩] scope pos) 0 it acc env) R s:=by
 refine codeAny_loop rfl I (λn s hI=>?_) n h;show Kq _ A ((compTurn (.ListComp elt [⟨target,iter,ifs,0⟩] scope pos) 0 it acc env).onRaise (λx=>do L0 x env;theTreesLotGoes x)) _ _ s;refine wpAny_noted ?_;rw[compTurn_list];refine J8 (MH (J8 (KY (turn n s hI) (λr s₁ J=>?_) λ_ _ h'=>h'.elim)));cases r with
 |none=>exact KN J
 |some v=>
  refine J8 (KY J (λ_ s₀ h₀=>?_) λ_ _ h'=>h'.elim);refine J8 (KY h₀ (λ_ s₂ aa=>J8 (KY aa (λok s₃ U=>?_) λ_ _ h'=>h'.elim)) λ_ _ h'=>h'.elim);cases ok with
  |false=>exact KN ⟨rfl,U⟩
  |true=>
   exact J8 (J8 (KY U (λx s₄ ab=>J8 (KY ab (λ_ s₅ ae=>KN (KN ⟨rfl,ae⟩)) λ_ _ h'=>h'.elim)) λ_ _ h'=>h'.elim))
end
noncomputable def dJ(X:Cx)(scope:MS)(N:JP Str)(s₀:JZ)(H₀:Hp)(ex:JP JR):Cx:=
 {X with N:=N,s₀:=s₀,H₀:=H₀,env:=OT scope (gT X.env scope.names []) s₀.heap.objs.size X.env,outer:=X.stack,ex:=ex,fn:=λ_=>false,pn:=[],xe:=λ_ _=>LG}
section
variable {X : Cx} {c : KI} {t : TT}
noncomputable def cP(X:Cx)(ifs:JP KI)(t:TT):Prop:=∀(pins:JP (JR×Obj)) (s:JZ) (σ:St) (H:Hp) (Q:KS->Hp->Prop),Inv X pins σ H s->t σ H Q->
 Kq (Ko X.prog X.w) X.A (forIn ifs true λc r=>if r=true then do let ok<-isTrue c X.env (eval c X.env);pure (LQ ok) else pure (LQ r)) (TP X pins σ Q) X.xe s
noncomputable def yo:TT:=λ_ H Q=>Q true H
theorem i9:cP X [] yo:=λ_ _ _ H _ I h=>wpAny_tests_nil ⟨H,I,h⟩
theorem Fj(h:PT X c t):cP X [c] t:=λpins s σ H Q I J=>wpAny_tests_one (h pins s σ H Q I J)
end
noncomputable def nP(own:Nat)(g:TG):Prop:=∀ x σ H Q U,g x σ H Q->(∀ J H',Q J H'->J.length=σ.length->(∀ j v,own<=j->σ[j]? =some (some v)->J[j]? =some (some v))->U J H')->g x σ H U
theorem iX{own i:Nat}(hi:i<own):nP own (g6 i):=λx σ H Q J h k=>k _ H h (by simp) λj v U e=>by rw[List.getElem?_set_ne (by(clear e;lia))];exact e
noncomputable def gQ(own:Nat)(caps:JP Nat)(σ:St):St:=List.replicate own none++caps.map λj=>(σ[j]?).join
noncomputable def oy(J:It)(g:TG)(tc:TT)(te:TE)(σ0:St)(Q:VK)(H:Hp):Prop:=
  ∃ W:Nat->Nat->JP V->Hp->Prop,(∃ m,W 0 m [] H)/\∀ i m ys H,W i m ys H->
   (J.stop i H/\ys.length<=sizeLine/\∀ p,H p=none->Q (.ref p) (upd H p (.lst ys)))\/
   (J.go i H/\ys.length<sizeLine/\∀ x H',J.yld i H x H'->g x σ0 H' λU H2=>tc U H2 λb H3=>
    if b=true then te U H3 λy H4=>∃ I,I<m/\W (i+1) I (ys++[y]) H4 else ∃ I,I<m/\W (i+1) I ys H3)
noncomputable def qG(own:Nat)(caps:JP Nat)(wi:TI)(g:TG)(tc:TT)(te:TE):TE:=λσ H Q=>wi σ H λJ H1=>oy J g tc te (gQ own caps σ) Q H1
theorem rh{a:JR}{o:Obj}:∀ p∈[(a,o)],p.1=a:=λp hp=>by rw[List.mem_singleton.mp hp]
section
variable {X : Cx}
theorem A3{scope:MS}{N:JP Str}{pins:JP (JR×Obj)}{σ σ':St}{H2 He:Hp}{s2 s1:JZ}{hp h':KP}{fp:JP JR}{ys:JP V}{its:JP JT}{na:Nat}{lo:Obj}
  (I2:Inv X pins σ H2 s2)(f2:∀ b∈fp,iD X pins H2 b)(ehp:hp=s2.heap.push lo)
  (J:Inv (dJ X scope N {s2 with heap:=hp} H2 (s2.heap.objs.size::fp)) [(s2.heap.objs.size,{cls:= .type "list",data:= .seq its.toArray na})] σ' He s1)
  (hsb:Md hp.objs.size s1.heap h')(hv:Vals ys its)(hz:ys.length<=sizeLine):
  Inv X pins σ (upd He s2.heap.objs.size (.lst ys)) {s1 with heap:=h'}:=by
 have hC:hp.objs.size=s2.heap.objs.size+1:=by rw[ehp,Mo]
 have below:∀{b:JR} {o:Obj},s2.heap.get? b=some o->b≠hp.objs.size/\b≠s2.heap.objs.size:=λ{b o} e=>by
  have q:=Kb e;exact⟨by rw[hC];exact Kr (MP q),Kr q⟩
 have up:∀{b:JR} {o:Obj},s2.heap.get? b=some o->hp.get? b=some o:=λe=>by rw[ehp];exact Heap.get?_push_of_some _ e
 have un:Un (dz X.stack) (s2.heap.objs.size::fp) H2 He hp s1.heap:=J.base
 have nD:∀{b:JR} {o:Obj},s2.heap.get? b=some o->b∉fp->b∉s2.heap.objs.size::fp:=λe I z=>(List.mem_cons.mp z).elim (below e).2 I
 have U:He hp.objs.size=none:=J.free
 have u2:Un (dz X.stack) fp H2 He s2.heap h':=by
  refine⟨λb o e n hb I=>?_,λb o e n hb I=>?_,λb o e n I=>?_,λb o e I=>?_,un.tups,un.frzs,un.tbls⟩
  ·exact(hsb.2 b (below e).1).trans (un.keep b o (up e) n hb (nD e I))
  ·obtain⟨sl,q⟩:=un.slot b o (up e) n hb (nD e I);exact⟨sl,(hsb.2 b (below e).1).trans q⟩
  ·exact un.free b o (up e) n (nD e I)
  ·obtain⟨o',q⟩:=un.there b o (up e) (nD e I);exact⟨o',(hsb.2 b (below e).1).trans q⟩
 have hok:eJ X.prog X.w He h':=λb u e=>by
  refine(J.hok b u e).stay (λc v hc q=>(hsb.2 c ?_).trans q) (λ_ q=>q) λ_ _ q=>q
  rintro rfl;rcases hc with z|z
  ·rw[<-z,U] at e;cases e
  ·rw[U] at z;cases z
 have I3:Inv X pins σ He {s1 with heap:=h'}:=I2.call' (s':={s1 with heap:=h'}) (ch:=fp) J.os u2 hok J.bare λb hb=>by
  obtain⟨f0,f1,f3,f4,f5,f6⟩:=f2 b hb;exact⟨f4,f1,f5,f6⟩
 obtain⟨pe,pn,_⟩:=J.pin _ (Ki _ KG);refine I3.track (.inl (Heap.get?_none_of_le I2.sz)) pn (OA I2.lt) (λy c' q z=>?_) (λp aa z=>?_) ?_
 ·obtain⟨v,q'⟩:=I2.cell y c' q;exact absurd q'.lt (by rw[z];exact Kw _)
 ·exact absurd (Kb (I2.pin p aa).1) (by rw[z];exact Kw _)
 ·exact⟨hz,its,na,hv,(hsb.2 _ (by rw[hC];exact Kr (LJ _))).trans pe⟩
theorem yl{elt target iter:KI}{ifs:JP KI}{scope sc0:MS}{pos:Pos}{N N0:JP Str}{own:Nat}{caps:JP Nat}{wi:TI}{g:TG}{tc:TT}{te:TE}
  (hcalm:X.calm=true)(hi:PI X target iter wi)
  (hg:∀ s₀ H₀ ex,PG (dJ X scope N s₀ H₀ ex) target g)(hc:∀ s₀ H₀ ex,cP (dJ X scope N s₀ H₀ ex) ifs tc)(he:∀ s₀ H₀ ex,PE (dJ X scope N s₀ H₀ ex) elt te)(hk:nP own g)
  (hX:X.N=N0)(hsc:X.env.scope=sc0)
  (hcell:∀ y∈scope.names,y.2≠ .cell)(hkind:scope.kind= .function)(hnames:∀ y∈scope.names,y.2= .local->scope.names.lookup y.1=some .local)
  (hfree:∀ y∈scope.names,y.2= .free->sc0.names.lookup y.1=some .cell)(hN:N.length=own+caps.length)
  (hcap:∀ p∈caps.zip (N.drop own),N0[p.1]? =some p.2/\scope.names.lookup p.2=some .free)
  (hs:∀ x,Me iter X.env x=pure x)
  {use:JW (JT->Sem Unit)}{Qf:JT->JZ->Prop}{pins:JP (JR×Obj)}{s:JZ}{σ:St}{H:Hp}{Q:VK}{cpos:Pos}(I:Inv X pins σ H s)(h:qG own caps wi g tc te σ H Q)
  (hR:∀(D C:JR) (s':JZ) (He:Hp) (ys:JP V) (m:Str->JW JT) (f:Flow),s'.heap.Ns C m->(∀ h',Md C s'.heap h'->Inv X pins σ (upd He D (.lst ys)) {s' with heap:=h'})->
   iD X pins (upd He D (.lst ys)) C->Q (.ref D) (upd He D (.lst ys))->O8 (Ko X.prog X.w) X.A X.xe use Qf (.ref D) C (.ok f) s'):
  Kq (Ko X.prog X.w) X.A (comprehension (.ListComp elt [⟨target,iter,ifs,0⟩] scope pos) scope X.env cpos (newList []) false (eval iter X.env) use) Qf X.xe s:=by
 have ab:∀ y∈scope.names,y.2= .free->X.env.kindOf y.1=some .cell:=λy hy e=>by
  show X.env.scope.names.lookup y.1=some .cell;rw[hsc];exact hfree y hy e
 refine wpAny_comprehension_free (use:=use) rfl hs (yL λy hy e=>I.ok.has y.1 (.inl (ab y hy e))) hkind hnames ?_;refine cv (hi pins s σ H _ I h) λv s1 h1=>cv h1 λaY s2 h2=>?_
 obtain⟨it,fp,tn,J,H2,e,I2,T,aC,f2,W,⟨m0,w0⟩,turn⟩:=h2;subst e;refine MN (wpAny_newFunctionEnv hcell (by intro y hy;simp at hy) (λak af ag=>?_) hkind);dsimp only at af ag ⊢;generalize ah:s2.heap.push {cls:= .type "list",dict:=none,data:= .seq ([]:JP JT).toArray}=hp at af ag ⊢;have hC:hp.objs.size=s2.heap.objs.size+1:=by rw[<-ah,Mo]
 have ai:s2.heap.objs.size≠hp.objs.size:=by rw[hC];exact Kr (LJ _)
 have av:hp.get? s2.heap.objs.size=some {cls:= .type "list",data:= .seq ([]:JP JT).toArray}:=by rw[<-ah];exact Heap.get?_push_size _ rfl
 have up:∀{b:JR} {o:Obj},s2.heap.get? b=some o->hp.get? b=some o:=λe=>by rw[<-ah];exact Heap.get?_push_of_some _ e
 have up1:∀{b:JR} {o:Obj},hp.get? b=some o->ak.get? b=some o:=λ{b o} e=>ag.extBut b o (Kr (Kb e)) (Heap.get?_push_of_some _ e)
 have aB:∀{b:JR} {o:Obj},s2.heap.get? b=some o->b<s2.heap.objs.size:=λe=>Kb e
 have aQ:∀ b∈fp,∃ o,s2.heap.get? b=some o:=λb hb=>by obtain⟨o,e,_⟩:=T.obj 0 _ aC b hb;exact⟨o,e⟩
 have aw:∀ b∈fp,b≠hp.objs.size/\b≠s2.heap.objs.size:=λb hb=>by
  obtain⟨o,e⟩:=aQ b hb;have q:=aB e;exact⟨by rw[hC];exact Kr (MP q),Kr q⟩
 have aa:∀{x:Str} {c:JR},(gT X.env scope.names []).lookup x=some c->X.env.cells.lookup x=some c/\X.env.kindOf x=some .cell:=λ{x c} q=>by
  rcases uo q with z|⟨z,e⟩
  ·cases z
  ·have k:=ab _ z rfl;obtain⟨c',ao⟩:=I2.ok.has x (.inl k);rw[ao] at e;have e':c=c':=e;subst e';exact⟨ao,k⟩
 have aj:∀{x:Str} {c:JR},(gT X.env scope.names []).lookup x=some c->c<s2.heap.objs.size:=λq=>by
  obtain⟨v,z⟩:=I2.cell _ _ (aa q).1;exact z.lt
 have aq:∀ b∈dz X.stack,b<s2.heap.objs.size:=λb hb=>by
  obtain⟨_,o,ho,_⟩:=I2.stack.mem hb;exact Kb ho
 have aR:(dJ X scope N {s2 with heap:=hp} H2 (s2.heap.objs.size::fp)).Ok:=by
  refine⟨I2.ok.mod,hkind,I2.ok.glob,I2.ok.blt,JY _,λx y c q1 q2=>I2.ok.inj x y c (aa q1).1 (aa q2).1,λx hx=>?_,(λx c z=>by cases z),I2.ok.hd,I2.ok.frames,.inl rfl,λb hb=>?_,λb o q=>⟨up (I2.bs b o q).1,(I2.bs b o q).2⟩,?_,λb o q hb=>?_,λb hb=>?_,?_,λb hb=>I2.stkFree b hb⟩
  ·rcases hx with hx|hx
   ·exact nc (.inl (qt (env:=X.env) hcell (.inl rfl) hx))
   ·exact nc (.inl (qt (env:=X.env) hcell (.inr rfl) hx))
  ·rcases List.mem_cons.mp hb with rfl|hb
   ·exact⟨by show s2.heap.objs.size≠hp.objs.size;exact ai,λx c q=>Kr (aj q)⟩
   ·exact⟨(aw b hb).1,λx c q=>(f2 b hb).2.2.2.2.1 x c (aa q).1⟩
  ·show X.base.objs.size<=hp.objs.size;rw[hC];exact Kz (Kj I2.ok.bsz I2.sz)
  ·rcases List.mem_cons.mp hb with rfl|hb
   ·exact Kw _ (aB (I2.bs _ o q).1)
   ·rcases(f2 b hb).2.2.2.1 with z|z
    ·exact I2.ok.noex b o q z
    ·exact Kw _ (Km (Kb (I2.ok.bs b o q).1) z)
  ·intro z;rcases List.mem_cons.mp hb with rfl|hb
   ·exact Kw _ (aq _ z)
   ·rcases List.mem_cons.mp (I2.stkSub b z) with q|q
    ·exact(f2 b hb).2.1 q
    ·exact(f2 b hb).2.2.1 q
  ·show hp.FunFrames X.base X.stack;exact I2.stack.of_keeps λb o q _=>⟨o,up q,rfl⟩
 have len0:(gQ own caps σ).length=N.length:=by unfold gQ;rw[JU,Ma,JX,hN]
 have I0:Inv (dJ X scope N {s2 with heap:=hp} H2 (s2.heap.objs.size::fp)) [] (gQ own caps σ) H2 {s2 with heap:=ak,toks:=s2.toks+([]:JP (Str×JT)).length}:=by
  refine⟨aR,rfl,I2.bare,Un.kept λb o q=>up1 q,⟨_,af,λi x v e1 e2 e3=>?_⟩,λx c q=>?_,I2.hok.fresh (by show s2.heap.objs.size<=hp.objs.size;rw[hC];exact MU _),λx c q=>I2.freeC x c (aa q).1,λp ae=>absurd (show p∈([]:JP (JR×Obj)) from ae) (by simp),I2.hok.kept λb o q=>up1 (up q),len0⟩
  ·
   unfold gQ at e2;by_cases aJ:i<own
   ·rw[List.getElem?_append_left (by simpa using aJ),List.getElem?_replicate] at e2;split at e2<;>cases e2
   ·rw[List.getElem?_append_right (by simpa using aJ),Ma,List.getElem?_map] at e2;cases ec:caps[i-own]? with
    |none=>rw[ec] at e2;cases e2
    |some j=>
     rw[ec] at e2;have ar:(σ[j]?).join=some v:=Kg e2;have aK:σ[j]? =some (some v):=by
      cases q:σ[j]? with
      |none=>rw[q] at ar;cases ar
      |some z=>rw[q] at ar;exact K9 some ar
     have hx:(N.drop own)[i-own]? =some x:=by
      rw[List.getElem?_drop];have:own+(i-own)=i:=by(clear aK ar ec e2 e1 len0 av ai hC ah hN hkind hsc hX hcalm;lia)
      rw[this];exact e1
     have hz:(caps.zip (N.drop own))[i-own]? =some (j,x):=by
      rw[List.getElem?_zip_eq_some];exact⟨ec,hx⟩
     obtain⟨hj,hf⟩:=hcap _ (List.mem_of_getElem? hz);rw[<-hX] at hj;have aL:(x,K2)∈scope.names:=LO hf;have aD:=ab _ aL rfl;obtain⟨m,hn,hl⟩:=I2.loc;obtain⟨u,ru,lk⟩:=hl j x v hj aK (.inr (.inl aD));refine⟨u,ru,.inr ⟨.inl (ui I2.ok.kind hf aD),?_⟩⟩;obtain⟨c,ao⟩:=nc (env:=X.env) (cs:=[]) (.inl aL);have aS:=(aa ao).1;rcases lk with ⟨z,_⟩|⟨_,c2,aM,ax⟩
     ·rw[aD] at z;cases z
     ·rw[aS] at aM;cases aM;obtain⟨oc,aE,aF⟩:=ax;exact⟨c,ao,oc,up1 (up aE),aF⟩
  ·obtain⟨v,oc,aE,aF⟩:=I2.cell x c (aa q).1;exact⟨v,oc,up1 (up aE),aF⟩
 have aN:∀{ay:St} {H':Hp} {s':JZ} {U:JP JT} {na:Nat},Inv (dJ X scope N {s2 with heap:=hp} H2 (s2.heap.objs.size::fp)) [] ay H' s'->H' s2.heap.objs.size=none->
   s'.heap.get? s2.heap.objs.size=some {cls:= .type "list",data:= .seq U.toArray na}->
   Inv (dJ X scope N {s2 with heap:=hp} H2 (s2.heap.objs.size::fp)) [(s2.heap.objs.size,{cls:= .type "list",data:= .seq U.toArray na})] ay H' s':=λ{ay H' s' U na} I' hn hd=>I'.pins_of λp ae=>by
  have e:p=(s2.heap.objs.size,{cls:= .type "list",data:= .seq U.toArray na}):=by simpa using ae
  subst e;exact⟨hd,hn,ai,λz=>Kw _ (aq _ z),λv z=>nomatch z⟩
 have aO:∀{H':Hp} {pl:JP (JR×Obj)},(∀ b∈fp,H' b=none)->(∀ p∈pl,p.1=s2.heap.objs.size)->∀ b∈fp,iD (dJ X scope N {s2 with heap:=hp} H2 (s2.heap.objs.size::fp)) pl H' b:=λhn aT b hb=>by
  refine⟨hn b hb,(aw b hb).1,λz=>?_,.inl (J0 _ hb),λx c q=>(f2 b hb).2.2.2.2.1 x c (aa q).1,λp ae z=>?_⟩
  ·rcases List.mem_cons.mp (I2.stkSub b z) with q|q
   ·exact(f2 b hb).2.1 q
   ·exact(f2 b hb).2.2.1 q
  ·exact(aw b hb).2 (z.symm.trans (aT p ae))
 have loop:∀ au:JZ,au={s2 with heap:=ak,toks:=s2.toks+([]:JP (Str×JT)).length}->
   Nz (Ko X.prog X.w) X.A (.compLoop (.ListComp elt [⟨target,iter,ifs,0⟩] scope pos) 0 (.ref it) (.ref s2.heap.objs.size) (OT scope (gT X.env scope.names []) hp.objs.size X.env))
    (O8 (Ko X.prog X.w) X.A X.xe use Qf (.ref s2.heap.objs.size) hp.objs.size) au:=by
  rintro au rfl;refine ES (λn s'=>∃ i ys U na H',Inv (dJ X scope N {s2 with heap:=hp} H2 (s2.heap.objs.size::fp)) [] (gQ own caps σ) H' s'/\tn i s'.heap/\(∀ b∈fp,H' b=none)/\H' s2.heap.objs.size=none/\
   Vals ys U/\s'.heap.get? s2.heap.objs.size=some {cls:= .type "list",data:= .seq U.toArray na}/\W i n ys H') ?_ m0
   ⟨0,[],[],0,H2,I0,T.keep _ _ _ aC λb _ o q=>up1 (up q),λb hb=>(f2 b hb).1,I2.hok.fresh (JY _),.nil,up1 av,w0⟩;rintro n s3 ⟨i,ys,U,na,H3,I3,aP,aU,aG,az,aH,w3⟩;have Ip:=aN I3 aG aH;have f3:=aO (H':=H3) (pl:=[(s2.heap.objs.size,{cls:= .type "list",data:= .seq U.toArray na})]) aU rh;rcases turn i n ys H3 w3 with ⟨stop,hz,fin⟩|⟨go,hz,step⟩
  ·refine cv (T.done (dJ X scope N {s2 with heap:=hp} H2 (s2.heap.objs.size::fp)) rfl rfl rfl hcalm i _ s3 _ H3 _ Ip f3 aP stop) λr s4 ⟨hr,I4⟩=>?_
   subst hr;obtain⟨m,hn,_⟩:=I4.loc;exact hR _ _ _ _ ys m _ hn (λh' aV=>A3 I2 f2 ah.symm I4 aV az hz) (I2.fpOk (by rw[hC];exact MU _) (by rw[cF (K5 ai)];exact I4.free)) (fin _ (I4.pin _ (Ki _ KG)).2.1)
  ·refine cv (T.item (dJ X scope N {s2 with heap:=hp} H2 (s2.heap.objs.size::fp)) rfl rfl rfl hcalm i _ s3 _ H3 _ Ip f3 aP go) λr s4 ⟨u,hr,h4⟩=>?_
   subst hr;refine cv h4 λ_ s5 ⟨x,H5,I5,r5,y5,aI,aW⟩=>?_
   have aX:=I5.pinned (aO (H':=H5) (pl:=[(s2.heap.objs.size,{cls:= .type "list",data:= .seq U.toArray na})]) aW rh) (T.obj _ _ aI);refine cv (hg _ _ _ _ s5 _ H5 x u _ aX r5 (hk x _ H5 _ _ (step x H5 y5) λay H' q l k=>(⟨q,l,k⟩:_/\_/\_))) λ_ s6 ⟨aA,H6,I6,q6,l6,k6⟩=>?_
   refine cv (hc _ _ _ _ s6 aA H6 _ I6 q6) λok s7 ⟨H7,I7,q7⟩=>?_
   have weak:∀{H':Hp} {s':JZ} {pl:JP (JR×Obj)},Inv (dJ X scope N {s2 with heap:=hp} H2 (s2.heap.objs.size::fp)) pl aA H' s'->Inv (dJ X scope N {s2 with heap:=hp} H2 (s2.heap.objs.size::fp)) pl (gQ own caps σ) H' s':=λI'=>
    I'.weak l6.symm λj v e=>k6 j v (by
     by_cases hj:j<own
     ·unfold gQ at e;rw[List.getElem?_append_left (by simpa using hj),List.getElem?_replicate] at e;split at e<;>cases e
     ·(clear e l6 hz aH aG len0 av ai hC ah hN hkind hsc hX hcalm;lia)) e
   have after:∀{H':Hp} {s':JZ},Inv (dJ X scope N {s2 with heap:=hp} H2 (s2.heap.objs.size::fp)) ([(s2.heap.objs.size,{cls:= .type "list",data:= .seq U.toArray na})]++ow fp s5.heap) aA H' s'->
     tn (i+1) s'.heap/\(∀ b∈fp,H' b=none)/\H' s2.heap.objs.size=none/\s'.heap.get? s2.heap.objs.size=some {cls:= .type "list",data:= .seq U.toArray na}:=λI'=>by
    refine⟨T.keep _ _ _ aI λb hb o e=>(I'.pin (b,o) (Ki _ (Ki _ (nY hb e)))).1,λb hb=>?_,?_,?_⟩
    ·obtain⟨o,e,d⟩:=T.obj _ _ aI b hb;exact(I'.pin (b,o) (Ki _ (Ki _ (nY hb e)))).2.1
    ·exact(I'.pin _ (Ki _ (Ll _ KG))).2.1
    ·exact(I'.pin _ (Ki _ (Ll _ KG))).1
   cases ok with
   |false=>
    rw[if_neg J3];obtain⟨m',hm,w7⟩:=(show ∃ m',m'<n/\W (i+1) m' ys H7 by rw[if_neg J3] at q7;exact q7);obtain⟨a1,a2,a3,a4⟩:=after I7;exact⟨m',hm,i+1,ys,U,na,H7,(weak I7).pins_of (λp ae=>absurd ae (by simp)),a1,a2,a3,az,a4,w7⟩
   |true=>
    rw[J1 rfl];rw[J1 rfl] at q7;refine cv (he _ _ _ _ s7 aA H7 _ I7 q7) λyv s8 ⟨y,H8,I8,r8,m',hm,w8⟩=>?_
    obtain⟨a1,a2,a3,a4⟩:=after I8;have hl:=az.length;refine MY KO ⟨_,a4,rfl⟩ NP (ND _ _) (Oc s2.heap.objs.size U.toArray na yv (by rw[Kk];(clear a4 a3 hm l6 aH aG len0 av ai hC ah hN hkind hsc hX hcalm;lia))) ⟨a4,?_⟩;have I9:Inv (dJ X scope N {s2 with heap:=hp} H2 (s2.heap.objs.size::fp)) [] (gQ own caps σ) H8 s8:=(weak I8).pins_of (λp ae=>absurd ae (by simp));have q:(s8.heap.update s2.heap.objs.size (Nw (·.push yv))).get? s2.heap.objs.size=some {cls:= .type "list",data:= .seq (U++[yv]).toArray (na+1)}:=by
     have q:=Ot a4 (·.push yv);simpa using q
    refine⟨m',hm,i+1,ys++[y],U++[yv],na+1,H8,I9.turned (it:=s2.heap.objs.size) (t':=s8.toks) (λb o hb e=>?_) a3 (ai) (.inl KG) (λx c z=>Kr (aj z)) (λp ae=>absurd (show p∈([]:JP (JR×Obj)) from ae) (by simp)),?_,a2,a3,az.append (.cons r8 .nil),q,w8⟩
    ·rw[Heap.get?_update_other _ _ (K5 hb)];exact e
    ·exact T.keep _ _ _ a1 λb hb o e=>by rw[Heap.get?_update_other _ _ (K5 (aw b hb).2)];exact e
 exact codeAny_compStart_list (loop _ rfl) (T.self _ 0 _ _ _ (T.keep _ _ _ aC λb _ o q=>up1 (up q)) (loop _ rfl))
theorem jF{elt target iter:KI}{ifs:JP KI}{scope sc0:MS}{pos:Pos}{N N0:JP Str}{own:Nat}{caps:JP Nat}{wi:TI}{g:TG}{tc:TT}{te:TE}
  (hcalm:X.calm=true)(hi:PI X target iter wi)
  (hg:∀ s₀ H₀ ex,PG (dJ X scope N s₀ H₀ ex) target g)(hc:∀ s₀ H₀ ex,cP (dJ X scope N s₀ H₀ ex) ifs tc)(he:∀ s₀ H₀ ex,PE (dJ X scope N s₀ H₀ ex) elt te)(hk:nP own g)
  (hX:X.N=N0)(hsc:X.env.scope=sc0)
  (hcell:∀ y∈scope.names,y.2≠ .cell)(hkind:scope.kind= .function)(hnames:∀ y∈scope.names,y.2= .local->scope.names.lookup y.1=some .local)
  (hfree:∀ y∈scope.names,y.2= .free->sc0.names.lookup y.1=some .cell)(hN:N.length=own+caps.length)
  (hcap:∀ p∈caps.zip (N.drop own),N0[p.1]? =some p.2/\scope.names.lookup p.2=some .free)
  (hs:∀ x,Me iter X.env x=pure x:=by intro _;rfl):
  PE X (.ListComp elt [⟨target,iter,ifs,0⟩] scope pos) (qG own caps wi g tc te):=by
 intro pins s σ H Q I h;rw[eval_ListComp];exact yl hcalm hi hg hc he hk hX hsc hcell hkind hnames hfree hN hcap hs I h λD C s' He ys m f hn U _ q=>⟨m,hn,λh' J=>⟨.ref D,_,U h' J,rfl,q⟩⟩
end
theorem e6.at {P:Ka}{w:Ku}{H:Hp}{h:KP}{a:JR}{o:HO}(x:e6 P w H h a o):∃ ob,h.get? a=some ob:=by
 cases o with
 |lst xs=>obtain⟨_,_,_,_,e⟩:=x;exact⟨_,e⟩
 |tup xs=>obtain⟨_,_,_,ob,e,_⟩:=x;exact⟨_,e⟩
 |dK kvs=>obtain⟨_,_,_,_,o,_,_,e,_⟩:=x;exact⟨_,e⟩
 |dT kvs=>obtain⟨_,_,_,_,o,_,_,e,_⟩:=x;exact⟨_,e⟩
 |set S n=>obtain⟨o,_,_,_,e,_⟩:=x;exact⟨_,e⟩
 |ins C dx fs=>obtain⟨_,_,_,e,_⟩:=x;exact⟨_,e⟩
 |own y=>obtain⟨_,e⟩:=x;exact⟨_,e⟩
 |xd fs=>obtain⟨_,⟨_,_,_,e,_⟩,_⟩:=x;exact⟨_,e⟩
 |rng lo hi=>obtain⟨_,_,_,e⟩:=x;exact⟨_,e⟩
 |frz ob u=>obtain⟨e,_⟩:=x;exact⟨_,e⟩
 |tbl ps=>exact⟨_,show h.get? a=some _ from x⟩
 |met f y=>exact⟨_,show h.get? a=some _ from x⟩
 |ext J=>obtain⟨_,⟨_,e⟩,_⟩:=x;exact⟨_,e⟩
noncomputable def dD(P:Ka)(w:Ku):gv:=λouter H s E e s'=>∃(J:JR) (cls U:JT) (B:KP) (H':Hp),
 e= .ref J/\s'.os=s.os/\NQ s'.gens/\Un (dz outer) [] H H' s.heap s'.heap/\eJ P w H' s'.heap/\NS B outer J cls U s'.heap/\
 (∀ b o,s.heap.get? b=some o->H b=none->b∉dz outer->B.get? b=some o)/\(∀ b o,s.heap.get? b=some o->b∉dz outer->∃ o',B.get? b=some o')/\
 (∀ b u,H' b=some u->∃ o,B.get? b=some o)/\E cls none H'
theorem dD.no {P:Ka}{w:Ku}{outer:JP Env}{H:Hp}{s s':JZ}{e:JT}(h:dD P w outer H s (λ_ _ _=>LG) e s'):LG:=by
 obtain⟨_,_,_,_,_,_,_,_,_,_,_,_,_,_,z⟩:=h;exact z
theorem oa{fs:JP JR}{H H':Hp}{h h1 h2 B base:KP}{outer:JP Env}(hfs:fs=dz outer)(u:Un fs [] H H' h h1)(k1:∀ b o,h.get? b=some o->H b=none->b∉fs->B.get? b=some o)
  (k3:∀ b o,h.get? b=some o->b∉fs->∃ o',B.get? b=some o')(ff:h1.FunFrames base outer)(st:B.StaysIn h2)(up:h1.UpToSlots h2):Un fs [] H H' h h2:=by
 have fr:∀ b∈fs,∀ o,h1.get? b=some o->∃ sl,h2.get? b=some {o with slots:=sl}:=λb hb o e=>by
  rw[hfs] at hb;obtain⟨_,o',J,nf⟩:=ff.mem hb;rw[e] at J;cases J;exact up b o e nf
 refine⟨λb o e n hb _=>st b o (k1 b o e n hb),λb o e n hb U=>?_,u.free,λb o e U=>?_,u.tups,u.frzs,u.tbls⟩
 ·obtain⟨sl,I⟩:=u.slot b o e n hb U;obtain⟨aa,e2⟩:=fr b hb _ I;exact⟨aa,e2⟩
 ·by_cases hb:b∈fs
  ·obtain⟨o1,I⟩:=u.there b o e U;obtain⟨sl,e2⟩:=fr b hb _ I;exact⟨_,e2⟩
  ·obtain⟨o',J⟩:=k3 b o e hb;exact⟨o',st b o' J⟩
theorem ou{P:Ka}{w:Ku}{H:Hp}{h1 h2 B:KP}(x:eJ P w H h1)(k2:∀ b u,H b=some u->∃ o,B.get? b=some o)(s1:B.StaysIn h1)(s2:B.StaysIn h2):eJ P w H h2:=λb u e=>by
 refine(x b u e).stay (λc v J q=>?_) (λ_ q=>q) λ_ _ q=>q
 have ht:∃ z,H c=some z:=by
  rcases J with z|z
  ·subst z;exact⟨u,e⟩
  ·exact⟨_,z⟩
 obtain⟨z,U⟩:=ht;obtain⟨o,eo⟩:=k2 c z U;have:=s1 c o eo;rw[q] at this;cases this;exact s2 c v eo
section
variable {P : Ka} {w : Ku} {K : J7} {mg : Str -> JW JT} {base : KP} {N : JP Str} {qual : Str} {scope : MS} {f : JR} {cdv : JT} {A : K4} {outer : JP Env} {s₀ : JZ} {H₀ : Hp} {E E' : XK}
noncomputable def Raises(X:Cx)(E:XK):Prop:=∀(pins:JP (JR×Obj)) (σ:St) (H:Hp) (s:JZ) (h':KP) (J:JR) (cls:JT) (args:JP JT),Inv X pins σ H s->Heap.MadeExcOf s.heap h' J cls args->E cls none H->X.xe (.ref J) {s with heap:=h'}
theorem lu:Raises (eM (dD P w) P w K mg base N qual scope f cdv A outer s₀ H₀ E) E:=by
 intro pins σ H s h' ea cls args I hx hE;have stk:=I.stack;have U:∀ env∈(eM (dD P w) P w K mg base N qual scope f cdv A outer s₀ H₀ E).stack,∀ b,env.frame=some b->b∈dz (eM (dD P w) P w K mg base N qual scope f cdv A outer s₀ H₀ E).stack:=λenv he b hb=>List.mem_filterMap.mpr ⟨env,he,hb⟩
 have J:∀{b:JR} {o:Obj},s.heap.get? b=some o->b∉dz (eM (dD P w) P w K mg base N qual scope f cdv A outer s₀ H₀ E).stack->(NV s.heap (dz (eM (dD P w) P w K mg base N qual scope f cdv A outer s₀ H₀ E).stack)).get? b=some o:=λe hb=>W.hideAll_get _ e hb
 have hL:∀{b:JR} {o:Obj},s₀.heap.get? b=some o->b∉dz outer->b∉dz (eM (dD P w) P w K mg base N qual scope f cdv A outer s₀ H₀ E).stack:=λ{b o} e hb z=>by
  rcases List.mem_cons.mp (I.stkSub b z) with q|q
  ·have h1:=Kb e
   have h2:s₀.heap.objs.size<=(eM (dD P w) P w K mg base N qual scope f cdv A outer s₀ H₀ E).env.locals:=I.ok.above;rw[q] at h1;exact Kw _ (Km h1 h2)
  ·exact hb q
 show Kq (Ko P w) (A.deeper (Mz qual scope s₀.heap.objs.size f cdv)) (leaving (Mz qual scope s₀.heap.objs.size f cdv) (.ref ea)) _ _ _;refine wpAny_leaves_madeW (s:={s with heap:=h'}) (h:=s.heap) (base:=NV s.heap (dz (eM (dD P w) P w K mg base N qual scope f cdv A outer s₀ H₀ E).stack)) I.ok.frames rfl (λb o q=>Oz _ q) (W.funFrames_hide stk U) hx λaa t fl _ _ up=>?_
 have u0:Un (dz outer) [] H₀ H s₀.heap s.heap:=I.base
 have tr:∀ b u,H b=some u->b∉dz (eM (dD P w) P w K mg base N qual scope f cdv A outer s₀ H₀ E).stack:=λb u e z=>by rw[I.stkFree b z] at e;cases e
 have k1:∀ b o,s₀.heap.get? b=some o->H₀ b=none->b∉dz outer->(NV s.heap (dz (eM (dD P w) P w K mg base N qual scope f cdv A outer s₀ H₀ E).stack)).get? b=some o:=λb o e n hb=>J (u0.keep b o e n hb (by simp)) (hL e hb)
 have k3:∀ b o,s₀.heap.get? b=some o->b∉dz outer->∃ o',(NV s.heap (dz (eM (dD P w) P w K mg base N qual scope f cdv A outer s₀ H₀ E).stack)).get? b=some o':=λb o e hb=>by
  obtain⟨o',e'⟩:=u0.there b o e (by simp);exact⟨o',J e' (hL e hb)⟩
 have k2:∀ b u,H b=some u->∃ o,(NV s.heap (dz (eM (dD P w) P w K mg base N qual scope f cdv A outer s₀ H₀ E).stack)).get? b=some o:=λb u e=>by
  obtain⟨o,eo⟩:=(I.hok b u e).at;exact⟨o,J eo (tr b u e)⟩
 exact⟨ea,cls,.ref t,_,H,rfl,I.os,I.bare,oa rfl u0 k1 k3 I.funs fl.1 ((Heap.UpToSlots.of_keeps hx.keeps).trans up),ou I.hok k2 (λb o q=>Oz _ q) fl.1,fl,k1,k3,k2,hE⟩
theorem lH(hE:∀ cls od H',E' cls od H'->E cls od H'):Passes (dD P w) (eM (dD P w) P w K mg base N qual scope f cdv A outer s₀ H₀ E) E':=by
 intro pins σ H s e s' I h;obtain⟨ea,cls,a0,B,H',rfl,os,bare,un,hok,fl,k1,k3,k2,U⟩:=h;have stk:(eM (dD P w) P w K mg base N qual scope f cdv A outer s₀ H₀ E).stack=Mz qual scope s₀.heap.objs.size f cdv::outer:=rfl;have ae:dz (eM (dD P w) P w K mg base N qual scope f cdv A outer s₀ H₀ E).stack=s₀.heap.objs.size::dz outer:=rfl;have J:Un (dz outer) [] H₀ H s₀.heap s.heap:=I.base;have aa:∀{b:JR} {o:Obj},s₀.heap.get? b=some o->b∉dz outer->b∉dz (eM (dD P w) P w K mg base N qual scope f cdv A outer s₀ H₀ E).stack:=λ{b o} e hb z=>by
  rw[ae] at z;rcases List.mem_cons.mp z with q|q
  ·have h1:=Kb e;rw[q] at h1;exact Kw _ h1
  ·exact hb q
 show Kq (Ko P w) (A.deeper (Mz qual scope s₀.heap.objs.size f cdv)) (leaving (Mz qual scope s₀.heap.objs.size f cdv) (.ref ea)) _ _ _;refine wpAny_leaves_onW I.ok.frames rfl fl λag ab up=>?_
 have u1:Un (dz outer) [] H₀ H' s₀.heap s'.heap:=by
  refine⟨λb o e n hb U=>?_,λb o e n hb U=>?_,λb o e n U=>?_,λb o e U=>?_,λb xs q=>un.tups b xs (J.tups b xs q),λb ob u q=>un.frzs b ob u (J.frzs b ob u q),λb ps q=>?_⟩
  ·exact un.keep b o (J.keep b o e n hb U) (J.free b o e n U) (aa e hb) (by simp)
  ·obtain⟨sl,e1⟩:=J.slot b o e n hb U;obtain⟨af,e2⟩:=un.any e1 (J.free b o e n U) (by simp);exact⟨af,e2⟩
  ·obtain⟨o',e1⟩:=J.there b o e U;exact un.free b o' e1 (J.free b o e n U) (by simp)
  ·obtain⟨o',e1⟩:=J.there b o e U;exact un.there b o' e1 (by simp)
  ·obtain⟨m1,e1⟩:=J.tbls b ps q;obtain⟨m2,e2⟩:=un.tbls b _ e1;exact⟨m1++m2,by rw[e2,Array.append_assoc]⟩
 have K1:∀ b o,s₀.heap.get? b=some o->H₀ b=none->b∉dz outer->B.get? b=some o:=λb o e n hb=>k1 b o (J.keep b o e n hb (by simp)) (J.free b o e n (by simp)) (aa e hb)
 have K3:∀ b o,s₀.heap.get? b=some o->b∉dz outer->∃ o',B.get? b=some o':=λb o e hb=>by
  obtain⟨o',e1⟩:=J.there b o e (by simp);exact k3 b o' e1 (aa e hb)
 have ff:s'.heap.FunFrames B outer:=by
  obtain⟨_,_,⟨_,_,r⟩,_⟩:=fl;exact r
 exact⟨ea,cls,a0,B,H',rfl,os.trans I.os,bare,oa rfl u1 K1 K3 ff ab.1 up,ou hok k2 fl.1 ab.1,ab,K1,K3,k2,hE _ _ _ U⟩
end
theorem Iq{K:Kl}{h:KP}{C:JR}{bmB:JP JT}{newId:Mx}(X:K.In h)(q:W.excIn K C bmB newId=true):
  ∃ bm N nm qn bs hdct sn sub ab col dd k0 k1 k2 k3 k5 mN,h.get? C=some (excClassObj nm qn C N bs bm hdct sn sub ab col dd k0 k1 k2 k3 k5 newId)/\h.Ns N mN/\mN "__init__"=none/\OwnTail h bmB bm:=by
 unfold W.excIn at q;split at q
 ·rename_i dd cd sl ho;split at q
  ·rename_i C' bm k0 k1 k2 k3 n k5 hm hs;simp only[Lc,beq_iff_eq,MQ] at q;obtain⟨⟨⟨⟨⟨rfl,rfl⟩,J⟩,ht⟩,hok⟩,U⟩:=q;obtain⟨nm,bs,mro,ns,qn,hd,sn,sub,ab,col,del⟩:=cd;dsimp only at hm J hok U;subst hm J;have I:sl=#[k0,k1,k2,k3,some (.builtin n),k5]:=by
    obtain⟨l⟩:=sl;simp only at hs;rw[hs]
   subst I;exact⟨bm,ns,nm,qn,bs,hd,sn,sub,ab,col,dd,k0,k1,k2,k3,k5,_,X _ _ ho,.of_isNs (W.isNs_of_in X hok),W.nsMap_none_of_in X hok U,W.tail_of_in X ht⟩
  ·cases q
 ·cases q
section
variable {X : Cx} {E : XK}
noncomputable def Hb(C:JR)(E:XK)(t:TA):TS:=λ_ σ H=>t σ H λvs H1=>vs.length<=sizeLine/\E (.ref C) none H1
theorem kF{x:Str}{C:JR}{e:KI}{es:JP KI}{t:TA}{np cpos pos:Pos}{B Bn newId nid initId inN:Mx}{bmB bmN:JP JT}(hcalm:X.calm=true)(hq:W.excIn X.K C bmB newId=true)
  (Fn:ExcBaseFacts Bn newId inN bmN)(hBn:bmB.contains (.type Bn)=true)(FB:ExcBaseFacts B nid initId bmB)(hg:Gl X x)(hm:X.mg x=some (.ref C))(ha:PA X (e::es) t)(hR:Raises X E)
  (hdb:(x==("__debug__":Str))=false:=by decide)(he:KA (e::es) X.env=(false,eval e X.env)::KA es X.env:=by rfl)(hpl:(Mh cpos (KA es X.env)).any (·.1)=false:=by rfl):
  PS X (.Raise (some (.Call (.Name x np) (e::es) [] cpos)) none pos) (Hb C E t):=by
 intro pins s σ H D I h;obtain⟨tl,N,nm,qn,bs,hdct,sn,sub,ab,col,dd,k0,k1,k2,k3,k5,mN,hC,hN,U,T⟩:=Iq I.ok.mod.kin hq;refine wpAny_Raise_call_subU (C:=C) (nm:=nm) (q:=qn) (N:=N) (bs:=bs) (bm:=tl) (hdct:=hdct) (sn:=sn) (sub:=sub) (ab:=ab) (col:=col) (dd:=dd) (k0:=k0) (k1:=k1) (k2:=k2) (k3:=k3) (k5:=k5)
  Fn hBn FB (mN:=mN) (T.hasType FB.hasBase) (I.ok.hd hcalm) (by rw[he];show(false||(Mh cpos (KA es X.env)).any (·.1))=false;rw[hpl];rfl) U (jw I hg hm ⟨rfl,?_⟩ hdb);have hA:=ha cpos pins s σ H _ I h;rw[he] at hA ⊢;exact MX (cv hA λus s2 ⟨vs,H2,J,r,hz,hE⟩=>⟨rfl,by rw[<-r.length];exact hz,J.bk _ _ hC,hN.keeps J.bk,T.keeps J.bk,λh' ea mk=>hR pins σ H2 s2 h' ea (.ref C) us J mk hE⟩)
end
section
variable {P : Ka} {w : Ku} {K : J7} {mg : Str -> JW JT} {base : KP}
theorem ej.ok1 {x qual:Str}{st:K0}{f:JR}{fd:J2}{N ps:JP Str}{k:Nat}{sp:Sp}(F:ej K x qual st f fd)(S:da N ps (cG st))(len:∀ vs H Q E,sp vs H Q E->vs.length=ps.length)
  (hbody:∀(cdv:JT) (A:K4) (outer:JP Env) (s:JZ) (H:Hp) (vs:JP V) (Q:VK) (E:XK),eF k (A.deeper (Mz qual (cG st) s.heap.objs.size f cdv))->sp vs H Q E->
   ∃ t,cH (eM (dD P w) P w K mg base N qual (cG st) f cdv A outer s H E) (iC st) t/\t {nx:=λ_ H'=>Q .non H',rt:=Q} (start N vs) H):bX P w K mg base (dD P w) (k+1) f fd ps sp:=by
 obtain⟨oc,od,kV,doc,pm,an,cdv,ct,I,rfl,lk,J⟩:=F.ex;exact yS lk J S len λA outer s H vs Q E hr U=>hbody cdv A outer s H vs Q E hr U
end
noncomputable abbrev Cx.tr (X:Cx)(p:JP (JR×Obj))(E:JT->JZ->Prop):Cx:={X with pn:=p,xe:=E}
noncomputable def tL(X:Cx)(ea:JR)(p:JP (JR×Obj)):Cx:={X with A:=X.A.mark (some (.ref ea)),calm:=false,xe:=λ_ _=>LG,pn:=p}
noncomputable def qW(CX:gv)(X:Cx)(E:St->XK):Prop:=∀(pins:JP (JR×Obj)) (σ:St) (H:Hp) (s:JZ) (e:JT) (s':JZ),Inv X pins σ H s->CX X.stack H s (E σ) e s'->X.xe e s'
noncomputable def GX(sp:Sp)(dvs:JP V)(E:St->XK)(t:TA):TE:=λσ H Q=>t σ H λvs H1=>sp (vs++dvs) H1 Q (E σ)
section
variable {X : Cx} {CX : gv} {k : Nat} {f C : JR} {fd : J2} {ps : JP Str} {sp : Sp} {dvs : JP V} {ds : JP JT} {E : St -> XK} {x m : Str} {p pos apos : Pos} {e o : KI} {es : JP KI} {ta : TE} {t : TA}
theorem Eb{pins:JP (JR×Obj)}{σ:St}{H:Hp}{s:JZ}{Q:VK}{us:JP JT}{vs:JP V}(F:bX X.prog X.w X.K X.mg X.base CX k f fd ps sp)(hr:eF k X.A)(hb:Binds X.K fd ps ds)(hd:Vals dvs ds)(hx:qW CX X E)
  (I:Inv X pins σ H s)(r:Vals vs us)(h:sp (vs++dvs) H Q (E σ)):Kq (Ko X.prog X.w) X.A (call (.ref f) us) (EP X pins σ Q) X.xe s:=by
 have r2:Vals (vs++dvs) (us++ds):=r.append hd
 have U:(us++ds).length=ps.length:=by rw[<-r2.length];exact F.len _ _ _ _ h
 refine O4 (Nj (F.run X.A X.stack s H ⟨us,[]⟩ (us++ds) (vs++dvs) Q (E σ) hr I.env0 (hb s us I.kIn U) r2 h) λr s' J=>?_);cases r with
 |error e=>exact hx pins σ H s e s' I J
 |ok fl=>
  cases fl with
  |ret u=>exact I.after J
  |next=>exact La J
  |brk=>exact La J
  |cont=>exact La J
theorem Dd(F:bX X.prog X.w X.K X.mg X.base CX k f fd ps sp)(hr:eF k X.A)(hg:Gl X x)(hm:X.mg x=some (.ref f))(hk:ME X.K (.ref f)=true)(hb:Binds X.K fd ps ds)(hd:Vals dvs ds)(hx:qW CX X E)
  (ha:PA X (e::es) t)(hdb:(x==("__debug__":Str))=false:=by decide)(he:KA (e::es) X.env=(false,eval e X.env)::KA es X.env:=by rfl)(hpl:(Mh pos (KA es X.env)).any (·.1)=false:=by rfl):
  PE X (.Call (.Name x p) (e::es) [] pos) (GX sp dvs E t):=by
 intro pins s σ H Q I h;refine LU (jw I hg hm ?_ hdb);refine NR (h₀:=X.base) I.ok.mod.kin hk (cv (ha pos pins s σ H _ I h) λus s1 ⟨vs,H1,J,r,q⟩=>⟨J.kIn,?_⟩) he hpl;exact Eb F hr hb hd hx J r q
end
section
variable {X : Cx} {pins : JP (JR × Obj)} {σ : St} {H : Hp} {s : JZ}
end
section
variable {X : Cx}
end
structure ug (k : Nat) (A : K4) : Prop where
 dp : A.depth+3*k+5<OR
 un : A.units+16*k+200<Pc
theorem eF.toN {k:Nat}{A:K4}(r:eF k A):ug k A:=⟨r.dp,r.un⟩
theorem ug.units {k:Nat}{A:K4}(r:ug k A):A.units+100<Pc:=by have:=r.un;lia
theorem eF.units100 {k:Nat}{A:K4}(r:eF k A):A.units+100<Pc:=r.toN.units
section
variable {X : Cx} {k : Nat} {f C : JR} {fd : J2} {ps : JP Str} {sp : JP V -> Hp -> VK -> Prop} {dvs : JP V} {ds : JP JT} {x m : Str} {p pos apos : Pos} {e o : KI} {es : JP KI} {ta : TE} {t : TA}
end
end L2
namespace PySem.W
open PySem PySem.Spec PySem.Calls PyProof.Rows PySem.Builtin.ObjectAttr PySem.Builtin.Getset_descriptor PySem.Builtin
section
variable {prog : Ka} {w : Ku} {A : K4} {E : JT -> JZ -> Prop} {K : Frag} {x C : JR} {ox : Obj}
end
end PySem.W
namespace L2
open PySem PySem.Spec PyProof.Rows
theorem xW:∀{Cs:JP JR} {its:JP JT},Vals (Cs.map V.ref) its->its=Cs.map Ky
 |[],_,.nil=>rfl
 |_::_,_,.cons r1 r2=>by cases r1;rw[xW r2,KU]
section
variable {X : Cx}
end
theorem su{J:It}{g:TG}{tc:TT}{te:TE}{σ0:St}{H:Hp}{Q:VK}(n:Nat)(Pv:Nat->JP V->Hp->Prop)(hz:n<sizeLine)(hgo:∀ i ys H,i<n->Pv i ys H->J.go i H)(hstop:∀ ys H,Pv n ys H->J.stop n H)(h0:Pv 0 [] H)
  (hs:∀ i ys H x H' (N:JP V->Hp->Prop),i<n->Pv i ys H->J.yld i H x H'->(∀ ys' H2,Pv (i+1) ys' H2->N ys' H2)->
   g x σ0 H' λσ2 H2=>tc σ2 H2 λb H3=>if b=true then te σ2 H3 λy H4=>N (ys++[y]) H4 else N ys H3)
  (hd:∀ ys H,Pv n ys H->ys.length<=n->∀ p,H p=none->Q (.ref p) (upd H p (.lst ys))):
  oy J g tc te σ0 Q H:=by
 refine⟨λi m ys H=>m=n-i/\i<=n/\ys.length<=i/\Pv i ys H,⟨n,by simp,Ks _,JY _,h0⟩,?_⟩;rintro i m ys H ⟨rfl,hi,hl,p⟩;by_cases I:i<n
 ·refine .inr ⟨hgo i ys H I p,by(clear I;lia),λx H' y=>?_⟩;have key:=hs i ys H x H' (λys' H2=>(ys'.length<=ys.length+1->∃ U,U<n-i/\U=n-(i+1)/\i+1<=n/\ys'.length<=i+1/\Pv (i+1) ys' H2)) I p y (λys' H2 q hle=>⟨n-(i+1),by(clear hle hl hi hz;lia),rfl,I,by(clear I hi hz;lia),q⟩);have e:(λσ2 H2=>tc σ2 H2 λb H3=>if b=true then te σ2 H3 λy H4=>((ys++[y]).length<=ys.length+1->∃ U,U<n-i/\U=n-(i+1)/\i+1<=n/\(ys++[y]).length<=i+1/\Pv (i+1) (ys++[y]) H4)
    else (ys.length<=ys.length+1->∃ U,U<n-i/\U=n-(i+1)/\i+1<=n/\ys.length<=i+1/\Pv (i+1) ys H3))=
   (λσ2 H2=>tc σ2 H2 λb H3=>if b=true then te σ2 H3 λy H4=>∃ U,U<n-i/\U=n-(i+1)/\i+1<=n/\(ys++[y]).length<=i+1/\Pv (i+1) (ys++[y]) H4
    else ∃ U,U<n-i/\U=n-(i+1)/\i+1<=n/\ys.length<=i+1/\Pv (i+1) ys H3):=by
   funext σ2 H2
   congr 1
   funext b H3
   have e1:∀(y:V) (H4:Hp),((ys++[y]).length<=ys.length+1->∃ U,U<n-i/\U=n-(i+1)/\i+1<=n/\(ys++[y]).length<=i+1/\Pv (i+1) (ys++[y]) H4)=(∃ U,U<n-i/\U=n-(i+1)/\i+1<=n/\(ys++[y]).length<=i+1/\Pv (i+1) (ys++[y]) H4):=λy H4=>
    propext ⟨λq=>q (by simp),λq _=>q⟩
   have e2:(ys.length<=ys.length+1->∃ U,U<n-i/\U=n-(i+1)/\i+1<=n/\ys.length<=i+1/\Pv (i+1) ys H3)=(∃ U,U<n-i/\U=n-(i+1)/\i+1<=n/\ys.length<=i+1/\Pv (i+1) ys H3):=propext ⟨λq=>q (by(clear I hl hi hz;lia)),λq _=>q⟩;simp only[e1,e2]
  rw[e] at key;exact key
 ·have e:i=n:=by(clear hl hz;lia)
  subst e;exact .inl ⟨hstop ys H p,by(clear I hi;lia),hd ys H p hl⟩
theorem wu{x:Str}{g:TG}{tc:TT}{te:TE}{σ0:St}{H:Hp}{Q:VK}(Pv:Nat->JP V->Hp->Prop)(hz:x.cps.size<sizeLine)(h0:Pv 0 [] H)
  (hs:∀ i c ys H (N:JP V->Hp->Prop),x.cps[i]? =some c->Pv i ys H->(∀ ys' H2,Pv (i+1) ys' H2->N ys' H2)->
   g (.str ⟨#[c]⟩) σ0 H λσ2 H2=>tc σ2 H2 λb H3=>if b=true then te σ2 H3 λy H4=>N (ys++[y]) H4 else N ys H3)
  (hd:∀ ys H,Pv x.cps.size ys H->ys.length<=x.cps.size->∀ p,H p=none->Q (.ref p) (upd H p (.lst ys))):oy (uh x) g tc te σ0 Q H:=su x.cps.size Pv hz (λi ys H hi _=>hi) (λys H _=>rfl) h0
 (λi ys H v H' N hi p y J=>by
  obtain⟨e,c,U,I⟩:=y;subst e I;exact hs i c ys _ N U p J) hd
theorem rW{lo:Int}{n:Nat}{g:TG}{tc:TT}{te:TE}{σ0:St}{H:Hp}{Q:VK}(Pv:Nat->JP V->Hp->Prop)(hz:n<sizeLine)(h0:Pv 0 [] H)
  (hs:∀ i ys H (N:JP V->Hp->Prop),i<n->Pv i ys H->(∀ ys' H2,Pv (i+1) ys' H2->N ys' H2)->
   g (.int (lo+i)) σ0 H λσ2 H2=>tc σ2 H2 λb H3=>if b=true then te σ2 H3 λy H4=>N (ys++[y]) H4 else N ys H3)
  (hd:∀ ys H,Pv n ys H->ys.length<=n->∀ p,H p=none->Q (.ref p) (upd H p (.lst ys))):oy (my lo n) g tc te σ0 Q H:=su n Pv hz (λi ys H hi _=>hi) (λys H _=>JY _) h0
 (λi ys H v H' N hi p y J=>by
  obtain⟨e,U⟩:=y;subst e U;exact hs i ys _ N hi p J) hd
theorem rC{K:Kl}{a:JR}{xs:JP V}{g:TG}{tc:TT}{te:TE}{σ0:St}{H:Hp}{Q:VK}(Pv:Nat->JP V->Hp->Prop)(hz:xs.length<sizeLine)(hl:∀ i ys H,Pv i ys H->ck K H a xs)(h0:Pv 0 [] H)
  (hs:∀ i x ys H (N:JP V->Hp->Prop),xs[i]? =some x->Pv i ys H->(∀ ys' H2,Pv (i+1) ys' H2->N ys' H2)->
   g x σ0 H λσ2 H2=>tc σ2 H2 λb H3=>if b=true then te σ2 H3 λy H4=>N (ys++[y]) H4 else N ys H3)
  (hd:∀ ys H,Pv xs.length ys H->ys.length<=xs.length->∀ p,H p=none->Q (.ref p) (upd H p (.lst ys))):oy (om K a) g tc te σ0 Q H:=su xs.length Pv hz
 (λi ys H hi p=>⟨xs,xs[i],hl i ys H p,by simp[hi]⟩) (λys H p=>⟨xs,hl _ ys H p,JY _⟩) h0
 (λi ys H v H' N hi p y J=>by
  obtain⟨e,y⟩:=y;subst e;exact hs i v ys _ N (y xs (hl i ys _ p)) p J) hd
@[elab_as_elim] theorem iE {α:Type}{p:JP α->Prop}(h:∀ a,p [a])(us:JP α)(hl:us.length=1):p us:=by
 obtain⟨a,rfl⟩:=List.length_eq_one_iff.mp hl;exact h a
@[elab_as_elim] theorem eU {α:Type}{p:JP α->Prop}(h:∀ a b,p [a,b])(us:JP α)(hl:us.length=2):p us:=by
 cases us with
 |nil=>cases hl
 |cons a r=>exact @iE _ (λr=>p (a::r)) (λb=>h a b) r (Nat.succ.inj hl)
@[elab_as_elim] theorem jD {α:Type}{p:JP α->Prop}(h:∀ a b c,p [a,b,c])(us:JP α)(hl:us.length=3):p us:=by
 cases us with
 |nil=>cases hl
 |cons a r=>exact @eU _ (λr=>p (a::r)) (λb c=>h a b c) r (Nat.succ.inj hl)
@[elab_as_elim] theorem w5 {α:Type}{p:JP α->Prop}(h:∀ a b c d,p [a,b,c,d])(us:JP α)(hl:us.length=4):p us:=by
 cases us with
 |nil=>cases hl
 |cons a r=>exact @jD _ (λr=>p (a::r)) (λb c d=>h a b c d) r (Nat.succ.inj hl)
section
variable {X : Cx}
theorem CZ{i:Nat}{x:Str}{pos' spos:Pos}{elt target iter:KI}{ifs:JP KI}{scope sc0:MS}{pos:Pos}{N N0:JP Str}{own:Nat}{caps:JP Nat}{wi:TI}{g:TG}{tc:TT}{te t':TE}
  (hNd:X.N.Nodup)(hxi:X.N[i]? =some x)(hx:Loc X.env.scope x)
  (hcalm:X.calm=true)(hi:PI X target iter wi)
  (hg:∀ s₀ H₀ ex,PG (dJ X scope N s₀ H₀ ex) target g)(hc:∀ s₀ H₀ ex,cP (dJ X scope N s₀ H₀ ex) ifs tc)(he:∀ s₀ H₀ ex,PE (dJ X scope N s₀ H₀ ex) elt te)(hk:nP own g)
  (hX:X.N=N0)(hsc:X.env.scope=sc0)
  (hcell:∀ y∈scope.names,y.2≠ .cell)(hkind:scope.kind= .function)(hnames:∀ y∈scope.names,y.2= .local->scope.names.lookup y.1=some .local)
  (hfree:∀ y∈scope.names,y.2= .free->sc0.names.lookup y.1=some .cell)(hN:N.length=own+caps.length)
  (hcap:∀ p∈caps.zip (N.drop own),N0[p.1]? =some p.2/\scope.names.lookup p.2=some .free)
  (himp:∀ σ H Q,t' σ H Q->qG own caps wi g tc te σ H Q)
  (hs:∀ x,Me iter X.env x=pure x:=by intro _;rfl)
  (hsw:Ol (.ListComp elt [⟨target,iter,ifs,0⟩] scope pos) (some (.Name x pos')) spos.line X.env=pure true:=by rfl)
  (hf:X.fn x=true\/X.env.scope.names.lookup x=some .local:=by first|exact .inl rfl|exact .inr rfl|assumption):
  PS X (.Assign [.Name x pos'] (.ListComp elt [⟨target,iter,ifs,0⟩] scope pos) spos) (p9 t' (g6 i)):=by
 intro pins s σ H D I h;rw[exec_Assign_Name_used _ _ _ _ hsw];refine J8 (MH (J8 ?_));show Kq _ X.A (do let _<-comprehension (.ListComp elt [⟨target,iter,ifs,0⟩] scope pos) scope X.env _ (newList []) false (eval iter X.env) (some (assign (.Name x pos') X.env))) _ _ s;refine J8 (KY (yl (use:=some (assign (.Name x pos') X.env)) (Qf:=λ_ s'=>SP X pins D .next s') hcalm hi hg hc he hk hX hsc hcell hkind hnames hfree hN hcap hs I (himp _ _ _ h) ?_) (λ_ s' hq=>KN (KN hq)) λ_ _ e=>e);intro U C s' He ys m f hn hI J q;show Kq _ X.A (assign (.Name x pos') X.env (.ref U)) _ _ s';have I1:Inv X pins σ (upd He U (.lst ys)) s':=hI s'.heap ⟨rfl,λ_ _=>rfl⟩;refine wpAny_assign_Name (A8 (v:= .ref U) I1 hNd hxi hx rfl (λaa I2 ⟨a,ab,ha⟩=>?_) hf);have ae:C≠a:=by
  rcases ha with rfl|ha
  ·exact J.2.1
  ·exact λz=>J.2.2.2.2.1 _ _ ha z.symm
 refine⟨m,hn.sameBut ab ae,λh' af=>⟨_,_,I2.turnedL (fp:=[C]) (t':=aa.toks) (λb o hb e=>(af.2 b (λz=>hb (by rw[z];exact List.mem_singleton.mpr rfl))).trans e) (λb hb=>?_),q⟩⟩;rw[List.mem_singleton.mp hb];exact J
end
section
variable {X : Cx} {CX : gv} {k : Nat} {f C : JR} {fd : J2} {ps : JP Str} {ds : JP JT} {dvs : JP V} {sp : Sp} {m : Str} {pos apos : Pos} {e o : KI} {es : JP KI} {ta : TE} {t : TA} {E : St -> XK}
end
section
variable {κ : Type} [LY κ]
noncomputable def eO(kvs:JP (κ×V))(k:κ):JW V:=(kvs.find? λJ=>decide (J.1=k)).map (·.2)
noncomputable def putK(kvs:JP (κ×V))(k:κ)(v:V):JP (κ×V):=
 if (kvs.any λJ=>decide (J.1=k))=true then kvs.map (λJ=>if J.1=k then (J.1,v) else J) else kvs++[(k,v)]
theorem w6{p:κ×V}{r:JP (κ×V)}{k:κ}(e:p.1=k):eO (p::r) k=some p.2:=by simp[eO,List.find?_cons,e]
theorem vQ{p:κ×V}{r:JP (κ×V)}{k:κ}(e:¬ p.1=k):eO (p::r) k=eO r k:=by simp[eO,List.find?_cons,e]
theorem EV(kvs:JP (κ×V))(k:κ)(v:V):(putK kvs k v).length<=kvs.length+1:=by
 unfold putK;split
 ·rw[JX];lia
 ·rw[JU,JV,Mc];lia
theorem gY.getD {o:JW V}{u:JW JT}{d:V}{d':JT}(r:gY o u)(rd:RelV d d'):RelV (o.getD d) (u.getD d'):=by
 cases o with
 |none=>cases u with
  |none=>exact rd
  |some _=>exact(show LG from r).elim
 |some _=>cases u with
  |none=>exact(show LG from r).elim
  |some _=>exact r
theorem KV.val {kvs:JP (κ×V)}{vs:JP (κ×JT)}(r:KV kvs vs)(k:κ):gY (eO kvs k) (OD vs k):=by
 unfold KV at r;induction r with
 |nil=>exact Mi
 | @cons p q ps qs h t U=>
  obtain⟨h1,h2⟩:=h;by_cases e:p.1=k
  ·have J:q.1=k:=h1.symm.trans e
   have b:OD (q::qs) k=some q.2:=by simp[OD,List.find?_cons,J]
   rw[w6 e,b];exact h2
  ·have J:¬ q.1=k:=λz=>e (h1.trans z)
   have b:OD (q::qs) k=OD qs k:=by simp[OD,List.find?_cons,J]
   rw[vQ e,b];exact U
theorem KV.any {kvs:JP (κ×V)}{vs:JP (κ×JT)}(r:KV kvs vs)(k:κ):(kvs.any λkv=>decide (kv.1=k))=vs.any λkv=>decide (kv.1=k):=by
 unfold KV at r;induction r with
 |nil=>rfl
 |cons h t J=>rw[Oi,Oi,J,h.1]
theorem KV.repl {kvs:JP (κ×V)}{vs:JP (κ×JT)}(r:KV kvs vs)(k:κ){y:V}{u:JT}(ry:RelV y u):
  KV (kvs.map λkv=>if kv.1=k then (kv.1,y) else kv) (vs.map λkv=>if kv.1=k then (kv.1,u) else kv):=by
 unfold KV at r ⊢;induction r with
 |nil=>exact .nil
 | @cons p q ps qs h t J=>
  rw[KU,KU];refine .cons ?_ J;obtain⟨h1,h2⟩:=h;by_cases e:p.1=k
  ·rw[J1 e,J1 (h1.symm.trans e)];exact⟨h1,ry⟩
  ·rw[if_neg e,if_neg (λz=>e (h1.trans z))];exact⟨h1,h2⟩
theorem KV.put {kvs:JP (κ×V)}{vs:JP (κ×JT)}(r:KV kvs vs)(k:κ){y:V}{u:JT}(ry:RelV y u):KV (putK kvs k y) (stored vs k u):=by
 unfold putK stored;rw[r.any k];by_cases e:(vs.any λJ=>decide (J.1=k))=true
 ·rw[J1 e,J1 e];exact r.repl k ry
 ·rw[if_neg e,if_neg e];exact Paired.snoc r ⟨rfl,ry⟩
end
theorem pN{P:Ka}{w:Ku}{k:Key}{u:JT}(r:RelV (kV k) u):(g7 P w).is k u=true:=by
 cases k with
 |inl i=>obtain⟨t,e⟩:=(show ∃ t,u=Nu i t from r);subst e;exact EN P w i t
 |inr x=>obtain⟨t,e⟩:=(show ∃ t,u=NU x t from r);subst e;exact FC P w x t
theorem As{P:Ka}{w:Ku}:∀{ks:JP Key} {us:JP JT},Vals (ks.map kV) us->ItemsAre (g7 P w) ks us
 |[],_,r=>by rw[OC] at r;cases r;exact .nil
 |k::ks,_,r=>by
  rw[KU] at r;cases r with
  |cons h t=>exact .cons (pN h) (As t)
noncomputable abbrev KT(H:Hp):JP (JP Key×V)->JP (JP Key×JR×JT)->Prop:=Lo λp q=>p.1=q.1/\H q.2.1=some (.tup (p.1.map kV))/\RelV p.2 q.2.2
theorem KT.val {H:Hp}{kvs:JP (JP Key×V)}{xs:JP (JP Key×JR×JT)}(r:KT H kvs xs)(k:JP Key):gY (eO kvs k) ((atKey xs k).map (·.2)):=by
 induction r with
 |nil=>exact Mi
 | @cons p q ps qs h t U=>
  obtain⟨h1,_,h2⟩:=h;by_cases e:p.1=k
  ·have J:q.1=k:=h1.symm.trans e
   have b:atKey (q::qs) k=some q.2:=by simp[atKey,List.find?_cons,J]
   rw[w6 e,b];exact h2
  ·have J:¬ q.1=k:=λz=>e (h1.trans z)
   have b:atKey (q::qs) k=atKey qs k:=by simp[atKey,List.find?_cons,J]
   rw[vQ e,b];exact U
section
variable {P : Ka} {w : Ku} {H : Hp} {h : KP} {a : JR}
theorem zb{u:HO}(ok:eJ P w H h)(e:Rd H a u):e6 P w H h a u:=e.ok ok
theorem uy{kvs:JP (Key×V)}(ok:eJ P w H h)(e:Rd H a (.dK kvs)):kvs.length<=sizeLine/\(a==Mg)=false/\∃ vs,KV kvs vs/\h.DictOf (g7 P w) a vs:=
 show e6 P w H h a (.dK kvs) from zb ok e
theorem Fw{kvs:JP (Key×V)}(ok:eJ P w H h)(e:H a=some (.dK kvs)):kvs.length<=sizeLine/\(a==Mg)=false/\∃ vs,KV kvs vs/\h.DictOf (g7 P w) a vs:=uy ok (.inl e)
theorem AZ{ks:JP Key}(ok:eJ P w H h)(e:H a=some (.tup (ks.map kV))):(tupleKind (g7 P w)).is h ks a:=by
 obtain⟨_,J,r,o,h1,h2,n,U⟩:=(show e6 P w H h a (.tup (ks.map kV)) from ok a _ e);exact⟨o,J.toArray,n,h1,h2,U,by simpa using As r⟩
theorem yA{kvs:JP (JP Key×V)}(ok:eJ P w H h)(e:Rd H a (.dT kvs)):kvs.length<=sizeLine/\(a==Mg)=false/\
  ∃ xs,KT H kvs xs/\h.DictOfH (tupleKind (g7 P w)) a xs:=by
 obtain⟨z,y,xs,r,o,es,U,h1,h2,I,h4,h5⟩:=(show e6 P w H h a (.dT kvs) from zb ok e);refine⟨z,y,xs,r,o,es,U,h1,h2,I,h4,λx hx=>?_,h5⟩;have all:∀{l:JP (JP Key×V)} {m:JP (JP Key×JR×JT)},KT H l m->∀ x∈m,(tupleKind (g7 P w)).is h x.1 x.2.1:=by
  intro l m q;induction q with
  |nil=>intro x hx;exact nomatch hx
  | @cons p q ps qs J t ih=>
   intro x hx;rcases List.mem_cons.mp hx with e|hx
   ·subst e;exact AZ ok (by rw[<-J.1];exact J.2.1)
   ·exact ih x hx
 exact all r x hx
end
noncomputable def vL(H:Hp)(a:JR)(y:V)(r:JW V):Prop:=
 (∃ kvs k,Rd H a (.dK kvs)/\y=kV k/\r=eO kvs k)\/∃ kvs k b,Rd H a (.dT kvs)/\y= .ref b/\H b=some (.tup (k.map kV))/\r=eO kvs k
section
variable {X : Cx} {pins : JP (JR × Obj)} {σ : St} {H : Hp} {s : JZ} {a : JR} {y v : V} {u r : JT} {o : JW V} {A : K4} {E : JT -> JZ -> Prop}
theorem Inv.big (I:Inv X pins σ H s):Mg<s.heap.objs.size:=by
 have h:Kc<s.heap.objs.size:=(I.mod.glob.keeps I.bk).lt;exact Nat.lt_trans (by decide) h
theorem FG{Q:JT->JZ->Prop}(hu:A.units+1<Pc)(I:Inv X pins σ H s)(g:vL H a y (some v))(ry:RelV y u)(h:∀ w' s',Inv X pins σ H s'->RelV v w'->Q w' s'):
  Kq (Ko X.prog X.w) A (O7 (.ref a) u) Q E s:=by
 rcases g with ⟨kvs,k,e,U,l⟩|⟨kvs,k,b,e,U,eb,l⟩
 ·subst U;obtain⟨z,hd,vs,rel,dd⟩:=uy I.hok e;obtain⟨w',hw,J⟩:=gY.some_of (v:=v) (o:=OD vs k) (by rw[l];exact rel.val k);exact wpAny_getItem_of (pN ry) dd.mapOf hw (h w' _ (I.tok _) J)
 ·subst U;cases (show u=Ky b from ry);obtain⟨z,hd,xs,rel,dd⟩:=yA I.hok e;obtain⟨w',hw,J⟩:=gY.some_of (v:=v) (o:=(atKey xs k).map (·.2)) (by rw[l];exact rel.val k);obtain⟨p,hp,aa⟩:=Option.map_eq_some_iff.mp hw;refine wpAny_getItem_heap (tupleKind_room_in1 hu) (AZ I.hok eb) dd hp ?_;rw[aa];exact h w' _ (I.tok _) J
theorem Jq{h':KP}{t':Nat}{ob:HO}(I:Inv X pins σ H s)(mu:qh (H a))(hs:Md a s.heap h')(he:∃ q,h'.get? a=some q)(new:e6 X.prog X.w (upd H a ob) h' a ob):
  Inv X pins σ (upd H a ob) {s with heap:=h',toks:=t'}:=
 I.write (x:=a) (e:=a) mu (.inl rfl) (λb q hb z=>(hs.2 b hb).trans z) he new
theorem GH{P:Ka}{w:Ku}{H':Hp}{h':KP}{kvs:JP (Key×V)}{vs:JP (Key×JT)}(z:kvs.length<=sizeLine)(hd:(a==Mg)=false)(rel:KV kvs vs)(dd:h'.DictOf (g7 P w) a vs):
  e6 P w H' h' a (.dK kvs):=⟨z,hd,vs,rel,dd⟩
end
section
variable {X : Cx} {pins : JP (JR × Obj)} {σ : St} {H : Hp} {s : JZ} {a : JR} {kvs : JP (Key × V)} {k : Key} {u : JT} {A : K4} {E : JT -> JZ -> Prop}
end
noncomputable def tX(i:KI):Prop:=∀ J U,OS i false J U=operate [J,U] (O7 J U)
theorem AW{prog:Ka}{w:Ku}{A:K4}{E:JT->JZ->Prop}{s:JZ}{env:Env}{value slice:KI}{pos:Pos}{T id:Mx}{Q:JT->JZ->Prop}
  (hl:typeLookup (.type T) "__getitem__"=pure (some (.builtin id)))(hs:tX slice)
  (h:Kq (Ko prog w) A (eval value env) (λo s₁=>Kq (Ko prog w) A (eval slice env) (λi s₂=>s₂.TypeIs o T/\Kq (Ko prog w) A (O7 o i) Q E s₂) E s₁) E s):
  Kq (Ko prog w) A (eval (.Subscript value slice pos) env) Q E s:=by
 refine Subscript_ (KY h (λo s₁ I=>KY I (λi s₂ J=>?_) λ_ _ x=>x) λ_ _ x=>x);obtain⟨hT,J⟩:=J;unfold subscriptTail;refine J8 ?_;rw[getitemInPython_of_ne hT.not_modules];refine J8 (wpAny_specialOf hT hl ?_);have fin:Kq (Ko prog w) A (OS slice false o i) (λr U=>Kq (Ko prog w) A (letTemporaryGo value o r >>= λ_=>pure r) Q E U) E s₂:=by
  rw[hs o i];exact wpAny_operating (KY J (λr U aa=>J8 (wpAny_letTemporaryGo (KN aa))) λ_ _ x=>x)
 first
  |exact KN (J8 fin)
  |exact J8 (KN (J8 fin))
  |exact J8 fin
theorem E8{X:Cx}{pins:JP (JR×Obj)}{σ:St}{H:Hp}{s:JZ}{a:JR}{y:V}{o:JW V}(I:Inv X pins σ H s)(g:vL H a y o):s.TypeIs (.ref a) "dict":=by
 rcases g with ⟨kvs,k,e,_,_⟩|⟨kvs,k,b,e,_,_,_⟩
 ·obtain⟨_,_,vs,_,dd⟩:=uy I.hok e;exact dd.typeIs
 ·obtain⟨_,_,xs,_,dd⟩:=yA I.hok e;exact dd.typeIs
noncomputable def IM(td ty:TE):TE:=λσ H Q=>td σ H λx H1=>ty σ H1 λy H2=>∃ a v,x= .ref a/\vL H2 a y (some v)/\Q v H2
section
variable {X : Cx} {o i e value : KI} {pos pos' tpos : Pos} {td ty tv : TE}
theorem BU(hu:X.A.units+1<Pc)(ho:PE X o td)(hi:PE X i ty)(hs:tX i):PE X (.Subscript o i pos) (IM td ty):=by
 intro pins s σ H Q I h;refine AW F.slot_dict_getitem.lookup hs (cv (ho pins s σ H _ I h) λu s1 ⟨x,H1,I1,rx,q1⟩=>cv (hi pins s1 σ H1 _ I1 q1) λiv s2 ⟨y,H2,U,ry,a,v,ex,g,q2⟩=>?_);subst ex;obtain rfl:u=Ky a:=rx;exact⟨E8 U g,FG hu U g ry λw' s3 I3 J=>⟨v,H2,I3,J,q2⟩⟩
end
theorem ED{P:Ka}{w:Ku}{H:Hp}(h:KP)(hb:Mg<h.objs.size):e6 P w H (h.push {cls:= .type "dict",data:= .dict #[]}) h.objs.size (.dK []):=
 ⟨Ks _,beq_eq_false_iff_ne.mpr (K5 (Kr hb)),[],.nil,Heap.DictOf.new h⟩
section
variable {X : Cx} {pos : Pos}
end
noncomputable def vA:JP (TE×TE)->St->Hp->(JP (V×V)->Hp->Prop)->Prop
 |[],_,H,Q=>Q [] H
 |(tk,tv)::r,σ,H,Q=>tk σ H λx H1=>tv σ H1 λy H2=>vA r σ H2 λps J=>Q ((x,y)::ps) J
noncomputable abbrev VV:JP (V×V)->JP (JT×JT)->Prop:=Lo λp q=>RelV p.1 q.1/\RelV p.2 q.2
noncomputable def qS(X:Cx)(pos:Pos)(keys:JP (JW KI))(values:JP KI)(trs:JP (TE×TE)):Prop:=
 ∀(pins:JP (JR×Obj)) (s:JZ) (σ:St) (H:Hp) (Q:JP (V×V)->Hp->Prop),Inv X pins σ H s->vA trs σ H Q->
  Kq (Ko X.prog X.w) X.A (evalPairs (pairTrees keys values X.env pos)) (λvs s'=>∃ ps H',Inv X pins σ H' s'/\VV ps vs/\Q ps H') X.xe s
theorem B6{X:Cx}{pos:Pos}:qS X pos [] [] []:=λpins s σ H Q I h=>pairTrees_nil_walk ⟨[],H,I,.nil,h⟩
theorem qV{X:Cx}{pos:Pos}{k v:KI}{ks:JP (JW KI)}{vs:JP KI}{tk tv:TE}{trs:JP (TE×TE)}(hk:PE X k tk)(hv:PE X v tv)(hr:qS X pos ks vs trs):
  qS X pos (some k::ks) (v::vs) ((tk,tv)::trs):=λpins s σ H Q I h=>
 pairTrees_cons_walk (cv (hk pins s σ H _ I h) λu s1 ⟨x,H1,J,U,q1⟩=>cv (hv pins s1 σ H1 _ J q1) λw2 s2 ⟨y,H2,I2,ry,q2⟩=>
  cv (hr pins s2 σ H2 _ I2 q2) λws s3 ⟨ps,H3,I3,rel,q3⟩=>⟨(x,y)::ps,H3,I3,.cons ⟨U,ry⟩ rel,q3⟩)
noncomputable def pB(kvs more:JP (Key×V)):JP (Key×V):=more.foldl (λacc J=>putK acc J.1 J.2) kvs
theorem KV.merge:∀{more:JP (Key×V)} {rs:JP (Key×JT)} {kvs:JP (Key×V)} {vs:JP (Key×JT)},KV more rs->KV kvs vs->KV (pB kvs more) (merged vs rs):=by
 intro more rs kvs vs r;unfold KV at r;induction r generalizing kvs vs with
 |nil=>intro q;exact q
 | @cons p q ps qs h t J=>
  intro U;have e:KV (putK kvs p.1 p.2) (stored vs q.1 q.2):=by
   have:=U.put p.1 h.2;rw[<-h.1];exact this
  exact J e
theorem Bb:∀(more kvs:JP (Key×V)),(pB kvs more).length<=kvs.length+more.length
 |[],kvs=>by show kvs.length<=kvs.length+0;lia
 |p::r,kvs=>by
  have h1:=Bb r (putK kvs p.1 p.2)
  have h2:=EV kvs p.1 p.2
  show(pB (putK kvs p.1 p.2) r).length<=_;rw[JV];lia
theorem zS{P:Ka}{w:Ku}:∀{kvs:JP (Key×V)} {ws:JP (JT×JT)},VV (kvs.map λkv=>(kV kv.1,kv.2)) ws->∃ rs,Carries (g7 P w) ws rs/\KV kvs rs
 |[],_,r=>by rw[OC] at r;cases r;exact⟨[],Mi,.nil⟩
 |p::kvs,_,r=>by
  rw[KU] at r;cases r with
  | @cons a b as bs h t=>
   obtain⟨rs,c,q⟩:=zS (P:=P) (w:=w) t;obtain⟨b1,J⟩:=b;exact⟨(p.1,J)::rs,⟨pN h.1,rfl,c⟩,.cons ⟨rfl,h.2⟩ q⟩
noncomputable def Hy(trs:JP (TE×TE)):TE:=λσ H Q=>∀ p,H p=none->vA trs σ (upd H p (.dK [])) λps H2=>H2 p=some (.dK [])/\∃ kvs:JP (Key×V),ps=kvs.map (λJ=>(kV J.1,J.2))/\kvs.length<=15/\Q (.ref p) (upd H2 p (.dK (pB [] kvs)))
theorem CG{X:Cx}{pos:Pos}{keys:JP (JW KI)}{values:JP KI}{trs:JP (TE×TE)}(h:qS X pos keys values trs)(hall:keys.all (·.isSome)=true)(hl:keys.length=values.length)(h0:keys≠[])
  (h15:keys.length<=15):PE X (.Dict keys values pos) (Hy trs):=by
 intro pins s σ H Q I q;have hn:=I.hok.fresh (JY s.heap.objs.size);have I1:=I.laid (a:=s.heap.objs.size) (o:= .dK []) (h':=s.heap.push {cls:= .type "dict",data:= .dict #[]}) (t':=s.toks) (λ_ _ q=>Heap.get?_push_of_some _ q) (JY _) (ED s.heap I.big);refine wpAny_Dict_walk (knd:=g7 X.prog X.w) hall hl h0 h15 (cv (h pins _ σ _ _ I1 (q _ hn)) λws s2 ⟨ps,H2,U,rel,e,kvs,ep,lk,q2⟩=>?_);subst ep;obtain⟨rs,c,rk⟩:=zS (P:=X.prog) (w:=X.w) rel;obtain⟨z,hd,aa,r0,dd⟩:=Fw U.hok e;cases r0;refine⟨rs,c,dd,λh' J hs=>⟨.ref s.heap.objs.size,_,?_,rfl,q2⟩⟩;have hz:(pB [] kvs).length<=sizeLine:=by
  have h1:=Bb kvs [];rw[Mc] at h1;rw[Kv];lia
 have he:∃ q,h'.get? s.heap.objs.size=some q:=let ⟨q,_,_,hq,_⟩:=J;⟨q,hq⟩;exact Jq U (by rw[e];exact Mi) hs he (GH hz hd (rk.merge .nil) J)
structure M1 (X : Cx) (o : KI) (m : Str) (apos : Pos) (e : KI) (cpos : Pos) : Prop where
 base : MI o m X.env (eval o X.env) = eval o X.env
 few : ((Mh cpos (KA [e] X.env)).all (λx => !x.1)&&(O6 cpos (Ob [] X.env)).all (λx => x.1.isSome)
  && decide (([e] : JP KI).length+([] : JP Keyword).length+(if ([] : JP Keyword).isEmpty then 0 else 1)<30)) = true
 line : (apos.endLine==cpos.line) = true
 trees : Mh cpos (KA [e] X.env) = [(false, eval e X.env)]
section
variable {X : Cx} {pins : JP (JR × Obj)} {σ : St} {H : Hp} {s : JZ} {a : JR} {y d : V} {u r : JT} {o : JW V} {A : K4} {E : JT -> JZ -> Prop}
end
section
variable {X : Cx} {o e f : KI} {apos cpos : Pos} {td ty tx : TE}
end
section
variable {X : Cx} {pins : JP (JR × Obj)} {σ : St} {H : Hp} {s : JZ} {a : JR} {kvs : JP (Key × V)} {A : K4} {E : JT -> JZ -> Prop}
end
section
variable {X : Cx} {pins : JP (JR × Obj)} {σ : St} {H : Hp} {s : JZ} {a : JR} {y : V} {u : JT} {A : K4} {E : JT -> JZ -> Prop}
end
section
variable {X : Cx}
end
section
variable {κ : Type} [LY κ]
end
section
variable {X : Cx} {pins : JP (JR × Obj)} {σ : St} {H : Hp} {s : JZ} {a : JR}
end
section
variable {X : Cx}
theorem xZ:∀{ns:JP Nat} {us:JP JT},Vals (ns.map λ(n:Nat)=>V.int (n:Int)) us->∀(i:Nat) (v:JT),us[i]? =some v->∃ n t,ns[i]? =some n/\v= .int (n:Int) t
 |[],_,.nil,i,v,h=>by simp at h
 |b::bs,_,.cons r t,0,v,h=>by
  obtain⟨k,J⟩:=(show ∃ k,_=Nu (b:Int) k from r);subst J;simp at h;exact⟨b,k,by simp,h.symm⟩
 |b::bs,_,.cons r t,i+1,v,h=>by
  obtain⟨c,k,U,I⟩:=xZ t i v (by simpa using h);exact⟨c,k,by simpa using U,I⟩
theorem vp(ns:JP Nat):∀ k,k<=ns.length->preSum (λi=>(((ns[i]?).getD 0:Nat):Int)) k=((ns.take k).sum:Nat)
 |0,_=>rfl
 |k+1,h=>by
  show preSum _ k+(((ns[k]?).getD 0:Nat):Int)=_;rw[vp ns k (by lia),Lk,NK,List.getElem?_eq_getElem (show k<ns.length by lia)];simp
theorem BD(ns:JP Nat)(k:Nat):(ns.take k).sum<=ns.sum:=by
 have:=K9 List.sum (List.take_append_drop k ns);rw[NK] at this
 lia
theorem zK:∀{ns:JP Nat} {n:Nat},n∈ns->n<=ns.sum
 |m::r,n,h=>by
  rw[NC];rcases List.mem_cons.mp h with e|e
  ·lia
  ·have:=zK e
   lia
theorem Ak(hc:X.calm=true):iO X (.builtin "sum") (λxs H Q=>∃(p:JR) (ns:JP Nat),xs=[.ref p]/\ck X.K H p (ns.map λ(n:Nat)=>V.int (n:Int))/\ns.sum<=1000000/\Q (.int ((ns.sum:Nat):Int)) H):=by
 intro pins s σ H xs us Q I r h;obtain⟨p,ns,rfl,hq,hS,q⟩:=h;obtain⟨u,rfl,rx⟩:=vals1 r;cases rx;obtain⟨J,rv,pl,hz⟩:=I.list hq;have hl:=pl.isList;have hlen:=rv.length;rw[JX] at hlen;have U:p<s.heap.objs.size:=by obtain⟨_,e,_⟩:=hl;exact Kb e
 refine call_sum_walk (Oa hl ?_);refine⟨s.heap.objs.size,[s.heap.objs.size,p],[s.heap.objs.size],J.toArray.size,_,_,λi=>(((ns[i]?).getD 0:Nat):Int),rfl,Walks.list (A:=X.A.in1) (I.ok.hd hc) _ p (Kr U) J.toArray,
  ⟨⟨_,Heap.get?_push_size _ rfl,rfl,rfl⟩,hl.push _⟩,λb hb=>?_,λi v hP=>?_,λj hj=>?_,λh' tk t' hk=>?_⟩
 ·have e:∀ o,(s.heap.push o).objs.size=s.heap.objs.size+1:=λo=>by show(s.heap.objs.push o).size=_;simp
  show b<(s.heap.push _).objs.size;rw[e];rcases List.mem_cons.mp hb with z|z
  ·rw[z];exact LJ _
  ·rw[List.mem_singleton.mp z];exact MP U
 ·obtain⟨n,t,e,rfl⟩:=xZ rv i v (by simpa using hP);refine⟨t,?_⟩;show Nu (n:Int) t=Nu (((ns[i]?).getD 0:Nat):Int) t;rw[e];rfl
 ·have aa:j<ns.length:=by rw[Kk] at hj;lia
  refine⟨?_,?_⟩
  ·show InLong (((ns[j]?).getD 0:Nat):Int);rw[List.getElem?_eq_getElem aa,Option.getD_some];have:=zK (M5 aa);exact⟨by lia,by lia⟩
  ·rw[vp ns (j+1) (by lia)];have:=BD ns (j+1);exact⟨by lia,by lia⟩
 ·rw[Kk,<-hlen,vp ns _ (JY _),Lq (JY _)];exact⟨.int _,H,I.kept (LSm.kept_iter hk),⟨t',rfl⟩,q⟩
end
section
variable {X : Cx} {o e : KI} {es : JP KI} {to : TE} {t : TA} {name : Str} {apos cpos : Pos} {T id : Mx} {r : V -> JP V -> Hp -> VK -> Prop}
end
end L2
namespace Gn
open PySem L2 PyProof.Rows PySem.Spec
end Gn
namespace L2
open PySem PySem.Spec PyProof.Rows
section
variable {X : Cx}
noncomputable def Du(K:Kl)(CH:JR)(E:St->XK)(tb ts:TS):TS:=λD σ H=>tb D σ H/\∀ J cls H',E J cls none H'->
 ∃ C,cls= .ref C/\W.exmOne K (.ref C) (.ref CH)=some true/\ts D J H'
theorem Ew{pins:JP (JR×Obj)}{D:Ends}{CH:JR}{E:St->XK}{x:Str}{np pos:Pos}{b₀:K0}{suite:JP K0}{ts:TS}
  (hstk:X.stack=X.env::X.outer)(hfr:X.env.frame=some X.env.locals)(hg:Gl X x)(hm:X.mg x=some (.ref CH))
  (hs:∀ ea p,cH (tL X ea p) (b₀::suite) ts)
  (hc:∀ σ' cls H',E σ' cls none H'->∃ C,cls= .ref C/\W.exmOne X.K (.ref C) (.ref CH)=some true/\ts D σ' H')
  (hdb:(x==("__debug__":Str))=false:=by decide):
  qW (dD X.prog X.w) (X.tr (X.pn++pins) λe s₁=>Kq (Ko X.prog X.w) X.A (L0 e X.env) (λ_ s₂=>Kq (Ko X.prog X.w) X.A (Ov e none) (λ_ s₃=>
   Kq (Ko X.prog X.w) X.A (O9 e X.env [.ExceptHandler (some (.Name x np)) none (b₀::suite) pos]) (SP X pins D) X.xe s₃) X.xe s₂) X.xe s₁) E:=by
 intro aa σ' H1 s1 e s' U hx;obtain⟨ea,cls,a0,B,H',rfl,os,bare,un,hok,fl,k1,k3,k2,hE⟩:=hx;have ar:NS B (X.env::X.outer) ea cls a0 s'.heap:=hstk ▸ fl;have ae:X.A.frames=some (X.env::X.outer):=hstk ▸ U.ok.frames;have au:ea∉dz X.stack:=λz=>by
  obtain⟨_,o,ho,nf⟩:=fl.2.2.1.mem z;obtain⟨oe,vs,_,_,_,he,_,hd,_⟩:=fl.2.2.2;rw[he] at ho;cases ho;exact nf vs hd
 have nE:∀{b:JR} {o:Obj},s1.heap.get? b=some o->b≠ea:=λ{b o} q z=>by
  subst z;obtain⟨o',e'⟩:=k3 b o q au;rw[fl.2.1] at e';cases e'
 have nH:H' ea=none:=by
  cases q:H' ea with
  |none=>rfl
  |some u=>
   obtain⟨o,e'⟩:=k2 ea u q;rw[fl.2.1] at e';cases e'
 have go:∀{h2:KP},NS B (X.env::X.outer) ea cls a0 h2->s'.heap.UpToSlots h2->Inv (X.tr (X.pn++pins) λe s₁=>Kq (Ko X.prog X.w) X.A (L0 e X.env) (λ_ s₂=>Kq (Ko X.prog X.w) X.A (Ov e none) (λ_ s₃=>
   Kq (Ko X.prog X.w) X.A (O9 e X.env [.ExceptHandler (some (.Name x np)) none (b₀::suite) pos]) (SP X pins D) X.xe s₃) X.xe s₂) X.xe s₁) aa σ' H' {s' with heap:=h2}:=λ{h2} af up=>
  U.call' (s':={s' with heap:=h2}) (ch:=[]) os (oa rfl un k1 k3 fl.2.2.1 af.1 up) (ou hok k2 fl.1 af.1) bare λb z=>absurd z (by simp)
 have ag:∀{s2:JZ} {H2:Hp},Inv (X.tr (X.pn++pins) λe s₁=>Kq (Ko X.prog X.w) X.A (L0 e X.env) (λ_ s₂=>Kq (Ko X.prog X.w) X.A (Ov e none) (λ_ s₃=>
   Kq (Ko X.prog X.w) X.A (O9 e X.env [.ExceptHandler (some (.Name x np)) none (b₀::suite) pos]) (SP X pins D) X.xe s₃) X.xe s₂) X.xe s₁) aa σ' H2 s2->Inv (tL X ea (X.pn++pins)) [] σ' H2 s2:=λI=>
  ⟨⟨I.ok.mod,I.ok.kind,I.ok.glob,I.ok.blt,I.ok.above,I.ok.inj,I.ok.has,I.ok.cab,(λz=>by cases z),I.ok.frames,I.ok.stk,I.ok.exf,I.ok.bs,I.ok.bsz,I.ok.noex,I.ok.exfs,I.ok.funs,I.ok.frf⟩,
   I.os,I.bare,I.base,I.loc,I.cell,I.free,I.freeC,λp hp=>I.pin p (Ll _ (by have ah:p∈(X.pn++pins)++[]:=hp;rw[KR] at ah;exact ah)),I.hok,I.len⟩
 refine wpAny_looks_onW ae hfr ar λh4 held ai=>?_
 refine wpAny_landsW held λh5 ab aj=>?_
 obtain⟨C,rfl,ak,av⟩:=hc σ' cls H' hE;have I5:=ag (go ab (ai.trans aj));refine wpAny_handleBy_cons (codeAny_handlers_test ?_) (by intro q;cases q);refine jw I5 hg hm ?_ hdb;obtain⟨ob,aw,ao⟩:=ab.there;have LT:W.Looks (Ko X.prog X.w) h5 (typeOf (.ref ea)) (.ref C):=by
  rw[<-ao];exact(W.Looks.ld aw).andThen .now
 refine W.exm_one I5.kIn LT ak _ _ _ _ (λ_ _ q=>q) ?_;refine codeAny_handlers_suite (lands_againW ab λh6 ax ay=>?_);have I6:=ag (go ax ((ai.trans aj).trans ay));refine KY (hs ea (X.pn++pins) [] _ _ _ _ I6 av) (λaq s9 h9=>?_) λ_ _ z=>La z
 have back:∀{J:St} {H2:Hp},Inv (tL X ea (X.pn++pins)) [] J H2 s9->Inv X pins J H2 s9:=λI=>
  ⟨⟨U.ok.mod,U.ok.kind,U.ok.glob,U.ok.blt,U.ok.above,U.ok.inj,U.ok.has,U.ok.cab,U.ok.hd,U.ok.frames,U.ok.stk,U.ok.exf,U.ok.bs,U.ok.bsz,U.ok.noex,U.ok.exfs,U.ok.funs,U.ok.frf⟩,
   I.os,I.bare,I.base,I.loc,I.cell,I.free,I.freeC,λp hp=>I.pin p (Ll _ hp),I.hok,I.len⟩
 show SP X pins D aq s9;cases aq with
 |next=>obtain⟨J,H2,I9,q9⟩:=h9;exact⟨J,H2,back I9,q9⟩
 |brk=>obtain⟨J,H2,I9,q9⟩:=h9;exact⟨J,H2,back I9,q9⟩
 |cont=>obtain⟨J,H2,I9,q9⟩:=h9;exact⟨J,H2,back I9,q9⟩
 |ret u=>obtain⟨v,J,H2,I9,rv,q9⟩:=h9;exact⟨v,J,H2,back I9,rv,q9⟩
theorem Fc{CH:JR}(E:St->XK){x:Str}{np hpos pos:Pos}{b₀:K0}{suite body:JP K0}{tb ts:TS}
  (hstk:X.stack=X.env::X.outer)(hfr:X.env.frame=some X.env.locals)(hg:Gl X x)(hm:X.mg x=some (.ref CH))
  (hb:∀ p xe,qW (dD X.prog X.w) (X.tr p xe) E->cH (X.tr p xe) body tb)(hs:∀ ea p,cH (tL X ea p) (b₀::suite) ts)
  (hdb:(x==("__debug__":Str))=false:=by decide):PS X (.Try body [.ExceptHandler (some (.Name x np)) none (b₀::suite) hpos] [] [] pos) (Du X.K CH E tb ts):=by
 intro pins s σ H D I h;obtain⟨h1,h2⟩:=h;refine wpAny_Try_except ?_;have I':Inv (X.tr (X.pn++pins) λe aa=>Kq (Ko X.prog X.w) X.A (L0 e X.env) (λ_ ab=>Kq (Ko X.prog X.w) X.A (Ov e none) (λ_ ae=>
   Kq (Ko X.prog X.w) X.A (O9 e X.env [.ExceptHandler (some (.Name x np)) none (b₀::suite) hpos]) (SP X pins D) X.xe ae) X.xe ab) X.xe aa) [] σ H s:=
  ⟨⟨I.ok.mod,I.ok.kind,I.ok.glob,I.ok.blt,I.ok.above,I.ok.inj,I.ok.has,I.ok.cab,I.ok.hd,I.ok.frames,I.ok.stk,I.ok.exf,I.ok.bs,I.ok.bsz,I.ok.noex,I.ok.exfs,I.ok.funs,I.ok.frf⟩,
   I.os,I.bare,I.base,I.loc,I.cell,I.free,I.freeC,λp hp=>I.pin p (by simpa using hp),I.hok,I.len⟩;have back:∀{U:St} {H2:Hp} {s2:JZ},Inv (X.tr (X.pn++pins) λe aa=>Kq (Ko X.prog X.w) X.A (L0 e X.env) (λ_ ab=>Kq (Ko X.prog X.w) X.A (Ov e none) (λ_ ae=>
   Kq (Ko X.prog X.w) X.A (O9 e X.env [.ExceptHandler (some (.Name x np)) none (b₀::suite) hpos]) (SP X pins D) X.xe ae) X.xe ab) X.xe aa) [] U H2 s2->Inv X pins U H2 s2:=λJ=>
  ⟨I.ok,J.os,J.bare,J.base,J.loc,J.cell,J.free,J.freeC,λp hp=>J.pin p (Ll _ hp),J.hok,J.len⟩
 refine KY (hb _ _ (Ew hstk hfr hg hm hs h2 hdb) [] s σ H D I' h1) (λf s1 q=>?_) λe s1 q=>q
 cases f with
 |next=>
  obtain⟨U,H2,J,q⟩:=q;exact Nb ⟨U,H2,back J,q⟩
 |brk=>obtain⟨U,H2,J,q⟩:=q;exact⟨U,H2,back J,q⟩
 |cont=>obtain⟨U,H2,J,q⟩:=q;exact⟨U,H2,back J,q⟩
 |ret u=>obtain⟨v,U,H2,J,r,q⟩:=q;exact⟨v,U,H2,back J,r,q⟩
end
noncomputable def qR(a b:JR):It:=⟨λi H=>∃ xs ys x y,H a=some (.lst xs)/\H b=some (.lst ys)/\xs[i]? =some x/\ys[i]? =some y,
 λi H v H'=>∃ T x y,H T=none/\(∀ xs,H a=some (.lst xs)->xs[i]? =some x)/\(∀ ys,H b=some (.lst ys)->ys[i]? =some y)/\v= .ref T/\H'=upd H T (.tup [x,y]),
 λi H=>∃ xs ys,H a=some (.lst xs)/\H b=some (.lst ys)/\i=min xs.length ys.length⟩
theorem AL{H:Hp}{a b z TI TO i1 i2:JR}{xs ys:JP V}(ha:H a=some (.lst xs))(hb:H b=some (.lst ys))(hf:∀ c∈[z,TI,TO,i1,i2],H c=none)(hd:[z,TI,TO,i1,i2].Nodup):ZipApart z TI TO i1 i2 a b:=by
 have f:∀ c∈[z,TI,TO,i1,i2],a≠c/\b≠c:=λc U=>⟨λe=>(by rw[e,hf c U] at ha;cases ha),λe=>(by rw[e,hf c U] at hb;cases hb)⟩
 simp at hd f;obtain⟨⟨I,d2,d3,d4⟩,⟨d5,d6,d7⟩,⟨d8,d9⟩,J⟩:=hd;obtain⟨⟨f1,g1⟩,⟨f2,g2⟩,⟨f3,g3⟩,⟨f4,g4⟩,f5,g5⟩:=f;exact⟨K5 I,K5 d2,K5 d3,K5 d4,d5,d6,d7,d8,d9,J,f1,f3,f4,f5,g1,g3,g4,g5⟩
theorem JG{P:Ka}{w:Ku}{K:J7}{elts:JP KI}{k:Nat}{pos:Pos}(a b z TI TO i1 i2:JR)(hd:[z,TI,TO,i1,i2].Nodup):
  Turn P w K (.Tuple elts k pos) (qR a b) [z,TI,TO,i1,i2] z (λi h=>IsZip h z TI TO .none/\IsPair h TI (.ref i1) (.ref i2)/\(∃ a b,IsPair h TO a b)/\h.IsListIter i1 a i/\h.IsListIter i2 b i) where
 mem:=by simp
 obj:=λi h st c U=>by
  obtain⟨hz,af,⟨u,v,ah⟩,⟨o1,ar,c1,d1⟩,o2,au,c2,d2⟩:=st;simp at U;rcases U with rfl|rfl|rfl|rfl|rfl
  ·exact⟨_,hz,λv z=>nomatch z⟩
  ·exact⟨_,af,λv z=>nomatch z⟩
  ·exact⟨_,ah,λv z=>nomatch z⟩
  ·exact⟨o1,ar,λv z=>by rw[d1] at z;cases z⟩
  ·exact⟨o2,au,λv z=>by rw[d2] at z;cases z⟩
 keep:=λi h h' st kk=>by
  obtain⟨hz,af,⟨u,v,ah⟩,h1,h2⟩:=st;exact⟨kk z (by simp) _ hz,kk TI (by simp) _ af,⟨u,v,kk TO (by simp) _ ah⟩,h1.at λo e=>kk i1 (by simp) o e,h2.at λo e=>kk i2 (by simp) o e⟩
 item:=by
  intro X hP hw hK U i pins s σ H E I hf st hg;subst hP hw hK;obtain⟨xs,ys,x,y,hA,hB,hx,hy⟩:=hg;obtain⟨ab,rv,p,hz⟩:=I.list (ck.of hA);obtain⟨J,ai,p2,av⟩:=I.list (ck.of hB);obtain⟨u,hu,ru⟩:=rv.get hx;obtain⟨u2,ao,aw⟩:=ai.get hy;have aj:=AL hA hB (λc U=>(hf c U).1) hd;have ax:i<min ab.toArray.size J.toArray.size:=by
   have h1:=(List.getElem?_eq_some_iff.mp hu).1
   have h2:=(List.getElem?_eq_some_iff.mp ao).1;simp
   lia
  have W:=WalksT.zip2 (prog:=X.prog) (w:=X.w) (A:=X.A) (I.ok.hd U) z TI TO i1 i2 a b aj ab.toArray J.toArray;refine W.item i s _ _ ax ⟨st.1,st.2.1,st.2.2.1,st.2.2.2.1,st.2.2.2.2,p.isList,p2.isList⟩ λT vals h' tk hv hT ht mid kk=>⟨_,rfl,?_⟩
  obtain⟨q,q2,hq,ay,rfl⟩:=hv;have e1:q=u:=by
   have h1:ab[i]? =some q:=by simpa using hq
   rw[hu] at h1;exact(Kg h1).symm
  have e2:q2=u2:=by
   have h1:J[i]? =some q2:=by simpa using ay
   rw[ao] at h1;exact(Kg h1).symm
  subst e1 e2;refine W.go elts k pos i T _ _ _ mid λak aa aq=>?_
  have sub:∀ c,c∉[z,TI,TO,i1,i2]->c∉[z,TO,i1,i2]:=λc U hm=>U (by simp at hm ⊢;rcases hm with r|r|r|r<;>simp[r])
  have keep:∀ c o,c∉[z,TI,TO,i1,i2]->s.heap.get? c=some o->ak.get? c=some o:=λc o U q=>aq c o (sub c U) (kk c o (sub c U) q)
  have I1:Inv X pins σ H {s with heap:=ak,toks:=tk}:=I.turnedL keep hf
  have hn:H T=none:=I.hok.fresh hT
  have ae:T∉[z,TO,i1,i2]:=W.apart i T h' mid
  have af:T≠TI:=λe=>by
   have:=Kb st.2.1;rw[<-e] at this;exact absurd (Km this hT) (Kw _)
  obtain⟨ot,az,aA,n,aB⟩:=ht;have I2:Inv X pins σ (upd H T (.tup [x,y])) {s with heap:=ak,toks:=tk}:=by
   refine I1.track (.inl (Heap.get?_none_of_le (Kj I.sz hT))) hn (OA (Km I.lt hT)) (λy c' q z=>?_) (λp hp z=>?_) ?_
   ·obtain⟨v,q'⟩:=I.cell y c' q;exact absurd (Km q'.lt (by rw[z];exact hT)) (Kw _)
   ·exact absurd (Km (Kb (I.pin p hp).1) (by rw[z];exact hT)) (Kw _)
   ·exact⟨by show 2<=sizeLine;decide,[q,q2],.cons ru (.cons aw .nil),ot,aq T ot ae az,aA,n,aB⟩
  refine⟨.ref T,_,I2,rfl,⟨T,x,y,hn,(λzs ag=>?_),(λzs ag=>?_),rfl,rfl⟩,⟨aa.1,aa.2.1,aa.2.2.1,aa.2.2.2.1,aa.2.2.2.2.1⟩,λb hb=>?_⟩
  ·rw[hA] at ag;cases ag;exact hx
  ·rw[hB] at ag;cases ag;exact hy
  ·have aC:b≠T:=λe=>by
    subst e;simp at hb ae;rcases hb with r|r|r|r|r
    ·exact ae.1 r
    ·exact af r
    ·exact ae.2.1 r
    ·exact ae.2.2.1 r
    ·exact ae.2.2.2 r
   rw[cF aC];exact(hf b hb).1
 done:=by
  intro X hP hw hK U i pins s σ H E I hf st hg;subst hP hw hK;obtain⟨xs,ys,hA,hB,hx⟩:=hg;obtain⟨ab,rv,p,hz⟩:=I.list (ck.of hA);obtain⟨J,ai,p2,av⟩:=I.list (ck.of hB);have hl:=rv.length;have aD:=ai.length;have aj:=AL hA hB (λc U=>(hf c U).1) hd;have W:=WalksT.zip2 (prog:=X.prog) (w:=X.w) (A:=X.A) (I.ok.hd U) z TI TO i1 i2 a b aj ab.toArray J.toArray;have hi:i=min ab.toArray.size J.toArray.size:=by rw[hx,hl,aD];simp
  subst hi;have sub:∀ c,c∉[z,TI,TO,i1,i2]->c∉[z,TO,i1,i2]:=λc U hm=>U (by simp at hm ⊢;rcases hm with r|r|r|r<;>simp[r])
  exact W.done s _ _ ⟨st.1,st.2.1,st.2.2.1,st.2.2.2.1,st.2.2.2.2,p.isList,p2.isList⟩ λh' tk kk=>⟨rfl,I.turnedL (λc o U q=>kk c o (sub c U) q) hf⟩
 self:=λA i s Q E st h=>wpAny_pyIter_zip st.1 h
noncomputable def G7(ta:TA):TI:=λσ H R=>ta σ H λvs H1=>∃(a b:JR) (xs ys:JP V),vs=[.ref a,.ref b]/\H1 a=some (.lst xs)/\H1 b=some (.lst ys)/\R (qR a b) H1
section
variable {X : Cx}
theorem BR:Lp "zip"=some (.type "zip"):=dkq
theorem HN{elts:JP KI}{k:Nat}{tpos p pos:Pos}{a b:KI}{ta:TA}(hg:Gl X "zip")(hm:X.mg "zip"=none)(ha:PA X [a,b] ta)(hs:KA [a,b] X.env=(false,eval a X.env)::KA [b] X.env:=by rfl)(hs2:(Mh pos (KA [b] X.env)).any (·.1)=false:=by rfl):
  PI X (.Tuple elts k tpos) (.Call (.Name "zip" p) [a,b] [] pos) (G7 ta):=by
 intro pins s σ H R I h;refine Call_ (qi I hg hm BR (MO (cv (ha pos pins s σ H _ I h) λus s1 ⟨vs,H1,J,r1,q1⟩=>?_) hs hs2));obtain⟨l1,l2,xs,ys,e,hA,hB,q⟩:=q1;subst e;obtain⟨u1,u2,rfl,ab,ae⟩:=r1.two;cases ab;cases ae;obtain⟨aj,rv,pl,hz⟩:=J.list (ck.of hA);obtain⟨ai,ak,af,ao⟩:=J.list (ck.of hB);refine call_zip_2 pl.isList af.isList λh' U ag ah h1 h2 aq hk=>?_
 refine wpAny_pyIter_zip U ?_;refine⟨s1.heap.objs.size+4,[s1.heap.objs.size+4,s1.heap.objs.size+2,s1.heap.objs.size+3,s1.heap.objs.size,s1.heap.objs.size+1],_,_,H1,rfl,J.kept (t':=s1.toks) hk,JG l1 l2 _ _ _ _ _ (by simp),⟨U,ag,⟨_,_,ah⟩,h1,h2⟩,λb hb=>?_,q⟩;simp at hb;have aa:s1.heap.objs.size<=b:=by
  rcases hb with r|r|r|r|r<;>rw[r]<;>first|exact JY _|exact Nat.le_add_right _ _
 exact J.fpOk aa (J.hok.fresh aa)
end
theorem JA{a b:JR}{xs ys:JP V}{g:TG}{tb:TS}{D:Ends}{σ:St}{H:Hp}(Pv:Nat->St->Hp->Prop)(he:xs.length=ys.length)(h0:Pv 0 σ H)(hl:∀ i σ H,i<=xs.length->Pv i σ H->H a=some (.lst xs)/\H b=some (.lst ys))
  (hs:∀ i x y σ H T,xs[i]? =some x->ys[i]? =some y->Pv i σ H->H T=none->g (.ref T) σ (upd H T (.tup [x,y])) λσ2 H2=>tb {D with nx:=Pv (i+1),ct:=Pv (i+1),bk:=D.nx} σ2 H2)(hd:∀ σ H,Pv xs.length σ H->D.nx σ H):
  ∃ W:Nat->Nat->St->Hp->Prop,(∃ m,W 0 m σ H)/\∀ i m σ H,W i m σ H->
   ((qR a b).stop i H/\D.nx σ H)\/((qR a b).go i H/\∃ N:St->Hp->Prop,(∀ σ' H',N σ' H'->∃ m',m'<m/\W (i+1) m' σ' H')/\∀ x H',(qR a b).yld i H x H'->g x σ H' λσ2 H2=>tb {D with nx:=N,ct:=N,bk:=D.nx} σ2 H2):=by
 refine⟨λi m σ H=>m=xs.length-i/\i<=xs.length/\Pv i σ H,⟨xs.length,by simp,Ks _,h0⟩,?_⟩;rintro i m σ H ⟨rfl,hi,p⟩;have q:=hl i σ H hi p;by_cases J:i<xs.length
 ·refine .inr ⟨⟨xs,ys,xs[i],ys[i]'(by lia),q.1,q.2,by simp[J],by simp[show i<ys.length by lia]⟩,Pv (i+1),λσ' H' I=>⟨xs.length-(i+1),by lia,rfl,J,I⟩,λx H' y=>?_⟩;obtain⟨T,z,z2,hT,hz,U,rfl,rfl⟩:=y;exact hs i z z2 σ H T (hz xs q.1) (U ys q.2) p hT
 ·have e:i=xs.length:=by lia
  subst e;exact .inl ⟨⟨xs,ys,q.1,q.2,by lia⟩,hd σ H p⟩
structure KD (P : Ka) (w : Ku) (K : Kl) (d : JR) (kvs : JP (Key × V)) : Prop where
 ns : (d==Mg) = false
 at_ : ∀ h : KP, K.In h -> ∃ vs, KV kvs vs /\ h.DictOf (g7 P w) d vs
noncomputable def F3(kvs:JP (Key×V))(ty:TE):TE:=λσ H Q=>ty σ H λy H2=>∃ k,y=kV k/\Q ((eO kvs k).getD .non) H2
section
variable {X : Cx} {x : Str} {d : JR} {kvs : JP (Key × V)} {e : KI} {p apos cpos : Pos} {ty : TE}
theorem Cj(hg:Gl X x)(hm:X.mg x=some (.ref d))(D:KD X.prog X.w X.K d kvs)(he:PE X e ty)(m:M1 X (.Name x p) "get" apos e cpos)(hdb:(x==("__debug__":Str))=false:=by decide):
  PE X (.Call (.Attribute (.Name x p) "get" apos) [e] [] cpos) (F3 kvs ty):=by
 intro pins s σ H Q I h;refine wpAny_Call_method m.base m.few m.line F.plainAttrs_dict F.slot_dict_get F.type_dict_get (jw I hg hm ?_ hdb);obtain⟨vs,rel,dd⟩:=D.at_ s.heap I.kIn;refine⟨dd.typeIs,λb q=>?_,?_⟩
 ·cases q;obtain⟨ob,_,_,h1,h2,_⟩:=dd;exact⟨ob,h1,h2.2.1⟩
 rw[m.trees];refine MA rfl (MX (L6 (cv (he pins s σ H _ I h) λiv s2 ⟨y,H2,I2,ry,k,ey,q2⟩=>Ni ?_)));subst ey;obtain⟨aa,J,U⟩:=D.at_ s2.heap I2.kIn;refine call_meetsIn F.slot_dict_get U.typeIs F.entry_dict_get (F.args_dict_get_2 _ _) (meets_dict_get (g7 X.prog X.w) d (pN ry) D.ns) ⟨_,U.mapOf,⟨_,H2,I2.tok _,?_,q2⟩⟩;exact(J.val k).getD rfl
end
section
variable {X : Cx} {CX : gv} {k : Nat} {ι : Type} {C f : ι -> JR} {fd : ι -> J2} {ps : ι -> JP Str} {sp : ι -> Sp} {E : XK} {m : Str} {pos apos : Pos} {e o : KI} {es : JP KI} {ta : TE} {t : TA}
noncomputable def G5(C:ι->JR)(m:Str)(sp:ι->Sp)(E:XK)(ta:TE)(t:TA):TE:=λσ H Q=>ta σ H λx H1=>∃ i a dx fs,x= .ref a/\H1 a=some (.ins (C i) dx fs)/\fs.lookup m=none/\
 t σ H1 λvs H2=>sp i (x::vs) H2 Q E
theorem gc{pl:Sem KS}(he:PE X o ta)(c:∀ i,gA X.K (C i))(hm:∀ i,Meth X.K (C i) m (f i))(F:∀ i,bX X.prog X.w X.K X.mg X.base CX k (f i) (fd i) (ps i) (sp i))(hr:eF k X.A)(hb:∀ i,Binds X.K (fd i) (ps i) [])
  (hx:Passes CX X E)
  (ht:eval (.Call (.Attribute o m apos) [] [] pos) X.env=(do
   let ov<-eval o X.env
   standAt apos.atName
   let (f,first)<-OZ [ov] (O0 ov m pl)
   callWith pos f first (Mh pos (KA [] X.env)) (O6 pos (Ob [] X.env))):=by rfl):
  PE X (.Call (.Attribute o m apos) [] [] pos) (G5 C m sp E ta qf):=by
 intro pins s σ H Q I h;refine OI (pl:=pl) (cv (he pins s σ H _ I h) λu s1 ⟨x,H1,J,U,i,a,dx,fs,ex,ea,l,q⟩=>?_) ht;subst ex;obtain rfl:u=Ky a:=U;refine wa J ea (c i) (hm i) l ?_;exact W.callWith_K0 (first:=[.ref a]) J.kIn (hm i).kp (rJ (us:=[.ref a]) (vs:=[.ref a]) (dvs:=[]) (F i) hr (hb i) .nil hx J (.cons rfl .nil) q)
end
section
variable {X : Cx}
structure qT (K : Kl) (C : JR) : Prop where
 cl : gA K C
 ha : Li K (.ref C) "__class__" = some (some (.builtin "object.__class__"))
 hn : W.specialIn K (.builtin "object.__class__") "__get__" = some (some (.builtin "getset_descriptor.__get__"))
 htk : W.takesIn K (.builtin "object.__class__") = some true
 hm : W.mroIn K C (.type "object") = some true
theorem qT.ty {K:Kl}{C:JR}(c:qT K C){H:Hp}{a dx:JR}{fs:JP (Str×V)}(e:H a=some (.ins C dx fs)):gz K H (.ref a) (.ref C):= .ins e c.cl c.ha c.hn c.htk c.hm
theorem vg:iO X (.builtin "isinstance") (λxs H Q=>∃(a C dx:JR) (fs:JP (Str×V)) (p:JR) (Cs:JP JR) (b:KS),xs=[.ref a,.ref p]/\H a=some (.ins C dx fs)/\qT X.K C/\H p=some (.tup (Cs.map V.ref))/\Lm X.K (.ref C) (Cs.map Ky)=some b/\Q (.bl b) H):=by
 intro pins s σ H xs us Q I r h;obtain⟨a,C,dx,fs,p,Cs,b,rfl,ea,T,hp,e,q⟩:=h;obtain⟨u,w',rfl,rx,rc⟩:=vals2 r;cases rx;cases rc;obtain⟨mA,O,_⟩:=qg I.hok ea;obtain⟨od,J,_⟩:=O.look;obtain⟨_,U,rv,o,ho,ab,n,hd⟩:=(show e6 X.prog X.w H s.heap p (.tup (Cs.map V.ref)) from I.hok p _ hp);have ei:U=Cs.map Ky:=xW rv;obtain⟨cls,dd,data,sl⟩:=o;have aa:cls= .type "tuple":=ab;have ae:data= .seq U.toArray n:=hd;subst aa ae;exact W.kia_tup (W.kitx_own (T.cl.get _) T.cl.hd T.ha T.hn T.htk T.hm) I.kIn J ho (by rw[ei];exact e) (λz=>nomatch z) λtk=>⟨.bl b,H,I.tok tk,rfl,q⟩
end
end L2
namespace Gn
open PySem L2 PyProof.Rows PySem.Spec
section
variable {P : Ka} {w : Ku} {K : J7} {mg : Str -> JW JT} {base h : KP}
noncomputable def rS:V->KS
 |.str _=>true
 |_=>false
noncomputable def vU:V->KS
 |.int _=>true
 |.bl _=>true
 |_=>false
noncomputable def yT:V->KS
 |.bl _=>true
 |_=>false
noncomputable def Known(K:Kl)(H:Hp)(x:V):Prop:=∃ n,gz K H x (.type n)
theorem uu{K:Kl}{H:Hp}{x:V}{n:Mx}(h:gz K H x (.type n)):Lw K (.type n) (.type "str")=some (rS x):=by
 cases h<;>kernel_rfl
theorem Ep{K:Kl}{H:Hp}{x:V}{n:Mx}(h:gz K H x (.type n)):Lw K (.type n) (.type "int")=some (vU x):=by
 cases h<;>kernel_rfl
theorem C8{K:Kl}{H:Hp}{x:V}{n:Mx}(h:gz K H x (.type n)):Lw K (.type n) (.type "bool")=some (yT x):=by
 cases h<;>kernel_rfl
theorem cq{H:Hp}{a:JR}{o:HO}(h:H a=none):bY H (upd H a o):=λb u e=>by rw[cF (dM e h)];exact e
theorem bY.upd {H H':Hp}{a:JR}{o:HO}(s:bY H H')(h:H' a=none):bY H (upd H' a o):=s.trans (cq h)
structure Df (K : Kl) (mg : Str -> JW JT) (x : Str) (st : K0) (f : JR) (fd : J2) : Prop where
 F : ej K x x st f fd
 m : mg x = some (.ref f)
theorem iF:Lp "isinstance"=some (.builtin "isinstance"):=dkq
theorem jJ:Lp "int"=some (.type "int"):=dkq
theorem EC:Lp "bool"=some (.type "bool"):=dkq
theorem nj:Lp "str"=some (.type "str"):=dkq
theorem oX:Lp "tuple"=some (.type "tuple"):=dkq
theorem e8:Lp "len"=some (.builtin "len"):=dkq
theorem uJ:Lp "all"=some (.builtin "all"):=dkq
theorem dY{x p:Str}{st:K0}{f:JR}{fd:J2}(F:ej K x x st f fd)
  (h:∀(kV doc pm:JT) (an:JW JR) (cdv ct:JT) (u:JT),bindArgs (Nk x x (ji st) (iC st) (cG st) .none kV doc pm an cdv ct) ⟨[u],[]⟩=pure ([p].zip [u])):Binds K fd [p] []:=
 F.binds λkV doc pm an cdv ct us J=>iE (λu=>h kV doc pm an cdv ct u) us J
theorem g1{i:Nat}{v:V}{σ:L2.St}{H:Hp}{te:TE}{M:V->Hp->Prop}{N0:Hp->Prop}(h:te (σ.set i (some v)) H M):g6 i v σ H λσ2 H2=>yo σ2 H2 λb H3=>if b=true then te σ2 H3 M else N0 H3:=by
 show if true=true then te (σ.set i (some v)) H M else N0 H
 exact cg h
structure Ex (K : Kl) (mg : Str -> JW JT) (x : Str) (C : JR) : Prop where
 m : mg x = some (.ref C)
 q : W.excIn K C [.type "ValueError", .type "Exception", .type "BaseException", .type "object"] "ValueError.__new__" = true
structure JN (K : Kl) (mg : Str -> JW JT) (x : Str) (st : K0) (f : JR) (fd : J2) (items : MM JT) : Prop where
 ex : ∃ (oc : JT) (od : JW JR) (kV doc pm : JT) (an : JW JR) (cdv ct : JT) (osl : MM (JW JT)) (T : JR) (o : Obj) (n : Nat),
  fd = Nk x x (ji st) (iC st) (cG st) (.ref T) kV doc pm an cdv ct /\ K.lookup f = some ⟨oc, od, .func fd, osl⟩ /\ N1 K cdv x = true /\ K.lookup T = some o /\ o.data = .seq items n
 kp : ME K (.ref f) = true
 m : mg x = some (.ref f)
theorem xJ{K:Kl}{H:Hp}:∀(ns:JP Int),iY K H (ns.map V.int) (ns.map PyData.int)
 |[]=> .nil
 |n::ns=> .cons (.int n) (xJ ns)
theorem lay_ints:∀(ns:JP Int),(PyData.list (ns.map PyData.int)).canLay0=true:=by
 intro ns;induction ns with
 |nil=>rfl
 |cons n ns J=>exact J
theorem Paired.imp2 {α β:Type}{F G:α->β->Prop}:∀{l:JP α} {m:JP β},Lo F l m->(∀ a b,F a b->G a b)->Lo G l m
 |_,_,.nil,_=> .nil
 |_,_,.cons r t,f=> .cons (f _ _ r) (Paired.imp2 t f)
theorem Paired.app {α β:Type}{F:α->β->Prop}{a:α}{b:β}:∀{l:JP α} {m:JP β},Lo F l m->F a b->Lo F (l++[a]) (m++[b])
 |_,_,.nil,h=> .cons h .nil
 |_,_,.cons r t,h=> .cons r (Paired.app t h)
theorem Paired.len {α β:Type}{F:α->β->Prop}:∀{l:JP α} {m:JP β},Lo F l m->l.length=m.length
 |_,_,.nil=>rfl
 |_,_,.cons _ t=>by simp[Paired.len t]
theorem C2{H0 H:Hp}{a t:JR}{o o':HO}(s:bY H0 H)(ha:H0 a=none)(ht:H t=none):bY H0 (upd (upd H t o) a o'):=λb u e=>by
 rw[cF (dM e ha),cF (dM (s b u e) ht)];exact s b u e
theorem lM{r n:Int}(hn:0<n):∃ j:Nat,(j:Int)=r%n/\(j:Int)<n:=by
 have h1:=LR r (show n≠0 by lia)
 have h2:=Ly r hn;exact⟨(r%n).toNat,by lia,by lia⟩
noncomputable def EM(c:TT)(t u:TS):TS:=λD σ H=>∃ J:L2.St->Hp->Prop,(c σ H λb H1=>if b=true then t {D with nx:=J} σ H1 else u {D with nx:=J} σ H1)/\∀ U H',J U H'->D.nx U H'
theorem uQ{X:Cx}{c:KI}{a b:JP K0}{tc:TT}{t u:TS}{pos:Pos}(hc:PT X c tc)(ha:cH X a t)(hb:cH X b u):PS X (.If c a b pos) (EM tc t u):=by
 intro pins s σ H D I h;obtain⟨J,h1,h2⟩:=h;refine cv (cM hc ha hb pins s σ H {D with nx:=J} I h1) λf s1 q=>?_
 cases f with
 |next=>obtain⟨U,H',I',q⟩:=q;exact⟨U,H',I',h2 _ _ q⟩
 |brk=>exact q
 |cont=>exact q
 |ret u=>exact q
theorem PE.imp {X:Cx}{e:KI}{t t':TE}(h:PE X e t)(i:∀ σ H Q,t' σ H Q->t σ H Q):PE X e t':=λpins s σ H Q I q=>h pins s σ H Q I (i σ H Q q)
theorem vK{d:Kf}(h:d.canLay0=true):Nx d d=true:=SeqAt.eqv_refl d h
theorem ET{X:Cx}{K:Kl}(h:X.K=K):qu X (yD K):=by subst h;exact fN
theorem JJ{K:Kl}{a:JR}{xs:JP V}{g:TG}{tc:TT}{te:TE}{σ0:L2.St}{H:Hp}{Q:VK}(Pv:Nat->JP V->Hp->Prop)(hz:xs.length<sizeLine)(hl:∀ i ys H,Pv i ys H->cu K H a xs)(h0:Pv 0 [] H)
  (hs:∀ i x ys H (N:JP V->Hp->Prop),xs[i]? =some x->Pv i ys H->(∀ ys' H2,Pv (i+1) ys' H2->N ys' H2)->
   g x σ0 H λσ2 H2=>tc σ2 H2 λb H3=>if b=true then te σ2 H3 λy H4=>N (ys++[y]) H4 else N ys H3)
  (hd:∀ ys H,Pv xs.length ys H->ys.length<=xs.length->∀ p,H p=none->Q (.ref p) (upd H p (.lst ys))):oy (oK K a) g tc te σ0 Q H:=su xs.length Pv hz
 (λi ys H hi p=>⟨xs,xs[i],hl i ys H p,by simp[hi]⟩) (λys H p=>⟨xs,hl _ ys H p,JY _⟩) h0
 (λi ys H v H' N hi p y J=>by
  obtain⟨e,y⟩:=y;subst e;exact hs i v ys _ N (y xs (hl i ys _ p)) p J) hd
theorem Ii{P:Ka}{w:Ku}{X:Cx}:Passes (dD P w) X E0:=λ_ _ _ _ _ _ _ h=>(dD.no h).elim
theorem dR{x:Str}{st:K0}{f:JR}{oc kV doc pm cd ct:JT}{od an:JW JR}{sl:MM (JW JT)}(X:K.In h)(G:h.Ns Kc mg)(a:Lx K Kc x=some (some (.ref f)))
  (l:K.lookup f=some ⟨oc,od,.func (Nk x x (ji st) (iC st) (cG st) .none kV doc pm an cd ct),sl⟩)(c:N1 K cd x=true)(k:ME K (.ref f)=true):∃ f fd,Df K mg x st f fd:=
 ⟨f,_,xi l c k,LF X G a⟩
end
open PySem PySem.W PySem.Calls PyProof.Rows
theorem Ar:∀(ns:JP Int) (m:Nat),WData.weightAll (ns.map Ou)<=m->∀ n∈ns,Mj n<=m
 |[],_,_,_,h=>nomatch h
 |i::ns,m,hw,n,h=>by
  have J:Mj i+1+WData.weightAll (ns.map Ou)<=m:=hw;rcases List.mem_cons.mp h with rfl|h
  ·lia
  ·exact Ar ns m (by lia) n h
theorem E9{ns:JP Int}(h:WData.layableAll [WData.list (ns.map Ou)]=true):∀ n∈ns,Mj n<=2 ^ 20:=by
 have h1:(WData.layable (WData.list (ns.map Ou))&&true)=true:=h;rw[Bool.and_true] at h1;have h2:=(Bool.and_eq_true_iff.mp h1).2;exact Ar ns _ (LZ h2)
theorem B0{l:OpenLaw}{n:Nat}{q:Ka}{loose:JP Str}{XP:(Str->JW JT)->KP->Prop}{YP:Ku->KP->Prop}{d:DefRec}
  (hn:l.most=some n)(hdf:d.params.defaults=[])
  (call:∀(w:Ku) (s₀ s₁:JZ) (mg mb:Str->JW JT) (fa:JR) (a:JR) (vs:JP JT) (ns:JP Int),
   Ground q loose [] XP w s₀ mg mb s₁.heap->YP w s₁.heap->mg d.name=some (.ref fa)->
   s₁.heap.get? a=some {cls:= .type "list",data:= .seq vs.toArray}->IntsAre vs ns->ns.length<=n->(∀ i∈ns,Mj i<=2 ^ 20)->s₁.gens=#[]->
   Nz (Ko l.prog w) O2 (.call (.ref fa) ⟨[.ref a],[]⟩) (λr s'=>r= .ok (.ret (.bool true))/\OldK s₁.heap s'.heap/\s'.os=s₁.os/\NQ s'.gens) s₁):
  WalkO q loose XP YP l.row.toRowW d [] (λf vs=>PySem.call f vs):=by
 intro w s₀ s₁ mg mb G Y fa o pm cd doc dV kV ho hd ae hD aa hg args vals as J U af ab ag;obtain rfl:dV= .none:=Dflts.none hD hdf;obtain rfl:kV= .none:=Dflts.noKw hD;obtain⟨a,vs,ns,rfl,rfl,I,hints,hlen⟩:=Att.IQ hn J ab;refine enter_call (Nj (call w s₀ s₁ mg mb fa a vs ns G Y aa I hints hlen (E9 U) hg) λr s' hq=>?_);obtain⟨rfl,h2,h3,h4⟩:=hq;exact⟨.inl ⟨.bool true,.bool true,[],rfl,λ_=>rfl,.bool true,Att.GU l _,λ_=>⟨List.Pairwise.nil,λ_ hm=>(nomatch hm)⟩⟩,h2,h3,h4⟩
theorem F0{l:W.OpenLaw}{n k:Nat}{q:Ka}{loose:JP Str}{XP:(Str->JW JT)->KP->Prop}{YP:Ku->KP->Prop}{d:DefRec}{K:Params->Kl}{sp:Kl->Sp}{x:Str}
  (hn:l.most=some n)(hn2:n<=sizeLine)(hdf:d.params.defaults=[])(hr:eF k O2)
  (hY:∀(w:Ku) (h:KP),YP w h->(K w.params).In h)
  (F:∀(w:Ku) (mg:Str->JW JT) (fa:JR) (h:KP),(K w.params).In h->h.Ns Kc mg->mg d.name=some (.ref fa)->
   ∃ fd:J2,(∀(s:JZ) (u:JT),O1 s fd ⟨[u],[]⟩ [(x,u)])/\
    ∀ base:KP,(K w.params).In base->base.Ns Kc mg->bX l.prog w (K w.params) mg base b7 k fa fd [x] (sp (K w.params)))
  (hsp:∀(K:Kl) (H:Hp) (a:JR) (ns:JP Int),ns.length<=n->(∀ i∈ns,Mj i<=2 ^ 20)->ck K H a (ns.map V.int)->sp K [.ref a] H (λv _=>v= .bl true) λ_ _ _=>LG):
  W.WalkO q loose XP YP l.row.toRowW d [] (λf vs=>PySem.call f vs):=by
 refine B0 hn hdf λw s₀ aa mg mb fa a vs ns G Y I U hints hlen J hg=>?_
 have KX:=hY w _ Y;obtain⟨fd,hb,hF⟩:=F w mg fa _ KX G.T.g I;exact FD KX G.T.g G.T.b G.T.builtins G.T.nolimit hg U hints (Kj hlen hn2) hr hF hb (λH hO hS=>hsp _ H a ns hlen J hS) λH e s' z=>z
end Gn
namespace K01
noncomputable def lo(c:Nat):Nat:=if 65<=c/\c<=90 then c+32 else c
noncomputable def dA(c:Nat):KS:=(decide (97<=c)&&decide (c<=122))||(decide (48<=c)&&decide (c<=57))
noncomputable def iw(c:Nat):KS:=decide (c=10)||(decide (32<=c)&&decide (c<=126) && !decide (c=37))
theorem uq{c:Nat}(h:iw c=true):c<128:=by
 unfold iw at h;simp only[OJ,Lc,MR,MQ,decide_eq_false_iff_not] at h
 lia
theorem Fv{c:Nat}(h:dA c=true):iw c=true:=by
 unfold dA at h;unfold iw;simp only[OJ,Lc,MR,MQ,decide_eq_false_iff_not] at *
 lia
theorem EO{c:Nat}(h:dA c=true):c<128:=uq (Fv h)
open PySem L2
noncomputable def iT(most:Nat):V->KS
 |.str z=>decide (1<=z.length)&&decide (z.length<=most)&&z.cps.toList.all dA
 |_=>false
noncomputable def rK(x:V):Prop:=∀ z,x= .str z->z.length<=5000
end K01
namespace K04
end K04
namespace BK
open K04
section
variable {α : Type} [LY α]
end
end BK
namespace Gn
open PySem L2 PyProof.Rows PySem.Spec
section
variable {X : Cx}
end
end Gn
namespace BK
open PySem L2 PyProof.Rows PySem.Spec Gn K04
end BK
namespace K13
open PySem L2 PyProof.Rows PySem.Spec Gn K01
noncomputable def top(i:Nat):K0:=PySem.Challenge.pw_findhall_k13_asks_written.main.body.getD i (.Pass ⟨0,0,0,0⟩)
noncomputable abbrev qy:K0:=top 10
noncomputable abbrev pI:K0:=top 11
noncomputable abbrev oA:K0:=top 12
noncomputable abbrev pC:K0:=top 13
noncomputable abbrev qD:K0:=top 14
noncomputable abbrev qk:K0:=top 17
noncomputable abbrev iG:K0:=top 26
noncomputable abbrev se:K0:=top 27
noncomputable abbrev cW:K0:=top 28
noncomputable abbrev cS:K0:=top 29
noncomputable abbrev cR:K0:=top 30
noncomputable abbrev cN:K0:=top 31
noncomputable abbrev cB:K0:=top 32
noncomputable abbrev cE:K0:=top 33
noncomputable abbrev cO:K0:=top 34
noncomputable abbrev p4:K0:=top 35
noncomputable abbrev o8:K0:=top 36
noncomputable abbrev nO:K0:=top 37
noncomputable abbrev qQ:K0:=top 38
noncomputable abbrev pU:K0:=top 39
noncomputable abbrev nA:K0:=top 40
noncomputable abbrev nJ:K0:=top 41
noncomputable abbrev mw:K0:=top 45
noncomputable abbrev nu:K0:=top 46
noncomputable abbrev pG:K0:=top 47
noncomputable abbrev pK:K0:=top 48
noncomputable abbrev nV:K0:=top 49
noncomputable abbrev pW:K0:=top 50
noncomputable abbrev pE:K0:=top 51
noncomputable abbrev gD:K0:=top 52
noncomputable abbrev fJ:K0:=top 53
noncomputable abbrev nC:K0:=top 54
noncomputable abbrev ju:K0:=top 56
noncomputable abbrev mS:K0:=top 57
noncomputable abbrev lX:K0:=top 58
noncomputable abbrev kM:K0:=top 59
noncomputable abbrev nZ:K0:=top 60
noncomputable abbrev kQ:K0:=top 61
noncomputable abbrev oQ:K0:=top 62
noncomputable abbrev oE:K0:=top 63
noncomputable abbrev mv:K0:=top 64
noncomputable abbrev oG:K0:=top 65
noncomputable abbrev l8:K0:=top 66
noncomputable abbrev nM:K0:=top 67
noncomputable abbrev qO:K0:=top 68
noncomputable abbrev p7:K0:=top 69
noncomputable abbrev pP:K0:=top 70
noncomputable abbrev qx:K0:=top 71
noncomputable abbrev mZ:K0:=top 72
noncomputable abbrev qe:K0:=top 73
noncomputable abbrev qo:K0:=top 74
noncomputable abbrev jG:K0:=top 75
structure Txt (mg : Str -> JW JT) : Prop where
 isi : mg "isinstance" = none
 int : mg "int" = none
 bool : mg "bool" = none
 str : mg "str" = none
 list : mg "list" = none
 tuple : mg "tuple" = none
 len : mg "len" = none
 all : mg "all" = none
 range : mg "range" = none
 zip : mg "zip" = none
 sum : mg "sum" = none
 ord : mg "ord" = none
 cText : ∃ t, mg "MOST_TEXT_SIGNS" = some (.int 2000 t)
 cPer : ∃ t, mg "PERCENT_NUMBER" = some (.int 37 t)
 cBrk : ∃ t, mg "MOST_BRACKETS" = some (.int 12 t)
 cSmall : ∃ t, mg "SMALL_SIGNS" = some (.str "abcdefghijklmnopqrstuvwxyz0123456789" t)
 cWord : ∃ t, mg "MOST_WORD_SIGNS" = some (.int 2000 t)
 cLR : ∃ t, mg "LEAST_IN_ROW" = some (.int 2 t)
 cMR : ∃ t, mg "MOST_IN_ROW" = some (.int 8 t)
 cFar : ∃ t, mg "MOST_FAR" = some (.int 20 t)
 cDeep : ∃ t, mg "MOST_DEEP" = some (.int 8 t)
 cAll : ∃ t, mg "MOST_IN_ALL" = some (.int 40 t)
section
variable {P : Ka} {w : Ku} {K : J7} {mg : Str -> JW JT} {base : KP}
noncomputable def Bh(K:Kl):Sp:=λvs H Q _=>∃ x,vs=[x]/\Known K H x/\Q (.bl (vU x && !yT x)) H
theorem D3:da ["thing"] ["thing"] (cG qy):=⟨rfl,rfl,rfl,dkq,rfl,dkq,dkq⟩
seal cH PS PE PT PA PG PI cT cP in
theorem Ir{f:JR}{fd:J2}(D:Df K mg "is_whole" qy f fd)(T:Txt mg):bX P w K mg base b7 1 f fd ["thing"] (Bh K):=by
 refine D.F.ok D3 (λvs H Q E h=>?_) (λcdv A outer s H vs Q E U h=>?_)
 ·obtain⟨x,rfl,_⟩:=h;rfl
 ·obtain⟨x,rfl,⟨n,J⟩,k⟩:=h;refine⟨_,b5 (cy (AA (dE jv rfl T.isi iF (bU (pv 0) (bU (lj (v:= .ty "int") rfl T.int jJ rfl) bV)))
   (rN (xr (dE jv rfl T.isi iF (bU (pv 0) (bU (lj (v:= .ty "bool") rfl T.bool EC rfl) bV))))))),?_⟩;refine⟨_,rfl,x,.ty "int",_,_,rfl,J,.inl ⟨_,rfl,Ep J⟩,_,rfl,?_⟩;cases hi:vU x with
  |false=>
   rw[hi] at k;exact cj k
  |true=>
   rw[hi] at k;refine cg ?_;exact⟨_,rfl,x,.ty "bool",_,_,rfl,J,.inl ⟨_,rfl,C8 J⟩,_,rfl,k⟩
theorem str_len(z:Str):z.cps.toList.length=z.length:=by simp[N3]
theorem FH{z:Str}{i c:Nat}(h:z.cps[i]? =some c):z.cps.toList[i]? =some c:=by simpa using h
theorem vT:(["sign"]:JP Str).Nodup:=dkq
theorem E2{x:V}{m:Nat}(h:rS x=false):iT m x=false:=by cases x<;>first|rfl|cases h
theorem isStr{x:V}(h:rS x=true):∃ z,x= .str z:=by cases x<;>first|exact⟨_,rfl⟩|cases h
noncomputable def xH(K:Kl):Sp:=λvs H Q _=>∃(x:V) (m:Nat),vs=[x,.int m]/\Known K H x/\rK x/\∀ H',bY H H'->Q (.bl (iT m x)) H'
theorem DU:da ["thing","most"] ["thing","most"] (cG pC):=⟨rfl,rfl,rfl,dkq,rfl,dkq,dkq⟩
theorem C4{f g:Nat->KS}(h:∀ c,c<128->f c=g c)(hf:∀ c,f c=true->c<128)(hg:∀ c,g c=true->c<128)(c:Nat):f c=g c:=by
 by_cases J:c<128
 ·exact h c J
 ·cases ef:f c with
  |true=>exact absurd (hf c ef) J
  |false=>
   cases eg:g c with
   |true=>exact absurd (hg c eg) J
   |false=>rfl
theorem DH{l:JP Nat}(h:l.all (λx=>decide (x<128))=true)(c:Nat)(e:decide (c∈l)=true):c<128:=LZ (List.all_eq_true.mp h c (LZ e))
noncomputable abbrev Gx:Str:=JO "abcdefghijklmnopqrstuvwxyz0123456789"
theorem Gk:∀ c:Nat,decide (c∈Gx.cps.toList)=dA c:=C4 dkq (DH dkq) λc h=>EO h
theorem qY(c:Nat):(!(K7 (JO "abcdefghijklmnopqrstuvwxyz0123456789") ⟨#[c]⟩ 0 (JO "abcdefghijklmnopqrstuvwxyz0123456789").length 1).isEmpty)=dA c:=by
 rw[Ng];exact Gk c
seal cH PS PE PT PA PG PI cT cP in
theorem Jv{f:JR}{fd:J2}(D:Df K mg "is_small_row" pC f fd)(T:Txt mg):bX P w K mg base b7 1 f fd ["thing","most"] (xH K):=by
 obtain⟨tc,U⟩:=T.cSmall;refine D.F.ok DU (λvs H Q E h=>?_) (λcdv A outer s H vs Q E hr h=>?_)
 ·obtain⟨x,m,rfl,_⟩:=h;rfl
 ·obtain⟨x,m,rfl,⟨n,aa⟩,ab,k⟩:=h;refine⟨_,b9 (cM (PW.pt (gu (gG (fU (dE jv rfl T.isi iF (bU (pv 0) (bU (lj (v:= .ty "str") rfl T.str nj rfl) bV)))))
    (gu (cx iS (dE ia rfl T.len e8 (bU (pv 0) bV)) bZ (cC _))
    (ig (cx iH (dE ia rfl T.len e8 (bU (pv 0) bV)) (pv 1) (cC _)))))) (b5 (cy ij)) cX)
   (b5 (cy (dE (tT rfl) rfl T.all uJ (bU (jF (own:=1) (caps:=[]) (N:=["sign"]) (N0:=["thing","most"]) (sc0:=cG pC) rfl (ux (pv 0))
    (λ_ _ _=>eY (i:=0) vT rfl (Kh rfl)) (λ_ _ _=>i9)
    (λ_ _ _=>ip pQ (pv 0) (fK (v:= .str (JO "abcdefghijklmnopqrstuvwxyz0123456789")) rfl U ⟨_,rfl⟩) rfl) (iX (by decide)) rfl rfl
    dkq rfl dkq dkq rfl dkq) bV)))),?_⟩;refine⟨_,rfl,x,.ty "str",_,_,rfl,aa,.inl ⟨_,rfl,uu aa⟩,_,rfl,?_⟩;have I:=k H (bY.refl H);cases hx:rS x with
  |false=>
   rw[E2 hx] at I;exact cg (cg I)
  |true=>
   obtain⟨z,rfl⟩:=isStr hx;have hz:=ab z rfl;have hl:(sizeLine:Nat)=16777216:=Kv;have J:iT m (.str z)=(decide (1<=z.length)&&decide (z.length<=m)&&z.cps.toList.all dA):=rfl;refine cj ?_;refine⟨_,rfl,z,rfl,by(clear J hx U;lia),_,_,rfl,rfl,_,rfl,?_⟩;by_cases h1:(z.length:Int)<1
   ·rw[JS h1];rw[J,JQ (by(clear J hl hz hx U;lia)),NZ,NZ] at I;exact cg (cg I)
   ·rw[JQ h1];refine cj ⟨_,rfl,z,rfl,by(clear h1 J hx U;lia),_,rfl,_,_,rfl,rfl,_,rfl,?_⟩;by_cases hlen:(m:Int)<(z.length:Int)
    ·rw[JS hlen];rw[J,JQ (show ¬ z.length<=m by(clear h1 J hl hz hx U;lia)),MZ,NZ] at I;exact cg I
    ·rw[JQ hlen];refine cj ?_;have sz:z.cps.size=z.length:=rfl;refine⟨_,rfl,z,rfl,wu (x:=z) (λi ys H'=>bY H H'/\ys=((z.cps.toList.take i).map λc=>V.bl (dA c))) (by(clear hlen h1 J hx U;lia)) ⟨bY.refl H,rfl⟩ ?_ ?_⟩
     ·rintro i c ys H' N hc ⟨sm,rfl⟩ hN;refine g1 ?_;refine⟨_,rfl,_,_,rfl,rfl,hN _ _ ⟨sm,?_⟩⟩;rw[qY,Lk,FH hc,J5];rfl
     ·rintro ys H' ⟨sm,rfl⟩ _ p hp;refine⟨p,z.cps.toList.map dA,rfl,ck.of (by rw[b6,Lq (by simp)];simp),?_⟩;have:=k (upd H' p (.lst ((z.cps.toList.take z.cps.size).map λc=>V.bl (dA c)))) (bY.upd sm hp);have e:iT m (.str z)=(z.cps.toList.map dA).all id:=by
       rw[J,JS (by(clear hp sz hlen J hl hz hx U;lia)),JS (by(clear hp sz h1 J hl hz hx U;lia)),Bool.true_and,Bool.true_and,OE];rfl
      rw[e] at this;exact this
noncomputable def zA(K:Kl)(m:Nat):Sp:=λvs H Q _=>∃ x,vs=[x]/\Known K H x/\rK x/\∀ H',bY H H'->Q (.bl (iT m x)) H'
theorem IA:da ["thing"] ["thing"] (cG qk):=⟨rfl,rfl,rfl,dkq,rfl,dkq,dkq⟩
seal cH PS PE PT PA PG PI cT cP in
theorem Jd{f fr:JR}{fd fdr:J2}(D:Df K mg "is_word" qk f fd)(DR:Df K mg "is_small_row" pC fr fdr)(T:Txt mg):bX P w K mg base b7 2 f fd ["thing"] (zA K 2000):=by
 obtain⟨tc,U⟩:=T.cWord;have I:bX P w K mg base b7 1 fr fdr ["thing","most"] (xH K):=Jv DR T;have bR:=DR.F.binds (ps:=["thing","most"]) λ_ _ _ _ _ _ us hl=>eU (λ_ _=>rfl) us hl
 refine D.F.ok IA (λvs H Q E h=>?_) (λcdv A outer s H vs Q E hr h=>?_)
 ·obtain⟨x,rfl,_⟩:=h;rfl
 ·obtain⟨x,rfl,hk,J,k⟩:=h;refine⟨_,b5 (cy (cQ I hr rfl DR.m DR.F.kp bR .nil cz (bU (pv 0) (bU (fK (v:= .int 2000) rfl U ⟨_,rfl⟩) bV)))),?_⟩;exact⟨_,rfl,x,2000,rfl,hk,J,k⟩
noncomputable def qP:Sp:=λvs H Q _=>∃ n k:Int,vs=[.int n,.int k]/\0<=k/\k<=1000000/\∀ r:Int,0<=r->r<2147483629->Q (.int r) H
theorem Ag:da ["_law_number_here","_law_k"] ["_law_number_here","_law_k"] (cG ju):=⟨rfl,rfl,rfl,dkq,rfl,dkq,dkq⟩
seal cH PS PE PT PA PG PI cT cP in
theorem tM{f:JR}{fd:J2}(D:Df K mg "_law_mixed" ju f fd):bX P w K mg base b7 1 f fd ["_law_number_here","_law_k"] qP:=by
 refine D.F.ok Ag (λvs H Q E h=>?_) (λcdv A outer s H vs Q E I h=>?_)
 ·obtain⟨n,k,rfl,_⟩:=h;rfl
 ·obtain⟨n,k,rfl,h0,h1,U⟩:=h;refine⟨_,b9 (cZ (i:=0) Ag.nd rfl (Kh rfl) (cA fI (cA lQ (cA eD (cA eD (cA fI (pv 0) bZ) (cA lQ (cA lQ bZ (pv 1)) (pv 1))) (cA lQ bZ (pv 1))) bZ) bZ))
   (b5 (cy (cA fI (cA lQ (pv 0) (cA eD bZ (cA lQ bZ (pv 1)))) bZ))),?_⟩;refine⟨_,rfl,_,_,rfl,rfl,(by show(0:Int)<2147483647;decide),_,rfl,_,_,rfl,rfl,.inl ⟨by decide,by decide⟩,_,rfl,_,_,rfl,rfl,.inr ⟨by(clear h1;lia),by(clear h0;lia)⟩,_,_,rfl,rfl,_,rfl,_,_,rfl,rfl,.inl ⟨by decide,by decide⟩,_,_,rfl,rfl,
   _,_,rfl,rfl,.inr ⟨by decide,by decide⟩,_,_,rfl,rfl,(by show(0:Int)<2147483647;decide),?_⟩;have b1:=LR ((n%2147483647+7919*k*k+31*k)*48271) (show(2147483647:Int)≠0 by decide);have J:=Ly ((n%2147483647+7919*k*k+31*k)*48271) (show(0:Int)<2147483647 by decide);refine⟨_,rfl,_,rfl,_,_,rfl,rfl,.inl ⟨by decide,by decide⟩,_,_,rfl,rfl,_,_,rfl,rfl,.inl ⟨by(clear J b1 h1 h0;lia),by(clear J b1 h1 h0;lia)⟩,_,_,rfl,rfl,(by show(0:Int)<2147483629;decide),?_⟩;exact U _ (LR _ (by decide)) (Ly _ (by decide))
noncomputable def xh(K:Kl):Sp:=λvs H Q _=>∃(a:JR) (ns:JP Int) (k:Nat),vs=[.ref a,.int k]/\ck K H a (ns.map V.int)/\ns.length<=63/\k<=1000/\∀(r:Int) H',0<=r->r<2147483629->bY H H'->Q (.int r) H'
theorem Ca:da ["_law_script","_law_k"] ["_law_script","_law_k"] (cG mS):=⟨rfl,rfl,rfl,dkq,rfl,dkq,dkq⟩
seal cH PS PE PT PA PG PI cT cP in
theorem yx{f fm:JR}{fd fdm:J2}(D:Df K mg "_law_number" mS f fd)(DM:Df K mg "_law_mixed" ju fm fdm)(T:Txt mg):bX P w K mg base b7 2 f fd ["_law_script","_law_k"] (xh K):=by
 have GM:bX P w K mg base b7 1 fm fdm ["_law_number_here","_law_k"] qP:=tM DM
 have bM:=DM.F.binds (ps:=["_law_number_here","_law_k"]) λ_ _ _ _ _ _ us U=>eU (λ_ _=>rfl) us U
 refine D.F.ok Ca (λvs H Q E h=>?_) (λcdv A outer s H vs Q E I h=>?_)
 ·obtain⟨a,ns,k,rfl,_⟩:=h;rfl
 ·obtain⟨a,ns,k,rfl,hS,U,hk,kk⟩:=h;refine⟨_,b9 (cM (cx (wm I.units100) (pv 0) (eZ bV) (cC _)) (b5 (cy (cQ GM I rfl DM.m DM.F.kp bM .nil cz (bU bZ (bU (pv 1) bV))))) cX)
   (b5 (cy (cQ GM I rfl DM.m DM.F.kp bM .nil cz (bU (cK fN (pv 0) (cA fI (pv 1) (dE iQ rfl T.len e8 (bU (pv 0) bV))) (λ_ _=>rfl)) (bU (pv 1) bV))))),?_⟩;refine⟨_,rfl,Ks _,λp hp=>?_⟩;have sm:bY H (upd H p (.lst [])):=cq hp;refine⟨.list (ns.map .int),.list [],.lst (sm.seq hS) (xJ ns),.lst (ck.of b6) .nil,lay_ints ns,rfl,Kj (LV _ _) (by decide),_,rfl,?_⟩;cases ns with
  |nil=>
   refine cg ?_;exact⟨_,rfl,17,k,rfl,by(clear U hp hk;lia),by(clear U hp;lia),λr r0 r1=>kk r _ r0 r1 sm⟩
  |cons n ns=>
   refine cj ?_;have hn:(0:Int)<(((n::ns).map V.int).length:Nat):=by simp
   refine⟨_,rfl,_,rfl,_,rfl,_,_,rfl,.inl (sm.seq hS),_,_,rfl,rfl,hn,?_⟩;have J:k%(n::ns).length<(n::ns).length:=Nat.mod_lt _ (by simp);have ei:((k:Nat):Int)%((((n::ns).map V.int).length:Nat):Int)=((k%(n::ns).length:Nat):Int):=by rw[JX];(clear J hn U hp hk;lia)
   refine⟨a,_,_,.int ((n::ns)[k%(n::ns).length]),rfl,rfl,sm.seq hS,?_,_,rfl,_,k,rfl,by(clear ei J hn U hp hk;lia),by(clear ei J hn U hp;lia),λr r0 r1=>kk r _ r0 r1 sm⟩;rw[ei];exact cJ (by rw[List.getElem?_map,List.getElem?_eq_getElem J];rfl)
noncomputable def codes(x:Str):JP Nat:=x.cps.toList
theorem toStr(x:Str):(⟨(codes x).toArray⟩:Str)=x:=by unfold codes;simp
theorem fO(a b:JP Nat):(⟨a.toArray⟩:Str)++⟨b.toArray⟩=⟨(a++b).toArray⟩:=by
 show(⟨a.toArray++b.toArray⟩:Str)=_;simp
theorem dv(a:JP Nat):(⟨a.toArray⟩:Str).length=a.length:=by simp[N3]
theorem Fb:JO ""=⟨([]:JP Nat).toArray⟩:=rfl
theorem Ad:∀ cs:JP Nat,PySem.Str.join (JO "") (cs.map λc=>(⟨#[c]⟩:Str))=⟨cs.toArray⟩
 |[]=>rfl
 |[c]=>rfl
 |c::d::r=>by
  show(⟨[c].toArray⟩:Str)++JO ""++PySem.Str.join (JO "") ((d::r).map λc=>(⟨#[c]⟩:Str))=_;rw[Ad (d::r),Fb,fO,fO];rfl
theorem join_eq(cs:JP Nat):Txt.join (JO "") (cs.map λc=>(⟨#[c]⟩:Str))=⟨cs.toArray⟩:=by
 show Od _ _=_;rw[Nt];exact Ad cs
theorem Gz(cs:JP Nat):((cs.map λc=>(⟨#[c]⟩:Str)).map (·.length)).sum=cs.length:=by
 induction cs with
 |nil=>rfl
 |cons c r J=>rw[KU,KU,NC,J,JV];show 1+_=_;(clear J;lia)
theorem EF{z:Str}{l u:JW Int}{c:Nat}(h:c∈(Txt.slice z l u).cps.toList):c∈z.cps.toList:=by
 unfold Txt.slice at h;split at h
 ·exact h
 ·have h':c∈(Lh l u 1 z.length).filterMap (z.cps[·]?):=by simpa using h
  obtain⟨i,_,e⟩:=List.mem_filterMap.mp h';have:=Array.mem_of_getElem? e;simpa using this
theorem sL{p:Nat->KS}{z:Str}(l u:JW Int)(h:z.cps.toList.all p=true):(Txt.slice z l u).cps.toList.all p=true:=
 List.all_eq_true.mpr λc J=>List.all_eq_true.mp h c (EF J)
theorem Ai{p:Nat->KS}{a b:Str}(ha:a.cps.toList.all p=true)(hb:b.cps.toList.all p=true):(a++b).cps.toList.all p=true:=by
 rw[PySem.Str.cps_append,Array.toList_append,OK,ha,hb];rfl
theorem zG{p:Nat->KS}{l:JP Nat}(h:l.all p=true){i:Nat}(hi:i<l.length):p l[i]=true:=List.all_eq_true.mp h _ (M5 hi)
theorem Jx{R:Str}{k:Int}(h0:0<=k)(h1:k<=R.length):(Txt.slice R none (some k)).length<=k.toNat:=by
 have U:(R.cps.toList.length:Int)=R.length:=by simp[N3]
 have J:Txt.slice R none (some k)=_:=L7 ⟨by lia,by lia⟩;rw[J,dv,Lr,KH]
 lia
theorem Gg{R:Str}{a b:Int}(h0:0<=a)(h1:a<=b)(h2:b<=R.length):(Txt.slice R (some a) (some b)).length<=(b-a).toNat:=by
 have h:=NT R (a:=a.toNat) (b:=b.toNat) (by lia) (by lia);rw[Ml h0,Ml (by lia)] at h;have h':Txt.slice R (some a) (some b)=_:=h;rw[h',dv,Lr]
 lia
noncomputable def Wm(z:Str):Prop:=z.length<=6/\z.cps.toList.all dA=true/\1<=z.length
noncomputable def zM:Sp:=λvs H Q _=>∃ n:Int,vs=[.int n]/\∀ a H' (ws:JP Str),bY H H'->H' a=some (.lst (ws.map V.str))->ws.length=5->(∀ z∈ws,Wm z)->Q (.ref a) H'
theorem km:da ["_law_number_here","_law_signs","_law_rest","_law_k","_law_size","_law_at","_law_found","_law_sign"] ["_law_number_here"] (cG lX):=⟨rfl,rfl,rfl,dkq,rfl,dkq,dkq⟩
theorem B7:(["_law_j","_law_signs","_law_number_here"]:JP Str).Nodup:=dkq
theorem Ey:(["_law_k","_law_rest"]:JP Str).Nodup:=dkq
seal cH PS PE PT PA PG PI cT cP in
theorem Fz{f fm:JR}{fd fdm:J2}(D:Df K mg "_law_menu" lX f fd)(DM:Df K mg "_law_mixed" ju fm fdm)(T:Txt mg):bX P w K mg base b7 2 f fd ["_law_number_here"] zM:=by
 have GM:bX P w K mg base b7 1 fm fdm ["_law_number_here","_law_k"] qP:=tM DM
 have bM:=DM.F.binds (ps:=["_law_number_here","_law_k"]) λ_ _ _ _ _ _ us hl=>eU (λ_ _=>rfl) us hl
 refine D.F.ok km (λvs H Q E h=>?_) (λcdv A outer s H vs Q E hr h=>?_)
 ·obtain⟨n,rfl,_⟩:=h;rfl
 ·obtain⟨n,rfl,kk⟩:=h;have hl:(sizeLine:Nat)=16777216:=Kv;refine⟨_,b9 (cZ (i:=1) km.nd rfl (Pb rfl) b8)
   (b9 (uQ (cx cU (cA fI (pv 0) bZ) bZ (cC _)) (b5 (cZ (i:=1) km.nd rfl (Pb rfl) b8)) cX)
   (b9 (cZ (i:=2) km.nd rfl (Pb rfl) (f7 LA OL OM AD b8 (bU (jF (own:=1) (caps:=[1,0]) (N:=["_law_j","_law_signs","_law_number_here"])
     (N0:=["_law_number_here","_law_signs","_law_rest","_law_k","_law_size","_law_at","_law_found","_law_sign"]) (sc0:=cG lX) rfl
    (lF rfl T.range (bU bZ bV)) (λ_ _ _=>eY (i:=0) B7 rfl (Kh rfl)) (λ_ _ _=>i9)
    (λ_ _ _=>cK gI (pv 1) (cA fI (cQ GM hr rfl DM.m DM.F.kp bM .nil cz (bU (pv 2) (bU (cA eD bZ (pv 0)) bV))) bZ) (λ_ _=>rfl)) (iX (by decide)) rfl rfl
    dkq rfl dkq dkq rfl dkq) bV)))
   (b9 (cM (cx cU (cA fI (cA iy (pv 0) bZ) bZ) bZ (cC _))
    (b5 (cy (jF (own:=1) (caps:=[2]) (N:=["_law_k","_law_rest"])
     (N0:=["_law_number_here","_law_signs","_law_rest","_law_k","_law_size","_law_at","_law_found","_law_sign"]) (sc0:=cG lX) rfl
     (lF rfl T.range (bU bZ bV)) (λ_ _ _=>eY (i:=0) Ey rfl (Kh rfl)) (λ_ _ _=>i9)
     (λ_ _ _=>gP gM (pv 1) lT (fE (cA eD (pv 0) bZ))) (iX (by decide)) rfl rfl
     dkq rfl dkq dkq rfl dkq))) cX)
   (b9 (cZ (i:=4) km.nd rfl (Kh rfl) (cA fI (cA iy (pv 0) bZ) bZ))
   (b9 (cZ (i:=5) km.nd rfl (Kh rfl) (cA fI (cA iy (pv 0) bZ) (cA eD (pv 4) bZ)))
   (b9 (cZ (i:=6) km.nd rfl (Kh rfl) (eZ bV))
   (b9 (kT KZ rfl (lF rfl T.range (bU bZ bV)) (eY (i:=3) km.nd rfl (Kh rfl))
    (b9 (cZ (i:=7) km.nd rfl (Kh rfl) (cK gI (pv 1) (cA fI (cA eD (cA iy (pv 0) bZ) (cA lQ bZ (pv 3))) bZ) (λ_ _=>rfl)))
    (b5 (e9 (f7 Kp KO K6 iM (pv 6)
     (bU (cA gh (cA gh (gP gM (pv 2) lT (fE (pv 5))) (pv 7)) (gP gM (pv 2) (fE (pv 5)) (fE (pv 4)))) bV))))))
   (b5 (cy (pv 6)))))))))),?_⟩;refine⟨λak H'=>H'=H/\∃ S:Str,S.cps.toList.all dA=true/\S.length=26/\ak=[some (.int n),some (.str S),none,none,none,none,none,none],?_,?_⟩
  ·refine⟨_,rfl,_,_,rfl,rfl,(by show(0:Int)<3;decide),rfl,_,rfl,?_⟩;refine jd (λ_=>?_) (λ_=>?_)
   ·exact⟨rfl,JO "0a1b2c3d4e5f6g7h8i9jklmnop",dkq,dkq,rfl⟩
   ·exact⟨rfl,JO "abcdefghijklmnopqrstuvwxyz",dkq,dkq,rfl⟩
  ·rintro ak H' ⟨rfl,S,hS,J,rfl⟩;have U:(codes S).length=26:=by unfold codes;rw[str_len];exact J
   refine⟨rfl,6,rfl,by decide,by decide,rW (λi ys H1=>H1=H'/\∃ cs:JP Nat,cs.length=i/\cs.all dA=true/\ys=cs.map λc=>V.str ⟨#[c]⟩) (by rw[hl];decide) ⟨rfl,[],rfl,rfl,rfl⟩ ?_ ?_⟩
   ·rintro i ys H1 N hi ⟨rfl,cs,hc,hok,rfl⟩ hN;have ai:i<6:=hi;refine g1 ?_;refine⟨_,rfl,_,rfl,_,rfl,_,_,rfl,rfl,_,_,rfl,by(clear ai hok hc hi U J hS hl;lia),by(clear ai hok hc U J hS hl;lia),λr r0 r1=>?_⟩;refine⟨_,_,rfl,rfl,(by show(0:Int)<26;decide),?_⟩;obtain⟨j,hj,aa⟩:=lM (r:=r) (n:=26) (by decide);have ae:j<(codes S).length:=by(clear aa r1 r0 ai hok hc hi J hS hl;lia)
    refine⟨S,_,(codes S)[j],rfl,rfl,by(clear ae aa hj r1 r0 ai hok hc hi U hS;lia),?_,hN _ _ ⟨rfl,cs++[(codes S)[j]],by simp[hc],by rw[OK,hok];simp[zG (p:=dA) (l:=codes S) hS ae],by rw[J5];rfl⟩⟩;rw[<-hj];exact cJ (List.getElem?_eq_getElem ae)
   ·rintro ys H1 ⟨rfl,cs,hc,hok,rfl⟩ _ p hp;have I:cs.length=6:=hc;refine⟨_,p,cs.map λc=>(⟨#[c]⟩:Str),rfl,rfl,ck.of (by rw[b6,LB];rfl),?_,?_⟩
    ·rw[Gz,JX];show cs.length+cs.length*0<=_
     (clear I hp hok U J hS hl;lia)
    rw[join_eq];have sm:bY H1 (upd H1 p (.lst (cs.map λc=>V.str ⟨#[c]⟩))):=cq hp;generalize hG:upd H1 p (.lst (cs.map λc=>V.str ⟨#[c]⟩))=H2 at sm;have hR:(⟨cs.toArray⟩:Str).cps.toList.all dA=true:=by simpa using hok
    have ag:(⟨cs.toArray⟩:Str).length=6:=by rw[dv];exact I
    generalize (⟨cs.toArray⟩:Str)=R at hR ag;refine⟨_,rfl,_,_,rfl,rfl,⟨by decide,by decide⟩,_,_,rfl,rfl,(by show(0:Int)<3;decide),rfl,_,rfl,?_⟩;refine jd (λ_=>?_) (λ_=>?_)
    ·refine⟨5,rfl,by decide,by decide,rW (λi ys H3=>H3=H2/\∃ ws:JP Str,ws.length=i/\(∀ z∈ws,Wm z)/\ys=ws.map V.str) (by rw[hl];decide) ⟨rfl,[],rfl,λz hz=>by simp at hz,rfl⟩ ?_ ?_⟩
     ·rintro i ys H3 N hi ⟨rfl,ws,hw,ab,rfl⟩ hN;refine g1 ?_;refine⟨_,rfl,_,rfl,_,_,rfl,rfl,_,rfl,R,rfl,by(clear hw hG hi hR I hp hok hc U J hS;lia),hN _ _ ⟨rfl,ws++[Txt.slice R none (some ((0:Int)+i+1))],by simp[hw],λz hz=>?_,by rw[J5];rfl⟩⟩;rcases List.mem_append.mp hz with q|q
      ·exact ab z q
      ·have e:z=Txt.slice R none (some ((0:Int)+i+1)):=by simpa using q
       rw[e];have:=Txt.slice_le R none (some ((0:Int)+i+1));exact⟨by(clear e hw hG hi hR I hp hok hc U J hS hl;lia),sL _ _ hR,by
        have af:i<5:=hi
        have l6:(R.cps.toList.length:Int)=R.length:=by simp[N3]
        have e1:Txt.slice R none (some ((0:Int)+i+1))=_:=L7 ⟨by lia,by lia⟩
        have l7:R.cps.toList.length=6:=by lia
        rw[e1,dv,Lr,KH,l7]
        lia⟩
     ·rintro ys H3 ⟨rfl,ws,hw,ab,rfl⟩ _ q hq;exact kk q _ ws (sm.trans (cq hq)) b6 hw ab
    ·refine⟨_,rfl,_,_,rfl,rfl,⟨by decide,by decide⟩,_,_,rfl,rfl,(by show(0:Int)<5;decide),?_⟩;have s0:=LR (n/9) (show(5:Int)≠0 by decide);refine⟨_,rfl,_,_,rfl,rfl,⟨by decide,by decide⟩,_,rfl,_,_,rfl,rfl,_,_,rfl,rfl,(by show(0:Int)<n/9%5+1;(clear s0 ag hR hG I hp hok hc U J hS hl;lia)),?_⟩;refine⟨Ks _,λa ha=>?_⟩;refine⟨5,rfl,by decide,by decide,tP (λi σ H3=>∃(ws:JP Str) (v3 v7:JW V),σ=[some (.int n),some (.str S),some (.str R),v3,some (.int (n/9%5)),some (.int (n/45%(n/9%5+1))),some (.ref a),v7]/\bY H1 H3/\H3 a=some (.lst (ws.map V.str))/\ws.length=i/\∀ z∈ws,Wm z) ?_ ?_ ?_⟩
     ·exact⟨[],none,none,rfl,sm.trans (cq ha),b6,rfl,λz hz=>by simp at hz⟩
     ·rintro i σ H3 hi ⟨ws,v3,v7,rfl,aj,hA,hw,ab⟩;have af:i<5:=hi;refine⟨_,rfl,_,rfl,_,_,rfl,rfl,⟨by decide,by decide⟩,_,rfl,_,_,rfl,rfl,.inl ⟨by decide,by decide⟩,_,_,rfl,rfl,_,_,rfl,rfl,(by show(0:Int)<26;decide),?_⟩;obtain⟨j,hj,aa⟩:=lM (r:=n/225+5*(0+(i:Int))) (n:=26) (by decide);have ae:j<(codes S).length:=by(clear aa af hw hA hi ha s0 ag hR hG I hp hok hc J hS hl;lia)
      refine⟨S,_,(codes S)[j],rfl,rfl,by(clear ae aa hj af hw hA hi ha s0 ag hR hG I hp hok hc U hS;lia),by rw[<-hj];exact cJ (List.getElem?_eq_getElem ae),?_⟩;have l1:=Txt.slice_le R none (some (n/45%(n/9%5+1)));have l2:=Txt.slice_le R (some (n/45%(n/9%5+1))) (some (n/9%5));have ah:(⟨#[(codes S)[j]]⟩:Str).length=1:=rfl;refine⟨_,rfl,.inl ⟨rfl,_,ck.of hA⟩,_,rfl,_,rfl,_,rfl,R,rfl,by(clear ah l2 l1 ae aa hj af hw hA hi ha s0 hR hG I hp hok hc U J hS;lia),_,rfl,_,_,rfl,rfl,by(clear l2 aa hj af hw hA hi ha s0 hR hG I hp hok hc U J hS;lia),_,rfl,_,rfl,_,rfl,_,rfl,_,rfl,R,rfl,by(clear ah l2 l1 ae aa hj af hw hA hi ha s0 hR hG I hp hok hc U J hS;lia),_,_,rfl,rfl,by rw[L3];(clear aa hj af hw hA hi ha s0 hR hG I hp hok hc U J hS;lia),?_⟩;have ao:a≠a->LG:=λz=>z rfl
      refine⟨a,_,_,rfl,rfl,hA,by simp;(clear ah l2 l1 ae aa hj af hA ha s0 ag hR hG I hp hok hc U J hS;lia),?_⟩;refine⟨ws++[Txt.slice R none (some (n/45%(n/9%5+1)))++⟨#[(codes S)[j]]⟩++Txt.slice R (some (n/45%(n/9%5+1))) (some (n/9%5))],_,_,rfl,λb u e=>?_,by rw[b6,J5];rfl,by simp[hw],λz hz=>?_⟩
      ·have hb:b≠a:=λz=>by subst z;rw[sm.free ha] at e;cases e
       rw[cF hb];exact aj b u e
      ·rcases List.mem_append.mp hz with q|q
       ·exact ab z q
       ·have e:z=Txt.slice R none (some (n/45%(n/9%5+1)))++⟨#[(codes S)[j]]⟩++Txt.slice R (some (n/45%(n/9%5+1))) (some (n/9%5)):=by simpa using q
        rw[e];have a0:=LR (n/45) (show n/9%5+1≠0 by lia);have a1:=Ly (n/45) (show 0<n/9%5+1 by lia);have a2:=Ly (n/9) (show(0:Int)<5 by decide);have m1:=Jx (R:=R) (k:=n/45%(n/9%5+1)) a0 (by lia);have m2:=Gg (R:=R) (a:=n/45%(n/9%5+1)) (b:=n/9%5) a0 (by lia) (by lia);refine⟨by rw[L3,L3];(clear e aa hj af hw hA hi ha hR hG I hp hok hc U J hS hl;lia),Ai (Ai (sL _ _ hR) ?_) (sL _ _ hR),by rw[L3,L3];lia⟩;simp[zG (p:=dA) (l:=codes S) hS ae]
     ·rintro σ H3 ⟨ws,v3,v7,rfl,aj,hA,hw,ab⟩;exact⟨_,rfl,kk a H3 ws aj hA hw ab⟩
end
inductive At where
 |word (z : Str)|start (z : Str)|row (zs : JP Str)|near (a b : At) (n : Int)|both (a b : At)|either (a b : At)|no (a : At)
inductive Kn where
 |w|s|r|n|b|e|o
 deriving LY
noncomputable def At.kn:At->Kn
 |.word _=> .w|.start _=> .s|.row _=> .r|.near _ _ _=> .n|.both _ _=> .b|.either _ _=> .e|.no _=> .o
noncomputable def At.dep:At->Nat
 |.near a b _=>max a.dep b.dep+1|.both a b=>max a.dep b.dep+1|.either a b=>max a.dep b.dep+1|.no a=>a.dep+1|_=>0
noncomputable def At.told:At->Kf
 |.word z=> .tuple [.str "word",.str z]
 |.start z=> .tuple [.str "start",.str z]
 |.row zs=> .tuple [.str "row",.tuple (zs.map .str)]
 |.near a b n=> .tuple [.str "near",a.told,b.told,.int n]
 |.both a b=> .tuple [.str "both",a.told,b.told]
 |.either a b=> .tuple [.str "either",a.told,b.told]
 |.no a=> .tuple [.str "not",a.told]
noncomputable def At.kids:At->JP At
 |.near a b _=>[a,b]|.both a b=>[a,b]|.either a b=>[a,b]|.no a=>[a]|_=>[]
noncomputable def At.many:At->Nat
 |.near a b _=>1+(a.many+b.many)|.both a b=>1+(a.many+b.many)|.either a b=>1+(a.many+b.many)|.no a=>1+a.many|_=>1
mutual
inductive cD (l : KS) (H : Hp) : V -> Kf -> Prop
 |non : cD l H .non .none
 |bl (b : KS) : cD l H (.bl b) (.bool b)
 |int (i : Int) : cD l H (.int i) (.int i)
 |str (x : Str) : cD l H (.str x) (.str x)
 |lst {a : JR} {xs : JP V} {ds : JP Kf} : l = true -> H a = some (.lst xs) -> cV l H xs ds -> cD l H (.ref a) (.list ds)
 |tup {a : JR} {xs : JP V} {ds : JP Kf} : H a = some (.tup xs) -> cV l H xs ds -> cD l H (.ref a) (.tuple ds)
inductive cV (l : KS) (H : Hp) : JP V -> JP Kf -> Prop
 |nil : cV l H [] []
 |cons {x : V} {xs : JP V} {d : Kf} {ds : JP Kf} : cD l H x d -> cV l H xs ds -> cV l H (x :: xs) (d :: ds)
end
noncomputable def g8(H H':Hp):Prop:=(∀ b C dx fs,H b=some (.ins C dx fs)->H' b=some (.ins C dx fs))/\∀ b xs,H b=some (.tup xs)->H' b=some (.tup xs)
theorem g8.of {H H':Hp}(s:bY H H'):g8 H H':=⟨λ_ _ _ _ e=>s _ _ e,λ_ _ e=>s _ _ e⟩
theorem g8.lst {H:Hp}{a:JR}{xs:JP V}{o:HO}(h:H a=some (.lst xs)):g8 H (upd H a o):=
 ⟨λb C dx fs e=>by rw[cF (r9 e h (by intro z;cases z))];exact e,λb ys e=>by rw[cF (r9 e h (by intro z;cases z))];exact e⟩
mutual
theorem cD.same {l : KS} {H H' : Hp} (s : bY H H') : ∀ {x : V} {d : Kf}, cD l H x d -> cD l H' x d
 | _, _, .non => .non
 | _, _, .bl b => .bl b
 | _, _, .int i => .int i
 | _, _, .str x => .str x
 | _, _, .lst e h r => .lst e (s _ _ h) (cV.same s r)
 | _, _, .tup h r => .tup (s _ _ h) (cV.same s r)
theorem cV.same {l : KS} {H H' : Hp} (s : bY H H') : ∀ {xs : JP V} {ds : JP Kf}, cV l H xs ds -> cV l H' xs ds
 | _, _, .nil => .nil
 | _, _, .cons h r => .cons (cD.same s h) (cV.same s r)
end
mutual
theorem cD.keep {H H' : Hp} (s : g8 H H') : ∀ {x : V} {d : Kf}, cD false H x d -> cD false H' x d
 | _, _, .non => .non
 | _, _, .bl b => .bl b
 | _, _, .int i => .int i
 | _, _, .str x => .str x
 | _, _, .lst e h r => by cases e
 | _, _, .tup h r => .tup (s.2 _ _ h) (cV.keep s r)
theorem cV.keep {H H' : Hp} (s : g8 H H') : ∀ {xs : JP V} {ds : JP Kf}, cV false H xs ds -> cV false H' xs ds
 | _, _, .nil => .nil
 | _, _, .cons h r => .cons (cD.keep s h) (cV.keep s r)
end
mutual
theorem cD.any {l : KS} {H : Hp} : ∀ {x : V} {d : Kf}, cD false H x d -> cD l H x d
 | _, _, .non => .non
 | _, _, .bl b => .bl b
 | _, _, .int i => .int i
 | _, _, .str x => .str x
 | _, _, .lst e h r => by cases e
 | _, _, .tup h r => .tup h (cV.any r)
theorem cV.any {l : KS} {H : Hp} : ∀ {xs : JP V} {ds : JP Kf}, cV false H xs ds -> cV l H xs ds
 | _, _, .nil => .nil
 | _, _, .cons h r => .cons (cD.any h) (cV.any r)
end
mutual
theorem cD.dt {l : KS} {K : J7} {H : Hp} : ∀ {x : V} {d : Kf}, cD l H x d -> ib K H x d
 | _, _, .non => .non
 | _, _, .bl b => .bl b
 | _, _, .int i => .int i
 | _, _, .str x => .str x
 | _, _, .lst e h r => .lst (ck.of h) (cV.dt r)
 | _, _, .tup h r => .tup (cu.of h) (cV.dt r)
theorem cV.dt {l : KS} {K : J7} {H : Hp} : ∀ {xs : JP V} {ds : JP Kf}, cV l H xs ds -> iY K H xs ds
 | _, _, .nil => .nil
 | _, _, .cons h r => .cons (cD.dt h) (cV.dt r)
end
theorem cV.len {l:KS}{H:Hp}:∀{xs:JP V} {ds:JP Kf},cV l H xs ds->xs.length=ds.length
 |_,_,.nil=>rfl
 |_,_,.cons _ r=>by simp[cV.len r]
theorem cV.strs {l:KS}{H:Hp}:∀(zs:JP Str),cV l H (zs.map V.str) (zs.map MC)
 |[]=> .nil
 |z::zs=> .cons (.str z) (cV.strs zs)
noncomputable def wC:Kf->Mx
 |.none=>"NoneType" |.bool _=>"bool" |.int _=>"int" |.str _=>"str" |.list _=>"list" |.tuple _=>"tuple" |.dict _=>"dict"
theorem cD.ty {l:KS}{K:Kl}{H:Hp}{x:V}{d:Kf}(h:cD l H x d):gz K H x (.type (wC d)):=by
 cases h with
 |non=>exact .non
 |bl b=>exact .bl b
 |int i=>exact .int i
 |str z=>exact .str z
 |lst e h r=>exact .lst h
 |tup h r=>exact .tup h
theorem cD.known {l:KS}{K:Kl}{H:Hp}{x:V}{d:Kf}(h:cD l H x d):Known K H x:=⟨_,h.ty⟩
noncomputable abbrev wZ(z:Str):JP (Str×V):=dh "word" (.str z) []
noncomputable abbrev vz(p:JR):JP (Str×V):=dh "side_by_side" (.ref p) []
noncomputable abbrev f1(p:JR):JP (Str×V):=dh "one" (.ref p) []
noncomputable abbrev f2(p q:JR):JP (Str×V):=dh "other" (.ref q) (f1 p)
noncomputable abbrev f3(p q:JR)(n:Int):JP (Str×V):=dh "far" (.int n) (f2 p q)
noncomputable def d0(C:Kn->JR)(H:Hp):JR->At->Prop
 |a,.word z=>∃ dx,H a=some (.ins (C .w) dx (wZ z))
 |a,.start z=>∃ dx,H a=some (.ins (C .s) dx (wZ z))
 |a,.row zs=>∃ dx p,H a=some (.ins (C .r) dx (vz p))/\H p=some (.tup (zs.map V.str))
 |a,.near x y n=>∃ dx p q,H a=some (.ins (C .n) dx (f3 p q n))/\d0 C H p x/\d0 C H q y
 |a,.both x y=>∃ dx p q,H a=some (.ins (C .b) dx (f2 p q))/\d0 C H p x/\d0 C H q y
 |a,.either x y=>∃ dx p q,H a=some (.ins (C .e) dx (f2 p q))/\d0 C H p x/\d0 C H q y
 |a,.no x=>∃ dx p,H a=some (.ins (C .o) dx (f1 p))/\d0 C H p x
theorem d0.keep {C:Kn->JR}{H H':Hp}(s:g8 H H'):∀{t:At} {a:JR},d0 C H a t->d0 C H' a t
 |.word _,_,⟨dx,h⟩=>⟨dx,s.1 _ _ _ _ h⟩
 |.start _,_,⟨dx,h⟩=>⟨dx,s.1 _ _ _ _ h⟩
 |.row _,_,⟨dx,p,h,hp⟩=>⟨dx,p,s.1 _ _ _ _ h,s.2 _ _ hp⟩
 |.near _ _ _,_,⟨dx,p,q,h,hp,J⟩=>⟨dx,p,q,s.1 _ _ _ _ h,d0.keep s hp,d0.keep s J⟩
 |.both _ _,_,⟨dx,p,q,h,hp,J⟩=>⟨dx,p,q,s.1 _ _ _ _ h,d0.keep s hp,d0.keep s J⟩
 |.either _ _,_,⟨dx,p,q,h,hp,J⟩=>⟨dx,p,q,s.1 _ _ _ _ h,d0.keep s hp,d0.keep s J⟩
 |.no _,_,⟨dx,p,h,hp⟩=>⟨dx,p,s.1 _ _ _ _ h,d0.keep s hp⟩
theorem d0.same {C:Kn->JR}{H H':Hp}(s:bY H H'){t:At}{a:JR}(h:d0 C H a t):d0 C H' a t:=h.keep (g8.of s)
noncomputable def lN(m:Str):Prop:=m≠"word"/\m≠"side_by_side"/\m≠"one"/\m≠"other"/\m≠"far"
theorem jL:lN "told":=by unfold lN;decide +kernel
theorem zy:lN "kids":=by unfold lN;decide +kernel
theorem d0.ob {C:Kn->JR}{H:Hp}:∀{t:At} {a:JR},d0 C H a t->∃ dx fs,H a=some (.ins (C t.kn) dx fs)/\∀ m,lN m->fs.lookup m=none
 |.word _,_,⟨dx,h⟩=>⟨dx,_,h,λm n=>by rw[dO,if_neg n.1];rfl⟩
 |.start _,_,⟨dx,h⟩=>⟨dx,_,h,λm n=>by rw[dO,if_neg n.1];rfl⟩
 |.row _,_,⟨dx,p,h,hp⟩=>⟨dx,_,h,λm n=>by rw[dO,if_neg n.2.1];rfl⟩
 |.near _ _ _,_,⟨dx,p,q,h,_⟩=>⟨dx,_,h,λm n=>by rw[dO,if_neg n.2.2.2.2,dO,if_neg n.2.2.2.1,dO,if_neg n.2.2.1];rfl⟩
 |.both _ _,_,⟨dx,p,q,h,_⟩=>⟨dx,_,h,λm n=>by rw[dO,if_neg n.2.2.2.1,dO,if_neg n.2.2.1];rfl⟩
 |.either _ _,_,⟨dx,p,q,h,_⟩=>⟨dx,_,h,λm n=>by rw[dO,if_neg n.2.2.2.1,dO,if_neg n.2.2.1];rfl⟩
 |.no _,_,⟨dx,p,h,_⟩=>⟨dx,_,h,λm n=>by rw[dO,if_neg n.2.2.1];rfl⟩
theorem nN(z:Str):(wZ z).lookup ("word":Str)=some (.str z):=by rw[dO,J1 rfl]
theorem xK(p:JR):(vz p).lookup ("side_by_side":Str)=some (.ref p):=by rw[dO,J1 rfl]
theorem wU(p:JR):(f1 p).lookup ("one":Str)=some (.ref p):=by rw[dO,J1 rfl]
theorem Es:¬ ("one":Str)="other":=dkq
theorem IG:¬ ("one":Str)="far":=dkq
theorem CN:¬ ("other":Str)="far":=dkq
theorem mP(p q:JR):(f2 p q).lookup ("one":Str)=some (.ref p):=by rw[dO,if_neg Es,dO,J1 rfl]
theorem mX(p q:JR):(f2 p q).lookup ("other":Str)=some (.ref q):=by rw[dO,J1 rfl]
theorem w9(p q:JR)(n:Int):(f3 p q n).lookup ("one":Str)=some (.ref p):=by rw[dO,if_neg IG];exact mP p q
theorem vh(p q:JR)(n:Int):(f3 p q n).lookup ("other":Str)=some (.ref q):=by rw[dO,if_neg CN];exact mX p q
theorem Bi(p q:JR)(n:Int):(f3 p q n).lookup ("far":Str)=some (.int n):=by rw[dO,J1 rfl]
noncomputable def uW:Kn->K0
 |.w=>cW|.s=>cS|.r=>cR|.n=>cN|.b=>cB|.e=>cE|.o=>cO
noncomputable def yu(i:Kn):K0:=inClass (uW i) 0
noncomputable def mx(i:Kn):K0:=inClass (uW i) 1
noncomputable def nh:Kn->K0
 |.n=>inClass cN 3|.b=>inClass cB 3|.e=>inClass cE 3|.o=>inClass cO 3|_=>inClass se 0
noncomputable def EZ:Kn->Str
 |.w=>"Word.__init__" |.s=>"Start.__init__" |.r=>"Row.__init__" |.n=>"Near.__init__" |.b=>"Both.__init__" |.e=>"Either.__init__" |.o=>"Not.__init__"
noncomputable def oF:Kn->Str
 |.w=>"Word.told" |.s=>"Start.told" |.r=>"Row.told" |.n=>"Near.told" |.b=>"Both.told" |.e=>"Either.told" |.o=>"Not.told"
noncomputable def nX:Kn->Str
 |.n=>"Near.kids" |.b=>"Both.kids" |.e=>"Either.kids" |.o=>"Not.kids" |_=>"Ask.kids"
noncomputable def uX:Kn->JP Str
 |.w=>["self","word"]|.s=>["self","word"]|.r=>["self","words"]|.n=>["self","one","other","far"]|.b=>["self","one","other"]|.e=>["self","one","other"]|.o=>["self","one"]
structure Cs (K : Kl) (C : Kn -> JR) : Prop where
 ic : ∀ i, qT K (C i)
 nW : ∀ i, gm K (C i) "word"
 nR : ∀ i, gm K (C i) "side_by_side"
 n1 : ∀ i, gm K (C i) "one"
 n2 : ∀ i, gm K (C i) "other"
 n3 : ∀ i, gm K (C i) "far"
theorem Cs.cl {K:Kl}{C:Kn->JR}(c:Cs K C)(i:Kn):gA K (C i):=(c.ic i).cl
structure Mt (K : Kl) (C : Kn -> JR) (m : Str) (q : Kn -> Str) (st : Kn -> K0) (f : Kn -> JR) (fd : Kn -> J2) : Prop where
 F : ∀ i, ej K m (q i) (st i) (f i) (fd i)
 M : ∀ i, Meth K (C i) m (f i)
section
variable {P : Ka} {w : Ku} {K : J7} {mg : Str -> JW JT} {base : KP} {C f : Kn -> JR} {fd : Kn -> J2}
noncomputable def pL(C:Kn->JR)(n:Nat)(i:Kn):Sp:=λvs H Q _=>∃(a:JR) (t:At),vs=[.ref a]/\d0 C H a t/\t.dep<=n/\t.kn=i/\∀ x H',bY H H'->cD false H' x t.told->Q x H'
theorem Jl(i:Kn):da ["self"] ["self"] (cG (mx i)):=by
 cases i<;>exact⟨rfl,rfl,rfl,dkq,rfl,dkq,dkq⟩
theorem kx(M:Mt K C "told" oF mx f fd)(i:Kn):Binds K (fd i) ["self"] []:=by
 cases i<;>exact(M.F _).binds (ps:=["self"]) λ_ _ _ _ _ _ us J=>iE (λ_=>rfl) us J
theorem eK:2<=sizeLine:=by rw[Kv];decide
theorem fH:3<=sizeLine:=by rw[Kv];decide
theorem ik:4<=sizeLine:=by rw[Kv];decide
seal cH PS PE PT PA PG PI cT cP in
theorem AK(Cl:Cs K C)(M:Mt K C "told" oF mx f fd)(n:Nat)(IH:0<n->∀ i,bX P w K mg base b7 n (f i) (fd i) ["self"] (pL C (n-1) i))(i:Kn):
  bX P w K mg base b7 (n+1) (f i) (fd i) ["self"] (pL C n i):=by
 refine(M.F i).ok (Jl i) (λvs H Q E h=>?_) (λcdv A outer s H vs Q E hr h=>?_)
 ·obtain⟨a,t,rfl,_⟩:=h;rfl
 ·obtain⟨a,t,rfl,hA,hd,rfl,k⟩:=h;cases t with
  |word z=>
   obtain⟨dx,U⟩:=hA;refine⟨_,b5 (cy (dm (bU b8 (bU (df (pv 0) rfl) bV)))),?_⟩;exact⟨_,rfl,a,C .w,dx,_,_,rfl,U,Cl.cl _,Cl.nW _,nN z,eK,λp hp=>k _ _ (cq hp) (.tup b6 (.cons (.str _) (.cons (.str _) .nil)))⟩
  |start z=>
   obtain⟨dx,U⟩:=hA;refine⟨_,b5 (cy (dm (bU b8 (bU (df (pv 0) rfl) bV)))),?_⟩;exact⟨_,rfl,a,C .s,dx,_,_,rfl,U,Cl.cl _,Cl.nW _,nN z,eK,λp hp=>k _ _ (cq hp) (.tup b6 (.cons (.str _) (.cons (.str _) .nil)))⟩
  |row zs=>
   obtain⟨dx,q,U,hq⟩:=hA;refine⟨_,b5 (cy (dm (bU b8 (bU (df (pv 0) rfl) bV)))),?_⟩;exact⟨_,rfl,a,C .r,dx,_,_,rfl,U,Cl.cl _,Cl.nR _,xK q,eK,λp hp=>k _ _ (cq hp) (.tup b6 (.cons (.str _) (.cons (.tup (cq hp _ _ hq) (cV.strs zs)) .nil)))⟩
  |near x y m=>
   obtain⟨dx,p,q,U,hp,hq⟩:=hA;have aa:max x.dep y.dep+1<=n:=hd;have hn:0<n:=by lia
   refine⟨_,b5 (cy (dm (bU b8 (bU (gc (df (pv 0) rfl) Cl.cl M.M (IH hn) hr (kx M) cz) (bU (gc (df (pv 0) rfl) Cl.cl M.M (IH hn) hr (kx M) cz) (bU (df (pv 0) rfl) bV)))))),?_⟩;obtain⟨dp,fp,ep,lp⟩:=hp.ob;refine⟨_,rfl,a,C .n,dx,_,_,rfl,U,Cl.cl _,Cl.n1 _,w9 p q m,x.kn,p,dp,fp,rfl,ep,lp _ jL,p,x,rfl,hp,by lia,rfl,λu H1 s1 hu=>?_⟩;obtain⟨dq,fq,eq,lq⟩:=(hq.same s1).ob;refine⟨_,rfl,a,C .n,dx,_,_,rfl,s1 _ _ U,Cl.cl _,Cl.n2 _,vh p q m,y.kn,q,dq,fq,rfl,eq,lq _ jL,q,y,rfl,hq.same s1,by lia,rfl,λu2 H2 s2 I=>?_⟩;refine⟨_,rfl,a,C .n,dx,_,_,rfl,s2 _ _ (s1 _ _ U),Cl.cl _,Cl.n3 _,Bi p q m,ik,λr J=>?_⟩;exact k _ _ ((s1.trans s2).trans (cq J)) (.tup b6 (.cons (.str _) (.cons ((hu.same s2).same (cq J)) (.cons (I.same (cq J)) (.cons (.int _) .nil)))))
  |both x y=>
   obtain⟨dx,p,q,U,hp,hq⟩:=hA;have aa:max x.dep y.dep+1<=n:=hd;have hn:0<n:=by lia
   refine⟨_,b5 (cy (dm (bU b8 (bU (gc (df (pv 0) rfl) Cl.cl M.M (IH hn) hr (kx M) cz) (bU (gc (df (pv 0) rfl) Cl.cl M.M (IH hn) hr (kx M) cz) bV))))),?_⟩;obtain⟨dp,fp,ep,lp⟩:=hp.ob;refine⟨_,rfl,a,C .b,dx,_,_,rfl,U,Cl.cl _,Cl.n1 _,mP p q,x.kn,p,dp,fp,rfl,ep,lp _ jL,p,x,rfl,hp,by lia,rfl,λu H1 s1 hu=>?_⟩;obtain⟨dq,fq,eq,lq⟩:=(hq.same s1).ob;refine⟨_,rfl,a,C .b,dx,_,_,rfl,s1 _ _ U,Cl.cl _,Cl.n2 _,mX p q,y.kn,q,dq,fq,rfl,eq,lq _ jL,q,y,rfl,hq.same s1,by lia,rfl,λu2 H2 s2 I=>?_⟩;refine⟨fH,λr J=>?_⟩;exact k _ _ ((s1.trans s2).trans (cq J)) (.tup b6 (.cons (.str _) (.cons ((hu.same s2).same (cq J)) (.cons (I.same (cq J)) .nil))))
  |either x y=>
   obtain⟨dx,p,q,U,hp,hq⟩:=hA;have aa:max x.dep y.dep+1<=n:=hd;have hn:0<n:=by lia
   refine⟨_,b5 (cy (dm (bU b8 (bU (gc (df (pv 0) rfl) Cl.cl M.M (IH hn) hr (kx M) cz) (bU (gc (df (pv 0) rfl) Cl.cl M.M (IH hn) hr (kx M) cz) bV))))),?_⟩;obtain⟨dp,fp,ep,lp⟩:=hp.ob;refine⟨_,rfl,a,C .e,dx,_,_,rfl,U,Cl.cl _,Cl.n1 _,mP p q,x.kn,p,dp,fp,rfl,ep,lp _ jL,p,x,rfl,hp,by lia,rfl,λu H1 s1 hu=>?_⟩;obtain⟨dq,fq,eq,lq⟩:=(hq.same s1).ob;refine⟨_,rfl,a,C .e,dx,_,_,rfl,s1 _ _ U,Cl.cl _,Cl.n2 _,mX p q,y.kn,q,dq,fq,rfl,eq,lq _ jL,q,y,rfl,hq.same s1,by lia,rfl,λu2 H2 s2 I=>?_⟩;refine⟨fH,λr J=>?_⟩;exact k _ _ ((s1.trans s2).trans (cq J)) (.tup b6 (.cons (.str _) (.cons ((hu.same s2).same (cq J)) (.cons (I.same (cq J)) .nil))))
  |no x=>
   obtain⟨dx,p,U,hp⟩:=hA;have aa:x.dep+1<=n:=hd;have hn:0<n:=by lia
   refine⟨_,b5 (cy (dm (bU b8 (bU (gc (df (pv 0) rfl) Cl.cl M.M (IH hn) hr (kx M) cz) bV)))),?_⟩;obtain⟨dp,fp,ep,lp⟩:=hp.ob;refine⟨_,rfl,a,C .o,dx,_,_,rfl,U,Cl.cl _,Cl.n1 _,wU p,x.kn,p,dp,fp,rfl,ep,lp _ jL,p,x,rfl,hp,by lia,rfl,λu H1 s1 hu=>?_⟩;refine⟨eK,λr J=>?_⟩;exact k _ _ (s1.trans (cq J)) (.tup b6 (.cons (.str _) (.cons (hu.same (cq J)) .nil)))
theorem vt(Cl:Cs K C)(M:Mt K C "told" oF mx f fd):∀(n:Nat) (i:Kn),bX P w K mg base b7 (n+1) (f i) (fd i) ["self"] (pL C n i)
 |0=>AK Cl M 0 λh=>absurd h (Kw _)
 |n+1=>AK Cl M (n+1) λ_=>vt Cl M n
noncomputable def oz(Ci:JR)(fl:Str):Sp:=λvs H Q _=>∃(x dx:JR) (v:V),vs=[.ref x,v]/\H x=some (.ins Ci dx [])/\Q .non (upd H x (.ins Ci dx (dh fl v [])))
noncomputable def y9(Ci:JR):Sp:=λvs H Q _=>∃(x dx l:JR) (xs:JP V),vs=[.ref x,.ref l]/\H x=some (.ins Ci dx [])/\H l=some (.lst xs)/\∀ p,H p=none->Q .non (upd (upd H p (.tup xs)) x (.ins Ci dx (vz p)))
noncomputable def sv(Ci:JR):Sp:=λvs H Q _=>∃(x dx p q:JR),vs=[.ref x,.ref p,.ref q]/\H x=some (.ins Ci dx [])/\Q .non (upd H x (.ins Ci dx (f2 p q)))
noncomputable def xE(Ci:JR):Sp:=λvs H Q _=>∃(x dx p q:JR) (n:Int),vs=[.ref x,.ref p,.ref q,.int n]/\H x=some (.ins Ci dx [])/\Q .non (upd H x (.ins Ci dx (f3 p q n)))
theorem mM(i:Kn):da (uX i) (uX i) (cG (yu i)):=by
 cases i<;>exact⟨rfl,rfl,rfl,dkq,rfl,dkq,dkq⟩
structure In (K : Kl) (C : Kn -> JR) (f : Kn -> JR) (fd : Kn -> J2) : Prop where
 F : ∀ i, ej K "__init__" (EZ i) (yu i) (f i) (fd i)
 M : ∀ i, L2.Mk K (C i) (f i)
theorem In.bi (I:In K C f fd)(i:Kn):Binds K (fd i) (uX i) []:=by
 cases i with
 |w=>exact(I.F _).binds (ps:=["self","word"]) λ_ _ _ _ _ _ us J=>eU (λ_ _=>rfl) us J
 |s=>exact(I.F _).binds (ps:=["self","word"]) λ_ _ _ _ _ _ us J=>eU (λ_ _=>rfl) us J
 |r=>exact(I.F _).binds (ps:=["self","words"]) λ_ _ _ _ _ _ us J=>eU (λ_ _=>rfl) us J
 |n=>exact(I.F _).binds (ps:=["self","one","other","far"]) λ_ _ _ _ _ _ us J=>w5 (λ_ _ _ _=>rfl) us J
 |b=>exact(I.F _).binds (ps:=["self","one","other"]) λ_ _ _ _ _ _ us J=>jD (λ_ _ _=>rfl) us J
 |e=>exact(I.F _).binds (ps:=["self","one","other"]) λ_ _ _ _ _ _ us J=>jD (λ_ _ _=>rfl) us J
 |o=>exact(I.F _).binds (ps:=["self","one"]) λ_ _ _ _ _ _ us J=>eU (λ_ _=>rfl) us J
theorem lY:(0:Nat)<1000:=by decide
theorem xf{v:V}{g:Str}:(dh g v []).length<1000:=by show 1<1000;decide
seal cH PS PE PT PA PG PI cT cP in
theorem Jc(Cl:Cs K C)(I:In K C f fd):bX P w K mg base b7 1 (f .w) (fd .w) ["self","word"] (oz (C .w) "word"):=by
 refine(I.F .w).ok (mM .w) (λvs H Q E h=>?_) (λcdv A outer s H vs Q E U h=>?_)
 ·obtain⟨x,dx,v,rfl,_⟩:=h;rfl
 ·obtain⟨x,dx,v,rfl,J,k⟩:=h;exact⟨_,b5 (fD (pv 0) (pv 1) rfl),_,rfl,_,rfl,x,C .w,dx,[],rfl,J,Cl.cl _,Cl.nW _,lY,k⟩
seal cH PS PE PT PA PG PI cT cP in
theorem HR(Cl:Cs K C)(I:In K C f fd):bX P w K mg base b7 1 (f .s) (fd .s) ["self","word"] (oz (C .s) "word"):=by
 refine(I.F .s).ok (mM .s) (λvs H Q E h=>?_) (λcdv A outer s H vs Q E U h=>?_)
 ·obtain⟨x,dx,v,rfl,_⟩:=h;rfl
 ·obtain⟨x,dx,v,rfl,J,k⟩:=h;exact⟨_,b5 (fD (pv 0) (pv 1) rfl),_,rfl,_,rfl,x,C .s,dx,[],rfl,J,Cl.cl _,Cl.nW _,lY,k⟩
seal cH PS PE PT PA PG PI cT cP in
theorem BO(Cl:Cs K C)(I:In K C f fd):bX P w K mg base b7 1 (f .o) (fd .o) ["self","one"] (oz (C .o) "one"):=by
 refine(I.F .o).ok (mM .o) (λvs H Q E h=>?_) (λcdv A outer s H vs Q E U h=>?_)
 ·obtain⟨x,dx,v,rfl,_⟩:=h;rfl
 ·obtain⟨x,dx,v,rfl,J,k⟩:=h;exact⟨_,b5 (fD (pv 0) (pv 1) rfl),_,rfl,_,rfl,x,C .o,dx,[],rfl,J,Cl.cl _,Cl.n1 _,lY,k⟩
seal cH PS PE PT PA PG PI cT cP in
theorem HB(Cl:Cs K C)(I:In K C f fd)(T:Txt mg):bX P w K mg base b7 1 (f .r) (fd .r) ["self","words"] (y9 (C .r)):=by
 refine(I.F .r).ok (mM .r) (λvs H Q E h=>?_) (λcdv A outer s H vs Q E hr h=>?_)
 ·obtain⟨x,dx,l,xs,rfl,_⟩:=h;rfl
 ·obtain⟨x,dx,l,xs,rfl,J,U,k⟩:=h;refine⟨_,b5 (fD (pv 0) (ie sH rfl T.tuple oX (bU (pv 1) bV)) rfl),?_⟩;refine⟨_,rfl,l,xs,rfl,.inl ⟨ck.of U,λp hp=>?_⟩⟩;exact⟨_,rfl,x,C .r,dx,[],rfl,cq hp _ _ J,Cl.cl _,Cl.nR _,lY,k p hp⟩
seal cH PS PE PT PA PG PI cT cP in
theorem Je(Cl:Cs K C)(I:In K C f fd):bX P w K mg base b7 1 (f .b) (fd .b) ["self","one","other"] (sv (C .b)):=by
 refine(I.F .b).ok (mM .b) (λvs H Q E h=>?_) (λcdv A outer s H vs Q E U h=>?_)
 ·obtain⟨x,dx,p,q,rfl,_⟩:=h;rfl
 ·obtain⟨x,dx,p,q,rfl,J,k⟩:=h;refine⟨_,b9 (fD (pv 0) (pv 1) rfl) (b5 (fD (pv 0) (pv 2) rfl)),_,rfl,_,rfl,x,C .b,dx,[],rfl,J,Cl.cl _,Cl.n1 _,lY,_,rfl,_,rfl,x,C .b,dx,_,rfl,b6,Cl.cl _,Cl.n2 _,xf,?_⟩;show Q .non (upd (upd H x _) x _);rw[qL];exact k
seal cH PS PE PT PA PG PI cT cP in
theorem Cz(Cl:Cs K C)(I:In K C f fd):bX P w K mg base b7 1 (f .e) (fd .e) ["self","one","other"] (sv (C .e)):=by
 refine(I.F .e).ok (mM .e) (λvs H Q E h=>?_) (λcdv A outer s H vs Q E U h=>?_)
 ·obtain⟨x,dx,p,q,rfl,_⟩:=h;rfl
 ·obtain⟨x,dx,p,q,rfl,J,k⟩:=h;refine⟨_,b9 (fD (pv 0) (pv 1) rfl) (b5 (fD (pv 0) (pv 2) rfl)),_,rfl,_,rfl,x,C .e,dx,[],rfl,J,Cl.cl _,Cl.n1 _,lY,_,rfl,_,rfl,x,C .e,dx,_,rfl,b6,Cl.cl _,Cl.n2 _,xf,?_⟩;show Q .non (upd (upd H x _) x _);rw[qL];exact k
theorem IC{p q:JR}:(f2 p q).length<1000:=by
 have:=kg "other" (.ref q) (f1 p)
 show(dh "other" (.ref q) (f1 p)).length<1000
 have h:(f1 p).length=1:=rfl
 lia
seal cH PS PE PT PA PG PI cT cP in
theorem Dh(Cl:Cs K C)(I:In K C f fd):bX P w K mg base b7 1 (f .n) (fd .n) ["self","one","other","far"] (xE (C .n)):=by
 refine(I.F .n).ok (mM .n) (λvs H Q E h=>?_) (λcdv A outer s H vs Q E U h=>?_)
 ·obtain⟨x,dx,p,q,n,rfl,_⟩:=h;rfl
 ·obtain⟨x,dx,p,q,n,rfl,J,k⟩:=h;refine⟨_,b9 (fD (pv 0) (pv 1) rfl) (b9 (fD (pv 0) (pv 2) rfl) (b5 (fD (pv 0) (pv 3) rfl))),_,rfl,_,rfl,x,C .n,dx,[],rfl,J,Cl.cl _,Cl.n1 _,lY,
   _,rfl,_,rfl,x,C .n,dx,_,rfl,b6,Cl.cl _,Cl.n2 _,xf,_,rfl,_,rfl,x,C .n,dx,_,rfl,b6,Cl.cl _,Cl.n3 _,IC,?_⟩;show Q .non (upd (upd (upd H x _) x _) x _);rw[qL,qL];exact k
noncomputable abbrev lG(C:Kn->JR)(H:Hp)(xs:JP V)(ts:JP At):Prop:=Lo (λ(v:V) (t:At)=>∃ p,v= .ref p/\d0 C H p t) xs ts
theorem lG.keep {H H':Hp}(s:g8 H H'){xs:JP V}{ts:JP At}(h:lG C H xs ts):lG C H' xs ts:=Gn.Paired.imp2 h λ_ _ ⟨p,e,a⟩=>⟨p,e,a.keep s⟩
theorem lG.same {H H':Hp}(s:bY H H'){xs:JP V}{ts:JP At}(h:lG C H xs ts):lG C H' xs ts:=h.keep (g8.of s)
noncomputable def uk(C:Kn->JR)(i:Kn):Sp:=λvs H Q _=>∃(a:JR) (t:At),vs=[.ref a]/\d0 C H a t/\t.kn=i/\∀ l xs,H l=none->lG C H xs t.kids->Q (.ref l) (upd H l (.lst xs))
theorem BI(i:Kn):da ["self"] ["self"] (cG (nh i)):=by
 cases i<;>exact⟨rfl,rfl,rfl,dkq,rfl,dkq,dkq⟩
theorem yb(M:Mt K C "kids" nX nh f fd)(i:Kn):Binds K (fd i) ["self"] []:=by
 cases i<;>exact(M.F _).binds (ps:=["self"]) λ_ _ _ _ _ _ us J=>iE (λ_=>rfl) us J
theorem oU:0<=sizeLine:=Ks _
theorem eh:1<=sizeLine:=by rw[Kv];decide
seal cH PS PE PT PA PG PI cT cP in
theorem yC(Cl:Cs K C)(M:Mt K C "kids" nX nh f fd)(i:Kn):bX P w K mg base b7 1 (f i) (fd i) ["self"] (uk C i):=by
 refine(M.F i).ok (BI i) (λvs H Q E h=>?_) (λcdv A outer s H vs Q E hr h=>?_)
 ·obtain⟨a,t,rfl,_⟩:=h;rfl
 ·obtain⟨a,t,rfl,hA,rfl,k⟩:=h;cases t with
  |word z=>exact⟨_,b5 (cy (eZ bV)),oU,λl J=>k l [] J .nil⟩
  |start z=>exact⟨_,b5 (cy (eZ bV)),oU,λl J=>k l [] J .nil⟩
  |row zs=>exact⟨_,b5 (cy (eZ bV)),oU,λl J=>k l [] J .nil⟩
  |near x y m=>
   obtain⟨dx,p,q,U,hp,I⟩:=hA;exact⟨_,b5 (cy (eZ (bU (df (pv 0) rfl) (bU (df (pv 0) rfl) bV)))),_,rfl,a,C .n,dx,_,_,rfl,U,Cl.cl _,Cl.n1 _,w9 p q m,_,rfl,a,C .n,dx,_,_,rfl,U,Cl.cl _,Cl.n2 _,vh p q m,eK,
    λl J=>k l [.ref p,.ref q] J (.cons ⟨p,rfl,hp⟩ (.cons ⟨q,rfl,I⟩ .nil))⟩
  |both x y=>
   obtain⟨dx,p,q,U,hp,I⟩:=hA;exact⟨_,b5 (cy (eZ (bU (df (pv 0) rfl) (bU (df (pv 0) rfl) bV)))),_,rfl,a,C .b,dx,_,_,rfl,U,Cl.cl _,Cl.n1 _,mP p q,_,rfl,a,C .b,dx,_,_,rfl,U,Cl.cl _,Cl.n2 _,mX p q,eK,
    λl J=>k l [.ref p,.ref q] J (.cons ⟨p,rfl,hp⟩ (.cons ⟨q,rfl,I⟩ .nil))⟩
  |either x y=>
   obtain⟨dx,p,q,U,hp,I⟩:=hA;exact⟨_,b5 (cy (eZ (bU (df (pv 0) rfl) (bU (df (pv 0) rfl) bV)))),_,rfl,a,C .e,dx,_,_,rfl,U,Cl.cl _,Cl.n1 _,mP p q,_,rfl,a,C .e,dx,_,_,rfl,U,Cl.cl _,Cl.n2 _,mX p q,eK,
    λl J=>k l [.ref p,.ref q] J (.cons ⟨p,rfl,hp⟩ (.cons ⟨q,rfl,I⟩ .nil))⟩
  |no x=>
   obtain⟨dx,p,U,hp⟩:=hA;exact⟨_,b5 (cy (eZ (bU (df (pv 0) rfl) bV))),_,rfl,a,C .o,dx,_,_,rfl,U,Cl.cl _,Cl.n1 _,wU p,eh,λl J=>k l [.ref p] J (.cons ⟨p,rfl,hp⟩ .nil)⟩
end
end K13
namespace PySem
section
variable {M : Model} {A : K4} {E : JT -> JZ -> Prop} {s : JZ}
theorem CK{e:JT}{env env':Env}(h:env.frame=env'.frame):L0 e env=L0 e env':=by
 unfold L0 frameOf;rw[h]
theorem HU{base:KP}{env:Env}{outer:JP Env}{L e:JR}{cls a0 fl:JT}{Q:Unit->JZ->Prop}(hfr:A.frames=some (env::outer))(hl:s.heap.FunFrames base (env::outer))(hf:env.frame=some L)
  (ht:s.heap.TracedAtW base e cls a0 fl)(hkb:base.StaysIn s.heap)(hen:base.get? e=none)(h:∀ h',Heap.HeldW base (env::outer) e cls a0 L h'->s.heap.UpToSlots h'->Q () {s with heap:=h'}):
  Kq M A (L0 (.ref e) env) Q E s:=by
 by_cases q:fl=rawInt L
 ·subst q;exact wpAny_noteFrame_againW hf ht (h s.heap ⟨hkb,hen,hl,ht⟩ λb o hb _=>⟨o.slots,hb⟩)
 ·obtain⟨oe,vs,T,oT,ts,he,⟨U,h0⟩,hd,h1,aa,ab,hT,J,h3⟩:=ht;subst U;unfold L0;simp only[hf];refine J8 (OU he hd h1 ?_);rw[J1 (show(Ky T != My)=true from rfl)];refine J8 (OU hT J h3 ?_);rw[if_neg (λz=>q (by simpa using z))];refine J8 (wpAny_setField hT J (Array.getElem?_eq_some_iff.mp h3).1 ?_);have I:∀ b,b≠T->(s.heap.update T (Lg (·.setIfInBounds 3 My))).get? b=s.heap.get? b:=λb hb=>Heap.get?_update_other _ _ (K5 hb)
  have nr:∀ b o,s.heap.get? b=some o->(∀ vs,o.data≠ .fields vs)->b≠T:=λb o hb nf z=>by
   rw[z,hT] at hb;cases hb;exact nf ts J
  exact wpAny_entryW hfr (hl.of_keeps λb o hb nf=>⟨o,(I b (nr b o hb nf)).trans hb,rfl⟩) hf ((I e (K5 ab)).trans he) (λb o hb=>(I b λz=>by rw[z,aa] at hb;cases hb).trans (hkb b o hb)) hen hd
   (Array.getElem?_eq_some_iff.mp h1).1 h0 λh' ⟨x1,x2,x3,x4⟩=>h h' ⟨x1,hen,x2,x3⟩ λb o hb nf=>x4 b o ((I b (nr b o hb nf)).trans hb) nf
end
end PySem
namespace L2
open PySem PySem.Spec PyProof.Rows
noncomputable def sX(X:Cx)(E:XK):Prop:=∀(pins:JP (JR×Obj)) (σ:St) (H:Hp) (s:JZ) (J T:JR) (U I:Obj) (vs ts:MM JT) (a0 fl:JT),Inv X pins σ H s->s.heap.get? J=some U->U.data= .fields vs->vs[0]? =some a0->
 vs[1]? =some (.ref T)->T≠J->s.heap.get? T=some I->I.data= .fields ts->ts[3]? =some fl->H J=none->H T=none->X.s₀.heap.get? J=none->X.s₀.heap.get? T=none->E U.cls none H->X.xe (.ref J) s
section
variable {P : Ka} {w : Ku} {K : J7} {mg : Str -> JW JT} {base : KP} {N : JP Str} {qual : Str} {scope : MS} {f : JR} {cdv : JT} {A : K4} {outer : JP Env} {s₀ : JZ} {H₀ : Hp} {E : XK}
theorem Jz:sX (eM (dD P w) P w K mg base N qual scope f cdv A outer s₀ H₀ E) E:=by
 intro pins σ H s U T oe oT vs ts a0 fl I he hd h0 h1 aa hT ab h3 nE nT sE sT hE;generalize hB:NV s.heap (U::T::dz (eM (dD P w) P w K mg base N qual scope f cdv A outer s₀ H₀ E).stack)=B;have ff:s.heap.FunFrames B (eM (dD P w) P w K mg base N qual scope f cdv A outer s₀ H₀ E).stack:=by
  rw[<-hB];exact W.funFrames_hide I.stack λenv he b hb=> .tail _ (.tail _ (List.mem_filterMap.mpr ⟨env,he,hb⟩))
 have st:B.StaysIn s.heap:=λb o q=>by rw[<-hB] at q;exact Oz _ q
 have bn:B.get? U=none:=by rw[<-hB];exact OP _ (.head _)
 have tn:B.get? T=none:=by rw[<-hB];exact OP _ (.tail _ (.head _))
 have J:∀{b:JR} {o:Obj},s.heap.get? b=some o->b≠U->b≠T->b∉dz (eM (dD P w) P w K mg base N qual scope f cdv A outer s₀ H₀ E).stack->B.get? b=some o:=λ{b o} e z1 z2 z3=>by
  rw[<-hB];refine W.hideAll_get _ e λz=>?_
  rcases List.mem_cons.mp z with q|q
  ·exact z1 q
  rcases List.mem_cons.mp q with q|q
  ·exact z2 q
  ·exact z3 q
 have hL:∀{b:JR} {o:Obj},s₀.heap.get? b=some o->b∉dz outer->b∉dz (eM (dD P w) P w K mg base N qual scope f cdv A outer s₀ H₀ E).stack:=λ{b o} e hb z=>by
  rcases List.mem_cons.mp (I.stkSub b z) with q|q
  ·have h1:=Kb e
   have h2:s₀.heap.objs.size<=(eM (dD P w) P w K mg base N qual scope f cdv A outer s₀ H₀ E).env.locals:=I.ok.above;rw[q] at h1;exact Kw _ (Km h1 h2)
  ·exact hb q
 have n0:∀{b:JR} {o:Obj},s₀.heap.get? b=some o->b≠U/\b≠T:=λ{b o} e=>
  ⟨λz=>by rw[z] at e;exact absurd (e.symm.trans sE) (by simp),λz=>by rw[z] at e;exact absurd (e.symm.trans sT) (by simp)⟩
 have u0:Un (dz outer) [] H₀ H s₀.heap s.heap:=I.base
 have k1:∀ b o,s₀.heap.get? b=some o->H₀ b=none->b∉dz outer->B.get? b=some o:=λb o e n hb=>J (u0.keep b o e n hb (by simp)) (n0 e).1 (n0 e).2 (hL e hb)
 have k3:∀ b o,s₀.heap.get? b=some o->b∉dz outer->∃ o',B.get? b=some o':=λb o e hb=>by
  obtain⟨o',e'⟩:=u0.there b o e (by simp);exact⟨o',J e' (n0 e).1 (n0 e).2 (hL e hb)⟩
 have k2:∀ b u,H b=some u->∃ o,B.get? b=some o:=λb u e=>by
  obtain⟨o,eo⟩:=(I.hok b u e).at;exact⟨o,J eo (λz=>by rw[z,nE] at e;cases e) (λz=>by rw[z,nT] at e;cases e) λz=>by rw[I.stkFree b z] at e;cases e⟩
 show Kq (Ko P w) (A.deeper (Mz qual scope s₀.heap.objs.size f cdv)) (leaving (Mz qual scope s₀.heap.objs.size f cdv) (.ref U)) _ _ _;unfold leaving;refine J8 (HU I.ok.frames ff rfl ⟨oe,vs,T,oT,ts,he,⟨rfl,h0⟩,hd,h1,tn,aa,hT,ab,h3⟩ st bn λh4 held ae=>?_);refine wpAny_landsW held λh5 af ag=>?_
 obtain⟨c1,c2,⟨_,_,c3⟩,c4⟩:=af;exact⟨U,oe.cls,a0,B,H,rfl,I.os,I.bare,oa rfl u0 k1 k3 I.funs c1 (ae.trans ag),ou I.hok k2 st c1,⟨c1,c2,c3,c4⟩,k1,k3,k2,hE⟩
end
section
variable {X : Cx} {E : XK}
theorem Jh{scope:MS}{N:JP Str}{pins pl:JP (JR×Obj)}{σ σ':St}{H2 He:Hp}{s2 s1:JZ}{hp h':KP}{fp:JP JR}{lo:Obj}
  (I2:Inv X pins σ H2 s2)(f2:∀ b∈fp,iD X pins H2 b)(ehp:hp=s2.heap.push lo)(J:Inv (dJ X scope N {s2 with heap:=hp} H2 (s2.heap.objs.size::fp)) pl σ' He s1)
  (hsb:Md hp.objs.size s1.heap h'):Inv X pins σ He {s1 with heap:=h'}:=by
 have hC:hp.objs.size=s2.heap.objs.size+1:=by rw[ehp,Mo]
 have below:∀{b:JR} {o:Obj},s2.heap.get? b=some o->b≠hp.objs.size/\b≠s2.heap.objs.size:=λ{b o} e=>by
  have q:=Kb e;exact⟨by rw[hC];exact Kr (MP q),Kr q⟩
 have up:∀{b:JR} {o:Obj},s2.heap.get? b=some o->hp.get? b=some o:=λe=>by rw[ehp];exact Heap.get?_push_of_some _ e
 have un:Un (dz X.stack) (s2.heap.objs.size::fp) H2 He hp s1.heap:=J.base
 have nD:∀{b:JR} {o:Obj},s2.heap.get? b=some o->b∉fp->b∉s2.heap.objs.size::fp:=λe I z=>(List.mem_cons.mp z).elim (below e).2 I
 have U:He hp.objs.size=none:=J.free
 have u2:Un (dz X.stack) fp H2 He s2.heap h':=by
  refine⟨λb o e n hb I=>?_,λb o e n hb I=>?_,λb o e n I=>?_,λb o e I=>?_,un.tups,un.frzs,un.tbls⟩
  ·exact(hsb.2 b (below e).1).trans (un.keep b o (up e) n hb (nD e I))
  ·obtain⟨sl,q⟩:=un.slot b o (up e) n hb (nD e I);exact⟨sl,(hsb.2 b (below e).1).trans q⟩
  ·exact un.free b o (up e) n (nD e I)
  ·obtain⟨o',q⟩:=un.there b o (up e) (nD e I);exact⟨o',(hsb.2 b (below e).1).trans q⟩
 have hok:eJ X.prog X.w He h':=λb u e=>by
  refine(J.hok b u e).stay (λc v hc q=>(hsb.2 c ?_).trans q) (λ_ q=>q) λ_ _ q=>q
  rintro rfl;rcases hc with z|z
  ·rw[<-z,U] at e;cases e
  ·rw[U] at z;cases z
 exact I2.call' (s':={s1 with heap:=h'}) (ch:=fp) J.os u2 hok J.bare λb hb=>by
  obtain⟨f0,f1,f3,f4,f5,f6⟩:=f2 b hb;exact⟨f4,f1,f5,f6⟩
noncomputable abbrev rQ(X:Cx)(scope:MS)(C:JR)(use:JW (JT->Sem Unit))(Qf:JT->JZ->Prop)(acc:JT):JT->JZ->Prop:=
 notedBy (Ko X.prog X.w) X.A (OT scope (gT X.env scope.names []) C X.env) λx s'=>O8 (Ko X.prog X.w) X.A X.xe use Qf acc C (.error x) s'
theorem FV{scope:MS}{N:JP Str}{pins:JP (JR×Obj)}{σ:St}{H2:Hp}{s2:JZ}{hp:KP}{fp:JP JR}{lo:Obj}{use:JW (JT->Sem Unit)}{Qf:JT->JZ->Prop}{acc:JT}
  (hex:X.ex=[])(hstk:X.stack=X.env::X.outer)(hfr:X.env.frame=some X.env.locals)(hR:sX X E)(I2:Inv X pins σ H2 s2)(f2:∀ b∈fp,iD X pins H2 b)(ehp:hp=s2.heap.push lo):
  Passes (dD X.prog X.w) ((dJ X scope N {s2 with heap:=hp} H2 (s2.heap.objs.size::fp)).wish (rQ X scope hp.objs.size use Qf acc)) E:=by
 intro aa ai Hc sc e s' J h;obtain⟨I,cls,a0,B,H',rfl,os,bare,un,hok,fl,k1,k3,k2,hE⟩:=h;show Kq (Ko X.prog X.w) X.A (L0 (.ref I) (OT scope (gT X.env scope.names []) hp.objs.size X.env)) _ _ s';have az:L0 (.ref I) (OT scope (gT X.env scope.names []) hp.objs.size X.env)=L0 (.ref I) X.env:=CK rfl;rw[az];have aj:Un (dz X.stack) [] Hc H' sc.heap s'.heap:=un;have ab:NS B X.stack I cls a0 s'.heap:=fl;have aA:NS B (X.env::X.outer) I cls a0 s'.heap:=hstk ▸ ab;have aB:X.A.frames=some (X.env::X.outer):=hstk ▸ I2.ok.frames;refine wpAny_looks_onW aB hfr aA λU held ak=>?_
 obtain⟨b1,b2,b3,oe,vs,T,oT,ts,he,⟨ao,h0⟩,hd,h1,af,aq,hT,ae,h3⟩:=held;subst ao;have up:∀{b:JR} {o:Obj},s2.heap.get? b=some o->hp.get? b=some o:=λe=>by rw[ehp];exact Heap.get?_push_of_some _ e
 have J4:Inv ((dJ X scope N {s2 with heap:=hp} H2 (s2.heap.objs.size::fp)).wish (rQ X scope hp.objs.size use Qf acc)) aa ai H' {s' with heap:=U}:=
  J.call' (s':={s' with heap:=U}) (ch:=[]) os (oa rfl aj k1 k3 ab.2.2.1 b1 ak) (ou hok k2 ab.1 b1) bare λb z=>absurd z (by simp)
 obtain⟨m,hn,_⟩:=J4.loc;refine⟨m,hn,λh' ag ar aC=>?_⟩;have fld:∀{b:JR} {o:Obj} {us:MM JT},U.get? b=some o->o.data= .fields us->b∉dz X.stack:=λ{b o us} e d z=>by
  obtain⟨_,o',au,nf⟩:=(hstk ▸ b3:U.FunFrames B X.stack).mem z;rw[e] at au;cases au;exact nf us d
 have av:∃ o,B.get? hp.objs.size=some o:=by
  obtain⟨mC,aD,_⟩:=J.loc;obtain⟨oC,eC⟩:∃ o,sc.heap.get? hp.objs.size=some o:=by
   obtain⟨o,_,_,e,_⟩:=aD;exact⟨o,e⟩
  refine k3 _ oC eC λz=>?_
  obtain⟨_,o,ho,_⟩:=I2.stack.mem z;have:=Kb ho;rw[ehp,Mo] at this;exact Kw _ (Nat.lt_trans (LJ _) this)
 have aE:T≠hp.objs.size:=λz=>by obtain⟨o,e⟩:=av;rw[<-z,af] at e;cases e
 have aF:I≠hp.objs.size:=λz=>by obtain⟨o,e⟩:=av;rw[<-z,b2] at e;cases e
 have ah:h'.get? I=some oe:=(ag.2 I aF).trans he
 have aw:h'.get? T=some oT:=(ag.2 T aE).trans hT
 have z3:3<ts.size:=(Array.getElem?_eq_some_iff.mp h3).1;unfold PySem.passOn;refine J8 (OU ah hd h1 ?_);rw[if_neg (show ¬ ((Ky T==My)=true) from by simp)];unfold Ov;refine J8 (J8 (OU ah hd h1 ?_));rw[J1 (show(Ky T != My)=true from rfl)];refine wpAny_setField aw ae z3 (wpAny_throw ?_);generalize hv:(ar.frame.elim My λf=>rawInt f)=v;have o4:∀ b,b≠T->(U.update T (Lg (·.setIfInBounds 3 v))).get? b=U.get? b:=λb hb=>Heap.get?_update_other _ _ (K5 hb)
 have o':∀ b,b≠T->(h'.update T (Lg (·.setIfInBounds 3 v))).get? b=h'.get? b:=λb hb=>Heap.get?_update_other _ _ (K5 hb)
 have fz:(Lg (·.setIfInBounds 3 v) oT).isFreed=false:=Obj.isFreed_of_fields (Obj.data_mapFields ae _)
 have s4:(U.update T (Lg (·.setIfInBounds 3 v))).get? T=some (Lg (·.setIfInBounds 3 v) oT):=Heap.get?_update_self _ hT fz
 have s6:(h'.update T (Lg (·.setIfInBounds 3 v))).get? T=some (Lg (·.setIfInBounds 3 v) oT):=Heap.get?_update_self _ aw fz
 have ax:B.StaysIn (U.update T (Lg (·.setIfInBounds 3 v))):=λb o q=>(o4 b λz=>by rw[z,af] at q;cases q).trans (b1 b o q)
 have aG:s'.heap.UpToSlots (U.update T (Lg (·.setIfInBounds 3 v))):=λb o q nf=>by
  obtain⟨sl,e⟩:=ak b o q nf;refine⟨sl,(o4 b λz=>?_).trans e⟩;rw[z,hT] at e;cases e;exact nf ts ae
 have J6:Inv ((dJ X scope N {s2 with heap:=hp} H2 (s2.heap.objs.size::fp)).wish (rQ X scope hp.objs.size use Qf acc)) aa ai H' {s' with heap:=U.update T (Lg (·.setIfInBounds 3 v))}:=
  J.call' (s':={s' with heap:=U.update T (Lg (·.setIfInBounds 3 v))}) (ch:=[]) os (oa rfl aj k1 k3 ab.2.2.1 ax aG) (ou hok k2 ab.1 ax) bare λb z=>absurd z (by simp)
 have ay:Md hp.objs.size (U.update T (Lg (·.setIfInBounds 3 v))) (h'.update T (Lg (·.setIfInBounds 3 v))):=by
  refine⟨?_,λb hb=>?_⟩
  ·rw[Heap.size_update,Heap.size_update];exact ag.1
  ·by_cases z:b=T
   ·rw[z,s4,s6]
   ·rw[o4 b z,o' b z];exact ag.2 b hb
 have IX:Inv X pins σ H' {s' with heap:=h'.update T (Lg (·.setIfInBounds 3 v))}:=Jh (s1:={s' with heap:=U.update T (Lg (·.setIfInBounds 3 v))}) I2 f2 ehp J6.unwish ay
 have gone:∀{b:JR} {o:Obj} {us:MM JT},U.get? b=some o->o.data= .fields us->B.get? b=none->X.s₀.heap.get? b=none:=λ{b o us} e d n=>by
  cases q:X.s₀.heap.get? b with
  |none=>rfl
  |some ob=>
   obtain⟨o2,e2⟩:=I2.base.there b ob q (by rw[hex];simp);have nx:b∉s2.heap.objs.size::fp:=λz=>by
    rcases List.mem_cons.mp z with z|z
    ·exact absurd (Kb e2) (by rw[z];exact Kw _)
    ·rcases(f2 b z).2.2.2.1 with z2|z2
     ·rw[hex] at z2;simp at z2
     ·exact absurd (Kb q) (Nat.not_lt.mpr z2)
   obtain⟨o3,e3⟩:=J.base.there b o2 (up e2) nx;obtain⟨o5,e5⟩:=k3 b o3 e3 (fld e d);rw[n] at e5;cases e5
 have nE:H' I=none:=by
  cases q:H' I with
  |none=>rfl
  |some u=>obtain⟨o,e⟩:=k2 I u q;rw[b2] at e;cases e
 have nT:H' T=none:=by
  cases q:H' T with
  |none=>rfl
  |some u=>obtain⟨o,e⟩:=k2 T u q;rw[af] at e;cases e
 exact hR pins σ H' _ I T oe _ vs _ a0 v IX ((o' I (K5 aq)).trans ah) hd h0 h1 aq s6 (Obj.data_mapFields ae _) (by simp[z3]) nE nT (gone he hd b2) (gone hT ae af) hE
end
section
variable {prog : Ka} {w : Ku} {A : K4} {R : Result -> JZ -> Prop} {s : JZ}
theorem Ie{elt target iter:KI}{ifs:JP KI}{scope:MS}{pos:Pos}{it acc:JT}{env:Env}(I:Nat->JZ->Prop)
  (turn:∀ n s,I n s->Kq (Ko prog w) A (pyNext it) (λr s₁=>match r with
   |none=>R (.ok .next) s₁
   |some v=>Kq (Ko prog w) A (Nc target it v) (λ_ s₀=>Kq (Ko prog w) A (assign target env v) (λ_ s₂=>
     Kq (Ko prog w) A (forIn ifs true λc r=>if r=true then do let ok<-isTrue c env (eval c env);pure (LQ ok) else pure (LQ r)) (λok s₃=>
      if ok=true then Kq (Ko prog w) A (eval elt env) (λx s₄=>
       Kq (Ko prog w) A (call (.builtin "list.append") [acc,x]) (λ_ s₅=>∃ m,m<n/\I m s₅) (λ_ _=>LG) s₄) (notedBy (Ko prog w) A env λx s'=>R (.error x) s') s₃
      else ∃ m,m<n/\I m s₃) (λ_ _=>LG) s₂) (λ_ _=>LG) s₀) (λ_ _=>LG) s₁) (λ_ _=>LG) s)
  (n:Nat)(h:I n s):
  Nz (Ko prog w) A (.compLoop (.ListComp elt [⟨target,iter,ifs,0⟩] scope pos) 0 it acc env) R s:=by
 refine codeAny_loop rfl I (λn s hI=>?_) n h;show Kq _ A ((compTurn (.ListComp elt [⟨target,iter,ifs,0⟩] scope pos) 0 it acc env).onRaise (λx=>do L0 x env;theTreesLotGoes x)) _ _ s;refine wpAny_noted ?_;rw[compTurn_list];refine J8 (MH (J8 (KY (turn n s hI) (λr s₁ J=>?_) λ_ _ h'=>h'.elim)));cases r with
 |none=>exact KN J
 |some v=>
  refine J8 (KY J (λ_ s₀ h₀=>?_) λ_ _ h'=>h'.elim);refine J8 (KY h₀ (λ_ s₂ aa=>J8 (KY aa (λok s₃ U=>?_) λ_ _ h'=>h'.elim)) λ_ _ h'=>h'.elim);cases ok with
  |false=>exact KN ⟨rfl,U⟩
  |true=>
   exact J8 (J8 (KY U (λx s₄ ab=>J8 (KY ab (λ_ s₅ ae=>KN (KN ⟨rfl,ae⟩)) λ_ _ h'=>h'.elim)) λ_ _ h'=>h'))
end
section
variable {X : Cx}
theorem Ih{elt target iter:KI}{ifs:JP KI}{scope sc0:MS}{pos:Pos}{N N0:JP Str}{own:Nat}{caps:JP Nat}{wi:TI}{g:TG}{tc:TT}{te:TE}
  (hcalm:X.calm=true)(hi:PI X target iter wi)
  (hg:∀ s₀ H₀ ex,PG (dJ X scope N s₀ H₀ ex) target g)(hc:∀ s₀ H₀ ex,cP (dJ X scope N s₀ H₀ ex) ifs tc){E:XK}(hex:X.ex=[])(hstk:X.stack=X.env::X.outer)(hfr:X.env.frame=some X.env.locals)(hRT:sX X E)(he:∀ s₀ H₀ ex xe,Passes (dD X.prog X.w) ((dJ X scope N s₀ H₀ ex).wish xe) E->PE ((dJ X scope N s₀ H₀ ex).wish xe) elt te)(hk:nP own g)
  (hX:X.N=N0)(hsc:X.env.scope=sc0)
  (hcell:∀ y∈scope.names,y.2≠ .cell)(hkind:scope.kind= .function)(hnames:∀ y∈scope.names,y.2= .local->scope.names.lookup y.1=some .local)
  (hfree:∀ y∈scope.names,y.2= .free->sc0.names.lookup y.1=some .cell)(hN:N.length=own+caps.length)
  (hcap:∀ p∈caps.zip (N.drop own),N0[p.1]? =some p.2/\scope.names.lookup p.2=some .free)
  (hs:∀ x,Me iter X.env x=pure x)
  {use:JW (JT->Sem Unit)}{Qf:JT->JZ->Prop}{pins:JP (JR×Obj)}{s:JZ}{σ:St}{H:Hp}{Q:VK}{cpos:Pos}(I:Inv X pins σ H s)(h:qG own caps wi g tc te σ H Q)
  (hR:∀(D C:JR) (s':JZ) (He:Hp) (ys:JP V) (m:Str->JW JT) (f:Flow),s'.heap.Ns C m->(∀ h',Md C s'.heap h'->Inv X pins σ (upd He D (.lst ys)) {s' with heap:=h'})->
   iD X pins (upd He D (.lst ys)) C->Q (.ref D) (upd He D (.lst ys))->O8 (Ko X.prog X.w) X.A X.xe use Qf (.ref D) C (.ok f) s'):
  Kq (Ko X.prog X.w) X.A (comprehension (.ListComp elt [⟨target,iter,ifs,0⟩] scope pos) scope X.env cpos (newList []) false (eval iter X.env) use) Qf X.xe s:=by
 have ab:∀ y∈scope.names,y.2= .free->X.env.kindOf y.1=some .cell:=λy hy e=>by
  show X.env.scope.names.lookup y.1=some .cell;rw[hsc];exact hfree y hy e
 refine wpAny_comprehension_free (use:=use) rfl hs (yL λy hy e=>I.ok.has y.1 (.inl (ab y hy e))) hkind hnames ?_;refine cv (hi pins s σ H _ I h) λv s1 h1=>cv h1 λaZ s2 h2=>?_
 obtain⟨it,fp,tn,J,H2,e,I2,T,aC,f2,W,⟨m0,w0⟩,turn⟩:=h2;subst e;refine MN (wpAny_newFunctionEnv hcell (by intro y hy;simp at hy) (λak af ag=>?_) hkind);dsimp only at af ag ⊢;generalize ah:s2.heap.push {cls:= .type "list",dict:=none,data:= .seq ([]:JP JT).toArray}=hp at af ag ⊢;have hC:hp.objs.size=s2.heap.objs.size+1:=by rw[<-ah,Mo]
 have ai:s2.heap.objs.size≠hp.objs.size:=by rw[hC];exact Kr (LJ _)
 have av:hp.get? s2.heap.objs.size=some {cls:= .type "list",data:= .seq ([]:JP JT).toArray}:=by rw[<-ah];exact Heap.get?_push_size _ rfl
 have up:∀{b:JR} {o:Obj},s2.heap.get? b=some o->hp.get? b=some o:=λe=>by rw[<-ah];exact Heap.get?_push_of_some _ e
 have up1:∀{b:JR} {o:Obj},hp.get? b=some o->ak.get? b=some o:=λ{b o} e=>ag.extBut b o (Kr (Kb e)) (Heap.get?_push_of_some _ e)
 have aB:∀{b:JR} {o:Obj},s2.heap.get? b=some o->b<s2.heap.objs.size:=λe=>Kb e
 have aQ:∀ b∈fp,∃ o,s2.heap.get? b=some o:=λb hb=>by obtain⟨o,e,_⟩:=T.obj 0 _ aC b hb;exact⟨o,e⟩
 have aw:∀ b∈fp,b≠hp.objs.size/\b≠s2.heap.objs.size:=λb hb=>by
  obtain⟨o,e⟩:=aQ b hb;have q:=aB e;exact⟨by rw[hC];exact Kr (MP q),Kr q⟩
 have aa:∀{x:Str} {c:JR},(gT X.env scope.names []).lookup x=some c->X.env.cells.lookup x=some c/\X.env.kindOf x=some .cell:=λ{x c} q=>by
  rcases uo q with z|⟨z,e⟩
  ·cases z
  ·have k:=ab _ z rfl;obtain⟨c',ao⟩:=I2.ok.has x (.inl k);rw[ao] at e;have e':c=c':=e;subst e';exact⟨ao,k⟩
 have aj:∀{x:Str} {c:JR},(gT X.env scope.names []).lookup x=some c->c<s2.heap.objs.size:=λq=>by
  obtain⟨v,z⟩:=I2.cell _ _ (aa q).1;exact z.lt
 have aq:∀ b∈dz X.stack,b<s2.heap.objs.size:=λb hb=>by
  obtain⟨_,o,ho,_⟩:=I2.stack.mem hb;exact Kb ho
 have aR:(dJ X scope N {s2 with heap:=hp} H2 (s2.heap.objs.size::fp)).Ok:=by
  refine⟨I2.ok.mod,hkind,I2.ok.glob,I2.ok.blt,JY _,λx y c q1 q2=>I2.ok.inj x y c (aa q1).1 (aa q2).1,λx hx=>?_,(λx c z=>by cases z),I2.ok.hd,I2.ok.frames,.inl rfl,λb hb=>?_,λb o q=>⟨up (I2.bs b o q).1,(I2.bs b o q).2⟩,?_,λb o q hb=>?_,λb hb=>?_,?_,λb hb=>I2.stkFree b hb⟩
  ·rcases hx with hx|hx
   ·exact nc (.inl (qt (env:=X.env) hcell (.inl rfl) hx))
   ·exact nc (.inl (qt (env:=X.env) hcell (.inr rfl) hx))
  ·rcases List.mem_cons.mp hb with rfl|hb
   ·exact⟨by show s2.heap.objs.size≠hp.objs.size;exact ai,λx c q=>Kr (aj q)⟩
   ·exact⟨(aw b hb).1,λx c q=>(f2 b hb).2.2.2.2.1 x c (aa q).1⟩
  ·show X.base.objs.size<=hp.objs.size;rw[hC];exact Kz (Kj I2.ok.bsz I2.sz)
  ·rcases List.mem_cons.mp hb with rfl|hb
   ·exact Kw _ (aB (I2.bs _ o q).1)
   ·rcases(f2 b hb).2.2.2.1 with z|z
    ·exact I2.ok.noex b o q z
    ·exact Kw _ (Km (Kb (I2.ok.bs b o q).1) z)
  ·intro z;rcases List.mem_cons.mp hb with rfl|hb
   ·exact Kw _ (aq _ z)
   ·rcases List.mem_cons.mp (I2.stkSub b z) with q|q
    ·exact(f2 b hb).2.1 q
    ·exact(f2 b hb).2.2.1 q
  ·show hp.FunFrames X.base X.stack;exact I2.stack.of_keeps λb o q _=>⟨o,up q,rfl⟩
 have len0:(gQ own caps σ).length=N.length:=by unfold gQ;rw[JU,Ma,JX,hN]
 have I0:Inv (dJ X scope N {s2 with heap:=hp} H2 (s2.heap.objs.size::fp)) [] (gQ own caps σ) H2 {s2 with heap:=ak,toks:=s2.toks+([]:JP (Str×JT)).length}:=by
  refine⟨aR,rfl,I2.bare,Un.kept λb o q=>up1 q,⟨_,af,λi x v e1 e2 e3=>?_⟩,λx c q=>?_,I2.hok.fresh (by show s2.heap.objs.size<=hp.objs.size;rw[hC];exact MU _),λx c q=>I2.freeC x c (aa q).1,λp ae=>absurd (show p∈([]:JP (JR×Obj)) from ae) (by simp),I2.hok.kept λb o q=>up1 (up q),len0⟩
  ·
   unfold gQ at e2;by_cases aJ:i<own
   ·rw[List.getElem?_append_left (by simpa using aJ),List.getElem?_replicate] at e2;split at e2<;>cases e2
   ·rw[List.getElem?_append_right (by simpa using aJ),Ma,List.getElem?_map] at e2;cases ec:caps[i-own]? with
    |none=>rw[ec] at e2;cases e2
    |some j=>
     rw[ec] at e2;have ar:(σ[j]?).join=some v:=Kg e2;have aK:σ[j]? =some (some v):=by
      cases q:σ[j]? with
      |none=>rw[q] at ar;cases ar
      |some z=>rw[q] at ar;exact K9 some ar
     have hx:(N.drop own)[i-own]? =some x:=by
      rw[List.getElem?_drop];have:own+(i-own)=i:=by(clear aK ar ec e2 e1 len0 av ai hC ah hN hkind hsc hX hcalm;lia)
      rw[this];exact e1
     have hz:(caps.zip (N.drop own))[i-own]? =some (j,x):=by
      rw[List.getElem?_zip_eq_some];exact⟨ec,hx⟩
     obtain⟨hj,hf⟩:=hcap _ (List.mem_of_getElem? hz);rw[<-hX] at hj;have aL:(x,K2)∈scope.names:=LO hf;have aD:=ab _ aL rfl;obtain⟨m,hn,hl⟩:=I2.loc;obtain⟨u,ru,lk⟩:=hl j x v hj aK (.inr (.inl aD));refine⟨u,ru,.inr ⟨.inl (ui I2.ok.kind hf aD),?_⟩⟩;obtain⟨c,ao⟩:=nc (env:=X.env) (cs:=[]) (.inl aL);have aS:=(aa ao).1;rcases lk with ⟨z,_⟩|⟨_,c2,aM,ax⟩
     ·rw[aD] at z;cases z
     ·rw[aS] at aM;cases aM;obtain⟨oc,aE,aF⟩:=ax;exact⟨c,ao,oc,up1 (up aE),aF⟩
  ·obtain⟨v,oc,aE,aF⟩:=I2.cell x c (aa q).1;exact⟨v,oc,up1 (up aE),aF⟩
 have aN:∀{ay:St} {H':Hp} {s':JZ} {U:JP JT} {na:Nat},Inv (dJ X scope N {s2 with heap:=hp} H2 (s2.heap.objs.size::fp)) [] ay H' s'->H' s2.heap.objs.size=none->
   s'.heap.get? s2.heap.objs.size=some {cls:= .type "list",data:= .seq U.toArray na}->
   Inv (dJ X scope N {s2 with heap:=hp} H2 (s2.heap.objs.size::fp)) [(s2.heap.objs.size,{cls:= .type "list",data:= .seq U.toArray na})] ay H' s':=λ{ay H' s' U na} I' hn hd=>I'.pins_of λp ae=>by
  have e:p=(s2.heap.objs.size,{cls:= .type "list",data:= .seq U.toArray na}):=by simpa using ae
  subst e;exact⟨hd,hn,ai,λz=>Kw _ (aq _ z),λv z=>nomatch z⟩
 have aO:∀{H':Hp} {pl:JP (JR×Obj)},(∀ b∈fp,H' b=none)->(∀ p∈pl,p.1=s2.heap.objs.size)->∀ b∈fp,iD (dJ X scope N {s2 with heap:=hp} H2 (s2.heap.objs.size::fp)) pl H' b:=λhn aT b hb=>by
  refine⟨hn b hb,(aw b hb).1,λz=>?_,.inl (J0 _ hb),λx c q=>(f2 b hb).2.2.2.2.1 x c (aa q).1,λp ae z=>?_⟩
  ·rcases List.mem_cons.mp (I2.stkSub b z) with q|q
   ·exact(f2 b hb).2.1 q
   ·exact(f2 b hb).2.2.1 q
  ·exact(aw b hb).2 (z.symm.trans (aT p ae))
 have loop:∀ au:JZ,au={s2 with heap:=ak,toks:=s2.toks+([]:JP (Str×JT)).length}->
   Nz (Ko X.prog X.w) X.A (.compLoop (.ListComp elt [⟨target,iter,ifs,0⟩] scope pos) 0 (.ref it) (.ref s2.heap.objs.size) (OT scope (gT X.env scope.names []) hp.objs.size X.env))
    (O8 (Ko X.prog X.w) X.A X.xe use Qf (.ref s2.heap.objs.size) hp.objs.size) au:=by
  rintro au rfl;refine Ie (λn s'=>∃ i ys U na H',Inv (dJ X scope N {s2 with heap:=hp} H2 (s2.heap.objs.size::fp)) [] (gQ own caps σ) H' s'/\tn i s'.heap/\(∀ b∈fp,H' b=none)/\H' s2.heap.objs.size=none/\
   Vals ys U/\s'.heap.get? s2.heap.objs.size=some {cls:= .type "list",data:= .seq U.toArray na}/\W i n ys H') ?_ m0
   ⟨0,[],[],0,H2,I0,T.keep _ _ _ aC λb _ o q=>up1 (up q),λb hb=>(f2 b hb).1,I2.hok.fresh (JY _),.nil,up1 av,w0⟩;rintro n s3 ⟨i,ys,U,na,H3,I3,aP,aU,aG,az,aH,w3⟩;have Ip:=aN I3 aG aH;have f3:=aO (H':=H3) (pl:=[(s2.heap.objs.size,{cls:= .type "list",data:= .seq U.toArray na})]) aU rh;rcases turn i n ys H3 w3 with ⟨stop,hz,fin⟩|⟨go,hz,step⟩
  ·refine cv (T.done (dJ X scope N {s2 with heap:=hp} H2 (s2.heap.objs.size::fp)) rfl rfl rfl hcalm i _ s3 _ H3 _ Ip f3 aP stop) λr s4 ⟨hr,I4⟩=>?_
   subst hr;obtain⟨m,hn,_⟩:=I4.loc;exact hR _ _ _ _ ys m _ hn (λh' aV=>A3 I2 f2 ah.symm I4 aV az hz) (I2.fpOk (by rw[hC];exact MU _) (by rw[cF (K5 ai)];exact I4.free)) (fin _ (I4.pin _ (Ki _ KG)).2.1)
  ·refine cv (T.item (dJ X scope N {s2 with heap:=hp} H2 (s2.heap.objs.size::fp)) rfl rfl rfl hcalm i _ s3 _ H3 _ Ip f3 aP go) λr s4 ⟨u,hr,h4⟩=>?_
   subst hr;refine cv h4 λ_ s5 ⟨x,H5,I5,r5,y5,aI,aW⟩=>?_
   have aX:=I5.pinned (aO (H':=H5) (pl:=[(s2.heap.objs.size,{cls:= .type "list",data:= .seq U.toArray na})]) aW rh) (T.obj _ _ aI);refine cv (hg _ _ _ _ s5 _ H5 x u _ aX r5 (hk x _ H5 _ _ (step x H5 y5) λay H' q l k=>(⟨q,l,k⟩:_/\_/\_))) λ_ s6 ⟨aA,H6,I6,q6,l6,k6⟩=>?_
   refine cv (hc _ _ _ _ s6 aA H6 _ I6 q6) λok s7 ⟨H7,I7,q7⟩=>?_
   have weak:∀{H':Hp} {s':JZ} {pl:JP (JR×Obj)},Inv (dJ X scope N {s2 with heap:=hp} H2 (s2.heap.objs.size::fp)) pl aA H' s'->Inv (dJ X scope N {s2 with heap:=hp} H2 (s2.heap.objs.size::fp)) pl (gQ own caps σ) H' s':=λI'=>
    I'.weak l6.symm λj v e=>k6 j v (by
     by_cases hj:j<own
     ·unfold gQ at e;rw[List.getElem?_append_left (by simpa using hj),List.getElem?_replicate] at e;split at e<;>cases e
     ·(clear e l6 hz aH aG len0 av ai hC ah hN hkind hsc hX hcalm;lia)) e
   have after:∀{H':Hp} {s':JZ},Inv (dJ X scope N {s2 with heap:=hp} H2 (s2.heap.objs.size::fp)) ([(s2.heap.objs.size,{cls:= .type "list",data:= .seq U.toArray na})]++ow fp s5.heap) aA H' s'->
     tn (i+1) s'.heap/\(∀ b∈fp,H' b=none)/\H' s2.heap.objs.size=none/\s'.heap.get? s2.heap.objs.size=some {cls:= .type "list",data:= .seq U.toArray na}:=λI'=>by
    refine⟨T.keep _ _ _ aI λb hb o e=>(I'.pin (b,o) (Ki _ (Ki _ (nY hb e)))).1,λb hb=>?_,?_,?_⟩
    ·obtain⟨o,e,d⟩:=T.obj _ _ aI b hb;exact(I'.pin (b,o) (Ki _ (Ki _ (nY hb e)))).2.1
    ·exact(I'.pin _ (Ki _ (Ll _ KG))).2.1
    ·exact(I'.pin _ (Ki _ (Ll _ KG))).1
   cases ok with
   |false=>
    rw[if_neg J3];obtain⟨m',hm,w7⟩:=(show ∃ m',m'<n/\W (i+1) m' ys H7 by rw[if_neg J3] at q7;exact q7);obtain⟨a1,a2,a3,a4⟩:=after I7;exact⟨m',hm,i+1,ys,U,na,H7,(weak I7).pins_of (λp ae=>absurd ae (by simp)),a1,a2,a3,az,a4,w7⟩
   |true=>
    rw[J1 rfl];rw[J1 rfl] at q7;refine cv (he _ _ _ (rQ X scope hp.objs.size use Qf (.ref s2.heap.objs.size)) (FV hex hstk hfr hRT I2 f2 ah.symm) _ s7 aA H7 _ (I7.wish _) q7) λyv s8 ⟨y,H8,aY,r8,m',hm,w8⟩=>?_
    have I8:=aY.unwish;obtain⟨a1,a2,a3,a4⟩:=after I8;have hl:=az.length;refine MY KO ⟨_,a4,rfl⟩ NP (ND _ _) (Oc s2.heap.objs.size U.toArray na yv (by rw[Kk];(clear a4 a3 hm l6 aH aG len0 av ai hC ah hN hkind hsc hX hcalm;lia))) ⟨a4,?_⟩;have I9:Inv (dJ X scope N {s2 with heap:=hp} H2 (s2.heap.objs.size::fp)) [] (gQ own caps σ) H8 s8:=(weak I8).pins_of (λp ae=>absurd ae (by simp));have q:(s8.heap.update s2.heap.objs.size (Nw (·.push yv))).get? s2.heap.objs.size=some {cls:= .type "list",data:= .seq (U++[yv]).toArray (na+1)}:=by
     have q:=Ot a4 (·.push yv);simpa using q
    refine⟨m',hm,i+1,ys++[y],U++[yv],na+1,H8,I9.turned (it:=s2.heap.objs.size) (t':=s8.toks) (λb o hb e=>?_) a3 (ai) (.inl KG) (λx c z=>Kr (aj z)) (λp ae=>absurd (show p∈([]:JP (JR×Obj)) from ae) (by simp)),?_,a2,a3,az.append (.cons r8 .nil),q,w8⟩
    ·rw[Heap.get?_update_other _ _ (K5 hb)];exact e
    ·exact T.keep _ _ _ a1 λb hb o e=>by rw[Heap.get?_update_other _ _ (K5 (aw b hb).2)];exact e
 exact codeAny_compStart_list (loop _ rfl) (T.self _ 0 _ _ _ (T.keep _ _ _ aC λb _ o q=>up1 (up q)) (loop _ rfl))
theorem C6{elt target iter:KI}{ifs:JP KI}{scope sc0:MS}{pos:Pos}{N N0:JP Str}{own:Nat}{caps:JP Nat}{wi:TI}{g:TG}{tc:TT}{te:TE}
  (hcalm:X.calm=true)(hi:PI X target iter wi)
  (hg:∀ s₀ H₀ ex,PG (dJ X scope N s₀ H₀ ex) target g)(hc:∀ s₀ H₀ ex,cP (dJ X scope N s₀ H₀ ex) ifs tc){E:XK}(hex:X.ex=[])(hstk:X.stack=X.env::X.outer)(hfr:X.env.frame=some X.env.locals)(hRT:sX X E)(he:∀ s₀ H₀ ex xe,Passes (dD X.prog X.w) ((dJ X scope N s₀ H₀ ex).wish xe) E->PE ((dJ X scope N s₀ H₀ ex).wish xe) elt te)(hk:nP own g)
  (hX:X.N=N0)(hsc:X.env.scope=sc0)
  (hcell:∀ y∈scope.names,y.2≠ .cell)(hkind:scope.kind= .function)(hnames:∀ y∈scope.names,y.2= .local->scope.names.lookup y.1=some .local)
  (hfree:∀ y∈scope.names,y.2= .free->sc0.names.lookup y.1=some .cell)(hN:N.length=own+caps.length)
  (hcap:∀ p∈caps.zip (N.drop own),N0[p.1]? =some p.2/\scope.names.lookup p.2=some .free)
  (hs:∀ x,Me iter X.env x=pure x:=by intro _;rfl):
  PE X (.ListComp elt [⟨target,iter,ifs,0⟩] scope pos) (qG own caps wi g tc te):=by
 intro pins s σ H Q I h;rw[eval_ListComp];exact Ih hcalm hi hg hc hex hstk hfr hRT he hk hX hsc hcell hkind hnames hfree hN hcap hs I h λD C s' He ys m f hn U _ q=>⟨m,hn,λh' J=>⟨.ref D,_,U h' J,rfl,q⟩⟩
end
end L2
namespace K13
open PySem L2 PyProof.Rows PySem.Spec Gn K01
section
variable {P : Ka} {w : Ku} {K : J7} {mg : Str -> JW JT} {base : KP} {C : Kn -> JR} {CB d : JR}
noncomputable def wk(K:Kl)(CB:JR):Sp:=λvs H Q E=>∃ x,vs=[x]/\Known K H x/\rK x/\(iT 2000 x=true->∀ H',bY H H'->Q x H')/\(iT 2000 x=false->∀ H',bY H H'->E (.ref CB) none H')
theorem G6:da ["thing"] ["thing"] (cG o8):=⟨rfl,rfl,rfl,dkq,rfl,dkq,dkq⟩
seal cH PS PE PT PA PG PI cT cP in
theorem GV{f ft:JR}{fd fdt:J2}(D:Df K mg "asked_word" o8 f fd)(DT:Df K mg "is_word" qk ft fdt)(X:Ex K mg "BadAsk" CB)(GT:bX P w K mg base b7 2 ft fdt ["thing"] (zA K 2000)):
  bX P w K mg base (dD P w) 3 f fd ["thing"] (wk K CB):=by
 have U:=dY (p:="thing") DT.F λ_ _ _ _ _ _ _=>rfl
 refine D.F.ok1 G6 (λvs H Q E h=>?_) (λcdv A outer s H vs Q E I h=>?_)
 ·obtain⟨x,rfl,_⟩:=h;rfl
 ·obtain⟨x,rfl,hk,J,k1,k2⟩:=h;refine⟨_,b9 (cM (gG (fU (cQ GT I rfl DT.m DT.F.kp U .nil cz (bU (pv 0) bV)))) (b5 (kF rfl X.q Kx dkq Kx rfl X.m (bU b8 bV) lu)) cX)
   (b5 (cy (pv 0))),?_⟩;refine⟨_,rfl,x,rfl,hk,J,λH' sm=>⟨_,rfl,?_⟩⟩;cases hx:iT 2000 x with
  |false=>exact cg ⟨eh,k2 hx H' sm⟩
  |true=>exact cj ⟨_,rfl,k1 hx H' sm⟩
noncomputable def gf:JP (Key×V):=[(.inr "word",.int 2),(.inr "start",.int 2),(.inr "row",.int 2),(.inr "near",.int 4),(.inr "both",.int 3),(.inr "either",.int 3),(.inr "not",.int 2)]
noncomputable def gS:Kf->JW Str
 |.tuple (.str z::ds)=>if eO gf (.inr z)=some (.int ((ds.length+1:Nat):Int)) then some z else none
 |_=>none
theorem Ft(k:Key):eO gf k=none\/∃ i,eO gf k=some (.int i):=by
 cases h:eO gf k with
 |none=>exact .inl rfl
 |some v=>
  refine .inr ?_;unfold eO gf at h;simp only[List.find?_cons,List.find?_nil] at h
  repeat' split at h
  all_goals first|(simp at h;exact⟨_,by rw[<-h]⟩)|(simp at h)
noncomputable def B8:Kf->KS
 |.tuple _=>true
 |_=>false
noncomputable def Jr:Kf->KS
 |.str _=>true
 |_=>false
theorem ze(d:Kf):Lw K (.type (wC d)) (.type "tuple")=some (B8 d):=by
 cases d<;>kernel_rfl
theorem BF(d:Kf):Lw K (.type (wC d)) (.type "str")=some (Jr d):=by
 cases d<;>kernel_rfl
end
section
variable {P : Ka} {w : Ku} {K : J7} {mg : Str -> JW JT} {base : KP} {CB d : JR}
noncomputable def zJ(CB:JR):Sp:=λvs H Q E=>∃ x dd,vs=[x]/\cD true H x dd/\(∀ z,gS dd=some z->Q (.str z) H)/\(gS dd=none->E (.ref CB) none H)
theorem De:da ["told"] ["told"] (cG p4):=⟨rfl,rfl,rfl,dkq,rfl,dkq,dkq⟩
seal cH PS PE PT PA PG PI cT cP in
theorem EK{f:JR}{fd:J2}(D:Df K mg "need_name" p4 f fd)(T:Txt mg)(X:Ex K mg "BadAsk" CB)(hd:mg "TOLD_LENGTHS"=some (.ref d))(KD':KD P w K d gf):bX P w K mg base (dD P w) 1 f fd ["told"] (zJ CB):=by
 refine D.F.ok1 De (λvs H Q E h=>?_) (λcdv A outer s H vs Q E hr h=>?_)
 ·obtain⟨x,dd,rfl,_⟩:=h;rfl
 ·obtain⟨x,dd,rfl,hp,k1,k2⟩:=h;refine⟨_,b9 (cM (PW.pt (gu (gG (fU (dE jv rfl T.isi iF (bU (pv 0) (bU (lj (v:= .ty "tuple") rfl T.tuple oX rfl) bV)))))
    (gu (cx cU (dE iQ rfl T.len e8 (bU (pv 0) bV)) bZ (cC _))
    (ig (gG (fU (dE jv rfl T.isi iF (bU (cK dS (pv 0) bZ (λ_ _=>rfl)) (bU (lj (v:= .ty "str") rfl T.str nj rfl) bV)))))))))
    (b5 (kF rfl X.q Kx dkq Kx rfl X.m (bU b8 bV) lu)) cX)
   (b9 (cM (cx k8 (Cj rfl hd KD' (cK dS (pv 0) bZ (λ_ _=>rfl)) ⟨rfl,rfl,rfl,rfl⟩) (dE iQ rfl T.len e8 (bU (pv 0) bV)) (cC _))
    (b5 (kF rfl X.q Kx dkq Kx rfl X.m (bU b8 bV) lu)) cX)
   (b5 (cy (cK dS (pv 0) bZ (λ_ _=>rfl))))),?_⟩;refine⟨_,rfl,x,.ty "tuple",_,_,rfl,hp.ty,.inl ⟨_,rfl,ze dd⟩,_,rfl,?_⟩;cases hp with
  |tup ha hs=>
   rename_i a xs ds;have hl:=hs.len;refine cj ⟨_,rfl,a,xs,rfl,.inr (cu.of ha),rfl,_,rfl,?_⟩;cases hs with
   |nil=>exact cg (cg ⟨eh,k2 rfl⟩)
   |cons h0 I=>
    rename_i y ys e es;have aa:decide (V.int ((y::ys).length:Nat)=V.int 0)=false:=JQ (λz=>by simp at z;lia);rw[aa];refine cj ⟨_,rfl,a,_,0,y,rfl,rfl,cu.of ha,cJ (j:=0) rfl,y,.ty "str",_,_,rfl,h0.ty,.inl ⟨_,rfl,BF e⟩,_,rfl,?_⟩;cases h0 with
    |str z=>
     refine cj ⟨_,rfl,a,_,0,.str z,rfl,rfl,cu.of ha,cJ (j:=0) rfl,.inr z,rfl,_,rfl,a,_,rfl,.inr (cu.of ha),?_⟩;have nm:gS (.tuple (.str z::es))=if eO gf (.inr z)=some (.int ((es.length+1:Nat):Int)) then some z else none:=rfl
     have U:ys.length=es.length:=I.len
     have fin:∀ v:V,(eO gf (.inr z)).getD .non=v->(wt v (.int ((V.str z::ys).length:Nat))=true)->(eO gf (.inr z)=some (.int ((es.length+1:Nat):Int))↔v= .int ((V.str z::ys).length:Nat))->O3:=λ_ _ _ _=>trivial
     rcases Ft (.inr z) with q|⟨i,q⟩
     ·rw[q];refine⟨rfl,_,rfl,cg ⟨eh,k2 ?_⟩⟩;rw[nm,if_neg (by rw[q];intro J;cases J)]
     ·rw[q];refine⟨rfl,_,rfl,?_⟩;by_cases hi:i=((es.length+1:Nat):Int)
      ·have e1:(!decide (V.int i=V.int (((V.str z::ys).length:Nat):Int)))=false:=by
        rw[JS (by rw[hi,JV,U])];rfl
       show if (!decide (V.int i=V.int (((V.str z::ys).length:Nat):Int)))=true then _ else _
       rw[e1];exact cj ⟨_,rfl,a,_,0,.str z,rfl,rfl,cu.of ha,cJ (j:=0) rfl,k1 z (by rw[nm,J1 (by rw[q,hi])])⟩
      ·have e1:(!decide (V.int i=V.int (((V.str z::ys).length:Nat):Int)))=true:=by
        rw[JQ (λJ=>hi (by have:=V.int.inj J;rw[this,JV,U]))];rfl
       show if (!decide (V.int i=V.int (((V.str z::ys).length:Nat):Int)))=true then _ else _
       rw[e1];exact cg ⟨eh,k2 (by rw[nm,if_neg (λJ=>hi (by rw[q] at J;exact V.int.inj (Kg J)))])⟩
    |non=>exact cg ⟨eh,k2 rfl⟩
    |bl b=>exact cg ⟨eh,k2 rfl⟩
    |int i=>exact cg ⟨eh,k2 rfl⟩
    |lst _ _ _=>exact cg ⟨eh,k2 rfl⟩
    |tup _ _=>exact cg ⟨eh,k2 rfl⟩
  |non=>exact cg (cg ⟨eh,k2 rfl⟩)
  |bl b=>exact cg (cg ⟨eh,k2 rfl⟩)
  |int i=>exact cg (cg ⟨eh,k2 rfl⟩)
  |str z=>exact cg (cg ⟨eh,k2 rfl⟩)
  |lst _ _ _=>exact cg (cg ⟨eh,k2 rfl⟩)
end
end K13
namespace L2
theorem bY.upf {H H':Hp}{a:PySem.Addr}{o:HO}(s:bY H H')(h:H' a=none):bY H (upd H' a o):=Gn.bY.upd s h
end L2
namespace K13
open PySem L2 PyProof.Rows PySem.Spec Gn K01
mutual
noncomputable def md : Kf -> Prop
 |.str z => z.length<=5000
 |.tuple ds => qE ds
 |.list ds => qE ds
 |_ => O3
noncomputable def qE : JP Kf -> Prop
 |[] => O3
 |d :: ds => md d /\ qE ds
end
theorem yf:∀{ds:JP Kf} {i:Nat} {d:Kf},qE ds->ds[i]? =some d->md d
 |_::_,0,_,h,e=>by
  simp at e;rw[<-e];exact h.1
 |_::ds,i+1,_,h,e=>yf (ds:=ds) (i:=i) h.2 (by simpa using e)
theorem cD.fit {l:KS}{H:Hp}{x:V}{d:Kf}(h:cD l H x d)(f:md d):rK x:=by
 intro z e;subst e;cases h with
 |str _=>exact f
theorem cV.get {l:KS}{H:Hp}:∀{xs:JP V} {ds:JP Kf} {i:Nat} {x:V},cV l H xs ds->xs[i]? =some x->∃ d,ds[i]? =some d/\cD l H x d
 |_,_,0,_,.cons h _,e=>by
  simp at e;exact⟨_,rfl,e ▸ h⟩
 |_,_,i+1,_,.cons _ r,e=>by
  obtain⟨d,J,U⟩:=cV.get (i:=i) r (by simpa using e);exact⟨d,by simpa using J,U⟩
 |_,_,0,_,.nil,e=>by simp at e
 |_,_,i+1,_,.nil,e=>by simp at e
noncomputable def wd:Kf->JW Str
 |.str z=>if iT 2000 (.str z)=true then some z else none
 |_=>none
theorem wV{l:KS}{H:Hp}{x:V}{d:Kf}(h:cD l H x d):(iT 2000 x=true->∃ z,x= .str z/\wd d=some z)/\(iT 2000 x=false->wd d=none):=by
 cases h with
 |str z=>exact⟨λe=>⟨z,rfl,J1 e⟩,λe=>if_neg (by rw[e];decide)⟩
 |non=>exact⟨λe=>(by cases e),λ_=>rfl⟩
 |bl b=>exact⟨λe=>(by cases e),λ_=>rfl⟩
 |int i=>exact⟨λe=>(by cases e),λ_=>rfl⟩
 |lst _ _ _=>exact⟨λe=>(by cases e),λ_=>rfl⟩
 |tup _ _=>exact⟨λe=>(by cases e),λ_=>rfl⟩
noncomputable def gX:JP Kf->JW (JP Str)
 |[]=>some []
 |d::ds=>match wd d with
  |none=>none
  |some z=>(gX ds).map (z:: ·)
theorem yH:∀{ds:JP Kf} {zs:JP Str} {d:Kf} {z:Str},gX ds=some zs->wd d=some z->gX (ds++[d])=some (zs++[z])
 |[],zs,d,z,h,e=>by
  cases h;show(match wd d with|none=>none|some z=>(gX []).map (z:: ·))=_;rw[e];rfl
 |a::ds,zs,d,z,h,e=>by
  have h':(match wd a with|none=>none|some z=>(gX ds).map (z:: ·))=some zs:=h
  show(match wd a with|none=>none|some z=>(gX (ds++[d])).map (z:: ·))=_;cases ha:wd a with
  |none=>rw[ha] at h';cases h'
  |some y=>
   rw[ha] at h';cases hz:gX ds with
   |none=>rw[hz] at h';cases h'
   |some ys=>
    rw[hz] at h';have J:y::ys=zs:=by simpa using h'
    subst J;show(gX (ds++[d])).map (y:: ·)=_;rw[yH hz e];rfl
theorem A7:∀{ds:JP Kf} {i:Nat} {d:Kf},ds[i]? =some d->wd d=none->gX ds=none
 |a::ds,0,d,h,e=>by
  have:a=d:=by simpa using h
  subst this;show(match wd a with|none=>none|some z=>(gX ds).map (z:: ·))=_;rw[e]
 |a::ds,i+1,d,h,e=>by
  show(match wd a with|none=>none|some z=>(gX ds).map (z:: ·))=_;rw[A7 (ds:=ds) (i:=i) (by simpa using h) e];cases wd a<;>rfl
noncomputable def rowOf:Kf->JW (JP Str)
 |.tuple ds=>if 2<=ds.length/\ds.length<=8 then gX ds else none
 |_=>none
noncomputable def gs:Kn->KS
 |.w=>true|.s=>true|.r=>true|_=>false
noncomputable def q0:Kf->JW Int
 |.int n=>if 0<=n/\n<=20 then some n else none
 |_=>none
noncomputable def iV(a b:At)(d:Kf):JW Int:=if (gs a.kn&&gs b.kn)=true then q0 d else none
section
variable {P : Ka} {w : Ku} {K : J7} {mg : Str -> JW JT} {base : KP} {C fi : Kn -> JR} {fdi : Kn -> J2} {CB : JR}
noncomputable def zx(C:Kn->JR)(CB:JR):Sp:=λvs H Q E=>∃ x dd,vs=[x]/\cD true H x dd/\md dd/\(∀ zs,rowOf dd=some zs->∀ a H',bY H H'->d0 C H' a (.row zs)->Q (.ref a) H')/\(rowOf dd=none->∀ H',bY H H'->E (.ref CB) none H')
theorem B2:da ["thing"] ["thing"] (cG nO):=⟨rfl,rfl,rfl,dkq,rfl,dkq,dkq⟩
theorem FF:(["word"]:JP Str).Nodup:=dkq
seal cH PS PE PT PA PG PI cT cP in
theorem Bt{f fa:JR}{fd fda:J2}(D:Df K mg "asked_row" nO f fd)(DA:Df K mg "asked_word" o8 fa fda)(T:Txt mg)(Cl:Cs K C)(I:In K C fi fdi)(hR:mg "Row"=some (.ref (C .r)))(X:Ex K mg "BadAsk" CB)
  (GA:bX P w K mg base (dD P w) 3 fa fda ["thing"] (wk K CB)):bX P w K mg base (dD P w) 4 f fd ["thing"] (zx C CB):=by
 obtain⟨t1,c1⟩:=T.cLR;obtain⟨t2,c2⟩:=T.cMR;have bA:=dY (p:="thing") DA.F λ_ _ _ _ _ _ _=>rfl
 have GI:bX P w K mg base b7 2 (fi .r) (fdi .r) ["self","words"] (y9 (C .r)):=(HB Cl I T).mono (by decide);refine D.F.ok1 B2 (λvs H Q E h=>?_) (λcdv A outer s H vs Q E hr h=>?_)
 ·obtain⟨x,dd,rfl,_⟩:=h;rfl
 ·obtain⟨x,dd,rfl,hp,hf,k1,k2⟩:=h;have hz:(sizeLine:Nat)=16777216:=Kv;refine⟨_,b9 (cM (PW.pt (gu (gG (fU (dE jv rfl T.isi iF (bU (pv 0) (bU (lj (v:= .ty "tuple") rfl T.tuple oX rfl) bV)))))
    (gu (cx iS (dE iQ rfl T.len e8 (bU (pv 0) bV)) (fK (v:= .int 2) rfl c1 ⟨_,rfl⟩) (cC _))
    (ig (cx iH (dE iQ rfl T.len e8 (bU (pv 0) bV)) (fK (v:= .int 8) rfl c2 ⟨_,rfl⟩) (cC _))))))
    (b5 (kF rfl X.q Kx dkq Kx rfl X.m (bU b8 bV) lu)) cX)
   (b5 (cy (mF (I.M .r) GI hr rfl hR (I.bi .r) .nil cz (bU (C6 (own:=1) (caps:=[]) (N:=["word"]) (N0:=["thing"]) (sc0:=cG nO) rfl (zm (pv 0))
    (λ_ _ _=>eY (i:=0) FF rfl (Kh rfl)) (λ_ _ _=>i9) rfl rfl rfl Jz
    (λ_ _ _ _ hp=>cQ GA hr rfl DA.m DA.F.kp bA .nil hp (bU (pv 0) bV)) (iX (by decide)) rfl rfl
    dkq rfl dkq dkq rfl dkq) bV)))),?_⟩;refine⟨_,rfl,x,.ty "tuple",_,_,rfl,hp.ty,.inl ⟨_,rfl,ze dd⟩,_,rfl,?_⟩;cases hp with
  |tup ha hs=>
   rename_i a xs ds;have hl:=hs.len;refine cj ⟨_,rfl,a,xs,rfl,.inr (cu.of ha),_,_,rfl,rfl,_,rfl,?_⟩;have rv:rowOf (.tuple ds)=if 2<=ds.length/\ds.length<=8 then gX ds else none:=rfl
   by_cases h1:((xs.length:Nat):Int)<2
   ·rw[JS h1];exact cg (cg ⟨eh,k2 (by rw[rv,if_neg (by lia)]) H (bY.refl H)⟩)
   ·rw[JQ h1];refine cj ⟨_,rfl,a,xs,rfl,.inr (cu.of ha),_,_,rfl,rfl,_,rfl,?_⟩;by_cases h2:(8:Int)<((xs.length:Nat):Int)
    ·rw[JS h2];exact cg ⟨eh,k2 (by rw[rv,if_neg (by lia)]) H (bY.refl H)⟩
    ·rw[JQ h2];rw[J1 (by lia)] at rv;refine cj ⟨_,rfl,a,rfl,⟨_,cu.of ha⟩,?_⟩;refine JJ (xs:=xs) (λi ys H'=>bY H H'/\∃ zs,gX (ds.take i)=some zs/\ys=zs.map V.str) (by lia) (λi ys H' ⟨sm,_⟩=>cu.of (sm _ _ ha)) ⟨bY.refl H,[],rfl,rfl⟩ ?_ ?_
     ·rintro i y ys H' N hy ⟨sm,zs,J,rfl⟩ hN;obtain⟨d,hd,U⟩:=hs.get hy;have hw:=wV U;refine g1 ?_;refine⟨_,rfl,y,rfl,(U.same sm).known,U.fit (yf hf hd),λe H2 s2=>?_,λe H2 s2=>k2 (by rw[rv];exact A7 hd (hw.2 e)) H2 (sm.trans s2)⟩;obtain⟨z,rfl,e2⟩:=hw.1 e;refine hN _ _ ⟨sm.trans s2,zs++[z],?_,by rw[J5];rfl⟩;rw[Lk,hd];exact yH J e2
     ·rintro ys H' ⟨sm,zs,J,rfl⟩ _ p hp b dx hb aa ag;rw[hl,Mq] at J;have s1:bY H (upd H' p (.lst (zs.map V.str))):=sm.upf hp;generalize af:upd H' p (.lst (zs.map V.str))=H1 at s1 hb aa;have ab:H1 p=some (.lst (zs.map V.str)):=by rw[<-af];exact b6
      have pb:p≠b:=dM ab hb
      have pd:p≠dx:=dM ab aa;refine⟨b,dx,p,_,rfl,b6,by rw[cF pb,cF pd];exact ab,λq hq=>⟨rfl,k1 zs (by rw[rv,J]) b _ ?_ ?_⟩⟩
      ·intro c u hc;have ae:=s1 _ _ hc;have cb:c≠b:=dM ae hb;have cd:c≠dx:=dM ae aa;have e2:(upd (upd H1 dx (.own b)) b (.ins (C .r) dx [])) c=some u:=by rw[cF cb,cF cd];exact ae
       rw[cF cb,cF (dM e2 hq)];exact e2
      ·have qb:q≠b:=λz=>by rw[z,b6] at hq;cases hq
       exact⟨dx,q,b6,by rw[cF qb];exact b6⟩
  |non=>exact cg (cg ⟨eh,k2 rfl H (bY.refl H)⟩)
  |bl b=>exact cg (cg ⟨eh,k2 rfl H (bY.refl H)⟩)
  |int i=>exact cg (cg ⟨eh,k2 rfl H (bY.refl H)⟩)
  |str z=>exact cg (cg ⟨eh,k2 rfl H (bY.refl H)⟩)
  |lst _ _ _=>exact cg (cg ⟨eh,k2 rfl H (bY.refl H)⟩)
noncomputable def zu(C:Kn->JR)(CB:JR):Sp:=λvs H Q E=>∃(p q:JR) (x:V) (J U:At) (d:Kf),vs=[.ref p,.ref q,x]/\d0 C H p J/\d0 C H q U/\cD true H x d/\
 (∀ n,iV J U d=some n->∀ a H',bY H H'->d0 C H' a (.near J U n)->Q (.ref a) H')/\(iV J U d=none->∀ H',bY H H'->E (.ref CB) none H')
theorem zq:da ["one","other","far","ask"] ["one","other","far"] (cG qQ):=⟨rfl,rfl,rfl,dkq,rfl,dkq,dkq⟩
theorem nG{H1:Hp}{b dx:JR}{o o' o'':HO}(hb:H1 b=none)(hdx:H1 dx=none):bY H1 (upd (upd (upd H1 dx o) b o') b o''):=by
 rw[qL];exact C2 (bY.refl _) hb hdx
seal cH PS PE PT PA PG PI cT cP in
theorem Cc{f ft:JR}{fd fdt:J2}(D:Df K mg "asked_near" qQ f fd)(DT:Df K mg "is_whole" qy ft fdt)(T:Txt mg)(Cl:Cs K C)(I:In K C fi fdi)(hW:mg "Word"=some (.ref (C .w)))(hS:mg "Start"=some (.ref (C .s)))(hR:mg "Row"=some (.ref (C .r)))(hN:mg "Near"=some (.ref (C .n)))(X:Ex K mg "BadAsk" CB)
  (hK:∀ i,Lm K (.ref (C i)) ([C .w,C .s,C .r].map Ky)=some (gs i)):bX P w K mg base (dD P w) 3 f fd ["one","other","far"] (zu C CB):=by
 obtain⟨t1,c1⟩:=T.cFar;have GT:bX P w K mg base b7 2 ft fdt ["thing"] (Bh K):=(Ir DT T).mono (by decide);have bT:=dY (p:="thing") DT.F λ_ _ _ _ _ _ _=>rfl
 have GI:bX P w K mg base b7 1 (fi .n) (fdi .n) ["self","one","other","far"] (xE (C .n)):=Dh Cl I;refine D.F.ok1 zq (λvs H Q E h=>?_) (λcdv A outer s H vs Q E hr h=>?_)
 ·obtain⟨p,q,x,tp,tq,d,rfl,_⟩:=h;rfl
 ·obtain⟨p,q,x,tp,tq,d,rfl,hp,hq,hx,k1,k2⟩:=h;have nv:iV tp tq d=if (gs tp.kn&&gs tq.kn)=true then q0 d else none:=rfl
  refine⟨_,b9 (kT PassesOwn.leaving rfl (zm (dm (bU (pv 0) (bU (pv 1) bV)))) (eY (i:=3) zq.nd rfl (Kh rfl))
    (b5 (cM (gG (fU (dE vg rfl T.isi iF (bU (pv 3) (bU (dm (bU (fK (v:= .ref (C .w)) rfl hW rfl) (bU (fK (v:= .ref (C .s)) rfl hS rfl) (bU (fK (v:= .ref (C .r)) rfl hR rfl) bV)))) bV)))))
     (b5 (kF rfl X.q Kx dkq Kx rfl X.m (bU b8 bV) lu)) cX)))
   (b9 (cM (PW.pt (gu (gG (fU (cQ GT hr rfl DT.m DT.F.kp bT .nil cz (bU (pv 2) bV))))
    (gu (cx iS (pv 2) bZ (cC _))
    (ig (cx iH (pv 2) (fK (v:= .int 20) rfl c1 ⟨_,rfl⟩) (cC _))))))
    (b5 (kF rfl X.q Kx dkq Kx rfl X.m (bU b8 bV) lu)) cX)
   (b5 (cy (mF (I.M .n) GI hr rfl hN (I.bi .n) .nil cz (bU (pv 0) (bU (pv 1) (bU (pv 2) bV))))))),?_⟩;refine⟨_,rfl,_,rfl,eK,λtt aa=>?_⟩;refine⟨tt,rfl,⟨_,cu.of b6⟩,?_⟩;refine CV (xs:=[.ref p,.ref q]) (λi σ H'=>∃ o3,σ=[some (.ref p),some (.ref q),some x,o3]/\bY H H'/\H' tt=some (.tup [.ref p,.ref q])/\(0<i->gs tp.kn=true)/\(1<i->gs tq.kn=true)) ?_ ?_ ?_ ?_
  ·exact⟨none,rfl,cq aa,b6,λz=>absurd z (by decide),λz=>absurd z (by decide)⟩
  ·rintro i σ H' _ ⟨o3,rfl,_,e,_⟩;exact cu.of e
  ·rintro i y σ H' hy ⟨o3,rfl,sm,e,l1,l2⟩
   match i,hy with
   |0,hy=>
    have ey:V.ref p=y:=by simpa using hy
    subst ey;obtain⟨dp,fp,ep,_⟩:=(hp.same sm).ob;refine⟨_,rfl,fH,λc U=>⟨p,C tp.kn,dp,fp,c,[C .w,C .s,C .r],_,rfl,by rw[cF (dM ep U)];exact ep,Cl.ic _,b6,hK _,_,rfl,?_⟩⟩;cases hl:gs tp.kn with
    |false=>exact cg ⟨eh,k2 (by rw[nv,hl];rfl) _ (sm.upf U)⟩
    |true=>exact cj ⟨_,rfl,sm.upf U,by rw[cF (dM e U)];exact e,λ_=>rfl,λz=>absurd z (by decide)⟩
   |1,hy=>
    have ey:V.ref q=y:=by simpa using hy
    subst ey;obtain⟨dp,fp,ep,_⟩:=(hq.same sm).ob;refine⟨_,rfl,fH,λc U=>⟨q,C tq.kn,dp,fp,c,[C .w,C .s,C .r],_,rfl,by rw[cF (dM ep U)];exact ep,Cl.ic _,b6,hK _,_,rfl,?_⟩⟩;cases hl:gs tq.kn with
    |false=>exact cg ⟨eh,k2 (by rw[nv,hl,MZ];rfl) _ (sm.upf U)⟩
    |true=>exact cj ⟨_,rfl,sm.upf U,by rw[cF (dM e U)];exact e,λ_=>l1 (by decide),λ_=>rfl⟩
   |i+2,hy=>simp at hy
  ·rintro σ H' ⟨o3,rfl,sm,e,l1,l2⟩;have L1:=l1 (by show 0<2;decide);have L2:=l2 (by show 1<2;decide);rw[L1,L2] at nv;have J:iV tp tq d=q0 d:=nv;refine⟨_,rfl,x,rfl,(hx.same sm).known,_,rfl,?_⟩;cases hx with
   |int n=>
    refine cj ⟨_,rfl,_,_,rfl,rfl,_,rfl,?_⟩;have fv:q0 (.int n)=if 0<=n/\n<=20 then some n else none:=rfl
    by_cases h1:n<0
    ·rw[JS h1];exact cg (cg ⟨eh,k2 (by rw[J,fv,if_neg (by lia)]) H' sm⟩)
    ·rw[JQ h1];refine cj ⟨_,rfl,_,_,rfl,rfl,_,rfl,?_⟩;by_cases h2:20<n
     ·rw[JS h2];exact cg ⟨eh,k2 (by rw[J,fv,if_neg (by lia)]) H' sm⟩
     ·rw[JQ h2];refine cj ⟨_,rfl,_,rfl,_,rfl,λb dx hb ab ae=>⟨b,dx,p,q,n,rfl,b6,rfl,?_⟩⟩;have s2:=nG (o:= .own b) (o':= .ins (C .n) dx []) (o'':= .ins (C .n) dx (f3 p q n)) hb ab;exact k1 n (by rw[J,fv,J1 (by lia)]) b _ (sm.trans s2) ⟨dx,p,q,b6,hp.same (sm.trans s2),hq.same (sm.trans s2)⟩
   |non=>exact cg (cg ⟨eh,k2 J H' sm⟩)
   |bl b=>exact cg (cg ⟨eh,k2 J H' sm⟩)
   |str z=>exact cg (cg ⟨eh,k2 J H' sm⟩)
   |lst _ _ _=>exact cg (cg ⟨eh,k2 J H' sm⟩)
   |tup _ _=>exact cg (cg ⟨eh,k2 J H' sm⟩)
end
noncomputable def arg(d:Kf)(i:Nat):Kf:=match d with
 |.tuple ds=>ds.getD i .none
 |_=> .none
noncomputable def du:Nat->Kf->JW At
 |0,_=>none
 |n+1,d=>match gS d with
  |none=>none
  |some z=>
   if z="word" then (wd (arg d 1)).map .word
   else if z="start" then (wd (arg d 1)).map .start
   else if z="row" then (rowOf (arg d 1)).map .row
   else match du n (arg d 1) with
    |none=>none
    |some a=>
     if z="not" then some (.no a)
     else match du n (arg d 2) with
      |none=>none
      |some b=>if z="near" then (iV a b (arg d 3)).map (.near a b) else if z="both" then some (.both a b) else some (.either a b)
theorem Fs{kvs:JP (Key×V)}{k:Key}{v:V}(h:eO kvs k=some v):(k,v)∈kvs:=by
 unfold eO at h;obtain⟨J,e,q⟩:=Option.map_eq_some_iff.mp h;have h1:=List.mem_of_find?_eq_some e;have h2:J.1=k:=LZ (by simpa using List.find?_some e);rw[<-h2,<-q];exact h1
theorem xU{d:Kf}{z:Str}(h:gS d=some z):∃ ds,d= .tuple (.str z::ds)/\
  ((z="word"/\ds.length=1)\/(z="start"/\ds.length=1)\/(z="row"/\ds.length=1)\/(z="near"/\ds.length=3)\/(z="both"/\ds.length=2)\/(z="either"/\ds.length=2)\/(z="not"/\ds.length=1)):=by
 unfold gS at h;split at h
 ·rename_i y ds;split at h
  ·rename_i q;have ez:y=z:=by simpa using h
   subst ez;refine⟨ds,rfl,?_⟩;have m:=Fs q;unfold gf at m;simp only[L5,LW,N4,Prod.mk.injEq] at m;rcases m with ⟨U,I⟩|⟨U,I⟩|⟨U,I⟩|⟨U,I⟩|⟨U,I⟩|⟨U,I⟩|⟨U,I⟩
   all_goals
    have J:=Sum.inr.inj U
    have aa:=V.int.inj I
   ·exact .inl ⟨J,by lia⟩
   ·exact .inr (.inl ⟨J,by lia⟩)
   ·exact .inr (.inr (.inl ⟨J,by lia⟩))
   ·exact .inr (.inr (.inr (.inl ⟨J,by lia⟩)))
   ·exact .inr (.inr (.inr (.inr (.inl ⟨J,by lia⟩))))
   ·exact .inr (.inr (.inr (.inr (.inr (.inl ⟨J,by lia⟩)))))
   ·exact .inr (.inr (.inr (.inr (.inr (.inr ⟨J,by lia⟩)))))
  ·cases h
 ·cases h
section
variable {n : Nat} {d : Kf}
theorem Ap(h:gS d=none):du (n+1) d=none:=by
 unfold du;rw[h]
theorem vF(h:gS d=some "word"):du (n+1) d=(wd (arg d 1)).map .word:=by
 rw[du,h];show(if _ then _ else _)=_;rw[J1 rfl]
theorem vq(h:gS d=some "start"):du (n+1) d=(wd (arg d 1)).map .start:=by
 rw[du,h];show(if _ then _ else _)=_;rw[if_neg dkq,J1 rfl]
theorem vN(h:gS d=some "row"):du (n+1) d=(rowOf (arg d 1)).map .row:=by
 rw[du,h];show(if _ then _ else _)=_;rw[if_neg dkq,if_neg dkq,J1 rfl]
theorem tV(h:gS d=some "not"):du (n+1) d=(du n (arg d 1)).map .no:=by
 rw[du,h];show(if _ then _ else _)=_;rw[if_neg dkq,if_neg dkq,if_neg dkq];cases du n (arg d 1) with
 |none=>rfl
 |some a=>
  show(if _ then _ else _)=_;rw[J1 rfl];rfl
noncomputable def two(n:Nat)(d:Kf)(k:At->At->JW At):JW At:=(du n (arg d 1)).bind λa=>(du n (arg d 2)).bind λb=>k a b
theorem uM(h:gS d=some "near"):du (n+1) d=two n d λa b=>(iV a b (arg d 3)).map (.near a b):=by
 rw[du,h];show(if _ then _ else _)=_;unfold two;rw[if_neg dkq,if_neg dkq,if_neg dkq];cases du n (arg d 1) with
 |none=>rfl
 |some a=>
  show(if _ then _ else _)=_;rw[if_neg dkq];cases du n (arg d 2) with
  |none=>rfl
  |some b=>
   show(if _ then _ else _)=_;rw[J1 rfl];rfl
theorem ve(h:gS d=some "both"):du (n+1) d=two n d λa b=>some (.both a b):=by
 rw[du,h];show(if _ then _ else _)=_;unfold two;rw[if_neg dkq,if_neg dkq,if_neg dkq];cases du n (arg d 1) with
 |none=>rfl
 |some a=>
  show(if _ then _ else _)=_;rw[if_neg dkq];cases du n (arg d 2) with
  |none=>rfl
  |some b=>
   show(if _ then _ else _)=_;rw[if_neg dkq,J1 rfl];rfl
theorem uz(h:gS d=some "either"):du (n+1) d=two n d λa b=>some (.either a b):=by
 rw[du,h];show(if _ then _ else _)=_;unfold two;rw[if_neg dkq,if_neg dkq,if_neg dkq];cases du n (arg d 1) with
 |none=>rfl
 |some a=>
  show(if _ then _ else _)=_;rw[if_neg dkq];cases du n (arg d 2) with
  |none=>rfl
  |some b=>
   show(if _ then _ else _)=_;rw[if_neg dkq,if_neg dkq];rfl
theorem ue{k:At->At->JW At}(h:du n (arg d 1)=none):two n d k=none:=by unfold two;rw[h];rfl
theorem xj{k:At->At->JW At}{a:At}(h:du n (arg d 1)=some a)(h2:du n (arg d 2)=none):two n d k=none:=by unfold two;rw[h];show(du n (arg d 2)).bind _=_;rw[h2];rfl
theorem wY{k:At->At->JW At}{a b:At}(h:du n (arg d 1)=some a)(h2:du n (arg d 2)=some b):two n d k=k a b:=by unfold two;rw[h];show(du n (arg d 2)).bind _=_;rw[h2];rfl
end
theorem mY{a b:Str}{A B:Prop}(h:a=b)(k:A):if decide (V.str a=V.str b)=true then A else B:=by rw[h,JS rfl];exact cg k
theorem fP{a b:Str}{A B:Prop}(h:¬ a=b)(k:B):if decide (V.str a=V.str b)=true then A else B:=by rw[JQ (λe=>h (V.str.inj e))];exact cj k
section
variable {l : KS} {H : Hp} {x : V}
theorem cD.t2 {a b:Kf}(h:cD l H x (.tuple [a,b])):∃ p x0 x1,x= .ref p/\H p=some (.tup [x0,x1])/\cD l H x0 a/\cD l H x1 b:=by
 cases h with
 |tup ha J=>
  cases J with
  |cons h0 J=>cases J with
   |cons h1 J=>cases J with
    |nil=>exact⟨_,_,_,rfl,ha,h0,h1⟩
theorem cD.t3 {a b c:Kf}(h:cD l H x (.tuple [a,b,c])):∃ p x0 x1 x2,x= .ref p/\H p=some (.tup [x0,x1,x2])/\cD l H x0 a/\cD l H x1 b/\cD l H x2 c:=by
 cases h with
 |tup ha J=>
  cases J with
  |cons h0 J=>cases J with
   |cons h1 J=>cases J with
    |cons h2 J=>cases J with
     |nil=>exact⟨_,_,_,_,rfl,ha,h0,h1,h2⟩
theorem cD.t4 {a b c d:Kf}(h:cD l H x (.tuple [a,b,c,d])):∃ p x0 x1 x2 x3,x= .ref p/\H p=some (.tup [x0,x1,x2,x3])/\cD l H x0 a/\cD l H x1 b/\cD l H x2 c/\cD l H x3 d:=by
 cases h with
 |tup ha J=>
  cases J with
  |cons h0 J=>cases J with
   |cons h1 J=>cases J with
    |cons h2 J=>cases J with
     |cons U J=>cases J with
      |nil=>exact⟨_,_,_,_,_,rfl,ha,h0,h1,h2,U⟩
end
structure Nm (mg : Str -> JW JT) (C : Kn -> JR) : Prop where
 w : mg "Word" = some (.ref (C .w))
 s : mg "Start" = some (.ref (C .s))
 r : mg "Row" = some (.ref (C .r))
 n : mg "Near" = some (.ref (C .n))
 b : mg "Both" = some (.ref (C .b))
 e : mg "Either" = some (.ref (C .e))
 o : mg "Not" = some (.ref (C .o))
section
variable {P : Ka} {w : Ku} {K : J7} {mg : Str -> JW JT} {base : KP} {C fi : Kn -> JR} {fdi : Kn -> J2} {CB : JR}
noncomputable def sN(C:Kn->JR)(CB:JR)(n:Nat):Sp:=λvs H Q E=>∃(x:V) (k:Int) (dd:Kf),vs=[x,.int k]/\k=(n:Int)/\cD true H x dd/\md dd/\
 (∀ t,du n dd=some t->∀ a H',bY H H'->d0 C H' a t->Q (.ref a) H')/\(du n dd=none->∀ H',bY H H'->E (.ref CB) none H')
noncomputable def IJ(C:Kn->JR)(CB:JR):Nat->Sp
 |0=>λ_ _ _ _=>LG
 |n+1=>sN C CB n
theorem tH{CX:gv}{k:Nat}{f:JR}{fd:J2}{ps:JP Str}:bX P w K mg base CX k f fd ps (λ_ _ _ _=>LG):=⟨λ_ _ _ _ h=>h.elim,λ_ _ _ _ _ _ _ _ _ _ _ _ _ h=>h.elim⟩
theorem rV:da ["told","deep","name","one","other"] ["told","deep"] (cG pU):=⟨rfl,rfl,rfl,dkq,rfl,dkq,dkq⟩
seal cH PS PE PT PA PG PI cT cP in
theorem Af{f fn fa fr fe:JR}{fd fdn fda fdr fde:J2}(D:Df K mg "ask_within" pU f fd)(DN:Df K mg "need_name" p4 fn fdn)(DA:Df K mg "asked_word" o8 fa fda)(DR:Df K mg "asked_row" nO fr fdr)(DE:Df K mg "asked_near" qQ fe fde)
  (Cl:Cs K C)(I:In K C fi fdi)(NM:Nm mg C)(X:Ex K mg "BadAsk" CB)
  (GN:bX P w K mg base (dD P w) 1 fn fdn ["told"] (zJ CB))(GA:bX P w K mg base (dD P w) 3 fa fda ["thing"] (wk K CB))(GR:bX P w K mg base (dD P w) 4 fr fdr ["thing"] (zx C CB))
  (GE:bX P w K mg base (dD P w) 3 fe fde ["one","other","far"] (zu C CB))(n:Nat)(GW:bX P w K mg base (dD P w) (n+4) f fd ["told","deep"] (IJ C CB n)):
  bX P w K mg base (dD P w) (n+5) f fd ["told","deep"] (sN C CB n):=by
 have bN:=dY (p:="told") DN.F λ_ _ _ _ _ _ _=>rfl
 have bA:=dY (p:="thing") DA.F λ_ _ _ _ _ _ _=>rfl
 have bR:=dY (p:="thing") DR.F λ_ _ _ _ _ _ _=>rfl
 have bE:=DE.F.binds (ps:=["one","other","far"]) λ_ _ _ _ _ _ us hl=>jD (λ_ _ _=>rfl) us hl
 have bW:=D.F.binds (ps:=["told","deep"]) λ_ _ _ _ _ _ us hl=>eU (λ_ _=>rfl) us hl
 have ai:=GN.mono (show 1<=n+4 by lia)
 have ag:=GA.mono (show 3<=n+4 by lia)
 have aj:=GR.mono (show 4<=n+4 by lia)
 have ak:=GE.mono (show 3<=n+4 by lia)
 have Gw:bX P w K mg base b7 (n+3) (fi .w) (fdi .w) ["self","word"] (oz (C .w) "word"):=(Jc Cl I).mono (by lia)
 have Gs:bX P w K mg base b7 (n+3) (fi .s) (fdi .s) ["self","word"] (oz (C .s) "word"):=(HR Cl I).mono (by lia)
 have Go:bX P w K mg base b7 (n+3) (fi .o) (fdi .o) ["self","one"] (oz (C .o) "one"):=(BO Cl I).mono (by lia)
 have Gb:bX P w K mg base b7 (n+3) (fi .b) (fdi .b) ["self","one","other"] (sv (C .b)):=(Je Cl I).mono (by lia)
 have Ge:bX P w K mg base b7 (n+3) (fi .e) (fdi .e) ["self","one","other"] (sv (C .e)):=(Cz Cl I).mono (by lia);refine D.F.ok1 rV (λvs H Q E h=>?_) (λcdv A outer s H vs Q E hr h=>?_)
 ·obtain⟨x,k,dd,rfl,_⟩:=h;rfl
 ·obtain⟨x,k,dd,rfl,rfl,hp,hf,k1,k2⟩:=h;refine⟨_,b9 (cM (cx cU (pv 1) bZ (cC _)) (b5 (kF rfl X.q Kx dkq Kx rfl X.m (bU b8 bV) lu)) cX)
   (b9 (cZ (i:=2) rV.nd rfl (Kh rfl) (cQ ai hr rfl DN.m DN.F.kp bN .nil (lH (E':=E) (λ_ _ _ h=>h)) (bU (pv 0) bV)))
   (b9 (cM (cx cU (pv 2) b8 (cC _)) (b5 (cy (mF (I.M .w) Gw hr rfl NM.w (I.bi .w) .nil cz (bU (cQ ag hr rfl DA.m DA.F.kp bA .nil (lH (E':=E) (λ_ _ _ h=>h)) (bU (cK dS (pv 0) bZ (λ_ _=>rfl)) bV)) bV)))) cX)
   (b9 (cM (cx cU (pv 2) b8 (cC _)) (b5 (cy (mF (I.M .s) Gs hr rfl NM.s (I.bi .s) .nil cz (bU (cQ ag hr rfl DA.m DA.F.kp bA .nil (lH (E':=E) (λ_ _ _ h=>h)) (bU (cK dS (pv 0) bZ (λ_ _=>rfl)) bV)) bV)))) cX)
   (b9 (cM (cx cU (pv 2) b8 (cC _)) (b5 (cy (cQ aj hr rfl DR.m DR.F.kp bR .nil (lH (E':=E) (λ_ _ _ h=>h)) (bU (cK dS (pv 0) bZ (λ_ _=>rfl)) bV)))) cX)
   (b9 (cZ (i:=3) rV.nd rfl (Kh rfl) (cQ GW hr rfl D.m D.F.kp bW .nil (lH (E':=E) (λ_ _ _ h=>h)) (bU (cK dS (pv 0) bZ (λ_ _=>rfl)) (bU (cA qc (pv 1) bZ) bV))))
   (b9 (cM (cx cU (pv 2) b8 (cC _)) (b5 (cy (mF (I.M .o) Go hr rfl NM.o (I.bi .o) .nil cz (bU (pv 3) bV)))) cX)
   (b9 (cZ (i:=4) rV.nd rfl (Kh rfl) (cQ GW hr rfl D.m D.F.kp bW .nil (lH (E':=E) (λ_ _ _ h=>h)) (bU (cK dS (pv 0) bZ (λ_ _=>rfl)) (bU (cA qc (pv 1) bZ) bV))))
   (b9 (cM (cx cU (pv 2) b8 (cC _)) (b5 (cy (cQ ak hr rfl DE.m DE.F.kp bE .nil (lH (E':=E) (λ_ _ _ h=>h)) (bU (pv 3) (bU (pv 4) (bU (cK dS (pv 0) bZ (λ_ _=>rfl)) bV)))))) cX)
   (b5 (cy (i6 (cx cU (pv 2) b8 (cC _)) (mF (I.M .b) Gb hr rfl NM.b (I.bi .b) .nil cz (bU (pv 3) (bU (pv 4) bV))) (mF (I.M .e) Ge hr rfl NM.e (I.bi .e) .nil cz (bU (pv 3) (bU (pv 4) bV)))))))))))))),?_⟩;refine⟨_,rfl,rfl,_,rfl,?_⟩;cases n with
  |zero=>exact cg ⟨eh,k2 rfl H (bY.refl H)⟩
  |succ n=>
   have ae:decide (V.int ((n+1:Nat):Int)=V.int 0)=false:=JQ (λz=>by have:=V.int.inj z;lia);rw[ae];refine cj ⟨_,rfl,x,dd,rfl,hp,λz hz=>?_,λe=>k2 (Ap e) H (bY.refl H)⟩;obtain⟨ds,rfl,hc⟩:=xU hz;rcases hc with ⟨rfl,hd⟩|⟨rfl,hd⟩|⟨rfl,hd⟩|⟨rfl,hd⟩|⟨rfl,hd⟩|⟨rfl,hd⟩|⟨rfl,hd⟩
   ·match ds,hd with
    |[d1],_=>
     obtain⟨p,x0,U,rfl,ha,_,h1⟩:=hp.t2;have hw:=wV h1;have J:du (n+1) (.tuple [.str "word",d1])=(wd d1).map .word:=vF hz;refine⟨_,rfl,rfl,_,rfl,mY rfl ⟨_,rfl,p,_,1,U,rfl,rfl,cu.of ha,cJ (j:=1) rfl,U,rfl,h1.known,h1.fit hf.2.1,λe H2 s2=>?_,λe H2 s2=>k2 (by rw[J,hw.2 e];rfl) H2 s2⟩⟩;obtain⟨zz,rfl,e2⟩:=hw.1 e;intro b dx hb aa ae;exact⟨b,dx,_,rfl,b6,rfl,k1 (.word zz) (by rw[J,e2];rfl) b _ (s2.trans (nG hb aa)) ⟨dx,b6⟩⟩
   ·match ds,hd with
    |[d1],_=>
     obtain⟨p,x0,U,rfl,ha,_,h1⟩:=hp.t2;have hw:=wV h1;have J:du (n+1) (.tuple [.str "start",d1])=(wd d1).map .start:=vq hz;refine⟨_,rfl,rfl,_,rfl,fP dkq ⟨_,rfl,rfl,_,rfl,mY rfl ⟨_,rfl,p,_,1,U,rfl,rfl,cu.of ha,cJ (j:=1) rfl,U,rfl,h1.known,h1.fit hf.2.1,λe H2 s2=>?_,λe H2 s2=>k2 (by rw[J,hw.2 e];rfl) H2 s2⟩⟩⟩;obtain⟨zz,rfl,e2⟩:=hw.1 e;intro b dx hb aa ae;exact⟨b,dx,_,rfl,b6,rfl,k1 (.start zz) (by rw[J,e2];rfl) b _ (s2.trans (nG hb aa)) ⟨dx,b6⟩⟩
   ·match ds,hd with
    |[d1],_=>
     obtain⟨p,x0,U,rfl,ha,_,h1⟩:=hp.t2;have J:du (n+1) (.tuple [.str "row",d1])=(rowOf d1).map .row:=vN hz;exact⟨_,rfl,rfl,_,rfl,fP dkq ⟨_,rfl,rfl,_,rfl,fP dkq ⟨_,rfl,rfl,_,rfl,mY rfl ⟨_,rfl,p,_,1,U,rfl,rfl,cu.of ha,cJ (j:=1) rfl,U,d1,rfl,h1,hf.2.1,
      λzs e a H2 s2 hA=>k1 (.row zs) (by rw[J,e];rfl) a H2 s2 hA,λe H2 s2=>k2 (by rw[J,e];rfl) H2 s2⟩⟩⟩⟩
   ·match ds,hd with
    |[d1,d2,d3],_=>
     obtain⟨p,x0,U,x2,x3,rfl,ha,_,h1,h2,h3⟩:=hp.t4;have J:=uM (n:=n) hz;refine⟨_,rfl,rfl,_,rfl,fP dkq ⟨_,rfl,rfl,_,rfl,fP dkq ⟨_,rfl,rfl,_,rfl,fP dkq ⟨_,rfl,p,_,1,U,rfl,rfl,cu.of ha,cJ (j:=1) rfl,_,rfl,_,_,rfl,rfl,
      U,_,d1,rfl,by lia,h1,hf.2.1,λt1 e1 a1 H1 s1 ab=>?_,λe1 H1 s1=>k2 (by rw[J];exact ue e1) H1 s1⟩⟩⟩⟩;refine⟨_,rfl,rfl,_,rfl,fP dkq ⟨_,rfl,p,_,2,x2,rfl,rfl,cu.of (s1 _ _ ha),cJ (j:=2) rfl,_,rfl,_,_,rfl,rfl,
      x2,_,d2,rfl,by lia,h2.same s1,hf.2.2.1,λt2 e2 a2 H2 s2 af=>?_,λe2 H2 s2=>k2 (by rw[J];exact xj e1 e2) H2 (s1.trans s2)⟩⟩;have ah:=J.trans (wY e1 e2);exact⟨_,rfl,rfl,_,rfl,mY rfl ⟨_,rfl,_,rfl,_,rfl,p,_,3,x3,rfl,rfl,cu.of (s2 _ _ (s1 _ _ ha)),cJ (j:=3) rfl,a1,a2,x3,t1,t2,d3,rfl,ab.same s2,af,(h3.same s1).same s2,
      λm e a H3 s3 hA=>k1 (.near t1 t2 m) (by rw[ah];show(iV t1 t2 d3).map _=_;rw[e];rfl) a H3 ((s1.trans s2).trans s3) hA,λe H3 s3=>k2 (by rw[ah];show(iV t1 t2 d3).map _=_;rw[e];rfl) H3 ((s1.trans s2).trans s3)⟩⟩
   ·match ds,hd with
    |[d1,d2],_=>
     obtain⟨p,x0,U,x2,rfl,ha,_,h1,h2⟩:=hp.t3;have J:=ve (n:=n) hz;refine⟨_,rfl,rfl,_,rfl,fP dkq ⟨_,rfl,rfl,_,rfl,fP dkq ⟨_,rfl,rfl,_,rfl,fP dkq ⟨_,rfl,p,_,1,U,rfl,rfl,cu.of ha,cJ (j:=1) rfl,_,rfl,_,_,rfl,rfl,
      U,_,d1,rfl,by lia,h1,hf.2.1,λt1 e1 a1 H1 s1 ab=>?_,λe1 H1 s1=>k2 (by rw[J];exact ue e1) H1 s1⟩⟩⟩⟩;refine⟨_,rfl,rfl,_,rfl,fP dkq ⟨_,rfl,p,_,2,x2,rfl,rfl,cu.of (s1 _ _ ha),cJ (j:=2) rfl,_,rfl,_,_,rfl,rfl,
      x2,_,d2,rfl,by lia,h2.same s1,hf.2.2.1,λt2 e2 a2 H2 s2 af=>?_,λe2 H2 s2=>k2 (by rw[J];exact xj e1 e2) H2 (s1.trans s2)⟩⟩;refine⟨_,rfl,rfl,_,rfl,fP dkq ⟨_,rfl,rfl,_,rfl,mY rfl ⟨_,rfl,_,rfl,λb dx hb aa ae=>⟨b,dx,a1,a2,rfl,b6,rfl,?_⟩⟩⟩⟩;have s3:=nG (o:= .own b) (o':= .ins (C .b) dx []) (o'':= .ins (C .b) dx (f2 a1 a2)) hb aa;exact k1 (.both t1 t2) (J.trans (wY e1 e2)) b _ ((s1.trans s2).trans s3) ⟨dx,a1,a2,b6,ab.same (s2.trans s3),af.same s3⟩
   ·match ds,hd with
    |[d1,d2],_=>
     obtain⟨p,x0,U,x2,rfl,ha,_,h1,h2⟩:=hp.t3;have J:=uz (n:=n) hz;refine⟨_,rfl,rfl,_,rfl,fP dkq ⟨_,rfl,rfl,_,rfl,fP dkq ⟨_,rfl,rfl,_,rfl,fP dkq ⟨_,rfl,p,_,1,U,rfl,rfl,cu.of ha,cJ (j:=1) rfl,_,rfl,_,_,rfl,rfl,
      U,_,d1,rfl,by lia,h1,hf.2.1,λt1 e1 a1 H1 s1 ab=>?_,λe1 H1 s1=>k2 (by rw[J];exact ue e1) H1 s1⟩⟩⟩⟩;refine⟨_,rfl,rfl,_,rfl,fP dkq ⟨_,rfl,p,_,2,x2,rfl,rfl,cu.of (s1 _ _ ha),cJ (j:=2) rfl,_,rfl,_,_,rfl,rfl,
      x2,_,d2,rfl,by lia,h2.same s1,hf.2.2.1,λt2 e2 a2 H2 s2 af=>?_,λe2 H2 s2=>k2 (by rw[J];exact xj e1 e2) H2 (s1.trans s2)⟩⟩;refine⟨_,rfl,rfl,_,rfl,fP dkq ⟨_,rfl,rfl,_,rfl,fP dkq ⟨_,rfl,_,rfl,λb dx hb aa ae=>⟨b,dx,a1,a2,rfl,b6,rfl,?_⟩⟩⟩⟩;have s3:=nG (o:= .own b) (o':= .ins (C .e) dx []) (o'':= .ins (C .e) dx (f2 a1 a2)) hb aa;exact k1 (.either t1 t2) (J.trans (wY e1 e2)) b _ ((s1.trans s2).trans s3) ⟨dx,a1,a2,b6,ab.same (s2.trans s3),af.same s3⟩
   ·match ds,hd with
    |[d1],_=>
     obtain⟨p,x0,U,rfl,ha,_,h1⟩:=hp.t2;have J:du (n+1) (.tuple [.str "not",d1])=(du n d1).map .no:=tV hz;refine⟨_,rfl,rfl,_,rfl,fP dkq ⟨_,rfl,rfl,_,rfl,fP dkq ⟨_,rfl,rfl,_,rfl,fP dkq ⟨_,rfl,p,_,1,U,rfl,rfl,cu.of ha,cJ (j:=1) rfl,_,rfl,_,_,rfl,rfl,
      U,_,d1,rfl,by lia,h1,hf.2.1,λt1 e1 a1 H1 s1 ab=>?_,λe1 H1 s1=>k2 (by rw[J,e1];rfl) H1 s1⟩⟩⟩⟩;refine⟨_,rfl,rfl,_,rfl,mY rfl ⟨_,rfl,λb dx hb aa ae=>⟨b,dx,.ref a1,rfl,b6,rfl,?_⟩⟩⟩;have s3:=nG (o:= .own b) (o':= .ins (C .o) dx []) (o'':= .ins (C .o) dx (f1 a1)) hb aa;exact k1 (.no t1) (by rw[J,e1];rfl) b _ (s1.trans s3) ⟨dx,a1,b6,ab.same s3⟩
end
theorem At.kids_dep:∀{t k:At},k∈t.kids->k.dep+1<=t.dep
 |.near a b _,k,h=>by
  show k.dep+1<=max a.dep b.dep+1
  have h':k=a\/k=b:=by simpa[At.kids] using h
  rcases h' with rfl|rfl<;>lia
 |.both a b,k,h=>by
  show k.dep+1<=max a.dep b.dep+1
  have h':k=a\/k=b:=by simpa[At.kids] using h
  rcases h' with rfl|rfl<;>lia
 |.either a b,k,h=>by
  show k.dep+1<=max a.dep b.dep+1
  have h':k=a\/k=b:=by simpa[At.kids] using h
  rcases h' with rfl|rfl<;>lia
 |.no a,k,h=>by
  show k.dep+1<=a.dep+1
  have h':k=a:=by simpa[At.kids] using h
  rw[h']
  lia
 |.word _,k,h=>by simp[At.kids] at h
 |.start _,k,h=>by simp[At.kids] at h
 |.row _,k,h=>by simp[At.kids] at h
theorem At.many_kids:∀ t:At,t.many=1+(t.kids.map At.many).sum
 |.near a b _=>by show 1+(a.many+b.many)=1+(a.many+(b.many+0));lia
 |.both a b=>by show 1+(a.many+b.many)=1+(a.many+(b.many+0));lia
 |.either a b=>by show 1+(a.many+b.many)=1+(a.many+(b.many+0));lia
 |.no a=>by show 1+a.many=1+(a.many+0);lia
 |.word _=>rfl
 |.start _=>rfl
 |.row _=>rfl
theorem Ao{x:Nat}:∀{l:JP Nat},x∈l->x<=l.sum
 |y::l,h=>by
  rw[NC];rcases List.mem_cons.mp h with rfl|h
  ·lia
  ·have:=Ao h
   lia
theorem At.kids_many {t k:At}(h:k∈t.kids):k.many<=t.many:=by
 have:=Ao (List.mem_map.mpr ⟨k,h,rfl⟩:k.many∈t.kids.map At.many);rw[At.many_kids t]
 lia
theorem At.kids_len (t:At):t.kids.length<=2:=by cases t<;>simp[At.kids]
theorem vi{a b x y:Nat}(h1:x+1<=2 ^ (a+1))(h2:y+1<=2 ^ (b+1)):1+(x+y)+1<=2 ^ (max a b+1+1):=by
 rw[Nat.pow_succ];have J:2 ^ (a+1)<=2 ^ (max a b+1):=LK (by decide) (by lia);have U:2 ^ (b+1)<=2 ^ (max a b+1):=LK (by decide) (by lia)
 lia
theorem At.many_pow:∀ t:At,t.many+1<=2 ^ (t.dep+1)
 |.near a b _=>vi (At.many_pow a) (At.many_pow b)
 |.both a b=>vi (At.many_pow a) (At.many_pow b)
 |.either a b=>vi (At.many_pow a) (At.many_pow b)
 |.no a=>by
  have:=At.many_pow a
  show 1+a.many+1<=2 ^ (a.dep+1+1);rw[Nat.pow_succ];have h1:=Nat.one_le_two_pow (n:=a.dep+1)
  lia
 |.word _=>JY _
 |.start _=>JY _
 |.row _=>JY _
theorem uw{n:Nat}{d:Kf}{k:At->At->JW At}{t:At}(h:two n d k=some t):∃ a b,du n (arg d 1)=some a/\du n (arg d 2)=some b/\k a b=some t:=by
 unfold two at h;cases ha:du n (arg d 1) with
 |none=>rw[ha] at h;cases h
 |some a=>
  rw[ha] at h;have h':(du n (arg d 2)).bind (λb=>k a b)=some t:=h;cases hb:du n (arg d 2) with
  |none=>rw[hb] at h';cases h'
  |some b=>
   rw[hb] at h';exact⟨a,b,rfl,rfl,h'⟩
theorem kW:∀{n:Nat} {d:Kf} {t:At},du n d=some t->t.dep+1<=n
 |0,_,_,h=>by cases h
 |n+1,d,t,h=>by
  cases hz:gS d with
  |none=>rw[Ap hz] at h;cases h
  |some z=>
   obtain⟨ds,_,hc⟩:=xU hz;rcases hc with ⟨rfl,_⟩|⟨rfl,_⟩|⟨rfl,_⟩|⟨rfl,_⟩|⟨rfl,_⟩|⟨rfl,_⟩|⟨rfl,_⟩
   ·rw[vF hz] at h;obtain⟨y,_,rfl⟩:=Option.map_eq_some_iff.mp h;exact M6 (Ks _)
   ·rw[vq hz] at h;obtain⟨y,_,rfl⟩:=Option.map_eq_some_iff.mp h;exact M6 (Ks _)
   ·rw[vN hz] at h;obtain⟨y,_,rfl⟩:=Option.map_eq_some_iff.mp h;exact M6 (Ks _)
   ·rw[uM hz] at h;obtain⟨a,b,h1,h2,J⟩:=uw h;obtain⟨y,_,rfl⟩:=Option.map_eq_some_iff.mp J;have U:=kW h1;have I:=kW h2;show max a.dep b.dep+1+1<=n+1
    lia
   ·rw[ve hz] at h;obtain⟨a,b,h1,h2,J⟩:=uw h;cases J;have U:=kW h1;have I:=kW h2;show max a.dep b.dep+1+1<=n+1
    lia
   ·rw[uz hz] at h;obtain⟨a,b,h1,h2,J⟩:=uw h;cases J;have U:=kW h1;have I:=kW h2;show max a.dep b.dep+1+1<=n+1
    lia
   ·rw[tV hz] at h;obtain⟨a,h1,rfl⟩:=Option.map_eq_some_iff.mp h;have U:=kW h1;show a.dep+1+1<=n+1
    lia
noncomputable def ofD(d:Kf):JW At:=(du 8 d).bind λt=>if t.many<=40 then some t else none
section
variable {P : Ka} {w : Ku} {K : J7} {mg : Str -> JW JT} {base : KP} {C fi fk : Kn -> JR} {fdi fdk : Kn -> J2} {CB : JR}
theorem Al:Lp "sum"=some (.builtin "sum"):=dkq
noncomputable def sW(C:Kn->JR)(n:Nat):Sp:=λvs H Q _=>∃(a:JR) (t:At),vs=[.ref a]/\d0 C H a t/\t.dep<=n/\t.many<=100000/\∀ H',bY H H'->Q (.int ((t.many:Nat):Int)) H'
noncomputable def Fe(C:Kn->JR):Nat->Sp
 |0=>λ_ _ _ _=>LG
 |n+1=>sW C n
theorem Hv:da ["ask"] ["ask"] (cG nA):=⟨rfl,rfl,rfl,dkq,rfl,dkq,dkq⟩
theorem JI:(["kid"]:JP Str).Nodup:=dkq
theorem um{α β:Type}{F:α->β->Prop}:∀{l:JP α} {m:JP β},Lo F l m->∀{i:Nat} {a:α},l[i]? =some a->∃ b,m[i]? =some b/\F a b
 |_,_,.cons r t,0,a,e=>by
  simp at e;exact⟨_,rfl,e ▸ r⟩
 |_,_,.cons r t,i+1,a,e=>by
  obtain⟨b,J,U⟩:=um t (i:=i) (by simpa using e);exact⟨b,by simpa using J,U⟩
 |_,_,.nil,0,a,e=>by simp at e
 |_,_,.nil,i+1,a,e=>by simp at e
seal cH PS PE PT PA PG PI cT cP in
theorem xw{f:JR}{fd:J2}(D:Df K mg "many_in" nA f fd)(T:Txt mg)(Cl:Cs K C)(M:Mt K C "kids" nX nh fk fdk)(n:Nat)(GM:bX P w K mg base b7 (n+1) f fd ["ask"] (Fe C n)):bX P w K mg base b7 (n+2) f fd ["ask"] (sW C n):=by
 have bM:=dY (p:="ask") D.F λ_ _ _ _ _ _ _=>rfl
 have GK:∀ i,bX P w K mg base b7 (n+1) (fk i) (fdk i) ["self"] (uk C i):=λi=>(yC Cl M i).mono (by lia)
 have hz:(sizeLine:Nat)=16777216:=Kv;refine D.F.ok Hv (λvs H Q E h=>?_) (λcdv A outer s H vs Q E I h=>?_)
 ·obtain⟨a,t,rfl,_⟩:=h;rfl
 ·obtain⟨a,t,rfl,hA,hd,hm,k⟩:=h;refine⟨_,b5 (cy (cA eD bZ (dE (Ak rfl) rfl T.sum Al (bU (jF (own:=1) (caps:=[]) (N:=["kid"]) (N0:=["ask"]) (sc0:=cG nA) rfl
    (pj (gc (pv 0) Cl.cl M.M GK I (yb M) cz)) (λ_ _ _=>eY (i:=0) JI rfl (Kh rfl)) (λ_ _ _=>i9)
    (λ_ _ _=>cQ GM I rfl D.m D.F.kp bM .nil cz (bU (pv 0) bV)) (iX (by decide)) rfl rfl
    dkq rfl dkq dkq rfl dkq) bV)))),?_⟩;obtain⟨dp,fp,ep,lp⟩:=hA.ob;refine⟨_,rfl,t.kn,a,dp,fp,rfl,ep,lp _ zy,a,t,rfl,hA,rfl,λl xs hl hK=>?_⟩;have kl:=t.kids_len;have xl:=Gn.Paired.len hK;refine⟨l,rfl,⟨_,ck.of b6⟩,rC (xs:=xs) (λi ys H'=>bY H H'/\H' l=some (.lst xs)/\ys=(t.kids.take i).map λk=>V.int ((k.many:Nat):Int)) (by lia) (λi ys H' ⟨_,e,_⟩=>ck.of e) ⟨cq hl,b6,rfl⟩ ?_ ?_⟩
  ·rintro i y ys H' N hy ⟨sm,el,rfl⟩ hN;obtain⟨kd,J,p,rfl,hp⟩:=um hK hy;have U:=List.mem_of_getElem? J;have d1:=At.kids_dep U;have m1:=At.kids_many U;refine g1 ?_
   match n,GM,hd with
   |0,_,hd=>lia
   |n+1,_,hd=>
    refine⟨_,rfl,p,kd,rfl,hp.same sm,by lia,by lia,λH2 s2=>hN _ _ ⟨sm.trans s2,s2 _ _ el,?_⟩⟩;rw[Lk,J,J5];rfl
  ·rintro ys H' ⟨sm,el,rfl⟩ _ p hp;have mk:=t.many_kids;have e1:(t.kids.take xs.length).map (λk=>V.int ((k.many:Nat):Int))=(t.kids.map At.many).map λ(n:Nat)=>V.int (n:Int):=by
    rw[xl,Mq,LB];rfl
   refine⟨p,t.kids.map At.many,rfl,ck.of (by rw[b6,e1]),by lia,_,_,rfl,rfl,?_⟩;have:=k _ (sm.upf (o:= .lst ((t.kids.take xs.length).map λk=>V.int ((k.many:Nat):Int))) hp);rw[mk] at this;exact this
theorem zL{f:JR}{fd:J2}(D:Df K mg "many_in" nA f fd)(T:Txt mg)(Cl:Cs K C)(M:Mt K C "kids" nX nh fk fdk):∀ n:Nat,bX P w K mg base b7 (n+2) f fd ["ask"] (sW C n)
 |0=>xw D T Cl M 0 tH
 |n+1=>xw D T Cl M (n+1) (zL D T Cl M n)
noncomputable def vk(C:Kn->JR)(CB:JR):Sp:=λvs H Q E=>∃(x:V) (dd:Kf),vs=[x]/\cD true H x dd/\md dd/\
 (∀ t,ofD dd=some t->∀ a H',bY H H'->d0 C H' a t->Q (.ref a) H')/\(ofD dd=none->∀ H',bY H H'->E (.ref CB) none H')
theorem Ah:da ["told","ask"] ["told"] (cG nJ):=⟨rfl,rfl,rfl,dkq,rfl,dkq,dkq⟩
seal cH PS PE PT PA PG PI cT cP in
theorem Ei{f fw fm:JR}{fd fdw fdm:J2}(D:Df K mg "ask_of" nJ f fd)(DW:Df K mg "ask_within" pU fw fdw)(DM:Df K mg "many_in" nA fm fdm)(T:Txt mg)(X:Ex K mg "BadAsk" CB)
  (GW:bX P w K mg base (dD P w) 13 fw fdw ["told","deep"] (sN C CB 8))(GM:bX P w K mg base b7 9 fm fdm ["ask"] (sW C 7)):bX P w K mg base (dD P w) 14 f fd ["told"] (vk C CB):=by
 obtain⟨t1,c1⟩:=T.cDeep;obtain⟨t2,c2⟩:=T.cAll;have bW:=DW.F.binds (ps:=["told","deep"]) λ_ _ _ _ _ _ us hl=>eU (λ_ _=>rfl) us hl
 have bM:=dY (p:="ask") DM.F λ_ _ _ _ _ _ _=>rfl
 have J:=GM.mono (show 9<=13 by decide);refine D.F.ok1 Ah (λvs H Q E h=>?_) (λcdv A outer s H vs Q E U h=>?_)
 ·obtain⟨x,dd,rfl,_⟩:=h;rfl
 ·obtain⟨x,dd,rfl,hp,hf,k1,k2⟩:=h;refine⟨_,b9 (cZ (i:=1) Ah.nd rfl (Kh rfl) (cQ GW U rfl DW.m DW.F.kp bW .nil (lH (E':=E) (λ_ _ _ h=>h)) (bU (pv 0) (bU (fK (v:= .int 8) rfl c1 ⟨_,rfl⟩) bV))))
   (b9 (cM (cx iH (cQ J U rfl DM.m DM.F.kp bM .nil cz (bU (pv 1) bV)) (fK (v:= .int 40) rfl c2 ⟨_,rfl⟩) (cC _)) (b5 (kF rfl X.q Kx dkq Kx rfl X.m (bU b8 bV) lu)) cX)
   (b5 (cy (pv 1)))),?_⟩;refine⟨_,rfl,x,8,dd,rfl,rfl,hp,hf,λt ht a H1 s1 I=>?_,λe H1 s1=>k2 (by unfold ofD;rw[e];rfl) H1 s1⟩;have dp:=kW ht;have mp:=t.many_pow;have aa:(2:Nat) ^ (t.dep+1)<=2 ^ 8:=LK (by decide) (by lia);have m8:(2:Nat) ^ 8=256:=rfl;have ov:ofD dd=if t.many<=40 then some t else none:=by unfold ofD;rw[ht];rfl
  refine⟨_,rfl,a,t,rfl,I,by lia,by lia,λH2 s2=>⟨_,_,rfl,rfl,_,rfl,?_⟩⟩;by_cases hm:(40:Int)<((t.many:Nat):Int)
  ·rw[JS hm];exact cg ⟨eh,k2 (by rw[ov,if_neg (by lia)]) H2 (s1.trans s2)⟩
  ·rw[JQ hm];exact cj ⟨_,rfl,k1 t (by rw[ov,J1 (by lia)]) a H2 (s1.trans s2) (I.same s2)⟩
end
noncomputable abbrev Wd(z:Str):Prop:=iT 2000 (.str z)=true
theorem oW{z:Str}(h:Wm z):Wd z:=by
 show(decide (1<=z.length)&&decide (z.length<=2000)&&z.cps.toList.all dA)=true;rw[JS h.2.2,JS (by have:=h.1;lia),h.2.1];rfl
noncomputable def Gd:At->Prop
 |.word z=>Wm z
 |.start z=>Wm z
 |.row zs=>2<=zs.length/\zs.length<=8/\∀ z∈zs,Wm z
 |.near a b n=>(gs a.kn=true/\gs b.kn=true)/\(0<=n/\n<=20)/\Gd a/\Gd b
 |.both a b=>Gd a/\Gd b
 |.either a b=>Gd a/\Gd b
 |.no a=>Gd a
theorem At.lf_dep {t:At}(h:gs t.kn=true):t.dep=0:=by cases t<;>first|rfl|cases h
noncomputable def At.nm:At->Str
 |.word _=>"word" |.start _=>"start" |.row _=>"row" |.near _ _ _=>"near" |.both _ _=>"both" |.either _ _=>"either" |.no _=>"not"
theorem Ji:eO gf (.inr "word")=some (.int 2):=dkq
theorem Jt:eO gf (.inr "start")=some (.int 2):=dkq
theorem FW:eO gf (.inr "row")=some (.int 2):=dkq
theorem FQ:eO gf (.inr "near")=some (.int 4):=dkq
theorem CI:eO gf (.inr "both")=some (.int 3):=dkq
theorem Cu:eO gf (.inr "either")=some (.int 3):=dkq
theorem CO:eO gf (.inr "not")=some (.int 2):=dkq
theorem mi{z:Str}{ds:JP Kf}(h:eO gf (.inr z)=some (.int ((ds.length+1:Nat):Int))):gS (.tuple (.str z::ds))=some z:=by
 show(if eO gf (.inr z)=some (.int ((ds.length+1:Nat):Int)) then some z else none)=_;rw[J1 h]
theorem lZ:∀ t:At,gS t.told=some t.nm
 |.word z=>mi Ji
 |.start z=>mi Jt
 |.row zs=>mi FW
 |.near a b n=>mi FQ
 |.both a b=>mi CI
 |.either a b=>mi Cu
 |.no a=>mi CO
theorem vR{z:Str}(h:Wd z):wd (.str z)=some z:=J1 h
theorem yV:∀{zs:JP Str},(∀ z∈zs,Wd z)->gX (zs.map .str)=some zs
 |[],_=>rfl
 |z::zs,h=>by
  show(match wd (.str z) with|none=>none|some z=>(gX (zs.map .str)).map (z:: ·))=_;rw[vR (h z (by simp)),yV λy J=>h y (by simp[J])];rfl
theorem lh:∀(n:Nat) (t:At),Gd t->du n t.told=if t.dep<n then some t else none
 |0,t,_=>by rw[if_neg (by lia)];rfl
 |n+1,.word z,h=>by
  rw[vF (lZ (.word z)),J1 (show(At.word z).dep<n+1 from Nat.succ_pos n)];show(wd (.str z)).map _=_;rw[vR (oW h)];rfl
 |n+1,.start z,h=>by
  rw[vq (lZ (.start z)),J1 (show(At.start z).dep<n+1 from Nat.succ_pos n)];show(wd (.str z)).map _=_;rw[vR (oW h)];rfl
 |n+1,.row zs,h=>by
  rw[vN (lZ (.row zs)),J1 (show(At.row zs).dep<n+1 from Nat.succ_pos n)];show(if 2<=(zs.map MC).length/\(zs.map MC).length<=8 then gX (zs.map .str) else none).map _=_;rw[JX,J1 ⟨h.1,h.2.1⟩,yV (λz m=>oW (h.2.2 z m))];rfl
 |n+1,.no a,h=>by
  rw[tV (lZ (.no a))];show(du n a.told).map _=_;rw[lh n a h];by_cases q:a.dep<n
  ·rw[J1 q,J1 (show(At.no a).dep<n+1 by show a.dep+1<n+1;lia)];rfl
  ·rw[if_neg q,if_neg (show ¬ (At.no a).dep<n+1 by show ¬ a.dep+1<n+1;lia)];rfl
 |n+1,.both a b,h=>by
  rw[ve (lZ (.both a b))];show((du n a.told).bind λa=>(du n b.told).bind λb=>some (At.both a b))=_;rw[lh n a h.1,lh n b h.2];by_cases q:a.dep<n
  ·by_cases J:b.dep<n
   ·rw[J1 q,J1 J,J1 (show(At.both a b).dep<n+1 by show max a.dep b.dep+1<n+1;lia)];rfl
   ·rw[J1 q,if_neg J,if_neg (show ¬ (At.both a b).dep<n+1 by show ¬ max a.dep b.dep+1<n+1;lia)];rfl
  ·rw[if_neg q,if_neg (show ¬ (At.both a b).dep<n+1 by show ¬ max a.dep b.dep+1<n+1;lia)];rfl
 |n+1,.either a b,h=>by
  rw[uz (lZ (.either a b))];show((du n a.told).bind λa=>(du n b.told).bind λb=>some (At.either a b))=_;rw[lh n a h.1,lh n b h.2];by_cases q:a.dep<n
  ·by_cases J:b.dep<n
   ·rw[J1 q,J1 J,J1 (show(At.either a b).dep<n+1 by show max a.dep b.dep+1<n+1;lia)];rfl
   ·rw[J1 q,if_neg J,if_neg (show ¬ (At.either a b).dep<n+1 by show ¬ max a.dep b.dep+1<n+1;lia)];rfl
  ·rw[if_neg q,if_neg (show ¬ (At.either a b).dep<n+1 by show ¬ max a.dep b.dep+1<n+1;lia)];rfl
 |n+1,.near a b m,h=>by
  obtain⟨⟨U,I⟩,hm,g1,g2⟩:=h;rw[uM (lZ (.near a b m))];show((du n a.told).bind λa=>(du n b.told).bind λb=>(iV a b (.int m)).map (At.near a b))=_;rw[lh n a g1,lh n b g2];have d1:=At.lf_dep U;have d2:=At.lf_dep I;by_cases q:0<n
  ·rw[J1 (by lia),J1 (by lia),J1 (show(At.near a b m).dep<n+1 by show max a.dep b.dep+1<n+1;lia)];show(iV a b (.int m)).map _=_;have e:iV a b (.int m)=some m:=by
    unfold iV;rw[U,I,J1 (show(true&&true)=true from rfl)];show(if 0<=m/\m<=20 then some m else none)=_;rw[J1 hm]
   rw[e];rfl
  ·rw[if_neg (by lia),if_neg (show ¬ (At.near a b m).dep<n+1 by show ¬ max a.dep b.dep+1<n+1;lia)];rfl
theorem wG{t:At}(h:Gd t):ofD t.told=if t.dep<=7/\t.many<=40 then some t else none:=by
 unfold ofD;rw[lh 8 t h];by_cases q:t.dep<8
 ·rw[J1 q];show(if t.many<=40 then some t else none)=_;by_cases J:t.many<=40
  ·rw[J1 J,J1 ⟨by lia,J⟩]
  ·rw[if_neg J,if_neg (λz=>J z.2)]
 ·rw[if_neg q,if_neg (λz=>q (by lia))];rfl
theorem uK{z:Str}(h:Wd z):z.length<=5000:=by
 have h':(decide (1<=z.length)&&decide (z.length<=2000)&&z.cps.toList.all dA)=true:=h;simp at h'
 lia
theorem yB:∀{zs:JP Str},(∀ z∈zs,Wd z)->qE (zs.map .str)
 |[],_=>trivial
 |z::zs,h=>⟨uK (h z (by simp)),yB λy J=>h y (by simp[J])⟩
theorem jM:∀{t:At},Gd t->md t.told
 |.word z,h=>⟨by show(4:Nat)<=5000;decide,uK (oW h),trivial⟩
 |.start z,h=>⟨by show(5:Nat)<=5000;decide,uK (oW h),trivial⟩
 |.row zs,h=>⟨by show(3:Nat)<=5000;decide,yB (λz m=>oW (h.2.2 z m)),trivial⟩
 |.near a b n,h=>⟨by show(4:Nat)<=5000;decide,jM h.2.2.1,jM h.2.2.2,trivial,trivial⟩
 |.both a b,h=>⟨by show(4:Nat)<=5000;decide,jM h.1,jM h.2,trivial⟩
 |.either a b,h=>⟨by show(6:Nat)<=5000;decide,jM h.1,jM h.2,trivial⟩
 |.no a,h=>⟨by show(3:Nat)<=5000;decide,jM h,trivial⟩
theorem Fx{z:Str}{k:Int}(h:Wm z)(h1:1<=k)(h2:k<=z.length):Wm (Txt.slice z none (some k)):=by
 have U:(z.cps.toList.length:Int)=z.length:=by simp[N3]
 have J:Txt.slice z none (some k)=_:=L7 ⟨by lia,by lia⟩
 have l:=Txt.slice_le z none (some k);refine⟨by have:=h.1;lia,sL _ _ h.2.1,?_⟩;rw[J,dv,Lr,KH]
 lia
theorem Ff:Wm "and":=⟨dkq,dkq,dkq⟩
theorem EU:Wm "or":=⟨dkq,dkq,dkq⟩
theorem Ho:Wm "not":=⟨dkq,dkq,dkq⟩
section
variable {P : Ka} {w : Ku} {K : J7} {mg : Str -> JW JT} {base : KP}
noncomputable def kK(H:Hp)(a:JR)(ws:JP Str):Prop:=H a=some (.lst (ws.map V.str))/\ws.length=5/\∀ z∈ws,Wm z
noncomputable def xO:TE:=λσ H Q=>∃(n:Int) (a:JR) (ws:JP Str) (o:JW V) (m:Nat),σ=[some (.int n),some (.ref a),o,some (.int ((m:Nat):Int))]/\kK H a ws/\2<=m/\m<=8/\
 ∀ x (zs:JP Str) H',bY H H'->zs.length=m->(∀ z∈zs,Wm z)->cD false H' x (.tuple [.str "row",.tuple (zs.map .str)])->Q x H'
noncomputable def zi:Sp:=λvs H Q _=>∃(n:Int) (a:JR) (ws:JP Str),vs=[.int n,.ref a]/\kK H a ws/\∀ x t H',bY H H'->cD false H' x t.told->gs t.kn=true->Gd t->Q x H'
theorem sR:da ["_law_number_here","_law_menu_here","_law_word","_law_size"] ["_law_number_here","_law_menu_here"] (cG kM):=⟨rfl,rfl,rfl,dkq,rfl,dkq,dkq⟩
theorem Hm:(["_law_k","_law_menu_here","_law_number_here"]:JP Str).Nodup:=dkq
theorem kK.at {H:Hp}{a:JR}{ws:JP Str}(h:kK H a ws){j:Nat}(hj:j<5):∃ z,Wm z/\(ws.map V.str)[j]? =some (.str z):=by
 have J:j<ws.length:=by rw[h.2.1];exact hj
 exact⟨ws[j],h.2.2 _ (M5 J),by rw[List.getElem?_map,List.getElem?_eq_getElem J];rfl⟩
seal cH PS PE PT PA PG PI cT cP in
theorem Gj{f fm:JR}{fd fdm:J2}(D:Df K mg "_law_plain" kM f fd)(DM:Df K mg "_law_mixed" ju fm fdm)(T:Txt mg):bX P w K mg base b7 2 f fd ["_law_number_here","_law_menu_here"] zi:=by
 have GM:bX P w K mg base b7 1 fm fdm ["_law_number_here","_law_k"] qP:=tM DM
 have bM:=DM.F.binds (ps:=["_law_number_here","_law_k"]) λ_ _ _ _ _ _ us hl=>eU (λ_ _=>rfl) us hl
 refine D.F.ok sR (λvs H Q E h=>?_) (λcdv A outer s H vs Q E hr h=>?_)
 ·obtain⟨n,a,ws,rfl,_⟩:=h;rfl
 ·obtain⟨n,a,ws,rfl,I,kk⟩:=h;have hl:(sizeLine:Nat)=16777216:=Kv;refine⟨_,b9 (cZ (i:=2) sR.nd rfl (Kh rfl) (cK fN (pv 1) (cA fI (cA iy (pv 0) bZ) bZ) (λ_ _=>rfl)))
   (b9 (uQ (cx cU (cA fI (cA iy (pv 0) bZ) bZ) bZ (cC _)) (b5 (cZ (i:=2) sR.nd rfl (Kh rfl) (cK fN (eZ (bU b8 (bU b8 (bU b8 bV)))) (cA fI (cA iy (pv 0) bZ) bZ) (λ_ _=>rfl)))) cX)
   (b9 (cM (cx cU (cA fI (pv 0) bZ) bZ (cC _)) (b5 (cy (dm (bU b8 (bU (pv 2) bV))))) cX)
   (b9 (cM (cx cU (cA fI (pv 0) bZ) bZ (cC _)) (b5 (cy (dm (bU b8 (bU (gP gM (pv 2) lT (fE (cA eD bZ (cA fI (cA iy (pv 0) bZ) (dE ia rfl T.len e8 (bU (pv 2) bV)))))) bV))))) cX)
   (b9 (cZ (i:=3) sR.nd rfl (Kh rfl) (cA eD bZ (cA fI (cA iy (pv 0) bZ) (cK fN (eZ (bU bZ (bU bZ bV))) (ie lV rfl T.int jJ (bU (ip cU (cA fI (cA iy (pv 0) bZ) bZ) bZ rfl) bV)) (λ_ _=>rfl)))))
   (b5 (cy (PE.imp (t':=xO) (dm (bU b8 (bU (ie sH rfl T.tuple oX (bU (jF (own:=1) (caps:=[1,0]) (N:=["_law_k","_law_menu_here","_law_number_here"])
     (N0:=["_law_number_here","_law_menu_here","_law_word","_law_size"]) (sc0:=cG kM) rfl (lF rfl T.range (bU (pv 3) bV)) (λ_ _ _=>eY (i:=0) Hm rfl (Kh rfl)) (λ_ _ _=>i9)
     (λ_ _ _=>cK (ET (K:=K) rfl) (pv 1) (cA fI (cQ GM hr rfl DM.m DM.F.kp bM .nil cz (bU (pv 2) (bU (cA eD bZ (pv 0)) bV))) bZ) (λ_ _=>rfl)) (iX (by decide)) rfl rfl
     dkq rfl dkq dkq rfl dkq) bV)) bV))) ?mR))))))),?_⟩
  rotate_left
  refine⟨_,rfl,_,rfl,_,_,rfl,rfl,⟨by decide,by decide⟩,_,_,rfl,rfl,(by show(0:Int)<5;decide),?_⟩;obtain⟨j,hj,ah⟩:=lM (r:=n/3) (n:=5) (by decide);obtain⟨z0,aa,ab⟩:=I.at (j:=j) (by lia);refine⟨a,_,_,.str z0,rfl,rfl,ck.of I.1,by rw[<-hj];exact cJ ab,?_⟩;refine⟨λaf H'=>bY H H'/\∃ z:Str,Wm z/\af=[some (.int n),some (.ref a),some (.str z),none],?_,?_⟩
  ·refine⟨_,rfl,_,_,rfl,rfl,⟨by decide,by decide⟩,_,_,rfl,rfl,(by show(0:Int)<6;decide),rfl,_,rfl,?_⟩;refine jd (λ_=>?_) (λ_=>⟨bY.refl H,z0,aa,rfl⟩);refine⟨fH,λp hp=>⟨_,rfl,_,_,rfl,rfl,⟨by decide,by decide⟩,_,_,rfl,rfl,(by show(0:Int)<3;decide),?_⟩⟩;obtain⟨i,hi,ai⟩:=lM (r:=n/90) (n:=3) (by decide);have sm:bY H (upd H p (.lst [.str "and",.str "or",.str "not"])):=cq hp
   match i,ai,hi with
   |0,_,hi=>exact⟨p,_,_,.str "and",rfl,rfl,ck.of b6,by rw[<-hi];exact cJ rfl,sm,"and",Ff,rfl⟩
   |1,_,hi=>exact⟨p,_,_,.str "or",rfl,rfl,ck.of b6,by rw[<-hi];exact cJ rfl,sm,"or",EU,rfl⟩
   |2,_,hi=>exact⟨p,_,_,.str "not",rfl,rfl,ck.of b6,by rw[<-hi];exact cJ rfl,sm,"not",Ho,rfl⟩
   |i+3,h,_=>lia
  ·rintro af H1 ⟨s1,z,U,rfl⟩;have ag:kK H1 a ws:=⟨s1 _ _ I.1,I.2⟩;refine⟨_,rfl,_,_,rfl,rfl,(by show(0:Int)<3;decide),rfl,_,rfl,?_⟩;refine jd (λ_=>?_) (λ_=>?_)
   ·exact⟨_,rfl,eK,λp hp=>kk _ (.word z) _ (s1.upf hp) (.tup b6 (.cons (.str _) (.cons (.str _) .nil))) rfl U⟩
   refine⟨_,rfl,_,_,rfl,rfl,(by show(0:Int)<3;decide),rfl,_,rfl,?_⟩;refine jd (λ_=>?_) (λ_=>?_)
   ·have z1:=U.2.2
    have aj:=U.1;refine⟨_,rfl,_,rfl,_,_,rfl,rfl,⟨by decide,by decide⟩,_,rfl,z,rfl,by lia,_,_,rfl,rfl,(by show(0:Int)<((z.length:Nat):Int);lia),_,_,rfl,rfl,_,rfl,z,rfl,by lia,eK,λp hp=>?_⟩;have e0:=LR (n/15) (show((z.length:Nat):Int)≠0 by lia);have e1:=Ly (n/15) (show(0:Int)<((z.length:Nat):Int) by lia);exact kk _ (.start _) _ (s1.upf hp) (.tup b6 (.cons (.str _) (.cons (.str _) .nil))) rfl (Fx U (by lia) (by lia))
   refine⟨_,rfl,_,_,rfl,rfl,⟨by decide,by decide⟩,eK,λp hp=>?_⟩;have s2:bY H1 (upd H1 p (.lst [.int 2,.int 7])):=cq hp;refine⟨_,rfl,_,_,rfl,rfl,⟨by decide,by decide⟩,_,_,rfl,rfl,(by show(0:Int)<4;decide),rfl,.inr ⟨_,rfl,?_⟩⟩;have fin:∀ k:Int,0<k->k<=7->∀ H2,bY H1 H2->xO [some (.int n),some (.ref a),some (.str z),some (.int (2+n/15%k))] H2 Q:=λk k0 k7 H2 s3=>by
    have e0:=LR (n/15) (show k≠0 by lia)
    have e1:=Ly (n/15) k0;obtain⟨m,hm⟩:=Int.eq_ofNat_of_zero_le (show 0<=2+n/15%k by lia);rw[hm];refine⟨n,a,ws,_,m,rfl,⟨s3 _ _ ag.1,ag.2⟩,by lia,by lia,λx zs H' s4 ae J hx=>?_⟩;exact kk x (.row zs) H' ((s1.trans s3).trans s4) hx rfl ⟨by lia,by lia,J⟩
   generalize decide (V.int (n/105%4)=V.int 1)=b;cases b with
   |false=>exact⟨p,_,0,.int 2,rfl,rfl,ck.of b6,cJ (j:=0) rfl,_,_,rfl,rfl,(by show(0:Int)<2;decide),_,_,rfl,rfl,fin 2 (by decide) (by decide) _ s2⟩
   |true=>exact⟨p,_,1,.int 7,rfl,rfl,ck.of b6,cJ (j:=1) rfl,_,_,rfl,rfl,(by show(0:Int)<7;decide),_,_,rfl,rfl,fin 7 (by decide) (by decide) _ s2⟩
  case mR=>
   rintro σ H Q ⟨n,a,ws,o,m,rfl,I,m2,m8,k⟩;refine⟨_,rfl,m,rfl,by lia,by lia,?_⟩;refine rW (λi ys H'=>H'=H/\∃ zs:JP Str,zs.length=i/\(∀ z∈zs,Wm z)/\ys=zs.map V.str) (by rw[hl];lia) ⟨rfl,[],rfl,λz U=>by simp at U,rfl⟩ ?_ ?_
   ·rintro i ys H' N hi ⟨rfl,zs,ae,J,rfl⟩ hN;have ak:i<m:=by lia
    refine g1 ?_;refine⟨_,rfl,_,rfl,_,rfl,_,_,rfl,rfl,_,_,rfl,by lia,by lia,λr r0 r1=>?_⟩;obtain⟨j,hj,ah⟩:=lM (r:=r) (n:=5) (by decide);obtain⟨z0,aa,ab⟩:=I.at (j:=j) (by lia);refine⟨_,_,rfl,rfl,(by show(0:Int)<5;decide),a,_,_,.str z0,rfl,rfl,ck.of I.1,by rw[<-hj];exact cJ ab,hN _ _ ⟨rfl,zs++[z0],by simp[ae],λz U=>?_,by rw[J5];rfl⟩⟩;rcases List.mem_append.mp U with q|q
    ·exact J z q
    ·have e:z=z0:=by simpa using q
     rw[e];exact aa
   ·rintro ys H' ⟨rfl,zs,ae,J,rfl⟩ _ p hp;refine⟨p,_,rfl,.inl ⟨ck.of b6,λq hq=>?_⟩⟩;refine⟨eK,λt ht=>?_⟩;exact k _ zs _ (((cq hp).upf hq).upf ht) (by lia) J (.tup b6 (.cons (.str _) (.cons (.tup (cq ht _ _ b6) (cV.strs zs)) .nil)))
end
noncomputable def SX(c:JR)(H H':Hp):Prop:=∀ b o,b≠c->H b=some o->H' b=some o
theorem Fh{H:Hp}{c:JR}{o:HO}:SX c H (upd H c o):=λb u hb e=>by rw[cF hb];exact e
theorem SX.same {c:JR}{H H1 H2:Hp}(s:SX c H H1)(t:bY H1 H2):SX c H H2:=λb o hb e=>t _ _ (s b o hb e)
theorem SX.trans {c:JR}{H H1 H2:Hp}(s:SX c H H1)(t:SX c H1 H2):SX c H H2:=λb o hb e=>t _ _ hb (s b o hb e)
theorem SX.base {c:JR}{B H H1:Hp}(s:SX c H H1)(t:bY B H)(n:B c=none):bY B H1:=λb o e=>s b o (dM e n) (t _ _ e)
theorem SX.keep {c:JR}{H H1:Hp}{xs:JP V}(s:SX c H H1)(h:H c=some (.lst xs)):g8 H H1:=
 ⟨λb C dx fs e=>s b _ (r9 e h (by intro z;cases z)) e,λb ys e=>s b _ (r9 e h (by intro z;cases z)) e⟩
theorem PT.imp {X:Cx}{e:KI}{t t':TT}(h:PT X e t)(i:∀ σ H Q,t' σ H Q->t σ H Q):PT X e t':=λpins s σ H Q I q=>h pins s σ H Q I (i σ H Q q)
theorem At.lf_many {t:At}(h:gs t.kn=true):t.many=1:=by cases t<;>first|rfl|cases h
section
variable {P : Ka} {w : Ku} {K : J7} {mg : Str -> JW JT} {base : KP}
noncomputable def sF(K:Kl)(n:Nat):Sp:=λvs H Q _=>∃(sc c U:JR) (ns:JP Int) (ws:JP Str) (a:Nat) (k:Int) (B:Hp),vs=[.ref sc,.ref c,.int k,.ref U]/\k=(n:Int)/\1<=n/\bY B H/\B c=none/\ck K B sc (ns.map V.int)/\ns.length<=63/\kK B U ws/\
 H c=some (.lst [.int ((a:Nat):Int)])/\a+2 ^ n<=900/\
 ∀ x t (J:Nat) H',SX c H H'->H' c=some (.lst [.int ((J:Nat):Int)])->cD false H' x t.told->Gd t->t.dep+1<=n->J+1<=a+2 ^ n->t.many+2*min a 16<=1+2*min J 16->Q x H'
noncomputable def spT(K:Kl):Nat->Sp
 |0=>λ_ _ _ _=>LG
 |n+1=>sF K n
noncomputable def Bl:TT:=λσ H Q=>∃(c:JR) (k a r:Int),σ[1]? =some (some (.ref c))/\σ[2]? =some (some (.int k))/\σ[4]? =some (some (.int r))/\H c=some (.lst [.int a])/\Q (decide (k<2\/16<a\/r%9<2)) H
theorem sy:da ["_law_script","_law_at","_law_deep","_law_menu_here","_law_number_here","_law_far","_law_one"] ["_law_script","_law_at","_law_deep","_law_menu_here"] (cG nZ):=⟨rfl,rfl,rfl,dkq,rfl,dkq,dkq⟩
seal cH PS PE PT PA PG PI cT cP in
theorem Aj{f fm fn fp:JR}{fd fdm fdn fdp:J2}(D:Df K mg "_law_tree" nZ f fd)(DM:Df K mg "_law_mixed" ju fm fdm)(DN:Df K mg "_law_number" mS fn fdn)(DP:Df K mg "_law_plain" kM fp fdp)(T:Txt mg)(n:Nat)
  (GT:bX P w K mg base b7 (n+2) f fd ["_law_script","_law_at","_law_deep","_law_menu_here"] (spT K n)):bX P w K mg base b7 (n+3) f fd ["_law_script","_law_at","_law_deep","_law_menu_here"] (sF K n):=by
 have GM:bX P w K mg base b7 (n+2) fm fdm ["_law_number_here","_law_k"] qP:=(tM DM).mono (by lia)
 have bM:=DM.F.binds (ps:=["_law_number_here","_law_k"]) λ_ _ _ _ _ _ us hl=>eU (λ_ _=>rfl) us hl
 have GN:bX P w K mg base b7 (n+2) fn fdn ["_law_script","_law_k"] (xh K):=(yx DN DM T).mono (by lia)
 have bN:=DN.F.binds (ps:=["_law_script","_law_k"]) λ_ _ _ _ _ _ us hl=>eU (λ_ _=>rfl) us hl
 have GP:bX P w K mg base b7 (n+2) fp fdp ["_law_number_here","_law_menu_here"] zi:=(Gj DP DM T).mono (by lia)
 have bP:=DP.F.binds (ps:=["_law_number_here","_law_menu_here"]) λ_ _ _ _ _ _ us hl=>eU (λ_ _=>rfl) us hl
 have bT:=D.F.binds (ps:=["_law_script","_law_at","_law_deep","_law_menu_here"]) λ_ _ _ _ _ _ us hl=>w5 (λ_ _ _ _=>rfl) us hl
 refine D.F.ok sy (λvs H Q E h=>?_) (λcdv A outer s H vs Q E hr h=>?_)
 ·obtain⟨sc,c,me,ns,ws,a,k,B,rfl,_⟩:=h;rfl
 ·obtain⟨sc,c,me,ns,ws,a,k,B,rfl,rfl,hn,sB,nB,hS,hlen,hM,hc,ha,kk⟩:=h;refine⟨_,b9 (vW (cA eD (cK fN (pv 1) bZ (λ_ _=>rfl)) bZ) (FT (pv 1) bZ set_list))
   (b9 (cZ (i:=4) sy.nd rfl (Kh rfl) (cQ GN hr rfl DN.m DN.F.kp bN .nil cz (bU (pv 0) (bU (cK fN (pv 1) bZ (λ_ _=>rfl)) bV))))
   (b9 (cM (PT.imp (t':=Bl) (PW.pt (gu (cx iS (pv 2) bZ (cC _)) (gu (cx iH (cK fN (pv 1) bZ (λ_ _=>rfl)) bZ (cC _)) (ig (cx iS (cA fI (pv 4) bZ) bZ (cC _)))))) ?mC)
    (b5 (cy (cQ GP hr rfl DP.m DP.F.kp bP .nil cz (bU (cA iy (pv 4) bZ) (bU (pv 3) bV))))) cX)
   (b9 (cM (cx cU (cA fI (pv 4) bZ) bZ (cC _))
    (b9 (cZ (i:=5) sy.nd rfl (Kh rfl) (cA fI (cA iy (pv 4) bZ) (cK fN (eZ (bU bZ (bU bZ bV))) (cA fI (cA iy (pv 4) bZ) bZ) (λ_ _=>rfl))))
    (b5 (cy (dm (bU b8 (bU (cQ GP hr rfl DP.m DP.F.kp bP .nil cz (bU (cA iy (pv 4) bZ) (bU (pv 3) bV)))
     (bU (cQ GP hr rfl DP.m DP.F.kp bP .nil cz (bU (cQ GM hr rfl DM.m DM.F.kp bM .nil cz (bU (pv 4) (bU bZ bV))) (bU (pv 3) bV))) (bU (pv 5) bV)))))))) cX)
   (b9 (cM (cx cU (cA fI (pv 4) bZ) bZ (cC _))
    (b5 (cy (dm (bU b8 (bU (cQ GT hr rfl D.m D.F.kp bT .nil cz (bU (pv 0) (bU (pv 1) (bU (cA qc (pv 2) bZ) (bU (pv 3) bV))))) bV))))) cX)
   (b9 (cZ (i:=6) sy.nd rfl (Kh rfl) (cQ GT hr rfl D.m D.F.kp bT .nil cz (bU (pv 0) (bU (pv 1) (bU (cA qc (pv 2) bZ) (bU (pv 3) bV))))))
   (b5 (cy (dm (bU (cK fN (eZ (bU b8 (bU b8 bV))) (cA fI (pv 4) bZ) (λ_ _=>rfl)) (bU (pv 6)
    (bU (cQ GT hr rfl D.m D.F.kp bT .nil cz (bU (pv 0) (bU (pv 1) (bU (cA qc (pv 2) bZ) (bU (pv 3) bV))))) bV))))))))))),?_⟩
  rotate_left
  ·have p2:1<=2 ^ n:=Nat.one_le_two_pow;refine⟨_,rfl,c,_,0,_,rfl,rfl,ck.of hc,cJ (j:=0) rfl,_,_,rfl,rfl,?_⟩;refine⟨_,rfl,c,_,_,0,rfl,rfl,hc,rfl,?_⟩;have x1:SX c H (upd H c (.lst [.int (((a+1:Nat)):Int)])):=Fh;have b1:=x1.base sB nB;refine⟨_,rfl,_,rfl,c,_,0,_,rfl,rfl,ck.of b6,cJ (j:=0) rfl,sc,ns,a+1,rfl,b1.seq hS,hlen,by lia,λr H2 r0 r1 s2=>?_⟩;have U:H2 c=some (.lst [.int (((a+1:Nat)):Int)]):=s2 _ _ b6;have x2:=x1.same s2;have b2:=x2.base sB nB;have menu:∀{H3:Hp},bY B H3->kK H3 me ws:=λs=>⟨s _ _ hM.1,hM.2⟩
   refine⟨c,_,_,r,rfl,rfl,rfl,U,?_⟩;by_cases cut:((n:Nat):Int)<2\/(16:Int)<((a+1:Nat):Int)\/r%9<2
   ·rw[JS cut];refine cg ⟨_,rfl,_,_,rfl,rfl,⟨by decide,by decide⟩,_,rfl,_,me,ws,rfl,menu b2,λx t H3 s3 hx lk gd=>?_⟩;have hd:=At.lf_dep lk;have hm:=At.lf_many lk;have pn:2<=2 ^ n:=by
     have:2 ^ 1<=2 ^ n:=LK (by decide) hn;simpa using this
    exact kk x t (a+1) H3 (x2.same s3) (s3 _ _ U) hx gd (by lia) (by lia) (by lia)
   rw[JQ cut];obtain⟨m,rfl⟩:∃ m,n=m+1:=⟨n-1,by lia⟩;have I:1<=m:=by lia
   have pe:2 ^ (m+1)=2 ^ m+2 ^ m:=by rw[Nat.pow_succ];lia
   have pm:2<=2 ^ m:=by
    have:2 ^ 1<=2 ^ m:=LK (by decide) I;simpa using this
   refine cj ⟨_,rfl,_,_,rfl,rfl,(by show(0:Int)<9;decide),rfl,_,rfl,?_⟩;refine jd (λ_=>?_) (λ_=>?_)
   ·refine⟨_,rfl,_,_,rfl,rfl,⟨by decide,by decide⟩,eK,λp hp=>⟨_,rfl,_,_,rfl,rfl,⟨by decide,by decide⟩,_,_,rfl,rfl,(by show(0:Int)<2;decide),?_⟩⟩;have s3:bY H2 (upd H2 p (.lst [.int 3,.int 21])):=cq hp;obtain⟨i,hi,ab⟩:=lM (r:=r/9) (n:=2) (by decide);obtain⟨q,hq,ai,eq⟩:∃ q:Int,0<q/\q<=21/\([V.int 3,V.int 21])[i]? =some (V.int q):=by
     match i,ab with
     |0,_=>exact⟨3,by decide,by decide,rfl⟩
     |1,_=>exact⟨21,by decide,by decide,rfl⟩
     |i+2,h=>lia
    refine⟨p,_,_,.int q,rfl,rfl,ck.of b6,by rw[<-hi];exact cJ eq,_,_,rfl,rfl,hq,?_⟩;have f0:=LR (r/18) (show q≠0 by lia);have f1:=Ly (r/18) hq;refine⟨_,rfl,_,_,rfl,rfl,⟨by decide,by decide⟩,_,rfl,_,me,ws,rfl,menu (b2.trans s3),λx1 t1 H4 s4 ae l1 g1=>?_⟩;refine⟨_,rfl,_,5,rfl,by decide,by decide,λr2 _ _=>⟨_,rfl,_,me,ws,rfl,menu ((b2.trans s3).trans s4),λaj t2 H5 s5 af l2 g2=>?_⟩⟩;refine⟨_,rfl,ik,λu J=>?_⟩;have d1:=At.lf_dep l1;have d2:=At.lf_dep l2;have m1:=At.lf_many l1;have m2:=At.lf_many l2;refine kk _ (.near t1 t2 (r/18%q)) (a+1) _ ((((x2.same s3).same s4).same s5).same (cq J)) (cq J _ _ (s5 _ _ (s4 _ _ (s3 _ _ U)))) ?_ ⟨⟨l1,l2⟩,⟨f0,by lia⟩,g1,g2⟩ (by show max t1.dep t2.dep+1+1<=m+1;lia) (by lia) (by show 1+(t1.many+t2.many)+2*min a 16<=1+2*min (a+1) 16;lia);exact .tup b6 (.cons (.str _) (.cons ((ae.same s5).same (cq J)) (.cons (af.same (cq J)) (.cons (.int _) .nil))))
   refine⟨_,rfl,_,_,rfl,rfl,(by show(0:Int)<9;decide),rfl,_,rfl,?_⟩;refine jd (λ_=>?_) (λ_=>?_)
   ·refine⟨_,rfl,_,rfl,_,rfl,_,_,rfl,rfl,_,rfl,sc,c,me,ns,ws,a+1,_,B,rfl,by lia,I,b2,nB,hS,hlen,hM,U,by lia,λx t a' H3 x3 aa hx gd hd h1 h2=>?_⟩;refine⟨eK,λu J=>?_⟩;exact kk _ (.no t) a' _ ((x2.trans x3).same (cq J)) (cq J _ _ aa) (.tup b6 (.cons (.str _) (.cons (hx.same (cq J)) .nil))) gd (by show t.dep+1+1<=m+1;lia) (by lia) (by show 1+t.many+2*min a 16<=1+2*min a' 16;lia)
   refine⟨_,rfl,_,rfl,_,rfl,_,_,rfl,rfl,_,rfl,sc,c,me,ns,ws,a+1,_,B,rfl,by lia,I,b2,nB,hS,hlen,hM,U,by lia,λx t a' H3 x3 aa hx gd hd h1 h2=>?_⟩;have b3:=x3.base b2 nB;refine⟨eK,λp hp=>⟨_,rfl,_,_,rfl,rfl,(by show(0:Int)<2;decide),?_⟩⟩;obtain⟨i,hi,ab⟩:=lM (r:=r) (n:=2) (by decide);obtain⟨nm,cc,c1,c2,c3,c4,eq⟩:∃(nm:Str) (cc:At->At->At),(∀ a b,(cc a b).told= .tuple [.str nm,a.told,b.told])/\(∀ a b,(cc a b).dep=max a.dep b.dep+1)/\(∀ a b,(cc a b).many=1+(a.many+b.many))/\(∀ a b,Gd a->Gd b->Gd (cc a b))/\([V.str "both",V.str "either"])[i]? =some (V.str nm):=by
    match i,ab with
    |0,_=>exact⟨"both",.both,λ_ _=>rfl,λ_ _=>rfl,λ_ _=>rfl,λ_ _ h1 h2=>⟨h1,h2⟩,rfl⟩
    |1,_=>exact⟨"either",.either,λ_ _=>rfl,λ_ _=>rfl,λ_ _=>rfl,λ_ _ h1 h2=>⟨h1,h2⟩,rfl⟩
    |i+2,h=>lia
   have s4:bY H3 (upd H3 p (.lst [.str "both",.str "either"])):=cq hp;refine⟨p,_,_,.str nm,rfl,rfl,ck.of b6,by rw[<-hi];exact cJ eq,_,rfl,?_⟩;refine⟨_,rfl,_,rfl,_,rfl,_,_,rfl,rfl,_,rfl,sc,c,me,ns,ws,a',_,B,rfl,by lia,I,b3.trans s4,nB,hS,hlen,hM,s4 _ _ aa,by lia,λy t2 a2 H5 x5 ag hy ah hd2 h3 h4=>?_⟩;refine⟨fH,λu J=>?_⟩;have ky:cD false (upd H5 u (.tup [.str nm,x,y])) x t.told:=((hx.same s4).keep (x5.keep (s4 _ _ aa))).same (cq J);exact kk _ (cc t t2) a2 _ ((((x2.trans x3).same s4).trans x5).same (cq J)) (cq J _ _ ag) (by rw[c1];exact .tup b6 (.cons (.str _) (.cons ky (.cons (hy.same (cq J)) .nil)))) (c4 _ _ gd ah) (by rw[c2];lia) (by lia) (by rw[c3];lia)
  case mC=>
   rintro σ H Q ⟨c,k,a,r,e1,e2,e4,hc,q⟩;refine⟨_,e2,_,_,rfl,rfl,_,rfl,?_⟩;by_cases h1:k<2
   ·rw[JS h1];rw[JS (.inl h1)] at q;exact cg q
   ·rw[JQ h1];refine cj ⟨_,e1,c,_,0,_,rfl,rfl,ck.of hc,cJ (j:=0) rfl,_,_,rfl,rfl,_,rfl,?_⟩;by_cases h2:16<a
    ·rw[JS h2];rw[JS (.inr (.inl h2))] at q;exact cg q
    ·rw[JQ h2];refine cj ⟨_,e4,_,_,rfl,rfl,(by show(0:Int)<9;decide),_,_,rfl,rfl,_,rfl,?_⟩;have:decide (k<2\/16<a\/r%9<2)=decide (r%9<2):=by simp[h1,h2]
     rw[this] at q;exact q
theorem y7{f fm fn fp:JR}{fd fdm fdn fdp:J2}(D:Df K mg "_law_tree" nZ f fd)(DM:Df K mg "_law_mixed" ju fm fdm)(DN:Df K mg "_law_number" mS fn fdn)(DP:Df K mg "_law_plain" kM fp fdp)(T:Txt mg):
  ∀ n:Nat,bX P w K mg base b7 (n+3) f fd ["_law_script","_law_at","_law_deep","_law_menu_here"] (sF K n)
 |0=>Aj D DM DN DP T 0 tH
 |n+1=>Aj D DM DN DP T (n+1) (y7 D DM DN DP T n)
end
noncomputable def At.rest:At->JP Kf
 |.word z=>[.str z]|.start z=>[.str z]|.row zs=>[.tuple (zs.map .str)]|.near a b n=>[a.told,b.told,.int n]|.both a b=>[a.told,b.told]|.either a b=>[a.told,b.told]|.no a=>[a.told]
theorem At.told_eq (t:At):t.told= .tuple (.str t.nm::t.rest):=by cases t<;>rfl
theorem cD.t0 {l:KS}{H:Hp}{x:V}{z:Str}{ds:JP Kf}(h:cD l H x (.tuple (.str z::ds))):∃ p xs,x= .ref p/\H p=some (.tup (.str z::xs))/\cV l H xs ds:=by
 cases h with
 |tup ha J=>cases J with
  |cons h0 J=>cases h0 with
   |str _=>exact⟨_,_,rfl,ha,J⟩
theorem Fl{b:KS}{A B:Prop}(h:b=false)(q:B):if b=true then A else B:=by rw[h];exact cj q
theorem Jj{b:KS}{A B:Prop}(h:b=true)(q:A):if b=true then A else B:=by rw[h];exact cg q
theorem cV.one {l:KS}{H:Hp}{xs:JP V}{a:Kf}(h:cV l H xs [a]):∃ x,xs=[x]/\cD l H x a:=by
 cases h with
 |cons h0 J=>cases J with
  |nil=>exact⟨_,rfl,h0⟩
noncomputable def At.isTwo:At->KS
 |.near _ _ _=>true|.both _ _=>true|.either _ _=>true|_=>false
theorem IL(t:At):e7 (.str t.nm) [.str "both",.str "either",.str "near"]=t.isTwo:=by
 cases t with
 |word z=>exact(show e7 (V.str "word") [.str "both",.str "either",.str "near"]=false from dkq)
 |start z=>exact(show e7 (V.str "start") [.str "both",.str "either",.str "near"]=false from dkq)
 |row z=>exact(show e7 (V.str "row") [.str "both",.str "either",.str "near"]=false from dkq)
 |near a b n=>exact(show e7 (V.str "near") [.str "both",.str "either",.str "near"]=true from dkq)
 |both a b=>exact(show e7 (V.str "both") [.str "both",.str "either",.str "near"]=true from dkq)
 |either a b=>exact(show e7 (V.str "either") [.str "both",.str "either",.str "near"]=true from dkq)
 |no a=>exact(show e7 (V.str "not") [.str "both",.str "either",.str "near"]=false from dkq)
section
variable {P : Ka} {w : Ku} {K : J7} {mg : Str -> JW JT} {base : KP}
noncomputable def sU:Sp:=λvs H Q _=>∃(x:V) (t:At),vs=[x]/\cD false H x t.told/\∀ l xs H',bY H H'->H l=none->H' l=some (.lst xs)->cV false H' xs (t.kids.map At.told)->Q (.ref l) H'
theorem FR:da ["_law_told"] ["_law_told"] (cG kQ):=⟨rfl,rfl,rfl,dkq,rfl,dkq,dkq⟩
seal cH PS PE PT PA PG PI cT cP in
theorem wK{f:JR}{fd:J2}(D:Df K mg "_law_kids" kQ f fd):bX P w K mg base b7 1 f fd ["_law_told"] sU:=by
 refine D.F.ok FR (λvs H Q E h=>?_) (λcdv A outer s H vs Q E hr h=>?_)
 ·obtain⟨x,t,rfl,_⟩:=h;rfl
 ·obtain⟨x,t,rfl,hp,k⟩:=h;refine⟨_,b9 (cM (cx kE (cK dS (pv 0) bZ (λ_ _=>rfl)) (dm (bU b8 (bU b8 (bU b8 bV)))) (by with_unfolding_all rfl)) (b5 (cy (eZ (bU (cK dS (pv 0) bZ (λ_ _=>rfl)) (bU (cK dS (pv 0) bZ (λ_ _=>rfl)) bV))))) cX)
   (b5 (cy (i6 (cx cU (cK dS (pv 0) bZ (λ_ _=>rfl)) b8 (cC _)) (eZ (bU (cK dS (pv 0) bZ (λ_ _=>rfl)) bV)) (eZ bV)))),?_⟩;obtain⟨p,xs,rfl,ha,hs⟩:=(t.told_eq ▸ hp).t0;refine⟨_,rfl,p,_,0,_,rfl,rfl,cu.of ha,cJ (j:=0) rfl,fH,λq hq=>⟨q,_,rfl,.inr (cu.of b6),rfl,rfl,_,rfl,?_⟩⟩;have s1:bY H (upd H q (.tup [.str "both",.str "either",.str "near"])):=cq hq;have e:=IL t;have U:=s1 _ _ ha;have two:∀ a b,t.rest.take 2=[a,b]->t.kids.map At.told=[a,b]->∃ I x2,xs[0]? =some I/\xs[1]? =some x2/\cV false H [I,x2] (t.kids.map At.told):=λa b e1 e2=>by
   have h2:∀{xs:JP V} {ds:JP Kf},cV false H xs ds->ds.take 2=[a,b]->∃ I x2,xs[0]? =some I/\xs[1]? =some x2/\cV false H [I,x2] [a,b]:=λhs e=>by
    cases hs with
    |nil=>simp at e
    |cons h0 hs=>cases hs with
     |nil=>simp at e
     |cons h1 hs=>
      simp at e;obtain⟨rfl,rfl⟩:=e;exact⟨_,_,rfl,rfl,.cons h0 (.cons h1 .nil)⟩
   rw[e2];exact h2 hs e1
  have ht:t.isTwo=true->∃ a b,t.rest.take 2=[a,b]/\t.kids.map At.told=[a,b]:=λh=>by
   cases t with
   |near a b n=>exact⟨_,_,rfl,rfl⟩
   |both a b=>exact⟨_,_,rfl,rfl⟩
   |either a b=>exact⟨_,_,rfl,rfl⟩
   |word z=>cases h
   |start z=>cases h
   |row z=>cases h
   |no a=>cases h
  cases hq2:t.isTwo with
  |true=>
   obtain⟨a,b,e1,e2⟩:=ht hq2;obtain⟨I,x2,g1,g2,hk⟩:=two a b e1 e2;exact Jj (b:=e7 (.str t.nm) [.str "both",.str "either",.str "near"]) (e.trans hq2)
    ⟨_,rfl,p,_,1,I,rfl,rfl,cu.of U,cJ (j:=1) (by simpa using g1),_,rfl,p,_,2,x2,rfl,rfl,cu.of U,cJ (j:=2) (by simpa using g2),eK,λl J=>k l _ _ (s1.upf J) (bY.free s1 J) b6 (cV.same (s1.upf J) hk)⟩
  |false=>
  refine Fl (b:=e7 (.str t.nm) [.str "both",.str "either",.str "near"]) (e.trans hq2) ?_;cases t with
  |near a b n=>cases hq2
  |both a b=>cases hq2
  |either a b=>cases hq2
  |no a=>
   obtain⟨I,rfl,h1⟩:=cV.one hs;exact⟨_,rfl,p,_,0,_,rfl,rfl,cu.of U,cJ (j:=0) rfl,rfl,_,rfl,mY rfl ⟨_,rfl,p,_,1,I,rfl,rfl,cu.of U,cJ (j:=1) rfl,eh,λl J=>k l _ _ (s1.upf J) (bY.free s1 J) b6 (cV.same (s1.upf J) (.cons h1 .nil))⟩⟩
  |word z=>exact⟨_,rfl,p,_,0,_,rfl,rfl,cu.of U,cJ (j:=0) rfl,rfl,_,rfl,fP (a:="word") dkq ⟨oU,λl J=>k l _ _ (s1.upf J) (bY.free s1 J) b6 .nil⟩⟩
  |start z=>exact⟨_,rfl,p,_,0,_,rfl,rfl,cu.of U,cJ (j:=0) rfl,rfl,_,rfl,fP (a:="start") dkq ⟨oU,λl J=>k l _ _ (s1.upf J) (bY.free s1 J) b6 .nil⟩⟩
  |row z=>exact⟨_,rfl,p,_,0,_,rfl,rfl,cu.of U,cJ (j:=0) rfl,rfl,_,rfl,fP (a:="row") dkq ⟨oU,λl J=>k l _ _ (s1.upf J) (bY.free s1 J) b6 .nil⟩⟩
end
end K13
namespace L2
open PySem PySem.Spec PyProof.Rows
theorem Fu{X:Cx}:jC X "str.join" (λx xs H Q=>∃ z p ys,x= .str z/\xs=[.ref p]/\cu X.K H p (ys.map V.str)/\(ys.map (·.length)).sum+ys.length*z.length<=16777216/\Q (.str (Txt.join z ys)) H):=by
 intro pins s σ H x xs v us Q I J rs h;obtain⟨z,p,ys,rfl,rfl,U,hz,q⟩:=h;obtain⟨t,rfl⟩:=J;obtain⟨u,rfl,r1⟩:=vals1 rs;cases r1;obtain⟨aa,r,pl,_⟩:=I.tuple U;exact join_tuple pl (by simpa using qZ r) hz λt' k=>⟨.str _,H,I.tok _,⟨_,rfl⟩,q⟩
end L2
namespace K13
open PySem L2 PyProof.Rows PySem.Spec Gn K01
noncomputable def fZ(i:Kn):K0:=inClass (uW i) 2
noncomputable def iB:Kn->Str
 |.w=>"Word.written" |.s=>"Start.written" |.r=>"Row.written" |.n=>"Near.written" |.b=>"Both.written" |.e=>"Either.written" |.o=>"Not.written"
noncomputable def gU:JP V:=[.str "and",.str "or",.str "not"]
noncomputable def isJ(z:Str):KS:=e7 (.str z) gU
noncomputable def eL(c:KS)(l:JP Nat):JP Nat:=if c then 40::(l++[41]) else l
noncomputable def eI:Kn->KS
 |.e=>true|_=>false
noncomputable def eG:Kn->KS
 |.e=>true|.b=>true|_=>false
noncomputable def dF(n:Int):JP Nat:=codes (JO (toString n))
noncomputable def At.lin:At->JP Nat
 |.word z=>if isJ z then 34::(codes z++[34]) else codes z
 |.start z=>codes z++[42]
 |.row zs=>34::(codes (Txt.join " " zs)++[34])
 |.near a b n=>a.lin++([32,126]++(dF n++(32::b.lin)))
 |.both a b=>eL (eI a.kn) a.lin++([32,97,110,100,32]++eL (eG b.kn) b.lin)
 |.either a b=>a.lin++([32,111,114,32]++eL (eI b.kn) b.lin)
 |.no a=>[110,111,116,32]++eL (eG a.kn) a.lin
theorem lK(c:KS)(l:JP Nat):l.length<=(eL c l).length/\(eL c l).length<=l.length+2:=by
 cases c with
 |false=>exact⟨JY _,Nat.le_add_right _ _⟩
 |true=>show _<=(40::(l++[41])).length/\(40::(l++[41])).length<=_;rw[JV,JU];exact⟨by lia,by show _+1+1<=_;lia⟩
noncomputable def Fits:At->Prop
 |.row zs=>(zs.map (·.length)).sum+zs.length*1<=16777216
 |.near a b n=>Fits a/\Fits b/\n.natAbs.log2<1920
 |.both a b=>Fits a/\Fits b
 |.either a b=>Fits a/\Fits b
 |.no a=>Fits a
 |_=>O3
theorem jk:lN "written":=by unfold lN;decide +kernel
section
variable {P : Ka} {w : Ku} {K : J7} {mg : Str -> JW JT} {base : KP} {C f : Kn -> JR} {fd : Kn -> J2}
noncomputable def gp(C:Kn->JR)(n:Nat)(i:Kn):Sp:=λvs H Q _=>∃(a:JR) (t:At),vs=[.ref a]/\d0 C H a t/\t.dep<=n/\t.kn=i/\Fits t/\t.lin.length<=10000/\∀ H',bY H H'->Q (.str ⟨t.lin.toArray⟩) H'
noncomputable def ka(C:Kn->JR)(n:Nat):Sp:=λvs H Q _=>∃(a:JR) (t:At),vs=[.ref a]/\d0 C H a t/\t.dep<=n/\Fits t/\t.lin.length<=10000/\∀ H',bY H H'->Q (.str ⟨(40::(t.lin++[41])).toArray⟩) H'
theorem jm(M:Mt K C "written" iB fZ f fd)(i:Kn):Binds K (fd i) ["self"] []:=by
 cases i<;>exact(M.F _).binds (ps:=["self"]) λ_ _ _ _ _ _ us J=>iE (λ_=>rfl) us J
theorem sj(i:Kn)(h:i≠ .b)(h2:i≠ .e)(h3:i≠ .o):da ["self"] ["self"] (cG (fZ i)):=by
 cases i<;>first|exact absurd rfl h|exact absurd rfl h2|exact absurd rfl h3|exact⟨rfl,rfl,rfl,dkq,rfl,dkq,dkq⟩
theorem wL:da ["self","one","other"] ["self"] (cG (fZ .b)):=⟨rfl,rfl,rfl,dkq,rfl,dkq,dkq⟩
theorem ya:da ["self","other"] ["self"] (cG (fZ .e)):=⟨rfl,rfl,rfl,dkq,rfl,dkq,dkq⟩
theorem yN:da ["self","one"] ["self"] (cG (fZ .o)):=⟨rfl,rfl,rfl,dkq,rfl,dkq,dkq⟩
theorem BL:da ["ask"] ["ask"] (cG iG):=⟨rfl,rfl,rfl,dkq,rfl,dkq,dkq⟩
theorem dC{n:Nat}(h:n<=30000):n<=sizeLine:=by rw[Kv];lia
seal cH PS PE PT PA PG PI cT cP in
theorem HJ{g:JR}{gd:J2}{n L:Nat}(D:Df K mg "in_brackets" iG g gd)(Cl:Cs K C)(M:Mt K C "written" iB fZ f fd)(IH:∀ i,bX P w K mg base b7 L (f i) (fd i) ["self"] (gp C n i)):bX P w K mg base b7 (L+1) g gd ["ask"] (ka C n):=by
 refine D.F.ok BL (λvs H Q E h=>?_) (λcdv A outer s H vs Q E I h=>?_)
 ·obtain⟨a,t,rfl,_⟩:=h;rfl
 ·obtain⟨a,t,rfl,J,hd,hf,hl,k⟩:=h;refine⟨_,b5 (cy (cA gh (cA gh b8 (gc (pv 0) Cl.cl M.M IH I (jm M) cz)) b8)),?_⟩;obtain⟨dp,fp,ep,lp⟩:=J.ob;refine⟨_,rfl,t.kn,a,dp,fp,rfl,ep,lp _ jk,a,t,rfl,J,hd,rfl,hf,hl,λH1 s1=>?_⟩;have U:(JO "("++⟨t.lin.toArray⟩:Str)=⟨(40::t.lin).toArray⟩:=fO [40] t.lin;have e2:(⟨(40::t.lin).toArray⟩++JO ")":Str)=⟨(40::(t.lin++[41])).toArray⟩:=fO (40::t.lin) [41];refine⟨_,_,rfl,rfl,dC (by show 1+(⟨t.lin.toArray⟩:Str).length<=_;rw[dv];lia),?_⟩;refine⟨_,_,rfl,rfl,dC (by show(JO "("++⟨t.lin.toArray⟩:Str).length+1<=_;rw[U,dv];simp;lia),?_⟩;show Q (V.str (JO "("++⟨t.lin.toArray⟩++JO ")")) H1;rw[U,e2];exact k H1 s1
noncomputable def tW(K:Kl)(C:Kn->JR)(n:Nat)(fld:Str)(kf:Kn->KS):TE:=λσ H Q=>∃(a J p dx:JR) (fs:JP (Str×V)) (t:At),σ[0]? =some (some (.ref a))/\H a=some (.ins J dx fs)/\gA K J/\gm K J fld/\fs.lookup fld=some (.ref p)/\d0 C H p t/\t.dep<=n/\Fits t/\t.lin.length<=10000/\∀ H',bY H H'->Q (.str ⟨(eL (kf t.kn) t.lin).toArray⟩) H'
seal cH PS PE PT PA PG PI cT cP in
theorem BV{g j:JR}{gd:J2}(Cl:Cs K C)(M:Mt K C "written" iB fZ f fd)(DB:Df K mg "in_brackets" iG g gd)(N:Nm mg C)(hJ:mg "JOINING"=some (.ref j))(kJ:∀ H,cu K H j gU)(hE:∀ i,Lw K (.ref (C i)) (.ref (C .e))=some (eI i))(hBE:∀ i,Lm K (.ref (C i)) ([C .b,C .e].map Ky)=some (eG i))(T:Txt mg)
  (n:Nat)(IH:0<n->∀ i,bX P w K mg base b7 (2*n) (f i) (fd i) ["self"] (gp C (n-1) i))(IB:0<n->bX P w K mg base b7 (2*n) g gd ["ask"] (ka C (n-1))):
  bX P w K mg base b7 (2*n+1) (f .w) (fd .w) ["self"] (gp C n .w):=by
 have bB:=dY (p:="ask") DB.F λ_ _ _ _ _ _ _=>rfl
 refine(M.F .w).ok (sj .w (by decide) (by decide) (by decide)) (λvs H Q E h=>?_) (λcdv A outer s H vs Q E hr h=>?_)
 ·obtain⟨a,t,rfl,_⟩:=h;rfl
 ·obtain⟨a,t,rfl,hA,hd,hk,hf,hl,k⟩:=h;cases t with
  |word z=>
   obtain⟨dx,I⟩:=hA;refine⟨_,b5 (cy (i6 (cx kE (df (pv 0) rfl) (fK (v:= .ref j) rfl hJ rfl) rfl) (cA gh (cA gh b8 (df (pv 0) rfl)) b8) (df (pv 0) rfl))),?_⟩;refine⟨_,rfl,a,C .w,dx,_,_,rfl,I,Cl.cl _,Cl.nW _,nN z,j,gU,rfl,.inr (kJ _),rfl,rfl,_,rfl,?_⟩;have J:(if isJ z=true then 34::(codes z++[34]) else codes z).length<=10000:=hl;have U:∀ H',bY H H'->Q (.str ⟨(if isJ z=true then 34::(codes z++[34]) else codes z).toArray⟩) H':=k;refine jd (λhb=>?_) (λhb=>?_)
   ·have hj:isJ z=true:=hb;rw[hj] at J U;have hz:(codes z).length<=10000:=by
     have:(34::(codes z++[34])).length<=10000:=J;rw[JV,JU] at this
     lia
    have zl:z.length=(codes z).length:=(str_len z).symm
    have e1:(JO "\""++z:Str)=⟨(34::codes z).toArray⟩:=by
     have:=fO [34] (codes z);rw[toStr] at this;exact this
    have e2:(⟨(34::codes z).toArray⟩++JO "\"":Str)=⟨(34::(codes z++[34])).toArray⟩:=fO (34::codes z) [34];refine⟨_,rfl,a,C .w,dx,_,_,rfl,I,Cl.cl _,Cl.nW _,nN z,_,_,rfl,rfl,dC (by show 1+z.length<=_;lia),_,_,rfl,rfl,dC (by show(JO "\""++z:Str).length+1<=_;rw[e1,dv];show _+1+1<=_;lia),?_⟩;show Q (V.str (JO "\""++z++JO "\"")) H;rw[e1,e2];exact U H (bY.refl _)
   ·have hj:isJ z=false:=Bool.eq_false_iff.mpr hb;rw[hj] at U;have k2:=U H (bY.refl _);have k3:Q (.str ⟨(codes z).toArray⟩) H:=k2;rw[toStr] at k3;exact⟨_,rfl,a,C .w,dx,_,_,rfl,I,Cl.cl _,Cl.nW _,nN z,k3⟩
  |_=>cases hk
seal cH PS PE PT PA PG PI cT cP in
theorem Dw{g j:JR}{gd:J2}(Cl:Cs K C)(M:Mt K C "written" iB fZ f fd)(DB:Df K mg "in_brackets" iG g gd)(N:Nm mg C)(hJ:mg "JOINING"=some (.ref j))(kJ:∀ H,cu K H j gU)(hE:∀ i,Lw K (.ref (C i)) (.ref (C .e))=some (eI i))(hBE:∀ i,Lm K (.ref (C i)) ([C .b,C .e].map Ky)=some (eG i))(T:Txt mg)
  (n:Nat)(IH:0<n->∀ i,bX P w K mg base b7 (2*n) (f i) (fd i) ["self"] (gp C (n-1) i))(IB:0<n->bX P w K mg base b7 (2*n) g gd ["ask"] (ka C (n-1))):
  bX P w K mg base b7 (2*n+1) (f .s) (fd .s) ["self"] (gp C n .s):=by
 have bB:=dY (p:="ask") DB.F λ_ _ _ _ _ _ _=>rfl
 refine(M.F .s).ok (sj .s (by decide) (by decide) (by decide)) (λvs H Q E h=>?_) (λcdv A outer s H vs Q E hr h=>?_)
 ·obtain⟨a,t,rfl,_⟩:=h;rfl
 ·obtain⟨a,t,rfl,U,hd,hk,hf,I,k⟩:=h;cases t with
  |start z=>
   obtain⟨dx,hx⟩:=U;refine⟨_,b5 (cy (cA gh (df (pv 0) rfl) b8)),?_⟩;have J:(codes z++[42]).length<=10000:=I;rw[JU] at J;have zl:z.length=(codes z).length:=(str_len z).symm;have e1:(z++JO "*":Str)=⟨(codes z++[42]).toArray⟩:=by
    have:=fO (codes z) [42];rw[toStr] at this;exact this
   refine⟨_,rfl,a,C .s,dx,_,_,rfl,hx,Cl.cl _,Cl.nW _,nN z,_,_,rfl,rfl,dC (by show z.length+1<=_;lia),?_⟩;show Q (V.str (z++JO "*")) H;rw[e1];exact k H (bY.refl _)
  |_=>cases hk
seal cH PS PE PT PA PG PI cT cP in
theorem C1{g j:JR}{gd:J2}(Cl:Cs K C)(M:Mt K C "written" iB fZ f fd)(DB:Df K mg "in_brackets" iG g gd)(N:Nm mg C)(hJ:mg "JOINING"=some (.ref j))(kJ:∀ H,cu K H j gU)(hE:∀ i,Lw K (.ref (C i)) (.ref (C .e))=some (eI i))(hBE:∀ i,Lm K (.ref (C i)) ([C .b,C .e].map Ky)=some (eG i))(T:Txt mg)
  (n:Nat)(IH:0<n->∀ i,bX P w K mg base b7 (2*n) (f i) (fd i) ["self"] (gp C (n-1) i))(IB:0<n->bX P w K mg base b7 (2*n) g gd ["ask"] (ka C (n-1))):
  bX P w K mg base b7 (2*n+1) (f .r) (fd .r) ["self"] (gp C n .r):=by
 have bB:=dY (p:="ask") DB.F λ_ _ _ _ _ _ _=>rfl
 refine(M.F .r).ok (sj .r (by decide) (by decide) (by decide)) (λvs H Q E h=>?_) (λcdv A outer s H vs Q E hr h=>?_)
 ·obtain⟨a,t,rfl,_⟩:=h;rfl
 ·obtain⟨a,t,rfl,I,hd,hk,hf,hl,k⟩:=h;cases t with
  |row zs=>
   obtain⟨dx,q,hx,hq⟩:=I;refine⟨_,b5 (cy (cA gh (cA gh b8 (f7 LA OL OM Fu b8 (bU (df (pv 0) rfl) bV))) b8)),?_⟩;have J:(34::(codes (Txt.join " " zs)++[34])).length<=10000:=hl;rw[JV,JU] at J;have zl:(Txt.join " " zs).length=(codes (Txt.join " " zs)).length:=(str_len _).symm;have U:(JO "\""++Txt.join " " zs:Str)=⟨(34::codes (Txt.join " " zs)).toArray⟩:=by
    have:=fO [34] (codes (Txt.join " " zs));rw[toStr] at this;exact this
   have e2:(⟨(34::codes (Txt.join " " zs)).toArray⟩++JO "\"":Str)=⟨(34::(codes (Txt.join " " zs)++[34])).toArray⟩:=fO (34::codes (Txt.join " " zs)) [34];refine⟨rfl,_,rfl,a,C .r,dx,_,_,rfl,hx,Cl.cl _,Cl.nR _,xK q,_,q,zs,rfl,rfl,cu.of hq,hf,_,_,rfl,rfl,dC (by show 1+(Txt.join " " zs).length<=_;lia),_,_,rfl,rfl,dC (by show(JO "\""++Txt.join " " zs:Str).length+1<=_;rw[U,dv];show _+1+1<=_;lia),?_⟩;show Q (V.str (JO "\""++Txt.join " " zs++JO "\"")) H;rw[U,e2];exact k H (bY.refl _)
  |_=>cases hk
seal cH PS PE PT PA PG PI cT cP in
theorem By{g j:JR}{gd:J2}(Cl:Cs K C)(M:Mt K C "written" iB fZ f fd)(DB:Df K mg "in_brackets" iG g gd)(N:Nm mg C)(hJ:mg "JOINING"=some (.ref j))(kJ:∀ H,cu K H j gU)(hE:∀ i,Lw K (.ref (C i)) (.ref (C .e))=some (eI i))(hBE:∀ i,Lm K (.ref (C i)) ([C .b,C .e].map Ky)=some (eG i))(T:Txt mg)
  (n:Nat)(IH:0<n->∀ i,bX P w K mg base b7 (2*n) (f i) (fd i) ["self"] (gp C (n-1) i))(IB:0<n->bX P w K mg base b7 (2*n) g gd ["ask"] (ka C (n-1))):
  bX P w K mg base b7 (2*n+1) (f .n) (fd .n) ["self"] (gp C n .n):=by
 have bB:=dY (p:="ask") DB.F λ_ _ _ _ _ _ _=>rfl
 refine(M.F .n).ok (sj .n (by decide) (by decide) (by decide)) (λvs H Q E h=>?_) (λcdv A outer s H vs Q E hr h=>?_)
 ·obtain⟨a,t,rfl,_⟩:=h;rfl
 ·obtain⟨a,t,rfl,hA,hd,hk,hf,hl,k⟩:=h;cases t with
  |near x y m=>
   obtain⟨dx,p,q,U,hp,hq⟩:=hA;obtain⟨fx,fy,fm⟩:=hf;have aa:max x.dep y.dep+1<=n:=hd;have hn:0<n:=by lia
   have I:(x.lin++([32,126]++(dF m++(32::y.lin)))).length<=10000:=hl;simp only[JU,JV,Mc] at I;have l2:([32,126]:JP Nat).length=2:=rfl;refine⟨_,b5 (cy (cA gh (cA gh (cA gh (cA gh (gc (df (pv 0) rfl) Cl.cl M.M (IH hn) hr (jm M) cz) b8) (ie vv rfl T.str nj (bU (df (pv 0) rfl) bV))) b8) (gc (df (pv 0) rfl) Cl.cl M.M (IH hn) hr (jm M) cz))),?_⟩;obtain⟨dp,fp,ep,lp⟩:=hp.ob;have J:(⟨x.lin.toArray⟩++JO " ~":Str)=⟨(x.lin++[32,126]).toArray⟩:=fO x.lin [32,126];have e2:(⟨(x.lin++[32,126]).toArray⟩++JO (toString m):Str)=⟨(x.lin++[32,126]++dF m).toArray⟩:=by
    have:=fO (x.lin++[32,126]) (dF m);rw[show(⟨(dF m).toArray⟩:Str)=JO (toString m) from toStr _] at this;exact this
   have e3:(⟨(x.lin++[32,126]++dF m).toArray⟩++JO " ":Str)=⟨(x.lin++[32,126]++dF m++[32]).toArray⟩:=fO _ [32]
   have e4:(⟨(x.lin++[32,126]++dF m++[32]).toArray⟩++⟨y.lin.toArray⟩:Str)=⟨(x.lin++([32,126]++(dF m++(32::y.lin)))).toArray⟩:=by
    rw[fO];simp
   have ml:(JO (toString m)).length=(dF m).length:=(str_len _).symm;refine⟨_,rfl,a,C .n,dx,_,_,rfl,U,Cl.cl _,Cl.n1 _,w9 p q m,x.kn,p,dp,fp,rfl,ep,lp _ jk,p,x,rfl,hp,by lia,rfl,fx,by lia,λH1 s1=>?_⟩;refine⟨_,_,rfl,rfl,dC (by show(⟨x.lin.toArray⟩:Str).length+2<=_;rw[dv];lia),_,rfl,a,C .n,dx,_,_,rfl,s1 _ _ U,Cl.cl _,Cl.n3 _,Bi p q m,m,rfl,fm,_,_,rfl,rfl,dC (by show(⟨x.lin.toArray⟩++JO " ~":Str).length+(JO (toString m)).length<=_;rw[J,dv,ml,JU];lia),_,_,rfl,rfl,dC (by show(⟨x.lin.toArray⟩++JO " ~"++JO (toString m):Str).length+1<=_;rw[J,e2,dv,JU,JU];lia),?_⟩;obtain⟨dq,fq,eq,lq⟩:=(hq.same s1).ob;refine⟨_,rfl,a,C .n,dx,_,_,rfl,s1 _ _ U,Cl.cl _,Cl.n2 _,vh p q m,y.kn,q,dq,fq,rfl,eq,lq _ jk,q,y,rfl,hq.same s1,by lia,rfl,fy,by lia,λH2 s2=>?_⟩;refine⟨_,_,rfl,rfl,dC (by show(⟨x.lin.toArray⟩++JO " ~"++JO (toString m)++JO " ":Str).length+(⟨y.lin.toArray⟩:Str).length<=_;rw[J,e2,e3,dv,dv,JU,JU,JU];show _+1+_<=_;lia),?_⟩;show Q (V.str ((⟨x.lin.toArray⟩:Str)++JO " ~"++JO (toString m)++JO " "++(⟨y.lin.toArray⟩:Str))) H2;rw[J,e2,e3,e4];exact k H2 (s1.trans s2)
  |_=>cases hk
seal cH PS PE PT PA PG PI cT cP in
theorem II{g j:JR}{gd:J2}(Cl:Cs K C)(M:Mt K C "written" iB fZ f fd)(DB:Df K mg "in_brackets" iG g gd)(N:Nm mg C)(hJ:mg "JOINING"=some (.ref j))(kJ:∀ H,cu K H j gU)(hE:∀ i,Lw K (.ref (C i)) (.ref (C .e))=some (eI i))(hBE:∀ i,Lm K (.ref (C i)) ([C .b,C .e].map Ky)=some (eG i))(T:Txt mg)
  (n:Nat)(IH:0<n->∀ i,bX P w K mg base b7 (2*n) (f i) (fd i) ["self"] (gp C (n-1) i))(IB:0<n->bX P w K mg base b7 (2*n) g gd ["ask"] (ka C (n-1))):
  bX P w K mg base b7 (2*n+1) (f .b) (fd .b) ["self"] (gp C n .b):=by
 have bB:=dY (p:="ask") DB.F λ_ _ _ _ _ _ _=>rfl
 refine(M.F .b).ok wL (λvs H Q E h=>?_) (λcdv A outer s H vs Q E hr h=>?_)
 ·obtain⟨a,t,rfl,_⟩:=h;rfl
 ·obtain⟨a,t,rfl,I,hd,hk,hf,hl,k⟩:=h;cases t with
  |both x y=>
   obtain⟨dx,p,q,hx,hp,hq⟩:=I;obtain⟨fx,fy⟩:=hf;have ae:max x.dep y.dep+1<=n:=hd;have hn:0<n:=by lia
   have aa:(eL (eI x.kn) x.lin++([32,97,110,100,32]++eL (eG y.kn) y.lin)).length<=10000:=hl;rw[JU,JU] at aa;have b1:=lK (eI x.kn) x.lin;have b2:=lK (eG y.kn) y.lin;have l2:([32,97,110,100,32]:JP Nat).length=5:=rfl;refine⟨_,b9 (cZ (i:=1) wL.nd rfl (Kh rfl) (PE.imp (t':=tW K C (n-1) "one" eI) (i6 (fU (dE jv rfl T.isi iF (bU (df (pv 0) rfl) (bU (fK (v:= .ref (C .e)) rfl N.e rfl) bV)))) (cQ (IB hn) hr rfl DB.m DB.F.kp bB .nil cz (bU (df (pv 0) rfl) bV)) (gc (df (pv 0) rfl) Cl.cl M.M (IH hn) hr (jm M) cz)) ?mA)) (b9 (cZ (i:=2) wL.nd rfl (Kh rfl) (PE.imp (t':=tW K C (n-1) "other" eG) (i6 (fU (dE vg rfl T.isi iF (bU (df (pv 0) rfl) (bU (dm (bU (fK (v:= .ref (C .b)) rfl N.b rfl) (bU (fK (v:= .ref (C .e)) rfl N.e rfl) bV))) bV)))) (cQ (IB hn) hr rfl DB.m DB.F.kp bB .nil cz (bU (df (pv 0) rfl) bV)) (gc (df (pv 0) rfl) Cl.cl M.M (IH hn) hr (jm M) cz)) ?mB)) (b5 (cy (cA gh (cA gh (pv 1) b8) (pv 2))))),?_⟩
   rotate_left
   case mA=>
    rintro σ H Q ⟨a,cc,p,dx,fs,t,e0,ha,hc,J,U,I,hd,hf,hl,k⟩;obtain⟨dp,fp,ep,lp⟩:=I.ob;refine⟨_,e0,a,cc,dx,fs,_,rfl,ha,hc,J,U,.ref p,.ref (C .e),.ref (C t.kn),_,rfl,(Cl.ic _).ty ep,.inr ⟨_,rfl,hE _⟩,_,rfl,?_⟩;cases hk:eI t.kn with
    |true=>
     rw[hk] at k;exact cg ⟨_,e0,a,cc,dx,fs,_,rfl,ha,hc,J,U,p,t,rfl,I,hd,hf,hl,k⟩
    |false=>
     rw[hk] at k;exact cj ⟨_,e0,a,cc,dx,fs,_,rfl,ha,hc,J,U,t.kn,p,dp,fp,rfl,ep,lp _ jk,p,t,rfl,I,hd,rfl,hf,hl,k⟩
   case mB=>
    rintro σ H Q ⟨a,cc,p,dx,fs,t,e0,ha,hc,J,U,I,hd,hf,hl,k⟩;obtain⟨dp,fp,ep,lp⟩:=I.ob;refine⟨_,e0,a,cc,dx,fs,_,rfl,ha,hc,J,U,eK,λc ab=>?_⟩;have s0:bY H (upd H c (.tup [.ref (C .b),.ref (C .e)])):=cq ab;refine⟨p,C t.kn,dp,fp,c,[C .b,C .e],_,rfl,s0 _ _ ep,Cl.ic _,b6,hBE _,_,rfl,?_⟩;change (if eG t.kn=true then _ else _);generalize upd H c (.tup [.ref (C .b),.ref (C .e)])=H0 at s0 ⊢;have ha:=s0 _ _ ha;have I:=I.same s0;have ep:=s0 _ _ ep;have k:=λH' (s:bY H0 H')=>k H' (s0.trans s)
    cases hk:eG t.kn with
    |true=>
     rw[hk] at k;exact cg ⟨_,e0,a,cc,dx,fs,_,rfl,ha,hc,J,U,p,t,rfl,I,hd,hf,hl,k⟩
    |false=>
     rw[hk] at k;exact cj ⟨_,e0,a,cc,dx,fs,_,rfl,ha,hc,J,U,t.kn,p,dp,fp,rfl,ep,lp _ jk,p,t,rfl,I,hd,rfl,hf,hl,k⟩
   refine⟨a,C .b,p,dx,_,x,rfl,hx,Cl.cl _,Cl.n1 _,mP p q,hp,by lia,fx,by lia,λH1 s1=>?_⟩;refine⟨a,C .b,q,dx,_,y,rfl,s1 _ _ hx,Cl.cl _,Cl.n2 _,mX p q,hq.same s1,by lia,fy,by lia,λH2 s2=>?_⟩;have e1:(⟨(eL (eI x.kn) x.lin).toArray⟩++JO " and ":Str)=⟨(eL (eI x.kn) x.lin++[32,97,110,100,32]).toArray⟩:=fO _ [32,97,110,100,32];refine⟨_,rfl,_,_,rfl,rfl,dC (by show(⟨(eL (eI x.kn) x.lin).toArray⟩:Str).length+5<=_;rw[dv];lia),_,rfl,_,_,rfl,rfl,dC (by show(⟨(eL (eI x.kn) x.lin).toArray⟩++JO " and ":Str).length+(⟨(eL (eG y.kn) y.lin).toArray⟩:Str).length<=_;rw[e1,dv,dv,JU];lia),?_⟩;show Q (V.str ((⟨(eL (eI x.kn) x.lin).toArray⟩:Str)++JO " and "++(⟨(eL (eG y.kn) y.lin).toArray⟩:Str))) H2;rw[e1,fO,Kt];exact k H2 (s1.trans s2)
  |_=>cases hk
seal cH PS PE PT PA PG PI cT cP in
theorem FA{g j:JR}{gd:J2}(Cl:Cs K C)(M:Mt K C "written" iB fZ f fd)(DB:Df K mg "in_brackets" iG g gd)(N:Nm mg C)(hJ:mg "JOINING"=some (.ref j))(kJ:∀ H,cu K H j gU)(hE:∀ i,Lw K (.ref (C i)) (.ref (C .e))=some (eI i))(hBE:∀ i,Lm K (.ref (C i)) ([C .b,C .e].map Ky)=some (eG i))(T:Txt mg)
  (n:Nat)(IH:0<n->∀ i,bX P w K mg base b7 (2*n) (f i) (fd i) ["self"] (gp C (n-1) i))(IB:0<n->bX P w K mg base b7 (2*n) g gd ["ask"] (ka C (n-1))):
  bX P w K mg base b7 (2*n+1) (f .e) (fd .e) ["self"] (gp C n .e):=by
 have bB:=dY (p:="ask") DB.F λ_ _ _ _ _ _ _=>rfl
 refine(M.F .e).ok ya (λvs H Q E h=>?_) (λcdv A outer s H vs Q E hr h=>?_)
 ·obtain⟨a,t,rfl,_⟩:=h;rfl
 ·obtain⟨a,t,rfl,I,hd,hk,hf,hl,k⟩:=h;cases t with
  |either x y=>
   obtain⟨dx,p,q,hx,hp,hq⟩:=I;obtain⟨fx,fy⟩:=hf;have ab:max x.dep y.dep+1<=n:=hd;have hn:0<n:=by lia
   have aa:(x.lin++([32,111,114,32]++eL (eI y.kn) y.lin)).length<=10000:=hl;rw[JU,JU] at aa;have b2:=lK (eI y.kn) y.lin;have l2:([32,111,114,32]:JP Nat).length=4:=rfl;refine⟨_,b9 (cZ (i:=1) ya.nd rfl (Kh rfl) (PE.imp (t':=tW K C (n-1) "other" eI) (i6 (fU (dE jv rfl T.isi iF (bU (df (pv 0) rfl) (bU (fK (v:= .ref (C .e)) rfl N.e rfl) bV)))) (cQ (IB hn) hr rfl DB.m DB.F.kp bB .nil cz (bU (df (pv 0) rfl) bV)) (gc (df (pv 0) rfl) Cl.cl M.M (IH hn) hr (jm M) cz)) ?mA)) (b5 (cy (cA gh (cA gh (gc (df (pv 0) rfl) Cl.cl M.M (IH hn) hr (jm M) cz) b8) (pv 1)))),?_⟩
   rotate_left
   case mA=>
    rintro σ H Q ⟨a,cc,p,dx,fs,t,e0,ha,hc,J,U,I,hd,hf,hl,k⟩;obtain⟨dp,fp,ep,lp⟩:=I.ob;refine⟨_,e0,a,cc,dx,fs,_,rfl,ha,hc,J,U,.ref p,.ref (C .e),.ref (C t.kn),_,rfl,(Cl.ic _).ty ep,.inr ⟨_,rfl,hE _⟩,_,rfl,?_⟩;cases hk:eI t.kn with
    |true=>
     rw[hk] at k;exact cg ⟨_,e0,a,cc,dx,fs,_,rfl,ha,hc,J,U,p,t,rfl,I,hd,hf,hl,k⟩
    |false=>
     rw[hk] at k;exact cj ⟨_,e0,a,cc,dx,fs,_,rfl,ha,hc,J,U,t.kn,p,dp,fp,rfl,ep,lp _ jk,p,t,rfl,I,hd,rfl,hf,hl,k⟩
   refine⟨a,C .e,q,dx,_,y,rfl,hx,Cl.cl _,Cl.n2 _,mX p q,hq,by lia,fy,by lia,λH1 s1=>?_⟩;obtain⟨dp,fp,ep,lp⟩:=(hp.same s1).ob;refine⟨_,rfl,a,C .e,dx,_,_,rfl,s1 _ _ hx,Cl.cl _,Cl.n1 _,mP p q,x.kn,p,dp,fp,rfl,ep,lp _ jk,p,x,rfl,hp.same s1,by lia,rfl,fx,by lia,λH2 s2=>?_⟩;have e1:(⟨x.lin.toArray⟩++JO " or ":Str)=⟨(x.lin++[32,111,114,32]).toArray⟩:=fO _ [32,111,114,32];refine⟨_,_,rfl,rfl,dC (by show(⟨x.lin.toArray⟩:Str).length+4<=_;rw[dv];lia),_,rfl,_,_,rfl,rfl,dC (by show(⟨x.lin.toArray⟩++JO " or ":Str).length+(⟨(eL (eI y.kn) y.lin).toArray⟩:Str).length<=_;rw[e1,dv,dv,JU];lia),?_⟩;show Q (V.str ((⟨x.lin.toArray⟩:Str)++JO " or "++(⟨(eL (eI y.kn) y.lin).toArray⟩:Str))) H2;rw[e1,fO,Kt];exact k H2 (s1.trans s2)
  |_=>cases hk
seal cH PS PE PT PA PG PI cT cP in
theorem ER{g j:JR}{gd:J2}(Cl:Cs K C)(M:Mt K C "written" iB fZ f fd)(DB:Df K mg "in_brackets" iG g gd)(N:Nm mg C)(hJ:mg "JOINING"=some (.ref j))(kJ:∀ H,cu K H j gU)(hE:∀ i,Lw K (.ref (C i)) (.ref (C .e))=some (eI i))(hBE:∀ i,Lm K (.ref (C i)) ([C .b,C .e].map Ky)=some (eG i))(T:Txt mg)
  (n:Nat)(IH:0<n->∀ i,bX P w K mg base b7 (2*n) (f i) (fd i) ["self"] (gp C (n-1) i))(IB:0<n->bX P w K mg base b7 (2*n) g gd ["ask"] (ka C (n-1))):
  bX P w K mg base b7 (2*n+1) (f .o) (fd .o) ["self"] (gp C n .o):=by
 have bB:=dY (p:="ask") DB.F λ_ _ _ _ _ _ _=>rfl
 refine(M.F .o).ok yN (λvs H Q E h=>?_) (λcdv A outer s H vs Q E hr h=>?_)
 ·obtain⟨a,t,rfl,_⟩:=h;rfl
 ·obtain⟨a,t,rfl,J,hd,hk,hf,hl,k⟩:=h;cases t with
  |no x=>
   obtain⟨dx,p,hx,hp⟩:=J;have ae:x.dep+1<=n:=hd;have hn:0<n:=by lia
   have aa:([110,111,116,32]++eL (eG x.kn) x.lin).length<=10000:=hl;rw[JU] at aa;have b2:=lK (eG x.kn) x.lin;have l2:([110,111,116,32]:JP Nat).length=4:=rfl;refine⟨_,b9 (cZ (i:=1) yN.nd rfl (Kh rfl) (PE.imp (t':=tW K C (n-1) "one" eG) (i6 (fU (dE vg rfl T.isi iF (bU (df (pv 0) rfl) (bU (dm (bU (fK (v:= .ref (C .b)) rfl N.b rfl) (bU (fK (v:= .ref (C .e)) rfl N.e rfl) bV))) bV)))) (cQ (IB hn) hr rfl DB.m DB.F.kp bB .nil cz (bU (df (pv 0) rfl) bV)) (gc (df (pv 0) rfl) Cl.cl M.M (IH hn) hr (jm M) cz)) ?mA)) (b5 (cy (cA gh b8 (pv 1)))),?_⟩
   rotate_left
   case mA=>
    rintro σ H Q ⟨a,cc,p,dx,fs,t,e0,ha,hc,U,I,J,hd,hf,hl,k⟩;obtain⟨dp,fp,ep,lp⟩:=J.ob;refine⟨_,e0,a,cc,dx,fs,_,rfl,ha,hc,U,I,eK,λc ab=>?_⟩;have s0:bY H (upd H c (.tup [.ref (C .b),.ref (C .e)])):=cq ab;refine⟨p,C t.kn,dp,fp,c,[C .b,C .e],_,rfl,s0 _ _ ep,Cl.ic _,b6,hBE _,_,rfl,?_⟩;change (if eG t.kn=true then _ else _);generalize upd H c (.tup [.ref (C .b),.ref (C .e)])=H0 at s0 ⊢;have ha:=s0 _ _ ha;have J:=J.same s0;have ep:=s0 _ _ ep;have k:=λH' (s:bY H0 H')=>k H' (s0.trans s)
    cases hk:eG t.kn with
    |true=>
     rw[hk] at k;exact cg ⟨_,e0,a,cc,dx,fs,_,rfl,ha,hc,U,I,p,t,rfl,J,hd,hf,hl,k⟩
    |false=>
     rw[hk] at k;exact cj ⟨_,e0,a,cc,dx,fs,_,rfl,ha,hc,U,I,t.kn,p,dp,fp,rfl,ep,lp _ jk,p,t,rfl,J,hd,rfl,hf,hl,k⟩
   refine⟨a,C .o,p,dx,_,x,rfl,hx,Cl.cl _,Cl.n1 _,wU p,hp,by lia,hf,by lia,λH1 s1=>?_⟩;have e1:(JO "not "++⟨(eL (eG x.kn) x.lin).toArray⟩:Str)=⟨([110,111,116,32]++eL (eG x.kn) x.lin).toArray⟩:=fO [110,111,116,32] _;refine⟨_,rfl,_,_,rfl,rfl,dC (by show 4+(⟨(eL (eG x.kn) x.lin).toArray⟩:Str).length<=_;rw[dv];lia),?_⟩;show Q (V.str (JO "not "++⟨(eL (eG x.kn) x.lin).toArray⟩)) H1;rw[e1];exact k H1 s1
  |_=>cases hk
theorem y2{g j:JR}{gd:J2}(Cl:Cs K C)(M:Mt K C "written" iB fZ f fd)(DB:Df K mg "in_brackets" iG g gd)(N:Nm mg C)(hJ:mg "JOINING"=some (.ref j))(kJ:∀ H,cu K H j gU)(hE:∀ i,Lw K (.ref (C i)) (.ref (C .e))=some (eI i))(hBE:∀ i,Lm K (.ref (C i)) ([C .b,C .e].map Ky)=some (eG i))(T:Txt mg)
  (n:Nat)(IH:0<n->∀ i,bX P w K mg base b7 (2*n) (f i) (fd i) ["self"] (gp C (n-1) i))(IB:0<n->bX P w K mg base b7 (2*n) g gd ["ask"] (ka C (n-1)))(i:Kn):
  bX P w K mg base b7 (2*n+1) (f i) (fd i) ["self"] (gp C n i):=by
 cases i with
 |w=>exact BV Cl M DB N hJ kJ hE hBE T n IH IB
 |s=>exact Dw Cl M DB N hJ kJ hE hBE T n IH IB
 |r=>exact C1 Cl M DB N hJ kJ hE hBE T n IH IB
 |n=>exact By Cl M DB N hJ kJ hE hBE T n IH IB
 |b=>exact II Cl M DB N hJ kJ hE hBE T n IH IB
 |e=>exact FA Cl M DB N hJ kJ hE hBE T n IH IB
 |o=>exact ER Cl M DB N hJ kJ hE hBE T n IH IB
theorem uj{g j:JR}{gd:J2}(Cl:Cs K C)(M:Mt K C "written" iB fZ f fd)(DB:Df K mg "in_brackets" iG g gd)(N:Nm mg C)(hJ:mg "JOINING"=some (.ref j))(kJ:∀ H,cu K H j gU)(hE:∀ i,Lw K (.ref (C i)) (.ref (C .e))=some (eI i))(hBE:∀ i,Lm K (.ref (C i)) ([C .b,C .e].map Ky)=some (eG i))(T:Txt mg):
  ∀(n:Nat) (i:Kn),bX P w K mg base b7 (2*n+1) (f i) (fd i) ["self"] (gp C n i)
 |0=>y2 Cl M DB N hJ kJ hE hBE T 0 (λh=>absurd h (Kw _)) (λh=>absurd h (Kw _))
 |n+1=>y2 Cl M DB N hJ kJ hE hBE T (n+1) (λ_ i=>(uj Cl M DB N hJ kJ hE hBE T n i).mono (by lia)) (λ_=>(HJ DB Cl M (uj Cl M DB N hJ kJ hE hBE T n)).mono (by lia))
end
end K13
namespace RA
inductive Lf where|word (w : JP Nat)|start (w : JP Nat)|row (ws : JP (JP Nat))
 deriving LY
inductive Tr where|leaf (l : Lf)|near (a b : Lf) (n : Nat)|both (a b : Tr)|either (a b : Tr)|no (a : Tr)
 deriving LY
inductive Tk where|leaf (l : Lf)|near (n : Nat)|no|and|or|lp|rp
 deriving LY
noncomputable def Tr.isE:Tr->KS
 |.either _ _=>true|_=>false
noncomputable def Tr.isBE:Tr->KS
 |.either _ _=>true|.both _ _=>true|_=>false
noncomputable def Tr.dep:Tr->Nat
 |.leaf _=>0|.near _ _ _=>1|.both a b=>max a.dep b.dep+1|.either a b=>max a.dep b.dep+1|.no a=>a.dep+1
noncomputable def brk(b:KS)(l:JP Tk):JP Tk:=if b then .lp::(l++[.rp]) else l
noncomputable def wr:Tr->JP Tk
 |.leaf l=>[.leaf l]
 |.near a b n=>[.leaf a,.near n,.leaf b]
 |.both a b=>brk a.isE (wr a)++ .and::brk b.isBE (wr b)
 |.either a b=>wr a++ .or::brk b.isE (wr b)
 |.no a=> .no::brk a.isBE (wr a)
inductive Kd where|lp|no|and|or|tilde|leaf|near|rp|stop
 deriving LY
structure Bk where
 nots : Nat
 a : JW Tr
 o : JW Tr
 deriving LY
noncomputable def nots:Nat->Tr->Tr
 |0,t=>t
 |n+1,t=>nots n (.no t)
noncomputable def takeIn(t:Tr)(b:Bk):Bk:=⟨0,some (match b.a with|none=>nots b.nots t|some x=> .both x (nots b.nots t)),b.o⟩
noncomputable def choose(b:Bk):Bk:=⟨b.nots,none,match b.o with|none=>b.a|some x=>match b.a with|none=>none|some y=>some (.either x y)⟩
noncomputable def whole(b:Bk):JW Tr:=(choose b).o
structure Rs where
 bs : JP Bk
 last : Kd
 leaf : JW Lf
 far : Nat
noncomputable def iu(f:Bk->Bk):JP Bk->JP Bk
 |[]=>[]|b::r=>f b::r
noncomputable def fl(s:Rs):Rs:=if s.last= .leaf then (match s.leaf with|some l=>{s with bs:=iu (takeIn (.leaf l)) s.bs} | none=>s) else s
noncomputable def kd:Tk->Kd
 |.leaf _=> .leaf|.near _=> .tilde|.no=> .no|.and=> .and|.or=> .or|.lp=> .lp|.rp=> .rp
noncomputable def behind:Kd->JP Kd
 |.lp=>[.leaf,.no,.lp]|.no=>[.leaf,.no,.lp]|.and=>[.leaf,.no,.lp]|.or=>[.leaf,.no,.lp]
 |.tilde=>[.leaf]
 |.leaf=>[.leaf,.no,.lp,.and,.or,.rp,.stop,.tilde]
 |.near=>[.leaf,.no,.lp,.and,.or,.rp,.stop]
 |.rp=>[.leaf,.no,.lp,.and,.or,.rp,.stop]
 |.stop=>[]
noncomputable def lets(s:Rs)(k:Kd):KS:= !(k == .lp&&decide (12<s.bs.length)) && !(k == .rp&&decide (s.bs.length=1)) && !(k == .stop&&decide (1<s.bs.length))&&decide (k∈behind s.last)
noncomputable def fh(s:Rs):Tk->Rs
 |.leaf l=>if s.last= .tilde then {s with bs:=iu (takeIn (.near (s.leaf.getD (.word [])) l s.far)) s.bs,last:= .near} else {fl s with leaf:=some l,last:= .leaf}
 |.near n=>{s with far:=n,last:= .tilde}
 |.no=>{fl s with bs:=iu (λb=>{b with nots:=b.nots+1}) (fl s).bs,last:= .no}
 |.and=>{fl s with last:= .and}
 |.or=>{fl s with bs:=iu choose (fl s).bs,last:= .or}
 |.lp=>{fl s with bs:=⟨0,none,none⟩::(fl s).bs,last:= .lp}
 |.rp=>{fl s with bs:=(match (fl s).bs with|b::r=>iu (takeIn ((whole b).getD (.leaf (.word [])))) r|[]=>[]),last:= .rp}
noncomputable def rn:Rs->JP Tk->JW Rs
 |s,[]=>some s
 |s,k::r=>if lets s (kd k) then rn (fh s k) r else none
theorem sr:∀(l r:JP Tk) (s:Rs),rn s (l++r)=(rn s l).bind λs'=>rn s' r
 |[],r,s=>rfl
 |k::l,r,s=>by
  show(if lets s (kd k) then rn (fh s k) (l++r) else none)=_;by_cases h:lets s (kd k)=true
  ·rw[J1 h,sr l r];show _=((if lets s (kd k) then rn (fh s k) l else none)).bind _;rw[J1 h]
  ·rw[if_neg h];show _=((if lets s (kd k) then rn (fh s k) l else none)).bind _;rw[if_neg h];rfl
noncomputable def vJ(k:Kd):Prop:=k= .lp\/k= .no\/k= .and\/k= .or
noncomputable def cls(k:Kd):Prop:=k= .leaf\/k= .near\/k= .rp
noncomputable def R(t:Tr)(b:Bk):Bk:=match t with
 |.either x y=>⟨0,some y,some x⟩
 |_=>takeIn t b
noncomputable def pre(t:Tr)(b:Bk):Prop:=match t with
 |.either _ _=>b=⟨0,none,none⟩
 |.both _ _=>b.nots=0/\b.a=none
 |_=>O3
theorem zh(t:Tr):whole (R t ⟨0,none,none⟩)=some t:=by cases t<;>rfl
theorem Bj{t:Tr}(h:t.isE=false)(b:Bk):R t b=takeIn t b:=by cases t<;>first|rfl|cases h
theorem kY{s:Rs}(h:s.last≠ .leaf):fl s=s:=by unfold fl;rw[if_neg h]
theorem rD{k:Kd}(h:vJ k):k≠ .leaf/\k≠ .tilde:=by rcases h with rfl|rfl|rfl|rfl<;>exact⟨by decide,by decide⟩
theorem tu{k:Kd}(h:vJ k): .leaf∈behind k/\ .no∈behind k/\ .lp∈behind k:=by rcases h with rfl|rfl|rfl|rfl<;>decide
theorem tK{k:Kd}(h:cls k): .and∈behind k/\ .or∈behind k/\ .rp∈behind k/\ .stop∈behind k:=by rcases h with rfl|rfl|rfl<;>decide
theorem js{s:Rs}{k:Kd}(h1:k≠ .lp\/s.bs.length<=12)(h2:k≠ .rp\/s.bs.length≠1)(h3:k≠ .stop\/s.bs.length<=1)(h:k∈behind s.last):lets s k=true:=by
 unfold lets;rw[JS h,Bool.and_true];have J:(k == .lp&&decide (12<s.bs.length))=false:=by
  rcases h1 with z|z
  ·rw[beq_eq_false_iff_ne.mpr z];rfl
  ·rw[JQ (by lia),MZ]
 have U:(k == .rp&&decide (s.bs.length=1))=false:=by
  rcases h2 with z|z
  ·rw[beq_eq_false_iff_ne.mpr z];rfl
  ·rw[JQ z,MZ]
 have I:(k == .stop&&decide (1<s.bs.length))=false:=by
  rcases h3 with z|z
  ·rw[beq_eq_false_iff_ne.mpr z];rfl
  ·rw[JQ (by lia),MZ]
 rw[J,U,I];rfl
noncomputable def vY(n:Nat)(l:JP Tk)(b b':Bk):Prop:=∀(r:JP Bk) (k:Kd) (lf:JW Lf) (fr:Nat),r.length+1+n<=12->vJ k->∃ s',rn ⟨b::r,k,lf,fr⟩ l=some s'/\cls s'.last/\(fl s').bs=b'::r
theorem pT(s:Rs):(fl s).bs.length=s.bs.length:=by
 unfold fl;split
 ·split
  ·cases s.bs<;>rfl
  ·rfl
 ·rfl
theorem jO{s:Rs}{k:Tk}{l:JP Tk}(h:lets s (kd k)=true):rn s (k::l)=rn (fh s k) l:=by
 show(if lets s (kd k) then rn (fh s k) l else none)=_;rw[J1 h]
theorem rB{a:Tr}{c:KS}{b:Bk}(ih:∀ b,pre a b->vY a.dep (wr a) b (R a b))(h:c=false->pre a b/\a.isE=false):vY (a.dep+1) (brk c (wr a)) b (takeIn a b):=by
 cases c with
 |false=>
  obtain⟨h1,h2⟩:=h rfl;rw[<-Bj h2];intro r k lf fr I J;exact ih b h1 r k lf fr (by lia) J
 |true=>
  intro r k lf fr I J;have hn:=rD J;have e1:lets ⟨b::r,k,lf,fr⟩ (kd .lp)=true:=js (.inr (by show r.length+1<=12;lia)) (.inl (by decide)) (.inl (by decide)) (tu J).2.2;have hp:pre a ⟨0,none,none⟩:=by cases a<;>first|trivial|exact⟨rfl,rfl⟩|rfl
  obtain⟨s',h1,h2,U⟩:=ih ⟨0,none,none⟩ hp (b::r) .lp lf fr (by show r.length+1+1+_<=12;lia) (.inl rfl);have hs:fh ⟨b::r,k,lf,fr⟩ .lp=⟨⟨0,none,none⟩::b::r,.lp,lf,fr⟩:=by
   show({fl ⟨b::r,k,lf,fr⟩ with bs:=_,last:=_}:Rs)=_;rw[kY hn.1]
  refine⟨fh s' .rp,?_,.inr (.inr rfl),?_⟩
  ·show rn _ (.lp::(wr a++[.rp]))=_;rw[jO e1,hs,sr,h1];show rn s' [.rp]=_;have e2:lets s' (kd .rp)=true:=js (.inl (by decide)) (.inr (by rw[<-pT,U];simp)) (.inl (by decide)) (tK h2).2.2.1;rw[jO e2];rfl
  ·rw[kY (by show Kd.rp≠Kd.leaf;decide)];show(match (fl s').bs with|b::r=>iu (takeIn ((whole b).getD (.leaf (.word [])))) r|[]=>[])=_;rw[U];show iu (takeIn ((whole (R a ⟨0,none,none⟩)).getD (.leaf (.word [])))) (b::r)=_;rw[zh];rfl
theorem Il(a:Tr):choose (R a ⟨0,none,none⟩)=⟨0,none,some a⟩:=by cases a<;>rfl
theorem oP:∀(t:Tr) (b:Bk),pre t b->vY t.dep (wr t) b (R t b)
 |.leaf l,b,_=>by
  intro r k lf fr hl J;have hn:=rD J;have U:lets ⟨b::r,k,lf,fr⟩ (kd (.leaf l))=true:=js (.inl (by show Kd.leaf≠_;decide)) (.inl (by show Kd.leaf≠_;decide)) (.inl (by show Kd.leaf≠_;decide)) (tu J).1;refine⟨⟨b::r,.leaf,some l,fr⟩,?_,.inl rfl,rfl⟩;show rn _ [.leaf l]=_;rw[jO U];show some (if k= .tilde then _ else {fl ⟨b::r,k,lf,fr⟩ with leaf:=some l,last:= .leaf})=_;rw[if_neg hn.2,kY hn.1]
 |.near x y n,b,_=>by
  intro r k lf fr hl J;have hn:=rD J;have U:lets ⟨b::r,k,lf,fr⟩ (kd (.leaf x))=true:=js (.inl (by show Kd.leaf≠_;decide)) (.inl (by show Kd.leaf≠_;decide)) (.inl (by show Kd.leaf≠_;decide)) (tu J).1;refine⟨⟨takeIn (.near x y n) b::r,.near,some x,n⟩,?_,.inr (.inl rfl),rfl⟩;show rn _ [.leaf x,.near n,.leaf y]=_;rw[jO U];have e2:fh ⟨b::r,k,lf,fr⟩ (.leaf x)=⟨b::r,.leaf,some x,fr⟩:=by
   show(if k= .tilde then _ else {fl ⟨b::r,k,lf,fr⟩ with leaf:=some x,last:= .leaf})=_;rw[if_neg hn.2,kY hn.1]
  have l2:lets ⟨b::r,.leaf,some x,fr⟩ (kd (.near n))=true:=js (.inl (by show Kd.tilde≠_;decide)) (.inl (by show Kd.tilde≠_;decide)) (.inl (by show Kd.tilde≠_;decide)) (by show Kd.tilde∈behind .leaf;decide);rw[e2,jO l2];have l3:lets ⟨b::r,.tilde,some x,n⟩ (kd (.leaf y))=true:=js (.inl (by show Kd.leaf≠_;decide)) (.inl (by show Kd.leaf≠_;decide)) (.inl (by show Kd.leaf≠_;decide)) (by show Kd.leaf∈behind .tilde;decide);show rn ⟨b::r,.tilde,some x,n⟩ [.leaf y]=_;rw[jO l3];rfl
 |.no a,b,_=>by
  intro r k lf fr hl J;have hn:=rD J;have U:lets ⟨b::r,k,lf,fr⟩ (kd .no)=true:=js (.inl (by decide)) (.inl (by decide)) (.inl (by decide)) (tu J).2.1;have I:fh ⟨b::r,k,lf,fr⟩ .no=⟨{b with nots:=b.nots+1}::r,.no,lf,fr⟩:=by
   show({fl ⟨b::r,k,lf,fr⟩ with bs:=_,last:=_}:Rs)=_;rw[kY hn.1];rfl
  obtain⟨s',h1,h2,h3⟩:=rB (a:=a) (c:=a.isBE) (b:={b with nots:=b.nots+1}) (λb h=>oP a b h) (λh=>by cases a<;>first|exact⟨trivial,rfl⟩|cases h) r .no lf fr (by have:(Tr.no a).dep=a.dep+1:=rfl;lia) (.inr (.inl rfl));refine⟨s',?_,h2,h3⟩;show rn _ (.no::brk a.isBE (wr a))=_;rw[jO U,I,h1]
 |.both x y,b,hp=>by
  intro r k lf fr hl J;obtain⟨p1,p2⟩:=hp;have hd:(Tr.both x y).dep=max x.dep y.dep+1:=rfl;obtain⟨s',h1,h2,h3⟩:=rB (a:=x) (c:=x.isE) (b:=b) (λb h=>oP x b h) (λh=>⟨(by cases x<;>first|trivial|exact⟨p1,p2⟩|cases h),h⟩) r k lf fr (by lia) J;have U:lets s' (kd .and)=true:=js (.inl (by decide)) (.inl (by decide)) (.inl (by decide)) (tK h2).1;have I:fh s' .and=⟨takeIn x b::r,.and,(fl s').leaf,(fl s').far⟩:=by
   show({fl s' with last:= .and}:Rs)=_;rw[<-h3]
  obtain⟨s2,h4,h5,h6⟩:=rB (a:=y) (c:=y.isBE) (b:=takeIn x b) (λb h=>oP y b h) (λh=>by cases y<;>first|exact⟨trivial,rfl⟩|cases h) r .and (fl s').leaf (fl s').far (by lia) (.inr (.inr (.inl rfl)));refine⟨s2,?_,h5,?_⟩
  ·show rn _ (brk x.isE (wr x)++ .and::brk y.isBE (wr y))=_;rw[sr,h1];show rn s' (.and::brk y.isBE (wr y))=_;rw[jO U,I,h4]
  ·rw[h6];obtain⟨n,a,o⟩:=b;have aa:n=0:=p1;have ab:a=none:=p2;subst aa ab;rfl
 |.either x y,b,hp=>by
  intro r k lf fr hl J;have hd:(Tr.either x y).dep=max x.dep y.dep+1:=rfl;have ae:b=⟨0,none,none⟩:=hp;subst ae;obtain⟨s',h1,h2,h3⟩:=oP x ⟨0,none,none⟩ (by cases x<;>first|trivial|exact⟨rfl,rfl⟩|rfl) r k lf fr (by lia) J;have U:lets s' (kd .or)=true:=js (.inl (by decide)) (.inl (by decide)) (.inl (by decide)) (tK h2).2.1;have I:fh s' .or=⟨⟨0,none,some x⟩::r,.or,(fl s').leaf,(fl s').far⟩:=by
   show({fl s' with bs:=iu choose (fl s').bs,last:= .or}:Rs)=_;rw[h3];show Rs.mk (choose (R x ⟨0,none,none⟩)::r) _ _ _=_;rw[Il]
  obtain⟨s2,h4,h5,h6⟩:=rB (a:=y) (c:=y.isE) (b:=⟨0,none,some x⟩) (λb h=>oP y b h) (λh=>⟨(by cases y<;>first|trivial|exact⟨rfl,rfl⟩|cases h),h⟩) r .or (fl s').leaf (fl s').far (by lia) (.inr (.inr (.inr rfl)));refine⟨s2,?_,h5,?_⟩
  ·show rn _ (wr x++ .or::brk y.isE (wr y))=_;rw[sr,h1];show rn s' (.or::brk y.isE (wr y))=_;rw[jO U,I,h4]
  ·rw[h6];rfl
theorem Bv{t:Tr}(h:t.dep<=11):∃ s',rn ⟨[⟨0,none,none⟩],.lp,none,0⟩ (wr t)=some s'/\lets s' .stop=true/\∃ b,(fl s').bs=[b]/\whole b=some t:=by
 obtain⟨s',h1,h2,J⟩:=oP t ⟨0,none,none⟩ (by cases t<;>first|trivial|exact⟨rfl,rfl⟩|rfl) [] .lp none 0 (by show 0+1+_<=12;lia) (.inl rfl);refine⟨s',h1,js (.inl (by decide)) (.inl (by decide)) (.inr (by rw[<-pT,J];simp)) (tK h2).2.2.2,_,J,zh t⟩
inductive Sg where|either|both|no|lp
 deriving LY
noncomputable def bd:Sg->Nat
 |.lp=>0|.either=>1|.both=>2|.no=>3
noncomputable def iI:Sg->JP Tr->JW (JP Tr)
 |.no,a::r=>some (.no a::r)
 |.both,y::x::r=>some (.both x y::r)
 |.either,y::x::r=>some (.either x y::r)
 |_,_=>none
noncomputable def putAll(least:Nat):JP Tr->JP Sg->JW (JP Tr×JP Sg)
 |A,[]=>some (A,[])
 |A,g::S=>if least<=bd g then (iI g A).bind λA'=>putAll least A' S else some (A,g::S)
inductive Sm where|first|plain|more|near (n : Nat)
 deriving LY
structure Ls where
 A : JP Tr
 S : JP Sg
 st : Sm
noncomputable def cnt(S:JP Sg):Nat:=S.count .lp
noncomputable def lI(A:JP Tr)(S:JP Sg):Tk->JW Ls
 |.leaf l=>some ⟨.leaf l::A,S,.plain⟩
 |.lp=>if cnt S<12 then some ⟨A,.lp::S,.first⟩ else none
 |.no=>some ⟨A,.no::S,.first⟩
 |_=>none
noncomputable def lx(A:JP Tr)(S:JP Sg):Tk->JW Ls
 |.near _=>none
 |.rp=>if 0<cnt S then (putAll 1 A S).bind λq=>match q.2 with|_::J=>some ⟨q.1,J,.more⟩|[]=>none else none
 |.and=>(putAll 2 A S).bind λq=>some ⟨q.1,.both::q.2,.first⟩
 |.or=>(putAll 1 A S).bind λq=>some ⟨q.1,.either::q.2,.first⟩
 |k=>(putAll 2 A S).bind λq=>lI q.1 (.both::q.2) k
noncomputable def rf(n:Nat)(A:JP Tr)(S:JP Sg):Tk->JW Ls
 |.leaf b=>(match A with|.leaf a::r=>some ⟨.near a b n::r,S,.more⟩|_=>none)
 |_=>none
noncomputable def dP(s:Ls)(k:Tk):JW Ls:=match s.st with
 |.first=>lI s.A s.S k
 |.near n=>rf n s.A s.S k
 |.plain=>match k with|.near n=>some {s with st:= .near n} | k=>lx s.A s.S k
 |.more=>lx s.A s.S k
noncomputable def eN:Ls->JP Tk->JW Ls
 |s,[]=>some s
 |s,k::r=>(dP s k).bind λs'=>eN s' r
noncomputable def fM(s:Ls):JW Tr:=if (s.st= .plain\/s.st= .more)/\cnt s.S=0 then (putAll 1 s.A s.S).bind λq=>q.1.getLast? else none
theorem tG:∀(l r:JP Tk) (s:Ls),eN s (l++r)=(eN s l).bind λs'=>eN s' r
 |[],r,s=>rfl
 |k::l,r,s=>by
  show(dP s k).bind (λs'=>eN s' (l++r))=((dP s k).bind λs'=>eN s' l).bind _;cases dP s k with
  |none=>rfl
  |some s'=>exact tG l r s'
noncomputable def lvl:Tr->Nat
 |.either _ _=>1|.both _ _=>2|_=>3
noncomputable def jN(S:JP Sg):Nat:=match S with|[]=>0|g::_=>bd g
noncomputable def rE(t:Tr)(S:JP Sg):Prop:=match t with
 |.either _ _=>jN S=0
 |.both _ _=>jN S<=1
 |_=>O3
noncomputable def y4(m:Sm):Prop:=m= .plain\/m= .more
noncomputable def vE(n lv:Nat)(l:JP Tk)(t:Tr)(A:JP Tr)(S:JP Sg):Prop:=cnt S+n<=12->∃ s',eN ⟨A,S,.first⟩ l=some s'/\y4 s'.st/\cnt s'.S=cnt S/\∀ least,1<=least->least<=lv->putAll least s'.A s'.S=putAll least (t::A) S
theorem qj{least:Nat}{A:JP Tr}:∀{S:JP Sg},jN S<least->putAll least A S=some (A,S)
 |[],_=>rfl
 |g::S,h=>by
  show(if least<=bd g then _ else _)=_;rw[if_neg (by have:bd g<least:=h;lia)]
theorem oB{least:Nat}{A A':JP Tr}{g:Sg}{S:JP Sg}(h:least<=bd g)(e:iI g A=some A'):putAll least A (g::S)=putAll least A' S:=by
 show(if least<=bd g then _ else _)=_;rw[J1 h,e];rfl
theorem rl{s:Ls}(h:y4 s.st){k:Tk}(hk:∀ n,k≠ .near n):dP s k=lx s.A s.S k:=by
 unfold dP;rcases h with h|h<;>rw[h];cases k<;>first|rfl|exact absurd rfl (hk _)
theorem oH(S:JP Sg):cnt (.lp::S)=cnt S+1:=by unfold cnt;rw[Mf]
theorem iP{g:Sg}(h:g≠ .lp)(S:JP Sg):cnt (g::S)=cnt S:=by unfold cnt;rw[Lv h]
theorem uv(t:Tr):1<=lvl t/\lvl t<=3:=by cases t<;>exact⟨J9 rfl,J9 rfl⟩
theorem sD{a:Tr}{c:KS}{A:JP Tr}{S:JP Sg}(ih:∀ A S,rE a S->vE a.dep (lvl a) (wr a) a A S)(h:c=false->rE a S):vE (a.dep+1) (if c then 3 else lvl a) (brk c (wr a)) a A S:=by
 cases c with
 |false=>exact λhn=>ih A S (h rfl) (by lia)
 |true=>
  intro hn;have hp:rE a (.lp::S):=by cases a<;>first|trivial|exact Ks _|rfl
  obtain⟨s',h1,h2,J,U⟩:=ih A (.lp::S) hp (by rw[oH];lia);refine⟨⟨a::A,S,.more⟩,?_,.inr rfl,rfl,λ_ _ _=>rfl⟩;show(dP ⟨A,S,.first⟩ .lp).bind (λs'=>eN s' (wr a++[.rp]))=_;have I:dP ⟨A,S,.first⟩ .lp=some ⟨A,.lp::S,.first⟩:=by
   show(if cnt S<12 then _ else _)=_;rw[J1 (by lia)]
  rw[I];show eN ⟨A,.lp::S,.first⟩ (wr a++[.rp])=_;rw[tG,h1];show(dP s' .rp).bind (λs'=>eN s' [])=_;rw[rl h2 (λn z=>by cases z)];show(if 0<cnt s'.S then (putAll 1 s'.A s'.S).bind _ else none).bind _=_;rw[J1 (by rw[J,oH];lia),U 1 (by lia) (uv a).1,qj (by show 0<1;decide)];rfl
theorem pA:∀(t:Tr) (A:JP Tr) (S:JP Sg),rE t S->vE t.dep (lvl t) (wr t) t A S
 |.leaf l,A,S,_=>λ_=>⟨⟨.leaf l::A,S,.plain⟩,rfl,.inl rfl,rfl,λ_ _ _=>rfl⟩
 |.near x y n,A,S,_=>λ_=>⟨⟨.near x y n::A,S,.more⟩,rfl,.inr rfl,rfl,λ_ _ _=>rfl⟩
 |.no a,A,S,_=>by
  intro hn;have hd:(Tr.no a).dep=a.dep+1:=rfl;obtain⟨s',h1,h2,h3,I⟩:=sD (a:=a) (c:=a.isBE) (A:=A) (S:= .no::S) (λA S h=>pA a A S h) (λh=>by cases a<;>first|trivial|cases h) (by rw[iP (by decide)];lia);refine⟨s',h1,h2,by rw[h3,iP (by decide)],λleast l1 l2=>?_⟩;have U:least<=3:=l2;rw[I least l1 (by
   have:(if a.isBE=true then 3 else lvl a)=3:=by cases a<;>rfl
   rw[this];exact U),oB U rfl]
 |.both x y,A,S,hp=>by
  intro hn;have hd:(Tr.both x y).dep=max x.dep y.dep+1:=rfl;have J:jN S<=1:=hp;obtain⟨s',h1,h2,h3,I⟩:=sD (a:=x) (c:=x.isE) (A:=A) (S:=S) (λA S h=>pA x A S h) (λh=>by cases x<;>first|trivial|exact J|cases h) (by lia);have e1:lx s'.A s'.S .and=some ⟨x::A,.both::S,.first⟩:=by
   show(putAll 2 s'.A s'.S).bind _=_;rw[I 2 (by lia) (by cases x<;>exact J9 rfl),qj (by lia)];rfl
  obtain⟨s2,h5,h6,h7,h8⟩:=sD (a:=y) (c:=y.isBE) (A:=x::A) (S:= .both::S) (λA S h=>pA y A S h) (λh=>by cases y<;>first|trivial|cases h) (by rw[iP (by decide)];lia);refine⟨s2,?_,h6,by rw[h7,iP (by decide)],λleast l1 l2=>?_⟩
  ·show eN _ (brk x.isE (wr x)++ .and::brk y.isBE (wr y))=_;rw[tG,h1];show(dP s' .and).bind (λs'=>eN s' (brk y.isBE (wr y)))=_;rw[rl h2 (λn z=>by cases z),e1];exact h5
  ·have U:least<=2:=l2;rw[h8 least l1 (by
    have:(if y.isBE=true then 3 else lvl y)=3:=by cases y<;>rfl
    rw[this];lia),oB U rfl]
 |.either x y,A,S,hp=>by
  intro hn;have hd:(Tr.either x y).dep=max x.dep y.dep+1:=rfl;have J:jN S=0:=hp;obtain⟨s',h1,h2,h3,I⟩:=pA x A S (by cases x<;>first|trivial|exact J|(show jN S<=1;lia)) (by lia);have e1:lx s'.A s'.S .or=some ⟨x::A,.either::S,.first⟩:=by
   show(putAll 1 s'.A s'.S).bind _=_;rw[I 1 (by lia) (uv x).1,qj (by lia)];rfl
  obtain⟨s2,h5,h6,h7,h8⟩:=sD (a:=y) (c:=y.isE) (A:=x::A) (S:= .either::S) (λA S h=>pA y A S h) (λh=>by cases y<;>first|trivial|exact JY 1|cases h) (by rw[iP (by decide)];lia);refine⟨s2,?_,h6,by rw[h7,iP (by decide)],λleast l1 l2=>?_⟩
  ·show eN _ (wr x++ .or::brk y.isE (wr y))=_;rw[tG,h1];show(dP s' .or).bind (λs'=>eN s' (brk y.isE (wr y)))=_;rw[rl h2 (λn z=>by cases z),e1];exact h5
  ·have U:least<=1:=l2;rw[h8 least l1 (by
    have:2<=(if y.isE=true then 3 else lvl y):=by cases y<;>exact J9 rfl
    lia),oB U rfl]
theorem CT{t:Tr}(h:t.dep<=12):∃ s',eN ⟨[],[],.first⟩ (wr t)=some s'/\fM s'=some t:=by
 obtain⟨s',h1,h2,J,U⟩:=pA t [] [] (by cases t<;>first|trivial|exact Ks _|rfl) (by show 0+_<=12;lia);refine⟨s',h1,?_⟩;unfold fM;rw[J1 ⟨h2,J⟩,U 1 (by lia) (uv t).1];rfl
noncomputable def nb(l:JP Tk):Nat:=l.count .lp
noncomputable def need(t:Tr):Nat:=nb (wr t)
theorem mz(a b:JP Tk):nb (a++b)=nb a+nb b:=Nl ..
theorem pZ{k:Tk}(h:k≠ .lp)(l:JP Tk):nb (k::l)=nb l:=Lv h
theorem ua(l:JP Tk):nb (.lp::l)=nb l+1:=Mf
noncomputable def b1(b:KS):Nat:=if b then 1 else 0
theorem rj(c:KS)(l:JP Tk):nb (brk c l)=nb l+b1 c:=by
 cases c with
 |false=>rfl
 |true=>
  show nb (.lp::(l++[.rp]))=nb l+1;rw[ua,mz];rfl
theorem Ef(a:Tr):need (.no a)=need a+b1 a.isBE:=by
 show nb (.no::brk a.isBE (wr a))=_;rw[pZ (by decide),rj];rfl
theorem Cv(x y:Tr):need (.both x y)=need x+b1 x.isE+(need y+b1 y.isBE):=by
 show nb (brk x.isE (wr x)++ .and::brk y.isBE (wr y))=_;rw[mz,pZ (by decide),rj,rj];rfl
theorem Bz(x y:Tr):need (.either x y)=need x+(need y+b1 y.isE):=by
 show nb (wr x++ .or::brk y.isE (wr y))=_;rw[mz,pZ (by decide),rj];rfl
noncomputable abbrev Fq:=Tr×KS
noncomputable def iq(q:Fq):Nat:=if q.2 then 3 else lvl q.1
noncomputable def rq(S:JP Sg):Nat:=match S with|[]=>1|.lp::_=>1|.either::_=>2|_=>3
inductive Op : JP Fq -> JP Sg -> Prop
 |nil : Op [] []
 |lp {F : JP Fq} {S : JP Sg} : Op F S -> Op F (.lp :: S)
 |no {F : JP Fq} {S : JP Sg} : Op F S -> Op F (.no :: S)
 |both {q : Fq} {F : JP Fq} {S : JP Sg} : Op F S -> 2<=iq q -> jN S<=1 -> Op (q :: F) (.both :: S)
 |either {q : Fq} {F : JP Fq} {S : JP Sg} : Op F S -> jN S = 0 -> Op (q :: F) (.either :: S)
noncomputable def cost(F:JP Fq):Nat:=(F.map λq=>need q.1+b1 q.2).sum
theorem i3(q:Fq)(F:JP Fq):cost (q::F)=need q.1+b1 q.2+cost F:=rfl
noncomputable def tr(F:JP Fq):JP Tr:=F.map (·.1)
theorem xI{q:Fq}(h:3<=iq q):b1 q.1.isBE<=b1 q.2/\b1 q.1.isE<=b1 q.2:=by
 obtain⟨t,f⟩:=q;cases f with
 |true=>cases t<;>exact⟨J9 rfl,J9 rfl⟩
 |false=>cases t<;>first|exact⟨J9 rfl,J9 rfl⟩|exact absurd (LS h) J3
theorem AG{q:Fq}(h:2<=iq q):b1 q.1.isE<=b1 q.2:=by
 obtain⟨t,f⟩:=q;cases f with
 |true=>cases t<;>exact J9 rfl
 |false=>cases t<;>first|exact J9 rfl|exact absurd (LS h) J3
theorem jr{least:Nat}(hl:1<=least)(hl2:least<=2):∀(S:JP Sg) (q:Fq) (F:JP Fq),Op F S->rq S<=iq q->least<=iq q->
  ∃ q' F' S',putAll least (tr (q::F)) S=some (tr (q'::F'),S')/\Op F' S'/\jN S'<least/\least<=iq q'/\cnt S'=cnt S/\cost (q'::F')<=cost (q::F)
 |[],q,F,J,_,h2=>⟨q,F,[],rfl,J,by show 0<_;lia,h2,rfl,JY _⟩
 |.lp::S,q,F,J,_,h2=>⟨q,F,.lp::S,qj (by show 0<_;lia),J,by show 0<_;lia,h2,rfl,JY _⟩
 |.no::S,q,F,J,h1,h2=>by
  cases J with
  |no J=>
   have I:3<=iq q:=h1;obtain⟨q',F',S',a1,a2,a3,a4,ac,U⟩:=jr hl hl2 S (.no q.1,false) F J (by show rq S<=3;cases S with|nil=>decide|cons g S=>cases g<;>exact J9 rfl) (by show least<=3;lia);refine⟨q',F',S',?_,a2,a3,a4,ac.trans (iP (by decide) S).symm,?_⟩
   ·rw[oB (A':=tr ((.no q.1,false)::F)) (show least<=3 by lia) rfl];exact a1
   ·have e:=Ef q.1
    have:=(xI I).1;rw[i3 q];rw[i3 (Tr.no q.1,false)] at U;have b0:b1 false=0:=rfl;simp only[b0] at U
    lia
 |.both::S,q,F,J,h1,h2=>by
  cases J with
  | @both x F _ J hx ht=>
   have I:3<=iq q:=h1;obtain⟨q',F',S',a1,a2,a3,a4,ac,U⟩:=jr hl hl2 S (.both x.1 q.1,false) F J (by show rq S<=2;cases S with|nil=>decide|cons g S=>cases g<;>first|exact J9 rfl|exact absurd (LS ht) J3) (by show least<=2;exact hl2);refine⟨q',F',S',?_,a2,a3,a4,ac.trans (iP (by decide) S).symm,?_⟩
   ·rw[oB (A':=tr ((.both x.1 q.1,false)::F)) (show least<=2 from hl2) rfl];exact a1
   ·have e:=Cv x.1 q.1
    have:=(xI I).1
    have:=AG hx;rw[i3 q,i3 x];rw[i3 (Tr.both x.1 q.1,false)] at U;have b0:b1 false=0:=rfl;simp only[b0] at U
    lia
 |.either::S,q,F,J,h1,h2=>by
  by_cases hle:least=1
  ·cases J with
   | @either x F _ J ht=>
    have I:2<=iq q:=h1;subst hle;obtain⟨q',F',S',a1,a2,a3,a4,ac,U⟩:=jr hl hl2 S (.either x.1 q.1,false) F J (by show rq S<=1;cases S with|nil=>decide|cons g S=>cases g<;>first|exact J9 rfl|(cases (show _=0 from ht))) (by show 1<=1;decide);refine⟨q',F',S',?_,a2,a3,a4,ac.trans (iP (by decide) S).symm,?_⟩
    ·rw[oB (A':=tr ((.either x.1 q.1,false)::F)) (show 1<=1 by decide) rfl];exact a1
    ·have e:=Bz x.1 q.1
     have:=AG I;rw[i3 q,i3 x];rw[i3 (Tr.either x.1 q.1,false)] at U;have b0:b1 false=0:=rfl;simp only[b0] at U
     lia
  ·have:least=2:=by lia
   subst this;exact⟨q,F,.either::S,qj (by show 1<2;decide),J,by show 1<2;decide,h2,rfl,JY _⟩
noncomputable def RI(s:Ls)(c:Nat):Prop:=match s.st with
 |.first=>∃ F,s.A=tr F/\Op F s.S/\cost F+cnt s.S<=c
 |_=>∃ q F,s.A=tr (q::F)/\Op F s.S/\3<=iq q/\cost (q::F)+cnt s.S<=c
noncomputable def nk(k:Tk):Nat:=if k= .lp then 1 else 0
theorem mJ(S:JP Sg):rq S<=3:=by cases S with|nil=>decide|cons g S=>cases g<;>exact J9 rfl
theorem yq{F:JP Fq}{S:JP Sg}{c:Nat}{k:Tk}{s':Ls}(ho:Op F S)(hc:cost F+cnt S<=c)(h:lI (tr F) S k=some s'):RI s' (c+nk k):=by
 cases k with
 |leaf l=>
  cases h;exact⟨(.leaf l,false),F,rfl,ho,by show 3<=3;decide,by rw[i3];have e:need (Tr.leaf l)=0:=rfl;have J:b1 false=0:=rfl;have U:nk (.leaf l)=0:=rfl;simp only[e,J,U];lia⟩
 |lp=>
  have h':(if cnt S<12 then some (Ls.mk (tr F) (.lp::S) .first) else none)=some s':=h;split at h'
  ·cases h';exact⟨F,rfl,ho.lp,by rw[oH];have n1:nk .lp=1:=rfl;lia⟩
  ·cases h'
 |no=>
  cases h;exact⟨F,rfl,ho.no,by rw[iP (by decide)];have n1:nk .no=0:=rfl;lia⟩
 |near _=>cases h
 |and=>cases h
 |or=>cases h
 |rp=>cases h
theorem mG{q:Fq}{F:JP Fq}{S:JP Sg}{c:Nat}{k:Tk}{s':Ls}(ho:Op F S)(hq:3<=iq q)(hc:cost (q::F)+cnt S<=c)(h:lx (tr (q::F)) S k=some s'):RI s' (c+nk k):=by
 have both:∀ k,(putAll 2 (tr (q::F)) S).bind (λq=>lI q.1 (.both::q.2) k)=some s'->RI s' (c+nk k):=λk h=>by
  obtain⟨U,I,J,a1,a2,a3,a4,ac,a5⟩:=jr (least:=2) (by decide) (by decide) S q F ho (Kj (mJ S) hq) (by lia);rw[a1] at h;exact yq (F:=U::I) (S:= .both::J) (.both a2 a4 (by lia)) (by rw[iP (by decide)];lia) h
 cases k with
 |near n=>cases h
 |leaf l=>exact both _ h
 |lp=>exact both _ h
 |no=>exact both _ h
 |and=>
  obtain⟨U,I,J,a1,a2,a3,a4,ac,a5⟩:=jr (least:=2) (by decide) (by decide) S q F ho (Kj (mJ S) hq) (by lia);have h':(putAll 2 (tr (q::F)) S).bind (λq=>some (Ls.mk q.1 (.both::q.2) .first))=some s':=h;rw[a1] at h';cases h';exact⟨U::I,rfl,.both a2 a4 (Nat.le_of_lt_succ a3),by show cost _+cnt (.both::J)<=_;rw[iP (by decide)];lia⟩
 |or=>
  obtain⟨U,I,J,a1,a2,a3,a4,ac,a5⟩:=jr (least:=1) (by decide) (by decide) S q F ho (Kj (mJ S) hq) (by lia);have h':(putAll 1 (tr (q::F)) S).bind (λq=>some (Ls.mk q.1 (.either::q.2) .first))=some s':=h;rw[a1] at h';cases h';exact⟨U::I,rfl,.either a2 (Nat.lt_one_iff.mp a3),by show cost _+cnt (.either::J)<=_;rw[iP (by decide)];lia⟩
 |rp=>
  obtain⟨U,I,J,a1,a2,a3,a4,ac,a5⟩:=jr (least:=1) (by decide) (by decide) S q F ho (Kj (mJ S) hq) (by lia);have h':(if 0<cnt S then (putAll 1 (tr (q::F)) S).bind (λq=>match q.2 with|_::J=>some (Ls.mk q.1 J .more)|[]=>none) else none)=some s':=h;split at h'
  ·rw[a1] at h';cases J with
   |nil=>cases h'
   |cons g J=>
    cases h';have hg:g= .lp:=by cases g<;>first|rfl|exact absurd (LS a3) J3
    subst hg;cases a2 with
    |lp a2=>
     refine⟨(U.1,true),I,rfl,a2,JY 3,?_⟩;rw[i3] at a5 ⊢;rw[oH] at ac;have bt:b1 true=1:=rfl;simp only[bt];show need U.1+1+cost I+cnt J<=c+nk .rp
     lia
  ·cases h'
theorem pY{s s':Ls}{c:Nat}{k:Tk}(hi:RI s c)(h:dP s k=some s'):RI s' (c+nk k):=by
 obtain⟨A,S,st⟩:=s;cases st with
 |first=>
  obtain⟨F,rfl,U,J⟩:=hi;exact yq U J h
 |more=>
  obtain⟨q,F,rfl,U,I,J⟩:=hi;exact mG U I J h
 |plain=>
  obtain⟨q,F,rfl,U,I,J⟩:=hi;cases k with
  |near n=>
   cases h;exact⟨q,F,rfl,U,I,J⟩
  |leaf l=>exact mG U I J h
  |lp=>exact mG U I J h
  |no=>exact mG U I J h
  |and=>exact mG U I J h
  |or=>exact mG U I J h
  |rp=>exact mG U I J h
 |near n=>
  obtain⟨q,F,e,U,I,J⟩:=hi;have h':rf n A S k=some s':=h;cases k with
  |leaf b=>
   cases A with
   |nil=>cases h'
   |cons x r=>
    cases x with
    |leaf a=>
     cases h';have e':Tr.leaf a::r=q.1::tr F:=e;injection e' with e1 e2;refine⟨(.near a b n,q.2),F,by rw[e2];rfl,U,by show 3<=iq _;unfold iq;split<;>exact JY 3,?_⟩;rw[i3] at J ⊢;have n1:need (Tr.near a b n)=0:=rfl;have n2:need (Tr.leaf a)=0:=rfl;rw[<-e1,n2] at J;simp only[n1];show 0+b1 q.2+cost F+cnt S<=_;have aa:0+b1 q.2+cost F+cnt S<=c:=J
     lia
    |near _ _ _=>cases h'
    |both _ _=>cases h'
    |either _ _=>cases h'
    |no _=>cases h'
  |near _=>cases h'
  |no=>cases h'
  |and=>cases h'
  |or=>cases h'
  |lp=>cases h'
  |rp=>cases h'
theorem Aw:∀(l:JP Tk) {s s':Ls} {c:Nat},RI s c->eN s l=some s'->RI s' (c+nb l)
 |[],s,s',c,hi,h=>by cases h;exact hi
 |k::l,s,s',c,hi,h=>by
  have h':(dP s k).bind (λs'=>eN s' l)=some s':=h;cases e:dP s k with
  |none=>rw[e] at h';cases h'
  |some s1=>
   rw[e] at h';have r:=Aw l (pY hi e) h';have:c+nk k+nb l=c+nb (k::l):=by
    unfold nk;split
    ·rename_i z;rw[z,ua];lia
    ·rename_i z;rw[pZ z];lia
   rw[this] at r;exact r
theorem few{l:JP Tk}{s:Ls}{t:Tr}(h:eN ⟨[],[],.first⟩ l=some s)(hf:fM s=some t):need t<=nb l:=by
 have r:=Aw l (c:=0) (s:=⟨[],[],.first⟩) ⟨[],rfl,.nil,JY _⟩ h;rw[Nat.zero_add] at r;unfold fM at hf;split at hf
 ·rename_i hw;obtain⟨hw,U⟩:=hw;have r':∃ q F,s.A=tr (q::F)/\Op F s.S/\3<=iq q/\cost (q::F)+cnt s.S<=nb l:=by
   unfold RI at r;rcases hw with hw|hw<;>(rw[hw] at r;exact r)
  obtain⟨q,F,e,ho,hq,hc⟩:=r';obtain⟨I,F',S',a1,a2,a3,a4,ac,a5⟩:=jr (least:=1) (by decide) (by decide) s.S q F ho (Kj (mJ _) hq) (by lia);rw[e,a1] at hf;cases S' with
  |cons g S'=>
   have hg:g= .lp:=by cases g<;>first|rfl|exact absurd (LS a3) J3
   subst hg;rw[oH] at ac
   lia
  |nil=>
   cases a2;have J:some I.1=some t:=hf;have e3:I.1=t:=Kg J;rw[i3] at a5;rw[<-e3]
   lia
 ·cases hf
open K01 (dA)
noncomputable def sl(s:JP Nat)(p q:Nat):JP Nat:=(s.drop p).take (q-p)
noncomputable def dj(L:JP Nat)(e:Nat):Nat:=e+((L.drop e).takeWhile dA).length
theorem rZ{L:JP Nat}{e:Nat}(h:e<=L.length):e<=dj L e/\dj L e<=L.length:=by
 unfold dj;have h1:=List.takeWhile_sublist (l:=L.drop e) dA;have:=h1.length_le;rw[KH] at this
 lia
theorem xG{L:JP Nat}{e c:Nat}(h:L[e]? =some c)(hs:dA c=true):dj L (e+1)=dj L e:=by
 unfold dj;obtain⟨J,U⟩:=List.getElem?_eq_some_iff.mp h;rw[Lb J,U,LC,J1 hs,JV]
 lia
theorem Jw{L:JP Nat}{e c:Nat}(h:L[e]? =some c)(hs:dA c=false):dj L e=e:=by
 unfold dj;obtain⟨J,U⟩:=List.getElem?_eq_some_iff.mp h;rw[Lb J,U,LC,if_neg (by rw[hs];exact J3)];rfl
theorem Dj{L:JP Nat}{e:Nat}(h:L.length<=e):dj L e=e:=by
 unfold dj;rw[MD h];rfl
noncomputable def fq(L:JP Nat)(b:Nat):Nat:=b+((L.drop b).takeWhile λc=>decide (c≠34)).length
theorem FK{L:JP Nat}{e c:Nat}(h:L[e]? =some c)(hs:c≠34):fq L e=fq L (e+1):=by
 unfold fq;obtain⟨J,U⟩:=List.getElem?_eq_some_iff.mp h;rw[Lb J,U,LC,J1 (JS hs),JV]
 lia
theorem Bu{L:JP Nat}{e:Nat}(h:L[e]? =some 34):fq L e=e:=by
 unfold fq;obtain⟨J,U⟩:=List.getElem?_eq_some_iff.mp h;rw[Lb J,U,LC,if_neg (by decide)];rfl
theorem Hk{L:JP Nat}{e:Nat}(h:L.length<=e):fq L e=e:=by
 unfold fq;rw[MD h];rfl
theorem uT{L:JP Nat}:∀(n:Nat) {b k:Nat},k-b=n->b<=k->k<=L.length->(∀ v,b<=v->v<k->∀ c,L[v]? =some c->c≠34)->fq L b=fq L k
 |0,b,k,hn,hb,_,_=>by rw[show b=k by lia]
 |n+1,b,k,hn,hb,hk,h=>by
  have U:b<L.length:=by lia
  have J:L[b]? =some L[b]:=List.getElem?_eq_getElem U;rw[FK J (h b (JY _) (by lia) _ J)];exact uT n (by lia) (by lia) hk λv h1 h2=>h v (by lia) h2
theorem zH{L:JP Nat}{b:Nat}(h:b<=L.length):b<=fq L b/\fq L b<=L.length:=by
 unfold fq;have h1:=List.takeWhile_sublist (l:=L.drop b) λc=>decide (c≠34)
 have:=h1.length_le;rw[KH] at this
 lia
end RA
namespace K13
open PySem L2 PyProof.Rows PySem.Spec Gn K01
open RA (sl dj)
theorem gN(c d:Nat):decide (V.str ⟨#[c]⟩=V.str ⟨#[d]⟩)=decide (c=d):=by
 by_cases h:c=d
 ·subst h;simp
 ·rw[JQ h];exact JQ λz=>h (by injection z with z;injection z with z;simpa using z)
theorem u7(a b:JP Nat):decide (V.str ⟨a.toArray⟩=V.str ⟨b.toArray⟩)=decide (a=b):=by
 by_cases h:a=b
 ·subst h;simp
 ·rw[JQ h];exact JQ λz=>h (by injection z with z;injection z with z;simpa using z)
theorem yP(l:JP Nat){a b:Nat}(hab:a<=b)(hb:b<=l.length):Txt.slice ⟨l.toArray⟩ (some (a:Int)) (some (b:Int))=⟨((l.drop a).take (b-a)).toArray⟩:=by
 have h:=NT (⟨l.toArray⟩:Str) hab (by rw[dv];exact hb)
 have e:(⟨l.toArray⟩:Str).cps.toList=l:=by simp
 rw[e] at h;exact h
theorem Jf(x:Str)(l:JW Int){b:Int}(h:(x.length:Int)<=b):Txt.slice x l (some b)=Txt.slice x l (some (x.length:Int)):=by
 have e:Lh l (some b) 1 x.length=Lh l (some (x.length:Int)) 1 x.length:=by
  unfold Lh;have h0:¬ b<0:=by lia
  have h1:¬ (x.length:Int)<0:=by lia
  have h2:min b (x.length:Int)=min (x.length:Int) (x.length:Int):=by lia
  have p:(1:Int)>0:=by decide
  simp only[if_neg h0,if_neg h1,h2,J1 p]
 unfold Txt.slice;rw[e]
theorem jf(l:JP Nat){a b:Nat}(hab:a<=b)(ha:a<=l.length):Txt.slice ⟨l.toArray⟩ (some (a:Int)) (some (b:Int))=⟨(RA.sl l a b).toArray⟩:=by
 by_cases hb:b<=l.length
 ·exact yP l hab hb
 ·rw[Jf _ _ (by rw[dv];lia),dv,yP l ha (JY _)];unfold RA.sl;rw[Lq (by rw[KH];lia),Lq (by rw[KH];lia)]
theorem EE{a b:Prop}(h:if true=true then a else b):a:=by rwa [J1 rfl] at h
theorem Dm{a b:Prop}(h:if false=true then a else b):b:=by rwa [if_neg J3] at h
noncomputable abbrev Pq:=Str×Kf×Nat
noncomputable def jW(H:Hp)(p:JR)(q:Pq):Prop:=∃ v,H p=some (.tup [.str q.1,v,.int (q.2.2:Nat)])/\cD false H v q.2.1
theorem jW.same {H H':Hp}{p:JR}{q:Pq}(h:jW H p q)(s:bY H H'):jW H' p q:=by
 obtain⟨v,h1,h2⟩:=h;exact⟨v,s _ _ h1,h2.same s⟩
noncomputable abbrev sT(l:JP Nat):Str:=⟨l.toArray⟩
noncomputable def jz(L:JP Nat):Pq:=("none",.none,L.length)
noncomputable def kr(L:JP Nat)(b:Nat):Pq:=if sl L (dj L b) (dj L b+1)=[42] then ("leaf",.tuple [.str "start",.str (sT (sl L b (dj L b)))],dj L b+1) else if isJ (sT (sl L b (dj L b))) then (sT (sl L b (dj L b)),.none,dj L b) else ("leaf",.tuple [.str "word",.str (sT (sl L b (dj L b)))],dj L b)
section
variable {P : Ka} {w : Ku} {K : J7} {mg : Str -> JW JT} {base : KP}
noncomputable def oS(H:Hp)(q:Pq)(Q:VK):Prop:=∀ p H',bY H H'->jW H' p q->Q (.ref p) H'
noncomputable def rY:Sp:=λvs H Q _=>∃ L:JP Nat,vs=[.str (sT L)]/\L.length<=20000/\oS H (jz L) Q
theorem E5:da ["line"] ["line"] (cG mw):=⟨rfl,rfl,rfl,dkq,rfl,dkq,dkq⟩
seal cH PS PE PT PA PG PI cT cP in
theorem uD{f:JR}{fd:J2}(D:Df K mg "no_piece" mw f fd)(T:Txt mg):bX P w K mg base b7 1 f fd ["line"] rY:=by
 refine D.F.ok E5 (λvs H Q E h=>?_) (λcdv A outer s H vs Q E J h=>?_)
 ·obtain⟨L,rfl,_⟩:=h;rfl
 ·obtain⟨L,rfl,U,k⟩:=h;refine⟨_,b5 (cy (dm (bU b8 (bU ir (bU (dE ia rfl T.len e8 (bU (pv 0) bV)) bV))))),?_⟩;refine⟨_,rfl,_,rfl,dC (by rw[dv];lia),fH,λp hp=>k p _ (cq hp) ⟨.non,?_,.non⟩⟩;rw[b6,dv];rfl
noncomputable def uY:Sp:=λvs H Q _=>∃(L:JP Nat) (b:Nat),vs=[.str (sT L),.int b]/\L.length<=20000/\b<=L.length/\Q (.int (dj L b:Nat)) H
theorem wF:da ["line","begin","end"] ["line","begin"] (cG nu):=⟨rfl,rfl,rfl,dkq,rfl,dkq,dkq⟩
seal cH PS PE PT PA PG PI cT cP in
theorem zd{f:JR}{fd:J2}(D:Df K mg "end_of_row" nu f fd)(T:Txt mg):bX P w K mg base b7 1 f fd ["line","begin"] uY:=by
 obtain⟨tc,cc⟩:=T.cSmall;refine D.F.ok wF (λvs H Q E h=>?_) (λcdv A outer s H vs Q E hr h=>?_)
 ·obtain⟨L,b,rfl,_⟩:=h;rfl
 ·obtain⟨L,b,rfl,hl,hb,k⟩:=h;refine⟨_,b9 (cZ (i:=2) wF.nd rfl (Kh rfl) (pv 1))
   (b9 (kj KZ (PW.pt (hZ (cx iS (pv 2) (dE ia rfl T.len e8 (bU (pv 0) bV)) (cC _)) (hU (cx pQ (cK gI (pv 0) (pv 2) (λ_ _=>rfl)) (fK (v:= .str (JO "abcdefghijklmnopqrstuvwxyz0123456789")) rfl cc ⟨_,rfl⟩) rfl))))
    (b5 (zY (i:=2) wF.nd rfl (Kh rfl) bZ zD)))
   (b5 (cy (pv 2)))),?_⟩;refine⟨_,rfl,?_⟩;have al:(sT L).length=L.length:=dv L;refine kq (λσ H'=>∃ e:Nat,σ=[some (.str (sT L)),some (.int b),some (.int e)]/\H'=H/\e<=L.length/\dj L e=dj L b) (λσ _=>match σ with|[_,_,some (.int r)]=>L.length-r.toNat|_=>0) ⟨b,rfl,rfl,hb,rfl⟩ ?_ ?_
  ·rintro σ H' ⟨e,rfl,rfl,he,hE⟩;refine⟨_,rfl,_,rfl,_,rfl,dC (by rw[al];lia),_,_,rfl,rfl,_,rfl,?_⟩;rw[al];by_cases J:e<L.length
   ·rw[JS (show(e:Int)<(L.length:Int) by lia)];have U:L[e]? =some (L[e]):=List.getElem?_eq_getElem J;refine cg ⟨_,rfl,_,rfl,_,_,L[e],rfl,rfl,dC (by rw[al];lia),cJ (j:=e) (by simpa using U),_,_,rfl,rfl,_,rfl,?_⟩;rw[qY];cases hs:dA L[e] with
    |true=>
     refine cg ⟨_,rfl,_,_,rfl,rfl,⟨e+1,rfl,rfl,by lia,by rw[RA.xG U hs];exact hE⟩,?_⟩;show L.length-((e:Int)+1).toNat<L.length-((e:Int)).toNat
     lia
    |false=>
     refine cj ⟨_,rfl,?_⟩;rw[RA.Jw U hs] at hE;rw[hE];exact k
   ·rw[JQ (show ¬ (e:Int)<(L.length:Int) by lia)];refine cj (cj ⟨_,rfl,?_⟩);rw[RA.Dj (by lia)] at hE;rw[hE];exact k
  ·intro σ H' Q1 Q2 I h;obtain⟨x,h1,y,h2,z,h3,h4,i,j,e1,e2,b,e3,q⟩:=h;refine⟨x,h1,y,h2,z,h3,h4,i,j,e1,e2,b,e3,?_⟩;cases b with
   |true=>
    have q':=EE q;obtain⟨v,g1,u,g2,S,i2,c,f1,f2,f3,f4,a,d,k1,k2,bb,k3,q2⟩:=q';exact cg ⟨v,g1,u,g2,S,i2,c,f1,f2,f3,f4,a,d,k1,k2,bb,k3,I _ _ q2⟩
   |false=>exact cj (I _ _ (Dm q))
noncomputable def AQ:Sp:=λvs H Q _=>∃(L:JP Nat) (b:Nat),vs=[.str (sT L),.int b]/\L.length<=20000/\b<=L.length/\oS H (kr L b) Q
theorem vB:da ["line","begin","end","word"] ["line","begin"] (cG pG):=⟨rfl,rfl,rfl,dkq,rfl,dkq,dkq⟩
seal cH PS PE PT PA PG PI cT cP in
theorem Bw{f fe j:JR}{fd fde:J2}(D:Df K mg "word_piece" pG f fd)(DE:Df K mg "end_of_row" nu fe fde)(hJ:mg "JOINING"=some (.ref j))(kJ:∀ H,cu K H j gU)(T:Txt mg):bX P w K mg base b7 2 f fd ["line","begin"] AQ:=by
 have GE:bX P w K mg base b7 1 fe fde ["line","begin"] uY:=zd DE T
 have bE:=DE.F.binds (ps:=["line","begin"]) λ_ _ _ _ _ _ us I=>eU (λ_ _=>rfl) us I
 refine D.F.ok vB (λvs H Q E h=>?_) (λcdv A outer s H vs Q E hr h=>?_)
 ·obtain⟨L,b,rfl,_⟩:=h;rfl
 ·obtain⟨L,b,rfl,I,hb,k⟩:=h;have al:(sT L).length=L.length:=dv L;obtain⟨r1,r2⟩:=RA.rZ hb;refine⟨_,b9 (cZ (i:=2) vB.nd rfl (Kh rfl) (cQ GE hr rfl DE.m DE.F.kp bE .nil cz (bU (pv 0) (bU (pv 1) bV))))
   (b9 (cZ (i:=3) vB.nd rfl (Kh rfl) (gP gM (pv 0) (fE (pv 1)) (fE (pv 2))))
   (b9 (cM (cx cU (gP gM (pv 0) (fE (pv 2)) (fE (cA eD (pv 2) bZ))) b8 (cC _)) (b5 (cy (dm (bU b8 (bU (dm (bU b8 (bU (pv 3) bV))) (bU (cA eD (pv 2) bZ) bV)))))) cX)
   (b9 (cM (cx kE (pv 3) (fK (v:= .ref j) rfl hJ rfl) rfl) (b5 (cy (dm (bU (pv 3) (bU ir (bU (pv 2) bV)))))) cX)
   (b5 (cy (dm (bU b8 (bU (dm (bU b8 (bU (pv 3) bV))) (bU (pv 2) bV))))))))),?_⟩;refine⟨_,rfl,_,rfl,L,b,rfl,I,hb,?_⟩;refine⟨_,rfl,_,rfl,_,rfl,_,rfl,_,rfl,_,rfl,dC (by rw[al];lia),?_⟩;rw[jf L r1 hb];refine⟨_,rfl,_,rfl,_,rfl,_,rfl,_,_,rfl,rfl,((dj L b+1:Nat):Int),rfl,_,rfl,dC (by rw[al];lia),rfl,_,rfl,?_⟩;rw[jf L (by lia) r2,show decide (V.str ⟨(sl L (dj L b) (dj L b+1)).toArray⟩=V.str (JO "*"))=decide (sl L (dj L b) (dj L b+1)=[42]) from u7 _ [42]];unfold kr at k;by_cases h1:sl L (dj L b) (dj L b+1)=[42]
  ·rw[J1 h1] at k;rw[JS h1];refine cg ⟨_,rfl,eK,λp1 J=>⟨_,rfl,_,_,rfl,rfl,fH,λp hp=>?_⟩⟩;have s1:bY H (upd H p1 (.tup [.str (JO "start"),.str (sT (sl L b (dj L b)))])):=cq J;refine k p _ (bY.upf s1 hp) ⟨.ref p1,by rw[b6];rfl,.tup (by rw[cF (λz=>by rw[<-z,b6] at hp;cases hp)];exact b6) (.cons (.str _) (.cons (.str _) .nil))⟩
  ·rw[if_neg h1] at k;rw[JQ h1];refine cj ⟨_,rfl,j,gU,rfl,.inr (kJ _),rfl,rfl,_,rfl,jd (λU=>?_) (λU=>?_)⟩
   ·have hj:isJ (sT (sl L b (dj L b)))=true:=U;rw[J1 hj] at k;exact⟨_,rfl,_,rfl,fH,λp hp=>k p _ (cq hp) ⟨.non,b6,.non⟩⟩
   ·have hj:¬ isJ (sT (sl L b (dj L b)))=true:=U;rw[if_neg hj] at k;refine⟨_,rfl,eK,λp1 J=>⟨_,rfl,fH,λp hp=>?_⟩⟩;have s1:bY H (upd H p1 (.tup [.str (JO "word"),.str (sT (sl L b (dj L b)))])):=cq J;refine k p _ (bY.upf s1 hp) ⟨.ref p1,b6,.tup (by rw[cF (λz=>by rw[<-z,b6] at hp;cases hp)];exact b6) (.cons (.str _) (.cons (.str _) .nil))⟩
end
noncomputable def rR(w:JP Nat):JW Nat:=(LL 21).find? λn=>decide (w=dF (n:Int))
noncomputable def kb(L:JP Nat)(b:Nat):Pq:=match rR (sl L (b+1) (dj L (b+1))) with|some n=>("~",.int n,dj L (b+1))|none=>jz L
theorem find_none{p:Nat->KS}:∀{n:Nat},(∀ m,m<n->p m=false)->(LL n).find? p=none:=λh=>List.find?_eq_none.mpr λx J=>by
 rw[h x (List.mem_range.mp J)];exact J3
theorem EB{p:Nat->KS}{n k:Nat}(hk:k<n)(h:∀ m,m<k->p m=false)(hp:p k=true):(LL n).find? p=some k:=by
 have e:LL n=LL k++(LL (n-k)).map (k + ·):=by
  rw[<-List.range_add,Nat.add_sub_cancel' (M3 hk)]
 rw[e,List.find?_append,find_none h];obtain⟨d,hd⟩:∃ d,n-k=d+1:=⟨n-k-1,by lia⟩;rw[hd,List.range_succ_eq_map];simp[hp]
section
variable {P : Ka} {w : Ku} {K : J7} {mg : Str -> JW JT} {base : KP}
noncomputable def zg:Sp:=λvs H Q _=>∃(L:JP Nat) (b:Nat),vs=[.str (sT L),.int b]/\L.length<=20000/\b<L.length/\oS H (kb L b) Q
theorem wH:da ["line","begin","end","far"] ["line","begin"] (cG pK):=⟨rfl,rfl,rfl,dkq,rfl,dkq,dkq⟩
seal cH PS PE PT PA PG PI cT cP in
theorem Cf{f fe fn:JR}{fd fde fdn:J2}(D:Df K mg "far_piece" pK f fd)(DE:Df K mg "end_of_row" nu fe fde)(DN:Df K mg "no_piece" mw fn fdn)(T:Txt mg):bX P w K mg base b7 2 f fd ["line","begin"] zg:=by
 have GE:bX P w K mg base b7 1 fe fde ["line","begin"] uY:=zd DE T
 have bE:=DE.F.binds (ps:=["line","begin"]) λ_ _ _ _ _ _ us U=>eU (λ_ _=>rfl) us U
 have GN:bX P w K mg base b7 1 fn fdn ["line"] rY:=uD DN T
 have bN:=dY (p:="line") DN.F λ_ _ _ _ _ _ _=>rfl
 obtain⟨tf,cf⟩:=T.cFar;refine D.F.ok wH (λvs H Q E h=>?_) (λcdv A outer s H vs Q E hr h=>?_)
 ·obtain⟨L,b,rfl,_⟩:=h;rfl
 ·obtain⟨L,b,rfl,U,hb,k⟩:=h;have al:(sT L).length=L.length:=dv L;obtain⟨r1,r2⟩:=RA.rZ (L:=L) (e:=b+1) (by lia);refine⟨_,b9 (cZ (i:=2) wH.nd rfl (Kh rfl) (cQ GE hr rfl DE.m DE.F.kp bE .nil cz (bU (pv 0) (bU (cA eD (pv 1) bZ) bV))))
   (b9 (kT KZ rfl (lF rfl T.range (bU (cA eD (fK (v:= .int 20) rfl cf ⟨_,rfl⟩) bZ) bV)) (eY (i:=3) wH.nd rfl (Kh rfl))
    (b5 (cM (cx cU (gP gM (pv 0) (fE (cA eD (pv 1) bZ)) (fE (pv 2))) (ie vv rfl T.str nj (bU (pv 3) bV)) (cC _)) (b5 (cy (dm (bU b8 (bU (pv 3) (bU (pv 2) bV)))))) cX)))
   (b5 (cy (cQ GN hr rfl DN.m DN.F.kp bN .nil cz (bU (pv 0) bV))))),?_⟩;refine⟨_,rfl,_,rfl,_,_,rfl,rfl,L,b+1,rfl,U,by lia,?_⟩;refine⟨_,_,rfl,rfl,(21:Int),rfl,by decide,by decide,?_⟩;refine tP (λi σ H'=>∃ I,σ=[some (.str (sT L)),some (.int b),some (.int (dj L (b+1):Nat)),I]/\H'=H/\∀ m,m<i->decide (sl L (b+1) (dj L (b+1))=dF (m:Int))=false) ?_ ?_ ?_
  ·exact⟨none,rfl,rfl,λm hm=>absurd hm (Nat.not_lt_zero m)⟩
  ·rintro i σ H' hi ⟨I,rfl,rfl,J⟩;have aa:i<21:=hi;rw[show(0:Int)+(i:Nat)=(i:Int) by lia];refine⟨_,rfl,_,rfl,_,_,rfl,rfl,((b+1:Nat):Int),rfl,_,rfl,_,rfl,_,rfl,dC (by rw[al];lia),_,rfl,(i:Int),rfl,?_,rfl,_,rfl,?_⟩
   ·rw[Int.natAbs_natCast];exact N5 (Nat.log2_le_self i) (by lia)
   rw[jf L r1 (by lia),show decide (V.str ⟨(sl L (b+1) (dj L (b+1))).toArray⟩=V.str (JO (toString (i:Int))))=decide (sl L (b+1) (dj L (b+1))=dF (i:Int)) from by
    have:=u7 (sl L (b+1) (dj L (b+1))) (dF (i:Int));rw[show(⟨(dF (i:Int)).toArray⟩:Str)=JO (toString (i:Int)) from toStr _] at this;exact this];cases hd:decide (sl L (b+1) (dj L (b+1))=dF (i:Int)) with
   |true=>
    refine cg ⟨_,rfl,_,rfl,fH,λp hp=>k p _ (cq hp) ?_⟩;unfold kb rR;rw[EB (p:=λn=>decide (sl L (b+1) (dj L (b+1))=dF (n:Int))) aa J hd];exact⟨.int i,b6,.int _⟩
   |false=>
    refine cj ⟨_,rfl,rfl,λm hm=>?_⟩;by_cases q:m<i
    ·exact J m q
    ·have:m=i:=by lia
     rw[this];exact hd
  ·rintro σ H' ⟨I,rfl,rfl,J⟩;refine⟨_,rfl,L,rfl,U,?_⟩;have e:kb L b=jz L:=by
    unfold kb rR;rw[find_none (n:=21) (p:=λn=>decide (sl L (b+1) (dj L (b+1))=dF (n:Int))) J]
   rw[e] at k;exact k
end
end K13
namespace L2
open PySem PySem.Spec PyProof.Rows
section
variable {X : Cx}
theorem D8:jC X "str.find" (λx xs H Q=>∃ z y i,x= .str z/\xs=[.str y,.int i]/\Q (.int (Txt.find3 z y i)) H):=by
 intro pins s σ H x xs v us Q I J rs h;obtain⟨z,y,i,rfl,rfl,q⟩:=h;obtain⟨t,rfl⟩:=J;obtain⟨U,u2,rfl,⟨t1,rfl⟩,⟨t2,rfl⟩⟩:=vals2 rs;exact SC.find3 ⟨.int _,H,I.tok _,⟨_,rfl⟩,q⟩
theorem AO(z:Str):(Txt.words z).length<=z.length+1:=by
 have:=len_le_of_words (l:=(Txt.words z).map λy=>(y,(0:Tok))) (x:=z) (by rw[LB];exact OF _)
 rwa [JX] at this
theorem Cg(z:Str):(Nn z (z.length+1)).length<=z.length+1:=by
 have h:=AO z;unfold Txt.words at h;by_cases c:(Nn z (z.length+1) == [(0,z.length)])=true
 ·have e:=eq_of_beq c;rw[e];exact ON 1 _
 ·rw[if_neg c] at h;unfold wordsOf at h
  rwa [JX] at h
theorem we:∀(n:Nat) (ys:JP Str),Vals (ys.map V.str) (strsFrom n ys)
 |_,[]=> .nil
 |n,y::ys=> .cons ⟨_,rfl⟩ (we (n+1) ys)
theorem HY:jC X "str.split" (λx xs H Q=>∃ z,x= .str z/\xs=[]/\z.length<=100000/\∀ p,H p=none->Q (.ref p) (upd H p (.lst ((Txt.words z).map V.str)))):=by
 intro pins s σ H x xs v us Q I U rs h;obtain⟨z,rfl,rfl,hz,q⟩:=h;obtain⟨t,rfl⟩:=U;have J:=rs.zero;subst J;have hl:(sizeLine:Nat)=16777216:=Kv;have b1:=Cg z;have b2:=AO z;have hf:H s.heap.objs.size=none:=I.hok.fresh (JY _);refine MY Mr (Nf s z t) Np (F.args_str_split_1 _) (meets_str_split_space z t (by lia) (by lia)) ?_;by_cases c:(Nn z (z.length+1) == [(0,z.length)])=true
 ·rw[J1 c];have e:Txt.words z=[z]:=by unfold Txt.words;rw[J1 c]
  rw[e] at q;exact⟨.ref s.heap.objs.size,_,I.laid (t':=s.toks) (o:= .lst [.str z]) (λb u e=>Heap.get?_push_of_some _ e) (JY _) ⟨by show 1<=_;lia,[.str z t],0,.cons ⟨_,rfl⟩ .nil,Heap.get?_push_size _ rfl⟩,rfl,q _ hf⟩
 ·rw[if_neg c];have e:Txt.words z=wordsOf z:=by unfold Txt.words;rw[if_neg c]
  rw[e] at q b2;exact⟨.ref s.heap.objs.size,_,I.laid (o:= .lst ((wordsOf z).map V.str)) (λb u e=>Heap.get?_push_of_some _ e) (JY _) ⟨by rw[JX];lia,_,0,we s.toks (wordsOf z),Heap.get?_push_size _ rfl⟩,rfl,q _ hf⟩
end
end L2
namespace K13
open PySem L2 PyProof.Rows PySem.Spec Gn K01
open RA (sl dj fq)
theorem Ek{L:JP Nat}{b:Nat}(hb:b<=L.length):Txt.find3 (sT L) (JO "\"") (b:Int)=if fq L b<L.length then ((fq L b:Nat):Int) else -1:=by
 have hf:fromIndex (sT L).length (b:Int)=b:=by
  unfold fromIndex;rw[if_neg (by lia)]
  lia
 have J:∀ v,(sT L).cps.getD v 0=L.getD v 0:=λv=>by
  show L.toArray.getD v 0=_;simp
 have U:=StrLaws.find3_spec (sT L) 34 (b:Int);rw[hf] at U;have al:(sT L).length=L.length:=dv L;rw[al] at U;rcases U with ⟨e,h⟩|⟨k,e,h1,h2,h3,h4⟩
 ·have:fq L b=L.length:=by
   rw[RA.uT (L.length-b) rfl hb (JY _) λv v1 v2 c I=>?_,RA.Hk (JY _)];have:=h v v1 v2;rw[J,List.getD_eq_getElem?_getD,I] at this;exact this
  rw[this,if_neg (Kw _)];exact e
 ·have hg:L[k]? =some 34:=by
   rw[J,List.getD_eq_getElem?_getD,List.getElem?_eq_getElem h2] at h3;rw[List.getElem?_eq_getElem h2];exact K9 some h3
  have:fq L b=k:=by
   rw[RA.uT (k-b) rfl h1 (M3 h2) λv v1 v2 c I=>?_,RA.Bu hg];have:=h4 v v1 v2;rw[J,List.getD_eq_getElem?_getD,I] at this;exact this
  rw[this,J1 h2];exact e
noncomputable def fX(c:Nat):KS:=decide (c=32)||dA c
noncomputable def qK(L:JP Nat)(b:Nat):JP Str:=Txt.words (sT (sl L (b+1) (fq L (b+1))))
noncomputable def g9(ws:JP Str):Kf:=if ws.length=1 then .tuple [.str "word",.str (ws.getD 0 "")] else .tuple [.str "row",.tuple (ws.map .str)]
noncomputable def jo(L:JP Nat)(b:Nat):Pq:=if fq L (b+1)<L.length/\(sl L (b+1) (fq L (b+1))).all fX=true/\1<=(qK L b).length/\(qK L b).length<=8 then ("leaf",g9 (qK L b),fq L (b+1)+1) else jz L
section
variable {P : Ka} {w : Ku} {K : J7} {mg : Str -> JW JT} {base : KP}
noncomputable def y3:Sp:=λvs H Q _=>∃(L:JP Nat) (b:Nat),vs=[.str (sT L),.int b]/\L.length<=20000/\b<L.length/\oS H (jo L b) Q
noncomputable abbrev zT:JP Str:=["line","begin","end","signs","words","leaf"]
theorem pF:da zT ["line","begin"] (cG nV):=⟨rfl,rfl,rfl,dkq,rfl,dkq,dkq⟩
noncomputable def HW:TE:=λσ H Q=>∃(a:JR) (ws:JP Str),σ[4]? =some (some (.ref a))/\H a=some (.lst (ws.map V.str))/\1<=ws.length/\ws.length<=8/\∀ v H',bY H H'->cD false H' v (g9 ws)->Q v H'
seal cH PS PE PT PA PG PI cT cP in
theorem Hw{f fn:JR}{fd fdn:J2}(D:Df K mg "marked_piece" nV f fd)(DN:Df K mg "no_piece" mw fn fdn)(T:Txt mg):bX P w K mg base b7 2 f fd ["line","begin"] y3:=by
 have GN:bX P w K mg base b7 1 fn fdn ["line"] rY:=uD DN T
 have bN:=dY (p:="line") DN.F λ_ _ _ _ _ _ _=>rfl
 obtain⟨tc,cc⟩:=T.cSmall;obtain⟨tm,cm⟩:=T.cMR;refine D.F.ok pF (λvs H Q E h=>?_) (λcdv A outer s H vs Q E hr h=>?_)
 ·obtain⟨L,b,rfl,_⟩:=h;rfl
 ·obtain⟨L,b,rfl,hl,hb,k⟩:=h;have al:(sT L).length=L.length:=dv L;obtain⟨r1,r2⟩:=RA.zH (L:=L) (b:=b+1) (by lia);refine⟨_,b9 (cZ (i:=2) pF.nd rfl (Kh rfl) (f7 LA F.slot_str_find F.type_str_find D8 (pv 0) (bU b8 (bU (cA eD (pv 1) bZ) bV))))
   (b9 (cM (cx iS (pv 2) bZ (cC _)) (b5 (cy (cQ GN hr rfl DN.m DN.F.kp bN .nil cz (bU (pv 0) bV)))) cX)
   (b9 (cZ (i:=3) pF.nd rfl (Kh rfl) (gP gM (pv 0) (fE (cA eD (pv 1) bZ)) (fE (pv 2))))
   (b9 (cM (gG (fU (dE (tT rfl) rfl T.all uJ (bU (jF (own:=1) (caps:=[]) (N:=["sign"]) (N0:=zT) (sc0:=cG nV) rfl (ux (pv 3))
     (λ_ _ _=>eY (i:=0) vT rfl (Kh rfl)) (λ_ _ _=>i9)
     (λ_ _ _=>zB (ip cU (pv 0) b8 (cC _)) (rN (ip pQ (pv 0) (fK (v:= .str (JO "abcdefghijklmnopqrstuvwxyz0123456789")) rfl cc ⟨_,rfl⟩) rfl))) (iX (by decide)) rfl rfl
     dkq rfl dkq dkq rfl dkq) bV)))) (b5 (cy (cQ GN hr rfl DN.m DN.F.kp bN .nil cz (bU (pv 0) bV)))) cX)
   (b9 (cZ (i:=4) pF.nd rfl (Kh rfl) (iR LA Mr F.type_str_split HY (pv 3)))
   (b9 (cM (PW.pt (gu (cx cU (dE iQ rfl T.len e8 (bU (pv 4) bV)) bZ (cC _)) (ig (cx iH (dE iQ rfl T.len e8 (bU (pv 4) bV)) (fK (v:= .int 8) rfl cm ⟨_,rfl⟩) (cC _))))) (b5 (cy (cQ GN hr rfl DN.m DN.F.kp bN .nil cz (bU (pv 0) bV)))) cX)
   (b9 (cZ (i:=5) pF.nd rfl (Kh rfl) (PE.imp (t':=HW) (i6 (cx cU (dE iQ rfl T.len e8 (bU (pv 4) bV)) bZ (cC _)) (dm (bU b8 (bU (cK fN (pv 4) bZ (λ_ _=>rfl)) bV))) (dm (bU b8 (bU (ie sH rfl T.tuple oX (bU (pv 4) bV)) bV)))) ?mA))
   (b5 (cy (dm (bU b8 (bU (pv 5) (bU (cA eD (pv 2) bZ) bV)))))))))))),?_⟩
  rotate_left
  case mA=>
   rintro σ H Q ⟨a,ws,e4,ha,w1,w2,q⟩;refine⟨_,e4,a,_,rfl,.inl (ck.of ha),rfl,_,rfl,jd (λhb=>?_) (λhb=>?_)⟩
   ·have h1:ws.length=1:=by
     have h1:V.int ((ws.map V.str).length:Int)=V.int 1:=LZ hb;injection h1 with h1;rw[JX] at h1
     lia
    match ws,h1 with
    |[x],_=>
     exact⟨_,e4,a,_,_,_,rfl,rfl,ck.of ha,cJ (j:=0) rfl,eK,λp hp=>q _ _ (cq hp) (.tup b6 (.cons (.str _) (.cons (.str _) .nil)))⟩
   ·have h1:¬ ws.length=1:=λz=>hb (JS (by rw[JX,z];rfl))
    have e:g9 ws= .tuple [.str "row",.tuple (ws.map .str)]:=by unfold g9;rw[if_neg h1]
    rw[e] at q;refine⟨_,e4,a,_,rfl,.inl ⟨ck.of ha,λt ht=>⟨eK,λp hp=>?_⟩⟩⟩;have s1:bY H (upd H t (.tup (ws.map V.str))):=cq ht;exact q _ _ (bY.upf s1 hp) (.tup b6 (.cons (.str _) (.cons (.tup (cq hp _ _ b6) (cV.strs ws)) .nil)))
  refine⟨_,rfl,rfl,_,rfl,_,_,rfl,rfl,_,_,_,rfl,rfl,?_⟩;show g6 2 (V.int (Txt.find3 (sT L) (JO "\"") ((b+1:Nat):Int))) _ _ _;rw[Ek (by lia)];have J:∀{H':Hp},bY H H'->jo L b=jz L->oS H' (jz L) Q:=λ{H'} s0 e p H2 s2 af=>k p H2 (s0.trans s2) (by rw[e];exact af);by_cases hq:fq L (b+1)<L.length
  ·rw[J1 hq];refine⟨_,rfl,_,_,rfl,rfl,_,rfl,?_⟩;rw[JQ (show ¬ ((fq L (b+1):Nat):Int)<0 by lia)];refine cj ⟨_,rfl,_,rfl,_,_,rfl,rfl,((b+1:Nat):Int),rfl,_,rfl,_,rfl,_,rfl,dC (by rw[al];lia),?_⟩;rw[jf L r1 (by lia)];generalize hS:sl L (b+1) (fq L (b+1))=S;have Sl:S.length<=20000:=by
    rw[<-hS];unfold RA.sl;rw[Lr,KH]
    lia
   have mk:jo L b=if S.all fX=true/\1<=(Txt.words (sT S)).length/\(Txt.words (sT S)).length<=8 then ((("leaf":Str),g9 (Txt.words (sT S)),fq L (b+1)+1):Pq) else jz L:=by
    unfold jo qK;rw[hS];by_cases c:S.all fX=true/\1<=(Txt.words (sT S)).length/\(Txt.words (sT S)).length<=8
    ·rw[J1 c,J1 ⟨hq,c⟩]
    ·rw[if_neg c,if_neg λz=>c z.2]
   have ag:(sT S).length=S.length:=dv S;refine⟨_,rfl,sT S,rfl,wu (x:=sT S) (λi ys H'=>H'=H/\ys=((S.take i).map λc=>V.bl (fX c))) (by show S.toArray.size<_;rw[Kk,Kv];lia) ⟨rfl,rfl⟩ ?_ ?_⟩
   ·rintro i c ys H' N hc ⟨rfl,rfl⟩ hN;have aa:S[i]? =some c:=by simpa using hc
    refine g1 ?_;refine⟨_,rfl,rfl,_,rfl,?_⟩;rw[show decide (V.str ⟨#[c]⟩=V.str (JO " "))=decide (c=32) from gN c 32];by_cases U:c=32
    ·rw[JS U];refine cg (hN _ _ ⟨rfl,?_⟩);rw[Lk,aa,J5];show _=_++[V.bl (fX c)];rw[show fX c=true from by unfold fX;rw[JS U];rfl]
    ·rw[JQ U];refine cj ⟨_,rfl,_,_,rfl,rfl,hN _ _ ⟨rfl,?_⟩⟩;rw[qY,Lk,aa,J5];show _=_++[V.bl (fX c)];rw[show fX c=dA c from by unfold fX;rw[JQ U];rfl]
   rintro ys H' ⟨rfl,rfl⟩ _ p hp;have tk:S.take (sT S).cps.size=S:=Lq (by show S.length<=S.toArray.size;rw[Kk];exact JY _);have s1:bY H' (upd H' p (.lst ((S.take (sT S).cps.size).map λc=>V.bl (fX c)))):=cq hp;refine⟨p,S.map fX,rfl,ck.of (by rw[b6,tk,LB];rfl),_,rfl,?_⟩;have ab:(S.map fX).all id=S.all fX:=by rw[OE];rfl
   rw[ab];generalize upd H' p (.lst ((S.take (sT S).cps.size).map λc=>V.bl (fX c)))=H1 at s1 ⊢;cases ha:S.all fX with
   |false=>exact cg ⟨_,rfl,L,rfl,hl,J s1 (by rw[mk,if_neg λz=>by rw[ha] at z;cases z.1])⟩
   |true=>
    refine cj ⟨_,rfl,rfl,sT S,rfl,rfl,by rw[ag];lia,λwl ah=>?_⟩;have s2:bY H1 (upd H1 wl (.lst ((Txt.words (sT S)).map V.str))):=cq ah;have ew:upd H1 wl (.lst ((Txt.words (sT S)).map V.str)) wl=some (.lst ((Txt.words (sT S)).map V.str)):=b6;generalize upd H1 wl (.lst ((Txt.words (sT S)).map V.str))=H2 at s2 ew ⊢;have I:=s1.trans s2;refine⟨_,rfl,wl,_,rfl,.inl (ck.of ew),rfl,_,rfl,jd (λhz=>?_) (λhz=>?_)⟩
    ·have z0:(Txt.words (sT S)).length=0:=by
      have h1:V.int (((Txt.words (sT S)).map V.str).length:Int)=V.int 0:=LZ hz;injection h1 with h1;rw[JX] at h1
      lia
     exact cg ⟨_,rfl,L,rfl,hl,J I (by rw[mk,if_neg λz=>by have:=z.2.1;lia])⟩
    ·have z0:(Txt.words (sT S)).length≠0:=λz=>hz (JS (by rw[JX,z];rfl))
     refine⟨_,rfl,wl,_,rfl,.inl (ck.of ew),_,_,rfl,rfl,_,rfl,?_⟩;rw[JX];by_cases h8:8<(Txt.words (sT S)).length
     ·rw[JS (show(8:Int)<((Txt.words (sT S)).length:Int) by lia)];exact cg ⟨_,rfl,L,rfl,hl,J I (by rw[mk,if_neg λz=>by have:=z.2.2;lia])⟩
     ·rw[JQ (show ¬ (8:Int)<((Txt.words (sT S)).length:Int) by lia)];refine cj ⟨wl,Txt.words (sT S),rfl,ew,by lia,by lia,λv H3 s3 pd=>⟨_,rfl,_,rfl,_,_,rfl,rfl,fH,λq ae=>?_⟩⟩;refine k q _ (bY.upf (I.trans s3) ae) ?_;rw[mk,J1 ⟨ha,by lia,by lia⟩];exact⟨v,by rw[b6];rfl,pd.same (cq ae)⟩
  ·rw[if_neg hq];refine⟨_,rfl,_,_,rfl,rfl,_,rfl,cg ⟨_,rfl,L,rfl,hl,J (bY.refl _) ?_⟩⟩;unfold jo;rw[if_neg λz=>hq z.1]
end
noncomputable def fA(L:JP Nat)(b:Nat):Pq:=if dA (L.getD b 0) then kr L b else if L.getD b 0=40\/L.getD b 0=41 then (sT [L.getD b 0],.none,b+1) else if L.getD b 0=126 then kb L b else if L.getD b 0=34 then jo L b else jz L
theorem DD{L:JP Nat}{b:Nat}(h:b<L.length)(hs:dA (L.getD b 0)=true):b<(kr L b).2.2/\(kr L b).2.2<=L.length:=by
 have U:L[b]? =some (L.getD b 0):=by rw[List.getD_eq_getElem?_getD,List.getElem?_eq_getElem h];rfl
 have I:=RA.xG U hs
 have J:=RA.rZ (L:=L) (e:=b+1) h;rw[I] at J;unfold kr;by_cases c:sl L (dj L b) (dj L b+1)=[42]
 ·rw[J1 c];have:dj L b<L.length:=by
   rcases Nat.lt_or_ge (dj L b) L.length with q|q
   ·exact q
   ·unfold RA.sl at c;rw[MD q,List.take_nil] at c;cases c
  exact⟨by show b<dj L b+1;lia,this⟩
 ·rw[if_neg c];split<;>exact⟨by show b<dj L b;lia,J.2⟩
theorem uS{L:JP Nat}{b:Nat}(h:b<L.length):b<(jz L).2.2/\(jz L).2.2<=L.length:=⟨h,JY _⟩
theorem B9{L:JP Nat}{b:Nat}(h:b<L.length):b<(kb L b).2.2/\(kb L b).2.2<=L.length:=by
 have J:=RA.rZ (L:=L) (e:=b+1) h;unfold kb;split
 ·exact⟨by show b<dj L (b+1);lia,J.2⟩
 ·exact uS h
theorem Br{L:JP Nat}{b:Nat}(h:b<L.length):b<(jo L b).2.2/\(jo L b).2.2<=L.length:=by
 have J:=RA.zH (L:=L) (b:=b+1) h;unfold jo;split
 ·rename_i z;exact⟨by show b<fq L (b+1)+1;lia,z.1⟩
 ·exact uS h
theorem vV{L:JP Nat}{b:Nat}(h:b<L.length):b<(fA L b).2.2/\(fA L b).2.2<=L.length:=by
 unfold fA;by_cases J:dA (L.getD b 0)=true
 ·rw[J1 J];exact DD h J
 rw[if_neg J];by_cases U:L.getD b 0=40\/L.getD b 0=41
 ·rw[J1 U];exact⟨LJ b,h⟩
 rw[if_neg U];by_cases I:L.getD b 0=126
 ·rw[J1 I];exact B9 h
 rw[if_neg I];by_cases c4:L.getD b 0=34
 ·rw[J1 c4];exact Br h
 rw[if_neg c4];exact uS h
noncomputable def sQ(L:JP Nat):Pq:=("end",.none,L.length)
noncomputable def oi(L:JP Nat):Nat->Nat->JP Pq
 |0,_=>[sQ L]
 |n+1,b=>if b<L.length then (if L.getD b 0=32 then oi L n (b+1) else ((fA L b).1,(fA L b).2.1,b)::oi L n (fA L b).2.2) else [sQ L]
theorem nI{L:JP Nat}{b:Nat}(h:L.length<=b):∀ n,oi L n b=[sQ L]
 |0=>rfl
 |n+1=>by
  show(if b<L.length then _ else _)=_;rw[if_neg (by lia)]
theorem nU{L:JP Nat}:∀(n m:Nat) {b:Nat},L.length-b<=n->L.length-b<=m->oi L n b=oi L m b
 |0,m,b,h,_=>by rw[nI (by lia),nI (by lia)]
 |n+1,0,b,_,h=>by rw[nI (by lia),nI (by lia)]
 |n+1,m+1,b,h1,h2=>by
  show(if b<L.length then _ else _)=(if b<L.length then _ else _);by_cases c:b<L.length
  ·rw[J1 c,J1 c];have nx:=vV c;by_cases J:L.getD b 0=32
   ·rw[J1 J,J1 J,nU n m (by lia) (by lia)]
   ·rw[if_neg J,if_neg J,nU n m (by lia) (by lia)]
  ·rw[if_neg c,if_neg c]
noncomputable def parts(L:JP Nat)(b:Nat):JP Pq:=oi L L.length b
theorem zw{L:JP Nat}{b:Nat}(h:b<L.length)(hb:L.getD b 0=32):parts L b=parts L (b+1):=by
 unfold parts;rw[nU L.length (L.length-b-1+1) (by lia) (by lia)];show(if b<L.length then _ else _)=_;rw[J1 h,J1 hb];exact nU _ _ (by lia) (by lia)
theorem A6{L:JP Nat}{b:Nat}(h:b<L.length)(hb:L.getD b 0≠32):parts L b=((fA L b).1,(fA L b).2.1,b)::parts L (fA L b).2.2:=by
 have nx:=vV h;unfold parts;rw[nU L.length (L.length-b-1+1) (by lia) (by lia)];show(if b<L.length then _ else _)=_;rw[J1 h,if_neg hb];rw[nU (L.length-b-1) L.length (by lia) (by lia)]
theorem jW.keep {H H':Hp}{p:JR}{q:Pq}(h:jW H p q)(s:g8 H H'):jW H' p q:=by
 obtain⟨v,h1,h2⟩:=h;exact⟨v,s.2 _ _ h1,h2.keep s⟩
noncomputable def qN(H:Hp)(a:JR)(ps:JP Pq):Prop:=∃ qs:JP JR,H a=some (.lst (qs.map V.ref))/\Lo (λu q=>jW H u q) qs ps
section
variable {P : Ka} {w : Ku} {K : J7} {mg : Str -> JW JT} {base : KP}
noncomputable def xS:Sp:=λvs H Q _=>∃(L:JP Nat) (b:Nat),vs=[.str (sT L),.int b]/\L.length<=20000/\b<L.length/\oS H (fA L b) Q
theorem zV:da ["line","begin","sign"] ["line","begin"] (cG pW):=⟨rfl,rfl,rfl,dkq,rfl,dkq,dkq⟩
seal cH PS PE PT PA PG PI cT cP in
theorem CJ{f fw fe ff fm fn j:JR}{fd fdw fde fdf fdm fdn:J2}(D:Df K mg "piece_at" pW f fd)(DW:Df K mg "word_piece" pG fw fdw)(DE:Df K mg "end_of_row" nu fe fde)(DF:Df K mg "far_piece" pK ff fdf)(DM:Df K mg "marked_piece" nV fm fdm)(DN:Df K mg "no_piece" mw fn fdn)
  (hJ:mg "JOINING"=some (.ref j))(kJ:∀ H,cu K H j gU)(T:Txt mg):bX P w K mg base b7 3 f fd ["line","begin"] xS:=by
 have GW:bX P w K mg base b7 2 fw fdw ["line","begin"] AQ:=Bw DW DE hJ kJ T
 have GF:bX P w K mg base b7 2 ff fdf ["line","begin"] zg:=Cf DF DE DN T
 have GM:bX P w K mg base b7 2 fm fdm ["line","begin"] y3:=Hw DM DN T
 have GN:bX P w K mg base b7 2 fn fdn ["line"] rY:=(uD DN T).mono (by decide)
 have bW:=DW.F.binds (ps:=["line","begin"]) λ_ _ _ _ _ _ us U=>eU (λ_ _=>rfl) us U
 have bF:=DF.F.binds (ps:=["line","begin"]) λ_ _ _ _ _ _ us U=>eU (λ_ _=>rfl) us U
 have bM:=DM.F.binds (ps:=["line","begin"]) λ_ _ _ _ _ _ us U=>eU (λ_ _=>rfl) us U
 have bN:=dY (p:="line") DN.F λ_ _ _ _ _ _ _=>rfl
 obtain⟨tc,cc⟩:=T.cSmall;refine D.F.ok zV (λvs H Q E h=>?_) (λcdv A outer s H vs Q E hr h=>?_)
 ·obtain⟨L,b,rfl,_⟩:=h;rfl
 ·obtain⟨L,b,rfl,U,hb,k⟩:=h;have al:(sT L).length=L.length:=dv L;refine⟨_,b9 (cZ (i:=2) zV.nd rfl (Kh rfl) (cK gI (pv 0) (pv 1) (λ_ _=>rfl)))
   (b9 (cM (cx pQ (pv 2) (fK (v:= .str (JO "abcdefghijklmnopqrstuvwxyz0123456789")) rfl cc ⟨_,rfl⟩) rfl) (b5 (cy (cQ GW hr rfl DW.m DW.F.kp bW .nil cz (bU (pv 0) (bU (pv 1) bV))))) cX)
   (b9 (cM (PW.pt (gu (cx cU (pv 2) b8 (cC _)) (ig (cx cU (pv 2) b8 (cC _))))) (b5 (cy (dm (bU (pv 2) (bU ir (bU (cA eD (pv 1) bZ) bV)))))) cX)
   (b9 (cM (cx cU (pv 2) b8 (cC _)) (b5 (cy (cQ GF hr rfl DF.m DF.F.kp bF .nil cz (bU (pv 0) (bU (pv 1) bV))))) cX)
   (b9 (cM (cx cU (pv 2) b8 (cC _)) (b5 (cy (cQ GM hr rfl DM.m DM.F.kp bM .nil cz (bU (pv 0) (bU (pv 1) bV))))) cX)
   (b5 (cy (cQ GN hr rfl DN.m DN.F.kp bN .nil cz (bU (pv 0) bV)))))))),?_⟩;have hg:L[b]? =some (L.getD b 0):=by rw[List.getD_eq_getElem?_getD,List.getElem?_eq_getElem hb];rfl
  unfold fA at k;generalize hc:L.getD b 0=c at hg k;refine⟨_,rfl,_,rfl,_,_,c,rfl,rfl,dC (by rw[al];lia),cJ (j:=b) (by simpa using hg),?_⟩;refine⟨_,rfl,_,_,rfl,rfl,_,rfl,?_⟩;rw[qY];cases hs:dA c with
  |true=>
   rw[hs,J1 rfl] at k;exact cg ⟨_,rfl,_,rfl,L,b,rfl,U,M3 hb,k⟩
  |false=>
   rw[hs,if_neg J3] at k;refine cj ⟨_,rfl,rfl,_,rfl,?_⟩;rw[show decide (V.str ⟨#[c]⟩=V.str (JO "("))=decide (c=40) from gN c 40];have br:c=40\/c=41->∀ p,H p=none->Q (.ref p) (upd H p (.tup [.str ⟨#[c]⟩,.non,.int ((b:Int)+1)])):=λh p hp=>by
    rw[J1 h] at k;exact k p _ (cq hp) ⟨.non,by rw[b6];rfl,.non⟩
   by_cases I:c=40
   ·rw[JS I];exact cg (cg ⟨_,rfl,_,rfl,_,_,rfl,rfl,fH,br (.inl I)⟩)
   ·rw[JQ I];refine cj ⟨_,rfl,rfl,_,rfl,?_⟩;rw[show decide (V.str ⟨#[c]⟩=V.str (JO ")"))=decide (c=41) from gN c 41];by_cases aa:c=41
    ·rw[JS aa];exact cg ⟨_,rfl,_,rfl,_,_,rfl,rfl,fH,br (.inr aa)⟩
    ·rw[JQ aa];rw[if_neg (λz=>z.elim I aa)] at k;refine cj ⟨_,rfl,rfl,_,rfl,?_⟩;rw[show decide (V.str ⟨#[c]⟩=V.str (JO "~"))=decide (c=126) from gN c 126];by_cases J:c=126
     ·rw[JS J];rw[J1 J] at k;exact cg ⟨_,rfl,_,rfl,L,b,rfl,U,hb,k⟩
     ·rw[JQ J];rw[if_neg J] at k;refine cj ⟨_,rfl,rfl,_,rfl,?_⟩;rw[show decide (V.str ⟨#[c]⟩=V.str (JO "\""))=decide (c=34) from gN c 34];by_cases ab:c=34
      ·rw[JS ab];rw[J1 ab] at k;exact cg ⟨_,rfl,_,rfl,L,b,rfl,U,hb,k⟩
      ·rw[JQ ab];rw[if_neg ab] at k;exact cj ⟨_,rfl,L,rfl,U,k⟩
noncomputable def zI:Sp:=λvs H Q _=>∃ L:JP Nat,vs=[.str (sT L)]/\L.length<=20000/\∀ a H',bY H H'->H a=none->qN H' a (parts L 0)->Q (.ref a) H'
theorem nS:da ["line","found","place","piece"] ["line"] (cG pE):=⟨rfl,rfl,rfl,dkq,rfl,dkq,dkq⟩
theorem kH{H H':Hp}{a:JR}{o:HO}(s:bY H H')(h:H a=none):bY H (upd H' a o):=λb u e=>by rw[cF (dM e h)];exact s b u e
seal cH PS PE PT PA PG PI cT cP in
theorem Hn{f fp:JR}{fd fdp:J2}(D:Df K mg "parted" pE f fd)(DP:Df K mg "piece_at" pW fp fdp)(GP:bX P w K mg base b7 3 fp fdp ["line","begin"] xS)(T:Txt mg):bX P w K mg base b7 4 f fd ["line"] zI:=by
 have bP:=DP.F.binds (ps:=["line","begin"]) λ_ _ _ _ _ _ us hl=>eU (λ_ _=>rfl) us hl
 refine D.F.ok nS (λvs H Q E h=>?_) (λcdv A outer s H vs Q E hr h=>?_)
 ·obtain⟨L,rfl,_⟩:=h;rfl
 ·obtain⟨L,rfl,hl,k⟩:=h;have al:(sT L).length=L.length:=dv L;refine⟨_,b9 (cZ (i:=1) nS.nd rfl (Kh rfl) (eZ bV)) (b9 (cZ (i:=2) nS.nd rfl (Kh rfl) bZ)
   (b9 (kj KZ (cx iS (pv 2) (dE ia rfl T.len e8 (bU (pv 0) bV)) (cC _))
    (b5 (cM (cx cU (cK gI (pv 0) (pv 2) (λ_ _=>rfl)) b8 (cC _)) (b5 (zY (i:=2) nS.nd rfl (Kh rfl) bZ zD))
     (b9 (cZ (i:=3) nS.nd rfl (Kh rfl) (cQ GP hr rfl DP.m DP.F.kp bP .nil cz (bU (pv 0) (bU (pv 2) bV))))
     (b9 (e9 (f7 Kp KO K6 iM (pv 1) (bU (dm (bU (cK dS (pv 3) bZ (λ_ _=>rfl)) (bU (cK dS (pv 3) bZ (λ_ _=>rfl)) (bU (pv 2) bV)))) bV)))
     (b5 (cZ (i:=2) nS.nd rfl (Kh rfl) (cK dS (pv 3) bZ (λ_ _=>rfl)))))))))
   (b9 (e9 (f7 Kp KO K6 iM (pv 1) (bU (dm (bU b8 (bU ir (bU (dE ia rfl T.len e8 (bU (pv 0) bV)) bV)))) bV)))
   (b5 (cy (pv 1)))))),?_⟩;refine⟨Ks _,λa ha=>?_⟩;refine kq (λσ H'=>∃(pl:Nat) (qs:JP JR) (ds:JP Pq) (o:JW V),σ=[some (.str (sT L)),some (.ref a),some (.int pl),o]/\bY H H'/\H' a=some (.lst (qs.map V.ref))/\Lo (λu q=>jW H' u q) qs ds/\qs.length<=pl/\pl<=L.length/\parts L 0=ds++parts L pl) (λσ _=>match σ with|[_,_,some (.int r),_]=>L.length-r.toNat|_=>0) ⟨0,[],[],none,rfl,cq ha,b6,.nil,JY _,Ks _,rfl⟩ ?_ ?_
  ·rintro σ H' ⟨pl,qs,ds,o,rfl,sm,hA,hP,hq,hp,he⟩;refine⟨_,rfl,_,rfl,_,rfl,dC (by rw[al];lia),_,_,rfl,rfl,_,rfl,?_⟩;rw[al];by_cases U:pl<L.length
   ·rw[JS (show(pl:Int)<(L.length:Int) by lia)];have hg:L[pl]? =some (L.getD pl 0):=by rw[List.getD_eq_getElem?_getD,List.getElem?_eq_getElem U];rfl
    refine cg ⟨_,rfl,_,rfl,_,_,L.getD pl 0,rfl,rfl,dC (by rw[al];lia),cJ (j:=pl) (by simpa using hg),rfl,_,rfl,?_⟩;rw[show decide (V.str ⟨#[L.getD pl 0]⟩=V.str (JO " "))=decide (L.getD pl 0=32) from gN _ 32];by_cases I:L.getD pl 0=32
    ·rw[JS I];refine cg ⟨_,rfl,_,_,rfl,rfl,⟨pl+1,qs,ds,_,rfl,sm,hA,hP,by lia,by lia,by rw[he,zw U I]⟩,?_⟩;show L.length-((pl:Int)+1).toNat<L.length-((pl:Int)).toNat
     lia
    ·rw[JQ I];have nx:=vV U;refine cj ⟨_,rfl,_,rfl,L,pl,rfl,hl,U,λp H1 s1 af=>?_⟩;obtain⟨v,ep,pd⟩:=af;have aa:=s1 _ _ hA;refine⟨_,rfl,.inl ⟨rfl,_,ck.of aa⟩,_,rfl,p,_,_,_,rfl,rfl,cu.of ep,cJ (j:=0) rfl,_,rfl,p,_,_,_,rfl,rfl,cu.of ep,cJ (j:=1) rfl,_,rfl,fH,λu hu=>?_⟩;have s2:bY H1 (upd H1 u (.tup [.str (fA L pl).1,v,.int pl])):=cq hu;have eu:upd H1 u (.tup [.str (fA L pl).1,v,.int pl]) u=some (.tup [.str (fA L pl).1,v,.int pl]):=b6;have J:=s2 _ _ aa;have ab:=s2 _ _ ep;generalize upd H1 u (.tup [.str (fA L pl).1,v,.int pl])=H2 at s2 eu J ab ⊢;refine⟨a,_,_,rfl,rfl,J,by rw[JX,Kv];lia,?_⟩;have kp:g8 H2 (upd H2 a (.lst (qs.map V.ref++[.ref u]))):=g8.lst J;have ae:=s1.trans s2;refine⟨_,rfl,p,_,_,_,rfl,rfl,cu.of (kp.2 _ _ ab),cJ (j:=2) rfl,⟨(fA L pl).2.2,qs++[u],ds++[((fA L pl).1,(fA L pl).2.1,pl)],_,rfl,kH (sm.trans ae) ha,by rw[b6,J5];rfl,?_,by rw[JU];show _+1<=_;lia,nx.2,by rw[he,A6 U I,Kt];rfl⟩,?_⟩
     ·refine Gn.Paired.app (Gn.Paired.imp2 hP λ_ _ h=>(h.same ae).keep kp) ?_;exact⟨v,kp.2 _ _ eu,(pd.same s2).keep kp⟩
     ·show L.length-(((fA L pl).2.2:Nat):Int).toNat<L.length-((pl:Int)).toNat
      lia
   ·rw[JQ (show ¬ (pl:Int)<(L.length:Int) by lia)];refine cj ⟨_,rfl,.inl ⟨rfl,_,ck.of hA⟩,_,rfl,_,rfl,dC (by rw[al];lia),fH,λu hu=>?_⟩;have s2:bY H' (upd H' u (.tup [.str (JO "end"),.non,.int ((sT L).length:Nat)])):=cq hu;have eu:upd H' u (.tup [.str (JO "end"),.non,.int ((sT L).length:Nat)]) u=some (.tup [.str (JO "end"),.non,.int ((sT L).length:Nat)]):=b6;have J:=s2 _ _ hA;generalize upd H' u (.tup [.str (JO "end"),.non,.int ((sT L).length:Nat)])=H2 at s2 eu J ⊢;refine⟨a,_,_,rfl,rfl,J,by rw[JX,Kv];lia,?_⟩;have kp:g8 H2 (upd H2 a (.lst (qs.map V.ref++[.ref u]))):=g8.lst J;refine⟨_,rfl,k a _ (kH (sm.trans s2) ha) ha ⟨qs++[u],by rw[b6,J5];rfl,?_⟩⟩;rw[he,show parts L pl=[sQ L] from nI (by lia) _];refine Gn.Paired.app (Gn.Paired.imp2 hP λ_ _ h=>(h.same s2).keep kp) ⟨.non,?_,.non⟩;rw[al] at eu;exact kp.2 _ _ eu
  ·intro σ H' Q1 Q2 hq h;obtain⟨x,h1,y,h2,z,h3,h4,i,j,e1,e2,b,e3,q⟩:=h;exact⟨x,h1,y,h2,z,h3,h4,i,j,e1,e2,b,e3,hq _ _ q⟩
end
mutual
theorem cD.tups {H H' : Hp} (s : ∀ b xs, H b = some (.tup xs) -> H' b = some (.tup xs)) : ∀ {x : V} {d : Kf}, cD false H x d -> cD false H' x d
 | _, _, .non => .non
 | _, _, .bl b => .bl b
 | _, _, .int i => .int i
 | _, _, .str x => .str x
 | _, _, .lst e h r => by cases e
 | _, _, .tup h r => .tup (s _ _ h) (cV.tups s r)
theorem cV.tups {H H' : Hp} (s : ∀ b xs, H b = some (.tup xs) -> H' b = some (.tup xs)) : ∀ {xs : JP V} {ds : JP Kf}, cV false H xs ds -> cV false H' xs ds
 | _, _, .nil => .nil
 | _, _, .cons h r => .cons (cD.tups s h) (cV.tups s r)
end
noncomputable def dH(p:JR)(H H':Hp):Prop:=∀ b u,b≠p->H b=some u->H' b=some u
theorem dH.trans {p:JR}{H H1 H2:Hp}(a:dH p H H1)(b:dH p H1 H2):dH p H H2:=λc u n e=>b c u n (a c u n e)
theorem dH.of {p:JR}{H H':Hp}(s:bY H H'):dH p H H':=λ_ _ _ e=>s _ _ e
theorem dH.upd {p:JR}{H:Hp}{o:HO}:dH p H (upd H p o):=λb u n e=>by rw[cF n];exact e
theorem dH.tup {p C dx:JR}{fs:JP (Str×V)}{H H':Hp}(s:dH p H H')(h:H p=some (.ins C dx fs)):∀ b xs,H b=some (.tup xs)->H' b=some (.tup xs):=λb xs e=>s b _ (λz=>by rw[z,h] at e;cases e) e
structure gg where
 nots : Nat
 a : Kf
 o : Kf
noncomputable def jU:Nat->Kf->Kf
 |0,d=>d
 |n+1,d=>jU n (.tuple [.str "not",d])
theorem zc:∀(n:Nat) (d:Kf),jU (n+1) d= .tuple [.str "not",jU n d]
 |0,_=>rfl
 |n+1,d=>zc n (.tuple [.str "not",d])
noncomputable def iJ:Kf->KS
 |.none=>true|_=>false
noncomputable def uI(d:Kf)(b:gg):gg:=⟨0,if iJ b.a then jU b.nots d else .tuple [.str "both",b.a,jU b.nots d],b.o⟩
noncomputable def qH(b:gg):gg:=⟨b.nots,.none,if iJ b.o then b.a else .tuple [.str "either",b.o,b.a]⟩
noncomputable abbrev fB(n va vo:V):JP (Str×V):=dh "by_or" vo (dh "by_and" va (dh "nots" n []))
theorem wq:("nots":Str)≠"by_and":=dkq
theorem wJ:("nots":Str)≠"by_or":=dkq
theorem wW:("by_and":Str)≠"by_or":=dkq
theorem lg(n va vo:V):fB n va vo=[(("nots":Str),n),(("by_and":Str),va),(("by_or":Str),vo)]:=by
 show dh "by_or" vo (dh "by_and" va [("nots",n)])=_
 have J:dh "by_and" va [(("nots":Str),n)]=[(("nots":Str),n),(("by_and":Str),va)]:=by show(if ("nots":Str)="by_and" then _ else _)=_;rw[if_neg wq];rfl
 rw[J];show(if ("nots":Str)="by_or" then _ else _)=_;rw[if_neg wJ];show(("nots":Str),n)::(if ("by_and":Str)="by_or" then _ else _)=_;rw[if_neg wW];rfl
theorem yw(m n va vo:V):dh "nots" m (fB n va vo)=fB m va vo:=by
 rw[lg,lg];show(if ("nots":Str)="nots" then _ else _)=_;rw[J1 rfl]
theorem vX(m n va vo:V):dh "by_and" m (fB n va vo)=fB n m vo:=by
 rw[lg,lg];show(if ("nots":Str)="by_and" then _ else (("nots":Str),n)::(if ("by_and":Str)="by_and" then _ else _))=_;rw[if_neg wq,J1 rfl]
theorem rL(m n va vo:V):dh "by_or" m (fB n va vo)=fB n va m:=by
 rw[lg,lg];show(if ("nots":Str)="by_or" then _ else (("nots":Str),n)::(if ("by_and":Str)="by_or" then _ else (("by_and":Str),va)::(if ("by_or":Str)="by_or" then _ else _)))=_;rw[if_neg wJ,if_neg wW,J1 rfl]
theorem Ay(n va vo:V):(fB n va vo).lookup ("nots":Str)=some n:=by rw[dO,if_neg wJ,dO,if_neg wq,dO,J1 rfl]
theorem sG(n va vo:V):(fB n va vo).lookup ("by_and":Str)=some va:=by rw[dO,if_neg wW,dO,J1 rfl]
theorem wc(n va vo:V):(fB n va vo).lookup ("by_or":Str)=some vo:=by rw[dO,J1 rfl]
theorem ma(n va vo:V):(fB n va vo).length<1000:=by rw[lg];show 3<1000;decide
noncomputable def fV(C:JR)(H:Hp)(p:JR)(b:gg):Prop:=∃ dx J U,H p=some (.ins C dx (fB (.int b.nots) J U))/\cD false H J b.a/\cD false H U b.o
theorem fV.same {C:JR}{H H':Hp}{p:JR}{b:gg}(h:fV C H p b)(s:bY H H'):fV C H' p b:=by
 obtain⟨dx,J,U,h1,h2,I⟩:=h;exact⟨dx,J,U,s _ _ h1,h2.same s,I.same s⟩
structure qM (K : Kl) (C : JR) : Prop where
 cl : gA K C
 nn : gm K C "nots"
 na : gm K C "by_and"
 no : gm K C "by_or"
theorem yh{H:Hp}{v:V}{d:Kf}(h:cD false H v d):decide (v= .non)=iJ d:=by
 cases h<;>first|rfl|exact JQ (λz=>by cases z)
section
variable {P : Ka} {w : Ku} {K : J7} {mg : Str -> JW JT} {base : KP} {C : JR}
noncomputable def uB(C:JR):Sp:=λvs H Q _=>∃(p dx:JR),vs=[.ref p]/\H p=some (.ins C dx [])/\∀ H',dH p H H'->fV C H' p ⟨0,.none,.none⟩->Q .non H'
theorem BG:da ["self"] ["self"] (cG (inClass gD 0)):=⟨rfl,rfl,rfl,dkq,rfl,dkq,dkq⟩
seal cH PS PE PT PA PG PI cT cP in
theorem xR{f:JR}{fd:J2}(F:ej K "__init__" "Bracket.__init__" (inClass gD 0) f fd)(B:qM K C):bX P w K mg base b7 1 f fd ["self"] (uB C):=by
 refine F.ok BG (λvs H Q E h=>?_) (λcdv A outer s H vs Q E J h=>?_)
 ·obtain⟨p,dx,rfl,_⟩:=h;rfl
 ·obtain⟨p,dx,rfl,hp,k⟩:=h;refine⟨_,b9 (fD (pv 0) bZ rfl) (b9 (fD (pv 0) ir rfl) (b5 (fD (pv 0) ir rfl))),?_⟩;refine⟨_,rfl,p,C,dx,[],rfl,hp,B.cl,B.nn,by decide,_,rfl,p,C,dx,_,rfl,b6,B.cl,B.na,by decide,_,rfl,p,C,dx,_,rfl,b6,B.cl,B.no,by rw[show(dh "by_and" V.non (dh "nots" (.int 0) [])).length=2 from by decide +kernel];decide,?_⟩;exact k _ ((dH.upd.trans dH.upd).trans dH.upd) ⟨dx,.non,.non,b6,.non,.non⟩
noncomputable def zQ(C:JR):Sp:=λvs H Q _=>∃(p:JR) (b:gg),vs=[.ref p]/\fV C H p b/\∀ H',dH p H H'->fV C H' p {b with nots:=b.nots+1}->Q .non H'
theorem EY:da ["self"] ["self"] (cG (inClass gD 1)):=⟨rfl,rfl,rfl,dkq,rfl,dkq,dkq⟩
seal cH PS PE PT PA PG PI cT cP in
theorem JK{f:JR}{fd:J2}(F:ej K "deny" "Bracket.deny" (inClass gD 1) f fd)(B:qM K C):bX P w K mg base b7 1 f fd ["self"] (zQ C):=by
 refine F.ok EY (λvs H Q E h=>?_) (λcdv A outer s H vs Q E hr h=>?_)
 ·obtain⟨p,b,rfl,_⟩:=h;rfl
 ·obtain⟨p,b,rfl,⟨dx,J,U,h1,h2,I⟩,k⟩:=h;refine⟨_,b5 (EW (pv 0) bZ Dq),?_⟩;refine⟨_,rfl,p,C,dx,_,_,rfl,h1,B.cl,B.nn,Ay _ _ _,_,_,rfl,rfl,dx,_,h1,ma _ _ _,?_⟩;rw[yw];have s1:dH p H (upd H p (.ins C dx (fB (.int ((b.nots:Int)+1)) J U))):=dH.upd;exact k _ s1 ⟨dx,J,U,b6,h2.tups (s1.tup h1),I.tups (s1.tup h1)⟩
noncomputable def rF(C:JR):Sp:=λvs H Q _=>∃(p:JR) (b:gg) (v:V) (d:Kf),vs=[.ref p,v]/\fV C H p b/\b.nots<=100000/\cD false H v d/\∀ H',dH p H H'->fV C H' p (uI d b)->Q .non H'
theorem xa:da ["self","told","turn"] ["self","told"] (cG (inClass gD 2)):=⟨rfl,rfl,rfl,dkq,rfl,dkq,dkq⟩
seal cH PS PE PT PA PG PI cT cP in
theorem uZ{f:JR}{fd:J2}(F:ej K "take_in" "Bracket.take_in" (inClass gD 2) f fd)(B:qM K C)(T:Txt mg):bX P w K mg base b7 1 f fd ["self","told"] (rF C):=by
 refine F.ok xa (λvs H Q E h=>?_) (λcdv A outer s H vs Q E hr h=>?_)
 ·obtain⟨p,b,v,d,rfl,_⟩:=h;rfl
 ·obtain⟨p,b,v,d,rfl,⟨dx,va,U,h1,h2,h3⟩,hn,hv,k⟩:=h;refine⟨_,b9 (kT KZ rfl (lF rfl T.range (bU (df (pv 0) rfl) bV)) (eY (i:=2) xa.nd rfl (Kh rfl)) (b5 (cZ (i:=1) xa.nd rfl (Kh rfl) (dm (bU b8 (bU (pv 1) bV))))))
   (b9 (fD (pv 0) bZ rfl)
   (b5 (fD (pv 0) (i6 (cx yz (df (pv 0) rfl) ir (cC _)) (pv 1) (dm (bU b8 (bU (df (pv 0) rfl) (bU (pv 1) bV))))) rfl))),?_⟩;refine⟨_,rfl,p,C,dx,_,_,rfl,h1,B.cl,B.nn,Ay _ _ _,_,rfl,by lia,by lia,?_⟩;rw[Oe];refine tP (λi σ H'=>∃(u:V) (o:JW V),σ=[some (.ref p),some u,o]/\bY H H'/\cD false H' u (jU i d)) ⟨v,none,rfl,bY.refl _,hv⟩ ?_ ?_
  ·rintro i σ H' hi ⟨u,o,rfl,sm,pu⟩;refine⟨_,rfl,eK,λq hq=>⟨.ref q,_,rfl,bY.upf sm hq,?_⟩⟩;rw[zc];exact .tup b6 (.cons (.str _) (.cons (pu.same (cq hq)) .nil))
  ·rintro σ H1 ⟨u,o,rfl,sm,pu⟩;have e1:=sm _ _ h1;refine⟨_,rfl,p,C,dx,_,rfl,e1,B.cl,B.nn,ma _ _ _,?_⟩;rw[yw];have s1:dH p H1 (upd H1 p (.ins C dx (fB (.int 0) va U))):=dH.upd;have e2:upd H1 p (.ins C dx (fB (.int 0) va U)) p=some (.ins C dx (fB (.int 0) va U)):=b6;have tt:=s1.tup e1;generalize upd H1 p (.ins C dx (fB (.int 0) va U))=H2 at s1 e2 tt ⊢;have pa:=(h2.same sm).tups tt;have po:=(h3.same sm).tups tt;have aa:=pu.tups tt;have ae:dH p H H2:=(dH.of sm).trans s1;refine⟨_,rfl,p,C,dx,_,_,rfl,e2,B.cl,B.na,sG _ _ _,rfl,_,rfl,?_⟩;rw[yh pa];have fin:∀(x:V) (J:Hp),bY H2 J->cD false J x (uI d b).a->∃ I,(some (.ref p):JW V)=some I/\∃ a' C' ab fs',I= .ref a'/\J a'=some (.ins C' ab fs')/\gA K C'/\gm K C' "by_and"/\fs'.length<1000/\Q .non (upd J a' (.ins C' ab (dh "by_and" x fs'))):=λx J s3 px=>by
    have e3:=s3 _ _ e2;refine⟨_,rfl,p,C,dx,_,rfl,e3,B.cl,B.na,ma _ _ _,?_⟩;rw[vX];have s4:dH p J (upd J p (.ins C dx (fB (.int 0) x U))):=dH.upd;have t4:=s4.tup e3;exact k _ (ae.trans ((dH.of s3).trans s4)) ⟨dx,x,U,b6,px.tups t4,(po.same s3).tups t4⟩
   cases hno:iJ b.a with
   |true=>
    refine cg ⟨_,rfl,?_⟩;obtain⟨I,ex,r⟩:=fin u H2 (bY.refl _) (by show cD false H2 u (if iJ b.a then _ else _);rw[hno];exact aa);exact⟨I,by simpa using ex,r⟩
   |false=>
    refine cj ⟨_,rfl,p,C,dx,_,_,rfl,e2,B.cl,B.na,sG _ _ _,_,rfl,fH,λq hq=>?_⟩;have s5:bY H2 (upd H2 q (.tup [.str (JO "both"),va,u])):=cq hq;obtain⟨I,ex,r⟩:=fin (.ref q) _ s5 (by show cD false _ _ (if iJ b.a then _ else _);rw[hno];exact .tup b6 (.cons (.str _) (.cons (pa.same s5) (.cons (aa.same s5) .nil))));exact⟨I,by simpa using ex,r⟩
noncomputable def uC(C:JR):Sp:=λvs H Q _=>∃(p:JR) (b:gg),vs=[.ref p]/\fV C H p b/\∀ H',dH p H H'->fV C H' p (qH b)->Q .non H'
theorem BZ:da ["self"] ["self"] (cG (inClass gD 3)):=⟨rfl,rfl,rfl,dkq,rfl,dkq,dkq⟩
seal cH PS PE PT PA PG PI cT cP in
theorem zR{f:JR}{fd:J2}(F:ej K "choose" "Bracket.choose" (inClass gD 3) f fd)(B:qM K C):bX P w K mg base b7 1 f fd ["self"] (uC C):=by
 refine F.ok BZ (λvs H Q E h=>?_) (λcdv A outer s H vs Q E hr h=>?_)
 ·obtain⟨p,b,rfl,_⟩:=h;rfl
 ·obtain⟨p,b,rfl,⟨dx,U,vo,h1,h2,I⟩,k⟩:=h;refine⟨_,b9 (fD (pv 0) (i6 (cx yz (df (pv 0) rfl) ir (cC _)) (df (pv 0) rfl) (dm (bU b8 (bU (df (pv 0) rfl) (bU (df (pv 0) rfl) bV))))) rfl) (b5 (fD (pv 0) ir rfl)),?_⟩;refine⟨_,rfl,p,C,dx,_,_,rfl,h1,B.cl,B.no,wc _ _ _,rfl,_,rfl,?_⟩;rw[yh I];have fin:∀(x:V) (J:Hp),bY H J->cD false J x (qH b).o->Q .non (upd (upd J p (.ins C dx (fB (.int b.nots) U x))) p (.ins C dx (fB (.int b.nots) .non x))):=λx J s3 px=>by
   have e3:=s3 _ _ h1
   have s4:dH p J (upd (upd J p (.ins C dx (fB (.int b.nots) U x))) p (.ins C dx (fB (.int b.nots) .non x))):=dH.upd.trans dH.upd;exact k _ ((dH.of s3).trans s4) ⟨dx,.non,x,b6,.non,px.tups (s4.tup e3)⟩
  cases hno:iJ b.o with
  |true=>
   refine cg ⟨_,rfl,p,C,dx,_,_,rfl,h1,B.cl,B.na,sG _ _ _,_,rfl,p,C,dx,_,rfl,h1,B.cl,B.no,ma _ _ _,_,rfl,p,C,dx,_,rfl,b6,B.cl,B.na,by rw[rL];exact ma _ _ _,?_⟩;rw[rL,vX];exact fin U H (bY.refl _) (by show cD false H U (if iJ b.o then _ else _);rw[hno];exact h2)
  |false=>
   refine cj ⟨_,rfl,p,C,dx,_,_,rfl,h1,B.cl,B.no,wc _ _ _,_,rfl,p,C,dx,_,_,rfl,h1,B.cl,B.na,sG _ _ _,fH,λq hq=>?_⟩;have s5:bY H (upd H q (.tup [.str (JO "either"),vo,U])):=cq hq;refine⟨_,rfl,p,C,dx,_,rfl,s5 _ _ h1,B.cl,B.no,ma _ _ _,_,rfl,p,C,dx,_,rfl,b6,B.cl,B.na,by rw[rL];exact ma _ _ _,?_⟩;rw[rL,vX];exact fin (.ref q) _ s5 (by show cD false _ _ (if iJ b.o then _ else _);rw[hno];exact .tup b6 (.cons (.str _) (.cons (I.same s5) (.cons (h2.same s5) .nil))))
end
noncomputable def jV(m:Str):Prop:=m≠"nots"/\m≠"by_and"/\m≠"by_or"
theorem lD{m:Str}(h:jV m)(n va vo:V):(fB n va vo).lookup m=none:=by
 rw[dO,if_neg h.2.2,dO,if_neg h.2.1,dO,if_neg h.1];rfl
theorem A5:jV "choose":=by unfold jV;decide +kernel
theorem HM:jV "deny":=by unfold jV;decide +kernel
theorem vb:jV "take_in":=by unfold jV;decide +kernel
theorem xD:jV "whole":=by unfold jV;decide +kernel
structure ly (K : J7) (C fi fd ft fc fw : JR) (di dd dt dc dw : J2) : Prop where
 c : qM K C
 I : ej K "__init__" "Bracket.__init__" (inClass gD 0) fi di
 mI : L2.Mk K C fi
 D : ej K "deny" "Bracket.deny" (inClass gD 1) fd dd
 mD : Meth K C "deny" fd
 T : ej K "take_in" "Bracket.take_in" (inClass gD 2) ft dt
 mT : Meth K C "take_in" ft
 Ch : ej K "choose" "Bracket.choose" (inClass gD 3) fc dc
 mC : Meth K C "choose" fc
 W : ej K "whole" "Bracket.whole" (inClass gD 4) fw dw
 mW : Meth K C "whole" fw
section
variable {P : Ka} {w : Ku} {K : J7} {mg : Str -> JW JT} {base : KP} {C fi fd ft fc fw : JR} {di dd dt dc dw : J2}
noncomputable def xc(C:JR):Sp:=λvs H Q _=>∃(p:JR) (b:gg),vs=[.ref p]/\fV C H p b/\∀ v H',dH p H H'->fV C H' p (qH b)->cD false H' v (qH b).o->Q v H'
theorem B1:da ["self"] ["self"] (cG (inClass gD 4)):=⟨rfl,rfl,rfl,dkq,rfl,dkq,dkq⟩
seal cH PS PE PT PA PG PI cT cP in
theorem yn(B:ly K C fi fd ft fc fw di dd dt dc dw):bX P w K mg base b7 2 fw dw ["self"] (xc C):=by
 have GC:bX P w K mg base b7 1 fc dc ["self"] (uC C):=zR B.Ch B.c
 have bC:=B.Ch.binds (ps:=["self"]) λ_ _ _ _ _ _ us hl=>iE (λ_=>rfl) us hl
 refine B.W.ok B1 (λvs H Q E h=>?_) (λcdv A outer s H vs Q E hr h=>?_)
 ·obtain⟨p,b,rfl,_⟩:=h;rfl
 ·obtain⟨p,b,rfl,hb,k⟩:=h;refine⟨_,b9 (e9 (oR (pv 0) B.c.cl B.mC GC hr bC .nil cz)) (b5 (cy (df (pv 0) rfl))),?_⟩;obtain⟨dx,va,vo,h1,h2,h3⟩:=id hb;refine⟨_,rfl,p,dx,_,rfl,h1,lD A5 _ _ _,p,b,rfl,hb,λH1 b1 J=>?_⟩;obtain⟨U,aa,I,g1,g2,g3⟩:=id J;exact⟨_,rfl,p,C,U,_,_,rfl,g1,B.c.cl,B.c.no,wc _ _ _,k I H1 b1 J g3⟩
end
noncomputable def DI:JP Nat:=codes (JO "abcdefghijklmnopqrstuvwxyzABCDEFGHIJKLMNOPQRSTUVWXYZ0123456789")
noncomputable def gF(c:Nat):KS:=decide (c∈DI)
section
variable {P : Ka} {w : Ku} {K : J7} {mg : Str -> JW JT} {base : KP}
noncomputable def wj:Sp:=λvs H Q _=>∃ c:Nat,vs=[.str ⟨#[c]⟩]/\Q (.str (if gF c then JO "letter" else ⟨#[c]⟩)) H
theorem Em:da ["_law_sign"] ["_law_sign"] (cG oQ):=⟨rfl,rfl,rfl,dkq,rfl,dkq,dkq⟩
seal cH PS PE PT PA PG PI cT cP in
theorem zF{f:JR}{fd:J2}(D:Df K mg "_law_sign_kind" oQ f fd):bX P w K mg base b7 1 f fd ["_law_sign"] wj:=by
 refine D.F.ok Em (λvs H Q E h=>?_) (λcdv A outer s H vs Q E J h=>?_)
 ·obtain⟨c,rfl,_⟩:=h;rfl
 ·obtain⟨c,rfl,k⟩:=h;refine⟨_,b9 (cM (cx pQ (pv 0) b8 rfl) (b5 (cy b8)) cX) (b5 (cy (pv 0))),?_⟩;refine⟨_,rfl,_,_,rfl,rfl,_,rfl,?_⟩;rw[show(!(K7 (JO "abcdefghijklmnopqrstuvwxyzABCDEFGHIJKLMNOPQRSTUVWXYZ0123456789") ⟨#[c]⟩ 0 (JO "abcdefghijklmnopqrstuvwxyzABCDEFGHIJKLMNOPQRSTUVWXYZ0123456789").length 1).isEmpty)=gF c from Ng _ _];cases hl:gF c with
  |true=>
   rw[hl] at k;exact cg k
  |false=>
   rw[hl] at k;exact cj ⟨_,rfl,k⟩
noncomputable def mU(H:Hp)(a:JR)(ds:JP Kf):Prop:=∃ vs,H a=some (.lst vs)/\cV false H vs ds
end
theorem cV.snoc {H:Hp}:∀{vs:JP V} {ds:JP Kf} {v:V} {d:Kf},cV false H vs ds->cD false H v d->cV false H (vs++[v]) (ds++[d])
 |_,_,_,_,.nil,h=> .cons h .nil
 |_,_,_,_,.cons a r,h=> .cons a (cV.snoc r h)
theorem cV.unsnoc {H:Hp}:∀{vs:JP V} {ds:JP Kf} {d:Kf},cV false H vs (ds++[d])->∃ ws v,vs=ws++[v]/\cV false H ws ds/\cD false H v d
 |_,[],d,.cons h .nil=>⟨[],_,rfl,.nil,h⟩
 |_,e::ds,d,.cons h r=>by
  obtain⟨ws,v,rfl,r1,r2⟩:=cV.unsnoc (ds:=ds) r;exact⟨_::ws,v,rfl,.cons h r1,r2⟩
noncomputable def eX(p q:JR)(H H':Hp):Prop:=∀ b u,b≠p->b≠q->H b=some u->H' b=some u
theorem eX.tup {p q:JR}{xs ys:JP V}{H H':Hp}(s:eX p q H H')(hp:H p=some (.lst xs))(hq:H q=some (.lst ys)):∀ b zs,H b=some (.tup zs)->H' b=some (.tup zs):=λb zs e=>s b _ (λz=>by rw[z,hp] at e;cases e) (λz=>by rw[z,hq] at e;cases e) e
theorem ke{xs:JP V}{y:V}:(xs++[y])[(xs++[y]).length-1]? =some y:=by simp
section
variable {P : Ka} {w : Ku} {K : J7} {mg : Str -> JW JT} {base : KP}
noncomputable def xM:Sp:=λvs H Q _=>∃(a g:JR) (J ds:JP Kf) (ss:JP Str) (U:Str) (r:Kf),vs=[.ref a,.ref g]/\a≠g/\H g=some (.lst ((ss++[U]).map V.str))/\mU H a ds/\ds.length<=10000/\
 ((U="not"/\∃ x,ds=J++[x]/\r= .tuple [.str "not",x])\/(U≠"not"/\∃ x y,ds=J++[x]++[y]/\r= .tuple [.str U,x,y]))/\
 ∀ H',eX a g H H'->H' g=some (.lst (ss.map V.str))->mU H' a (J++[r])->Q .non H'
theorem vD:da ["_law_asks","_law_signs","_law_sign","_law_other"] ["_law_asks","_law_signs"] (cG oG):=⟨rfl,rfl,rfl,dkq,rfl,dkq,dkq⟩
seal cH PS PE PT PA PG PI cT cP in
theorem Hj{f:JR}{fd:J2}(D:Df K mg "_law_put" oG f fd):bX P w K mg base b7 1 f fd ["_law_asks","_law_signs"] xM:=by
 refine D.F.ok vD (λvs H Q E h=>?_) (λcdv A outer s H vs Q E hr h=>?_)
 ·obtain⟨a,g,_,_,_,_,_,rfl,_⟩:=h;rfl
 ·obtain⟨a,g,ae,ds,ss,sg,r,rfl,ab,hg,⟨us,ha,hu⟩,hl,hc,k⟩:=h;refine⟨_,b9 (cZ (i:=2) vD.nd rfl (Kh rfl) (iR Kp LP L4 j8 (pv 1)))
   (b5 (cM (cx cU (pv 2) b8 (cC _))
    (b5 (e9 (f7 Kp KO K6 iM (pv 0) (bU (dm (bU b8 (bU (iR Kp LP L4 j8 (pv 0)) bV))) bV))))
    (b9 (cZ (i:=3) vD.nd rfl (Kh rfl) (iR Kp LP L4 j8 (pv 0)))
    (b5 (e9 (f7 Kp KO K6 iM (pv 0) (bU (dm (bU (pv 2) (bU (iR Kp LP L4 j8 (pv 0)) (bU (pv 3) bV)))) bV))))))),?_⟩;rw[J5] at hg;refine⟨_,rfl,.inl ⟨rfl,_,ck.of hg⟩,g,_,_,rfl,rfl,hg,ke,?_⟩;have dl:(ss.map V.str++[sg].map V.str).dropLast=ss.map V.str:=Ln;rw[dl];have b1:eX a g H (upd H g (.lst (ss.map V.str))):=λb u _ n e=>by rw[cF n];exact e
  have g1:upd H g (.lst (ss.map V.str)) g=some (.lst (ss.map V.str)):=b6
  have a1:upd H g (.lst (ss.map V.str)) a=some (.lst us):=by rw[cF ab];exact ha
  have I:=hu.tups (b1.tup ha hg);generalize upd H g (.lst (ss.map V.str))=H1 at b1 g1 a1 I ⊢;have fin:∀(ws tp:JP V) (d:Kf) (H2:Hp) (q:JR),H2 a=some (.lst ws)->(∀ b,b≠a->H2 b=H1 b)->H2 q=none->cV false H1 ws ae->(∀ H4:Hp,(∀ b zs,H1 b=some (.tup zs)->H4 b=some (.tup zs))->H4 q=some (.tup tp)->cD false H4 (.ref q) d)->r=d->
    Q .non (upd (upd H2 q (.tup tp)) a (.lst (ws++[.ref q]))):=λws tp d H2 q h2 hB J r1 hd er=>by
   have U:q≠a:=λz=>by rw[z,h2] at J;cases J
   have aa:H1 q=none:=by rw[<-hB q U];exact J
   have ot:∀ b,b≠a->b≠q->upd (upd H2 q (.tup tp)) a (.lst (ws++[.ref q])) b=H1 b:=λb n1 n2=>by rw[cF n1,cF n2];exact hB b n1
   have tt:∀ b zs,H1 b=some (.tup zs)->upd (upd H2 q (.tup tp)) a (.lst (ws++[.ref q])) b=some (.tup zs):=λb zs e=>by
    rw[ot b (λz=>by rw[z,a1] at e;cases e) (dM e aa)];exact e
   refine k _ (λb u n1 n2 e=>?_) ?_ ⟨ws++[.ref q],b6,?_⟩
   ·have e1:=b1 b u n1 n2 e;rw[ot b n1 (dM e1 aa)];exact e1
   ·rw[ot g (K5 ab) (dM g1 aa)];exact g1
   ·rw[er];exact(r1.tups tt).snoc (hd _ tt (by rw[cF U,b6]))
  have sz:sizeLine=16777216:=Kv;refine⟨_,rfl,rfl,_,rfl,?_⟩;rcases hc with ⟨rfl,x,rfl,er⟩|⟨af,x,y,rfl,er⟩
  ·rw[JS rfl];obtain⟨ws,v,rfl,r1,r2⟩:=I.unsnoc;have ln:=r1.len;rw[JU] at hl;refine cg ⟨_,rfl,.inl ⟨rfl,_,ck.of a1⟩,_,rfl,.inl ⟨rfl,_,ck.of a1⟩,a,_,_,rfl,rfl,a1,ke,eK,λq J=>?_⟩;rw[Ln] at J ⊢;have U:a≠q:=λz=>by rw[<-z,b6] at J;cases J
   refine⟨a,_,_,rfl,rfl,by rw[cF U,b6],by rw[sz];lia,?_⟩;exact fin ws _ _ _ q b6 (λb n=>cF n) J r1 (λH4 tt e=> .tup e (.cons (.str _) (.cons (r2.tups tt) .nil))) er
  ·rw[JQ (λz=>af (by injection z))];obtain⟨ah,vy,rfl,ag,r2⟩:=I.unsnoc;obtain⟨ws,vx,rfl,r1,r3⟩:=ag.unsnoc;have ln:=r1.len;rw[JU,JU] at hl;refine cj ⟨_,rfl,.inl ⟨rfl,_,ck.of a1⟩,a,_,_,rfl,rfl,a1,ke,?_⟩;rw[Ln];have a2:upd H1 a (.lst (ws++[vx])) a=some (.lst (ws++[vx])):=b6;refine⟨_,rfl,.inl ⟨rfl,_,ck.of a2⟩,_,rfl,_,rfl,.inl ⟨rfl,_,ck.of a2⟩,a,_,_,rfl,rfl,a2,ke,_,rfl,fH,λq J=>?_⟩;rw[Ln] at J ⊢;have U:a≠q:=λz=>by rw[<-z,b6] at J;cases J
   refine⟨a,_,_,rfl,rfl,by rw[cF U,b6],by rw[sz];lia,?_⟩;exact fin ws _ _ _ q b6 (λb n=>by rw[cF n,cF n]) J r1 (λH4 tt e=> .tup e (.cons (.str _) (.cons (r3.tups tt) (.cons (r2.tups tt) .nil)))) er
end
open RA (sl dj fq Lf Tr Tk wr brk)
noncomputable def jn:JP (JP Nat)->JP Nat
 |[]=>[]
 |[x]=>x
 |x::y::r=>x++32::jn (y::r)
theorem wM:∀ ls:JP (JP Nat),Txt.join (JO " ") (ls.map sT)=sT (jn ls):=by
 intro ls;show Od _ _=_;rw[Nt];induction ls with
 |nil=>rfl
 |cons x r J=>
  cases r with
  |nil=>rfl
  |cons y r=>
   show sT x++JO " "++Pa (JO " ") ((y::r).map sT)=_;rw[J,show(sT x++JO " ":Str)=sT (x++[32]) from fO x [32],fO];show(⟨(x++[32]++jn (y::r)).toArray⟩:Str)=⟨(x++32::jn (y::r)).toArray⟩;rw[Kt];rfl
noncomputable def gW(w:JP Nat):Prop:=w≠[]/\w.all dA=true
theorem mr{c:Nat}(h:dA c=true):Unicode.isSpace c=false/\c≠32/\c≠34/\c≠40/\c≠41/\c≠42/\c≠126:=by
 have hm:c<128:=by
  unfold dA at h;simp at h
  lia
 have:∀ c<128,dA c=true->Unicode.isSpace c=false/\c≠32/\c≠34/\c≠40/\c≠41/\c≠42/\c≠126:=dkq;exact this c hm h
theorem ur(acc:JP Str):∀(w p:JP Nat),w.all dA=true->w.foldl N6 (acc,sT p)=(acc,sT (p++w))
 |[],p,_=>by rw[KR];rfl
 |c::w,p,h=>by
  rw[M9,Lc] at h;have e:N6 (acc,sT p) c=(acc,sT (p++[c])):=by
   unfold N6;rw[if_neg (by rw[(mr h.1).1];exact J3)];show(acc,sT p++sT [c])=_;rw[fO]
  rw[List.foldl_cons,e,ur acc w (p++[c]) h.2,Kt];rfl
theorem wX{w:JP Nat}(h:w≠[]):(sT w).length≠0:=by
 rw[dv];cases w with
 |nil=>exact absurd rfl h
 |cons c w=>exact Nat.succ_ne_zero _
theorem xT:∀(ls:JP (JP Nat)) (acc:JP Str),(∀ w∈ls,gW w)->KWd.fin ((jn ls).foldl N6 (acc,sT []))=acc++ls.map sT
 |[],acc,_=>by rw[OC,KR];rfl
 |[w],acc,h=>by
  have g:=h w (by simp)
  show KWd.fin (w.foldl N6 (acc,sT []))=_;rw[ur acc w [] g.2];show(if (sT w).length=0 then acc else acc++[sT w])=_;rw[if_neg (wX g.1)];rfl
 |w::y::r,acc,h=>by
  have g:=h w (by simp)
  show KWd.fin ((w++32::jn (y::r)).foldl N6 (acc,sT []))=_;rw[List.foldl_append,ur acc w [] g.2,List.foldl_cons];have e:N6 (acc,sT ([]++w)) 32=(acc++[sT w],sT []):=by
   unfold N6;rw[J1 dkq];show(if (sT w).length=0 then _ else _)=_;rw[if_neg (wX g.1)];rfl
  rw[e,xT (y::r) _ λz J=>h z (J0 _ J),Kt];rfl
theorem HE{ls:JP (JP Nat)}(h:∀ w∈ls,gW w):Txt.words (sT (jn ls))=ls.map sT:=by
 rw[KWd.words_scan];have:=xT ls [] h;rw[NL] at this;rw[<-this];unfold KWd.scan;simp[sT,Str.empty]
theorem A4:∀(a b:JP (JP Nat)),a≠[]->b≠[]->(∀ w∈a,32∉w)->(∀ w∈b,32∉w)->jn a=jn b->a=b
 |[],_,h,_,_,_,_=>absurd rfl h
 |_,[],_,h,_,_,_=>absurd rfl h
 |[x],[y],_,_,_,_,e=>by
  have J:x=y:=e;rw[J]
 |[x],y::z::r,_,_,h1,_,e=>by
  have J:x=y++32::jn (z::r):=e;exact absurd (by rw[J];simp) (h1 x (by simp))
 |y::z::r,[x],_,_,_,h1,e=>by
  have J:y++32::jn (z::r)=x:=e;exact absurd (by rw[<-J];simp) (h1 x (by simp))
 |x::y::r,U::I::r',_,_,h1,h2,e=>by
  have J:x++32::jn (y::r)=U++32::jn (I::r'):=e
  have tw:∀(w z:JP Nat),32∉w->(w++32::z).takeWhile (λc=>decide (c≠32))=w:=λw z hw=>by
   have hp:∀ c∈w,decide (c≠32)=true:=λc hc=>JS λec=>hw (by rw[<-ec];exact hc)
   rw[NN hp];simp
  have ex:x=U:=by
   have:=K9 (List.takeWhile λc=>decide (c≠32)) J
   rwa [tw _ _ (h1 x (by simp)),tw _ _ (h2 U (by simp))] at this
  subst ex;have e2:=List.append_cancel_left J;injection e2 with _ e3;rw[A4 (y::r) (I::r') (by simp) (by simp) (λw hw=>h1 w (J0 _ hw)) (λw hw=>h2 w (J0 _ hw)) e3]
theorem G3(x:Str):Txt.split x ⟨#[32]⟩≠[]:=by
 intro h;unfold Txt.split at h;split at h
 ·cases h
 ·split at h
  ·cases h
  ·rw[StrLaws.partsBetween_eq] at h;obtain⟨p,r,e⟩:=StrLaws.partsFrom_ne x (⟨#[32]⟩:Str).length 0 (K7 x ⟨#[32]⟩ 0 x.length (x.length+1));rw[e] at h;cases h
theorem BH{ls:JP (JP Nat)}(hn:ls≠[])(h:∀ w∈ls,gW w):Txt.split (sT (jn ls)) (JO " ")=ls.map sT:=by
 have j:=StrLaws.join_split (sT (jn ls)) ⟨#[32]⟩
 have fr:=StrLaws.split_free (sT (jn ls)) 32
 have ne:=G3 (sT (jn ls))
 show Txt.split (sT (jn ls)) ⟨#[32]⟩=_;generalize Txt.split (sT (jn ls)) ⟨#[32]⟩=S at j fr ne;have J:S=(S.map codes).map sT:=by
  rw[LB];exact(OF S).symm.trans (M7 λz _=>(toStr z).symm)
 have j2:sT (jn (S.map codes))=sT (jn ls):=by
  rw[<-wM,<-J];show Od _ _=_;rw[Nt];exact j
 have U:jn (S.map codes)=jn ls:=by
  have:=K9 codes j2;simpa[codes] using this
 have:=A4 (S.map codes) ls (by simpa using ne) hn (λw hw=>by
  obtain⟨z,I,rfl⟩:=List.mem_map.mp hw;exact fr z I) (λw hw hm=>(mr (List.all_eq_true.mp (h w hw).2 _ hm)).2.1 rfl) U;rw[<-this,<-J]
noncomputable def gL:Lf->Prop
 |.word w=>gW w
 |.start w=>gW w
 |.row ws=>2<=ws.length/\ws.length<=8/\∀ w∈ws,gW w
noncomputable def gK:Tk->Prop
 |.leaf l=>gL l
 |.near n=>n<=20
 |_=>O3
noncomputable def ni:Lf->JP Nat
 |.word w=>if isJ (sT w) then 34::(w++[34]) else w
 |.start w=>w++[42]
 |.row ws=>34::(jn ws++[34])
noncomputable def txt:Tk->JP Nat
 |.leaf l=>ni l
 |.near n=>126::dF (n:Int)
 |.no=>[110,111,116]
 |.and=>[97,110,100]
 |.or=>[111,114]
 |.lp=>[40]
 |.rp=>[41]
noncomputable def dL:Lf->Kf
 |.word w=> .tuple [.str "word",.str (sT w)]
 |.start w=> .tuple [.str "start",.str (sT w)]
 |.row ws=> .tuple [.str "row",.tuple (ws.map λw=> .str (sT w))]
noncomputable def kS:Tk->Str
 |.leaf _=>"leaf" |.near _=>"~" |.no=>"not" |.and=>"and" |.or=>"or" |.lp=>"(" |.rp=>")"
noncomputable def mD:Tk->Kf
 |.leaf l=>dL l|.near n=> .int n|_=> .none
noncomputable def cL(k k':Tk):JP Nat:=if k= .lp\/k'= .rp then [] else [32]
noncomputable def tl:Tk->JP Tk->JP Nat
 |_,[]=>[]
 |k,J::r=>cL k J++(txt J++tl J r)
noncomputable def qJ(y:JP Nat):Prop:=y=[]\/∃ c r,y=c::r/\(c=32\/c=41)
theorem lP{k:Tk}(h:k≠ .lp):∀ r,qJ (tl k r)
 |[]=> .inl rfl
 |k'::r=>by
  refine .inr ?_;unfold tl cL;by_cases e:k'= .rp
  ·rw[J1 (.inr e),e];exact⟨41,tl .rp r,rfl,.inr rfl⟩
  ·rw[if_neg (λz=>z.elim h e)];exact⟨32,_,rfl,.inl rfl⟩
theorem kh{y:JP Nat}(h:qJ y):y.takeWhile dA=[]/\y.take 1≠[42]:=by
 rcases h with rfl|⟨c,r,rfl,rfl|rfl⟩
 ·exact⟨rfl,by decide⟩
 ·exact⟨by rw[LC,if_neg dkq],by show [32]≠[42];decide⟩
 ·exact⟨by rw[LC,if_neg dkq],by show [41]≠[42];decide⟩
theorem tU{w y:JP Nat}{p:Nat->KS}(hw:w.all p=true)(hy:y.takeWhile p=[]):(w++y).takeWhile p=w:=by
 rw[NN (λc J=>List.all_eq_true.mp hw c J),hy,KR]
theorem iA{L x y:JP Nat}{b:Nat}(h:L.drop b=x++y):L.drop (b+x.length)=y:=by
 rw[<-M0,h,OV]
theorem gJ{L:JP Nat}{b c:Nat}{y:JP Nat}(h:L.drop b=c::y):L.getD b 0=c/\b<L.length:=by
 have e:L[b]? =some c:=by
  have:=K9 (λl=>l[0]?) h;simpa using this
 refine⟨by rw[List.getD_eq_getElem?_getD,e];rfl,?_⟩;exact(List.getElem?_eq_some_iff.mp e).1
theorem qd{L:JP Nat}{b:Nat}{w z:JP Nat}(h:L.drop b=w++z)(hw:w.all dA=true)(hz:z.takeWhile dA=[]):
  kr L b=(if z.take 1=[42] then ("leaf",.tuple [.str "start",.str (sT w)],b+w.length+1) else if isJ (sT w) then (sT w,.none,b+w.length) else ("leaf",.tuple [.str "word",.str (sT w)],b+w.length):Pq):=by
 have J:dj L b=b+w.length:=by unfold RA.dj;rw[h,tU hw hz]
 have U:sl L b (b+w.length)=w:=by
  unfold RA.sl;rw[h,Lj,L8]
 have I:sl L (b+w.length) (b+w.length+1)=z.take 1:=by
  unfold RA.sl;rw[iA h,Lj]
 unfold kr;rw[J,U,I]
theorem oO:∀{ls:JP (JP Nat)},(∀ w∈ls,gW w)->(jn ls).all fX=true/\(∀ c∈jn ls,c≠34/\c≠40/\c≠41)
 |[],_=>⟨rfl,λc J=>nomatch J⟩
 |[w],h=>by
  have g:=(h w (by simp)).2;refine⟨List.all_eq_true.mpr λc J=>?_,λc J=>?_⟩
  ·unfold fX;rw[List.all_eq_true.mp g c J,Bool.or_true]
  ·have:=mr (List.all_eq_true.mp g c J);exact⟨this.2.2.1,this.2.2.2.1,this.2.2.2.2.1⟩
 |w::y::r,h=>by
  have g:=(h w (by simp)).2
  have U:=oO (ls:=y::r) λz I=>h z (J0 _ I)
  refine⟨?_,λc J=>?_⟩
  ·show(w++32::jn (y::r)).all fX=true;rw[OK,M9,U.1,List.all_eq_true.mpr λc J=>by unfold fX;rw[List.all_eq_true.mp g c J,Bool.or_true]];rfl
  ·rcases List.mem_append.mp (show c∈w++32::jn (y::r) from J) with q|q
   ·have:=mr (List.all_eq_true.mp g c q);exact⟨this.2.2.1,this.2.2.2.1,this.2.2.2.2.1⟩
   ·rcases List.mem_cons.mp q with rfl|q
    ·decide
    ·exact U.2 c q
theorem G1{L:JP Nat}{b:Nat}{ls:JP (JP Nat)}{y:JP Nat}(h:L.drop b=34::(jn ls++34::y))(hg:∀ w∈ls,gW w)(h1:1<=ls.length)(h8:ls.length<=8):
  jo L b=(("leaf",g9 (ls.map sT),b+((jn ls).length+2)):Pq):=by
 have ok:=oO hg
 have J:L.drop (b+1)=jn ls++34::y:=iA (x:=[34]) h
 have U:fq L (b+1)=b+1+(jn ls).length:=by
  unfold RA.fq;rw[J,tU (List.all_eq_true.mpr λc I=>JS (ok.2 c I).1) (by rw[LC,if_neg (by decide)])]
 have e2:sl L (b+1) (b+1+(jn ls).length)=jn ls:=by
  unfold RA.sl;rw[J,Lj,L8]
 have e3:b+1+(jn ls).length<L.length:=(gJ (iA J)).2;unfold jo qK;rw[U,e2,HE hg,JX,J1 ⟨e3,ok.1,h1,h8⟩];show(_,_,b+1+(jn ls).length+1)=(_,_,b+((jn ls).length+2));rw[show b+1+(jn ls).length+1=b+((jn ls).length+2) by lia]
theorem p3:∀ n:Nat,n<21->(dF (n:Int)).all dA=true/\rR (dF (n:Int))=some n:=dkq
theorem z7{ls:JP (JP Nat)}(h:2<=ls.length):g9 (ls.map sT)=dL (.row ls):=by
 unfold g9;rw[JX,if_neg (by lia),LB];rfl
theorem E3{L:JP Nat}{b:Nat}{k:Tk}{y:JP Nat}(h:L.drop b=txt k++y)(hg:gK k)(hy:k≠ .lp->k≠ .rp->qJ y):fA L b=(kS k,mD k,b+(txt k).length)/\b<L.length/\L.getD b 0≠32:=by
 have aa:∀(w z:JP Nat),L.drop b=w++z->gW w->fA L b=kr L b/\b<L.length/\L.getD b 0≠32:=λw z e g=>by
  cases w with
  |nil=>exact absurd rfl g.1
  |cons c w=>
   have hc:=g.2;rw[M9,Lc] at hc;have J:=gJ (c:=c) (y:=w++z) e;refine⟨?_,J.2,by rw[J.1];exact(mr hc.1).2.1⟩;unfold fA;rw[J.1,J1 hc.1]
 have ab:∀ ls:JP (JP Nat),L.drop b=34::(jn ls++34::y)->(∀ w∈ls,gW w)->1<=ls.length->ls.length<=8->fA L b=(("leaf",g9 (ls.map sT),b+((jn ls).length+2)):Pq)/\b<L.length/\L.getD b 0≠32:=λls e g h1 h8=>by
  have J:=gJ e;refine⟨?_,J.2,by rw[J.1];decide⟩;rw[<-G1 e g h1 h8];unfold fA;rw[J.1,if_neg dkq,if_neg (by decide),if_neg (by decide),J1 rfl]
 cases k with
 |leaf l=>
  have U:=kh (hy (by intro z;cases z) (by intro z;cases z));cases l with
  |word w=>
   have g:gW w:=hg;by_cases hj:isJ (sT w)=true
   ·have e:txt (.leaf (.word w))=34::(w++[34]):=J1 hj;rw[e] at h ⊢;have h':L.drop b=34::(jn [w]++34::y):=by rw[h];show 34::(w++[34]++y)=_;rw[Kt];rfl
    obtain⟨a1,a2,I⟩:=ab [w] h' (λz hz=>by rw[List.mem_singleton.mp hz];exact g) (JY 1) (J9 rfl);refine⟨?_,a2,I⟩;rw[a1];show(_,_,b+(w.length+2))=(_,_,b+(34::(w++[34])).length);rw[JV,JU];rfl
   ·have e:txt (.leaf (.word w))=w:=if_neg hj;rw[e] at h ⊢;obtain⟨a1,a2,I⟩:=aa w y h g;refine⟨?_,a2,I⟩;rw[a1,qd h g.2 U.1,if_neg U.2,if_neg hj];rfl
  |start w=>
   have g:gW w:=hg
   have h':L.drop b=w++42::y:=by rw[h];show w++[42]++y=_;rw[Kt];rfl
   obtain⟨a1,a2,I⟩:=aa w _ h' g;refine⟨?_,a2,I⟩;rw[a1,qd h' g.2 (by rw[LC,if_neg dkq]),J1 (show(42::y).take 1=[42] from rfl)];show(_,_,b+w.length+1)=(_,_,b+(w++[42]).length);rw[JU];rfl
  |row ws=>
   have g:2<=ws.length/\ws.length<=8/\∀ w∈ws,gW w:=hg
   have h':L.drop b=34::(jn ws++34::y):=by rw[h];show 34::(jn ws++[34]++y)=_;rw[Kt];rfl
   obtain⟨a1,a2,I⟩:=ab ws h' g.2.2 (by lia) g.2.1;refine⟨?_,a2,I⟩;rw[a1,z7 g.1];show(_,_,b+((jn ws).length+2))=(_,_,b+(34::(jn ws++[34])).length);rw[JV,JU];rfl
 |near n=>
  have hn:n<=20:=hg
  have U:=kh (hy (by intro z;cases z) (by intro z;cases z))
  have od:=p3 n (by lia)
  have h':L.drop b=126::(dF (n:Int)++y):=h
  have J:=gJ h'
  have d1:L.drop (b+1)=dF (n:Int)++y:=iA (x:=[126]) h'
  have e1:dj L (b+1)=b+1+(dF (n:Int)).length:=by unfold RA.dj;rw[d1,tU od.1 U.1]
  have e2:sl L (b+1) (b+1+(dF (n:Int)).length)=dF (n:Int):=by
   unfold RA.sl;rw[d1,Lj,L8]
  refine⟨?_,J.2,by rw[J.1];decide⟩;unfold fA;rw[J.1,if_neg dkq,if_neg (by decide),J1 rfl];unfold kb;rw[e1,e2,od.2];show(_,_,b+1+(dF (n:Int)).length)=(_,_,b+(126::dF (n:Int)).length);rw[JV,show b+1+(dF (n:Int)).length=b+((dF (n:Int)).length+1) by lia];rfl
 |no=>
  have U:=kh (hy (by intro z;cases z) (by intro z;cases z));obtain⟨a1,a2,I⟩:=aa [110,111,116] y h ⟨by decide,dkq⟩;exact⟨by rw[a1,qd h dkq U.1,if_neg U.2,J1 dkq];rfl,a2,I⟩
 |and=>
  have U:=kh (hy (by intro z;cases z) (by intro z;cases z));obtain⟨a1,a2,I⟩:=aa [97,110,100] y h ⟨by decide,dkq⟩;exact⟨by rw[a1,qd h dkq U.1,if_neg U.2,J1 dkq];rfl,a2,I⟩
 |or=>
  have U:=kh (hy (by intro z;cases z) (by intro z;cases z));obtain⟨a1,a2,I⟩:=aa [111,114] y h ⟨by decide,dkq⟩;exact⟨by rw[a1,qd h dkq U.1,if_neg U.2,J1 dkq];rfl,a2,I⟩
 |lp=>
  have J:=gJ (show L.drop b=40::y from h);refine⟨?_,J.2,by rw[J.1];decide⟩;unfold fA;rw[J.1,if_neg dkq,J1 (.inl rfl)];rfl
 |rp=>
  have J:=gJ (show L.drop b=41::y from h);refine⟨?_,J.2,by rw[J.1];decide⟩;unfold fA;rw[J.1,if_neg dkq,J1 (.inr rfl)];rfl
theorem xp{L:JP Nat}:∀(r:JP Tk) (k:Tk) (b:Nat),L.drop b=tl k r->(∀ k∈r,gK k)->(parts L b).map (λq=>(q.1,q.2.1))=r.map (λk=>(kS k,mD k))++[((("end":Str),PyData.none))]
 |[],k,b,h,_=>by
  have h':L.drop b=[]:=h
  have:L.length<=b:=List.drop_eq_nil_iff.mp h';unfold parts;rw[nI this];rfl
 |k'::r,k,b,h,J=>by
  have go:∀ b,L.drop b=txt k'++tl k' r->(parts L b).map (λq=>(q.1,q.2.1))=(k'::r).map (λk=>(kS k,mD k))++[((("end":Str),PyData.none))]:=λb h=>by
   have y:=lP (k:=k');obtain⟨a1,a2,I⟩:=E3 h (J k' (by simp)) (λn _=>y n r);rw[A6 a2 I,a1,KU,xp r k' (b+(txt k').length) (iA h) λk hk=>J k (J0 _ hk)];rfl
  have h':L.drop b=cL k k'++(txt k'++tl k' r):=h;unfold cL at h';split at h'
  ·exact go b h'
  ·have U:=gJ (show L.drop b=32::_ from h');rw[zw U.2 U.1];exact go (b+1) (iA (x:=[32]) h')
noncomputable def At.lf:At->Lf
 |.word z=> .word (codes z)|.start z=> .start (codes z)|.row zs=> .row (zs.map codes)|_=> .word []
noncomputable def At.tr:At->Tr
 |.word z=> .leaf (.word (codes z))|.start z=> .leaf (.start (codes z))|.row zs=> .leaf (.row (zs.map codes))
 |.near a b n=> .near a.lf b.lf n.toNat
 |.both a b=> .both a.tr b.tr|.either a b=> .either a.tr b.tr|.no a=> .no a.tr
noncomputable def dT:Tr->Kf
 |.leaf l=>dL l
 |.near a b n=> .tuple [.str "near",dL a,dL b,.int n]
 |.both a b=> .tuple [.str "both",dT a,dT b]
 |.either a b=> .tuple [.str "either",dT a,dT b]
 |.no a=> .tuple [.str "not",dT a]
theorem sI(z:Str):sT (codes z)=z:=toStr z
theorem pS{a:At}(h:gs a.kn=true):dL a.lf=a.told:=by
 cases a with
 |word z=>show Ld [_,.str (sT (codes z))]=_;rw[sI];rfl
 |start z=>show Ld [_,.str (sT (codes z))]=_;rw[sI];rfl
 |row zs=>
  show Ld [_,.tuple ((zs.map codes).map λw=> .str (sT w))]=Ld [_,.tuple (zs.map .str)];rw[LB];have e:((λw=>MC (sT w)) ∘ codes)=MC:=by
   funext z
   show MC (sT (codes z))=_;rw[sI]
  rw[e]
 |near _ _ _=>cases h
 |both _ _=>cases h
 |either _ _=>cases h
 |no _=>cases h
theorem i5:∀{t:At},Gd t->dT t.tr=t.told
 |.word z,_=>pS (a:= .word z) rfl
 |.start z,_=>pS (a:= .start z) rfl
 |.row zs,_=>pS (a:= .row zs) rfl
 |.near a b n,h=>by
  show Ld [_,dL a.lf,dL b.lf,.int (n.toNat:Int)]=Ld [_,a.told,b.told,.int n];rw[pS h.1.1,pS h.1.2,Ml h.2.1.1]
 |.both a b,h=>by
  show Ld [_,dT a.tr,dT b.tr]=Ld [_,a.told,b.told];rw[i5 h.1,i5 h.2]
 |.either a b,h=>by
  show Ld [_,dT a.tr,dT b.tr]=Ld [_,a.told,b.told];rw[i5 h.1,i5 h.2]
 |.no a,h=>by
  show Ld [_,dT a.tr]=Ld [_,a.told];rw[i5 (t:=a) h]
theorem lJ:∀{t:At},Gd t->t.tr.dep=t.dep
 |.word z,_=>rfl
 |.start z,_=>rfl
 |.row zs,_=>rfl
 |.near a b n,h=>by
  show 1=max a.dep b.dep+1;rw[At.lf_dep h.1.1,At.lf_dep h.1.2];rfl
 |.both a b,h=>by show max a.tr.dep b.tr.dep+1=max a.dep b.dep+1;rw[lJ h.1,lJ h.2]
 |.either a b,h=>by show max a.tr.dep b.tr.dep+1=max a.dep b.dep+1;rw[lJ h.1,lJ h.2]
 |.no a,h=>by show a.tr.dep+1=a.dep+1;rw[lJ (t:=a) h]
theorem vw{z:Str}(h:Wm z):gW (codes z):=⟨λe=>by
 have:=h.2.2
 have l:z.length=(codes z).length:=(str_len z).symm;rw[l,e] at this;exact absurd this (by decide),h.2.1⟩
theorem jE{a:At}(h:gs a.kn=true)(g:Gd a):gL a.lf:=by
 cases a with
 |word z=>exact vw g
 |start z=>exact vw g
 |row zs=>
  obtain⟨g1,g2,g3⟩:=g;refine⟨by rw[JX];exact g1,by rw[JX];exact g2,λw hw=>?_⟩;obtain⟨z,J,rfl⟩:=List.mem_map.mp hw;exact vw (g3 z J)
 |near _ _ _=>cases h
 |both _ _=>cases h
 |either _ _=>cases h
 |no _=>cases h
theorem rM{c:KS}{l:JP Tk}(h:∀ k∈l,gK k):∀ k∈brk c l,gK k:=by
 cases c with
 |false=>exact h
 |true=>
  intro k hk;rcases List.mem_cons.mp (show k∈Tk.lp::(l++[.rp]) from hk) with rfl|q
  ·trivial
  ·rcases List.mem_append.mp q with q|q
   ·exact h k q
   ·rw[List.mem_singleton.mp q];trivial
theorem jX:∀{t:At},Gd t->∀ k∈wr t.tr,gK k
 |.word z,h,k,hk=>by rw[List.mem_singleton.mp (show k∈[Tk.leaf (.word (codes z))] from hk)];exact jE (a:= .word z) rfl h
 |.start z,h,k,hk=>by rw[List.mem_singleton.mp (show k∈[Tk.leaf (.start (codes z))] from hk)];exact jE (a:= .start z) rfl h
 |.row zs,h,k,hk=>by rw[List.mem_singleton.mp (show k∈[Tk.leaf (.row (zs.map codes))] from hk)];exact jE (a:= .row zs) rfl h
 |.near a b n,h,k,hk=>by
  have J:k∈[Tk.leaf a.lf,.near n.toNat,.leaf b.lf]:=hk;simp only[L5,LW,N4] at J;rcases J with rfl|rfl|rfl
  ·exact jE h.1.1 h.2.2.1
  ·show n.toNat<=20;have:=h.2.1.2;lia
  ·exact jE h.1.2 h.2.2.2
 |.both a b,h,k,hk=>by
  rcases List.mem_append.mp (show k∈brk a.tr.isE (wr a.tr)++ .and::brk b.tr.isBE (wr b.tr) from hk) with q|q
  ·exact rM (jX h.1) k q
  ·rcases List.mem_cons.mp q with rfl|q
   ·trivial
   ·exact rM (jX h.2) k q
 |.either a b,h,k,hk=>by
  rcases List.mem_append.mp (show k∈wr a.tr++ .or::brk b.tr.isE (wr b.tr) from hk) with q|q
  ·exact jX h.1 k q
  ·rcases List.mem_cons.mp q with rfl|q
   ·trivial
   ·exact rM (jX h.2) k q
 |.no a,h,k,hk=>by
  rcases List.mem_cons.mp (show k∈Tk.no::brk a.tr.isBE (wr a.tr) from hk) with rfl|q
  ·trivial
  ·exact rM (jX (t:=a) h) k q
noncomputable def fG:Tk->JP Tk->Tk
 |k,[]=>k
 |_,k::r=>fG k r
theorem je:∀(a:JP Tk) (k:Tk) (b:JP Tk),tl k (a++b)=tl k a++tl (fG k a) b
 |[],_,_=>rfl
 |k'::a,k,b=>by
  show cL k k'++(txt k'++tl k' (a++b))=cL k k'++(txt k'++tl k' a)++_;rw[je a k' b,Kt,Kt];rfl
theorem p5:∀(a:JP Tk) (k:Tk) (b:JP Tk),fG k (a++b)=fG (fG k a) b
 |[],_,_=>rfl
 |k'::a,k,b=>p5 a k' b
noncomputable def Wl(l:JP Tk):Prop:=(∃ k r,l=k::r/\k≠ .rp)/\∀ k,fG k l≠ .lp
theorem Wl.brk {c:KS}{l:JP Tk}(h:Wl l):Wl (brk c l):=by
 cases c with
 |false=>exact h
 |true=>
  refine⟨⟨.lp,l++[.rp],rfl,by intro z;cases z⟩,λk=>?_⟩;show fG k (.lp::(l++[.rp]))≠_;show fG .lp (l++[.rp])≠_;rw[p5];intro z;cases z
theorem Wl.mid {a b:JP Tk}{m:Tk}(ha:Wl a)(hb:Wl b):Wl (a++m::b):=by
 obtain⟨⟨k,r,rfl,hk⟩,_⟩:=ha;refine⟨⟨k,r++m::b,rfl,hk⟩,λk=>?_⟩;rw[p5];exact hb.2 m
theorem fF:∀ t:Tr,Wl (wr t)
 |.leaf l=>⟨⟨_,_,rfl,by intro z;cases z⟩,λk=>by intro z;cases z⟩
 |.near a b n=>⟨⟨_,_,rfl,by intro z;cases z⟩,λk=>by intro z;cases z⟩
 |.both a b=>(fF a).brk.mid (fF b).brk
 |.either a b=>(fF a).mid (fF b).brk
 |.no a=>⟨⟨.no,_,rfl,by intro z;cases z⟩,λk=>(fF a).brk.2 .no⟩
theorem tQ{k:Tk}{l:JP Tk}(h:Wl l)(hk:k≠ .lp):tl k l=32::tl .lp l:=by
 obtain⟨⟨J,r,rfl,U⟩,_⟩:=h;show cL k J++_=32::(cL .lp J++_);unfold cL;rw[if_neg (λz=>z.elim hk U),J1 (.inl rfl)];rfl
theorem kO{c:KS}{l:JP Tk}(h:Wl l):tl .lp (brk c l)=eL c (tl .lp l):=by
 cases c with
 |false=>rfl
 |true=>
  show cL .lp .lp++(txt .lp++tl .lp (l++[.rp]))=40::(tl .lp l++[41]);rw[je];show cL .lp .lp++(txt .lp++(tl .lp l++(cL (fG .lp l) .rp++(txt .rp++[]))))=_;unfold cL;rw[J1 (.inl rfl),J1 (.inr rfl)];rfl
theorem sS{a b:JP Tk}{m:Tk}(ha:Wl a)(hb:Wl b)(hm:m≠ .lp)(hm2:m≠ .rp):tl .lp (a++m::b)=tl .lp a++(32::(txt m++32::tl .lp b)):=by
 rw[je];show _++(cL (fG .lp a) m++(txt m++tl m b))=_;unfold cL;rw[if_neg (λz=>z.elim (ha.2 _) hm2),tQ hb hm];rfl
theorem xV(t:At):t.tr.isE=eI t.kn:=by cases t<;>rfl
theorem yE(t:At):t.tr.isBE=eG t.kn:=by cases t<;>rfl
theorem pw{a:At}(h:gs a.kn=true):ni a.lf=a.lin:=by
 cases a with
 |word z=>show(if isJ (sT (codes z)) then _ else _)=_;rw[sI];rfl
 |start z=>rfl
 |row zs=>
  show 34::(jn (zs.map codes)++[34])=34::(codes (Txt.join " " zs)++[34])
  have e:zs=(zs.map codes).map sT:=by
   rw[LB];exact(OF zs).symm.trans (M7 λz _=>(toStr z).symm)
  have j:=wM (zs.map codes);rw[<-e] at j;have j2:codes (Txt.join (JO " ") zs)=jn (zs.map codes):=by rw[j];simp[codes]
  rw[<-j2]
 |near _ _ _=>cases h
 |both _ _=>cases h
 |either _ _=>cases h
 |no _=>cases h
theorem ku:∀{t:At},Gd t->t.lin=tl .lp (wr t.tr)
 |.word z,_=>by
  show _=cL .lp _++(ni (At.word z).lf++[]);rw[pw (a:= .word z) rfl,KR];rfl
 |.start z,_=>by
  show _=cL .lp _++(ni (At.start z).lf++[]);rw[pw (a:= .start z) rfl,KR];rfl
 |.row zs,_=>by
  show _=cL .lp _++(ni (At.row zs).lf++[]);rw[pw (a:= .row zs) rfl,KR];rfl
 |.near a b n,h=>by
  show _=cL .lp _++(ni a.lf++(cL (.leaf a.lf) (.near n.toNat)++(txt (.near n.toNat)++(cL (.near n.toNat) (.leaf b.lf)++(ni b.lf++[])))));rw[pw h.1.1,pw h.1.2,KR];show a.lin++([32,126]++(dF n++(32::b.lin)))=a.lin++([32]++(126::dF (n.toNat:Int)++(32::b.lin)));rw[Ml h.2.1.1];rfl
 |.both a b,h=>by
  show eL (eI a.kn) a.lin++([32,97,110,100,32]++eL (eG b.kn) b.lin)=tl .lp (brk a.tr.isE (wr a.tr)++ .and::brk b.tr.isBE (wr b.tr));rw[sS (fF _).brk (fF _).brk (by intro z;cases z) (by intro z;cases z),kO (fF _),kO (fF _),<-ku h.1,<-ku h.2,xV,yE];rfl
 |.either a b,h=>by
  show a.lin++([32,111,114,32]++eL (eI b.kn) b.lin)=tl .lp (wr a.tr++ .or::brk b.tr.isE (wr b.tr));rw[sS (fF _) (fF _).brk (by intro z;cases z) (by intro z;cases z),kO (fF _),<-ku h.1,<-ku h.2,xV];rfl
 |.no a,h=>by
  show [110,111,116,32]++eL (eG a.kn) a.lin=cL .lp .no++(txt .no++tl .no (brk a.tr.isBE (wr a.tr)));rw[tQ (fF _).brk (by intro z;cases z),kO (fF _),<-ku (t:=a) h,yE];rfl
open RA (sl dj fq Lf Tr Tk wr brk nb)
noncomputable abbrev kA:=JP (Nat×Nat)×JP Nat×KS
noncomputable def f9(c i:Nat)(s:kA):JW kA:=
 if c=34 then some (s.1,s.2.1,!s.2.2) else if c=40/\s.2.2=false then some (s.1,i::s.2.1,s.2.2) else if c=41/\s.2.2=false then (match s.2.1 with|[]=>none|b::g=>some (s.1++[(b,i)],g,s.2.2)) else some s
noncomputable def fg:JP Nat->Nat->kA->JW kA
 |[],_,s=>some s
 |c::l,i,s=>(f9 c i s).bind (fg l (i+1))
theorem nz:∀(a b:JP Nat) (i:Nat) (s:kA),fg (a++b) i s=(fg a i s).bind (fg b (i+a.length))
 |[],b,i,s=>rfl
 |c::a,b,i,s=>by
  show(f9 c i s).bind (fg (a++b) (i+1))=((f9 c i s).bind (fg a (i+1))).bind _;cases f9 c i s with
  |none=>rfl
  |some s'=>
   show fg (a++b) (i+1) s'=(fg a (i+1) s').bind _;rw[nz a b (i+1) s',JV,show i+1+a.length=i+(a.length+1) by lia]
theorem kD:∀(l:JP Nat) (i:Nat) (s:kA),(∀ c∈l,c≠34/\c≠40/\c≠41)->fg l i s=some s
 |[],i,s,_=>rfl
 |c::l,i,s,h=>by
  have J:=h c (by simp)
  show(f9 c i s).bind (fg l (i+1))=_
  have e:f9 c i s=some s:=by
   unfold f9;rw[if_neg J.1,if_neg (λz=>J.2.1 z.1),if_neg (λz=>J.2.2 z.1)]
  rw[e];exact kD l (i+1) s λc J=>h c (J0 _ J)
theorem Av{l:JP Nat}(h:∀ c∈l,c≠34/\c≠40/\c≠41)(i:Nat)(f:JP (Nat×Nat))(g:JP Nat):fg (34::(l++[34])) i (f,g,false)=some (f,g,false):=by
 show(f9 34 i (f,g,false)).bind (fg (l++[34]) (i+1))=_
 show fg (l++[34]) (i+1) (f,g,true)=_;rw[nz,kD l _ _ h];rfl
theorem qa{w:JP Nat}(h:w.all dA=true):∀ c∈w,c≠34/\c≠40/\c≠41:=λc J=>by
 have:=mr (List.all_eq_true.mp h c J);exact⟨this.2.2.1,this.2.2.2.1,this.2.2.2.2.1⟩
theorem Hg{k:Tk}(hk:gK k)(h1:k≠ .lp)(h2:k≠ .rp)(i:Nat)(f:JP (Nat×Nat))(g:JP Nat):fg (txt k) i (f,g,false)=some (f,g,false):=by
 cases k with
 |leaf l=>
  cases l with
  |word w=>
   show fg (if isJ (sT w) then 34::(w++[34]) else w) i _=_;split
   ·exact Av (qa (show gW w from hk).2) _ _ _
   ·exact kD _ _ _ (qa (show gW w from hk).2)
  |start w=>
   refine kD _ _ _ λc J=>?_
   rcases List.mem_append.mp (show c∈w++[42] from J) with q|q
   ·exact qa (show gW w from hk).2 c q
   ·rw[List.mem_singleton.mp q];decide
  |row ws=>exact Av (oO (show _/\_/\∀ w∈ws,gW w from hk).2.2).2 _ _ _
 |near n=>
  refine kD _ _ _ λc J=>?_
  rcases List.mem_cons.mp (show c∈126::dF (n:Int) from J) with rfl|q
  ·decide
  ·exact qa (p3 n (by have:n<=20:=hk;lia)).1 c q
 |no=>exact kD _ _ _ (by show ∀ c∈[110,111,116],_;decide)
 |and=>exact kD _ _ _ (by show ∀ c∈[97,110,100],_;decide)
 |or=>exact kD _ _ _ (by show ∀ c∈[111,114],_;decide)
 |lp=>exact absurd rfl h1
 |rp=>exact absurd rfl h2
theorem vG(k k':Tk)(i:Nat)(s:kA):fg (cL k k') i s=some s:=kD _ _ _ λc J=>by
 unfold cL at J;split at J
 ·cases J
 ·rw[List.mem_singleton.mp J];decide
noncomputable def AI(L:JP Nat)(p:Nat×Nat):JP Nat:=L.take p.1++sl L (p.1+1) p.2++L.drop (p.2+1)
noncomputable def Cut(ts:JP Tk)(p:Nat×Nat):Prop:=p.1<p.2/\p.2<(tl .lp ts).length/\∃ J,AI (tl .lp ts) p=tl .lp J/\nb J<nb ts/\∀ k∈J,k∈ts
theorem Dn{k k':Tk}(h:k≠ .lp)(h':k'≠ .lp):∀ r,tl k r=tl k' r
 |[]=>rfl
 |q::r=>by
  show cL k q++_=cL k' q++_;unfold cL;by_cases e:q= .rp
  ·rw[J1 (.inr e),J1 (.inr e)]
  ·rw[if_neg (λz=>z.elim h e),if_neg (λz=>z.elim h' e)]
theorem Iv{pre l suf:JP Tk}(h:Wl l):Cut (pre++ .lp::(l++ .rp::suf)) ((tl .lp pre).length+(cL (fG .lp pre) .lp).length,(tl .lp pre).length+(cL (fG .lp pre) .lp).length+1+(tl .lp l).length):=by
 generalize hk:fG .lp pre=k;have I:tl .lp (pre++ .lp::(l++ .rp::suf))=(tl .lp pre++cL k .lp)++(40::(tl .lp l++(41::tl .rp suf))):=by
  rw[je,hk];show _++(cL k .lp++(txt .lp++tl .lp (l++ .rp::suf)))=_;rw[je];show _++(cL k .lp++(txt .lp++(tl .lp l++(cL (fG .lp l) .rp++(txt .rp++tl .rp suf)))))=_;rw[show cL (fG .lp l) .rp=[] from J1 (.inr rfl),Kt];rfl
 have la:(tl .lp pre).length+(cL k .lp).length=(tl .lp pre++cL k .lp).length:=by rw[JU]
 rw[la];have eR:tl .lp (pre++(l++suf))=(tl .lp pre++cL k .lp)++(tl .lp l++tl .rp suf):=by
  rw[je,hk,je,Dn (h.2 k) (show Tk.rp≠ .lp by intro z;cases z) suf];obtain⟨⟨q,r,rfl,hq⟩,_⟩:=h;show _++(cL k q++(txt q++tl q r)++_)=_++cL k .lp++(cL .lp q++(txt q++tl q r)++_);have e1:cL k q=cL k .lp:=by
   unfold cL;by_cases e:k= .lp
   ·rw[J1 (.inl e),J1 (.inl e)]
   ·rw[if_neg (λz=>z.elim e hq),if_neg (λz=>z.elim e (by intro w;cases w))]
  rw[e1,show cL .lp q=[] from J1 (.inl rfl)];simp only[Kt,NL]
 unfold Cut;rw[I];generalize tl .lp pre++cL k .lp=A at *;generalize hM:tl .lp l=M at *;generalize tl .rp suf=B at *;refine⟨by show A.length<A.length+1+M.length;lia,by show A.length+1+M.length<_;simp;lia,pre++(l++suf),?_,?_,λx J=>?_⟩
 ·rw[eR];unfold AI RA.sl;show List.take A.length _++((List.drop (A.length+1) _).take (A.length+1+M.length-(A.length+1)))++List.drop (A.length+1+M.length+1) _=_;have U:(A++(40::(M++(41::B)))).drop (A.length+1)=M++41::B:=by rw[<-M0,OV];rfl
  have d2:(A++(40::(M++(41::B)))).drop (A.length+1+M.length+1)=B:=by
   rw[<-M0,<-M0,U,OV];rfl
  rw[L8,U,d2,Lj,L8,Kt]
 ·rw[RA.mz,RA.mz,RA.mz,RA.ua,RA.mz,RA.pZ (by intro z;cases z)]
  lia
 ·simp only[List.mem_append,L5] at J ⊢;rcases J with h|h|h
  ·exact .inl h
  ·exact .inr (.inr (.inl h))
  ·exact .inr (.inr (.inr (.inr h)))
noncomputable def hV(l:JP Tk):Prop:=∀(pre suf:JP Tk) (f:JP (Nat×Nat)) (g:JP Nat),∃ new,fg (tl (fG .lp pre) l) (tl .lp pre).length (f,g,false)=some (f++new,g,false)/\∀ p∈new,Cut (pre++l++suf) p
theorem hV.one {k:Tk}(hk:gK k)(h1:k≠ .lp)(h2:k≠ .rp):hV [k]:=λpre suf f g=>by
 refine⟨[],?_,λp hp=>nomatch hp⟩;show fg (cL _ k++(txt k++[])) _ _=_;rw[nz,vG,KR,KR];exact Hg hk h1 h2 _ f g
theorem hV.app {a b:JP Tk}(ha:hV a)(hb:hV b):hV (a++b):=λpre suf f g=>by
 obtain⟨n1,U,I⟩:=ha pre (b++suf) f g;obtain⟨n2,J,c2⟩:=hb (pre++a) suf (f++n1) g;refine⟨n1++n2,?_,λp hp=>?_⟩
 ·rw[je,nz,U,<-p5];show fg _ _ (f++n1,g,false)=_;rw[je,JU] at J;rw[J,Kt]
 ·rcases List.mem_append.mp hp with q|q
  ·have:=I p q
   rwa [show pre++a++(b++suf)=pre++(a++b)++suf by simp] at this
  ·have:=c2 p q
   rwa [show pre++a++b++suf=pre++(a++b)++suf by simp] at this
theorem hV.brk {c:KS}{l:JP Tk}(h:hV l)(w:Wl l):hV (brk c l):=by
 cases c with
 |false=>exact h
 |true=>
  intro pre suf f g;obtain⟨n,e,J⟩:=h (pre++[.lp]) (.rp::suf) f (((tl .lp pre).length+(cL (fG .lp pre) .lp).length)::g);refine⟨n++[((tl .lp pre).length+(cL (fG .lp pre) .lp).length,(tl .lp pre).length+(cL (fG .lp pre) .lp).length+1+(tl .lp l).length)],?_,λp hp=>?_⟩
  ·show fg (cL _ .lp++(txt .lp++tl .lp (l++[.rp]))) _ _=_;rw[nz,vG];show fg (40::tl .lp (l++[.rp])) _ (f,g,false)=_;show fg (tl .lp (l++[.rp])) _ (f,_::g,false)=_;rw[je,nz];rw[p5,je,JU] at e;have U:fg (tl .lp l) ((tl .lp pre).length+(cL (fG .lp pre) .lp).length+1) (f,((tl .lp pre).length+(cL (fG .lp pre) .lp).length)::g,false)=some (f++n,((tl .lp pre).length+(cL (fG .lp pre) .lp).length)::g,false):=by
    have el:(tl (fG .lp pre) [.lp]).length=(cL (fG .lp pre) .lp).length+1:=by
     show(cL (fG .lp pre) .lp++(txt .lp++[])).length=_;rw[JU];rfl
    rw[el,<-Nat.add_assoc] at e;exact e
   rw[U];show fg (cL (fG .lp l) .rp++(txt .rp++[])) _ (f++n,_::g,false)=_;rw[nz,vG,show cL (fG .lp l) .rp=[] from J1 (.inr rfl)];show some ((f++n)++[(_,_)],g,false)=_;rw[Kt];rfl
  ·rcases List.mem_append.mp hp with q|q
   ·have:=J p q
    rwa [show pre++[.lp]++l++ .rp::suf=pre++(Tk.lp::(l++[.rp]))++suf by simp] at this
   ·rw[List.mem_singleton.mp q];have:=Iv (pre:=pre) (suf:=suf) w
    rwa [show pre++ .lp::(l++ .rp::suf)=pre++(Tk.lp::(l++[.rp]))++suf by simp] at this
theorem oN:∀(t:Tr),(∀ k∈wr t,gK k)->hV (wr t)
 |.leaf l,h=> .one (h _ (by show _∈[_];simp)) (by intro z;cases z) (by intro z;cases z)
 |.near a b n,h=>by
  have e:wr (.near a b n)=[.leaf a]++([.near n]++[.leaf b]):=rfl;rw[e] at h ⊢;exact(hV.one (h _ (by simp)) (by intro z;cases z) (by intro z;cases z)).app ((hV.one (h _ (by simp)) (by intro z;cases z) (by intro z;cases z)).app (hV.one (h _ (by simp)) (by intro z;cases z) (by intro z;cases z)))
 |.both a b,h=>by
  have e:wr (.both a b)=brk a.isE (wr a)++([.and]++brk b.isBE (wr b)):=rfl;rw[e] at h ⊢;have sub:∀{c:KS} {l:JP Tk} {k:Tk},k∈l->k∈brk c l:=λ{c l k} hk=>by cases c with|false=>exact hk|true=>show k∈Tk.lp::(l++[.rp]);simp[hk]
  exact((oN a λk hk=>h k (by simp[sub hk])).brk (fF a)).app ((hV.one (k:= .and) trivial (by intro z;cases z) (by intro z;cases z)).app ((oN b λk hk=>h k (by simp[sub hk])).brk (fF b)))
 |.either a b,h=>by
  have e:wr (.either a b)=wr a++([.or]++brk b.isE (wr b)):=rfl;rw[e] at h ⊢;have sub:∀{c:KS} {l:JP Tk} {k:Tk},k∈l->k∈brk c l:=λ{c l k} hk=>by cases c with|false=>exact hk|true=>show k∈Tk.lp::(l++[.rp]);simp[hk]
  exact(oN a λk hk=>h k (by simp[hk])).app ((hV.one (k:= .or) trivial (by intro z;cases z) (by intro z;cases z)).app ((oN b λk hk=>h k (by simp[sub hk])).brk (fF b)))
 |.no a,h=>by
  have e:wr (.no a)=[.no]++brk a.isBE (wr a):=rfl;rw[e] at h ⊢;have sub:∀{c:KS} {l:JP Tk} {k:Tk},k∈l->k∈brk c l:=λ{c l k} hk=>by cases c with|false=>exact hk|true=>show k∈Tk.lp::(l++[.rp]);simp[hk]
  exact(hV.one (k:= .no) trivial (by intro z;cases z) (by intro z;cases z)).app ((oN a λk hk=>h k (by simp[sub hk])).brk (fF a))
theorem BY{t:Tr}(h:∀ k∈wr t,gK k):∃ new,fg (tl .lp (wr t)) 0 ([],[],false)=some (new,[],false)/\∀ p∈new,Cut (wr t) p:=by
 obtain⟨n,e,c⟩:=oN t h [] [] [] [];refine⟨n,e,λp hp=>?_⟩;have:=c p hp
 rwa [NL,KR] at this
noncomputable def lE:Tk->KS
 |.lp=>true|.rp=>true|_=>false
noncomputable def dI(l:JP Tk):JP (JP Nat):=(l.filter λk=> !lE k).map txt
theorem rT(a b:JP Tk):dI (a++b)=dI a++dI b:=by unfold dI;rw[L9,J5]
theorem jK{k:Tk}(h:lE k=false)(l:JP Tk):dI (k::l)=txt k::dI l:=by unfold dI;rw[LX,h];rfl
theorem rA(c:KS)(l:JP Tk):dI (brk c l)=dI l:=by
 cases c with
 |false=>rfl
 |true=>
  show dI (.lp::(l++[.rp]))=_;unfold dI;rw[LX,if_neg (by decide),L9];show List.map txt (_++[])=_;rw[KR]
theorem p6:∀ t:Tr,dI (wr t)≠[]
 |.leaf l=>by intro z;cases z
 |.near a b n=>by intro z;cases z
 |.both a b=>by
  show dI (brk a.isE (wr a)++ .and::brk b.isBE (wr b))≠_;rw[rT,jK rfl];simp
 |.either a b=>by
  show dI (wr a++ .or::brk b.isE (wr b))≠_;rw[rT,jK rfl];simp
 |.no a=>by
  show dI (.no::brk a.isBE (wr a))≠_;rw[jK rfl];simp
theorem sV:∀(a b:JP (JP Nat)),a≠[]->b≠[]->jn (a++b)=jn a++32::jn b
 |[],_,h,_=>absurd rfl h
 |[x],y::r,_,_=>rfl
 |[x],[],_,h=>absurd rfl h
 |x::y::r,b,_,hb=>by
  show x++32::jn ((y::r)++b)=(x++32::jn (y::r))++_;rw[sV (y::r) b (by simp) hb,Kt];rfl
theorem z9{a b:JP (JP Nat)}{m:JP Nat}(ha:a≠[])(hb:b≠[]):jn (a++m::b)=jn a++32::(m++32::jn b):=by
 rw[sV a (m::b) ha (by simp),show m::b=[m]++b from rfl,sV [m] b (by simp) hb];rfl
noncomputable def fu(l:JP Nat):JP Nat:=(l.filter λc=>decide (c≠40)).filter λc=>decide (c≠41)
theorem iZ(a b:JP Nat):fu (a++b)=fu a++fu b:=by unfold fu;rw[L9,L9]
theorem pf{c:Nat}(h:c≠40)(h':c≠41)(l:JP Nat):fu (c::l)=c::fu l:=by
 unfold fu;rw[LX,J1 (JS h),LX,J1 (JS h')]
theorem x9:∀{l:JP Nat},(∀ c∈l,c≠40/\c≠41)->fu l=l
 |[],_=>rfl
 |c::l,h=>by
  rw[pf (h c (by simp)).1 (h c (by simp)).2,x9 λc J=>h c (J0 _ J)]
theorem tO(c:KS)(l:JP Nat):fu (eL c l)=fu l:=by
 cases c with
 |false=>rfl
 |true=>
  show fu (40::(l++[41]))=_
  have J:∀ x,fu (40::x)=fu x:=λx=>by unfold fu;rw[LX,if_neg (by decide)]
  rw[J,iZ];show fu l++[]=_;rw[KR]
theorem sP{k:Tk}(hk:gK k)(hb:lE k=false):fu (txt k)=txt k:=by
 refine x9 ?_;have q:∀{w:JP Nat},w.all dA=true->∀ c∈w,c≠40/\c≠41:=λh c hc=>(qa h c hc).2
 have mk:∀{l:JP Nat},(∀ c∈l,c≠40/\c≠41)->∀ c∈34::(l++[34]),c≠40/\c≠41:=λ{l} h c hc=>by
  rcases List.mem_cons.mp hc with rfl|hc
  ·decide
  ·rcases List.mem_append.mp hc with hc|hc
   ·exact h c hc
   ·rw[List.mem_singleton.mp hc];decide
 cases k with
 |leaf l=>
  cases l with
  |word w=>
   have g:gW w:=hk
   show ∀ c∈(if isJ (sT w) then 34::(w++[34]) else w),_;split
   ·exact mk (q g.2)
   ·exact q g.2
  |start w=>
   have g:gW w:=hk;intro c hc;rcases List.mem_append.mp (show c∈w++[42] from hc) with hc|hc
   ·exact q g.2 c hc
   ·rw[List.mem_singleton.mp hc];decide
  |row ws=>
   have g:_/\_/\∀ w∈ws,gW w:=hk;exact mk λc hc=>((oO g.2.2).2 c hc).2
 |near n=>
  intro c hc;rcases List.mem_cons.mp (show c∈126::dF (n:Int) from hc) with rfl|hc
  ·decide
  ·exact q (p3 n (by have:n<=20:=hk;lia)).1 c hc
 |no=>show ∀ c∈[110,111,116],_;decide
 |and=>show ∀ c∈[97,110,100],_;decide
 |or=>show ∀ c∈[111,114],_;decide
 |lp=>cases hb
 |rp=>cases hb
theorem tI{c:KS}{l:JP Tk}{k:Tk}(hk:k∈l):k∈brk c l:=by cases c with|false=>exact hk|true=>show k∈Tk.lp::(l++[.rp]);simp[hk]
theorem pD:∀(t:Tr),(∀ k∈wr t,gK k)->fu (tl .lp (wr t))=jn (dI (wr t))
 |.leaf l,h=>by
  show fu (cL .lp _++(txt (.leaf l)++[]))=txt (.leaf l);rw[show cL .lp (.leaf l)=[] from J1 (.inl rfl),KR];exact sP (h (.leaf l) (by show Tk.leaf l∈[Tk.leaf l];simp)) rfl
 |.near a b n,h=>by
  have h':∀ k∈[Tk.leaf a,.near n,.leaf b],gK k:=h
  show fu (cL .lp (.leaf a)++(txt (.leaf a)++(cL (.leaf a) (.near n)++(txt (.near n)++(cL (.near n) (.leaf b)++(txt (.leaf b)++[]))))))=txt (.leaf a)++32::(txt (.near n)++32::txt (.leaf b));rw[KR,iZ,iZ,iZ,iZ,iZ,sP (h' _ (by simp)) rfl,sP (h' _ (by simp)) rfl,sP (h' _ (by simp)) rfl];rfl
 |.both a b,h=>by
  have h':∀ k∈brk a.isE (wr a)++ .and::brk b.isBE (wr b),gK k:=h
  show fu (tl .lp (brk a.isE (wr a)++ .and::brk b.isBE (wr b)))=jn (dI (brk a.isE (wr a)++ .and::brk b.isBE (wr b)));rw[sS (fF _).brk (fF _).brk (by intro z;cases z) (by intro z;cases z),kO (fF _),kO (fF _),rT,jK rfl,rA,rA,z9 (p6 a) (p6 b),
   iZ,pf (by decide) (by decide),iZ,pf (by decide) (by decide),tO,tO,pD a λk hk=>h' k (by simp[tI hk]),pD b λk hk=>h' k (by simp[tI hk])];rfl
 |.either a b,h=>by
  have h':∀ k∈wr a++ .or::brk b.isE (wr b),gK k:=h
  show fu (tl .lp (wr a++ .or::brk b.isE (wr b)))=jn (dI (wr a++ .or::brk b.isE (wr b)));rw[sS (fF _) (fF _).brk (by intro z;cases z) (by intro z;cases z),kO (fF _),rT,jK rfl,rA,z9 (p6 a) (p6 b),
   iZ,pf (by decide) (by decide),iZ,pf (by decide) (by decide),tO,pD a λk hk=>h' k (by simp[hk]),pD b λk hk=>h' k (by simp[tI hk])];rfl
 |.no a,h=>by
  have h':∀ k∈Tk.no::brk a.isBE (wr a),gK k:=h
  show fu (cL .lp .no++(txt .no++tl .no (brk a.isBE (wr a))))=jn (dI (.no::brk a.isBE (wr a)));rw[tQ (fF _).brk (by intro z;cases z),kO (fF _),jK rfl,rA,show txt .no::dI (wr a)=[txt .no]++dI (wr a) from rfl,sV _ _ (by simp) (p6 a),
   iZ,iZ,pf (by decide) (by decide),tO,pD a λk hk=>h' k (by simp[tI hk])];rfl
noncomputable def gZ:Tr->Nat
 |.both a b=>1+(gZ a+gZ b)|.either a b=>gZ a+gZ b|.no a=>gZ a|_=>0
theorem BE{k:Tk}(hk:gK k)(hb:lE k=false):(txt k=[97,110,100])↔k= .and:=by
 refine⟨λe=>?_,λe=>by rw[e];rfl⟩;cases k with
 |leaf l=>
  cases l with
  |word w=>
   have J:(if isJ (sT w) then 34::(w++[34]) else w)=[97,110,100]:=e;split at J
   ·injection J with e1;cases e1
   ·rename_i U;rw[J] at U;exact absurd dkq U
  |start w=>
   have J:w++[42]=[97,110,100]:=e
   have:=K9 List.getLast? J;rw[List.getLast?_concat] at this;cases this
  |row ws=>injection (show 34::(jn ws++[34])=[97,110,100] from e) with e1;cases e1
 |near n=>injection (show 126::dF (n:Int)=[97,110,100] from e) with e1;cases e1
 |no=>cases e
 |and=>rfl
 |or=>cases e
 |lp=>cases hb
 |rp=>cases hb
theorem yU:∀{l:JP Tk},(∀ k∈l,gK k)->(dI l).count [97,110,100]=l.count .and
 |[],_=>rfl
 |k::l,h=>by
  have J:=yU (l:=l) λk hk=>h k (J0 _ hk)
  cases hb:lE k with
  |true=>
   have e:dI (k::l)=dI l:=by unfold dI;rw[LX,hb];rfl
   rw[e,J,Lv (by intro z;rw[z] at hb;cases hb)]
  |false=>
   rw[jK hb];by_cases e:k= .and
   ·subst e;show([97,110,100]::dI l).count _=_;rw[Mf,Mf,J]
   ·rw[Lv (λz=>e ((BE (h k (by simp)) hb).mp z)),Lv e,J]
theorem sx(c:KS)(l:JP Tk):(brk c l).count .and=l.count .and:=by
 cases c with
 |false=>rfl
 |true=>
  show(Tk.lp::(l++[.rp])).count .and=_;rw[Lv (by intro z;cases z),Nl];rfl
theorem oh:∀ t:Tr,(wr t).count .and=gZ t
 |.leaf _=>rfl
 |.near _ _ _=>rfl
 |.both a b=>by
  show(brk a.isE (wr a)++ .and::brk b.isBE (wr b)).count _=1+(gZ a+gZ b);rw[Nl,Mf,sx,sx,oh a,oh b]
  lia
 |.either a b=>by
  show(wr a++ .or::brk b.isE (wr b)).count _=gZ a+gZ b;rw[Nl,Lv (by intro z;cases z),sx,oh a,oh b]
 |.no a=>by
  show(Tk.no::brk a.isBE (wr a)).count _=gZ a;rw[Lv (by intro z;cases z),sx,oh a]
theorem uV{a b:JP Nat}(h:sT a=sT b):a=b:=by
 have:=K9 codes h;simpa[codes] using this
theorem wg{a b:Lf}(h:dL a=dL b):a=b:=by
 have tags:∀{x y:Str} {d e:JP Kf},Ld (.str x::d)= .tuple (.str y::e)->x=y/\d=e:=λh=>by
  injection h with h;injection h with h1 h2;injection h1 with h1;exact⟨h1,h2⟩
 have one:∀{a b:JP Nat},[MC (sT a)]=[.str (sT b)]->a=b:=λh=>by
  injection h with h _;injection h with h;exact uV h
 cases a with
 |word w=>cases b with
  |word v=>rw[one (tags h).2]
  |start v=>exact absurd (tags h).1 dkq
  |row v=>exact absurd (tags h).1 dkq
 |start w=>cases b with
  |word v=>exact absurd (tags h).1 dkq
  |start v=>rw[one (tags h).2]
  |row v=>exact absurd (tags h).1 dkq
 |row w=>cases b with
  |word v=>exact absurd (tags h).1 dkq
  |start v=>exact absurd (tags h).1 dkq
  |row v=>
   have:=(tags h).2;injection this with h1 _;injection h1 with h1;have:∀(x y:JP (JP Nat)),(x.map λw=>MC (sT w))=(y.map λw=> .str (sT w))->x=y:=λx=>by
    induction x with
    |nil=>intro y e;cases y with|nil=>rfl|cons _ _=>cases e
    |cons a x J=>
     intro y e;cases y with
     |nil=>cases e
     |cons b y=>
      rw[KU,KU] at e;injection e with e1 e2;injection e1 with e1;rw[uV e1,J y e2]
   rw[this w v h1]
noncomputable def sf:Tr->Str
 |.leaf (.word _)=>"word" |.leaf (.start _)=>"start" |.leaf (.row _)=>"row" |.near _ _ _=>"near" |.both _ _=>"both" |.either _ _=>"either" |.no _=>"not"
noncomputable def FI:Tr->JP Kf
 |.leaf (.word w)=>[.str (sT w)]|.leaf (.start w)=>[.str (sT w)]|.leaf (.row ws)=>[.tuple (ws.map λw=> .str (sT w))]|.near a b n=>[dL a,dL b,.int n]|.both a b=>[dT a,dT b]|.either a b=>[dT a,dT b]|.no a=>[dT a]
theorem gH(t:Tr):dT t= .tuple (.str (sf t)::FI t):=by
 cases t with
 |leaf l=>cases l<;>rfl
 |near _ _ _=>rfl
 |both _ _=>rfl
 |either _ _=>rfl
 |no _=>rfl
noncomputable def fQ:Tr->Nat
 |.leaf (.word _)=>0|.leaf (.start _)=>1|.leaf (.row _)=>2|.near _ _ _=>3|.both _ _=>4|.either _ _=>5|.no _=>6
noncomputable def tg(n:Nat):Str:=(["word","start","row","near","both","either","not"]:JP Str).getD n "x"
theorem D1:∀ i<7,∀ j<7,tg i=tg j->i=j:=dkq
theorem so(t:Tr):sf t=tg (fQ t)/\fQ t<7:=by
 cases t with
 |leaf l=>cases l<;>exact⟨rfl,J9 rfl⟩
 |near _ _ _=>exact⟨rfl,J9 rfl⟩
 |both _ _=>exact⟨rfl,J9 rfl⟩
 |either _ _=>exact⟨rfl,J9 rfl⟩
 |no _=>exact⟨rfl,J9 rfl⟩
theorem gn{a b:Tr}(h:sf a=sf b)(n:fQ a≠fQ b):LG:=n (D1 _ (so a).2 _ (so b).2 (by rw[<-(so a).1,<-(so b).1,h]))
theorem F6:∀(a b:Tr),dT a=dT b->a=b:=by
 intro a;induction a with
 |leaf l=>
  intro b h;cases b with
  |leaf m=>rw[wg (show dL l=dL m from h)]
  |near _ _ _=>rw[gH,gH] at h;injection h with h;injection h with h _;injection h with h;cases l<;>exact(gn h (by simp[fQ])).elim
  |both _ _=>rw[gH,gH] at h;injection h with h;injection h with h _;injection h with h;cases l<;>exact(gn h (by simp[fQ])).elim
  |either _ _=>rw[gH,gH] at h;injection h with h;injection h with h _;injection h with h;cases l<;>exact(gn h (by simp[fQ])).elim
  |no _=>rw[gH,gH] at h;injection h with h;injection h with h _;injection h with h;cases l<;>exact(gn h (by simp[fQ])).elim
 |near x y n=>
  intro b h;rw[gH,gH] at h;injection h with h;injection h with h1 h2;injection h1 with h1
  cases b with
  |near U y' n'=>
   injection h2 with a1 h2;injection h2 with a2 h2;injection h2 with a3 _;injection a3 with a3;rw[wg a1,wg a2,Int.ofNat.inj a3]
  |leaf l=>cases l<;>exact(gn h1 (by simp[fQ])).elim
  |both _ _=>exact(gn h1 (by simp[fQ])).elim
  |either _ _=>exact(gn h1 (by simp[fQ])).elim
  |no _=>exact(gn h1 (by simp[fQ])).elim
 |both x y J I=>
  intro b h;rw[gH,gH] at h;injection h with h;injection h with h1 h2;injection h1 with h1
  cases b with
  |both U y'=>
   injection h2 with a1 h2;injection h2 with a2 _;rw[J _ a1,I _ a2]
  |leaf l=>cases l<;>exact(gn h1 (by simp[fQ])).elim
  |near _ _ _=>exact(gn h1 (by simp[fQ])).elim
  |either _ _=>exact(gn h1 (by simp[fQ])).elim
  |no _=>exact(gn h1 (by simp[fQ])).elim
 |either x y J I=>
  intro b h;rw[gH,gH] at h;injection h with h;injection h with h1 h2;injection h1 with h1
  cases b with
  |either U y'=>
   injection h2 with a1 h2;injection h2 with a2 _;rw[J _ a1,I _ a2]
  |leaf l=>cases l<;>exact(gn h1 (by simp[fQ])).elim
  |near _ _ _=>exact(gn h1 (by simp[fQ])).elim
  |both _ _=>exact(gn h1 (by simp[fQ])).elim
  |no _=>exact(gn h1 (by simp[fQ])).elim
 |no x J=>
  intro b h;rw[gH,gH] at h;injection h with h;injection h with h1 h2;injection h1 with h1
  cases b with
  |no U=>
   injection h2 with a1 _;rw[J _ a1]
  |leaf l=>cases l<;>exact(gn h1 (by simp[fQ])).elim
  |near _ _ _=>exact(gn h1 (by simp[fQ])).elim
  |both _ _=>exact(gn h1 (by simp[fQ])).elim
  |either _ _=>exact(gn h1 (by simp[fQ])).elim
end K13
namespace L2
open PySem PySem.Spec PyProof.Rows
noncomputable def G8(kvs:JP (Key×V))(ty:TE):TE:=λσ H Q=>ty σ H λy H2=>∃ k v,y=kV k/\eO kvs k=some v/\Q v H2
theorem Dc{X:Cx}{x:Str}{d:JR}{kvs:JP (Key×V)}{e:KI}{p pos:Pos}{ty:TE}(hg:Gl X x)(hm:X.mg x=some (.ref d))(D:KD X.prog X.w X.K d kvs)(he:PE X e ty)(hs:tX e)(hdb:(x==("__debug__":Str))=false:=by decide):
  PE X (.Subscript (.Name x p) e pos) (G8 kvs ty):=by
 intro pins s σ H Q I h;refine AW F.slot_dict_getitem.lookup hs (jw I hg hm ?_ hdb);refine cv (he pins s σ H _ I h) λiv s2 ⟨y,H2,U,ry,k,v,ey,l,q2⟩=>?_
 subst ey;obtain⟨vs,rel,dd⟩:=D.at_ s2.heap U.kIn;obtain⟨w',hw,J⟩:=gY.some_of (v:=v) (o:=OD vs k) (by rw[<-l];exact rel.val k);exact⟨dd.typeIs,wpAny_getItem_of (pN ry) dd.mapOf hw ⟨v,H2,U.tok _,J,q2⟩⟩
end L2
namespace K13
open PySem L2 PyProof.Rows PySem.Spec Gn K01
open RA (Lf Tr Tk wr brk Kd Bk takeIn choose)
noncomputable def oD:JW Tr->Kf
 |none=> .none|some t=>dT t
noncomputable def gE(b:Bk):gg:=⟨b.nots,oD b.a,oD b.o⟩
theorem Az(t:Tr):iJ (dT t)=false:=by rw[gH];rfl
theorem uE:∀(n:Nat) (t:Tr),jU n (dT t)=dT (RA.nots n t)
 |0,_=>rfl
 |n+1,t=>uE n (.no t)
theorem wz(t:Tr)(b:Bk):uI (dT t) (gE b)=gE (takeIn t b):=by
 obtain⟨n,a,o⟩:=b;cases a with
 |none=>
  show gg.mk 0 (if iJ .none then jU n (dT t) else _) (oD o)=gg.mk 0 (dT (RA.nots n t)) (oD o);rw[uE];rfl
 |some x=>
  show gg.mk 0 (if iJ (dT x) then _ else .tuple [.str "both",dT x,jU n (dT t)]) (oD o)=gg.mk 0 (dT (.both x (RA.nots n t))) (oD o);rw[Az,uE n t];rfl
theorem wb{b:Bk}(h:b.a≠none):qH (gE b)=gE (choose b):=by
 obtain⟨n,a,o⟩:=b;cases a with
 |none=>exact absurd rfl h
 |some y=>
  cases o with
  |none=>rfl
  |some x=>
   show gg.mk n .none (if iJ (dT x) then _ else .tuple [.str "either",dT x,dT y])=gg.mk n .none (dT (.either x y));rw[Az];rfl
noncomputable abbrev fR(b l e f:V):JP (Str×V):=dh "far" f (dh "leaf" e (dh "last" l (dh "brackets" b [])))
theorem r1:("brackets":Str)≠"last":=dkq
theorem r2:("brackets":Str)≠"leaf":=dkq
theorem r3:("brackets":Str)≠"far":=dkq
theorem r4:("last":Str)≠"leaf":=dkq
theorem r5:("last":Str)≠"far":=dkq
theorem r6:("leaf":Str)≠"far":=dkq
theorem lr(b l e f:V):fR b l e f=[(("brackets":Str),b),(("last":Str),l),(("leaf":Str),e),(("far":Str),f)]:=by
 have J:dh "last" l [(("brackets":Str),b)]=[(("brackets":Str),b),(("last":Str),l)]:=by show(if ("brackets":Str)="last" then _ else _)=_;rw[if_neg r1];rfl
 have U:dh "leaf" e [(("brackets":Str),b),(("last":Str),l)]=[(("brackets":Str),b),(("last":Str),l),(("leaf":Str),e)]:=by
  show(if ("brackets":Str)="leaf" then _ else (("brackets":Str),b)::(if ("last":Str)="leaf" then _ else _))=_;rw[if_neg r2,if_neg r4];rfl
 show dh "far" f (dh "leaf" e (dh "last" l [("brackets",b)]))=_;rw[J,U];show(if ("brackets":Str)="far" then _ else (("brackets":Str),b)::(if ("last":Str)="far" then _ else (("last":Str),l)::(if ("leaf":Str)="far" then _ else _)))=_;rw[if_neg r3,if_neg r5,if_neg r6];rfl
theorem vP(x b l e f:V):dh "last" x (fR b l e f)=fR b x e f:=by
 rw[lr,lr];show(if ("brackets":Str)="last" then _ else (("brackets":Str),b)::(if ("last":Str)="last" then _ else _))=_;rw[if_neg r1,J1 rfl]
theorem Jp(x b l e f:V):dh "leaf" x (fR b l e f)=fR b l x f:=by
 rw[lr,lr];show(if ("brackets":Str)="leaf" then _ else (("brackets":Str),b)::(if ("last":Str)="leaf" then _ else (("last":Str),l)::(if ("leaf":Str)="leaf" then _ else _)))=_;rw[if_neg r2,if_neg r4,J1 rfl]
theorem Dx(x b l e f:V):dh "far" x (fR b l e f)=fR b l e x:=by
 rw[lr,lr];show(if ("brackets":Str)="far" then _ else (("brackets":Str),b)::(if ("last":Str)="far" then _ else (("last":Str),l)::(if ("leaf":Str)="far" then _ else (("leaf":Str),e)::(if ("far":Str)="far" then _ else _))))=_;rw[if_neg r3,if_neg r5,if_neg r6,J1 rfl]
theorem G4(b l e f:V):(fR b l e f).lookup ("far":Str)=some f:=by rw[dO,J1 rfl]
theorem zO(b l e f:V):(fR b l e f).lookup ("leaf":Str)=some e:=by rw[dO,if_neg r6,dO,J1 rfl]
theorem uG(b l e f:V):(fR b l e f).lookup ("last":Str)=some l:=by rw[dO,if_neg r5,dO,if_neg r4,dO,J1 rfl]
theorem jb(b l e f:V):(fR b l e f).lookup ("brackets":Str)=some b:=by rw[dO,if_neg r3,dO,if_neg r2,dO,if_neg r1,dO,J1 rfl]
theorem jh(b l e f:V):(fR b l e f).length<1000:=by rw[lr];show 4<1000;decide
noncomputable def ja(m:Str):Prop:=m≠"brackets"/\m≠"last"/\m≠"leaf"/\m≠"far"
theorem jj{m:Str}(h:ja m)(b l e f:V):(fR b l e f).lookup m=none:=by
 rw[dO,if_neg h.2.2.2,dO,if_neg h.2.2.1,dO,if_neg h.2.1,dO,if_neg h.1];rfl
theorem Jg:ja "lets":=by unfold ja;decide +kernel
theorem FU:ja "read_leaf":=by unfold ja;decide +kernel
theorem mQ:ja "read_other":=by unfold ja;decide +kernel
theorem F2:ja "read":=by unfold ja;decide +kernel
theorem F8:ja "whole":=by unfold ja;decide +kernel
noncomputable def TT(H H':Hp):Prop:=∀ b xs,H b=some (.tup xs)->H' b=some (.tup xs)
theorem TT.trans {H H1 H2:Hp}(a:TT H H1)(b:TT H1 H2):TT H H2:=λc xs e=>b c xs (a c xs e)
theorem TT.refl {H:Hp}:TT H H:=λ_ _ e=>e
theorem TT.of {H H':Hp}(s:bY H H'):TT H H':=λ_ _ e=>s _ _ e
theorem fV.but {C:JR}{H H':Hp}{p q:JR}{b:gg}(h:fV C H q b)(s:dH p H H')(n:q≠p)(t:TT H H'):fV C H' q b:=by
 obtain⟨dx,J,U,h1,h2,I⟩:=h;exact⟨dx,J,U,s _ _ n h1,h2.tups t,I.tups t⟩
structure fY (B : Hp) (C CB : JR) (H : Hp) (p dx a : JR) (qs : JP JR) (bs : JP Bk) (ls vl vf : V) : Prop where
 sB : bY B H
 np : B p = none
 na : B a = none
 hp : H p = some (.ins C dx (fR (.ref a) ls vl vf))
 ha : H a = some (.lst (qs.map V.ref))
 nd : qs.Nodup
 pr : Lo (λq b => fV CB H q (gE b) /\ B q = none) qs bs
section
variable {B : Hp} {C CB : JR} {H H' : Hp} {p dx a q : JR} {qs : JP JR} {bs : JP Bk} {b b' : Bk} {ls vl vf ls' vl' vf' : V}
theorem rg{R:JR->Bk->Prop}:∀{qs:JP JR} {bs:JP Bk},Lo R qs bs->∀ q∈qs,∃ b,R q b
 |_,_,.nil,q,h=>nomatch h
 |_,_,.cons h r,q,hq=>by
  rcases List.mem_cons.mp hq with rfl|hq
  ·exact⟨_,h⟩
  ·exact rg r q hq
theorem kZ{R S:JR->Bk->Prop}:∀{qs:JP JR} {bs:JP Bk},Lo R qs bs->(∀ q∈qs,∀ b,R q b->S q b)->Lo S qs bs
 |_,_,.nil,_=> .nil
 |_,_,.cons h r,f=> .cons (f _ (by simp) _ h) (kZ r λq J=>f q (J0 _ J))
theorem uc{R:JR->Bk->Prop}:∀{qs:JP JR} {bs:JP Bk} {q:JR} {b:Bk},Lo R qs bs->R q b->Lo R (qs++[q]) (bs++[b])
 |_,_,_,_,.nil,h=> .cons h .nil
 |_,_,_,_,.cons h r,g=> .cons h (uc r g)
theorem sk{R:JR->Bk->Prop}:∀{bs:JP Bk} {qs:JP JR} {b:Bk},Lo R qs (bs++[b])->∃ qr q,qs=qr++[q]/\Lo R qr bs/\R q b
 |[],_,_,.cons h .nil=>⟨[],_,rfl,.nil,h⟩
 |_::bs,_,_,.cons h r=>by
  obtain⟨qr,q,rfl,r1,r2⟩:=sk (bs:=bs) r;exact⟨_::qr,q,rfl,.cons h r1,r2⟩
theorem fY.pa (r:fY B C CB H p dx a qs bs ls vl vf):p≠a:=λe=>by have:=r.hp;rw[e,r.ha] at this;cases this
theorem uA{x y:JR}{d:gg}{dx:JR}{b l e f:V}(h:fV CB H x d)(hp:H y=some (.ins C dx (fR b l e f))):x≠y:=λz=>by
 obtain⟨J,U,I,h1,_,_⟩:=h;rw[z,hp] at h1;injection h1 with h1;injection h1 with _ _ h1;have:=K9 Mw h1;rw[lr,lg] at this;exact absurd this (by show ¬ 4=3;decide)
theorem oq{x y:JR}{d:gg}{xs:JP V}(h:fV CB H x d)(ha:H y=some (.lst xs)):x≠y:=λz=>by
 obtain⟨J,U,I,h1,_,_⟩:=h;rw[z,ha] at h1;cases h1
theorem fY.same (r:fY B C CB H p dx a qs bs ls vl vf)(s:bY H H'):fY B C CB H' p dx a qs bs ls vl vf:=
 ⟨r.sB.trans s,r.np,r.na,s _ _ r.hp,s _ _ r.ha,r.nd,kZ r.pr λ_ _ _ h=>⟨h.1.same s,h.2⟩⟩
theorem fY.setp (r:fY B C CB H p dx a qs bs ls vl vf)(ls' vl' vf':V):fY B C CB (upd H p (.ins C dx (fR (.ref a) ls' vl' vf'))) p dx a qs bs ls' vl' vf'/\TT H (upd H p (.ins C dx (fR (.ref a) ls' vl' vf'))):=by
 have J:dH p H (upd H p (.ins C dx (fR (.ref a) ls' vl' vf'))):=dH.upd
 have t:TT H (upd H p (.ins C dx (fR (.ref a) ls' vl' vf'))):=J.tup r.hp;refine⟨⟨λb u e=>?_,r.np,r.na,b6,by rw[cF (K5 r.pa)];exact r.ha,r.nd,kZ r.pr λq U b h=>⟨h.1.but J (uA h.1 r.hp) t,h.2⟩⟩,t⟩;rw[cF (dM e r.np)];exact r.sB _ _ e
theorem fY.top (r:fY B C CB H p dx a (qs++[q]) (bs++[b]) ls vl vf)(s:dH q H H')(t:TT H H')(h:fV CB H' q (gE b')):fY B C CB H' p dx a (qs++[q]) (bs++[b']) ls vl vf:=by
 obtain⟨qr,J,e,r1,r2⟩:=sk r.pr;obtain⟨rfl,U⟩:=List.append_inj' e rfl;have I:q=J:=by injection U
 subst I;have nq:q∉qs:=λhm=>by
  have:=(List.nodup_append.mp r.nd).2.2 q hm q (by simp);exact this rfl
 refine⟨λb u e=>s b u (dM e r2.2) (r.sB _ _ e),r.np,r.na,s _ _ (K5 (uA r2.1 r.hp)) r.hp,s _ _ (K5 (oq r2.1 r.ha)) r.ha,r.nd,uc (kZ r1 λx hx b hb=>⟨hb.1.but s (λz=>nq (z ▸ hx)) t,hb.2⟩) ⟨h,r2.2⟩⟩
theorem fY.push (r:fY B C CB H p dx a qs bs ls vl vf)(h:fV CB H q (gE b))(hB:B q=none)(nq:q∉qs):fY B C CB (upd H a (.lst (qs.map V.ref++[.ref q]))) p dx a (qs++[q]) (bs++[b]) ls vl vf/\TT H (upd H a (.lst (qs.map V.ref++[.ref q]))):=by
 have J:dH a H (upd H a (.lst (qs.map V.ref++[.ref q]))):=dH.upd
 have t:TT H (upd H a (.lst (qs.map V.ref++[.ref q]))):=λb xs e=>J b _ (λz=>by rw[z,r.ha] at e;cases e) e
 refine⟨⟨λb u e=>?_,r.np,r.na,by rw[cF r.pa];exact r.hp,by rw[b6,J5];rfl,?_,uc (kZ r.pr λx U b hb=>⟨hb.1.but J (oq hb.1 r.ha) t,hb.2⟩) ⟨h.but J (oq h r.ha) t,hB⟩⟩,t⟩
 ·rw[cF (dM e r.na)];exact r.sB _ _ e
 ·refine List.nodup_append.mpr ⟨r.nd,by simp,λx U y I e=>?_⟩;rw[List.mem_singleton.mp I] at e;exact nq (e ▸ U)
theorem fY.pop (r:fY B C CB H p dx a (qs++[q]) (bs++[b]) ls vl vf):fY B C CB (upd H a (.lst (qs.map V.ref))) p dx a qs bs ls vl vf/\TT H (upd H a (.lst (qs.map V.ref)))/\fV CB (upd H a (.lst (qs.map V.ref))) q (gE b)/\B q=none/\q∉qs:=by
 obtain⟨qr,U,e,r1,r2⟩:=sk r.pr;obtain⟨rfl,I⟩:=List.append_inj' e rfl;have e3:q=U:=by injection I
 subst e3;have nq:q∉qs:=λhm=>by
  have:=(List.nodup_append.mp r.nd).2.2 q hm q (by simp);exact this rfl
 have J:dH a H (upd H a (.lst (qs.map V.ref))):=dH.upd
 have t:TT H (upd H a (.lst (qs.map V.ref))):=λb xs e=>J b _ (λz=>by rw[z,r.ha] at e;cases e) e
 refine⟨⟨λb u e=>?_,r.np,r.na,by rw[cF r.pa];exact r.hp,b6,(List.nodup_append.mp r.nd).1,kZ r1 λx hx b hb=>⟨hb.1.but J (oq hb.1 r.ha) t,hb.2⟩⟩,t,r2.1.but J (oq r2.1 r.ha) t,r2.2,nq⟩;rw[cF (dM e r.na)];exact r.sB _ _ e
end
noncomputable def Rd(B:Hp)(C CB:JR)(H:Hp)(p:JR)(bs:JP Bk)(ls vl vf:V):Prop:=∃ dx a qs,fY B C CB H p dx a qs bs ls vl vf
noncomputable def dQ:Kd->Str
 |.lp=>"(" |.no=>"not" |.and=>"and" |.or=>"or" |.tilde=>"~" |.leaf=>"leaf" |.near=>"near" |.rp=>")" |.stop=>"end"
theorem z8{a b:Kd}(h:dQ a=dQ b):a=b:=by
 have:∀ a b:Kd,dQ a=dQ b->a=b:=by
  intro a b;cases a<;>cases b<;>first|(intro _;rfl)|(intro z;exact absurd z dkq)
 exact this a b h
theorem eQ(a b:Kd):decide (V.str (dQ a)=V.str (dQ b))=decide (a=b):=by
 by_cases h:a=b
 ·subst h;simp
 ·rw[JQ h];exact JQ λz=>h (z8 (by injection z))
noncomputable abbrev yX:JP Kd:=[.lp,.no,.and,.or,.tilde,.leaf,.near,.rp]
noncomputable def oM(j:Kd->JR):JP (Key×V):=yX.map λk=>(.inr (dQ k),.ref (j k))
theorem Im(j:Kd->JR){k:Kd}(h:k≠ .stop):eO (oM j) (.inr (dQ k))=some (.ref (j k)):=by
 have go:∀ l:JP Kd,k∈l->eO (l.map λk=>((.inr (dQ k):Key),V.ref (j k))) (.inr (dQ k))=some (.ref (j k)):=λl=>by
  induction l with
  |nil=>intro h;cases h
  |cons x l J=>
   intro hk;rw[KU];by_cases e:x=k
   ·subst e;exact w6 rfl
   ·rw[vQ (λz=>e (z8 (by injection z)))];rcases List.mem_cons.mp hk with z|z
    ·exact absurd z.symm e
    ·exact J z
 exact go yX (by cases k<;>first|exact absurd rfl h|decide)
noncomputable def kc(k:Kd):JP V:=(RA.behind k).map λq=> .str (dQ q)
theorem F4{k q:Kd}(h:q∈RA.behind k):e7 (.str (dQ q)) (kc k)=true:=by
 unfold e7 kc;rw[List.any_map,List.any_eq_true];exact⟨q,h,by show jt (.str (dQ q)) (.str (dQ q))=true;unfold jt;simp⟩
structure lW (K : Kl) (C : JR) : Prop where
 cl : gA K C
 nb : gm K C "brackets"
 nl : gm K C "last"
 ne : gm K C "leaf"
 nf : gm K C "far"
section
variable {P : Ka} {w : Ku} {K : J7} {mg : Str -> JW JT} {base : KP} {C CB fi fd ft fc fw : JR} {di dd dt dc dw : J2}
noncomputable def AR(C CB:JR):Sp:=λvs H Q _=>∃(p dx:JR) (B:Hp),vs=[.ref p]/\H p=some (.ins C dx [])/\bY B H/\B p=none/\∀ vl vf H',Rd B C CB H' p [⟨0,none,none⟩] (.str (dQ .lp)) vl vf->TT H H'->Q .non H'
theorem GG:da ["self"] ["self"] (cG (inClass fJ 0)):=⟨rfl,rfl,rfl,dkq,rfl,dkq,dkq⟩
seal cH PS PE PT PA PG PI cT cP in
theorem F5{f:JR}{gd:J2}(F:ej K "__init__" "Reader.__init__" (inClass fJ 0) f gd)(R:lW K C)(BM:ly K CB fi fd ft fc fw di dd dt dc dw)(hB:mg "Bracket"=some (.ref CB)):bX P w K mg base b7 3 f gd ["self"] (AR C CB):=by
 have GI:bX P w K mg base b7 1 fi di ["self"] (uB CB):=xR BM.I BM.c
 have bI:=BM.I.binds (ps:=["self"]) λ_ _ _ _ _ _ us hl=>iE (λ_=>rfl) us hl
 refine F.ok GG (λvs H Q E h=>?_) (λcdv A outer s H vs Q E hr h=>?_)
 ·obtain⟨p,dx,B,rfl,_⟩:=h;rfl
 ·obtain⟨p,dx,B,rfl,hp,sB,nB,k⟩:=h;refine⟨_,b9 (fD (pv 0) (eZ (bU (wA BM.mI GI hr rfl hB bI .nil cz) bV)) rfl) (b9 (fD (pv 0) b8 rfl) (b9 (fD (pv 0) ir rfl) (b5 (fD (pv 0) ir rfl)))),?_⟩;refine λq dq hq J af=>⟨q,dq,rfl,b6,λH1 b1 hb=>⟨rfl,?_⟩⟩
  have aa:q≠p:=λz=>by rw[z,hp] at hq;cases hq
  have ag:dq≠p:=λz=>by rw[z,hp] at J;cases J
  have c1:∀ b u,H b=some u->H1 b=some u:=λb u e=>by
   refine b1 b u (dM e hq) ?_;rw[cF (dM e hq),cF (dM e J)];exact e
  refine⟨eh,λa ha=>?_⟩;have s2:bY H1 (upd H1 a (.lst [.ref q])):=cq ha;have ea:upd H1 a (.lst [.ref q]) a=some (.lst [.ref q]):=b6;have U:=hb.same s2;generalize upd H1 a (.lst [.ref q])=H2 at s2 ea U ⊢;have c2:∀ b u,H b=some u->H2 b=some u:=λb u e=>s2 _ _ (c1 b u e)
  have h2:=c2 _ _ hp
  have ap:a≠p:=λz=>by rw[z,c1 _ _ hp] at ha;cases ha
  have ab:B a=none:=by
   cases e:B a with
   |none=>rfl
   |some u=>rw[c1 _ _ (sB _ _ e)] at ha;cases ha
  have ae:B q=none:=by
   cases e:B q with
   |none=>rfl
   |some u=>rw[sB _ _ e] at hq;cases hq
  refine⟨_,rfl,p,C,dx,[],rfl,h2,R.cl,R.nb,by decide,_,rfl,p,C,dx,_,rfl,b6,R.cl,R.nl,by have:=kg "brackets" (.ref a) [];exact N5 this (by decide),_,rfl,p,C,dx,_,rfl,b6,R.cl,R.ne,by have e1:=kg "brackets" (.ref a) [];have e2:=kg "last" (V.str (JO "(")) (dh "brackets" (.ref a) []);have e0:([]:JP (Str×V)).length=0:=rfl;lia,_,rfl,p,C,dx,_,rfl,b6,R.cl,R.nf,by have e1:=kg "brackets" (.ref a) [];have e2:=kg "last" (V.str (JO "(")) (dh "brackets" (.ref a) []);have e3:=kg "leaf" V.non (dh "last" (V.str (JO "(")) (dh "brackets" (.ref a) []));have e0:([]:JP (Str×V)).length=0:=rfl;lia,?_⟩;have bu:dH p H2 (upd (upd (upd (upd H2 p (.ins C dx (dh "brackets" (.ref a) []))) p (.ins C dx (dh "last" (.str (JO "(")) (dh "brackets" (.ref a) [])))) p (.ins C dx (dh "leaf" .non (dh "last" (.str (JO "(")) (dh "brackets" (.ref a) []))))) p (.ins C dx (fR (.ref a) (.str (JO "(")) .non .non))):=((dH.upd.trans dH.upd).trans dH.upd).trans dH.upd;have t:TT H2 _:=bu.tup h2;refine k .non .non _ ⟨dx,a,[q],λb u e=>bu b u (dM e nB) (c2 b u (sB _ _ e)),nB,ab,b6,bu _ _ ap ea,by simp,.cons ⟨U.but bu (λz=>by
   obtain⟨_,_,_,e1,_⟩:=U;exact aa z) t,ae⟩ .nil⟩ (λb xs e=>t b xs (c2 b _ e))
noncomputable def xu(C CB:JR):Sp:=λvs H Q _=>∃(p:JR) (B:Hp) (bs:JP Bk) (l k:Kd) (vl vf:V),vs=[.ref p,.str (dQ k)]/\Rd B C CB H p bs (.str (dQ l)) vl vf/\RA.lets ⟨bs.reverse,l,none,0⟩ k=true/\l≠ .stop/\Q (.bl true) H
theorem G9:da ["self","kind"] ["self","kind"] (cG (inClass fJ 1)):=⟨rfl,rfl,rfl,dkq,rfl,dkq,dkq⟩
theorem uF{a:Prop} [Decidable a] {A B R:Prop}(hR:R)(h1:a->R->A)(h2:R->B):if decide a=true then A else B:=by
 by_cases h:a
 ·rw[J1 (JS h)];exact h1 h hR
 ·rw[if_neg (by rw[JQ h];exact J3)];exact h2 hR
theorem eE{b:KS}{A B:Prop}(h:b=false)(q:B):if b=true then A else B:=by rw[h];exact cj q
theorem sM{R:JR->Bk->Prop}:∀{qs:JP JR} {bs:JP Bk},Lo R qs bs->qs.length=bs.length
 |_,_,.nil=>rfl
 |_,_,.cons _ r=>by rw[JV,JV,sM r]
seal cH PS PE PT PA PG PI cT cP in
theorem uq{f d:JR}{gd:J2}{j:Kd->JR}(F:ej K "lets" "Reader.lets" (inClass fJ 1) f gd)(R:lW K C)(T:Txt mg)(hD:mg "BEHIND"=some (.ref d))(D:KD P w K d (oM j))(kB:∀ k,k≠ .stop->∀ H,cu K H (j k) (kc k)):bX P w K mg base b7 1 f gd ["self","kind"] (xu C CB):=by
 obtain⟨tb,cb⟩:=T.cBrk;refine F.ok G9 (λvs H Q E h=>?_) (λcdv A outer s H vs Q E hr h=>?_)
 ·obtain⟨p,B,bs,l,k,vl,vf,rfl,_⟩:=h;rfl
 ·obtain⟨p,B,bs,l,k,vl,vf,rfl,⟨dx,a,qs,r⟩,U,I,q⟩:=h;have ln:(qs.map V.ref).length=bs.length:=by rw[JX,sM r.pr]
  unfold RA.lets at U;simp only[Lc,MQ,K8,MR] at U;obtain⟨⟨⟨l1,l2⟩,l3⟩,l4⟩:=U;refine⟨_,b9 (cM (PW.pt (hZ (cx cU (pv 1) b8 (cC _)) (hU (cx iH (dE iQ rfl T.len e8 (bU (df (pv 0) rfl) bV)) (fK (v:= .int 12) rfl cb ⟨_,rfl⟩) (cC _))))) (b5 (cy ij)) cX)
   (b9 (cM (PW.pt (hZ (cx cU (pv 1) b8 (cC _)) (hU (cx cU (dE iQ rfl T.len e8 (bU (df (pv 0) rfl) bV)) bZ (cC _))))) (b5 (cy ij)) cX)
   (b9 (cM (PW.pt (hZ (cx cU (pv 1) b8 (cC _)) (hU (cx iH (dE iQ rfl T.len e8 (bU (df (pv 0) rfl) bV)) bZ (cC _))))) (b5 (cy ij)) cX)
   (b5 (cy (ip kE (pv 1) (Dc rfl hD D (df (pv 0) rfl) (λ_ _=>rfl)) rfl))))),?_⟩;have e1:decide (V.str (dQ k)=V.str (JO "("))=decide (k= .lp):=eQ k .lp;have e2:decide (V.str (dQ k)=V.str (JO ")"))=decide (k= .rp):=eQ k .rp;have e3:decide (V.str (dQ k)=V.str (JO "end"))=decide (k= .stop):=eQ k .stop;refine⟨_,rfl,rfl,_,rfl,?_⟩;rw[e1];refine uF ?_ (λhk J=>⟨_,rfl,p,C,dx,_,_,rfl,r.hp,R.cl,R.nb,jb _ _ _ _,a,_,rfl,.inl (ck.of r.ha),_,_,rfl,rfl,_,rfl,eE (by
   rw[hk] at l1;simp at l1;rw[ln];exact JQ (by lia)) J⟩) (λJ=>cj J);refine⟨_,rfl,rfl,_,rfl,?_⟩;rw[e2];refine uF ?_ (λhk J=>⟨_,rfl,p,C,dx,_,_,rfl,r.hp,R.cl,R.nb,jb _ _ _ _,a,_,rfl,.inl (ck.of r.ha),rfl,_,rfl,eE (by
   rw[hk] at l2;simp at l2;rw[ln];exact JQ (by intro z;injection z with z;lia)) J⟩) (λJ=>cj J);refine⟨_,rfl,rfl,_,rfl,?_⟩;rw[e3];refine uF ?_ (λhk J=>⟨_,rfl,p,C,dx,_,_,rfl,r.hp,R.cl,R.nb,jb _ _ _ _,a,_,rfl,.inl (ck.of r.ha),_,_,rfl,rfl,_,rfl,eE (by
   rw[hk] at l3;simp at l3;rw[ln];exact JQ (by lia)) J⟩) (λJ=>cj J);refine⟨_,rfl,_,rfl,p,C,dx,_,_,rfl,r.hp,R.cl,R.nl,uG _ _ _ _,.inr (dQ l),.ref (j l),rfl,Im j I,j l,kc l,rfl,.inr (kB l I H),rfl,by unfold kc;rw[OE,List.all_eq_true];intro _ _;rfl,?_⟩;rw[F4 l4];exact q
end
theorem dH.tb {C p:JR}{H H':Hp}{b:gg}(s:dH p H H')(h:fV C H p b):TT H H':=by
 obtain⟨dx,J,U,h1,_,_⟩:=h;exact s.tup h1
section
variable {P : Ka} {w : Ku} {K : J7} {mg : Str -> JW JT} {base : KP} {C CB fi fd ft fc fw : JR} {di dd dt dc dw : J2}
theorem fY.last {B:Hp}{H:Hp}{p dx a:JR}{qs:JP JR}{bs:JP Bk}{b:Bk}{ls vl vf:V}(r:fY B C CB H p dx a qs (bs++[b]) ls vl vf):∃ qr q,qs=qr++[q]/\fV CB H q (gE b)/\B q=none:=by
 obtain⟨qr,q,e,_,r2⟩:=sk r.pr;exact⟨qr,q,e,r2⟩
theorem qm{qr:JP JR}{q:JR}:iz ((qr++[q]).map V.ref) (-1)=some (.ref q):=by rw[J5];exact zp _ _
noncomputable def yW(C CB:JR):Sp:=λvs H Q _=>∃(p:JR) (B:Hp) (bs:JP Bk) (b:Bk) (k:Kd) (v vl vf:V) (l:Lf),vs=[.ref p,v]/\Rd B C CB H p (bs++[b]) (.str (dQ k)) vl vf/\b.nots<=10000/\cD false H v (dL l)/\
 (k= .tilde->∃ J n,cD false H vl (dL J)/\vf= .int ((n:Nat):Int)/\∀ H',TT H H'->Rd B C CB H' p (bs++[takeIn (.near J l n) b]) (.str (dQ .near)) vl vf->Q .non H')/\
 (k≠ .tilde->∀ H',TT H H'->Rd B C CB H' p (bs++[b]) (.str (dQ .leaf)) v vf->Q .non H')
theorem IV:da ["self","leaf"] ["self","leaf"] (cG (inClass fJ 2)):=⟨rfl,rfl,rfl,dkq,rfl,dkq,dkq⟩
seal cH PS PE PT PA PG PI cT cP in
theorem Ig{f:JR}{gd:J2}(F:ej K "read_leaf" "Reader.read_leaf" (inClass fJ 2) f gd)(R:lW K C)(BM:ly K CB fi fd ft fc fw di dd dt dc dw)(T:Txt mg):bX P w K mg base b7 2 f gd ["self","leaf"] (yW C CB):=by
 have GT:bX P w K mg base b7 1 ft dt ["self","told"] (rF CB):=uZ BM.T BM.c T
 have bT:=BM.T.binds (ps:=["self","told"]) λ_ _ _ _ _ _ us hl=>eU (λ_ _=>rfl) us hl
 refine F.ok IV (λvs H Q E h=>?_) (λcdv A outer s H vs Q E hr h=>?_)
 ·obtain⟨p,B,bs,b,k,v,vl,vf,l,rfl,_⟩:=h;rfl
 ·obtain⟨p,B,bs,b,k,v,vl,vf,l,rfl,⟨dx,a,qs,r⟩,hn,hv,h1,h2⟩:=h;refine⟨_,b5 (cM (cx cU (df (pv 0) rfl) b8 (cC _))
   (b9 (e9 (mq (cK fN (df (pv 0) rfl) (lL mn bZ) (λ_ _=>rfl)) BM.c.cl BM.mT GT hr bT .nil cz (bU (dm (bU b8 (bU (df (pv 0) rfl) (bU (pv 1) (bU (df (pv 0) rfl) bV))))) bV))) (b5 (fD (pv 0) b8 rfl)))
   (b9 (fD (pv 0) (pv 1) rfl) (b5 (fD (pv 0) b8 rfl)))),?_⟩;refine⟨_,rfl,p,C,dx,_,_,rfl,r.hp,R.cl,R.nl,uG _ _ _ _,rfl,_,rfl,?_⟩;rw[show decide (V.str (dQ k)=V.str (JO "~"))=decide (k= .tilde) from eQ k .tilde];by_cases hk:k= .tilde
  ·rw[JS hk];obtain⟨l0,n,pl,rfl,q⟩:=h1 hk;obtain⟨qr,x,rfl,U,nx⟩:=r.last;obtain⟨dq,va,vo,I,_,_⟩:=id U;refine cg ⟨_,rfl,p,C,dx,_,_,rfl,r.hp,R.cl,R.nb,jb _ _ _ _,_,rfl,a,_,_,_,rfl,rfl,ck.of r.ha,qm,x,dq,_,rfl,I,lD vb _ _ _,_,rfl,p,C,dx,_,_,rfl,r.hp,R.cl,R.ne,zO _ _ _ _,_,rfl,_,rfl,p,C,dx,_,_,rfl,r.hp,R.cl,R.nf,G4 _ _ _ _,ik,λu hu=>?_⟩;have s1:bY H (upd H u (.tup [.str (JO "near"),vl,v,.int ((n:Nat):Int)])):=cq hu;have eu:upd H u (.tup [.str (JO "near"),vl,v,.int ((n:Nat):Int)]) u=some (.tup [.str (JO "near"),vl,v,.int ((n:Nat):Int)]):=b6;generalize upd H u (.tup [.str (JO "near"),vl,v,.int ((n:Nat):Int)])=H1 at s1 eu ⊢;refine⟨x,gE b,.ref u,dT (.near l0 l n),rfl,U.same s1,Kj hn (by decide),.tup eu (.cons (.str _) (.cons (pl.same s1) (.cons (hv.same s1) (.cons (.int _) .nil)))),λH2 b2 J=>?_⟩;rw[wz] at J;have t2:TT H1 H2:=b2.tb (U.same s1);have r2:=(r.same s1).top b2 t2 J;have r3:=r2.setp (.str (JO "near")) vl (.int ((n:Nat):Int));refine⟨_,rfl,p,C,dx,_,rfl,r2.hp,R.cl,R.nl,jh _ _ _ _,?_⟩;rw[vP];exact q _ (((TT.of s1).trans t2).trans r3.2) ⟨dx,a,_,r3.1⟩
  ·rw[JQ hk];have r1:=r.setp (.str (dQ k)) v vf;have r2:=r1.1.setp (.str (JO "leaf")) v vf;refine cj ⟨_,rfl,_,rfl,p,C,dx,_,rfl,r.hp,R.cl,R.ne,jh _ _ _ _,?_⟩;rw[Jp];refine⟨_,rfl,p,C,dx,_,rfl,r1.1.hp,R.cl,R.nl,jh _ _ _ _,?_⟩;rw[vP];exact h2 hk _ (r1.2.trans r2.2) ⟨dx,a,_,r2.1⟩
end
open RA (Lf Tr Tk wr brk Kd Bk takeIn)
noncomputable def ko:JW Tk->Kd
 |none=> .stop|some k=>RA.kd k
noncomputable def xC:JW Tk->JP Bk->JP Bk->Prop
 |some (.leaf _),_,_=>LG
 |some .no,bs,J=>∃ r b,bs=r++[b]/\J=r++[({b with nots:=b.nots+1}:Bk)]
 |some .or,bs,J=>∃ r b,bs=r++[b]/\b.a≠none/\J=r++[RA.choose b]
 |some .lp,bs,J=>J=bs++[(⟨0,none,none⟩:Bk)]/\bs.length<=20000
 |some .rp,bs,J=>∃ r b' b t,bs=r++[b']++[b]/\b.a≠none/\b'.nots<=10000/\RA.whole b=some t/\J=r++[takeIn t b']
 |_,bs,J=>J=bs
theorem nF{b:KS}{A B:Prop}(h:b=true)(q:A):if b=true then A else B:=by rw[h];exact cg q
section
variable {P : Ka} {w : Ku} {K : J7} {mg : Str -> JW JT} {base : KP} {C CB fi fd ft fc fw : JR} {di dd dt dc dw : J2}
noncomputable def uU(C CB:JR):Sp:=λvs H Q _=>∃(p:JR) (B:Hp) (k:JW Tk) (bs J:JP Bk) (U ls vl vf:V),vs=[.ref p,.str (dQ (ko k)),U]/\Rd B C CB H p bs ls vl vf/\xC k bs J/\∀ H',TT H H'->Rd B C CB H' p J (.str (dQ (ko k))) vl (if ko k= .tilde then U else vf)->Q .non H'
theorem xo:da ["self","kind","meant","within"] ["self","kind","meant"] (cG (inClass fJ 3)):=⟨rfl,rfl,rfl,dkq,rfl,dkq,dkq⟩
seal cH PS PE PT PA PG PI cT cP in
theorem GY{f:JR}{gd:J2}(F:ej K "read_other" "Reader.read_other" (inClass fJ 3) f gd)(R:lW K C)(BM:ly K CB fi fd ft fc fw di dd dt dc dw)(hB:mg "Bracket"=some (.ref CB))(T:Txt mg):bX P w K mg base b7 3 f gd ["self","kind","meant"] (uU C CB):=by
 have GI:bX P w K mg base b7 1 fi di ["self"] (uB CB):=xR BM.I BM.c
 have bI:=BM.I.binds (ps:=["self"]) λ_ _ _ _ _ _ us hl=>iE (λ_=>rfl) us hl
 have GD:bX P w K mg base b7 2 fd dd ["self"] (zQ CB):=(JK BM.D BM.c).mono (by decide)
 have bD:=BM.D.binds (ps:=["self"]) λ_ _ _ _ _ _ us hl=>iE (λ_=>rfl) us hl
 have GC:bX P w K mg base b7 2 fc dc ["self"] (uC CB):=(zR BM.Ch BM.c).mono (by decide)
 have bC:=BM.Ch.binds (ps:=["self"]) λ_ _ _ _ _ _ us hl=>iE (λ_=>rfl) us hl
 have GW:bX P w K mg base b7 2 fw dw ["self"] (xc CB):=yn BM
 have bW:=BM.W.binds (ps:=["self"]) λ_ _ _ _ _ _ us hl=>iE (λ_=>rfl) us hl
 have GT:bX P w K mg base b7 2 ft dt ["self","told"] (rF CB):=(uZ BM.T BM.c T).mono (by decide)
 have bT:=BM.T.binds (ps:=["self","told"]) λ_ _ _ _ _ _ us hl=>eU (λ_ _=>rfl) us hl
 refine F.ok xo (λvs H Q E h=>?_) (λcdv A outer s H vs Q E hr h=>?_)
 ·obtain⟨p,B,k,bs,ab,vm,ls,vl,vf,rfl,_⟩:=h;rfl
 ·obtain⟨p,B,k,bs,ab,vm,ls,vl,vf,rfl,⟨dx,a,qs,r⟩,ho,q⟩:=h;refine⟨_,b9 (cM (cx cU (pv 1) b8 (cC _)) (b5 (fD (pv 0) (pv 2) rfl))
   (b5 (cM (cx cU (pv 1) b8 (cC _)) (b5 (e9 (oR (cK fN (df (pv 0) rfl) (lL mn bZ) (λ_ _=>rfl)) BM.c.cl BM.mD GD hr bD .nil cz)))
   (b5 (cM (cx cU (pv 1) b8 (cC _)) (b5 (e9 (oR (cK fN (df (pv 0) rfl) (lL mn bZ) (λ_ _=>rfl)) BM.c.cl BM.mC GC hr bC .nil cz)))
   (b5 (cM (cx cU (pv 1) b8 (cC _)) (b5 (e9 (f7 PySem.F.plainAttrs_list PySem.F.slot_list_append PySem.F.type_list_append iM (df (pv 0) rfl) (bU (wA BM.mI GI hr rfl hB bI .nil cz) bV))))
   (b5 (cM (cx cU (pv 1) b8 (cC _)) (b9 (cZ (i:=3) xo.nd rfl (Kh rfl) (oR (iR PySem.F.plainAttrs_list PySem.F.slot_list_pop PySem.F.type_list_pop j8 (df (pv 0) rfl)) BM.c.cl BM.mW GW hr bW .nil cz))
    (b5 (e9 (mq (cK fN (df (pv 0) rfl) (lL mn bZ) (λ_ _=>rfl)) BM.c.cl BM.mT GT hr bT .nil cz (bU (pv 3) bV))))) cX)))))))))
   (b5 (fD (pv 0) (pv 1) rfl)),?_⟩;have fin:∀(H1:Hp) (a:JR) (qs:JP JR) (ls vf':V),TT H H1->fY B C CB H1 p dx a qs ab ls vl vf'->(vf'=if ko k= .tilde then vm else vf)->Q .non (upd H1 p (.ins C dx (dh "last" (.str (dQ (ko k))) (fR (.ref a) ls vl vf')))):=λH1 a qs ls vf' t r1 ev=>by
   rw[vP];have r2:=r1.setp (.str (dQ (ko k))) vl vf';rw[<-ev] at q;exact q _ (t.trans r2.2) ⟨dx,a,qs,r2.1⟩
  cases k with
  |none=>
   have ae:ab=bs:=ho;subst ae;refine⟨_,rfl,rfl,_,rfl,eE ((eQ .stop .tilde).trans rfl) ⟨_,rfl,rfl,_,rfl,eE ((eQ .stop .no).trans rfl) ⟨_,rfl,rfl,_,rfl,eE ((eQ .stop .or).trans rfl) ⟨_,rfl,rfl,_,rfl,eE ((eQ .stop .lp).trans rfl) ⟨_,rfl,rfl,_,rfl,eE ((eQ .stop .rp).trans rfl) ?_⟩⟩⟩⟩⟩;exact⟨_,rfl,_,rfl,p,C,dx,_,rfl,r.hp,R.cl,R.nl,jh _ _ _ _,fin H a qs ls vf TT.refl r rfl⟩
  |some k=>
   cases k with
   |leaf l=>exact ho.elim
   |near n=>
    have ae:ab=bs:=ho;subst ae;refine⟨_,rfl,rfl,_,rfl,nF ((eQ .tilde .tilde).trans rfl) ⟨_,rfl,_,rfl,p,C,dx,_,rfl,r.hp,R.cl,R.nf,jh _ _ _ _,?_⟩⟩;rw[Dx];have r1:=r.setp ls vl vm;exact⟨_,rfl,_,rfl,p,C,dx,_,rfl,r1.1.hp,R.cl,R.nl,jh _ _ _ _,fin _ a qs ls vm r1.2 r1.1 rfl⟩
   |and=>
    have ae:ab=bs:=ho;subst ae;refine⟨_,rfl,rfl,_,rfl,eE ((eQ .and .tilde).trans rfl) ⟨_,rfl,rfl,_,rfl,eE ((eQ .and .no).trans rfl) ⟨_,rfl,rfl,_,rfl,eE ((eQ .and .or).trans rfl) ⟨_,rfl,rfl,_,rfl,eE ((eQ .and .lp).trans rfl) ⟨_,rfl,rfl,_,rfl,eE ((eQ .and .rp).trans rfl) ?_⟩⟩⟩⟩⟩;exact⟨_,rfl,_,rfl,p,C,dx,_,rfl,r.hp,R.cl,R.nl,jh _ _ _ _,fin H a qs ls vf TT.refl r rfl⟩
   |no=>
    obtain⟨rs,b,rfl,rfl⟩:=ho;obtain⟨qr,x,rfl,U,nx⟩:=r.last;obtain⟨dq,va,vo,aa,_,_⟩:=id U;refine⟨_,rfl,rfl,_,rfl,eE ((eQ .no .tilde).trans rfl) ⟨_,rfl,rfl,_,rfl,nF ((eQ .no .no).trans rfl) ⟨_,rfl,p,C,dx,_,_,rfl,r.hp,R.cl,R.nb,jb _ _ _ _,_,rfl,a,_,_,_,rfl,rfl,ck.of r.ha,qm,x,dq,_,rfl,aa,lD HM _ _ _,x,gE b,rfl,U,λH2 b2 af=>?_⟩⟩⟩;have r2:=r.top (b':={b with nots:=b.nots+1}) b2 (b2.tb U) af;exact⟨_,rfl,_,rfl,p,C,dx,_,rfl,r2.hp,R.cl,R.nl,jh _ _ _ _,fin _ a _ ls vf (b2.tb U) r2 rfl⟩
   |or=>
    obtain⟨rs,b,rfl,hb,rfl⟩:=ho;obtain⟨qr,x,rfl,U,nx⟩:=r.last;obtain⟨dq,va,vo,aa,_,_⟩:=id U;refine⟨_,rfl,rfl,_,rfl,eE ((eQ .or .tilde).trans rfl) ⟨_,rfl,rfl,_,rfl,eE ((eQ .or .no).trans rfl) ⟨_,rfl,rfl,_,rfl,nF ((eQ .or .or).trans rfl) ⟨_,rfl,p,C,dx,_,_,rfl,r.hp,R.cl,R.nb,jb _ _ _ _,_,rfl,a,_,_,_,rfl,rfl,ck.of r.ha,qm,x,dq,_,rfl,aa,lD A5 _ _ _,x,gE b,rfl,U,λH2 b2 af=>?_⟩⟩⟩⟩;rw[wb hb] at af;have r2:=r.top b2 (b2.tb U) af;exact⟨_,rfl,_,rfl,p,C,dx,_,rfl,r2.hp,R.cl,R.nl,jh _ _ _ _,fin _ a _ ls vf (b2.tb U) r2 rfl⟩
   |lp=>
    obtain⟨rfl,hl⟩:=ho;have ln:=sM r.pr;refine⟨_,rfl,rfl,_,rfl,eE ((eQ .lp .tilde).trans rfl) ⟨_,rfl,rfl,_,rfl,eE ((eQ .lp .no).trans rfl) ⟨_,rfl,rfl,_,rfl,eE ((eQ .lp .or).trans rfl) ⟨_,rfl,rfl,_,rfl,nF ((eQ .lp .lp).trans rfl) ⟨_,rfl,p,C,dx,_,_,rfl,r.hp,R.cl,R.nb,jb _ _ _ _,.inl ⟨rfl,_,ck.of r.ha⟩,λx dq U aq az=>⟨x,dq,rfl,b6,λH1 b1 hb=>⟨rfl,?_⟩⟩⟩⟩⟩⟩⟩;have s1:bY H H1:=λb u e=>by
     refine b1 b u (dM e U) ?_;rw[cF (dM e U),cF (dM e aq)];exact e
    have r1:=r.same s1
    have ar:B x=none:=by
     cases e:B x with
     |none=>rfl
     |some u=>rw[r.sB _ _ e] at U;cases U
    have nq:x∉qs:=λhm=>by
     obtain⟨b,hb,_⟩:=rg r.pr x hm;obtain⟨_,_,_,e,_⟩:=hb;rw[U] at e;cases e
    have r2:=r1.push (b:=⟨0,none,none⟩) hb ar nq;refine⟨a,_,_,rfl,rfl,r1.ha,by rw[JX,Kv];lia,?_⟩;exact⟨_,rfl,_,rfl,p,C,dx,_,rfl,r2.1.hp,R.cl,R.nl,jh _ _ _ _,fin _ a _ ls vf ((TT.of s1).trans r2.2) r2.1 rfl⟩
   |rp=>
    obtain⟨rs,b',b,t,rfl,hb,hn,hw,rfl⟩:=ho;obtain⟨aA,x,rfl,U,nx⟩:=r.last;have r1:=r.pop;obtain⟨qr,y,rfl,hy,ny⟩:=r1.1.last;have ha:H a=some (.lst ((qr++[y]).map V.ref++[.ref x])):=by have:=r.ha;rw[J5] at this;exact this
    have dl:((qr++[y]).map V.ref++[V.ref x]).dropLast=(qr++[y]).map V.ref:=Ln;obtain⟨dq,va,vo,aa,_,_⟩:=id r1.2.2.1;refine⟨_,rfl,rfl,_,rfl,eE ((eQ .rp .tilde).trans rfl) ⟨_,rfl,rfl,_,rfl,eE ((eQ .rp .no).trans rfl) ⟨_,rfl,rfl,_,rfl,eE ((eQ .rp .or).trans rfl) ⟨_,rfl,rfl,_,rfl,eE ((eQ .rp .lp).trans rfl) ⟨_,rfl,rfl,_,rfl,nF ((eQ .rp .rp).trans rfl) ⟨_,rfl,p,C,dx,_,_,rfl,r.hp,R.cl,R.nb,jb _ _ _ _,.inl ⟨rfl,_,ck.of ha⟩,a,_,_,rfl,rfl,ha,ke,?_⟩⟩⟩⟩⟩⟩;rw[dl];obtain⟨J,aj,ag,au,ak⟩:=r1;have av:y≠x:=λz=>ak (by rw[<-z];simp)
    generalize upd H a (.lst ((qr++[y]).map V.ref))=H1 at J aj ag aa hy ⊢;refine⟨x,dq,_,rfl,aa,lD xD _ _ _,x,gE b,rfl,ag,λv H2 b2 af ah=>?_⟩;rw[wb hb] at ah;have aw:(RA.choose b).o=some t:=hw;have ax:cD false H2 v (dT t):=by
     have:(gE (RA.choose b)).o=dT t:=by show oD (RA.choose b).o=_;rw[aw];rfl
     rw[this] at ah;exact ah
    have t2:TT H1 H2:=b2.tb ag
    have r2:fY B C CB H2 p dx a (qr++[y]) (rs++[b']) ls vl vf:=by
     refine⟨λb u e=>b2 b u (dM e au) (J.sB _ _ e),J.np,J.na,b2 _ _ (K5 (uA ag J.hp)) J.hp,b2 _ _ (K5 (oq ag J.ha)) J.ha,J.nd,kZ J.pr λz hz b hb=>⟨hb.1.but b2 (λe=>ak (e ▸ hz)) t2,hb.2⟩⟩
    have ai:=hy.but b2 av t2;obtain⟨dy,aB,aC,ay,_,_⟩:=id ai;refine⟨_,rfl,p,C,dx,_,_,rfl,r2.hp,R.cl,R.nb,jb _ _ _ _,_,rfl,a,_,_,_,rfl,rfl,ck.of r2.ha,qm,y,dy,_,rfl,ay,lD vb _ _ _,_,rfl,y,gE b',v,dT t,rfl,ai,Kj hn (by decide),ax,λH3 b3 ao=>?_⟩;rw[wz] at ao;have t3:TT H2 H3:=b3.tb ai;have r3:=r2.top b3 t3 ao;exact⟨_,rfl,_,rfl,p,C,dx,_,rfl,r3.hp,R.cl,R.nl,jh _ _ _ _,fin _ a _ ls vf ((aj.trans t2).trans t3) r3 rfl⟩
end
open RA (Lf Tr Tk wr brk Kd Bk takeIn Rs)
noncomputable def mH:JW Tk->Kf
 |none=> .none|some k=>mD k
noncomputable def j9(s:Rs):JW Tk->Rs
 |none=>{RA.fl s with last:= .stop}
 |some k=>RA.fh s k
structure qA (B : Hp) (C CB : JR) (H : Hp) (p : JR) (s : Rs) (n : Nat) (vl vf : V) : Prop where
 rd : Rd B C CB H p s.bs.reverse (.str (dQ s.last)) vl vf
 lf : s.last = .leaf \/ s.last = .tilde -> ∃ l, s.leaf = some l /\ cD false H vl (dL l)
 fr : s.last = .tilde -> vf = .int ((s.far : Nat) : Int)
 sm : s.last = .near \/ s.last = .rp -> ∃ b r, s.bs = b :: r /\ b.a ≠ none
 ne : s.bs ≠ []
 nt : ∀ b ∈ s.bs, b.nots<=n
 ln : s.bs.length<=n+1
theorem wN(t:Tr)(b:Bk):(takeIn t b).nots=0/\(takeIn t b).a≠none:=⟨rfl,by intro z;cases z⟩
theorem yI{s:Rs}(h:s.last= .leaf){l:Lf}(hl:s.leaf=some l):RA.fl s={s with bs:=RA.iu (takeIn (.leaf l)) s.bs}:=by
 unfold RA.fl;rw[J1 h,hl]
section
variable {P : Ka} {w : Ku} {K : J7} {mg : Str -> JW JT} {base : KP} {C CB fi fd ft fc fw : JR} {di dd dt dc dw : J2}
noncomputable def Ac(C CB:JR):Sp:=λvs H Q _=>∃(p:JR) (B:Hp) (s:Rs) (n:Nat) (k:JW Tk) (J vl vf:V),vs=[.ref p,.str (dQ (ko k)),J]/\qA B C CB H p s n vl vf/\n<=10000/\cD false H J (mH k)/\RA.lets s (ko k)=true/\
 ∀ vl' vf' H',TT H H'->qA B C CB H' p (j9 s k) (n+1) vl' vf'->Q .non H'
theorem Cp:da ["self","kind","meant"] ["self","kind","meant"] (cG (inClass fJ 4)):=⟨rfl,rfl,rfl,dkq,rfl,dkq,dkq⟩
theorem Aq{s:Rs}{k:Kd}(h:RA.lets s k=true):(k= .lp->s.bs.length<=12)/\(k= .rp->s.bs.length≠1)/\(k= .stop->s.bs.length<=1)/\k∈RA.behind s.last:=by
 unfold RA.lets at h;simp only[Lc,MQ,MR] at h;obtain⟨⟨⟨J,U⟩,I⟩,l4⟩:=h;refine⟨λe=>?_,λe=>?_,λe=>?_,l4⟩
 ·rw[e] at J;simp at J;lia
 ·rw[e] at U;simp at U;lia
 ·rw[e] at I;simp at I;lia
theorem zr{k q:Kd}(h:q∈RA.behind k)(hq:q= .or\/q= .rp):k= .leaf\/k= .near\/k= .rp:=by
 rcases hq with rfl|rfl<;>cases k<;>first|exact .inl rfl|exact .inr (.inl rfl)|exact .inr (.inr rfl)|exact absurd h (by decide)
seal cH PS PE PT PA PG PI cT cP in
theorem Hl{f fl fo:JR}{gd gl go:J2}(F:ej K "read" "Reader.read" (inClass fJ 4) f gd)(FL:ej K "read_leaf" "Reader.read_leaf" (inClass fJ 2) fl gl)(mL:Meth K C "read_leaf" fl)(FO:ej K "read_other" "Reader.read_other" (inClass fJ 3) fo go)(mO:Meth K C "read_other" fo)(R:lW K C)(BM:ly K CB fi fd ft fc fw di dd dt dc dw)(hB:mg "Bracket"=some (.ref CB))(T:Txt mg):bX P w K mg base b7 4 f gd ["self","kind","meant"] (Ac C CB):=by
 have GL:bX P w K mg base b7 3 fl gl ["self","leaf"] (yW C CB):=(Ig FL R BM T).mono (by decide)
 have bL:=FL.binds (ps:=["self","leaf"]) λ_ _ _ _ _ _ us hl=>eU (λ_ _=>rfl) us hl
 have GO:bX P w K mg base b7 3 fo go ["self","kind","meant"] (uU C CB):=GY FO R BM hB T
 have bO:=FO.binds (ps:=["self","kind","meant"]) λ_ _ _ _ _ _ us hl=>jD (λ_ _ _=>rfl) us hl
 have GT:bX P w K mg base b7 3 ft dt ["self","told"] (rF CB):=(uZ BM.T BM.c T).mono (by decide)
 have bT:=BM.T.binds (ps:=["self","told"]) λ_ _ _ _ _ _ us hl=>eU (λ_ _=>rfl) us hl
 refine F.ok Cp (λvs H Q E h=>?_) (λcdv A outer s0 H vs Q E hr h=>?_)
 ·obtain⟨p,B,s,n,k,vm,vl,vf,rfl,_⟩:=h;rfl
 ·obtain⟨p,B,s,n,k,vm,vl,vf,rfl,ok,hn,hm,ar,q⟩:=h;obtain⟨l1,l2,l3,l4⟩:=Aq ar;refine⟨_,b9 (uQ (PW.pt (hZ (cx cU (df (pv 0) rfl) b8 (cC _)) (hU (cx k8 (pv 1) b8 (cC _))))) (b5 (e9 (mq (cK fN (df (pv 0) rfl) (lL mn bZ) (λ_ _=>rfl)) BM.c.cl BM.mT GT hr bT .nil cz (bU (df (pv 0) rfl) bV)))) cX)
   (b5 (cM (cx cU (pv 1) b8 (cC _)) (b5 (e9 (mq (pv 0) R.cl mL GL hr bL .nil cz (bU (pv 2) bV)))) (b5 (e9 (mq (pv 0) R.cl mO GO hr bO .nil cz (bU (pv 1) (bU (pv 2) bV))))))),?_⟩;obtain⟨dx,a,qs,r⟩:=ok.rd;obtain⟨b0,r0,eb⟩:∃ b r,s.bs=b::r:=by
   cases e:s.bs with
   |nil=>exact absurd e ok.ne
   |cons b r=>exact⟨b,r,rfl⟩
  have au:s.bs.reverse=r0.reverse++[b0]:=by rw[eb,Ke]
  refine⟨λaj H'=>aj=[some (.ref p),some (.str (dQ (ko k))),some vm]/\TT H H'/\Rd B C CB H' p (if ko k= .tilde then s else RA.fl s).bs.reverse (.str (dQ s.last)) vl vf,?_,?_⟩
  ·refine⟨_,rfl,p,C,dx,_,_,rfl,r.hp,R.cl,R.nl,uG _ _ _ _,rfl,_,rfl,?_⟩;rw[show decide (V.str (dQ s.last)=V.str (JO "leaf"))=decide (s.last= .leaf) from eQ s.last .leaf];by_cases h1:s.last= .leaf
   ·rw[JS h1];refine cg ⟨_,rfl,rfl,_,rfl,?_⟩;rw[show decide (V.str (dQ (ko k))=V.str (JO "~"))=decide (ko k= .tilde) from eQ (ko k) .tilde];by_cases h2:ko k= .tilde
    ·rw[JS h2];refine cj ⟨rfl,TT.refl,?_⟩;rw[J1 h2];exact ok.rd
    ·rw[JQ h2];obtain⟨l,el,pl⟩:=ok.lf (.inl h1);rw[au] at r;obtain⟨qr,x,rfl,hx,nx⟩:=r.last;obtain⟨dq,va,vo,av,_,_⟩:=id hx;refine cg ⟨_,rfl,p,C,dx,_,_,rfl,r.hp,R.cl,R.nb,jb _ _ _ _,_,rfl,a,_,_,_,rfl,rfl,ck.of r.ha,qm,x,dq,_,rfl,av,lD vb _ _ _,_,rfl,p,C,dx,_,_,rfl,r.hp,R.cl,R.ne,zO _ _ _ _,x,gE b0,vl,dT (.leaf l),rfl,hx,by have:b0.nots<=n:=ok.nt b0 (by rw[eb];simp);show b0.nots<=100000;lia,pl,λH2 b2 ak=>?_⟩;rw[wz] at ak;have t2:TT H H2:=b2.tb hx;have r2:=r.top b2 t2 ak;refine⟨rfl,t2,?_⟩;rw[if_neg h2,yI h1 el];show Rd B C CB H2 p (RA.iu (takeIn (.leaf l)) s.bs).reverse _ vl vf;rw[eb];show Rd B C CB H2 p (takeIn (.leaf l) b0::r0).reverse _ vl vf;rw[Ke];exact⟨dx,a,_,r2⟩
   ·rw[JQ h1];refine cj (cj ⟨rfl,TT.refl,?_⟩);rw[RA.kY h1,ite_self];exact ok.rd
  ·rintro aj H1 ⟨rfl,t1,ai⟩;obtain⟨ab,a1,ay,r1⟩:=id ai;have ag:cD false H1 vm (mH k):=hm.tups t1;have I:∀ b∈(RA.fl s).bs,b.nots<=n:=λb hb=>by
    unfold RA.fl at hb;split at hb
    ·split at hb
     ·rw[eb] at hb;rcases List.mem_cons.mp (show b∈takeIn _ b0::r0 from hb) with rfl|hb
      ·exact Ks _
      ·exact ok.nt b (by rw[eb];exact J0 _ hb)
     ·exact ok.nt b hb
    ·exact ok.nt b hb
   have aa:(RA.fl s).bs.length<=n+1:=by rw[RA.pT];exact ok.ln
   obtain⟨b1,U,J⟩:∃ b r,(RA.fl s).bs=b::r:=by
    cases e:(RA.fl s).bs with
    |nil=>have:=RA.pT s;rw[e,eb] at this;cases this
    |cons b r=>exact⟨b,r,rfl⟩
   have ao:s.last= .leaf\/s.last= .near\/s.last= .rp->b1.a≠none:=λh=>by
    rcases h with h|h
    ·obtain⟨l,el,_⟩:=ok.lf (.inl h);rw[yI h el,eb] at J;have:takeIn (.leaf l) b0=b1:=by injection J
     rw[<-this];exact(wN _ _).2
    ·obtain⟨b,r,e,hb⟩:=ok.sm h;rw[RA.kY (by rcases h with h|h<;>(rw[h];intro z;cases z)),e] at J;have:b=b1:=by injection J
     rw[<-this];exact hb
   refine⟨_,rfl,rfl,_,rfl,?_⟩;rw[show decide (V.str (dQ (ko k))=V.str (JO "leaf"))=decide (ko k= .leaf) from eQ (ko k) .leaf];have ae:∀(ah:JP Bk) (s':Rs),ko k≠ .leaf->xC k (if ko k= .tilde then s else RA.fl s).bs.reverse ah->s'=j9 s k->s'.bs.reverse=ah->s'.last=ko k->
     (ko k= .tilde->s'.leaf=s.leaf/\mH k= .int ((s'.far:Nat):Int))->(s'.last= .near\/s'.last= .rp->∃ b r,s'.bs=b::r/\b.a≠none)->s'.bs≠[]->(∀ b∈s'.bs,b.nots<=n+1)->s'.bs.length<=n+2->
     uU C CB [.ref p,.str (dQ (ko k)),vm] H1 (λ_ H'=>Q .non H') E:=λah s' hk ho es aw el ef sm ne nt ln=>by
    refine⟨p,B,k,_,ah,vm,_,vl,vf,rfl,ai,ho,λH2 t2 af=>?_⟩;refine q vl (if ko k= .tilde then vm else vf) H2 (t1.trans t2) ?_;rw[<-es];refine⟨by rw[aw,el];exact af,λh=>?_,λh=>?_,sm,ne,nt,ln⟩
    ·rw[el] at h;rcases h with h|h
     ·exact absurd h hk
     ·have lt:=ok.lf (.inl (by
       rw[h] at l4;revert l4;cases s.last<;>first|(intro _;rfl)|(intro z;exact absurd z (by decide))));obtain⟨l,e1,e2⟩:=lt;exact⟨l,by rw[(ef h).1];exact e1,(e2.tups t1).tups t2⟩
    ·rw[el] at h;rw[J1 h];have:=(ef h).2;rw[this] at ag;cases ag;rfl
   cases k with
   |none=>
    rw[JQ (by intro z;cases z)];exact cj ⟨_,rfl,p,ab,_,rfl,r1.hp,jj mQ _ _ _ _,_,rfl,_,rfl,ae (RA.fl s).bs.reverse {RA.fl s with last:= .stop} (by intro z;cases z) rfl rfl rfl rfl (λz=>by cases z) (λz=>by rcases z with z|z<;>cases z) (by show(RA.fl s).bs≠[];rw[J];intro z;cases z) (λb hb=>Kz (I b hb)) (Kz aa)⟩
   |some k=>
    cases k with
    |leaf l=>
     rw[JS (show ko (some (.leaf l))= .leaf from rfl)];have aq:Rd B C CB H1 p (U.reverse++[b1]) (.str (dQ s.last)) vl vf:=by
      have:(if ko (some (.leaf l))= .tilde then s else RA.fl s).bs.reverse=U.reverse++[b1]:=by
       rw[if_neg (by intro z;cases z),J,Ke]
      rw[<-this];exact ai
     refine cg ⟨_,rfl,p,ab,_,rfl,r1.hp,jj FU _ _ _ _,_,rfl,p,B,U.reverse,b1,s.last,vm,vl,vf,l,rfl,aq,Kj (I b1 (by rw[J];simp)) hn,ag,λhk=>?_,λhk H2 t2 af=>?_⟩
     ·obtain⟨l0,e0,p0⟩:=ok.lf (.inr hk);refine⟨l0,s.far,p0.tups t1,ok.fr hk,λH2 t2 af=>q vl vf H2 (t1.trans t2) ?_⟩;have fe:RA.fl s=s:=RA.kY (by rw[hk];intro z;cases z);rw[fe] at J;have es:RA.fh s (.leaf l)={s with bs:=takeIn (.near l0 l s.far) b1::U,last:= .near}:=by
       show(if s.last= .tilde then _ else _)=_;rw[J1 hk,e0,J];rfl
      show qA B C CB H2 p (RA.fh s (.leaf l)) (n+1) vl vf;rw[es];refine⟨by show Rd _ _ _ _ _ (takeIn _ b1::U).reverse _ _ _;rw[Ke];exact af,(λz=>by rcases z with z|z<;>cases z),(λz=>by cases z),λ_=>⟨_,_,rfl,(wN _ _).2⟩,(by intro z;cases z),λb hb=>?_,?_⟩
      ·rcases List.mem_cons.mp hb with rfl|hb
       ·exact Ks _
       ·exact Kz (ok.nt b (by rw[J];exact J0 _ hb))
      ·have:=ok.ln;rw[J] at this;show(_::U).length<=_;rw[JV] at this ⊢
       lia
     ·refine q vm vf H2 (t1.trans t2) ?_;have es:RA.fh s (.leaf l)={RA.fl s with leaf:=some l,last:= .leaf}:=by
       show(if s.last= .tilde then _ else _)=_;rw[if_neg hk]
      show qA B C CB H2 p (RA.fh s (.leaf l)) (n+1) vm vf;rw[es];refine⟨by show Rd _ _ _ _ _ (RA.fl s).bs.reverse _ _ _;rw[J,Ke];exact af,λ_=>⟨l,rfl,ag.tups t2⟩,(λz=>by cases z),(λz=>by rcases z with z|z<;>cases z),by show(RA.fl s).bs≠[];rw[J];exact List.cons_ne_nil _ _,λb hb=>Kz (I b hb),Kz aa⟩
    |near m=>
     rw[JQ (by intro z;cases z)];exact cj ⟨_,rfl,p,ab,_,rfl,r1.hp,jj mQ _ _ _ _,_,rfl,_,rfl,ae s.bs.reverse (RA.fh s (.near m)) (by intro z;cases z) rfl rfl rfl rfl (λ_=>⟨rfl,rfl⟩) (λz=>by rcases z with z|z<;>cases z) ok.ne (λb hb=>Kz (ok.nt b hb)) (Kz ok.ln)⟩
    |no=>
     have es:RA.fh s .no={RA.fl s with bs:={b1 with nots:=b1.nots+1}::U,last:= .no}:=by
      show({RA.fl s with bs:=RA.iu _ (RA.fl s).bs,last:= .no}:Rs)=_;rw[J];rfl
     rw[JQ (by intro z;cases z)];refine cj ⟨_,rfl,p,ab,_,rfl,r1.hp,jj mQ _ _ _ _,_,rfl,_,rfl,ae (U.reverse++[{b1 with nots:=b1.nots+1}]) (RA.fh s .no) (by intro z;cases z) ⟨U.reverse,b1,by rw[if_neg (by intro z;cases z),J,Ke],rfl⟩ rfl (by rw[es];exact Ke) rfl (λz=>by cases z) (λz=>by rcases z with z|z<;>cases z) (by rw[es];intro z;cases z) (λb hb=>?_) (by rw[es];show(_::U).length<=_;rw[J] at aa;rw[JV] at aa ⊢;lia)⟩;rw[es] at hb;rcases List.mem_cons.mp hb with rfl|hb
     ·have:=I b1 (by rw[J];simp)
      show b1.nots+1<=n+1
      lia
     ·exact Kz (I b (by rw[J];exact J0 _ hb))
    |and=>
     rw[JQ (by intro z;cases z)];exact cj ⟨_,rfl,p,ab,_,rfl,r1.hp,jj mQ _ _ _ _,_,rfl,_,rfl,ae (RA.fl s).bs.reverse (RA.fh s .and) (by intro z;cases z) rfl rfl rfl rfl (λz=>by cases z) (λz=>by rcases z with z|z<;>cases z) (by show(RA.fl s).bs≠[];rw[J];intro z;cases z) (λb hb=>Kz (I b hb)) (Kz aa)⟩
    |or=>
     have es:RA.fh s .or={RA.fl s with bs:=RA.choose b1::U,last:= .or}:=by
      show({RA.fl s with bs:=RA.iu _ (RA.fl s).bs,last:= .or}:Rs)=_;rw[J];rfl
     rw[JQ (by intro z;cases z)];refine cj ⟨_,rfl,p,ab,_,rfl,r1.hp,jj mQ _ _ _ _,_,rfl,_,rfl,ae (U.reverse++[RA.choose b1]) (RA.fh s .or) (by intro z;cases z) ⟨U.reverse,b1,by rw[if_neg (by intro z;cases z),J,Ke],ao (zr l4 (.inl rfl)),rfl⟩ rfl (by rw[es];exact Ke) rfl (λz=>by cases z) (λz=>by rcases z with z|z<;>cases z) (by rw[es];intro z;cases z) (λb hb=>?_) (by rw[es];show(_::U).length<=_;rw[J] at aa;rw[JV] at aa ⊢;lia)⟩;rw[es] at hb;rcases List.mem_cons.mp hb with rfl|hb
     ·have:=I b1 (by rw[J];simp)
      show b1.nots<=n+1
      lia
     ·exact Kz (I b (by rw[J];exact J0 _ hb))
    |lp=>
     rw[JQ (by intro z;cases z)];refine cj ⟨_,rfl,p,ab,_,rfl,r1.hp,jj mQ _ _ _ _,_,rfl,_,rfl,ae ((RA.fl s).bs.reverse++[⟨0,none,none⟩]) (RA.fh s .lp) (by intro z;cases z) ⟨rfl,by rw[if_neg (by intro z;cases z),K8];lia⟩ rfl (show((⟨0,none,none⟩:Bk)::(RA.fl s).bs).reverse=_ from Ke) rfl (λz=>by cases z) (λz=>by rcases z with z|z<;>cases z) (by intro z;cases z) (λb hb=>?_) (by show(_::(RA.fl s).bs).length<=_;rw[JV];lia)⟩;rcases List.mem_cons.mp (show b∈(⟨0,none,none⟩:Bk)::(RA.fl s).bs from hb) with rfl|hb
     ·exact Ks _
     ·exact Kz (I b hb)
    |rp=>
     have a1:=ao (zr l4 (.inr rfl));obtain⟨b2,r2,ax⟩:∃ b r,U=b::r:=by
      cases e:U with
      |nil=>have h:=l2 rfl;rw[<-RA.pT,J,e] at h;exact absurd rfl h
      |cons b r=>exact⟨b,r,rfl⟩
     subst ax;obtain⟨t,ht⟩:∃ t,RA.whole b1=some t:=by
      obtain⟨n1,x1,o1⟩:=b1;cases x1 with
      |none=>exact absurd rfl a1
      |some y=>
       cases o1 with
       |none=>exact⟨y,rfl⟩
       |some z=>exact⟨.either z y,rfl⟩
     have es:RA.fh s .rp={RA.fl s with bs:=takeIn t b2::r2,last:= .rp}:=by
      show({RA.fl s with bs:=(match (RA.fl s).bs with|b::r=>RA.iu (takeIn ((RA.whole b).getD (.leaf (.word [])))) r|[]=>[]),last:= .rp}:Rs)=_;rw[J];show({RA.fl s with bs:=RA.iu (takeIn ((RA.whole b1).getD (.leaf (.word [])))) (b2::r2),last:= .rp}:Rs)=_;rw[ht];rfl
     rw[JQ (by intro z;cases z)];refine cj ⟨_,rfl,p,ab,_,rfl,r1.hp,jj mQ _ _ _ _,_,rfl,_,rfl,ae (r2.reverse++[takeIn t b2]) (RA.fh s .rp) (by intro z;cases z) ⟨r2.reverse,b2,b1,t,by rw[if_neg (by intro z;cases z),J,Ke,Ke],a1,Kj (I b2 (by rw[J];simp)) hn,ht,rfl⟩ rfl (by rw[es];exact Ke) rfl (λz=>by cases z) (λ_=>⟨takeIn t b2,r2,by rw[es],(wN _ _).2⟩) (by rw[es];intro z;cases z) (λb hb=>?_) (by rw[es];show(_::r2).length<=_;rw[J] at aa;rw[JV,JV] at aa;rw[JV];lia)⟩;rw[es] at hb;rcases List.mem_cons.mp hb with rfl|hb
     ·exact Ks _
     ·exact Kz (I b (by rw[J];simp[hb]))
noncomputable def Am(C CB:JR):Sp:=λvs H Q _=>∃(p:JR) (B:Hp) (b:Bk) (ls vl vf:V) (t:Tr),vs=[.ref p]/\Rd B C CB H p [b] ls vl vf/\b.a≠none/\RA.whole b=some t/\∀ v H',bY B H'->cD false H' v (dT t)->Q v H'
theorem EX:da ["self"] ["self"] (cG (inClass fJ 5)):=⟨rfl,rfl,rfl,dkq,rfl,dkq,dkq⟩
seal cH PS PE PT PA PG PI cT cP in
theorem HL{f:JR}{gd:J2}(F:ej K "whole" "Reader.whole" (inClass fJ 5) f gd)(R:lW K C)(BM:ly K CB fi fd ft fc fw di dd dt dc dw):bX P w K mg base b7 3 f gd ["self"] (Am C CB):=by
 have GW:bX P w K mg base b7 2 fw dw ["self"] (xc CB):=yn BM
 have bW:=BM.W.binds (ps:=["self"]) λ_ _ _ _ _ _ us hl=>iE (λ_=>rfl) us hl
 refine F.ok EX (λvs H Q E h=>?_) (λcdv A outer s0 H vs Q E hr h=>?_)
 ·obtain⟨p,B,b,ls,vl,vf,t,rfl,_⟩:=h;rfl
 ·obtain⟨p,B,b,ls,vl,vf,t,rfl,⟨dx,a,qs,r⟩,ha,hw,q⟩:=h;obtain⟨qr,x,rfl,hx,nx⟩:=fY.last (bs:=[]) r;have:qr=[]:=by
   have:=sM r.pr;rw[JU] at this;simpa using this
  subst this;obtain⟨dq,va,vo,U,_,_⟩:=id hx;refine⟨_,b5 (cy (oR (cK fN (df (pv 0) rfl) bZ (λ_ _=>rfl)) BM.c.cl BM.mW GW hr bW .nil cz)),?_⟩;refine⟨_,rfl,p,C,dx,_,_,rfl,r.hp,R.cl,R.nb,jb _ _ _ _,a,_,_,_,rfl,rfl,ck.of r.ha,cJ (j:=0) rfl,x,dq,_,rfl,U,lD xD _ _ _,x,gE b,rfl,hx,λv H2 b2 aa J=>?_⟩;rw[wb ha] at J;have I:(RA.choose b).o=some t:=hw;have:(gE (RA.choose b)).o=dT t:=by show oD (RA.choose b).o=_;rw[I];rfl
  rw[this] at J;exact q v H2 (λc u e=>b2 c u (dM e nx) (r.sB _ _ e)) J
end
open RA (sl dj fq Lf Tr Tk wr brk nb)
noncomputable def gC(c:Nat):KS:=dA c||decide (c∈[32,34,40,41,42,126])
theorem m9{w:JP Nat}(h:w.all dA=true):∀ c∈w,gC c=true:=λc J=>by unfold gC;rw[List.all_eq_true.mp h c J];rfl
theorem Hq:∀{ls:JP (JP Nat)},(∀ w∈ls,gW w)->∀ c∈jn ls,gC c=true:=λh c J=>by
 have:=List.all_eq_true.mp (oO h).1 c J;unfold fX at this;rw[OJ,MR] at this;rcases this with rfl|h
 ·decide +kernel
 ·unfold gC;rw[h];rfl
theorem Cq{k:Tk}(hk:gK k):∀ c∈txt k,gC c=true:=by
 have mk:∀{l:JP Nat},(∀ c∈l,gC c=true)->∀ c∈34::(l++[34]),gC c=true:=λ{l} h c hc=>by
  rcases List.mem_cons.mp hc with rfl|hc
  ·decide +kernel
  ·rcases List.mem_append.mp hc with hc|hc
   ·exact h c hc
   ·rw[List.mem_singleton.mp hc];decide +kernel
 cases k with
 |leaf l=>
  cases l with
  |word w=>
   have g:gW w:=hk
   show ∀ c∈(if isJ (sT w) then 34::(w++[34]) else w),_;split
   ·exact mk (m9 g.2)
   ·exact m9 g.2
  |start w=>
   have g:gW w:=hk;intro c hc;rcases List.mem_append.mp (show c∈w++[42] from hc) with hc|hc
   ·exact m9 g.2 c hc
   ·rw[List.mem_singleton.mp hc];decide +kernel
  |row ws=>
   have g:_/\_/\∀ w∈ws,gW w:=hk;exact mk (Hq g.2.2)
 |near n=>
  intro c hc;rcases List.mem_cons.mp (show c∈126::dF (n:Int) from hc) with rfl|hc
  ·decide +kernel
  ·exact m9 (p3 n (by have:n<=20:=hk;lia)).1 c hc
 |no=>show ∀ c∈[110,111,116],_;decide +kernel
 |and=>show ∀ c∈[97,110,100],_;decide +kernel
 |or=>show ∀ c∈[111,114],_;decide +kernel
 |lp=>show ∀ c∈[40],_;decide +kernel
 |rp=>show ∀ c∈[41],_;decide +kernel
theorem zj:∀(r:JP Tk) (k:Tk),(∀ k∈r,gK k)->∀ c∈tl k r,gC c=true
 |[],_,_,c,J=>nomatch J
 |k'::r,k,h,c,J=>by
  rcases List.mem_append.mp (show c∈cL k k'++(txt k'++tl k' r) from J) with q|q
  ·unfold cL at q;split at q
   ·cases q
   ·rw[List.mem_singleton.mp q];decide +kernel
  ·rcases List.mem_append.mp q with q|q
   ·exact Cq (h k' (by simp)) c q
   ·exact zj r k' (λk hk=>h k (J0 _ hk)) c q
theorem si{c:Nat}(h:gC c=true):c<128/\iw c=true/\K01.lo c=c:=by
 have J:c<128:=by
  unfold gC dA at h;simp at h
  lia
 have:∀ c<128,gC c=true->iw c=true/\K01.lo c=c:=dkq;exact⟨J,this c J h⟩
theorem uP{L:JP Nat}(h:∀ c∈L,gC c=true):Txt.lower (sT L)=sT L:=by
 rw[lower_ascii λc J=>(si (h c (by simpa using J))).1];show(⟨L.toArray.map K01.lo⟩:Str)=_
 congr 1
 apply Array.toList_inj.mp;rw[Array.toList_map];exact(M7 λc J=>(si (h c (by simpa using J))).2.2).trans (OF _)
theorem Hz{L:JP Nat}(h:∀ c∈L,gC c=true):L.all iw=true:=List.all_eq_true.mpr λc J=>(si (h c J)).2.1
theorem za:∀{ls:JP (JP Nat)},(∀ w∈ls,w.length<=6)->(jn ls).length<=7*ls.length
 |[],_=>JY _
 |[w],h=>by have:=h w (by simp);show w.length<=7*1;lia
 |w::y::r,h=>by
  have h1:=h w (by simp)
  have h2:=za (ls:=y::r) λz J=>h z (J0 _ J)
  show(w++32::jn (y::r)).length<=7*((y::r).length+1);rw[JU,JV]
  lia
theorem uO{z:Str}(h:Wm z):(codes z).length<=6:=by
 have l:z.length=(codes z).length:=(str_len z).symm;rw[<-l];exact h.1
theorem yg:∀ n:Nat,n<21->(dF (n:Int)).length<=2:=dkq
theorem qB{a:At}(h:gs a.kn=true)(g:Gd a):a.lin.length<=58:=by
 cases a with
 |word z=>
  have:=uO (show Wm z from g)
  show(if isJ z then 34::(codes z++[34]) else codes z).length<=58;split
  ·rw[JV,JU];show _+1+1<=58;lia
  ·lia
 |start z=>
  have:=uO (show Wm z from g)
  show(codes z++[42]).length<=58;rw[JU];show _+1<=58
  lia
 |row zs=>
  rw[<-pw (a:= .row zs) rfl];have:=za (ls:=zs.map codes) λw hw=>by
   obtain⟨z,J,rfl⟩:=List.mem_map.mp hw;exact uO (g.2.2 z J)
  rw[JX] at this;show(34::(jn (zs.map codes)++[34])).length<=58;rw[JV,JU];show _+1+1<=58;have:=g.2.1
  lia
 |near _ _ _=>cases h
 |both _ _=>cases h
 |either _ _=>cases h
 |no _=>cases h
theorem kI:∀{t:At},Gd t->t.lin.length<=60*t.many
 |.word z,h=>Kj (qB (a:= .word z) rfl h) (J9 rfl)
 |.start z,h=>Kj (qB (a:= .start z) rfl h) (J9 rfl)
 |.row z,h=>Kj (qB (a:= .row z) rfl h) (J9 rfl)
 |.near a b n,h=>by
  have h1:=qB h.1.1 h.2.2.1
  have h2:=qB h.1.2 h.2.2.2
  have U:=yg n.toNat (by have:=h.2.1;lia);rw[Ml h.2.1.1] at U;show(a.lin++([32,126]++(dF n++(32::b.lin)))).length<=60*(1+(a.many+b.many));rw[At.lf_many h.1.1,At.lf_many h.1.2];simp only[JU,JV,Mc]
  lia
 |.both a b,h=>by
  have h1:=kI h.1
  have h2:=kI h.2
  have b1:=(lK (eI a.kn) a.lin).2
  have J:=(lK (eG b.kn) b.lin).2
  show(eL (eI a.kn) a.lin++([32,97,110,100,32]++eL (eG b.kn) b.lin)).length<=60*(1+(a.many+b.many));simp only[JU,JV,Mc]
  lia
 |.either a b,h=>by
  have h1:=kI h.1
  have h2:=kI h.2
  have J:=(lK (eI b.kn) b.lin).2
  show(a.lin++([32,111,114,32]++eL (eI b.kn) b.lin)).length<=60*(1+(a.many+b.many));simp only[JU,JV,Mc]
  lia
 |.no a,h=>by
  have h1:=kI (t:=a) h
  have J:=(lK (eG a.kn) a.lin).2
  show([110,111,116,32]++eL (eG a.kn) a.lin).length<=60*(1+a.many);simp only[JU,JV,Mc]
  lia
theorem jQ:∀{t:At},Gd t->Fits t
 |.word _,_=>trivial
 |.start _,_=>trivial
 |.row zs,h=>by
  show(zs.map (·.length)).sum+zs.length*1<=16777216
  have:∀ l:JP Str,(∀ z∈l,Wm z)->(l.map (·.length)).sum<=6*l.length:=λl=>by
   induction l with
   |nil=>intro _;exact JY _
   |cons z l J=>
    intro h;have h1:=(h z (by simp)).1;have h2:=J λy U=>h y (J0 _ U)
    rw[KU,NC,JV]
    lia
  have:=this zs h.2.2
  have:=h.2.1
  lia
 |.near a b n,h=>⟨jQ h.2.2.1,jQ h.2.2.2,by
   have h1:n.natAbs<=20:=by have:=h.2.1;lia
   have h2:n.natAbs<2 ^ 1920:=N5 h1 (Km (show 20<2 ^ 5 by decide) (LK (by decide) (by decide)));by_cases e:n.natAbs=0
   ·rw[e];show Nat.log2 0<1920;rw[Nat.log2_zero];decide
   ·exact(Nat.log2_lt e).mpr h2⟩
 |.both a b,h=>⟨jQ h.1,jQ h.2⟩
 |.either a b,h=>⟨jQ h.1,jQ h.2⟩
 |.no a,h=>jQ (t:=a) h
theorem Gv{t:At}(h:Gd t):∀ c∈t.lin,gC c=true:=by
 rw[ku h];exact zj _ _ (jX h)
section
variable {P : Ka} {w : Ku} {K : J7} {mg : Str -> JW JT} {base : KP}
theorem CF:Lp "ord"=some (.builtin "ord"):=dkq
noncomputable def AU:Sp:=λvs H Q _=>∃ c:Nat,vs=[.str ⟨#[c]⟩]/\Q (.bl (iw c)) H
theorem FP:da ["sign"] ["sign"] (cG pI):=⟨rfl,rfl,rfl,dkq,rfl,dkq,dkq⟩
theorem xy(c d:Nat):decide (([c]:JP Nat) < [d])=decide (c<d):=by
 by_cases h:c<d
 ·rw[JS h];exact JS (List.Lex.rel h)
 ·rw[JQ h];exact JQ λz=>by
   cases z with
   |rel q=>exact h q
   |cons q=>cases q
seal cH PS PE PT PA PG PI cT cP in
theorem Bp{f:JR}{fd:J2}(D:Df K mg "is_text_sign" pI f fd)(T:Txt mg):bX P w K mg base b7 1 f fd ["sign"] AU:=by
 obtain⟨tp,cp⟩:=T.cPer;refine D.F.ok FP (λvs H Q E h=>?_) (λcdv A outer s H vs Q E hr h=>?_)
 ·obtain⟨c,rfl,_⟩:=h;rfl
 ·obtain⟨c,rfl,k⟩:=h;refine⟨_,b5 (cy (zB (ip cU (pv 0) b8 (cC _)) (rN (AA (IW y6 y6 b8 (pv 0) b8)
   (rN (ip k8 (dE B4 rfl T.ord CF (bU (pv 0) bV)) (fK (v:= .int 37) rfl cp ⟨_,rfl⟩) (cC _))))))),?_⟩;refine⟨_,rfl,rfl,_,rfl,?_⟩;have U:decide (V.str ⟨#[c]⟩=V.str (JO "\n"))=decide (c=10):=gN c 10;rw[U];unfold iw at k;by_cases J:c=10
  ·rw[JS J] at k ⊢;exact cg k
  ·rw[JQ J] at k ⊢;refine cj ?_;refine⟨_,rfl,_,_,rfl,rfl,_,rfl,?_⟩;have ab:(!decide ((⟨#[c]⟩:Str).cps.toList<(JO " ").cps.toList))=decide (32<=c):=by
    show(!decide (([c]:JP Nat) < [32]))=_;rw[xy];by_cases h:c<32
    ·rw[JS h,JQ (by(clear J U cp;lia))];rfl
    ·rw[JQ h,JS (by(clear J U cp;lia))];rfl
   rw[ab];by_cases I:32<=c
   ·rw[JS I] at k ⊢;refine cg ⟨_,_,rfl,rfl,_,rfl,?_⟩;have ae:(!decide ((JO "~").cps.toList<(⟨#[c]⟩:Str).cps.toList))=decide (c<=126):=by
     show(!decide (([126]:JP Nat) < [c]))=_;rw[xy];by_cases h:126<c
     ·rw[JS h,JQ (by(clear I ab J U cp;lia))];rfl
     ·rw[JQ h,JS (by(clear I ab J U cp;lia))];rfl
    rw[ae];by_cases aa:c<=126
    ·rw[JS aa] at k ⊢;refine cg ⟨_,rfl,_,rfl,rfl,rfl,?_⟩;have af:decide (V.int (((⟨#[c]⟩:Str).cps.getD 0 0:Nat):Int)=V.int 37)=decide (c=37):=by
      rw[xb];by_cases h:c=37
      ·subst h;rfl
      ·rw[JQ h];exact beq_eq_false_iff_ne.mpr λz=>h (by have z':((c:Nat):Int)=37:=z;(clear z h aa ae I ab J U cp;lia))
     rw[af];exact k
    ·rw[JQ aa] at k ⊢;exact cj k
   ·rw[JQ I] at k ⊢;exact cj ⟨_,rfl,cj k⟩
noncomputable def AE:Sp:=λvs H Q _=>∃ L:JP Nat,vs=[.str (sT L)]/\L.length<=2000/\L.all iw=true/\∀ H',bY H H'->Q (.bl true) H'
theorem BC:da ["thing"] ["thing"] (cG oA):=⟨rfl,rfl,rfl,dkq,rfl,dkq,dkq⟩
seal cH PS PE PT PA PG PI cT cP in
theorem Dg{f fs:JR}{fd fds:J2}(D:Df K mg "is_text" oA f fd)(DS:Df K mg "is_text_sign" pI fs fds)(T:Txt mg):bX P w K mg base b7 2 f fd ["thing"] AE:=by
 obtain⟨tc,U⟩:=T.cText;have I:bX P w K mg base b7 1 fs fds ["sign"] AU:=Bp DS T;have bS:=dY (p:="sign") DS.F λ_ _ _ _ _ _ _=>rfl
 refine D.F.ok BC (λvs H Q E h=>?_) (λcdv A outer s H vs Q E hr h=>?_)
 ·obtain⟨L,rfl,_⟩:=h;rfl
 ·obtain⟨L,rfl,hlen,hok,k⟩:=h;have al:(sT L).length=L.length:=dv L;refine⟨_,b9 (cM (PW.pt (gu (gG (fU (dE jv rfl T.isi iF (bU (pv 0) (bU (lj (v:= .ty "str") rfl T.str nj rfl) bV)))))
    (ig (cx iH (dE ia rfl T.len e8 (bU (pv 0) bV)) (fK (v:= .int 2000) rfl U ⟨_,rfl⟩) (cC _))))) (b5 (cy ij)) cX)
   (b5 (cy (dE (tT rfl) rfl T.all uJ (bU (jF (own:=1) (caps:=[]) (N:=["sign"]) (N0:=["thing"]) (sc0:=cG oA) rfl (ux (pv 0))
    (λ_ _ _=>eY (i:=0) vT rfl (Kh rfl)) (λ_ _ _=>i9)
    (λ_ _ _=>cQ I hr rfl DS.m DS.F.kp bS .nil cz (bU (pv 0) bV)) (iX (by decide)) rfl rfl
    dkq rfl dkq dkq rfl dkq) bV)))),?_⟩;refine⟨_,rfl,.str (sT L),.ty "str",_,_,rfl,.str _,.inl ⟨_,rfl,uu (n:="str") (H:=H) (.str (sT L))⟩,_,rfl,?_⟩;refine cj ?_;refine⟨_,rfl,sT L,rfl,dC (by rw[al];lia),_,_,rfl,rfl,_,rfl,?_⟩;rw[JQ (by rw[al];lia)];refine cj ?_;refine⟨_,rfl,sT L,rfl,wu (x:=sT L) (λi ys H'=>bY H H'/\ys=((L.take i).map λc=>V.bl (iw c))) (by have:(sT L).cps.size=(sT L).length:=rfl;rw[Kv,this,al];lia) ⟨bY.refl H,rfl⟩ ?_ ?_⟩
  ·rintro i c ys H' N hc ⟨sm,rfl⟩ hN;refine g1 ?_;refine⟨_,rfl,c,rfl,hN _ _ ⟨sm,?_⟩⟩;have J:L[i]? =some c:=by simpa using hc
   rw[Lk,J,J5];rfl
  ·rintro ys H' ⟨sm,rfl⟩ _ p hp;refine⟨p,L.map iw,rfl,ck.of (by rw[b6,Lq (by simp)];simp),?_⟩;have e:(L.map iw).all id=true:=by rw[OE];exact hok
   rw[e];exact k _ (bY.upd sm hp)
noncomputable def zC:Sp:=λvs H Q _=>∃ L:JP Nat,vs=[.str (sT L)]/\L.length<=2000/\L.all iw=true/\∀ H',bY H H'->Q (.str (sT L)) H'
theorem Ij:da ["thing"] ["thing"] (cG qD):=⟨rfl,rfl,rfl,dkq,rfl,dkq,dkq⟩
seal cH PS PE PT PA PG PI cT cP in
theorem JC{f ft:JR}{fd fdt:J2}(D:Df K mg "need_text" qD f fd)(DT:Df K mg "is_text" oA ft fdt)(GT:bX P w K mg base b7 2 ft fdt ["thing"] AE):bX P w K mg base b7 3 f fd ["thing"] zC:=by
 have J:=dY (p:="thing") DT.F λ_ _ _ _ _ _ _=>rfl
 refine D.F.ok Ij (λvs H Q E h=>?_) (λcdv A outer s H vs Q E U h=>?_)
 ·obtain⟨L,rfl,_⟩:=h;rfl
 ·obtain⟨L,rfl,hlen,hok,k⟩:=h;refine⟨_,b9 (cM (gG (fU (cQ GT U rfl DT.m DT.F.kp J .nil cz (bU (pv 0) bV)))) pV cX) (b5 (cy (pv 0))),?_⟩;exact⟨_,rfl,L,rfl,hlen,hok,λH1 s1=>⟨_,rfl,cj ⟨_,rfl,k H1 s1⟩⟩⟩
end
theorem xm:∀(l:JP Tk) (s s':Rs),RA.rn s l=some s'->(l.map some).foldl j9 s=s'/\∀ i k,l[i]? =some k->RA.lets (((l.take i).map some).foldl j9 s) (RA.kd k)=true
 |[],s,s',h=>⟨by injection h,λi k hk=>by cases hk⟩
 |q::l,s,s',h=>by
  have h':(if RA.lets s (RA.kd q) then RA.rn (RA.fh s q) l else none)=some s':=h;split at h'
  ·rename_i U;have J:=xm l _ _ h';refine⟨J.1,λi k hk=>?_⟩;cases i with
   |zero=>
    have:q=k:=by injection hk
    rw[<-this];exact U
   |succ i=>exact J.2 i k hk
  ·cases h'
noncomputable def kinds(l:JP Tk):JP (JW Tk):=l.map some++[none]
noncomputable def vO:Rs:=⟨[⟨0,none,none⟩],.lp,none,0⟩
noncomputable def iW(l:JP Tk)(i:Nat):Rs:=((kinds l).take i).foldl j9 vO
theorem An{l:JP Tk}{i:Nat}{k:JW Tk}(h:(kinds l)[i]? =some k):iW l (i+1)=j9 (iW l i) k:=by
 unfold iW;rw[Lk,h,List.foldl_append];rfl
theorem BN{l:JP Tk}{s':Rs}(h:RA.rn vO l=some s')(hs:RA.lets s' .stop=true):(∀ i k,(kinds l)[i]? =some k->RA.lets (iW l i) (ko k)=true)/\iW l (l.length+1)=j9 s' none:=by
 obtain⟨f1,f2⟩:=xm l _ _ h;have tk:∀ i,i<=l.length->iW l i=((l.take i).map some).foldl j9 vO:=λi hi=>by
  unfold iW kinds;rw[List.take_append_of_le_length (by rw[JX];exact hi),List.map_take]
 have te:iW l l.length=s':=by rw[tk _ (JY _),Lq (JY _)];exact f1
 refine⟨λi k hk=>?_,?_⟩
 ·rcases Nat.lt_or_ge i l.length with hi|hi
  ·unfold kinds at hk;rw[List.getElem?_append_left (by rw[JX];exact hi),List.getElem?_map] at hk;cases e:l[i]? with
   |none=>rw[e] at hk;cases hk
   |some q=>
    rw[e] at hk;have:some q=k:=Kg hk;rw[<-this,tk i (M3 hi)];exact f2 i q e
  ·unfold kinds at hk;rw[List.getElem?_append_right (by rw[JX];exact hi),JX] at hk;cases e:i-l.length with
   |zero=>
    rw[e] at hk;have:none=k:=Kg hk;have ei:i=l.length:=by lia
    rw[<-this,ei,te];exact hs
   |succ m=>rw[e] at hk;cases hk
 ·rw[An (k:=none) (by unfold kinds;rw[List.getElem?_append_right (by rw[JX];exact JY _),JX,Nat.sub_self];rfl),te]
theorem wo{α β:Type}{F:α->β->Prop}:∀{l:JP α} {m:JP β},Lo F l m->∀{i:Nat} {a:α},l[i]? =some a->∃ b,m[i]? =some b/\F a b
 |_,_,.nil,i,a,h=>by cases h
 |_,_,.cons h r,0,a,e=>⟨_,rfl,by have:_=a:=Kg e;rw[<-this];exact h⟩
 |_,_,.cons h r,i+1,a,e=>wo r e
theorem tR{k:Tk}(h:gK k):1<=(txt k).length:=by
 cases k with
 |leaf l=>
  cases l with
  |word w=>
   have g:gW w:=h
   show 1<=(if isJ (sT w) then 34::(w++[34]) else w).length;split
   ·rw[JV];lia
   ·exact List.length_pos_iff.mpr g.1
  |start w=>show 1<=(w++[42]).length;rw[JU];exact ON 1 _
  |row ws=>show 1<=(34::(jn ws++[34])).length;rw[JV];lia
 |near n=>show 1<=(126::dF (n:Int)).length;rw[JV];lia
 |no=>decide
 |and=>decide
 |or=>decide
 |lp=>decide
 |rp=>decide
theorem oZ:∀(r:JP Tk) (k:Tk),(∀ k∈r,gK k)->r.length<=(tl k r).length
 |[],_,_=>JY _
 |k'::r,k,h=>by
  have h1:=tR (h k' (by simp))
  have h2:=oZ r k' λk hk=>h k (J0 _ hk)
  show r.length+1<=(cL k k'++(txt k'++tl k' r)).length;rw[JU,JU]
  lia
theorem Fo{b:Bk}{t:Tr}(h:RA.whole b=some t):b.a≠none:=by
 obtain⟨n,a,o⟩:=b;cases a with
 |some x=>intro z;cases z
 |none=>cases o<;>cases h
section
variable {C CB : JR}
theorem Rd.base {B H1 H2:Hp}{p:JR}{bs:JP Bk}{ls vl vf:V}(r:Rd B C CB H1 p bs ls vl vf)(s:bY H1 H2):∃ B',Rd B' C CB H2 p bs ls vl vf/\bY B B'/\(∀ b u,H1 b=none->H2 b=some u->B' b=some u)/\TT H2 B':=by
 obtain⟨dx,a,qs,r⟩:=r;have r2:=r.same s;have J:∀ b∈qs,∃ fs dx,H1 b=some (.ins CB dx fs):=λb hb=>by
  obtain⟨x,U,_⟩:=rg r.pr b hb;obtain⟨dx,va,vo,e,_⟩:=U;exact⟨_,_,e⟩
 refine⟨λb=>if b=p\/b=a\/b∈qs then none else H2 b,⟨dx,a,qs,?_⟩,?_,?_,?_⟩
 ·refine⟨λb u e=>?_,J1 (.inl rfl),J1 (.inr (.inl rfl)),r2.hp,r2.ha,r2.nd,kZ r2.pr λq I b hb=>⟨hb.1,J1 (.inr (.inr I))⟩⟩;split at e
  ·cases e
  ·exact e
 ·intro b u e;have n:¬ (b=p\/b=a\/b∈qs):=λz=>by
   rcases z with z|z|z
   ·rw[z,r.np] at e;cases e
   ·rw[z,r.na] at e;cases e
   ·obtain⟨x,_,U⟩:=rg r.pr b z;rw[U] at e;cases e
  dsimp only;rw[if_neg n];exact s _ _ (r.sB _ _ e)
 ·intro b u h1 h2;have n:¬ (b=p\/b=a\/b∈qs):=λz=>by
   rcases z with z|z|z
   ·rw[z,r.hp] at h1;cases h1
   ·rw[z,r.ha] at h1;cases h1
   ·obtain⟨fs,dx,e⟩:=J b z;rw[e] at h1;cases h1
  dsimp only;rw[if_neg n];exact h2
 ·intro b xs h2;have n:¬ (b=p\/b=a\/b∈qs):=λz=>by
   rcases z with z|z|z
   ·rw[z,r2.hp] at h2;cases h2
   ·rw[z,r2.ha] at h2;cases h2
   ·obtain⟨fs,dx,e⟩:=J b z;rw[s _ _ e] at h2;cases h2
  dsimp only;rw[if_neg n];exact h2
end
structure Be (K : J7) (C fi fl fe fo fr fw : JR) (di dl de do' dr dw : J2) : Prop where
 c : lW K C
 I : ej K "__init__" "Reader.__init__" (inClass fJ 0) fi di
 mI : L2.Mk K C fi
 L : ej K "lets" "Reader.lets" (inClass fJ 1) fl dl
 mL : Meth K C "lets" fl
 E : ej K "read_leaf" "Reader.read_leaf" (inClass fJ 2) fe de
 mE : Meth K C "read_leaf" fe
 O : ej K "read_other" "Reader.read_other" (inClass fJ 3) fo do'
 mO : Meth K C "read_other" fo
 R : ej K "read" "Reader.read" (inClass fJ 4) fr dr
 mR : Meth K C "read" fr
 W : ej K "whole" "Reader.whole" (inClass fJ 5) fw dw
 mW : Meth K C "whole" fw
section
variable {P : Ka} {w : Ku} {K : J7} {mg : Str -> JW JT} {base : KP} {C : Kn -> JR} {CA CR CB fi fd ft fc fw : JR} {di dd dt dc dw : J2} {gi gl ge go gr gw : JR} {ei el ee eo er ew : J2}
noncomputable def v5(C:Kn->JR):Sp:=λvs H Q _=>∃ t:At,vs=[.str (sT t.lin)]/\Gd t/\t.dep<=7/\t.many<=33/\∀ a H',bY H H'->d0 C H' a t->Q (.ref a) H'
noncomputable abbrev Iz:JP Str:=["line","reader","kind","meant","place"]
theorem pM:da Iz ["line"] (cG nC):=⟨rfl,rfl,rfl,dkq,rfl,dkq,dkq⟩
theorem qN.of {H H':Hp}{a:JR}{ps:JP Pq}(h:qN H a ps)(t:TT H H')(e:∀ xs,H a=some (.lst xs)->H' a=some (.lst xs)):qN H' a ps:=by
 obtain⟨qs,h1,h2⟩:=h;exact⟨qs,e _ h1,Gn.Paired.imp2 h2 λ_ _ ⟨v,g1,g2⟩=>⟨v,t _ _ g1,g2.tups t⟩⟩
seal cH PS PE PT PA PG PI cT cP in
theorem FN{f fp fn fa:JR}{gd fdp fdn fda:J2}{d:JR}{j:Kd->JR}(D:Df K mg "read_ask" nC f gd)(DP:Df K mg "parted" pE fp fdp)(GP:bX P w K mg base b7 14 fp fdp ["line"] zI)(DN:Df K mg "need_text" qD fn fdn)(GN:bX P w K mg base b7 14 fn fdn ["thing"] zC)
  (DA:Df K mg "ask_of" nJ fa fda)(GA:bX P w K mg base (dD P w) 14 fa fda ["told"] (vk C CA))(X:Ex K mg "BadAsk" CA)
  (BM:ly K CB fi fd ft fc fw di dd dt dc dw)(hB:mg "Bracket"=some (.ref CB))(RM:Be K CR gi gl ge go gr gw ei el ee eo er ew)(hR:mg "Reader"=some (.ref CR))(T:Txt mg)(hD:mg "BEHIND"=some (.ref d))(D':KD P w K d (oM j))(kB:∀ k,k≠ .stop->∀ H,cu K H (j k) (kc k)):bX P w K mg base b7 15 f gd ["line"] (v5 C):=by
 have bP:=dY (p:="line") DP.F λ_ _ _ _ _ _ _=>rfl
 have bN:=dY (p:="thing") DN.F λ_ _ _ _ _ _ _=>rfl
 have bA:=dY (p:="told") DA.F λ_ _ _ _ _ _ _=>rfl
 have GI:bX P w K mg base b7 13 gi ei ["self"] (AR CR CB):=(F5 RM.I RM.c BM hB).mono (by decide)
 have bI:=RM.I.binds (ps:=["self"]) λ_ _ _ _ _ _ us U=>iE (λ_=>rfl) us U
 have GL:bX P w K mg base b7 14 gl el ["self","kind"] (xu CR CB):=(uq RM.L RM.c T hD D' kB).mono (by decide)
 have bL:=RM.L.binds (ps:=["self","kind"]) λ_ _ _ _ _ _ us U=>eU (λ_ _=>rfl) us U
 have GR:bX P w K mg base b7 14 gr er ["self","kind","meant"] (Ac CR CB):=(Hl RM.R RM.E RM.mE RM.O RM.mO RM.c BM hB T).mono (by decide)
 have bR:=RM.R.binds (ps:=["self","kind","meant"]) λ_ _ _ _ _ _ us U=>jD (λ_ _ _=>rfl) us U
 have GW:bX P w K mg base b7 14 gw ew ["self"] (Am CR CB):=(HL RM.W RM.c BM).mono (by decide)
 have bW:=RM.W.binds (ps:=["self"]) λ_ _ _ _ _ _ us U=>iE (λ_=>rfl) us U
 refine D.F.ok pM (λvs H Q E h=>?_) (λcdv A outer s H vs Q E hr h=>?_)
 ·obtain⟨t,rfl,_⟩:=h;rfl
 ·obtain⟨t,rfl,J,hd,hm,q⟩:=h;refine⟨_,b9 (cZ (i:=1) pM.nd rfl (Kh rfl) (wA RM.mI GI hr rfl hR bI .nil cz))
   (b9 (kT KZ rfl (pj (cQ GP hr rfl DP.m DP.F.kp bP .nil cz (bU (iR LA Ow Ox v9 (cQ GN hr rfl DN.m DN.F.kp bN .nil cz (bU (pv 0) bV))) bV)))
    (qI (n:=3) rfl (iK (eY (i:=2) pM.nd rfl (Kh rfl)) (iK (eY (i:=3) pM.nd rfl (Kh rfl)) (iK (eY (i:=4) pM.nd rfl (Kh rfl)) pH))))
    (b9 (cM (gG (fU (mq (pv 1) RM.c.cl RM.mL GL hr bL .nil cz (bU (pv 2) bV)))) pV cX)
    (b5 (e9 (mq (pv 1) RM.c.cl RM.mR GR hr bR .nil cz (bU (pv 2) (bU (pv 3) bV)))))))
   (b5 (Fc (CH:=CA) (λ_ _ _ _=>LG) rfl rfl rfl X.m (λp xe hx=>b5 (cy (Dd GA hr rfl DA.m DA.F.kp bA .nil hx (bU (oR (pv 1) RM.c.cl RM.mW GW hr bW .nil cz) bV)))) (λea p=>pV)))),?_⟩;have hlen:t.lin.length<=2000:=by have:=kI J;lia
  have ab:=Gv J;refine λp dx hp av aI=>⟨p,dx,H,rfl,b6,λb u e=>by rw[cF (dM e hp),cF (dM e av)];exact e,hp,λvl vf H1 ae t1=>⟨rfl,?_⟩⟩
  obtain⟨aJ,a1,aK,r1⟩:=id ae;refine⟨_,rfl,t.lin,rfl,hlen,Hz ab,λH2 s2=>⟨rfl,sT t.lin,rfl,rfl,by rw[dv];lia,?_⟩⟩;rw[uP ab];refine⟨t.lin,rfl,by lia,λa H3 s3 ha aw=>?_⟩;have ax:=s2.trans s3;obtain⟨B,af,sB,ag,tB⟩:=ae.base ax;have ay:H1 a=none:=by
   cases e:H1 a with
   |none=>rfl
   |some u=>rw[s2 _ _ e] at ha;cases ha
  have ah:qN B a (parts t.lin 0):=aw.of tB λxs e=>ag a _ ay e
  obtain⟨ps,ai,aj⟩:=id ah;refine⟨a,rfl,⟨_,ck.of (af.elim λ_ h=>h.elim λ_ h=>h.elim λ_ r=>r.sB _ _ ai)⟩,?_⟩;obtain⟨s',az,aA,b,aB,ak⟩:=RA.Bv (t:=t.tr) (by rw[lJ J];lia);obtain⟨lt,fin⟩:=BN az aA;have aa:=xp (L:=t.lin) (wr t.tr) .lp 0 (by rw[ku J];rfl) (jX J);have hk:(parts t.lin 0).map (λq=>(q.1,q.2.1))=(kinds (wr t.tr)).map λk=>(dQ (ko k),mH k):=by
   rw[aa];unfold kinds;rw[J5,LB]
   congr 1
   exact M7 λk _=>by cases k<;>rfl
  have U:ps.length=(wr t.tr).length+1:=by
   have h1:=M8 aj
   have h2:=K9 Mw hk;rw[JX,JX] at h2;rw[h1,h2];unfold kinds;rw[JU,JX];rfl
  have aL:(wr t.tr).length<=2000:=by have:=oZ (wr t.tr) .lp (jX J);rw[<-ku J] at this;lia
  refine xY (xs:=ps.map V.ref) (λi σ H'=>∃(vl vf:V) (o2 o3 o4:JW V),σ=[some (.str (sT t.lin)),some (.ref p),o2,o3,o4]/\qA B CR CB H' p (iW (wr t.tr) i) i vl vf) ?_ ?_ ?_ ?_
  ·exact⟨vl,vf,none,none,none,rfl,af,(λz=>by rcases z with z|z<;>cases z),(λz=>by cases z),(λz=>by rcases z with z|z<;>cases z),(by intro z;cases z),(λb hb=>by rw[List.mem_singleton.mp (show b∈[(⟨0,none,none⟩:Bk)] from hb)];exact JY 0),JY 1⟩
  ·rintro i σ H' _ ⟨vl,vf,_,_,_,_,ok⟩;obtain⟨_,_,_,r⟩:=ok.rd;exact ck.of (r.sB _ _ ai)
  ·rintro i x σ H' hx ⟨vl,vf,o2,o3,o4,rfl,ok⟩;obtain⟨_,_,_,r⟩:=ok.rd;obtain⟨u,hu,rfl⟩:∃ u,ps[i]? =some u/\V.ref u=x:=by
    rw[List.getElem?_map] at hx;cases e:ps[i]? with
    |none=>rw[e] at hx;cases hx
    |some z=>rw[e] at hx;exact⟨z,rfl,Kg hx⟩
   have hi:i<ps.length:=(List.getElem?_eq_some_iff.mp hu).1;obtain⟨pq,aC,v,ao,aq⟩:=wo aj hu;have aD:∃ k,(kinds (wr t.tr))[i]? =some k/\pq.1=dQ (ko k)/\pq.2.1=mH k:=by
    have:=K9 (λl=>l[i]?) hk;simp only[List.getElem?_map,aC] at this;cases e:(kinds (wr t.tr))[i]? with
    |none=>rw[e] at this;cases this
    |some k=>
     rw[e] at this;have:=Kg this;injection this with e1 e2;exact⟨k,rfl,e1,e2⟩
   obtain⟨k,ek,e1,e2⟩:=aD;rw[e1] at ao;rw[e2] at aq;have lk:=lt i k ek;have aE:=r.sB _ _ ao;have ar:cD false H' v (mH k):=aq.tups (TT.of r.sB);have rf:(iW (wr t.tr) i).last≠ .stop:=λz=>by
    have:=(Aq lk).2.2.2;rw[z] at this;cases this
   refine⟨u,_,rfl,cu.of aE,rfl,_,_,rfl,_,_,rfl,_,_,rfl,rfl,?_⟩;refine⟨_,rfl,p,_,_,rfl,r.hp,jj Jg _ _ _ _,_,rfl,p,B,_,(iW (wr t.tr) i).last,k |> ko,vl,vf,rfl,ok.rd,?_,rf,_,rfl,?_⟩
   ·rw[List.reverse_reverse];exact lk
   ·refine cj ⟨_,rfl,p,_,_,rfl,r.hp,jj F2 _ _ _ _,_,rfl,_,rfl,p,B,iW (wr t.tr) i,i,k,v,vl,vf,rfl,ok,by lia,ar,lk,λvl' vf' H2 t2 aF=>?_⟩;refine⟨vl',vf',_,_,_,rfl,?_⟩;rw[An ek];exact aF
  ·rintro σ H' ⟨vl,vf,o2,o3,o4,rfl,ok⟩;rw[JX,U,fin] at ok;obtain⟨_,_,_,r⟩:=ok.rd;have aG:Rd B CR CB H' p [b] (.str (dQ .stop)) vl vf:=by
    have:=ok.rd
    have e:(j9 s' none).bs=[b]:=aB;rw[e] at this;exact this
   refine⟨⟨_,rfl,p,_,_,rfl,r.hp,jj F8 _ _ _ _,p,B,b,_,vl,vf,t.tr,rfl,aG,Fo ak,ak,λv H2 aH au=>?_⟩,λ_ _ _ z=>z.elim⟩;rw[i5 J] at au;refine⟨v,t.told,rfl,au.any,jM J,λt' ht a' H4 s4 hA=>?_,λz=>?_⟩
   ·rw[wG J,J1 ⟨hd,by lia⟩] at ht;have:t=t':=Kg ht;subst this;exact q a' H4 ((sB.trans aH).trans s4) hA
   ·rw[wG J,J1 ⟨hd,by lia⟩] at z;cases z
end
end K13
namespace L2
open PySem PySem.Spec PyProof.Rows
section
variable {X : Cx}
theorem IY:jC X "str.split" (λx xs H Q=>∃ z y,x= .str z/\xs=[.str y]/\(y.length==0)=false/\z.length<=100000/\∀ p,H p=none->Q (.ref p) (upd H p (.lst ((Txt.split z y).map V.str)))):=by
 intro pins s σ H x xs v us Q I U rs h;obtain⟨z,y,rfl,rfl,J,hz,q⟩:=h;obtain⟨t,rfl⟩:=U;obtain⟨u0,rfl,⟨u,rfl⟩⟩:=vals1 rs;have hl:(sizeLine:Nat)=16777216:=Kv;have hf:H s.heap.objs.size=none:=I.hok.fresh (JY _);have ho:=StrLaws.occ_length_le_len z y 0 z.length (z.length+1);have hp:=len_partsBetween z (K7 z y 0 z.length (z.length+1)) y.length;have one:∀(e:Txt.split z y=[z]),EP X pins σ Q (.ref s.heap.objs.size) {s with heap:=s.heap.push {cls:= .type "list",data:= .seq [NU z t].toArray}}:=λe=>by
  rw[e] at q;exact⟨.ref s.heap.objs.size,_,I.laid (t':=s.toks) (o:= .lst [.str z]) (λb u e=>Heap.get?_push_of_some _ e) (JY _) ⟨by show 1<=_;lia,[.str z t],0,.cons ⟨_,rfl⟩ .nil,Heap.get?_push_size _ rfl⟩,rfl,q _ hf⟩
 cases h1:(decide (z.length<y.length)||decide (Builtin.Str.strKind z<Builtin.Str.strKind y))
 ·cases hf':(K7 z y 0 z.length (z.length+1)).isEmpty
  ·refine MY Mr (Nf s z t) Np (N7 _ _) (meets_str_split_sep z y t u h1 J hf' (by lia) (by lia)) ?_;have e:Txt.split z y=Builtin.Str.partsBetween z (K7 z y 0 z.length (z.length+1)) y.length:=by unfold Txt.split;rw[if_neg (by rw[h1];exact J3),if_neg (by rw[hf'];exact J3)]
   rw[<-e] at hp ⊢;exact⟨.ref s.heap.objs.size,_,I.laid (o:= .lst ((Txt.split z y).map V.str)) (λb u e=>Heap.get?_push_of_some _ e) (JY _) ⟨by rw[JX];lia,_,0,we s.toks (Txt.split z y),Heap.get?_push_size _ rfl⟩,rfl,q _ hf⟩
  ·refine MY Mr (Nf s z t) Np (N7 _ _) (meets_str_split_not_found z y t u h1 J hf') ?_;exact one (by unfold Txt.split;rw[if_neg (by rw[h1];exact J3),J1 hf'])
 ·refine MY Mr (Nf s z t) Np (N7 _ _) (meets_str_split_cannot_occur z y t u h1) ?_;exact one (by unfold Txt.split;rw[J1 h1])
theorem IZ{X:Cx}{o:KI}{name:Str}{T id:Mx}{apos cpos:Pos}{r:V->JP V->Hp->VK->Prop}{to:TE}{K:Kl}(hK:X.K=K)(pa:PlainAttrs T)(slot:Slot T name id)(hty:typeOf (.builtin id)=pure (.type "method_descriptor"))(hm:jC X id r)(ho:PE X o to)
  (hbase:MI o name X.env (eval o X.env)=eval o X.env:=by rfl)(hline:(apos.endLine==cpos.line)=true:=by rfl):PE X (.Call (.Attribute o name apos) [] [] cpos) (z5 K T r to):=by
 subst hK;exact iR pa slot hty hm ho hbase hline
end
end L2
namespace K13
open PySem L2 PyProof.Rows PySem.Spec Gn K01
open RA (Lf Tr Tk wr brk Kd Bk takeIn Rs)
noncomputable def tE(H:Hp)(p:JR)(k:Str)(d:Kf)(b e:Nat):Prop:=∃ v,H p=some (.tup [.str k,v,.int ((b:Nat):Int),.int ((e:Nat):Int)])/\cD false H v d
theorem ym{c:Nat}(h:dA c=true):gF c=true:=by
 have hm:c<128:=by
  unfold dA at h;simp at h
  lia
 have:∀ c<128,dA c=true->gF c=true:=dkq;exact this c hm h
theorem oj:gF 34=false/\gF 32=false/\gF 40=false/\gF 41=false/\gF 42=false/\gF 126=false:=dkq
theorem Hh{w:JP Nat}(h:w.all dA=true):Txt.lower (sT w)=sT w:=uP (m9 h)
theorem xg(c:Nat):decide (V.str (if gF c then JO "letter" else ⟨#[c]⟩)=V.str (JO "letter"))=gF c:=by
 cases h:gF c with
 |true=>rfl
 |false=>
  refine JQ λz=>?_
  have J:V.str ⟨#[c]⟩=V.str (JO "letter"):=z;injection J with z;have:=K9 (λx:Str=>x.length) z;exact absurd this (by show ¬ (1=(JO "letter").length);decide +kernel)
theorem z6:∀{ls:JP (JP Nat)} {w:JP Nat},w∈ls->w.length<=(jn ls).length
 |[],_,h=>nomatch h
 |[x],w,h=>by rw[List.mem_singleton.mp h];exact JY _
 |x::y::r,w,h=>by
  show _<=(x++32::jn (y::r)).length;rw[JU,JV];rcases List.mem_cons.mp h with rfl|h
  ·lia
  ·have:=z6 h;lia
section
variable {P : Ka} {w : Ku} {K : J7} {mg : Str -> JW JT} {base : KP}
noncomputable def uf:Sp:=λvs H Q _=>∃(L:JP Nat) (b:Nat) (ls:JP (JP Nat)) (y:JP Nat),vs=[.str (sT L),.int ((b:Nat):Int)]/\L.length<=20000/\L.drop b=34::(jn ls++34::y)/\(∀ w∈ls,gW w)/\1<=ls.length/\ls.length<=8/\
 ∀ p H',bY H H'->tE H' p "plain" (g9 (ls.map sT)) b (b+((jn ls).length+2))->Q (.ref p) H'
noncomputable abbrev AH:JP Str:=["_law_line","_law_at","_law_body","_law_end","_law_some"]
theorem oV:da AH ["_law_line","_law_at"] (cG oE):=⟨rfl,rfl,rfl,dkq,rfl,dkq,dkq⟩
theorem BW:(["_law_word"]:JP Str).Nodup:=dkq
seal cH PS PE PT PA PG PI cT cP in
theorem Ia{f fs:JR}{fd fds:J2}(D:Df K mg "_law_row_piece" oE f fd)(DS:Df K mg "_law_sign_kind" oQ fs fds)(T:Txt mg):bX P w K mg base b7 2 f fd ["_law_line","_law_at"] uf:=by
 have GS:bX P w K mg base b7 1 fs fds ["_law_sign"] wj:=zF DS
 have bS:=dY (p:="_law_sign") DS.F λ_ _ _ _ _ _ _=>rfl
 refine D.F.ok oV (λvs H Q E h=>?_) (λcdv A outer s H vs Q E hr h=>?_)
 ·obtain⟨L,b,ls,y,rfl,_⟩:=h;rfl
 ·obtain⟨L,b,ls,y,rfl,hl,hd,hg,h1,h8,k⟩:=h;have al:(sT L).length=L.length:=dv L;have sz:sizeLine=16777216:=Kv;have ok:=oO hg;have d1:L.drop (b+1)=jn ls++34::y:=iA (x:=[34]) hd;have dn:∀ i,i<=(jn ls).length->L.drop (b+1+i)=(jn ls).drop i++34::y:=λi hi=>by
   rw[<-M0,d1,NG hi]
  have lb:b+1+(jn ls).length<L.length:=by
   have:=dn _ (JY _);rw[Ms] at this;exact(gJ this).2
  refine⟨_,b9 (cZ (i:=2) oV.nd rfl (Kh rfl) b8) (b9 (cZ (i:=3) oV.nd rfl (Kh rfl) (cA eD (pv 1) bZ))
   (b9 (kj KZ (PT.imp (t':=λσ H' Q'=>∃(i:Nat) (e:Int) (x:Str),i<=(jn ls).length/\e=(b:Int)+1+(i:Nat)/\x=sT ((jn ls).take i)/\σ=[some (.str (sT L)),some (.int ((b:Nat):Int)),some (.str x),some (.int e),none]/\Q' (decide (i<(jn ls).length)) H') (PW.pt (hZ (cx iS (pv 3) (dE ia rfl T.len e8 (bU (pv 0) bV)) (cC _)) (hU (PW.pt (gu (cx cU (cK gI (pv 0) (pv 3) (λ_ _=>rfl)) b8 (cC _)) (ig (cx cU (cQ GS hr rfl DS.m DS.F.kp bS .nil cz (bU (cK gI (pv 0) (pv 3) (λ_ _=>rfl)) bV)) b8 (cC _)))))))) ?mC)
    (b9 (cZ (i:=2) oV.nd rfl (Kh rfl) (cA gh (pv 2) (cK gI (pv 0) (pv 3) (λ_ _=>rfl)))) (b5 (cZ (i:=3) oV.nd rfl (Kh rfl) (cA eD (pv 3) bZ)))))
   (b9 (CZ (i:=4) oV.nd rfl (Kh rfl) (own:=1) (caps:=[]) (N:=["_law_word"]) (N0:=AH) (sc0:=cG oE) rfl (pj (f7 LA Mr F.type_str_split IY (pv 2) (bU b8 bV)))
    (λ_ _ _=>eY (i:=0) BW rfl (Kh rfl)) (λ_ _ _=>Fj (cx k8 (pv 0) b8 (cC _))) (λ_ _ _=>IZ (K:=K) rfl LA Ow Ox v9 (pv 0)) (iX (by decide)) rfl rfl
    dkq rfl dkq dkq rfl dkq (λ_ _ _ h=>h))
   (b9 (cM (PW.pt (gu (cx k8 (gP gM (pv 0) (fE (pv 3)) (fE (cA eD (pv 3) bZ))) b8 (cC _)) (ig (gG (Gf yk yk bZ (dE iQ rfl T.len e8 (bU (pv 4) bV)) bZ))))) (b5 (cy ir)) cX)
   (b5 (cy (dm (bU b8 (bU (cK fN (eZ (bU (dm (bU b8 (bU (cK fN (pv 4) bZ (λ_ _=>rfl)) bV))) (bU (dm (bU b8 (bU (ie sH rfl T.tuple oX (bU (pv 4) bV)) bV))) bV))) (ie lV rfl T.int jJ (bU (ip iH (dE iQ rfl T.len e8 (bU (pv 4) bV)) bZ rfl) bV)) (λ_ _=>rfl)) (bU (pv 1) (bU (cA eD (pv 3) bZ) bV))))))))))),?_⟩
  rotate_left
  ·refine⟨_,rfl,_,_,rfl,rfl,?_⟩;dsimp only[g6,L2.start,List.set];refine kq (λσ H'=>H'=H/\∃(i:Nat) (e:Int) (x:Str),i<=(jn ls).length/\e=(b:Int)+1+(i:Nat)/\x=sT ((jn ls).take i)/\σ=[some (.str (sT L)),some (.int ((b:Nat):Int)),some (.str x),some (.int e),none]) (λσ _=>match σ with|[_,_,_,some (.int r),_]=>L.length-r.toNat|_=>0) ⟨rfl,0,(b:Int)+1,JO "",Ks _,by lia,by rw[List.take_zero];rfl,rfl⟩ ?_ ?_
   ·rintro σ H' ⟨rfl,i,ee,x,hi,he,U,rfl⟩;refine⟨i,ee,x,hi,he,U,rfl,?_⟩;by_cases J:i<(jn ls).length
    ·rw[JS J];have e:=dn i hi;rw[Lb J] at e;have ec:=gJ e;have hc:L[b+1+i]? =some (jn ls)[i]:=by rw[<-ec.1,List.getD_eq_getElem?_getD,List.getElem?_eq_getElem ec.2];rfl
     have cast:ee=((b+1+i:Nat):Int):=by lia
     refine cg ⟨_,rfl,_,rfl,_,rfl,_,_,(jn ls)[i],rfl,rfl,dC (by rw[al];lia),by rw[cast];exact cJ (by simpa using hc),_,_,rfl,rfl,dC (by rw[U,dv,Lr];show _+1<=30000;lia),_,rfl,_,_,rfl,rfl,⟨rfl,i+1,_,_,J,by rw[he];lia,?_,rfl⟩,?_⟩
     ·rw[U,show(⟨((jn ls).take i).toArray⟩++⟨#[(jn ls)[i]]⟩:Str)=sT ((jn ls).take i++[(jn ls)[i]]) from fO _ [(jn ls)[i]],List.take_append_getElem J]
     ·show L.length-(ee+1).toNat<L.length-ee.toNat
      lia
    ·rw[JQ J];have ei:i=(jn ls).length:=by lia
     subst ei;rw[Mq] at U;subst U;have hn:ls≠[]:=λz=>by rw[z] at h1;exact absurd h1 (by decide)
     have jl:(jn ls).length<=20000:=by lia
     refine cj ⟨_,rfl,rfl,_,_,rfl,rfl,rfl,by rw[dv];lia,λa ha=>?_⟩;rw[BH hn hg];have s1:bY H' (upd H' a (.lst ((ls.map sT).map V.str))):=cq ha;have ea:upd H' a (.lst ((ls.map sT).map V.str)) a=some (.lst ((ls.map sT).map V.str)):=b6;generalize upd H' a (.lst ((ls.map sT).map V.str))=H1 at s1 ea ⊢;refine⟨a,rfl,⟨_,ck.of ea⟩,?_⟩;have ll:((ls.map sT).map V.str).length=ls.length:=by rw[JX,JX]
     refine rC (xs:=(ls.map sT).map V.str) (λi ys G=>G=H1/\ys=(((ls.map sT).map V.str).take i)) (by rw[ll];lia) (λj zs G q=>by rw[q.1];exact ck.of ea) ⟨rfl,rfl⟩ ?_ ?_
     ·rintro i v zs G N hv ⟨rfl,rfl⟩ hN;obtain⟨x,U,ao⟩:∃ x∈ls,v= .str (sT x):=by
       have:=List.mem_of_getElem? hv;obtain⟨z,hz,rfl⟩:=List.mem_map.mp this;obtain⟨x,U,rfl⟩:=List.mem_map.mp hz;exact⟨x,U,rfl⟩
      subst ao;have gx:=hg x U;have xl:(sT x).length<=20000:=by rw[dv];have:=z6 U;lia
      refine⟨_,rfl,rfl,_,rfl,?_⟩;rw[JQ (λz=>by
       injection z with z;have:=K9 (λy:Str=>y.length) z;exact wX gx.1 this)];refine cg ⟨_,rfl,rfl,_,rfl,rfl,by lia,hN _ _ ⟨rfl,?_⟩⟩;rw[Hh gx.2,Lk,hv];rfl
     ·rintro ys G ⟨rfl,rfl⟩ _ q hq;rw[Mq];have s2:bY G (upd G q (.lst ((ls.map sT).map V.str))):=cq hq;have eq:upd G q (.lst ((ls.map sT).map V.str)) q=some (.lst ((ls.map sT).map V.str)):=b6;generalize upd G q (.lst ((ls.map sT).map V.str))=H2 at s2 eq ⊢;have aq:L.drop (b+1+(jn ls).length)=34::y:=by have:=dn _ (JY _);rwa [Ms] at this
      have ag:RA.sl L (b+1+(jn ls).length) (b+1+(jn ls).length+1)=[34]:=by
       unfold RA.sl;rw[aq,Lj];rfl
      subst he;refine⟨_,rfl,_,rfl,_,rfl,_,rfl,_,_,rfl,rfl,((b+1+(jn ls).length+1:Nat):Int),rfl,_,rfl,dC (by rw[al];lia),rfl,_,rfl,?_⟩;rw[show(b:Int)+1+((jn ls).length:Nat)=((b+1+(jn ls).length:Nat):Int) by lia,jf L (by lia) (by lia),ag];refine cj ⟨_,rfl,q,_,rfl,.inl (ck.of eq),_,_,rfl,rfl,_,rfl,?_⟩;rw[ll,JS (by lia)];refine cg ⟨_,_,rfl,rfl,_,rfl,?_⟩;rw[JS (by lia)];obtain⟨x0,ah⟩:∃ x0,ls[0]? =some x0:=⟨ls[0]'(by lia),List.getElem?_eq_getElem _⟩;have ar:((ls.map sT).map V.str)[0]? =some (.str (sT x0)):=by rw[List.getElem?_map,List.getElem?_map,ah];rfl
      refine cj ⟨_,rfl,q,_,_,_,rfl,rfl,ck.of eq,cJ (j:=0) ar,eK,λI ab=>⟨_,rfl,q,_,rfl,.inl ⟨ck.of (by rw[cF (λz=>by rw[<-z,eq] at ab;cases ab)];exact eq),λq2 ai=>⟨eK,λq3 ae=>?_⟩⟩⟩⟩;have s3:bY H2 (upd (upd (upd H2 I (.tup [.str (JO "word"),.str (sT x0)])) q2 (.tup ((ls.map sT).map V.str))) q3 (.tup [.str (JO "row"),.ref q2])):=((cq ab).trans (cq ai)).trans (cq ae);have e1:upd (upd (upd H2 I (.tup [.str (JO "word"),.str (sT x0)])) q2 (.tup ((ls.map sT).map V.str))) q3 (.tup [.str (JO "row"),.ref q2]) I=some (.tup [.str (JO "word"),.str (sT x0)]):=((cq ai).trans (cq ae)) _ _ b6;have e2:upd (upd (upd H2 I (.tup [.str (JO "word"),.str (sT x0)])) q2 (.tup ((ls.map sT).map V.str))) q3 (.tup [.str (JO "row"),.ref q2]) q2=some (.tup ((ls.map sT).map V.str)):=(cq ae) _ _ b6;have e3:upd (upd (upd H2 I (.tup [.str (JO "word"),.str (sT x0)])) q2 (.tup ((ls.map sT).map V.str))) q3 (.tup [.str (JO "row"),.ref q2]) q3=some (.tup [.str (JO "row"),.ref q2]):=b6;generalize upd (upd (upd H2 I (.tup [.str (JO "word"),.str (sT x0)])) q2 (.tup ((ls.map sT).map V.str))) q3 (.tup [.str (JO "row"),.ref q2])=H3 at s3 e1 e2 e3 ⊢;refine⟨eK,λq4 au=>?_⟩;have s4:bY H3 (upd H3 q4 (.lst [.ref I,.ref q3])):=cq au;have e4:upd H3 q4 (.lst [.ref I,.ref q3]) q4=some (.lst [.ref I,.ref q3]):=b6;generalize upd H3 q4 (.lst [.ref I,.ref q3])=H4 at s4 e4 ⊢;have av:∀(G:Hp) (l:JP Str),cV false G (l.map V.str) (l.map .str):=λG l=>by
       induction l with
       |nil=>exact .nil
       |cons z l ih=>exact .cons (.str z) ih
      have aj:bY H' H4:=((s1.trans s2).trans s3).trans s4;refine⟨_,rfl,q,_,rfl,.inl (ck.of (s4 _ _ (s3 _ _ eq))),_,_,rfl,rfl,.inr ⟨_,rfl,?_⟩⟩;rw[ll];have fin:∀(v:V),cD false H4 v (g9 (ls.map sT))->∀ q5,H4 q5=none->Q (.ref q5) (upd H4 q5 (.tup [.str (JO "plain"),v,.int ((b:Nat):Int),.int (((b+1+(jn ls).length:Nat):Int)+1)])):=λv pv q5 ak=>by
       refine k q5 _ (aj.trans (cq ak)) ⟨v,?_,pv.same (cq ak)⟩;rw[b6,show((b+1+(jn ls).length:Nat):Int)+1=((b+((jn ls).length+2):Nat):Int) by lia]
      by_cases aa:ls.length=1
      ·rw[JQ (by lia)];refine⟨q4,_,0,.ref I,rfl,rfl,ck.of e4,cJ (j:=0) rfl,_,rfl,_,rfl,_,_,rfl,rfl,ik,fin (.ref I) ?_⟩;have:g9 (ls.map sT)= .tuple [.str "word",.str (sT x0)]:=by
        unfold g9;rw[JX,J1 aa,List.getD_eq_getElem?_getD,List.getElem?_map,ah];rfl
       rw[this];exact .tup (s4 _ _ e1) (.cons (.str _) (.cons (.str _) .nil))
      ·rw[JS (by lia)];refine⟨q4,_,1,.ref q3,rfl,rfl,ck.of e4,cJ (j:=1) rfl,_,rfl,_,rfl,_,_,rfl,rfl,ik,fin (.ref q3) ?_⟩;have:g9 (ls.map sT)= .tuple [.str "row",.tuple ((ls.map sT).map .str)]:=by
        unfold g9;rw[JX,if_neg aa]
       rw[this];exact .tup (s4 _ _ e3) (.cons (.str _) (.cons (.tup (s4 _ _ e2) (av _ _)) .nil))
   ·intro σ H' Q1 Q2 hq h;obtain⟨i,ee,x,hi,he,U,e,q⟩:=h;exact⟨i,ee,x,hi,he,U,e,hq _ _ q⟩
  ·rintro σ H' Q' ⟨i,ee,x,hi,he,U,rfl,q⟩;refine⟨_,rfl,_,rfl,_,rfl,dC (by rw[al];lia),_,_,rfl,rfl,_,rfl,?_⟩;rw[al,JS (show ee<(L.length:Int) by lia)];have cast:ee=((b+1+i:Nat):Int):=by lia
   by_cases J:i<(jn ls).length
   ·rw[JS J] at q;have e:=dn i hi;rw[Lb J] at e;have ec:=gJ e;have hc:L[b+1+i]? =some (jn ls)[i]:=by rw[<-ec.1,List.getD_eq_getElem?_getD,List.getElem?_eq_getElem ec.2];rfl
    have hok:fX (jn ls)[i]=true:=List.all_eq_true.mp ok.1 _ (M5 J)
    have ix:iz (sT L).cps.toList ee=some (jn ls)[i]:=by rw[cast];exact cJ (by simpa using hc)
    generalize (jn ls)[i]=c at hok ix;refine cg ⟨_,rfl,_,rfl,_,_,c,rfl,rfl,dC (by rw[al];lia),ix,rfl,_,rfl,?_⟩;rw[show decide (V.str ⟨#[c]⟩=V.str (JO " "))=decide (c=32) from gN c 32];by_cases af:c=32
    ·rw[JS af];exact cg q
    ·rw[JQ af];refine cj ⟨_,rfl,_,rfl,_,_,c,rfl,rfl,dC (by rw[al];lia),ix,c,rfl,rfl,_,rfl,?_⟩;rw[xg];have:gF c=true:=ym (by unfold fX at hok;rw[JQ af,Bool.false_or] at hok;exact hok);rw[this];exact q
   ·rw[JQ J] at q;have ei:i=(jn ls).length:=by lia
    subst ei;have e:=dn _ (JY _);rw[Ms] at e;have ec:=gJ e;have hc:L[b+1+(jn ls).length]? =some 34:=by rw[<-ec.1,List.getD_eq_getElem?_getD,List.getElem?_eq_getElem ec.2];rfl
    have ix:iz (sT L).cps.toList ee=some 34:=by rw[cast];exact cJ (by simpa using hc)
    refine cg ⟨_,rfl,_,rfl,_,_,34,rfl,rfl,dC (by rw[al];lia),ix,rfl,_,rfl,?_⟩;rw[show decide (V.str ⟨#[34]⟩=V.str (JO " "))=decide ((34:Nat)=32) from gN 34 32];refine cj ⟨_,rfl,_,rfl,_,_,34,rfl,rfl,dC (by rw[al];lia),ix,34,rfl,rfl,_,rfl,?_⟩;rw[xg,oj.1];exact q
end
end K13
namespace L2
open PySem PySem.Spec PyProof.Rows
section
variable {X : Cx} {a b : KI} {rest : JP KI} {ta : TE} {pos : Pos}
noncomputable def Er(K:Kl)(ta:TE):TE:=λσ H Q=>ta σ H λx H1=>∃ p y ys,x= .ref p/\cu K H1 p (y::ys)/\Q x H1
theorem HQ(ha:PE X a ta):PE X (.BoolOp .Or (a::b::rest) pos) (Er X.K ta):=by
 intro pins s σ H Q I h;refine BoolOp_or (cv (ha pins s σ H _ I h) λv s1 ⟨x,H1,I1,r1,p,y,ys,ex,hq,q1⟩=>?_);subst ex;obtain rfl:v=Ky p:=r1;obtain⟨J,rv,ht,hz⟩:=I1.tuple hq;have hl:=rv.length;have hs:(sizeLine:Nat)=16777216:=Kv;have U:(!J.toArray.isEmpty)=true:=by
  cases J with
  |nil=>cases rv
  |cons u r=>rfl
 refine truthy_tuple ht (by rw[Kk];lia) ?_;rw[U];exact⟨.ref p,H1,I1.tok _,rfl,q1⟩
theorem Cd:iO X (.type "int") (λxs H Q=>∃ z n,xs=[.str z]/\PySem.intText? z=some n/\z.length<=640/\Q (.int n) H):=by
 intro pins s σ H xs us Q I r h;obtain⟨z,n,rfl,hn,J,q⟩:=h;obtain⟨u,rfl,t,rfl⟩:=vals1 r;exact W.KIN.call_text hn J ⟨.int n,H,I.tok _,⟨_,rfl⟩,q⟩
noncomputable def D9(i j k:Nat)(ta:TA):TS:=λD σ H=>ta σ H λvs H1=>∃ u v w,vs=[u,v,w]/\D.nx (((σ.set i (some u)).set j (some v)).set k (some w)) H1
theorem IP{i j k:Nat}{x y z:Str}{a b c:KI}{ta:TA}{px py pz pt:Pos}{kt k2 pt2}(hc:X.calm=true)(hN:X.N.Nodup)(hi:X.N[i]? =some x)(hj:X.N[j]? =some y)(hk:X.N[k]? =some z)(hij:i≠j)(hik:i≠k)(hjk:j≠k)
  (hx:X.env.scope.names.lookup x=some .local)(hy:X.env.scope.names.lookup y=some .local)(hz:X.env.scope.names.lookup z=some .local)(ha:PA X [a,b,c] ta)
  (hw:Og [.Tuple [.Name x px,.Name y py,.Name z pz] kt pt] (.Tuple [a,b,c] k2 pt2) X.env=pure (some [x,y,z]))
  (hs:Of [.Tuple [.Name x px,.Name y py,.Name z pz] kt pt] (.Tuple [a,b,c] k2 pt2) pos.line X.env=pure false:=by rfl):
  PS X (.Assign [.Tuple [.Name x px,.Name y py,.Name z pz] kt pt] (.Tuple [a,b,c] k2 pt2) pos) (D9 i j k ta):=by
 intro pins s σ H D I h;rw[OH];refine J8 (MH ?_);rw[hs];refine J8 (KN ?_);rw[if_neg (by decide)];refine J8 (Tuple_ (cv (ha _ pins s σ H _ I h) λus s1 ⟨vs,H1,I1,r1,q1⟩=>?_));obtain⟨u,v,w,e1,q1⟩:=q1;subst e1;obtain⟨J,U,u3,rfl,ru,rv,aa⟩:∃ J U u3,us=[J,U,u3]/\RelV u J/\RelV v U/\RelV w u3:=by
  cases r1 with
  |cons p q=>
   cases q with
   |cons p' q'=>
    cases q' with
    |cons ab ae=>
     cases ae;exact⟨_,_,_,rfl,p,p',ab⟩
 refine MN ?_ (by show 3<=sizeLine;decide);have I2:Inv X pins σ H1 {s1 with heap:=s1.heap.push {cls:= .type "tuple",data:= .seq [J,U,u3].toArray}}:=I1.kept (t':=s1.toks) λb o e=>Heap.get?_push_of_some _ e
 rw[hw];refine J8 (KN ?_);show Kq (Ko X.prog X.w) X.A (do rule "assign.swapped-stores";let items<-unpackItems (.ref s1.heap.objs.size) 3 none;MG [λv=>Mm X.env z v,λv=>Mm X.env y v,λv=>Mm X.env x v] items.reverse;pure Om) _ _ _;refine J8 (wpAny_rule (J8 (N9 (items:=#[J,U,u3]) (I.ok.hd hc) (IsTup.new s1.heap _) λh' af=>?_)));have I3:=I2.kept (h':=h') (t':=s1.toks) λb o e=>af b o (Kr (Kb e)) e
 show Kq _ _ (MG [λv=>Mm X.env z v,λv=>Mm X.env y v,λv=>Mm X.env x v] [u3,U,J] >>= λ_=>pure Om) _ _ _;refine J8 (LH (Mn (iU I3 hN hk (.inl hz) aa (λs2 I4=>?_) (.inr hz))));refine LH (Mn (iU I4 hN hj (.inl hy) rv (λs3 I5=>?_) (.inr hy)));refine LH (Mn (iU I5 hN hi (.inl hx) ru (λs4 I6=>Nh (KN ?_)) (.inr hx)));rw[Ny _ _ (K5 hjk),Ny _ _ (K5 hik),Ny (i:=j) _ _ (K5 hij)] at I6;exact⟨_,H1,I6,q1⟩
theorem Bd(k:Str):∀ ys:JP Str,PySem.Spec.countIn (.str k) (ys.map MC)=((ys.count k:Nat):Int)
 |[]=>rfl
 |y::ys=>by
  rw[KU,PySem.Spec.countIn,Bd k ys,Nd];have e:PySem.Spec.same (.str y) (.str k)=(y==k):=rfl;rw[e];cases h:(y==k) with
  |true=>simp[h];lia
  |false=>simp[h]
theorem qX:jC X "list.count" (λx xs H Q=>∃(p:JR) (ys:JP Str) (k:Str),x= .ref p/\xs=[.str k]/\ck X.K H p (ys.map V.str)/\Q (.int ((ys.count k:Nat):Int)) H):=by
 intro pins s σ H x xs v us Q I J rs h;obtain⟨p,ys,k,rfl,rfl,U,q⟩:=h;cases J;obtain⟨u0,rfl,⟨u,rfl⟩⟩:=vals1 rs;obtain⟨aa,r,pl,_⟩:=I.list U;refine count_list_strs pl.isList (by simpa using qZ r) ?_;rw[Bd];exact⟨.int _,H,I.tok _,⟨_,rfl⟩,q⟩
end
end L2
namespace K13
open PySem L2 PyProof.Rows PySem.Spec Gn K01
open RA (Lf Tr Tk wr brk Kd Bk takeIn Rs)
noncomputable def oY:Tk->Str
 |.leaf _=>"plain" |.near _=>"near" |.no=>"not" |.and=>"and" |.or=>"or" |.lp=>"(" |.rp=>")"
noncomputable def lw:Tk->JP Nat
 |.leaf (.word w)=>w|.leaf (.start w)=>w|.near n=>dF (n:Int)|.no=>[110,111,116]|.and=>[97,110,100]|.or=>[111,114]|_=>[]
noncomputable def lz:Tk->JP Nat->JP Nat
 |.leaf (.start _),y=>42::y|.lp,y=>40::y|.rp,y=>41::y|_,y=>y
noncomputable def jq:Tk->KS
 |.near _=>true|_=>false
noncomputable def kN:Tk->KS
 |.leaf (.row _)=>true|.leaf (.word w)=>isJ (sT w)|_=>false
theorem shape{k:Tk}(hg:gK k)(hm:kN k=false)(y:JP Nat)(hy:k≠ .lp->k≠ .rp->qJ y):
  txt k++y=(if jq k then [126] else [])++(lw k++lz k y)/\(lw k).all dA=true/\∀ c z,lz k y=c::z->gF c=false:=by
 have st:∀{y:JP Nat},qJ y->∀ c z,y=c::z->gF c=false:=λh c z e=>by
  rcases h with rfl|⟨d,r,rfl,hd⟩
  ·cases e
  ·injection e with e _;rw[<-e];rcases hd with rfl|rfl
   ·exact oj.2.1
   ·exact oj.2.2.2.1
 cases k with
 |leaf l=>
  cases l with
  |word w=>
   have J:isJ (sT w)=false:=hm;refine⟨?_,(show gW w from hg).2,st (hy (by intro z;cases z) (by intro z;cases z))⟩;show(if isJ (sT w) then _ else w)++y=[]++(w++y);rw[J];rfl
  |start w=>exact⟨by show w++[42]++y=[]++(w++42::y);rw[Kt];rfl,(show gW w from hg).2,λc z e=>by injection e with e _;rw[<-e];exact oj.2.2.2.2.1⟩
  |row ws=>cases hm
 |near n=>exact⟨rfl,(p3 n (by have:n<=20:=hg;lia)).1,st (hy (by intro z;cases z) (by intro z;cases z))⟩
 |no=>exact⟨rfl,dkq,st (hy (by intro z;cases z) (by intro z;cases z))⟩
 |and=>exact⟨rfl,dkq,st (hy (by intro z;cases z) (by intro z;cases z))⟩
 |or=>exact⟨rfl,dkq,st (hy (by intro z;cases z) (by intro z;cases z))⟩
 |lp=>exact⟨rfl,rfl,λc z e=>by injection e with e _;rw[<-e];exact oj.2.2.1⟩
 |rp=>exact⟨rfl,rfl,λc z e=>by injection e with e _;rw[<-e];exact oj.2.2.2.1⟩
theorem pR{k:Tk}(hg:gK k):∃ c r,txt k=c::r/\c≠32/\(kN k=true->c=34)/\(kN k=false->c≠34)/\(c=126↔jq k=true):=by
 have J:∀{w:JP Nat},gW w->∃ c r,w=c::r/\c≠32/\c≠34/\c≠126:=λ{w} g=>by
  cases w with
  |nil=>exact absurd rfl g.1
  |cons c w=>
   have h:=g.2;rw[M9,Lc] at h;have:=mr h.1;exact⟨c,w,rfl,this.2.1,this.2.2.1,this.2.2.2.2.2.2⟩
 cases k with
 |leaf l=>
  cases l with
  |word w=>
   cases hj:isJ (sT w) with
   |true=>exact⟨34,w++[34],J1 hj,by decide,λ_=>rfl,(λz=>by rw[show kN (.leaf (.word w))=true from hj] at z;cases z),⟨(λz=>by cases z),(λz=>by cases z)⟩⟩
   |false=>
    obtain⟨c,r,e,h1,h2,U⟩:=J (show gW w from hg);exact⟨c,r,(if_neg (by rw[hj];exact J3)).trans e,h1,(λz=>by rw[show kN (.leaf (.word w))=false from hj] at z;cases z),λ_=>h2,⟨λz=>absurd z U,(λz=>by cases z)⟩⟩
  |start w=>
   obtain⟨c,r,e,h1,h2,U⟩:=J (show gW w from hg);exact⟨c,r++[42],by show w++[42]=_;rw[e];rfl,h1,(λz=>by cases z),λ_=>h2,⟨λz=>absurd z U,(λz=>by cases z)⟩⟩
  |row ws=>exact⟨34,_,rfl,by decide,λ_=>rfl,(λz=>by cases z),⟨(λz=>by cases z),(λz=>by cases z)⟩⟩
 |near n=>exact⟨126,_,rfl,by decide,(λz=>by cases z),λ_=>by decide,⟨λ_=>rfl,λ_=>rfl⟩⟩
 |no=>exact⟨110,_,rfl,by decide,(λz=>by cases z),λ_=>by decide,⟨(λz=>by cases z),(λz=>by cases z)⟩⟩
 |and=>exact⟨97,_,rfl,by decide,(λz=>by cases z),λ_=>by decide,⟨(λz=>by cases z),(λz=>by cases z)⟩⟩
 |or=>exact⟨111,_,rfl,by decide,(λz=>by cases z),λ_=>by decide,⟨(λz=>by cases z),(λz=>by cases z)⟩⟩
 |lp=>exact⟨40,_,rfl,by decide,(λz=>by cases z),λ_=>by decide,⟨(λz=>by cases z),(λz=>by cases z)⟩⟩
 |rp=>exact⟨41,_,rfl,by decide,(λz=>by cases z),λ_=>by decide,⟨(λz=>by cases z),(λz=>by cases z)⟩⟩
theorem Ax(l:JP Nat){a:Nat}(ha:a<=l.length):Txt.slice ⟨l.toArray⟩ (some (a:Int)) none=⟨(l.drop a).toArray⟩:=by
 have e:Txt.slice ⟨l.toArray⟩ (some (a:Int)) none=Txt.slice ⟨l.toArray⟩ (some (a:Int)) (some ((⟨l.toArray⟩:Str).length:Int)):=by
  have J:Lh (some (a:Int)) none 1 (⟨l.toArray⟩:Str).length=Lh (some (a:Int)) (some ((⟨l.toArray⟩:Str).length:Int)) 1 (⟨l.toArray⟩:Str).length:=by
   unfold Lh;have h1:¬ ((⟨l.toArray⟩:Str).length:Int)<0:=by lia
   have h2:min ((⟨l.toArray⟩:Str).length:Int) ((⟨l.toArray⟩:Str).length:Int)=(⟨l.toArray⟩:Str).length:=by lia
   have p:(1:Int)>0:=by decide
   simp only[if_neg h1,h2,J1 p];rw[show max (0:Int) ((⟨l.toArray⟩:Str).length:Int)=((⟨l.toArray⟩:Str).length:Int) by lia]
  unfold Txt.slice;rw[J]
 rw[e,dv,jf l ha ha];unfold RA.sl;rw[Lq (by rw[KH];lia)]
noncomputable def wI(c:Nat):KS:=decide (c∈(JO "()").cps.toList)
theorem Dt:∀ n:Nat,n<21->e7 (.str (sT (dF (n:Int)))) ((LL 21).map λn:Nat=>V.str (JO (toString (n:Int))))=true/\PySem.intText? (sT (dF (n:Int)))=some (n:Int):=dkq
theorem rP(z:Str):e7 (.str z) [.str (JO "and"),.str (JO "or"),.str (JO "not")]=isJ z:=rfl
section
variable {P : Ka} {w : Ku} {K : J7} {mg : Str -> JW JT} {base : KP}
noncomputable def tD:Sp:=λvs H Q _=>∃(L:JP Nat) (b:Nat) (k:Tk) (r:JP Tk),vs=[.str (sT L),.int ((b:Nat):Int)]/\L.length<=20000/\b<=L.length/\L.drop b=tl k r/\(∀ q∈r,gK q)/\
 (r=[]->∀ p H',bY H H'->tE H' p "end" .none L.length L.length->Q (.ref p) H')/\
 ∀ J U,r=J::U->∀ p H',bY H H'->tE H' p (oY J) (mD J) (b+(cL k J).length) (b+(cL k J).length+(txt J).length)->Q (.ref p) H'
noncomputable abbrev y1:JP Str:=["_law_line","_law_at","_law_end","_law_word"]
theorem qz:da y1 ["_law_line","_law_at"] (cG mv):=⟨rfl,rfl,rfl,dkq,rfl,dkq,dkq⟩
theorem DG:(["_law_number_here"]:JP Str).Nodup:=dkq
seal cH PS PE PT PA PG PI cT cP in
theorem CC{f fs fr:JR}{fd fds fdr:J2}(D:Df K mg "_law_piece" mv f fd)(DR:Df K mg "_law_row_piece" oE fr fdr)(DS:Df K mg "_law_sign_kind" oQ fs fds)(T:Txt mg):bX P w K mg base b7 3 f fd ["_law_line","_law_at"] tD:=by
 have GS:bX P w K mg base b7 2 fs fds ["_law_sign"] wj:=(zF DS).mono (by decide)
 have bS:=dY (p:="_law_sign") DS.F λ_ _ _ _ _ _ _=>rfl
 have GR:bX P w K mg base b7 2 fr fdr ["_law_line","_law_at"] uf:=Ia DR DS T
 have bR:=DR.F.binds (ps:=["_law_line","_law_at"]) λ_ _ _ _ _ _ us hl=>eU (λ_ _=>rfl) us hl
 refine D.F.ok qz (λvs H Q E h=>?_) (λcdv A outer s H vs Q E hr h=>?_)
 ·obtain⟨L,b,k,r,rfl,_⟩:=h;rfl
 ·obtain⟨L,b,k,r,rfl,hl,hb,hd,hg,q1,q2⟩:=h;have al:(sT L).length=L.length:=dv L;have sz:sizeLine=16777216:=Kv;obtain⟨b',aN,aO,au,av⟩:∃ b',b<=b'/\b'<=L.length/\(b'=b\/(b'=b+1/\b<L.length/\L.getD b 0=32))/\((r=[]/\b'=L.length)\/∃ J r',r=J::r'/\b'=b+(cL k J).length/\L.drop b'=txt J++tl J r'):=by
   cases r with
   |nil=>
    have:L.length<=b:=List.drop_eq_nil_iff.mp hd;exact⟨b,JY _,hb,.inl rfl,.inl ⟨rfl,by lia⟩⟩
   |cons J r'=>
    have ah:L.drop b=cL k J++(txt J++tl J r'):=hd;obtain⟨c,y,ec,_⟩:=pR (hg J (by simp));by_cases hs:k= .lp\/J= .rp
    ·have es:cL k J=[]:=J1 hs;rw[es] at ah;exact⟨b,JY _,hb,.inl rfl,.inr ⟨J,r',rfl,by rw[es];rfl,ah⟩⟩
    ·have es:cL k J=[32]:=if_neg hs;rw[es] at ah;have g:=gJ (show L.drop b=32::(txt J++tl J r') from ah);exact⟨b+1,MU _,g.2,.inr ⟨rfl,g.2,g.1⟩,.inr ⟨J,r',rfl,by rw[es];rfl,iA (x:=[32]) ah⟩⟩
  have aB:b'<L.length->L.getD b' 0≠32:=λaf z=>by
   rcases av with ⟨_,e⟩|⟨J,r',e,_,e2⟩
   ·lia
   ·obtain⟨c,y,ec,hc,_⟩:=pR (hg J (by rw[e];simp));rw[ec] at e2;rw[(gJ e2).1] at z;exact hc z
  obtain⟨e0,ww,zz,aP,aC,ai,aw,aD⟩:∃(e0:Nat) (ww zz:JP Nat),e0<=L.length/\(∀ J r',r=J::r'->kN J=false->e0=b'+(if jq J then 1 else 0)/\ww=lw J/\zz=lz J (tl J r'))/\L.drop e0=ww++zz/\ww.all dA=true/\(∀ c z',zz=c::z'->gF c=false):=by
   rcases av with ⟨e,e1⟩|⟨J,r',e,e1,e2⟩
   ·exact⟨L.length,[],[],JY _,(λJ r' z=>by rw[e] at z;cases z),by rw[Ms];rfl,rfl,(λc z' z=>by cases z)⟩
   ·cases hm:kN J with
    |true=>exact⟨L.length,[],[],JY _,(λk2 r2 z hz=>by rw[e] at z;injection z with z1 _;rw[<-z1,hm] at hz;cases hz),by rw[Ms];rfl,rfl,(λc z' z=>by cases z)⟩
    |false=>
     obtain⟨s1,s2,s3⟩:=shape (hg J (by rw[e];simp)) hm (tl J r') (λn _=>lP n r');have af:b'<L.length:=by
      obtain⟨c,y,ec,_⟩:=pR (hg J (by rw[e];simp));rw[ec] at e2;exact(gJ e2).2
     refine⟨b'+(if jq J then 1 else 0),lw J,lz J (tl J r'),by split<;>lia,(λk2 r2 z hz=>by rw[e] at z;injection z with z1 z2;rw[<-z1,<-z2];exact⟨rfl,rfl,rfl⟩),?_,s2,s3⟩;rw[s1] at e2;cases hn:jq J with
     |true=>rw[hn] at e2;exact iA (x:=[126]) e2
     |false=>rw[hn] at e2;exact e2
  refine⟨_,b9 (kj KZ (PT.imp (t':=λσ H' Q'=>∃ i:Nat,(i=b\/i=b')/\σ=[some (.str (sT L)),some (.int ((i:Nat):Int)),none,none]/\Q' (decide (i≠b')) H') (PW.pt (hZ (cx iS (pv 1) (dE ia rfl T.len e8 (bU (pv 0) bV)) (cC _)) (hU (cx cU (cK gI (pv 0) (pv 1) (λ_ _=>rfl)) b8 (cC _))))) ?m1) (b5 (cZ (i:=1) qz.nd rfl (Kh rfl) (cA eD (pv 1) bZ))))
   (b9 (cM (cx cU (pv 1) (dE ia rfl T.len e8 (bU (pv 0) bV)) (cC _)) (b5 (cy (dm (bU b8 (bU ir (bU (pv 1) (bU (pv 1) bV))))))) cX)
   (b9 (cM (cx cU (cK gI (pv 0) (pv 1) (λ_ _=>rfl)) b8 (cC _)) (b5 (cy (HQ (cQ GR hr rfl DR.m DR.F.kp bR .nil cz (bU (pv 0) (bU (pv 1) bV)))))) cX)
   (b9 (cZ (i:=2) qz.nd rfl (Kh rfl) (cA eD (pv 1) (ie lV rfl T.int jJ (bU (ip cU (cK gI (pv 0) (pv 1) (λ_ _=>rfl)) b8 rfl) bV))))
   (b9 (kj KZ (PT.imp (t':=λσ H' Q'=>∃(i:Nat),i<=ww.length/\σ=[some (.str (sT L)),some (.int ((b':Nat):Int)),some (.int ((e0+i:Nat):Int)),none]/\Q' (decide (i<ww.length)) H') (PW.pt (hZ (cx iS (pv 2) (dE ia rfl T.len e8 (bU (pv 0) bV)) (cC _)) (hU (cx cU (cQ GS hr rfl DS.m DS.F.kp bS .nil cz (bU (cK gI (pv 0) (pv 2) (λ_ _=>rfl)) bV)) b8 (cC _))))) ?m2) (b5 (cZ (i:=2) qz.nd rfl (Kh rfl) (cA eD (pv 2) bZ))))
   (b9 (cZ (i:=3) qz.nd rfl (Kh rfl) (iR LA Ow Ox v9 (gP gM (pv 0) (fE (pv 1)) (fE (pv 2)))))
   (b9 (cM (cx cU (cK gI (pv 0) (pv 1) (λ_ _=>rfl)) b8 (cC _))
    (b9 (cM (cx kE (gP gM (pv 3) (fE bZ) lT) (jF (own:=1) (caps:=[]) (N:=["_law_number_here"]) (N0:=y1) (sc0:=cG mv) rfl (lF rfl T.range (bU bZ bV)) (λ_ _ _=>eY (i:=0) DG rfl (Kh rfl)) (λ_ _ _=>i9)
      (λ_ _ _=>ie vv rfl T.str nj (bU (pv 0) bV)) (iX (by decide)) rfl rfl dkq rfl dkq dkq rfl dkq) (by with_unfolding_all rfl))
     (b5 (cy (dm (bU b8 (bU (ie Cd rfl T.int jJ (bU (gP gM (pv 3) (fE bZ) lT) bV)) (bU (pv 1) (bU (pv 2) bV))))))) cX)
    pV) cX)
   (b9 (cM (cx cU (pv 2) (pv 1) (cC _)) (b5 (cy (dm (bU (cK fN (eZ (bU (cK gI (pv 0) (pv 1) (λ_ _=>rfl)) (bU b8 bV))) (ie lV rfl T.int jJ (bU (ip EG (cK gI (pv 0) (pv 1) (λ_ _=>rfl)) b8 rfl) bV)) (λ_ _=>rfl)) (bU ir (bU (pv 1) (bU (cA eD (pv 1) bZ) bV))))))) cX)
   (b9 (cM (cx cU (gP gM (pv 0) (fE (pv 2)) (fE (cA eD (pv 2) bZ))) b8 (cC _)) (b5 (cy (dm (bU b8 (bU (dm (bU b8 (bU (pv 3) bV))) (bU (pv 1) (bU (cA eD (pv 2) bZ) bV))))))) cX)
   (b9 (cM (cx kE (pv 3) (dm (bU b8 (bU b8 (bU b8 bV)))) (by with_unfolding_all rfl)) (b5 (cy (dm (bU (pv 3) (bU ir (bU (pv 1) (bU (pv 2) bV))))))) cX)
   (b5 (cy (dm (bU b8 (bU (dm (bU b8 (bU (pv 3) bV))) (bU (pv 1) (bU (pv 2) bV)))))))))))))))),?_⟩
  rotate_left 2
  ·refine kq (λσ H'=>H'=H/\∃ i:Nat,(i=b\/i=b')/\σ=[some (.str (sT L)),some (.int ((i:Nat):Int)),none,none]) (λσ _=>match σ with|[_,some (.int r),_,_]=>L.length-r.toNat|_=>0) ⟨rfl,b,.inl rfl,rfl⟩ ?_ ?_
   ·rintro σ H' ⟨rfl,i,hi,rfl⟩;refine⟨i,hi,rfl,?_⟩;by_cases aa:i=b'
    ·rw[JQ (λz=>z aa)];subst aa;refine cj ⟨_,rfl,_,rfl,_,rfl,dC (by rw[al];lia),rfl,_,rfl,?_⟩;rcases av with ⟨rfl,e⟩|⟨J,r',rfl,e,aj⟩
     ·rw[JS (by rw[al,e])];refine cg ⟨_,rfl,_,rfl,ik,λp hp=>q1 rfl p _ (cq hp) ⟨.non,?_,.non⟩⟩;rw[b6,e]
     ·obtain⟨c,y,ec,aK,aE,aF,ak⟩:=pR (hg J (by simp));have gd:=gJ (show L.drop i=c::(y++tl J r') by rw[aj,ec];rfl);have hc:L[i]? =some c:=by rw[<-gd.1,List.getD_eq_getElem?_getD,List.getElem?_eq_getElem gd.2];rfl
      have ix:iz (sT L).cps.toList ((i:Nat):Int)=some c:=cJ (j:=i) (by simpa using hc)
      have l9:(sT L).length<=sizeLine:=dC (by rw[al];lia);rw[JQ (by rw[al];intro z;injection z with z;have:=gd.2;lia)];refine cj ⟨_,rfl,_,rfl,_,_,c,rfl,rfl,l9,ix,rfl,_,rfl,?_⟩;rw[show decide (V.str ⟨#[c]⟩=V.str (JO "\""))=decide (c=34) from gN c 34];have q3:=q2 J r' rfl;rw[<-e] at q3;cases hm:kN J with
      |true=>
       rw[JS (aE hm)];have go:∀ ls:JP (JP Nat),L.drop i=34::(jn ls++34::tl J r')->(∀ w∈ls,gW w)->1<=ls.length->ls.length<=8->(g9 (ls.map sT)=mD J)->(oY J="plain")->(jn ls).length+2=(txt J).length->uf [.str (sT L),.int ((i:Nat):Int)] H' (λx H1=>∃ p y ys,x= .ref p/\cu K H1 p (y::ys)/\Q x H1) E:=λls h1 h2 h3 h4 h5 h6 h7=>by
        refine⟨L,i,ls,_,rfl,hl,h1,h2,h3,h4,λp H1 s1 hp=>?_⟩;obtain⟨v,I,ax⟩:=id hp;refine⟨p,_,_,rfl,cu.of I,q3 p H1 s1 ?_⟩;rw[h6,<-h5,<-h7];exact hp
       cases J with
       |leaf l=>
        cases l with
        |word w=>
         have hj:isJ (sT w)=true:=hm
         have et:txt (.leaf (.word w))=34::(w++[34]):=J1 hj;rw[et] at aj;exact cg ⟨_,rfl,_,rfl,go [w] (by rw[aj];show 34::(w++[34]++_)=_;rw[Kt];rfl) (λx hx=>by rw[List.mem_singleton.mp hx];exact hg (.leaf (.word w)) (by simp)) (JY 1) (J9 rfl) rfl rfl (by rw[et,JV,JU];rfl)⟩
        |start w=>cases hm
        |row ws=>
         have g:2<=ws.length/\ws.length<=8/\∀ w∈ws,gW w:=hg (.leaf (.row ws)) (by simp);exact cg ⟨_,rfl,_,rfl,go ws (by rw[aj];show 34::(jn ws++[34]++_)=_;rw[Kt];rfl) g.2.2 (by lia) g.2.1 (z7 g.1) rfl (by show _=(34::(jn ws++[34])).length;rw[JV,JU];rfl)⟩
       |near _=>cases hm
       |no=>cases hm
       |and=>cases hm
       |or=>cases hm
       |lp=>cases hm
       |rp=>cases hm
      |false=>
       rw[JQ (aF hm)];obtain⟨t1,t2,t3⟩:=aC J r' rfl hm;refine cj ⟨_,rfl,_,rfl,_,rfl,_,_,c,rfl,rfl,l9,ix,rfl,.inr ⟨_,rfl,_,_,rfl,rfl,?_⟩⟩;rw[show decide (V.str ⟨#[c]⟩=V.str (JO "~"))=decide (c=126) from gN c 126];have ee:((i:Nat):Int)+(if decide (c=126)=true then 1 else 0)=((e0+0:Nat):Int):=by
        rw[t1];cases hn:jq J with
        |true=>rw[JS (ak.mpr hn)];show(i:Int)+1=((i+1+0:Nat):Int);lia
        |false=>rw[JQ (λz=>by rw[ak.mp z] at hn;cases hn)];show(i:Int)+0=((i+0+0:Nat):Int);lia
       show g6 2 (V.int (((i:Nat):Int)+(if decide (c=126)=true then 1 else 0))) _ _ _;rw[ee];dsimp only[g6,List.set];refine kq (λσ H1=>H1=H'/\∃ j:Nat,j<=ww.length/\σ=[some (.str (sT L)),some (.int ((i:Nat):Int)),some (.int ((e0+j:Nat):Int)),none]) (λσ _=>match σ with|[_,_,some (.int r),_]=>L.length-r.toNat|_=>0) ⟨rfl,0,Ks _,rfl⟩ ?_ ?_
       ·rintro σ H1 ⟨rfl,j,hj,rfl⟩;refine⟨j,hj,rfl,?_⟩;by_cases af:j<ww.length
        ·rw[JS af];refine cg ⟨_,rfl,_,_,rfl,rfl,⟨rfl,j+1,af,rfl⟩,?_⟩;have:e0+ww.length<=L.length:=by
          have:=K9 Mw ai;rw[KH,JU] at this
          lia
         show L.length-(((e0+j:Nat):Int)+1).toNat<L.length-(((e0+j:Nat):Int)).toNat
         lia
        ·rw[JQ af];have aG:j=ww.length:=by lia
         subst aG;have aQ:e0+ww.length<=L.length:=by
          have:=K9 Mw ai;rw[KH,JU] at this
          lia
         have ay:i<=e0+ww.length:=by rw[t1];split<;>lia
         have eW:RA.sl L i (e0+ww.length)=(if jq J then [126] else [])++ww:=by
          obtain⟨sh,_,_⟩:=shape (hg J (by simp)) hm (tl J r') (λn _=>lP n r');unfold RA.sl;rw[aj,sh,<-t2,t1];cases jq J with
          |true=>
           show List.take (i+1+ww.length-i) (126::(ww++_))=126::ww;rw[show i+1+ww.length-i=ww.length+1 by lia,List.take_succ_cons,L8]
          |false=>
           show List.take (i+0+ww.length-i) (ww++_)=ww;rw[show i+0+ww.length-i=ww.length by lia,L8]
         have aH:∀ d∈(if jq J then [126] else [])++ww,gC d=true:=λd hd=>by
          rcases List.mem_append.mp hd with h|h
          ·split at h
           ·rw[List.mem_singleton.mp h];decide +kernel
           ·cases h
          ·exact m9 aw d h
         refine cj ⟨_,rfl,_,rfl,_,rfl,_,rfl,_,rfl,_,rfl,l9,rfl,_,rfl,rfl,?_,?_⟩
         ·rw[jf L ay (by lia),eW,dv,JU];split
          ·show 1+_<=_;lia
          ·show 0+_<=_;lia
         rw[jf L ay (by lia),eW,uP aH];refine⟨_,rfl,_,rfl,_,_,c,rfl,rfl,l9,ix,rfl,_,rfl,?_⟩;rw[show decide (V.str ⟨#[c]⟩=V.str (JO "~"))=decide (c=126) from gN c 126];cases hn:jq J with
         |true=>
          rw[JS (ak.mpr hn)];cases J with
          |near n=>
           have aL:n<=20:=hg (.near n) (by simp)
           have dg:=Dt n (by lia)
           have ao:Txt.slice (sT ((if true=true then [126] else [])++ww)) (some (1:Int)) none=sT (dF (n:Int)):=by
            rw[t2];exact Ax (126::dF (n:Int)) (a:=1) (by rw[JV];lia)
           have wl:(sT ((if true=true then [126] else [])++ww)).length<=sizeLine:=by
            refine dC ?_;rw[dv];show(126::ww).length<=_;rw[JV]
            lia
           refine cg ⟨_,rfl,_,rfl,_,rfl,wl,?_⟩;rw[ao];refine⟨21,rfl,by decide,by decide,rW (λm ys H3=>H3=H1/\ys=(LL m).map λn:Nat=>V.str (JO (toString (n:Int)))) (by rw[sz];decide) ⟨rfl,rfl⟩ ?_ ?_⟩
           ·rintro m ys H3 N aI ⟨rfl,rfl⟩ hN;refine g1 ?_;have aM:m<21:=aI;refine⟨_,rfl,_,rfl,?_,hN _ _ ⟨rfl,?_⟩⟩
            ·have h2:((0:Int)+(m:Nat)).natAbs<2 ^ 5:=by have:(2:Nat) ^ 5=32:=rfl;lia
             by_cases az:((0:Int)+(m:Nat)).natAbs=0
             ·rw[az];rw[Nat.log2_zero];decide
             ·exact Km ((Nat.log2_lt az).mpr h2) (by decide)
            ·rw[List.range_succ,J5];show _++[V.str (JO (toString ((0:Int)+(m:Nat))))]=_++[V.str (JO (toString ((m:Nat):Int)))];rw[OG]
           ·rintro ys H3 ⟨rfl,rfl⟩ _ p hp;have s1:bY H3 (upd H3 p (.lst ((LL 21).map λn:Nat=>V.str (JO (toString (n:Int)))))):=cq hp;have ep:upd H3 p (.lst ((LL 21).map λn:Nat=>V.str (JO (toString (n:Int))))) p=some (.lst ((LL 21).map λn:Nat=>V.str (JO (toString (n:Int))))):=b6;show ud _ false (.str (sT (dF (n:Int)))) (.ref p) (upd H3 p (.lst ((LL 21).map λn:Nat=>V.str (JO (toString (n:Int)))))) _;generalize upd H3 p (.lst ((LL 21).map λn:Nat=>V.str (JO (toString (n:Int)))))=H4 at s1 ep ⊢;refine⟨p,_,rfl,.inl (ck.of ep),rfl,dkq,_,rfl,?_⟩;show if e7 _ _=true then _ else _
            rw[dg.1];refine cg ⟨_,rfl,_,rfl,_,rfl,wl,?_⟩;rw[ao];refine⟨_,_,rfl,dg.2,by rw[dv];have:=yg n (by lia);lia,_,rfl,_,rfl,ik,λu hu=>q3 u _ (s1.trans (cq hu)) ⟨.int n,?_,.int _⟩⟩;rw[b6];have:e0+ww.length=i+(txt (.near n)).length:=by
             rw[t1,t2];show i+1+(dF (n:Int)).length=i+(126::dF (n:Int)).length;rw[JV]
             lia
            rw[this];rfl
          |leaf _=>cases hn
          |no=>cases hn
          |and=>cases hn
          |or=>cases hn
          |lp=>cases hn
          |rp=>cases hn
         |false=>
          rw[JQ (λz=>by rw[ak.mp z] at hn;cases hn)];refine cj ⟨_,rfl,_,rfl,rfl,_,rfl,?_⟩;rw[hn] at t1;have aJ:e0=i:=t1;subst aJ;have brk:J= .lp\/J= .rp->ww=[]->(oY J=⟨#[c]⟩)->(mD J= .none)->((txt J).length=1)->wI c=true->∀ p1,H1 p1=none->∀ H2,H2=upd H1 p1 (.lst [.str ⟨#[c]⟩,.str (JO "none")])->∀ p,H2 p=none->Q (.ref p) (upd H2 p (.tup [.str ⟨#[c]⟩,.non,.int ((e0:Nat):Int),.int (((e0:Nat):Int)+1)])):=λ_ _ h1 h2 h3 _ p1 I H2 eH p hp=>by
           subst eH;refine q3 p _ ((cq I).trans (cq hp)) ⟨.non,?_,by rw[h2];exact .non⟩;rw[b6,h1,h3];rfl
          by_cases ab:ww=[]
          ·have aA:J= .lp\/J= .rp:=by
            rw[t2] at ab;cases J with
            |leaf l=>
             cases l with
             |word w=>exact absurd ab (show gW w from hg (.leaf (.word w)) (by simp)).1
             |start w=>exact absurd ab (show gW w from hg (.leaf (.start w)) (by simp)).1
             |row ws=>cases hm
            |near n=>cases hn
            |no=>cases ab
            |and=>cases ab
            |or=>cases ab
            |lp=>exact .inl rfl
            |rp=>exact .inr rfl
           rw[ab,JS (by simp)];have facts:oY J=⟨#[c]⟩/\mD J= .none/\(txt J).length=1/\wI c=true:=by
            rcases aA with h|h
            ·rw[h] at ec ⊢;injection ec with ec _;rw[<-ec];exact⟨rfl,rfl,rfl,dkq⟩
            ·rw[h] at ec ⊢;injection ec with ec _;rw[<-ec];exact⟨rfl,rfl,rfl,dkq⟩
           refine cg ⟨_,rfl,_,rfl,_,_,c,rfl,rfl,l9,ix,eK,λp1 I=>⟨_,rfl,_,rfl,_,_,c,rfl,rfl,l9,ix,_,_,rfl,rfl,.inr ⟨_,rfl,?_⟩⟩⟩;rw[show(!(!(K7 (JO "()") ⟨#[c]⟩ 0 (JO "()").length 1).isEmpty))= !wI c from K9 (! ·) (Ng _ _),facts.2.2.2];refine⟨p1,_,0,.str ⟨#[c]⟩,rfl,rfl,ck.of b6,cJ (j:=0) rfl,_,rfl,_,rfl,_,_,rfl,rfl,ik,λp hp=>?_⟩;exact brk aA ab facts.1 facts.2.1 facts.2.2.1 facts.2.2.2 p1 I _ rfl p hp
          ·have wp:0<ww.length:=List.length_pos_iff.mpr ab;rw[JQ (by intro z;injection z with z;lia)];have wl:(sT L).length<=sizeLine:=l9;have ao:RA.sl L (e0+ww.length) (e0+ww.length+1)=zz.take 1:=by
            unfold RA.sl;rw[iA ai,Lj]
           refine cj ⟨_,rfl,_,rfl,_,rfl,_,rfl,_,_,rfl,rfl,((e0+ww.length+1:Nat):Int),rfl,_,rfl,l9,rfl,_,rfl,?_⟩;rw[jf L (by lia) (by lia),ao];show if decide (V.str ⟨(zz.take 1).toArray⟩=V.str (JO "*"))=true then _ else _
           rw[show decide (V.str ⟨(zz.take 1).toArray⟩=V.str (JO "*"))=decide (zz.take 1=[42]) from u7 _ [42]];have aR:(if false=true then [126] else [])++ww=ww:=rfl;have ag:zz.take 1≠[42]->isJ (sT ww)=true->oY J=sT ww->mD J= .none->(txt J).length=ww.length->∀ p1,H1 p1=none->∀ H2,H2=upd H1 p1 (.tup [.str (JO "and"),.str (JO "or"),.str (JO "not")])->∀ p,H2 p=none->Q (.ref p) (upd H2 p (.tup [.str (sT ww),.non,.int ((e0:Nat):Int),.int ((e0+ww.length:Nat):Int)])):=λ_ _ h1 h2 h3 p1 I H2 eH p hp=>by
            subst eH;refine q3 p _ ((cq I).trans (cq hp)) ⟨.non,?_,by rw[h2];exact .non⟩;rw[b6,h1,h3]
           have jc:∀(e1:ww=[110,111,116]\/ww=[97,110,100]\/ww=[111,114]),isJ (sT ww)=true:=λe1=>by rcases e1 with h|h|h<;>(rw[h];decide +kernel)
           cases J with
           |leaf l=>
            cases l with
            |start w=>
             have ez:zz=42::tl (.leaf (.start w)) r':=t3;rw[ez,JS (show(42::tl (.leaf (.start w)) r').take 1=[42] from rfl)];refine cg ⟨_,rfl,eK,λp1 I=>⟨_,rfl,_,rfl,_,_,rfl,rfl,ik,λp hp=>?_⟩⟩;refine q3 p _ ((cq I).trans (cq hp)) ⟨.ref p1,?_,?_⟩
             ·have:((e0+ww.length:Nat):Int)+1=((e0+(txt (.leaf (.start w))).length:Nat):Int):=by
               have e1:(txt (.leaf (.start w))).length=ww.length+1:=by rw[t2];show(w++[42]).length=_;rw[JU];rfl
               rw[e1]
               lia
              rw[b6,<-this];rfl
             ·have U:ww=w:=t2;rw[<-U];exact .tup ((cq hp) _ _ b6) (.cons (.str _) (.cons (.str _) .nil))
            |word w=>
             have hj:isJ (sT w)=false:=hm
             have U:ww=w:=t2
             have ae:=(kh (y:=zz) (by rw[t3];exact lP (by intro z;cases z) r')).2;rw[JQ ae];refine cj ⟨_,rfl,fH,λp1 I=>⟨p1,_,rfl,.inr (cu.of b6),rfl,rfl,_,rfl,?_⟩⟩;show if e7 (.str (sT ww)) [.str (JO "and"),.str (JO "or"),.str (JO "not")]=true then _ else _
             rw[rP,U,hj];refine cj ⟨_,rfl,eK,λp2 ax=>⟨_,rfl,_,rfl,ik,λp hp=>?_⟩⟩;refine q3 p _ (((cq I).trans (cq ax)).trans (cq hp)) ⟨.ref p2,?_,.tup ((cq hp) _ _ b6) (.cons (.str _) (.cons (.str _) .nil))⟩;have et:(txt (.leaf (.word w))).length=w.length:=by show(if isJ (sT w) then _ else w).length=_;rw[hj];rfl
             rw[b6,et];rfl
            |row ws=>cases hm
           |near n=>cases hn
           |no=>
            have U:ww=[110,111,116]:=t2
            have ae:=(kh (y:=zz) (by rw[t3];exact lP (by intro z;cases z) r')).2;rw[JQ ae];refine cj ⟨_,rfl,fH,λp1 I=>⟨p1,_,rfl,.inr (cu.of b6),rfl,rfl,_,rfl,?_⟩⟩;show if e7 (.str (sT ww)) [.str (JO "and"),.str (JO "or"),.str (JO "not")]=true then _ else _
            rw[rP,jc (.inl U)];exact cg ⟨_,rfl,_,rfl,_,rfl,ik,λp hp=>ag ae (jc (.inl U)) (by rw[U];rfl) rfl (by rw[U];rfl) p1 I _ rfl p hp⟩
           |and=>
            have U:ww=[97,110,100]:=t2
            have ae:=(kh (y:=zz) (by rw[t3];exact lP (by intro z;cases z) r')).2;rw[JQ ae];refine cj ⟨_,rfl,fH,λp1 I=>⟨p1,_,rfl,.inr (cu.of b6),rfl,rfl,_,rfl,?_⟩⟩;show if e7 (.str (sT ww)) [.str (JO "and"),.str (JO "or"),.str (JO "not")]=true then _ else _
            rw[rP,jc (.inr (.inl U))];exact cg ⟨_,rfl,_,rfl,_,rfl,ik,λp hp=>ag ae (jc (.inr (.inl U))) (by rw[U];rfl) rfl (by rw[U];rfl) p1 I _ rfl p hp⟩
           |or=>
            have U:ww=[111,114]:=t2
            have ae:=(kh (y:=zz) (by rw[t3];exact lP (by intro z;cases z) r')).2;rw[JQ ae];refine cj ⟨_,rfl,fH,λp1 I=>⟨p1,_,rfl,.inr (cu.of b6),rfl,rfl,_,rfl,?_⟩⟩;show if e7 (.str (sT ww)) [.str (JO "and"),.str (JO "or"),.str (JO "not")]=true then _ else _
            rw[rP,jc (.inr (.inr U))];exact cg ⟨_,rfl,_,rfl,_,rfl,ik,λp hp=>ag ae (jc (.inr (.inr U))) (by rw[U];rfl) rfl (by rw[U];rfl) p1 I _ rfl p hp⟩
           |lp=>exact absurd t2 ab
           |rp=>exact absurd t2 ab
       ·intro σ H' Q1 Q2 hq h;obtain⟨j,hj,e,q⟩:=h;exact⟨j,hj,e,hq _ _ q⟩
    ·rw[JS aa];have aq:i=b:=hi.resolve_right aa;subst aq;obtain⟨e1,e2,_⟩:=au.resolve_left (λz=>aa z.symm);refine cg ⟨_,rfl,_,_,rfl,rfl,⟨rfl,b',.inr rfl,?_⟩,?_⟩
     ·rw[e1];rfl
     ·show L.length-((i:Int)+1).toNat<L.length-((i:Int)).toNat
      lia
   ·intro σ H' Q1 Q2 hq h;obtain⟨i,hi,e,q⟩:=h;exact⟨i,hi,e,hq _ _ q⟩
  ·rintro σ H' Q' ⟨i,hi,rfl,q⟩;refine⟨_,rfl,_,rfl,_,rfl,dC (by rw[al];lia),_,_,rfl,rfl,_,rfl,?_⟩;rw[al];by_cases af:i<L.length
   ·rw[JS (show(i:Int)<(L.length:Int) by lia)];have hc:L[i]? =some (L.getD i 0):=by rw[List.getD_eq_getElem?_getD,List.getElem?_eq_getElem af];rfl
    refine cg ⟨_,rfl,_,rfl,_,_,L.getD i 0,rfl,rfl,dC (by rw[al];lia),cJ (j:=i) (by simpa using hc),rfl,_,rfl,?_⟩;rw[show decide (V.str ⟨#[L.getD i 0]⟩=V.str (JO " "))=decide (L.getD i 0=32) from gN _ 32];by_cases aa:i=b'
    ·rw[JQ (λz=>z aa)] at q;rw[JQ (by rw[aa];exact aB (by lia))];exact q
    ·rw[JS aa] at q;have aq:i=b:=hi.resolve_right aa;obtain⟨e1,e2,e3⟩:=au.resolve_left (λz=>aa (by rw[aq,z]));rw[JS (by rw[aq];exact e3)];exact q
   ·rw[JQ (show ¬ (i:Int)<(L.length:Int) by lia)];have aa:i=b':=by
     rcases hi with h|h
     ·rcases au with h2|⟨_,h2,_⟩
      ·lia
      ·lia
     ·exact h
    rw[JQ (λz=>z aa)] at q;exact cj q
  ·rintro σ H' Q' ⟨i,hi,rfl,q⟩;have he:e0+ww.length<=L.length:=by
    have:=K9 Mw ai;rw[KH,JU] at this
    lia
   refine⟨_,rfl,_,rfl,_,rfl,dC (by rw[al];lia),_,_,rfl,rfl,_,rfl,?_⟩;rw[al];by_cases af:e0+i<L.length
   ·rw[JS (show((e0+i:Nat):Int)<(L.length:Int) by lia)];have hc:L[e0+i]? =some (L.getD (e0+i) 0):=by rw[List.getD_eq_getElem?_getD,List.getElem?_eq_getElem af];rfl
    refine cg ⟨_,rfl,_,rfl,_,_,L.getD (e0+i) 0,rfl,rfl,dC (by rw[al];lia),cJ (j:=e0+i) (by simpa using hc),_,rfl,rfl,_,rfl,?_⟩;rw[xg];have ed:L.drop (e0+i)=ww.drop i++zz:=by rw[<-M0,ai,NG hi]
    by_cases ar:i<ww.length
    ·rw[JS ar] at q;rw[Lb ar] at ed;rw[(gJ ed).1,ym (List.all_eq_true.mp aw _ (M5 ar))];exact q
    ·rw[JQ ar] at q;rw[MD (show ww.length<=i by lia),NL] at ed;cases zz with
     |nil=>rw[List.drop_eq_nil_iff] at ed;lia
     |cons d z'=>
      rw[(gJ ed).1,aD d z' rfl];exact q
   ·rw[JQ (show ¬ ((e0+i:Nat):Int)<(L.length:Int) by lia)];rw[JQ (by lia)] at q;exact cj q
end
open RA (sl dj fq Lf Tr Tk wr brk nb Sg Ls putAll iI dP eN fM)
mutual
inductive Pl : Kf -> Prop
 |str (x : Str) : Pl (.str x)
 |int (i : Int) : Pl (.int i)
 |tup {ds : JP Kf} : oI ds -> Pl (.tuple ds)
inductive oI : JP Kf -> Prop
 |nil : oI []
 |cons {d : Kf} {ds : JP Kf} : Pl d -> oI ds -> oI (d :: ds)
end
mutual
theorem zf : ∀ {a b : Kf}, Pl a -> Pl b -> Nx a b = true -> a = b
 |_, _, .str x, .str y, h => by have : x = y := eq_of_beq h; rw[this]
 |_, _, .str x, .int i, h => by cases h
 |_, _, .str x, .tup r, h => by cases h
 |_, _, .int x, .int y, h => by have : x = y := eq_of_beq h; rw[this]
 |_, _, .int x, .str i, h => by cases h
 |_, _, .int x, .tup r, h => by cases h
 |_, _, .tup r, .str y, h => by cases h
 |_, _, .tup r, .int i, h => by cases h
 |_, _, .tup r, .tup s, h => by rw[A9 r s h]
theorem A9 : ∀ {a b : JP Kf}, oI a -> oI b -> PyData.eqvAll a b = true -> a = b
 |_, _, .nil, .nil, _ => rfl
 |_, _, .nil, .cons _ _, h => by cases h
 |_, _, .cons _ _, .nil, h => by cases h
 |_, _, .cons p r, .cons p' r', h => by
  have h' : (Nx _ _&&PyData.eqvAll _ _) = true := h;rw[Lc] at h';rw[zf p p' h'.1, A9 r r' h'.2]
end
theorem vn:∀ l:Lf,Pl (dL l)
 |.word w=> .tup (.cons (.str _) (.cons (.str _) .nil))
 |.start w=> .tup (.cons (.str _) (.cons (.str _) .nil))
 |.row ws=> .tup (.cons (.str _) (.cons (.tup (by
   induction ws with
   |nil=>exact .nil
   |cons w ws J=>exact .cons (.str _) J)) .nil))
theorem lO:∀ t:Tr,Pl (dT t)
 |.leaf l=>vn l
 |.near a b n=> .tup (.cons (.str _) (.cons (vn a) (.cons (vn b) (.cons (.int _) .nil))))
 |.both a b=> .tup (.cons (.str _) (.cons (lO a) (.cons (lO b) .nil)))
 |.either a b=> .tup (.cons (.str _) (.cons (lO a) (.cons (lO b) .nil)))
 |.no a=> .tup (.cons (.str _) (.cons (lO a) .nil))
theorem Fp{a b:Tr}(h:a≠b):Nx (dT a) (dT b)=false:=by
 cases e:Nx (dT a) (dT b) with
 |false=>rfl
 |true=>exact absurd (F6 a b (zf (lO a) (lO b) e)) h
theorem Bm(i:Int)(t:Tr):Nx (.int i) (dT t)=false:=by rw[gH];rfl
noncomputable def gb:Tr->Prop
 |.leaf l=>gL l|.near a b _=>gL a/\gL b|.both a b=>gb a/\gb b|.either a b=>gb a/\gb b|.no a=>gb a
theorem tS{w:JP Nat}(h:gW w):KW (sT w)=true:=by
 unfold KW;rw[<-Array.all_toList];refine List.all_eq_true.mpr λc J=>?_
 have:=(si (m9 h.2 c (by simpa using J))).1;exact JS (by lia)
theorem wB:∀{l:Lf},gL l->(dL l).canLay0=true
 |.word w,h=>by
  show(KW "word" && (KW (sT w)&&true))=true;rw[tS h,show KW "word"=true by decide +kernel];rfl
 |.start w,h=>by
  show(KW "start" && (KW (sT w)&&true))=true;rw[tS h,show KW "start"=true by decide +kernel];rfl
 |.row ws,h=>by
  have:∀ l:JP (JP Nat),(∀ w∈l,gW w)->LM (l.map λw=> .str (sT w))=true:=λl=>by
   induction l with
   |nil=>intro _;rfl
   |cons w l J=>
    intro h;show(KW (sT w)&&LM (l.map λw=> .str (sT w)))=true;rw[tS (h w (by simp)),J λy U=>h y (J0 _ U)];rfl
  show(KW "row" && (LM (ws.map λw=> .str (sT w))&&true))=true;rw[this ws h.2.2,show KW "row"=true by decide +kernel];rfl
theorem jY:∀{t:Tr},gb t->(dT t).canLay0=true
 |.leaf l,h=>wB h
 |.near a b n,h=>by
  show(KW "near" && ((dL a).canLay0&&((dL b).canLay0&&(true&&true))))=true;rw[wB h.1,wB h.2,show KW "near"=true by decide +kernel];rfl
 |.both a b,h=>by
  show(KW "both" && ((dT a).canLay0&&((dT b).canLay0&&true)))=true;rw[jY h.1,jY h.2,show KW "both"=true by decide +kernel];rfl
 |.either a b,h=>by
  show(KW "either" && ((dT a).canLay0&&((dT b).canLay0&&true)))=true;rw[jY h.1,jY h.2,show KW "either"=true by decide +kernel];rfl
 |.no a,h=>by
  show(KW "not" && ((dT a).canLay0&&true))=true;rw[jY (t:=a) h,show KW "not"=true by decide +kernel];rfl
theorem mh:∀{t:At},Gd t->gb t.tr
 |.word z,h=>jE (a:= .word z) rfl h
 |.start z,h=>jE (a:= .start z) rfl h
 |.row z,h=>jE (a:= .row z) rfl h
 |.near a b n,h=>⟨jE h.1.1 h.2.2.1,jE h.1.2 h.2.2.2⟩
 |.both a b,h=>⟨mh h.1,mh h.2⟩
 |.either a b,h=>⟨mh h.1,mh h.2⟩
 |.no a,h=>mh (t:=a) h
theorem JH{g:Sg}{A A':JP Tr}(h:∀ t∈A,gb t)(e:iI g A=some A'):∀ t∈A',gb t:=by
 cases g with
 |no=>
  cases A with
  |nil=>cases e
  |cons a r=>
   cases e;intro t ht;rcases List.mem_cons.mp ht with rfl|ht
   ·exact h a (by simp)
   ·exact h t (J0 _ ht)
 |lp=>cases A<;>cases e
 |both=>
  cases A with
  |nil=>cases e
  |cons y r=>
   cases r with
   |nil=>cases e
   |cons x r=>
    cases e;intro t ht;rcases List.mem_cons.mp ht with rfl|ht
    ·exact⟨h x (by simp),h y (by simp)⟩
    ·exact h t (by simp[ht])
 |either=>
  cases A with
  |nil=>cases e
  |cons y r=>
   cases r with
   |nil=>cases e
   |cons x r=>
    cases e;intro t ht;rcases List.mem_cons.mp ht with rfl|ht
    ·exact⟨h x (by simp),h y (by simp)⟩
    ·exact h t (by simp[ht])
theorem nL{n:Nat}:∀{S:JP Sg} {A A':JP Tr} {S':JP Sg},(∀ t∈A,gb t)->putAll n A S=some (A',S')->∀ t∈A',gb t
 |[],A,A',S',h,e=>by cases e;exact h
 |g::S,A,A',S',h,e=>by
  have J:(if n<=RA.bd g then (iI g A).bind λA'=>putAll n A' S else some (A,g::S))=some (A',S'):=e;split at J
  ·cases e1:iI g A with
   |none=>rw[e1] at J;cases J
   |some U=>rw[e1] at J;exact nL (JH h e1) J
  ·cases J;exact h
theorem qp{n:Nat}:∀{S:JP Sg} {A A':JP Tr} {S':JP Sg},putAll n A S=some (A',S')->A'.length<=A.length/\S'.length<=S.length
 |[],A,A',S',e=>by cases e;exact⟨JY _,JY _⟩
 |g::S,A,A',S',e=>by
  have J:(if n<=RA.bd g then (iI g A).bind λA'=>putAll n A' S else some (A,g::S))=some (A',S'):=e;split at J
  ·cases e1:iI g A with
   |none=>rw[e1] at J;cases J
   |some U=>
    rw[e1] at J;have I:=qp (A:=U) J;have:U.length<=A.length:=by
     cases g with
     |no=>cases A with|nil=>cases e1|cons a r=>cases e1;exact JY _
     |lp=>cases A<;>cases e1
     |both=>cases A with|nil=>cases e1|cons y r=>cases r with|nil=>cases e1|cons x r=>cases e1;simp
     |either=>cases A with|nil=>cases e1|cons y r=>cases r with|nil=>cases e1|cons x r=>cases e1;simp
    rw[JV]
    lia
  ·cases J;exact⟨JY _,JY _⟩
open RA (Lf Tr Tk wr brk Sg Ls putAll iI)
noncomputable def dU:Sg->Str
 |.either=>"either" |.both=>"both" |.no=>"not" |.lp=>"("
noncomputable def qv:Sg->Int
 |.either=>0|.both=>1|.no=>2|.lp=> -1
theorem Ic(g:Sg):(RA.bd g:Int)=qv g+1:=by cases g<;>rfl
noncomputable def gB(H:Hp)(g:JR)(S:JP Sg):Prop:=H g=some (.lst ((S.reverse.map dU).map V.str))
noncomputable def gR(H:Hp)(a:JR)(A:JP Tr):Prop:=mU H a (A.reverse.map dT)
noncomputable def jy:JP (Key×V):=[(.inr "either",.int 0),(.inr "both",.int 1),(.inr "not",.int 2),(.inr "(",.int (-1))]
theorem IE(x:Sg):eO jy (.inr (dU x))=some (.int (qv x)):=by cases x<;>decide +kernel
theorem Hs(x:Sg):KW (dU x)=true:=by cases x<;>exact dkq
theorem AF:∀(S:JP Sg),LM (S.map λx=> .str (dU x))=true
 |[]=>rfl
 |x::S=>by
  show(KW (dU x)&&LM (S.map λx=> .str (dU x)))=true;rw[Hs,AF S];rfl
theorem zE{l:KS}(G:Hp):∀ z:JP Str,cV l G (z.map V.str) (z.map .str)
 |[]=> .nil
 |x::z=> .cons (.str x) (zE G z)
theorem eX.trans {p q:JR}{H H1 H2:Hp}(a:eX p q H H1)(b:eX p q H1 H2):eX p q H H2:=λc u n m e=>b c u n m (a c u n m e)
theorem eX.of {p q:JR}{H H':Hp}(s:bY H H'):eX p q H H':=λ_ _ _ _ e=>s _ _ e
theorem mU.same {H H':Hp}{a:JR}{ds:JP Kf}(h:mU H a ds)(s:bY H H'):mU H' a ds:=by
 obtain⟨vs,h1,h2⟩:=h;exact⟨vs,s _ _ h1,h2.same s⟩
section
variable {P : Ka} {w : Ku} {K : J7} {mg : Str -> JW JT} {base : KP}
noncomputable def vj:Sp:=λvs H Q _=>∃(a g:JR) (i:Int) (n:Nat) (A A':JP Tr) (S J:JP Sg),vs=[.ref a,.ref g,.int i]/\i+1=(n:Int)/\a≠g/\gR H a A/\gB H g S/\A.length<=10000/\S.length<=10000/\putAll n A S=some (A',J)/\
 ∀ H',eX a g H H'->gR H' a A'->gB H' g J->Q .non H'
noncomputable abbrev Dz:JP Str:=["_law_asks","_law_signs","_law_least","_law_binds"]
theorem yK:da Dz ["_law_asks","_law_signs","_law_least"] (cG l8):=⟨rfl,rfl,rfl,dkq,rfl,dkq,dkq⟩
seal cH PS PE PT PA PG PI cT cP in
theorem AY{f fp:JR}{fd fdp:J2}(D:Df K mg "_law_put_all" l8 f fd)(DP:Df K mg "_law_put" oG fp fdp):bX P w K mg base b7 2 f fd ["_law_asks","_law_signs","_law_least"] vj:=by
 have GP:bX P w K mg base b7 1 fp fdp ["_law_asks","_law_signs"] xM:=Hj DP
 have bP:=DP.F.binds (ps:=["_law_asks","_law_signs"]) λ_ _ _ _ _ _ us hl=>eU (λ_ _=>rfl) us hl
 refine D.F.ok yK (λvs H Q E h=>?_) (λcdv A0 outer s H vs Q E hr h=>?_)
 ·obtain⟨a,g,i,n,A,A',S,S',rfl,_⟩:=h;rfl
 ·obtain⟨a,g,i,n,A,A',S,S',rfl,az,af,hA,hS,lA,lS,hp,q⟩:=h;have hu:(A0.deeper (Mz "_law_put_all" (cG l8) s.heap.objs.size f cdv)).units+1<Pc:=by have:=hr.un;lia
  have sz:sizeLine=16777216:=Kv;refine⟨_,b9 (cZ (i:=3) yK.nd rfl (Kh rfl) (CG (qV b8 bZ (qV b8 bZ (qV b8 bZ (qV b8 (lL mn bZ) B6)))) rfl rfl (by intro z;cases z) (by decide)))
   (b5 (kj KZ (PT.imp (t':=λσ H' Q'=>∃(d:JR) (S:JP Sg),σ=[some (.ref a),some (.ref g),some (.int i),some (.ref d)]/\H' d=some (.dK jy)/\gB H' g S/\S.length<=10000/\∀ ao,bY H' ao->Q' (match S with|[]=>false|x::_=>decide (i<=qv x)) ao)
     (PW.pt (hZ (cx (sO hr.units100) (pv 1) (eZ bV) (cC _)) (hU (cx Ga (BU hu (pv 3) (cK fN (pv 1) (lL mn bZ) (λ_ _=>rfl)) (λ_ _=>rfl)) (pv 2) (cC _))))) ?mC)
    (b5 (e9 (cQ GP hr rfl DP.m DP.F.kp bP .nil cz (bU (pv 0) (bU (pv 1) bV))))))),?_⟩
  rotate_left
  ·refine λd hd=>⟨_,rfl,b6,[(.inr "either",.int 0),(.inr "both",.int 1),(.inr "not",.int 2),(.inr "(",.int (-1))],rfl,by decide,?_⟩
   have em:pB [] [((.inr "either":Key),V.int 0),(.inr "both",.int 1),(.inr "not",.int 2),(.inr "(",.int (-1))]=jy:=by rfl
   rw[em];have s1:bY H (upd (upd H d (.dK [])) d (.dK jy)):=λz u ez=>by rw[cF (dM ez hd),cF (dM ez hd)];exact ez
   have ed:upd (upd H d (.dK [])) d (.dK jy) d=some (.dK jy):=b6;generalize upd (upd H d (.dK [])) d (.dK jy)=H1 at s1 ed ⊢;have aq:d≠a/\d≠g:=by
    obtain⟨us,ha,_⟩:=hA;exact⟨(λz=>by rw[z,ha] at hd;cases hd),(λz=>by rw[z,show H g=_ from hS] at hd;cases hd)⟩
   dsimp only[g6,L2.start,List.set];refine kq (λσ H'=>σ=[some (.ref a),some (.ref g),some (.int i),some (.ref d)]/\H' d=some (.dK jy)/\eX a g H H'/\∃(I:JP Tr) (S1:JP Sg),putAll n I S1=some (A',S')/\gR H' a I/\gB H' g S1/\I.length<=10000/\S1.length<=10000) (λ_ H'=>match H' g with|some (.lst xs)=>xs.length|_=>0) ⟨rfl,ed,eX.of s1,A,S,hp,hA.same s1,s1 _ _ hS,lA,lS⟩ ?_ ?_
   ·rintro σ H' ⟨rfl,ar,hB,I,S1,au,aw,aa,ag,av⟩;refine⟨d,S1,rfl,ar,aa,av,λH2 s2=>?_⟩;have ah:=aw.same s2;have ai:gB H2 g S1:=s2 _ _ aa;cases S1 with
    |nil=>
     cases au;exact cj (q H2 (hB.trans (eX.of s2)) ah ai)
    |cons x U=>
     have ab:(if n<=RA.bd x then (iI x I).bind λA'=>putAll n A' U else some (I,x::U))=some (A',S'):=au
     have aA:=Ic x;by_cases hx:n<=RA.bd x
     ·rw[J1 hx] at ab;have ax:decide (i<=qv x)=true:=JS (by lia);cases e1:iI x I with
      |none=>rw[e1] at ab;cases ab
      |some A2=>
       rw[e1] at ab;have ay:putAll n A2 U=some (A',S'):=ab;have eS:((x::U).reverse.map dU)=U.reverse.map dU++[dU x]:=by rw[Ke,J5];rfl
       have aj:H2 g=some (.lst ((U.reverse.map dU++[dU x]).map V.str)):=by rw[<-eS];exact ai
       rw[JV] at av;have fin:∀(B:JP Tr),A2=B->B.length<=10000->∀ H3,eX a g H2 H3->H3 g=some (.lst ((U.reverse.map dU).map V.str))->mU H3 a (B.reverse.map dT)->
         (([some (.ref a),some (.ref g),some (.int i),some (.ref d)]:L2.St)=[some (.ref a),some (.ref g),some (.int i),some (.ref d)]/\H3 d=some (.dK jy)/\eX a g H H3/\∃(I:JP Tr) (S1:JP Sg),putAll n I S1=some (A',S')/\gR H3 a I/\gB H3 g S1/\I.length<=10000/\S1.length<=10000)/\(match H3 g with|some (.lst xs)=>xs.length|_=>0)<(match H' g with|some (.lst xs)=>xs.length|_=>0):=λB eB lB H3 b3 J ae=>by
        subst eB;refine⟨⟨rfl,b3 _ _ aq.1 aq.2 (s2 _ _ ar),(hB.trans (eX.of s2)).trans b3,A2,U,ay,ae,J,lB,by lia⟩,?_⟩;rw[J,show H' g=_ from aa];simp
       obtain⟨us,ha,ak⟩:=ah;refine nF ax ⟨_,rfl,_,rfl,?_⟩;cases x with
       |lp=>cases I<;>cases e1
       |no=>
        cases I with
        |nil=>cases e1
        |cons y r=>
         cases e1;rw[JV] at ag;exact⟨a,g,r.reverse.map dT,_,U.reverse.map dU,_,_,rfl,af,aj,⟨us,ha,ak⟩,by rw[JX,K8,JV];lia,.inl ⟨rfl,dT y,by rw[Ke,J5];rfl,rfl⟩,λH3 b3 J ae=>fin _ rfl (by rw[JV];lia) H3 b3 J (by rw[Ke,J5];exact ae)⟩
       |both=>
        cases I with
        |nil=>cases e1
        |cons y r=>
         cases r with
         |nil=>cases e1
         |cons z r=>
          cases e1;rw[JV,JV] at ag;exact⟨a,g,r.reverse.map dT,_,U.reverse.map dU,_,_,rfl,af,aj,⟨us,ha,ak⟩,by rw[JX,K8,JV,JV];lia,.inr ⟨dkq,dT z,dT y,by rw[Ke,Ke,J5,J5];rfl,rfl⟩,λH3 b3 J ae=>fin _ rfl (by rw[JV];lia) H3 b3 J (by rw[Ke,J5];exact ae)⟩
       |either=>
        cases I with
        |nil=>cases e1
        |cons y r=>
         cases r with
         |nil=>cases e1
         |cons z r=>
          cases e1;rw[JV,JV] at ag;exact⟨a,g,r.reverse.map dT,_,U.reverse.map dU,_,_,rfl,af,aj,⟨us,ha,ak⟩,by rw[JX,K8,JV,JV];lia,.inr ⟨dkq,dT z,dT y,by rw[Ke,Ke,J5,J5];rfl,rfl⟩,λH3 b3 J ae=>fin _ rfl (by rw[JV];lia) H3 b3 J (by rw[Ke,J5];exact ae)⟩
     ·rw[if_neg hx] at ab;cases ab;exact eE (b:=decide (i<=qv x)) (JQ (by lia)) (q H2 (hB.trans (eX.of s2)) ah ai)
   ·rintro σ H' Q1 Q2 hq ⟨d,S,e1,e2,e3,e4,e5⟩;exact⟨d,S,e1,e2,e3,e4,λH2 s2=>hq _ _ (e5 H2 s2)⟩
  ·rintro σ H' Q' ⟨d,S,rfl,hd,hS,lS,q⟩;refine⟨_,rfl,Ks _,λp hp=>?_⟩;have s1:bY H' (upd H' p (.lst [])):=cq hp;have ep:upd H' p (.lst []) p=some (.lst []):=b6;have q1:=q _ s1;generalize upd H' p (.lst [])=H1 at s1 ep q1 ⊢;have aa:H1 g=_:=s1 _ _ hS;refine⟨.list ((S.reverse.map dU).map .str),.list [],(cD.lst (l:=true) rfl aa (zE _ _)).dt,(cD.lst (l:=true) rfl ep .nil).dt,?_,rfl,?_,_,rfl,?_⟩
   ·show LM ((S.reverse.map dU).map .str)=true;rw[LB];exact AF _
   ·exact Kj (LV _ _) (by decide)
   ·cases S with
    |nil=>exact cj q1
    |cons x U=>
     have eS:(((x::U).reverse.map dU).map V.str)=(U.reverse.map dU).map V.str++[.str (dU x)]:=by rw[Ke,J5,J5];rfl
     have en:(!PyData.eqv (.list (((x::U).reverse.map dU).map .str)) (.list []))=true:=by
      rw[Ke,J5,J5];cases (U.reverse.map dU).map MC<;>rfl
     rw[en];rw[eS] at aa;refine cg ⟨_,rfl,_,rfl,_,rfl,g,_,_,_,rfl,rfl,ck.of aa,zp _ _,d,_,rfl,.inl ⟨jy,.inr (dU x),.inl (s1 _ _ hd),rfl,(IE x).symm⟩,_,rfl,_,_,rfl,rfl,_,rfl,?_⟩;exact q1
end
noncomputable def kU:Lf->At
 |.word w=> .word (sT w)|.start w=> .start (sT w)|.row ws=> .row (ws.map sT)
noncomputable def atT:Tr->At
 |.leaf l=>kU l|.near a b n=> .near (kU a) (kU b) n|.both a b=> .both (atT a) (atT b)|.either a b=> .either (atT a) (atT b)|.no a=> .no (atT a)
theorem qw(l:Lf):(kU l).told=dL l:=by
 cases l with
 |word w=>rfl
 |start w=>rfl
 |row ws=>show Ld [_,.tuple ((ws.map sT).map .str)]=_;rw[LB];rfl
theorem i4:∀ t:Tr,(atT t).told=dT t
 |.leaf l=>qw l
 |.near a b n=>by show Ld [_,(kU a).told,(kU b).told,_]=_;rw[qw,qw];rfl
 |.both a b=>by show Ld [_,(atT a).told,(atT b).told]=_;rw[i4 a,i4 b];rfl
 |.either a b=>by show Ld [_,(atT a).told,(atT b).told]=_;rw[i4 a,i4 b];rfl
 |.no a=>by show Ld [_,(atT a).told]=_;rw[i4 a];rfl
noncomputable def i7:Tr->JP Tr
 |.leaf _=>[]|.near a b _=>[.leaf a,.leaf b]|.both a b=>[a,b]|.either a b=>[a,b]|.no a=>[a]
noncomputable def dZ:Tr->Nat
 |.leaf _=>1|.near _ _ _=>3|.both a b=>1+(dZ a+dZ b)|.either a b=>1+(dZ a+dZ b)|.no a=>1+dZ a
theorem HH(t:Tr):(atT t).kids.map At.told=(i7 t).map dT:=by
 cases t with
 |leaf l=>cases l<;>rfl
 |near a b n=>show [(kU a).told,(kU b).told]=[dL a,dL b];rw[qw,qw]
 |both a b=>show [(atT a).told,(atT b).told]=[dT a,dT b];rw[i4,i4]
 |either a b=>show [(atT a).told,(atT b).told]=[dT a,dT b];rw[i4,i4]
 |no a=>show [(atT a).told]=[dT a];rw[i4]
theorem kids_many(t:Tr):dZ t=1+((i7 t).map dZ).sum:=by
 cases t with
 |leaf l=>rfl
 |near a b n=>rfl
 |both a b=>show 1+(dZ a+dZ b)=1+(dZ a+(dZ b+0));lia
 |either a b=>show 1+(dZ a+dZ b)=1+(dZ a+(dZ b+0));lia
 |no a=>show 1+dZ a=1+(dZ a+0);lia
theorem kids_dep{t k:Tr}(h:k∈i7 t):k.dep+1<=t.dep:=by
 cases t with
 |leaf l=>cases h
 |near a b n=>
  have h':k∈[Tr.leaf a,.leaf b]:=h;simp only[L5,LW,N4] at h';rcases h' with rfl|rfl<;>exact JY 1
 |both a b=>
  have h':k∈[a,b]:=h;simp only[L5,LW,N4] at h';show _<=max a.dep b.dep+1;rcases h' with rfl|rfl<;>lia
 |either a b=>
  have h':k∈[a,b]:=h;simp only[L5,LW,N4] at h';show _<=max a.dep b.dep+1;rcases h' with rfl|rfl<;>lia
 |no a=>rw[List.mem_singleton.mp (show k∈[a] from h)];exact JY _
theorem Bs{t k:Tr}(g:gb t)(h:k∈i7 t):gb k:=by
 cases t with
 |leaf l=>cases h
 |near a b n=>
  have h':k∈[Tr.leaf a,.leaf b]:=h;simp only[L5,LW,N4] at h';rcases h' with rfl|rfl
  ·exact g.1
  ·exact g.2
 |both a b=>
  have h':k∈[a,b]:=h;simp only[L5,LW,N4] at h';rcases h' with rfl|rfl
  ·exact g.1
  ·exact g.2
 |either a b=>
  have h':k∈[a,b]:=h;simp only[L5,LW,N4] at h';rcases h' with rfl|rfl
  ·exact g.1
  ·exact g.2
 |no a=>rw[List.mem_singleton.mp (show k∈[a] from h)];exact g
theorem Et(t:Tr):(i7 t).length<=2:=by cases t<;>exact J9 rfl
noncomputable def wD(x:Tr×Nat):Kf:= .tuple [dT x.1,.int (x.2:Nat)]
theorem xn:∀{W:JP (Tr×Nat)},(∀ x∈W,gb x.1)->LM (W.map wD)=true
 |[],_=>rfl
 |x::W,h=>by
  show(((dT x.1).canLay0&&(true&&true))&&LM (W.map wD))=true;rw[jY (h x (by simp)),xn λy J=>h y (J0 _ J)];rfl
noncomputable def WT(H:Hp)(q:JR)(y:Tr×Nat):Prop:=∃ v,H q=some (.tup [v,.int ((y.2:Nat):Int)])/\cD false H v (dT y.1)
theorem WT.tt {H H':Hp}{q:JR}{y:Tr×Nat}(h:WT H q y)(t:TT H H'):WT H' q y:=by
 obtain⟨v,h1,h2⟩:=h;exact⟨v,t _ _ h1,h2.tups t⟩
theorem AS{H:Hp}:∀{qs:JP JR} {W:JP (Tr×Nat)},Lo (WT H) qs W->cV true H (qs.map V.ref) (W.map wD)
 |_,_,.nil=> .nil
 |_,_,.cons h r=>by
  obtain⟨v,h1,h2⟩:=h;exact .cons (.tup h1 (.cons h2.any (.cons (.int _) .nil))) (AS r)
theorem y0{α β:Type}{F:α->β->Prop}:∀{m:JP β} {l:JP α} {b:β},Lo F l (m++[b])->∃ l' a,l=l'++[a]/\Lo F l' m/\F a b
 |[],_,_,.cons h .nil=>⟨[],_,rfl,.nil,h⟩
 |_::m,_,_,.cons h r=>by
  obtain⟨l',a,rfl,r1,r2⟩:=y0 (m:=m) r;exact⟨_::l',a,rfl,.cons h r1,r2⟩
theorem sY{α β:Type}{F:α->β->Prop}:∀{l l':JP α} {m m':JP β},Lo F l m->Lo F l' m'->Lo F (l++l') (m++m')
 |_,_,_,_,.nil,h=>h
 |_,_,_,_,.cons h r,g=> .cons h (sY r g)
theorem kP{α β:Type}{F G:α->β->Prop}(i:∀ a b,F a b->G a b):∀{l:JP α} {m:JP β},Lo F l m->Lo G l m
 |_,_,.nil=> .nil
 |_,_,.cons h r=> .cons (i _ _ h) (kP i r)
theorem vS{H:Hp}:∀{xs:JP V} {ds:JP Kf},cV false H xs ds->∀{i:Nat} {x:V},xs[i]? =some x->∃ d,ds[i]? =some d/\cD false H x d
 |_,_,.nil,i,x,h=>by cases h
 |_,_,.cons h r,0,x,e=>⟨_,rfl,by have:=Kg e;rw[<-this];exact h⟩
 |_,_,.cons h r,i+1,x,e=>vS r e
section
variable {P : Ka} {w : Ku} {K : J7} {mg : Str -> JW JT} {base : KP}
noncomputable def yd:Sp:=λvs H Q _=>∃(x:V) (t:Tr),vs=[x]/\cD false H x (dT t)/\gb t/\∀ b H',bY H H'->(t.dep<=7->dZ t<=40->b=true)->Q (.bl b) H'
noncomputable abbrev yQ:JP Str:=["_law_told","_law_waiting","_law_many","_law_one","_law_deep"]
theorem pJ:da yQ ["_law_told"] (cG nM):=⟨rfl,rfl,rfl,dkq,rfl,dkq,dkq⟩
theorem CQ:(["_law_kid","_law_deep"]:JP Str).Nodup:=dkq
seal cH PS PE PT PA PG PI cT cP in
theorem Dr{f fk:JR}{fd fdk:J2}(D:Df K mg "_law_fits" nM f fd)(DK:Df K mg "_law_kids" kQ fk fdk):bX P w K mg base b7 2 f fd ["_law_told"] yd:=by
 have GK:bX P w K mg base b7 1 fk fdk ["_law_told"] sU:=wK DK
 have bK:=dY (p:="_law_told") DK.F λ_ _ _ _ _ _ _=>rfl
 refine D.F.ok pJ (λvs H Q E h=>?_) (λcdv A0 outer s H vs Q E hr h=>?_)
 ·obtain⟨x,t,rfl,_⟩:=h;rfl
 ·obtain⟨x,t,rfl,hx,hg,q⟩:=h;have sz:sizeLine=16777216:=Kv;refine⟨_,b9 (ye (i:=1) (j:=2) rfl pJ.nd rfl rfl (by decide) rfl rfl (bU (eZ (bU (dm (bU (pv 0) (bU bZ bV))) bV)) (bU bZ bV)) rfl)
   (b9 (kj KZ (cx (sO hr.units100) (pv 1) (eZ bV) (cC _))
    (b9 (vW (iR Kp LP L4 j8 (pv 1)) (qI (n:=2) rfl (iK (eY (i:=3) pJ.nd rfl (Kh rfl)) (iK (eY (i:=4) pJ.nd rfl (Pb rfl)) pH))))
    (b9 (cZ (i:=2) pJ.nd rfl (Kh rfl) (cA eD (pv 2) bZ))
    (b9 (cM (PW.pt (gu (cx iH (pv 4) bZ (cC _)) (ig (cx iH (pv 2) bZ (cC _))))) (b5 (cy ij)) cX)
    (b5 (e9 (f7 Kp F.slot_list_extend F.type_list_extend ID (pv 1) (bU (jF (own:=1) (caps:=[4]) (N:=["_law_kid","_law_deep"]) (N0:=yQ) (sc0:=cG nM) rfl (pj (cQ GK hr rfl DK.m DK.F.kp bK .nil cz (bU (pv 3) bV))) (λ_ _ _=>eY (i:=0) CQ rfl (Kh rfl)) (λ_ _ _=>i9)
      (λ_ _ _=>dm (bU (pv 0) (bU (cA eD (pv 1) bZ) bV))) (iX (by decide)) rfl rfl dkq rfl dkq dkq rfl dkq) bV))))))))
   (b5 (cy ij))),?_⟩;refine⟨_,rfl,eK,λp1 ai=>⟨eh,λl hl=>⟨_,_,rfl,?_⟩⟩⟩;have aj:H l=none:=by
   cases e:H l with
   |none=>rfl
   |some u=>rw[(cq ai) _ _ e] at hl;cases hl
  have s1:bY H (upd (upd H p1 (.tup [x,.int 1])) l (.lst [.ref p1])):=(cq ai).trans (cq hl)
  have e1:upd (upd H p1 (.tup [x,.int 1])) l (.lst [.ref p1]) l=some (.lst [.ref p1]):=b6
  have e2:upd (upd H p1 (.tup [x,.int 1])) l (.lst [.ref p1]) p1=some (.tup [x,.int 1]):=(cq hl) _ _ b6
  show kC _ _ _ [some x,some (.ref l),some (.int 0),none,none] (upd (upd H p1 (.tup [x,.int 1])) l (.lst [.ref p1]));generalize upd (upd H p1 (.tup [x,.int 1])) l (.lst [.ref p1])=H1 at s1 e1 e2 ⊢;refine kq (λσ H'=>∃(W:JP (Tr×Nat)) (qs:JP JR) (m:Nat) (o3 o4:JW V),σ=[some x,some (.ref l),some (.int ((m:Nat):Int)),o3,o4]/\bY H H'/\H' l=some (.lst (qs.map V.ref))/\Lo (WT H') qs W/\(∀ y∈W,gb y.1)/\m<=40/\W.length<=m+1/\
   (t.dep<=7->dZ t<=40->(W.map λy=>dZ y.1).sum+m<=40/\∀ y∈W,y.2+y.1.dep<=8)) (λσ _=>match σ with|[_,_,some (.int r),_,_]=>41-r.toNat|_=>0) ⟨[(t,1)],[p1],0,none,none,rfl,s1,e1,.cons ⟨x,e2,hx.same s1⟩ .nil,(λy hy=>by rw[List.mem_singleton.mp hy];exact hg),by decide,JY 1,λh1 h2=>⟨by show dZ t+0+0<=40;lia,λy hy=>by rw[List.mem_singleton.mp hy];show 1+t.dep<=8;lia⟩⟩ ?_ ?_
  ·rintro σ H' ⟨W,qs,m,o3,o4,rfl,sm,hL,hP,hG,hm,hW,J⟩;refine⟨_,rfl,Ks _,λp hp=>?_⟩;have s2:bY H' (upd H' p (.lst [])):=cq hp;have ep:upd H' p (.lst []) p=some (.lst []):=b6;generalize upd H' p (.lst [])=H2 at s2 ep ⊢;have ak:=s2 _ _ hL;have aa:Lo (WT H2) qs W:=kP (λ_ _ h=>h.tt (TT.of s2)) hP;have ao:=sm.trans s2;have ql:=M8 aa;refine⟨.list (W.map wD),.list [],(cD.lst (l:=true) rfl ak (AS aa)).dt,(cD.lst (l:=true) rfl ep .nil).dt,xn hG,rfl,Kj (LV _ _) (by decide),_,rfl,?_⟩;rcases List.eq_nil_or_concat W with rfl|⟨W0,y,rfl⟩
   ·exact cj (q true H2 ao λ_ _=>rfl)
   ·rw[List.concat_eq_append] at aa hG hW J ql ⊢;have en:(!PyData.eqv (.list ((W0++[y]).map wD)) (.list []))=true:=by
     rw[J5];cases W0.map wD<;>rfl
    rw[en];obtain⟨U,u,rfl,ax,v,hu,hv⟩:=y0 aa;have ae:H2 l=some (.lst (U.map V.ref++[.ref u])):=by rw[ak,J5];rfl
    have dl:(U.map V.ref++[V.ref u]).dropLast=U.map V.ref:=Ln;refine cg ⟨_,rfl,.inl ⟨rfl,_,ck.of ae⟩,l,_,_,rfl,rfl,ae,ke,?_⟩;rw[dl];have t3:TT H2 (upd H2 l (.lst (U.map V.ref))):=λb xs e=>by rw[cF (λz=>by rw[z,ae] at e;cases e)];exact e
    have ab:bY H (upd H2 l (.lst (U.map V.ref))):=kH ao aj
    have af:upd H2 l (.lst (U.map V.ref)) l=some (.lst (U.map V.ref)):=b6;generalize upd H2 l (.lst (U.map V.ref))=H3 at t3 ab af ⊢;have aq:Lo (WT H3) U W0:=kP (λ_ _ h=>h.tt t3) ax;have ay:=hv.tups t3;refine⟨u,_,rfl,cu.of (t3 _ _ hu),rfl,_,_,rfl,_,_,rfl,rfl,?_⟩;refine⟨_,rfl,_,_,rfl,rfl,_,rfl,_,_,rfl,rfl,_,rfl,?_⟩;have gy:gb y.1:=hG y (by simp);have good2:t.dep<=7->dZ t<=40->y.2<=8/\m+1<=40:=λh1 h2=>by
     obtain⟨g1,g2⟩:=J h1 h2;have:=g2 y (by simp);rw[J5,NK] at g1;have:dZ y.1=1+_:=kids_many y.1;have g3:(([y].map λy=>dZ y.1)).sum=dZ y.1:=by show dZ y.1+0=_;lia
     lia
    by_cases h8:(8:Int)<((y.2:Nat):Int)
    ·rw[JS h8];exact cg (cg (q false H3 ab λh1 h2=>absurd (good2 h1 h2).1 (by lia)))
    ·rw[JQ h8];refine cj ⟨_,rfl,_,_,rfl,rfl,_,rfl,?_⟩;by_cases ar:(40:Int)<((m:Nat):Int)+1
     ·rw[JS ar];exact cg (q false H3 ab λh1 h2=>absurd (good2 h1 h2).2 (by lia))
     ·rw[JQ ar];refine cj ⟨_,rfl,.inl ⟨rfl,_,ck.of af⟩,_,rfl,v,atT y.1,rfl,by rw[i4];exact ay,λl2 xs H4 s4 aE au ag=>⟨l2,rfl,⟨_,ck.of au⟩,?_⟩⟩;rw[HH] at ag;have xl:xs.length=(i7 y.1).length:=by rw[ag.len,JX]
      have k2:=Et y.1
      have az:=s4 _ _ af;refine rC (xs:=xs) (λi ys G=>bY H4 G/\∃ us,ys=us.map V.ref/\Lo (WT G) us (((i7 y.1).take i).map λz=>(z,y.2+1))) (by lia) (λj zs G q=>ck.of (q.1 _ _ au)) ⟨bY.refl _,[],rfl,.nil⟩ ?_ ?_
      ·rintro i kv ys G N aA ⟨sg,us,rfl,I⟩ hN;obtain⟨d,ed,pd⟩:=vS ag aA;rw[List.getElem?_map] at ed;cases ek:(i7 y.1)[i]? with
       |none=>rw[ek] at ed;cases ed
       |some kt=>
        rw[ek] at ed;have aB:dT kt=d:=Kg ed;refine g1 ?_;refine⟨_,rfl,_,rfl,_,_,rfl,rfl,eK,λu2 ah=>hN _ _ ⟨sg.trans (cq ah),us++[u2],by rw[J5];rfl,?_⟩⟩;rw[Lk,ek,J5];refine sY (kP (λ_ _ h=>h.tt (TT.of (cq ah))) I) (.cons ⟨kv,?_,?_⟩ .nil)
        ·rw[b6];rfl
        ·rw[<-aB] at pd;exact(pd.same sg).same (cq ah)
      ·rintro ys G ⟨sg,us,rfl,I⟩ _ r aC;rw[xl,Mq] at I;have s5:bY G (upd G r (.lst (us.map V.ref))):=cq aC;have er:upd G r (.lst (us.map V.ref)) r=some (.lst (us.map V.ref)):=b6;generalize upd G r (.lst (us.map V.ref))=H5 at s5 er ⊢;have av:=s5 _ _ (sg _ _ az);have ul:=M8 I;rw[JX] at ul;rw[JU] at hW;have aD:=M8 aq;refine⟨l,r,_,_,rfl,rfl,av,er,by rw[JX,JX,sz,aD,ul];show _<=_;simp at hW;lia,?_⟩;have t6:TT H5 (upd H5 l (.lst (U.map V.ref++us.map V.ref))):=λb xs e=>by rw[cF (λz=>by rw[z,av] at e;cases e)];exact e
       have aw:=(s4.trans sg).trans s5;refine⟨⟨W0++(i7 y.1).map λz=>(z,y.2+1),U++us,m+1,_,_,rfl,kH (ab.trans aw) aj,by rw[b6,J5],sY (kP (λ_ _ h=>h.tt ((TT.of aw).trans t6)) aq) (kP (λ_ _ h=>h.tt ((TT.of s5).trans t6)) I),?_,by lia,?_,?_⟩,?_⟩
       ·intro z hz;rcases List.mem_append.mp hz with h|h
        ·exact hG z (by simp[h])
        ·obtain⟨kt,hk,rfl⟩:=List.mem_map.mp h;exact Bs gy hk
       ·rw[JU,JX];simp at hW
        lia
       ·intro h1 h2;obtain⟨g1,g2⟩:=J h1 h2;refine⟨?_,λz hz=>?_⟩
        ·rw[J5,NK] at g1 ⊢;have:=kids_many y.1;have g3:(([y].map λy=>dZ y.1)).sum=dZ y.1:=by show dZ y.1+0=_;lia
         have g4:(((i7 y.1).map λz=>(z,y.2+1)).map λy=>dZ y.1)=(i7 y.1).map dZ:=by rw[LB];rfl
         rw[g4]
         lia
        ·rcases List.mem_append.mp hz with h|h
         ·exact g2 z (by simp[h])
         ·obtain⟨kt,hk,rfl⟩:=List.mem_map.mp h;have:=kids_dep hk;have:=g2 y (by simp);show y.2+1+kt.dep<=8
          lia
       ·show 41-(((m:Nat):Int)+1).toNat<41-(((m:Nat):Int)).toNat
        lia
  ·intro σ H' Q1 Q2 hq h;obtain⟨x,h1,h2,h3⟩:=h;refine⟨x,h1,h2,λp hp=>?_⟩;obtain⟨a1,a2,a3,a4,a5,a6,a7,b,e,q⟩:=h3 p hp;exact⟨a1,a2,a3,a4,a5,a6,a7,b,e,hq _ _ q⟩
end
open RA (Lf Tr Tk wr brk Sg Ls Sm putAll iI cnt)
noncomputable def gj:JW Tk->Str
 |none=>"end" |some k=>oY k
noncomputable def fS:Sm->Str
 |.first=>"first" |.plain=>"plain" |.more=>"more" |.near _=>"near"
noncomputable def cY:JW Tk->Nat
 |none=>0|some (.leaf _)=>1|some (.near _)=>2|some .no=>3|some .and=>4|some .or=>5|some .lp=>6|some .rp=>7
noncomputable def kR(n:Nat):Str:=(["end","plain","near","not","and","or","(",")"]:JP Str).getD n "x"
theorem jx(k:JW Tk):gj k=kR (cY k)/\cY k<8:=by
 cases k with
 |none=>exact⟨rfl,J9 rfl⟩
 |some k=>cases k<;>exact⟨rfl,J9 rfl⟩
theorem IF:∀ i<8,∀ j<8,decide (V.str (kR i)=V.str (kR j))=decide (i=j):=dkq
theorem jS(k:JW Tk){j:Nat}(hj:j<8):decide (V.str (gj k)=V.str (kR j))=decide (cY k=j):=by rw[(jx k).1];exact IF _ (jx k).2 _ hj
theorem xk(S:JP Sg):(S.reverse.map dU).count (JO "(")=cnt S:=by
 have:∀ l:JP Sg,(l.map dU).count (JO "(")=l.count .lp:=λl=>by
  induction l with
  |nil=>rfl
  |cons x l J=>
   rw[KU,Nd,Nd,J];cases x<;>first|rfl|(show _+(if (_==_)=true then 1 else 0)=_+(if (_==_)=true then 1 else 0);congr 1)
 rw[this,List.count_reverse];rfl
noncomputable def kX(H:Hp)(p:JR)(k:JW Tk)(b e:Nat):Prop:=tE H p (gj k) (mH k) b e
theorem AN{H:Hp}{a:JR}{A:JP Tr}{v:V}{t:Tr}(h:gR H a A)(hv:cD false H v (dT t)):∃ vs,H a=some (.lst vs)/\vs.length=A.length/\gR (upd H a (.lst (vs++[v]))) a (t::A):=by
 obtain⟨vs,h1,h2⟩:=h;refine⟨vs,h1,by rw[h2.len,JX,K8],vs++[v],b6,?_⟩;have tt:∀ b xs,H b=some (.tup xs)->upd H a (.lst (vs++[v])) b=some (.tup xs):=λb xs e=>by rw[cF (λz=>by rw[z,h1] at e;cases e)];exact e
 rw[Ke,J5];exact(h2.tups tt).snoc (hv.tups tt)
theorem wR{H:Hp}{g:JR}{S:JP Sg}(h:gB H g S)(x:Sg):gB (upd H g (.lst (((S.reverse.map dU).map V.str)++[.str (dU x)]))) g (x::S):=by
 unfold gB;rw[b6,Ke,J5,J5];rfl
theorem gR.but {H H':Hp}{a g:JR}{A:JP Tr}{xs:JP V}(h:gR H a A)(hne:a≠g)(hg:H g=some (.lst xs))(b:∀ c u,c≠g->H c=some u->H' c=some u):gR H' a A:=by
 obtain⟨vs,h1,h2⟩:=h;exact⟨vs,b _ _ hne h1,h2.tups λc ys e=>b _ _ (λz=>by rw[z,hg] at e;cases e) e⟩
section
variable {P : Ka} {w : Ku} {K : J7} {mg : Str -> JW JT} {base : KP}
noncomputable def qF(A:JP Tr)(S:JP Sg):JW Tk->JW Ls
 |none=>none|some k=>RA.lI A S k
noncomputable def xF(a g:JR)(H:Hp)(Q:VK):JW Ls->Prop
 |none=>∀ H',eX a g H H'->Q (.str (JO "")) H'
 |some s=>∀ H',eX a g H H'->gR H' a s.A->gB H' g s.S->Q (.str (fS s.st)) H'
noncomputable def yr:Sp:=λvs H Q _=>∃(a g p:JR) (A:JP Tr) (S:JP Sg) (k:JW Tk) (b e:Nat),vs=[.ref a,.ref g,.ref p]/\a≠g/\kX H p k b e/\gR H a A/\gB H g S/\A.length<=10000/\S.length<=10000/\xF a g H Q (qF A S k)
noncomputable abbrev jZ:JP Str:=["_law_asks","_law_signs","_law_piece_here"]
theorem Gr:da jZ jZ (cG qO):=⟨rfl,rfl,rfl,dkq,rfl,dkq,dkq⟩
seal cH PS PE PT PA PG PI cT cP in
theorem JE{f:JR}{fd:J2}(D:Df K mg "_law_first" qO f fd):bX P w K mg base b7 1 f fd jZ yr:=by
 refine D.F.ok Gr (λvs H Q E h=>?_) (λcdv A0 outer s H vs Q E hr h=>?_)
 ·obtain⟨a,g,p,A,S,k,b,e,rfl,_⟩:=h;rfl
 ·obtain⟨a,g,p,A,S,k,b,e,rfl,I,⟨v,hp,hv⟩,hA,hS,lA,lS,q⟩:=h;have sz:sizeLine=16777216:=Kv;have J:H g=_:=hS;have sl:((S.reverse.map dU).map V.str).length=S.length:=by rw[JX,JX,K8]
  refine⟨_,b9 (cM (cx cU (cK dS (pv 2) bZ (λ_ _=>rfl)) b8 (cC _)) (b9 (e9 (f7 Kp KO K6 iM (pv 0) (bU (cK dS (pv 2) bZ (λ_ _=>rfl)) bV))) (b5 (cy b8))) cX)
   (b9 (cM (PT.imp (t':=λσ H' Q'=>σ=[some (.ref a),some (.ref g),some (.ref p)]/\H'=H/\Q' (decide ((cY k=6/\cnt S<12)\/cY k=3)) H') (PW.pt (gu (PW.pt (hZ (cx cU (cK dS (pv 2) bZ (λ_ _=>rfl)) b8 (cC _)) (hU (cx iS (f7 Kp Nq Nr qX (pv 1) (bU b8 bV)) bZ (cC _))))) (ig (cx cU (cK dS (pv 2) bZ (λ_ _=>rfl)) b8 (cC _))))) ?mC)
    (b9 (e9 (f7 Kp KO K6 iM (pv 1) (bU (cK dS (pv 2) bZ (λ_ _=>rfl)) bV))) (b5 (cy b8))) cX)
   (b5 (cy b8))),?_⟩;have i0:∀ H',H' p=some (.tup [.str (gj k),v,.int ((b:Nat):Int),.int ((e:Nat):Int)])->cu K H' p [.str (gj k),v,.int ((b:Nat):Int),.int ((e:Nat):Int)]:=λ_ h=>cu.of h
  rotate_left
  ·refine⟨_,rfl,p,_,0,_,rfl,rfl,cu.of hp,cJ (j:=0) rfl,rfl,_,rfl,?_⟩;rw[show decide (V.str (gj k)=V.str (JO "plain"))=decide (cY k=1) from jS k (j:=1) (by decide)];have push:∀ x:Sg,gj k=dU x->qF A S k=some ⟨A,x::S,.first⟩->∃ x0,(some (.ref g):JW V)=some x0/\O3:=λ_ _ _=>⟨_,rfl,trivial⟩
   by_cases h1:cY k=1
   ·rw[JS h1];obtain⟨l,rfl⟩:∃ l,k=some (.leaf l):=by
     cases k with
     |none=>cases h1
     |some k=>cases k<;>first|exact⟨_,rfl⟩|cases h1
    obtain⟨vs,ha,vl,hn⟩:=AN (t:= .leaf l) hA hv;refine cg ⟨_,rfl,.inl ⟨rfl,_,ck.of ha⟩,_,rfl,p,_,1,_,rfl,rfl,cu.of hp,cJ (j:=1) rfl,a,_,_,rfl,rfl,ha,by rw[sz];lia,?_⟩;exact q _ (λc u n1 n2 e=>by rw[cF n1];exact e) hn (by show upd H a _ g=_;rw[cF (K5 I)];exact hS)
   ·rw[JQ h1];refine cj ⟨rfl,rfl,?_⟩;have aa:∀ x:Sg,gj k=dU x->qF A S k=some ⟨A,x::S,.first⟩->Q (.str (JO "first")) (upd H g (.lst (((S.reverse.map dU).map V.str)++[.str (gj k)]))):=λx e1 e2=>by
     rw[e2] at q;rw[e1];exact q _ (λc u n1 n2 e=>by rw[cF n2];exact e) (hA.but I J λc u n e=>by rw[cF n];exact e) (wR hS x)
    by_cases h2:(cY k=6/\cnt S<12)\/cY k=3
    ·rw[JS h2];refine cg ⟨_,rfl,.inl ⟨rfl,_,ck.of J⟩,_,rfl,p,_,0,_,rfl,rfl,cu.of hp,cJ (j:=0) rfl,g,_,_,rfl,rfl,J,by rw[sz];lia,?_⟩;rcases h2 with ⟨h2,h3⟩|h2
     ·have ek:k=some .lp:=by
       cases k with
       |none=>cases h2
       |some k=>cases k<;>first|rfl|cases h2
      subst ek;exact aa .lp rfl (by show(if cnt S<12 then _ else _)=_;rw[J1 h3])
     ·have ek:k=some .no:=by
       cases k with
       |none=>cases h2
       |some k=>cases k<;>first|rfl|cases h2
      subst ek;exact aa .no rfl rfl
    ·rw[JQ h2];have en:qF A S k=none:=by
      cases k with
      |none=>rfl
      |some k=>
       cases k with
       |leaf l=>exact absurd rfl h1
       |lp=>show(if cnt S<12 then _ else _)=_;rw[if_neg (λz=>h2 (.inl ⟨rfl,z⟩))]
       |no=>exact absurd (.inr rfl) h2
       |near n=>rfl
       |and=>rfl
       |or=>rfl
       |rp=>rfl
     rw[en] at q;exact cj (q H λc u _ _ e=>e)
  ·rintro σ H' Q' ⟨rfl,rfl,U⟩;refine⟨_,rfl,p,_,0,_,rfl,rfl,cu.of hp,cJ (j:=0) rfl,rfl,_,rfl,?_⟩;rw[show decide (V.str (gj k)=V.str (JO "("))=decide (cY k=6) from jS k (j:=6) (by decide)];have last:cY k≠6\/¬ cnt S<12->∃ x0,([some (.ref a),some (.ref g),some (.ref p)]:L2.St)[2]? =some (some x0)/\O3:=λ_=>⟨_,rfl,trivial⟩
   by_cases h6:cY k=6
   ·rw[JS h6];refine cg ⟨_,rfl,.inl ⟨rfl,_,ck.of J⟩,g,S.reverse.map dU,_,rfl,rfl,ck.of J,_,_,rfl,rfl,_,rfl,?_⟩;rw[xk];by_cases ab:cnt S<12
    ·rw[JS (show((cnt S:Nat):Int)<12 by lia)];rw[JS (.inl ⟨h6,ab⟩)] at U;exact cg U
    ·rw[JQ (show ¬ ((cnt S:Nat):Int)<12 by lia)];refine cj ⟨_,rfl,p,_,0,_,rfl,rfl,cu.of hp,cJ (j:=0) rfl,rfl,_,rfl,?_⟩;rw[show decide (V.str (gj k)=V.str (JO "not"))=decide (cY k=3) from jS k (j:=3) (by decide)];have:decide ((cY k=6/\cnt S<12)\/cY k=3)=decide (cY k=3):=by simp[ab]
     rw[this] at U;exact U
   ·rw[JQ h6];refine cj (cj ⟨_,rfl,p,_,0,_,rfl,rfl,cu.of hp,cJ (j:=0) rfl,rfl,_,rfl,?_⟩);rw[show decide (V.str (gj k)=V.str (JO "not"))=decide (cY k=3) from jS k (j:=3) (by decide)];have:decide ((cY k=6/\cnt S<12)\/cY k=3)=decide (cY k=3):=by simp[h6]
    rw[this] at U;exact U
end
noncomputable def oJ(A:JP Tr)(S:JP Sg):JW Tk->JW Ls
 |none=>none
 |some (.near _)=>none
 |some .rp=>if 0<cnt S then (putAll 1 A S).bind λq=>match q.2 with|_::J=>some ⟨q.1,J,.more⟩|[]=>none else none
 |some .or=>(putAll 1 A S).bind λq=>some ⟨q.1,.either::q.2,.first⟩
 |some _=>(putAll 2 A S).bind λq=>some ⟨q.1,.both::q.2,.first⟩
theorem C7:∀ n<8,e7 (.str (kR n)) [.str (JO "plain"),.str (JO "("),.str (JO "not"),.str (JO "and"),.str (JO "or")]=decide (n=1\/n=6\/n=3\/n=4\/n=5):=dkq
section
variable {P : Ka} {w : Ku} {K : J7} {mg : Str -> JW JT} {base : KP}
noncomputable def xP:Sp:=λvs H Q _=>∃(a g p:JR) (A:JP Tr) (S:JP Sg) (k:JW Tk) (b e:Nat) (J U:JP Tr×JP Sg),vs=[.ref a,.ref g,.ref p]/\a≠g/\kX H p k b e/\gR H a A/\gB H g S/\A.length<=9000/\S.length<=9000/\putAll 1 A S=some J/\putAll 2 A S=some U/\(0<cnt S->J.2≠[])/\xF a g H Q (oJ A S k)
noncomputable abbrev D2:JP Str:=["_law_asks","_law_signs","_law_piece_here","_law_sign"]
theorem zZ:da D2 jZ (cG p7):=⟨rfl,rfl,rfl,dkq,rfl,dkq,dkq⟩
seal cH PS PE PT PA PG PI cT cP in
theorem BX{f fa fp:JR}{fd fda fdp:J2}(D:Df K mg "_law_joined" p7 f fd)(DA:Df K mg "_law_put_all" l8 fa fda)(DP:Df K mg "_law_put" oG fp fdp)(T:Txt mg):bX P w K mg base b7 3 f fd jZ xP:=by
 have GA:bX P w K mg base b7 2 fa fda ["_law_asks","_law_signs","_law_least"] vj:=AY DA DP
 have bA:=DA.F.binds (ps:=["_law_asks","_law_signs","_law_least"]) λ_ _ _ _ _ _ us hl=>jD (λ_ _ _=>rfl) us hl
 refine D.F.ok zZ (λvs H Q E h=>?_) (λcdv A0 outer s H vs Q E hr h=>?_)
 ·obtain⟨a,g,p,A,S,k,b,e,q1,q2,rfl,_⟩:=h;rfl
 ·obtain⟨a,g,p,A,S,k,b,e,⟨A1,S1⟩,⟨A2,S2⟩,rfl,U,⟨v,hp,hv⟩,hA,hS,lA,lS,I,aa,aq,q⟩:=h;have sz:sizeLine=16777216:=Kv;have ai:H g=_:=hS;obtain⟨va,ha,_⟩:=id hA;refine⟨_,b9 (cM (PT.imp (t':=λσ H' Q'=>σ=[some (.ref a),some (.ref g),some (.ref p),none]/\H'=H/\Q' (decide (cY k=7/\0<cnt S)) H') (PW.pt (hZ (cx cU (cK dS (pv 2) bZ (λ_ _=>rfl)) b8 (cC _)) (hU (cx iH (f7 Kp Nq Nr qX (pv 1) (bU b8 bV)) bZ (cC _))))) ?mC)
    (b9 (e9 (cQ GA hr rfl DA.m DA.F.kp bA .nil cz (bU (pv 0) (bU (pv 1) (bU bZ bV))))) (b9 (e9 (iR Kp LP L4 j8 (pv 1))) (b5 (cy b8)))) cX)
   (b9 (cM (cx kE (cK dS (pv 2) bZ (λ_ _=>rfl)) (dm (bU b8 (bU b8 (bU b8 (bU b8 (bU b8 bV)))))) (by with_unfolding_all rfl))
    (b9 (cZ (i:=3) zZ.nd rfl (Kh rfl) (cK fN (eZ (bU b8 (bU b8 bV))) (ie lV rfl T.int jJ (bU (ip cU (cK dS (pv 2) bZ (λ_ _=>rfl)) b8 rfl) bV)) (λ_ _=>rfl)))
    (b9 (e9 (cQ GA hr rfl DA.m DA.F.kp bA .nil cz (bU (pv 0) (bU (pv 1) (bU (ie lV rfl T.int jJ (bU (ip cU (pv 3) b8 rfl) bV)) bV)))))
    (b9 (e9 (f7 Kp KO K6 iM (pv 1) (bU (pv 3) bV))) (b5 (cy b8))))) cX)
   (b5 (cy b8))),?_⟩
  rotate_left
  ·refine⟨rfl,rfl,?_⟩;by_cases h7:cY k=7/\0<cnt S
   ·rw[JS h7];have ek:k=some .rp:=by
     cases k with
     |none=>cases h7.1
     |some k=>cases k<;>first|rfl|cases h7.1
    subst ek;cases hS1:S1 with
    |nil=>exact absurd hS1 (aq h7.2)
    |cons x S3=>
     rw[hS1] at I;have er:oJ A S (some .rp)=some ⟨A1,S3,.more⟩:=by show(if 0<cnt S then _ else _)=_;rw[J1 h7.2,I];rfl
     rw[er] at q;refine cg ⟨_,rfl,_,rfl,a,g,0,1,A,A1,S,x::S3,rfl,rfl,U,hA,hS,by lia,by lia,I,λH1 b1 ar aj=>?_⟩;have ab:H1 g=some (.lst ((S3.reverse.map dU).map V.str++[.str (dU x)])):=by rw[show H1 g=_ from aj,Ke,J5,J5];rfl
     have dl:((S3.reverse.map dU).map V.str++[V.str (dU x)]).dropLast=(S3.reverse.map dU).map V.str:=Ln;refine⟨_,rfl,.inl ⟨rfl,_,ck.of ab⟩,g,_,_,rfl,rfl,ab,ke,?_⟩;rw[dl];exact q _ (b1.trans λc u n1 n2 e=>by rw[cF n2];exact e) (ar.but U ab λc u n e=>by rw[cF n];exact e) b6
   ·rw[JQ h7];refine cj ⟨_,rfl,p,_,0,_,rfl,rfl,cu.of hp,cJ (j:=0) rfl,by rw[sz];decide,λu hu=>?_⟩;have s1:bY H (upd H u (.tup [.str (JO "plain"),.str (JO "("),.str (JO "not"),.str (JO "and"),.str (JO "or")])):=cq hu;have eu:upd H u (.tup [.str (JO "plain"),.str (JO "("),.str (JO "not"),.str (JO "and"),.str (JO "or")]) u=some (.tup [.str (JO "plain"),.str (JO "("),.str (JO "not"),.str (JO "and"),.str (JO "or")]):=b6;generalize upd H u (.tup [.str (JO "plain"),.str (JO "("),.str (JO "not"),.str (JO "and"),.str (JO "or")])=H1 at s1 eu ⊢;refine⟨u,_,rfl,.inr (cu.of eu),rfl,rfl,_,rfl,?_⟩;show if e7 (.str (gj k)) _=true then _ else _
    rw[(jx k).1,C7 _ (jx k).2];have ak:=s1 _ _ hp;by_cases hj:cY k=1\/cY k=6\/cY k=3\/cY k=4\/cY k=5
    ·rw[JS hj];refine cg ⟨eK,λu2 au=>?_⟩;have s2:bY H1 (upd H1 u2 (.lst [.str (JO "both"),.str (JO "either")])):=cq au;have ag:upd H1 u2 (.lst [.str (JO "both"),.str (JO "either")]) u2=some (.lst [.str (JO "both"),.str (JO "either")]):=b6;generalize upd H1 u2 (.lst [.str (JO "both"),.str (JO "either")])=H2 at s2 ag ⊢;refine⟨_,rfl,p,_,0,_,rfl,rfl,cu.of (s2 _ _ ak),cJ (j:=0) rfl,rfl,.inr ⟨_,rfl,?_⟩⟩;rw[show decide (V.str (gj k)=V.str (JO "or"))=decide (cY k=5) from jS k (j:=5) (by decide)];have af:=s1.trans s2;have ao:gR H2 a A:=hA.same af;have ab:gB H2 g S:=af _ _ hS;by_cases h5:cY k=5
     ·rw[JS h5];have er:oJ A S k=some ⟨A1,.either::S1,.first⟩:=by
       cases k with
       |none=>cases h5
       |some k=>cases k<;>first|(exact absurd h5 (by decide))|(show(putAll 1 A S).bind _=_;rw[I];rfl)|(cases h5;done)
      rw[er] at q;refine⟨u2,_,1,.str (JO "either"),rfl,rfl,ck.of ag,cJ (j:=1) rfl,_,rfl,_,rfl,_,rfl,rfl,.inr ⟨_,rfl,a,g,_,1,A,A1,S,S1,rfl,?_,U,ao,ab,by lia,by lia,I,λH3 b3 ah ae=>?_⟩⟩
      ·rfl
      ·have J:H3 g=_:=ae
       have av:=(qp I).2;refine⟨_,rfl,.inl ⟨rfl,_,ck.of J⟩,_,rfl,g,_,_,rfl,rfl,J,by rw[JX,JX,K8,sz];lia,?_⟩;exact q _ ((eX.of af).trans (b3.trans λc u n1 n2 e=>by rw[cF n2];exact e)) (ah.but U J λc u n e=>by rw[cF n];exact e) (wR ae .either)
     ·rw[JQ h5];have er:oJ A S k=some ⟨A2,.both::S2,.first⟩:=by
       cases k with
       |none=>rcases hj with h|h|h|h|h<;>cases h
       |some k=>
        cases k with
        |or=>exact absurd rfl h5
        |near _=>rcases hj with h|h|h|h|h<;>cases h
        |rp=>rcases hj with h|h|h|h|h<;>cases h
        |leaf _=>show(putAll 2 A S).bind _=_;rw[aa];rfl
        |no=>show(putAll 2 A S).bind _=_;rw[aa];rfl
        |and=>show(putAll 2 A S).bind _=_;rw[aa];rfl
        |lp=>show(putAll 2 A S).bind _=_;rw[aa];rfl
      rw[er] at q;refine⟨u2,_,0,.str (JO "both"),rfl,rfl,ck.of ag,cJ (j:=0) rfl,_,rfl,_,rfl,_,rfl,rfl,.inr ⟨_,rfl,a,g,_,2,A,A2,S,S2,rfl,?_,U,ao,ab,by lia,by lia,aa,λH3 b3 ah ae=>?_⟩⟩
      ·rfl
      ·have J:H3 g=_:=ae
       have av:=(qp aa).2;refine⟨_,rfl,.inl ⟨rfl,_,ck.of J⟩,_,rfl,g,_,_,rfl,rfl,J,by rw[JX,JX,K8,sz];lia,?_⟩;exact q _ ((eX.of af).trans (b3.trans λc u n1 n2 e=>by rw[cF n2];exact e)) (ah.but U J λc u n e=>by rw[cF n];exact e) (wR ae .both)
    ·rw[JQ hj];have er:oJ A S k=none:=by
      cases k with
      |none=>rfl
      |some k=>
       cases k with
       |near _=>rfl
       |rp=>show(if 0<cnt S then _ else _)=_;rw[if_neg (λz=>h7 ⟨rfl,z⟩)]
       |or=>exact absurd (.inr (.inr (.inr (.inr rfl)))) hj
       |leaf _=>exact absurd (.inl rfl) hj
       |no=>exact absurd (.inr (.inr (.inl rfl))) hj
       |and=>exact absurd (.inr (.inr (.inr (.inl rfl)))) hj
       |lp=>exact absurd (.inr (.inl rfl)) hj
     rw[er] at q;exact cj (q H1 (eX.of s1))
  ·rintro σ H' Q' ⟨rfl,rfl,q'⟩;refine⟨_,rfl,p,_,0,_,rfl,rfl,cu.of hp,cJ (j:=0) rfl,rfl,_,rfl,?_⟩;rw[show decide (V.str (gj k)=V.str (JO ")"))=decide (cY k=7) from jS k (j:=7) (by decide)];by_cases h7:cY k=7
   ·rw[JS h7];refine cg ⟨_,rfl,.inl ⟨rfl,_,ck.of ai⟩,g,S.reverse.map dU,_,rfl,rfl,ck.of ai,_,_,rfl,rfl,_,rfl,?_⟩;rw[xk];have:decide (cY k=7/\0<cnt S)=decide ((0:Int)<((cnt S:Nat):Int)):=by simp[h7]
    rw[this] at q';exact q'
   ·rw[JQ h7];rw[JQ (λz=>h7 z.1)] at q';exact cj q'
end
open RA (Lf Tr Tk wr brk Sg Ls Sm putAll iI cnt eN fM dP)
noncomputable def Bf(L:JP Nat)(b:Nat)(k:Tk)(r:JP Tk)(q:JW Tk)(b1 e1:Nat):Prop:=(r=[]/\q=none/\b1=L.length/\e1=L.length)\/∃ J U,r=J::U/\q=some J/\b1=b+(cL k J).length/\e1=b1+(txt J).length
noncomputable def wx:Sp:=λvs H Q _=>∃(L:JP Nat) (b:Nat) (k:Tk) (r:JP Tk) (q:JW Tk) (b1 J:Nat),vs=[.str (sT L),.int ((b:Nat):Int)]/\L.length<=20000/\b<=L.length/\L.drop b=tl k r/\(∀ q∈r,gK q)/\Bf L b k r q b1 J/\∀ p H',bY H H'->kX H' p q b1 J->Q (.ref p) H'
theorem xA{vs:JP V}{H:Hp}{Q:VK}{E:XK}(h:wx vs H Q E):tD vs H Q E:=by
 obtain⟨L,b,k,r,q,b1,e1,rfl,I,hb,hd,hg,hf,U⟩:=h;refine⟨L,b,k,r,rfl,I,hb,hd,hg,λe p H' s hp=>?_,λk' r' e p H' s hp=>?_⟩
 ·rcases hf with ⟨_,rfl,rfl,rfl⟩|⟨k',r',J,_⟩
  ·exact U p H' s hp
  ·rw[e] at J;cases J
 ·rcases hf with ⟨J,_⟩|⟨k2,r2,J,rfl,rfl,rfl⟩
  ·rw[e] at J;cases J
  ·rw[e] at J;injection J with h1 h2;subst h1 h2;exact U p H' s hp
structure LI (s : Ls) (n : Nat) (r : JP Tk) : Prop where
 ri : ∃ c, RA.RI s c
 lf : (s.st = .plain \/ ∃ m, s.st = .near m) -> ∃ a A, s.A = .leaf a :: A
 g : ∀ t ∈ s.A, gb t
 la : s.A.length+r.length<=n
 ls : s.S.length+2*r.length+(if s.st = .first then 0 else 1)<=2*n+1
theorem CY{s:Ls}{c:Nat}(h:RA.RI s c)(hs:s.st≠ .first):(∃ q1,putAll 1 s.A s.S=some q1/\(0<cnt s.S->q1.2≠[])/\(cnt s.S=0->∃ t,q1=([t],[])))/\∃ q2,putAll 2 s.A s.S=some q2/\∃ c,RA.RI ⟨q2.1,.both::q2.2,.first⟩ c:=by
 obtain⟨q,F,e,ho,hq,hc⟩:∃ q F,s.A=RA.tr (q::F)/\RA.Op F s.S/\3<=RA.iq q/\RA.cost (q::F)+cnt s.S<=c:=by
  unfold RA.RI at h;cases e:s.st with
  |first=>exact absurd e hs
  |plain=>rw[e] at h;exact h
  |more=>rw[e] at h;exact h
  |near m=>rw[e] at h;exact h
 refine⟨?_,?_⟩
 ·obtain⟨U,I,J,a1,a2,a3,a4,ac,a5⟩:=RA.jr (least:=1) (by decide) (by decide) s.S q F ho (Kj (RA.mJ _) hq) (by lia);rw[<-e] at a1;refine⟨_,a1,λh z=>?_,λh0=>?_⟩
  ·have z':J=[]:=z;rw[z'] at ac;have:cnt ([]:JP Sg)=0:=rfl
   lia
  ·cases J with
   |nil=>
    cases a2;exact⟨U.1,rfl⟩
   |cons g J=>
    have hg:g= .lp:=by cases g<;>first|rfl|exact absurd (LS a3) J3
    subst hg;rw[RA.oH] at ac
    lia
 ·obtain⟨U,I,J,a1,a2,a3,a4,ac,a5⟩:=RA.jr (least:=2) (by decide) (by decide) s.S q F ho (Kj (RA.mJ _) hq) (by lia);rw[<-e] at a1;exact⟨_,a1,RA.cost (U::I)+cnt (.both::J),U::I,rfl,.both a2 a4 (Nat.le_of_lt_succ a3),JY _⟩
noncomputable def jg(s:Ls)(r:JP Tk):JW Tr:=(eN s r).bind fM
noncomputable def G2(o:JW Tr)(v:V)(H:Hp):Prop:=(∃ q,o=some q/\gb q/\cD false H v (dT q))\/∃ i,v= .int i/\∀ q,o=some q->¬ (q.dep<=7/\dZ q<=40)
theorem bY.but2 {H H1 H2:Hp}{a g:JR}(s:bY H H1)(b:eX a g H1 H2)(ha:H a=none)(hg:H g=none):bY H H2:=λc u e=>b c u (dM e ha) (dM e hg) (s _ _ e)
theorem jP(m:Sm):decide (V.str (fS m)=V.str (JO ""))=false:=by cases m<;>first|exact dkq|exact(show decide (V.str (JO "near")=V.str (JO ""))=false from dkq)
noncomputable def jA:Sm->Nat
 |.first=>0|.plain=>1|.more=>2|.near _=>3
theorem sA:∀ i<4,∀ j<4,decide (V.str ((["first","plain","more","near"]:JP Str).getD i "x")=V.str ((["first","plain","more","near"]:JP Str).getD j "x"))=decide (i=j):=dkq
theorem wQ(m:Sm)(j:Nat)(hj:j<4):decide (V.str (fS m)=V.str ((["first","plain","more","near"]:JP Str).getD j "x"))=decide (jA m=j):=by
 cases m with
 |first=>exact sA 0 (by decide) j hj
 |plain=>exact sA 1 (by decide) j hj
 |more=>exact sA 2 (by decide) j hj
 |near n=>exact sA 3 (by decide) j hj
section
variable {P : Ka} {w : Ku} {K : J7} {mg : Str -> JW JT} {base : KP}
noncomputable def uL:Sp:=λvs H Q _=>∃ J:JP Tk,vs=[.str (sT (tl .lp J))]/\(tl .lp J).length<=2000/\(∀ k∈J,gK k)/\∀ v H',bY H H'->G2 (jg ⟨[],[],.first⟩ J) v H'->Q v H'
noncomputable def rO(H:Hp)(L:JP Nat)(ts:JP Tk)(a g:JR)(σ:L2.St)(H':Hp):Prop:=∃(s:Ls) (k:Tk) (r:JP Tk) (b:Nat) (vf:V) (J:JW V),σ=[some (.str (sT L)),some (.ref a),some (.ref g),some (.str (fS s.st)),some (.int ((b:Nat):Int)),some vf,J]/\bY H H'/\gR H' a s.A/\gB H' g s.S/\L.drop b=tl k r/\b<=L.length/\(∀ q∈r,gK q)/\jg s r=jg ⟨[],[],.first⟩ ts/\LI s ts.length r/\∀ m,s.st= .near m->vf= .int ((m:Nat):Int)
noncomputable def mK(L:JP Nat)(σ:L2.St):Nat:=match σ with|[_,_,_,some (.str z),some (.int b),_,_]=>2*(L.length-b.toNat)+(if z=JO "first" then 0 else 1)|_=>0
theorem HV(m:Sm):(fS m=JO "first")↔m= .first:=by
 cases m with
 |first=>exact⟨λ_=>rfl,λ_=>rfl⟩
 |plain=>exact⟨λz=>absurd z dkq,λz=>by cases z⟩
 |more=>exact⟨λz=>absurd z dkq,λz=>by cases z⟩
 |near n=>exact⟨λz=>absurd z (show ¬ (JO "near"=JO "first") from dkq),λz=>by cases z⟩
theorem CS(k:JW Tk):decide (V.str (gj k)=V.str (JO "none"))=false:=by
 have:∀ i<8,decide (V.str (kR i)=V.str (JO "none"))=false:=dkq;rw[(jx k).1];exact this _ (jx k).2
theorem IU{A:JP Tr}{S:JP Sg}{k:Tk}{s':Ls}(hk:gK k)(h:∀ t∈A,gb t)(e:RA.lI A S k=some s'):(∀ t∈s'.A,gb t)/\((s'.st= .plain\/∃ m,s'.st= .near m)->∃ a B,s'.A= .leaf a::B)/\s'.A.length<=A.length+1/\s'.S.length+(if s'.st= .first then 0 else 1)<=S.length+1:=by
 cases k with
 |leaf l=>
  cases e;refine⟨λt ht=>?_,λ_=>⟨l,A,rfl⟩,JY _,JY _⟩;rcases List.mem_cons.mp ht with rfl|ht
  ·exact hk
  ·exact h t ht
 |lp=>
  have J:(if cnt S<12 then some (Ls.mk A (.lp::S) .first) else none)=some s':=e;split at J
  ·cases J;exact⟨h,(λz=>by rcases z with z|⟨m,z⟩<;>cases z),MU _,JY _⟩
  ·cases J
 |no=>
  cases e;exact⟨h,(λz=>by rcases z with z|⟨m,z⟩<;>cases z),MU _,JY _⟩
 |near _=>cases e
 |and=>cases e
 |or=>cases e
 |rp=>cases e
theorem BA:∀ n<8,e7 (.str (kR n)) [.str (JO "plain"),.str (JO "("),.str (JO "not")]=decide (n=1\/n=6\/n=3):=dkq
theorem CM(z y:Str):decide (V.str z=V.str y)=decide (z=y):=by
 by_cases h:z=y
 ·subst h;simp
 ·rw[JQ h];exact JQ λe=>h (by injection e)
theorem mm{s:Ls}(h:s.st= .plain\/s.st= .more){k:Tk}(hk:∀ n,k≠ .near n):dP s k=RA.lx s.A s.S k:=RA.rl h hk
noncomputable abbrev HI:JP Str:=["_law_line","_law_asks","_law_signs","_law_state","_law_at","_law_far","_law_piece_here"]
theorem iL:da HI ["_law_line"] (cG pP):=⟨rfl,rfl,rfl,dkq,rfl,dkq,dkq⟩
seal cH PS PE PT PA PG PI cT cP in
theorem Gh{f fc ff fj fa ft:JR}{fd fdc fdf fdj fda fdt:J2}(D:Df K mg "_law_read" pP f fd)(DC:Df K mg "_law_piece" mv fc fdc)(GC0:bX P w K mg base b7 3 fc fdc ["_law_line","_law_at"] tD)(DF:Df K mg "_law_first" qO ff fdf)(DJ:Df K mg "_law_joined" p7 fj fdj)(GJ:bX P w K mg base b7 3 fj fdj jZ xP)(DA:Df K mg "_law_put_all" l8 fa fda)(GA0:bX P w K mg base b7 2 fa fda ["_law_asks","_law_signs","_law_least"] vj)(DT:Df K mg "_law_fits" nM ft fdt)(GT0:bX P w K mg base b7 2 ft fdt ["_law_told"] yd)(T:Txt mg):bX P w K mg base b7 4 f fd ["_law_line"] uL:=by
 have GC:bX P w K mg base b7 3 fc fdc ["_law_line","_law_at"] wx:=bX.imp GC0 λ_ _ _ _=>xA
 have bC:=DC.F.binds (ps:=["_law_line","_law_at"]) λ_ _ _ _ _ _ us hl=>eU (λ_ _=>rfl) us hl
 have GF:bX P w K mg base b7 3 ff fdf jZ yr:=(JE DF).mono (by decide)
 have bF:=DF.F.binds (ps:=jZ) λ_ _ _ _ _ _ us hl=>jD (λ_ _ _=>rfl) us hl
 have bJ:=DJ.F.binds (ps:=jZ) λ_ _ _ _ _ _ us hl=>jD (λ_ _ _=>rfl) us hl
 have GA:=GA0.mono (show 2<=3 by decide)
 have bA:=DA.F.binds (ps:=["_law_asks","_law_signs","_law_least"]) λ_ _ _ _ _ _ us hl=>jD (λ_ _ _=>rfl) us hl
 have GT:=GT0.mono (show 2<=3 by decide)
 have bT:=dY (p:="_law_told") DT.F λ_ _ _ _ _ _ _=>rfl
 refine D.F.ok iL (λvs H Q E h=>?_) (λcdv A0 outer s H vs Q E hr h=>?_)
 ·obtain⟨ts,rfl,_⟩:=h;rfl
 ·obtain⟨ts,rfl,hl,hg,q⟩:=h;have sz:sizeLine=16777216:=Kv;generalize hL:tl .lp ts=L at hl q;have al:(sT L).length=L.length:=dv L;refine⟨_,b9 (vW (dm (bU (eZ bV) (bU (eZ bV) (bU b8 (bU bZ bV))))) (qI (n:=4) rfl (iK (eY (i:=1) iL.nd rfl (Kh rfl)) (iK (eY (i:=2) iL.nd rfl (Kh rfl)) (iK (eY (i:=3) iL.nd rfl (Kh rfl)) (iK (eY (i:=4) iL.nd rfl (Kh rfl)) pH))))))
   (b9 (cZ (i:=5) iL.nd rfl (Kh rfl) bZ)
   (b5 (kj KZ (fU ij)
    (b9 (cZ (i:=6) iL.nd rfl (Kh rfl) (cQ GC hr rfl DC.m DC.F.kp bC .nil cz (bU (pv 0) (bU (pv 4) bV))))
    (b9 (cZ (i:=4) iL.nd rfl (Kh rfl) (cK dS (pv 6) bZ (λ_ _=>rfl)))
    (b9 (cM (cx cU (cK dS (pv 6) bZ (λ_ _=>rfl)) b8 (cC _)) pV cX)
    (b9 (cM (cx cU (pv 3) b8 (cC _)) (b5 (cZ (i:=3) iL.nd rfl (Kh rfl) (cQ GF hr rfl DF.m DF.F.kp bF .nil cz (bU (pv 1) (bU (pv 2) (bU (pv 6) bV))))))
     (b5 (cM (cx cU (pv 3) b8 (cC _))
      (b9 (cM (cx k8 (cK dS (pv 6) bZ (λ_ _=>rfl)) b8 (cC _)) (b5 (cy (cK dS (pv 6) bZ (λ_ _=>rfl)))) cX)
      (b9 (e9 (f7 Kp KO K6 iM (pv 1) (bU (dm (bU b8 (bU (iR Kp LP L4 j8 (pv 1)) (bU (cK dS (pv 6) bZ (λ_ _=>rfl)) (bU (pv 5) bV))))) bV)))
      (b5 (cZ (i:=3) iL.nd rfl (Kh rfl) b8))))
     (b5 (cM (PT.imp (t':=λσ H' Q'=>∃(p:JR) (ko:JW Tk) (st:Sm) (b1 e1:Nat),σ[6]? =some (some (.ref p))/\σ[3]? =some (some (.str (fS st)))/\kX H' p ko b1 e1/\Q' (decide (cY ko=2/\jA st=1)) H') (PW.pt (hZ (cx cU (cK dS (pv 6) bZ (λ_ _=>rfl)) b8 (cC _)) (hU (cx cU (pv 3) b8 (cC _))))) ?m3)
      (b5 (ye (i:=5) (j:=3) rfl iL.nd rfl rfl (by decide) rfl rfl (bU (cK dS (pv 6) bZ (λ_ _=>rfl)) (bU b8 bV)) rfl))
     (b5 (cM (PT.imp (t':=λσ H' Q'=>∃(p g:JR) (ko:JW Tk) (S:JP Sg) (b1 e1:Nat),σ[6]? =some (some (.ref p))/\σ[2]? =some (some (.ref g))/\gB H' g S/\kX H' p ko b1 e1/\Q' (decide (cY ko=0/\cnt S=0)) H') (PW.pt (hZ (cx cU (cK dS (pv 6) bZ (λ_ _=>rfl)) b8 (cC _)) (hU (cx cU (f7 Kp Nq Nr qX (pv 2) (bU b8 bV)) bZ (cC _))))) ?m4)
      (b9 (e9 (cQ GA hr rfl DA.m DA.F.kp bA .nil cz (bU (pv 1) (bU (pv 2) (bU bZ bV)))))
      (b5 (cy (i6 (fU (cQ GT hr rfl DT.m DT.F.kp bT .nil cz (bU (cK fN (pv 1) bZ (λ_ _=>rfl)) bV))) (cK fN (pv 1) bZ (λ_ _=>rfl)) (dE ia rfl T.len e8 (bU (pv 0) bV))))))
      (b9 (cZ (i:=3) iL.nd rfl (Kh rfl) (cQ GJ hr rfl DJ.m DJ.F.kp bJ .nil cz (bU (pv 1) (bU (pv 2) (bU (pv 6) bV)))))
      (b5 (cM (PT.imp (t':=λσ H' Q'=>∃(p:JR) (ko:JW Tk) (z:Str) (b1 e1:Nat),σ[6]? =some (some (.ref p))/\σ[3]? =some (some (.str z))/\kX H' p ko b1 e1/\∀ aO,bY H' aO->Q' (decide (z=JO "first"/\(cY ko=1\/cY ko=6\/cY ko=3))) aO) (PW.pt (hZ (cx cU (pv 3) b8 (cC _)) (hU (cx kE (cK dS (pv 6) bZ (λ_ _=>rfl)) (dm (bU b8 (bU b8 (bU b8 bV)))) (by with_unfolding_all rfl))))) ?m5) (b5 (cZ (i:=4) iL.nd rfl (Kh rfl) (cK dS (pv 6) bZ (λ_ _=>rfl)))) cX))))))))))
    (b5 (cM (cx cU (pv 3) b8 (cC _)) (b5 (cy (cK dS (pv 6) bZ (λ_ _=>rfl)))) cX))))))))),?_⟩
  rotate_left 3
  refine⟨Ks _,λa ha=>⟨Ks _,λg aw=>⟨ik,λp0 aG=>⟨p0,_,rfl,cu.of b6,rfl,_,_,rfl,_,_,rfl,_,_,rfl,_,_,rfl,rfl,?_⟩⟩⟩⟩;have ax:a≠g:=λz=>by rw[<-z,b6] at aw;cases aw
  have aH:H g=none:=by
   cases e:H g with
   |none=>rfl
   |some u=>rw[(cq ha) _ _ e] at aw;cases aw
  have s1:bY H (upd (upd (upd H a (.lst [])) g (.lst [])) p0 (.tup [.ref a,.ref g,.str (JO "first"),.int 0])):=((cq ha).trans (cq aw)).trans (cq aG)
  have ea:upd (upd (upd H a (.lst [])) g (.lst [])) p0 (.tup [.ref a,.ref g,.str (JO "first"),.int 0]) a=some (.lst []):=((cq aw).trans (cq aG)) _ _ b6
  have eg:upd (upd (upd H a (.lst [])) g (.lst [])) p0 (.tup [.ref a,.ref g,.str (JO "first"),.int 0]) g=some (.lst []):=(cq aG) _ _ b6
  show vM _ _ _ [some (.str (sT L)),some (.ref a),some (.ref g),some (.str (JO "first")),some (.int 0),some (.int 0),none] (upd (upd (upd H a (.lst [])) g (.lst [])) p0 (.tup [.ref a,.ref g,.str (JO "first"),.int 0]));generalize upd (upd (upd H a (.lst [])) g (.lst [])) p0 (.tup [.ref a,.ref g,.str (JO "first"),.int 0])=H1 at s1 ea eg ⊢;have bE:ts.length<=2000:=by have:=oZ ts .lp hg;rw[hL] at this;lia
  refine kq (rO H L ts a g) (λσ _=>mK L σ) ⟨⟨[],[],.first⟩,.lp,ts,0,.int 0,none,rfl,s1,⟨[],ea,.nil⟩,eg,by rw[OW,hL],Ks _,hg,rfl,⟨⟨0,[],rfl,.nil,JY _⟩,(λz=>by rcases z with z|⟨m,z⟩<;>cases z),(λt ht=>nomatch ht),by show 0+_<=_;lia,by show 0+2*ts.length+0<=_;lia⟩,(λm z=>by cases z)⟩ ?_ ?_
  ·rintro σ H' ⟨s,k,r,b,vf,o6,rfl,sm,hA,hS,hd,hb,ak,ho,li,a7⟩;obtain⟨ko,b1,e1,af⟩:∃ ko b1 e1,Bf L b k r ko b1 e1:=by
    cases r with
    |nil=>exact⟨none,_,_,.inl ⟨rfl,rfl,rfl,rfl⟩⟩
    |cons k' r'=>exact⟨some k',_,_,.inr ⟨k',r',rfl,rfl,rfl,rfl⟩⟩
   refine⟨_,rfl,cg ⟨_,rfl,_,rfl,L,b,k,r,ko,b1,e1,rfl,by lia,hb,hd,ak,af,λp H2 s2 hp=>?_⟩⟩;obtain⟨v,ab,hv⟩:=id hp;have ay:gR H2 a s.A:=hA.same s2;have ao:gB H2 g s.S:=s2 _ _ hS;have az:H2 g=_:=ao;have aI:=sm.trans s2;obtain⟨va,aq,aP⟩:=id ay;have aA:p≠a:=λz=>by rw[z,aq] at ab;cases ab
   have aB:p≠g:=λz=>by rw[z,az] at ab;cases ab
   have lia:=li.la
   have aj:=li.ls
   have lA:s.A.length<=9000:=by lia
   have lS:s.S.length<=9000:=by split at aj<;>lia
   refine⟨_,rfl,p,_,3,_,rfl,rfl,cu.of ab,cJ (j:=3) rfl,?_⟩;refine⟨_,rfl,p,_,0,_,rfl,rfl,cu.of ab,cJ (j:=0) rfl,rfl,_,rfl,eE (CS ko) ⟨_,rfl,rfl,_,rfl,?_⟩⟩;rw[show decide (V.str (fS s.st)=V.str (JO "first"))=decide (jA s.st=0) from wQ s.st 0 (by decide)];have tok:∀ k' r',r=k'::r'->ko=some k'/\gK k'/\L.drop e1=tl k' r'/\e1<=L.length/\b+1<=e1/\L.drop b1=tl .lp (k'::r')/\b<=b1/\b1<=L.length:=λk' r' er=>by
    rcases af with ⟨e,_⟩|⟨k2,r2,e,hk,aQ,aR⟩
    ·rw[e] at er;cases er
    ·rw[e] at er;injection er with x1 x2;subst x1 x2;have gk:=ak k2 (by rw[e];simp);rw[e] at hd;have a8:L.drop b=cL k k2++(txt k2++tl k2 r2):=hd;have d1:L.drop b1=txt k2++tl k2 r2:=by rw[aQ];exact iA a8
     have d2:L.drop e1=tl k2 r2:=by rw[aR];exact iA d1
     have tp:=tR gk;obtain⟨c,y,ec,_⟩:=pR gk;have l1:b1<L.length:=(gJ (show L.drop b1=c::(y++tl k2 r2) by rw[d1,ec];rfl)).2;have ll:=K9 Mw d1;rw[KH,JU] at ll;exact⟨hk,gk,d2,by lia,by lia,by rw[d1];show _=cL .lp k2++(txt k2++tl k2 r2);rw[show cL .lp k2=[] from J1 (.inl rfl)];rfl,by lia,by lia⟩
   have bad:∀ H3,eX a g H2 H3->jg s r=none->Q (.int ((b1:Nat):Int)) H3:=λH3 b3 hn=>by
    refine q _ H3 (bY.but2 aI b3 ha aH) (.inr ⟨_,rfl,λq' aC=>?_⟩);rw[<-ho,hn] at aC;cases aC
   have fin:∀(s':Ls) (k':Tk) (r':JP Tk) (e':Nat) (vf':V) (H3:Hp),eX a g H2 H3->gR H3 a s'.A->gB H3 g s'.S->L.drop e'=tl k' r'->e'<=L.length->(∀ q∈r',gK q)->jg s' r'=jg s r->LI s' ts.length r'->(∀ m,s'.st= .near m->vf'= .int ((m:Nat):Int))->2*(L.length-e')+(if s'.st= .first then 0 else 1)<2*(L.length-b)+(if s.st= .first then 0 else 1)->
     rO H L ts a g [some (.str (sT L)),some (.ref a),some (.ref g),some (.str (fS s'.st)),some (.int ((e':Nat):Int)),some vf',some (.ref p)] H3/\mK L [some (.str (sT L)),some (.ref a),some (.ref g),some (.str (fS s'.st)),some (.int ((e':Nat):Int)),some vf',some (.ref p)]<mK L [some (.str (sT L)),some (.ref a),some (.ref g),some (.str (fS s.st)),some (.int ((b:Nat):Int)),some vf,o6]:=λs' k' r' e' vf' H3 b3 ar ag aJ a9 ba bc bf bg mu=>by
    refine⟨⟨s',k',r',e',vf',_,rfl,bY.but2 aI b3 ha aH,ar,ag,aJ,a9,ba,bc.trans ho,bf,bg⟩,?_⟩;show 2*(L.length-((e':Nat):Int).toNat)+(if fS s'.st=JO "first" then 0 else 1)<2*(L.length-((b:Nat):Int).toNat)+(if fS s.st=JO "first" then 0 else 1);simp only[HV,Oe];exact mu
   obtain⟨c0,aD⟩:=li.ri;by_cases I:s.st= .first
   ·rw[JS (show jA s.st=0 by rw[I];rfl)];refine cg ⟨_,rfl,_,rfl,_,rfl,a,g,p,s.A,s.S,ko,b1,e1,rfl,ax,hp,ay,ao,by lia,by lia,?_⟩;cases hf:qF s.A s.S ko with
    |none=>
     intro H3 b3;refine⟨_,rfl,rfl,_,rfl,?_⟩;have on:jg s r=none:=by
      rcases af with ⟨e,hk,_⟩|⟨k2,r2,e,hk,_⟩
      ·rw[e];show fM s=none;unfold RA.fM;rw[if_neg (λz=>by rcases z.1 with z|z<;>(rw[I] at z;cases z))]
      ·rw[e];show((dP s k2).bind λs'=>eN s' r2).bind fM=none;have:dP s k2=none:=by
        unfold RA.dP;rw[I];rw[hk] at hf;exact hf
       rw[this];rfl
     exact cg ⟨_,rfl,p,_,2,_,rfl,rfl,cu.of (b3 _ _ aA aB ab),cJ (j:=2) rfl,bad H3 b3 on⟩
    |some s'=>
     intro H3 b3 ar ag;rcases af with ⟨e,hk,_⟩|⟨k2,r2,e,hk,aQ,aR⟩
     ·rw[hk] at hf;cases hf
     ·rw[hk] at hf;have ah:RA.lI s.A s.S k2=some s':=hf;obtain⟨t1,t2,t3,t4,t5,t6,t7,t8⟩:=tok k2 r2 e;obtain⟨g1,g2,g3,g4⟩:=IU t2 li.g ah;have U:dP s k2=some s':=by unfold RA.dP;rw[I];exact ah
      refine⟨_,rfl,rfl,_,rfl,eE (jP s'.st) (fin s' k2 r2 e1 vf H3 b3 ar ag t3 t4 (λq hq=>ak q (by rw[e];exact J0 _ hq)) ?_ ⟨⟨_,RA.pY aD U⟩,g2,g1,?_,?_⟩ ?_ ?_)⟩
      ·rw[e];show _=((dP s k2).bind λs'=>eN s' r2).bind fM;rw[U];rfl
      ·rw[e,JV] at lia
       lia
      ·rw[e,JV,J1 I] at aj
       lia
      ·intro m z;exfalso;cases k2 with
       |leaf l=>cases ah;cases z
       |lp=>
        have h':(if cnt s.S<12 then some (Ls.mk s.A (.lp::s.S) .first) else none)=some s':=ah;split at h'
        ·cases h';cases z
        ·cases h'
       |no=>cases ah;cases z
       |near _=>cases ah
       |and=>cases ah
       |or=>cases ah
       |rp=>cases ah
      ·rw[J1 I];split<;>lia
   ·rw[JQ (λz=>I (by cases U:s.st<;>rw[U] at z<;>first|rfl|cases z))];refine cj ⟨_,rfl,rfl,_,rfl,?_⟩;rw[show decide (V.str (fS s.st)=V.str (JO "near"))=decide (jA s.st=3) from wQ s.st 3 (by decide)];by_cases au:∃ m,s.st= .near m
    ·obtain⟨m,hm⟩:=au;rw[JS (show jA s.st=3 by rw[hm];rfl)];refine cg ⟨_,rfl,p,_,0,_,rfl,rfl,cu.of ab,cJ (j:=0) rfl,rfl,_,rfl,?_⟩;rw[show decide (V.str (gj ko)=V.str (JO "plain"))=decide (cY ko=1) from jS ko (j:=1) (by decide)];by_cases h1:cY ko=1
     ·rw[JS h1];obtain⟨l,rfl⟩:∃ l,ko=some (.leaf l):=by
       cases ko with
       |none=>cases h1
       |some k=>cases k<;>first|exact⟨_,rfl⟩|cases h1
      obtain⟨r2,er⟩:∃ r2,r= .leaf l::r2:=by
       rcases af with ⟨_,hk,_⟩|⟨k2,r2,e,hk,_⟩
       ·cases hk
       ·injection hk with hk;exact⟨r2,by rw[hk];exact e⟩
      obtain⟨t1,t2,t3,t4,t5,t6,t7,t8⟩:=tok _ r2 er;obtain⟨l0,A',eA⟩:=li.lf (.inr ⟨m,hm⟩);have aS:cV false H2 va ((A'.reverse.map dT)++[dT (.leaf l0)]):=by
       have:=aP;rw[eA,Ke,J5] at this;exact this
      obtain⟨ws,v0,rfl,aT,bh⟩:=aS.unsnoc;have bG:ws.length=A'.length:=by rw[aT.len,JX,K8]
      have bj:=a7 m hm;subst bj;rw[eA,JV] at lA lia;refine cj ⟨_,rfl,.inl ⟨rfl,_,ck.of aq⟩,_,rfl,.inl ⟨rfl,_,ck.of aq⟩,a,_,_,rfl,rfl,aq,ke,?_⟩;rw[Ln];have aE:TT H2 (upd H2 a (.lst ws)):=λc xs e=>by rw[cF (λz=>by rw[z,aq] at e;cases e)];exact e
      have b3:eX a g H2 (upd H2 a (.lst ws)):=λc u n1 n2 e=>by rw[cF n1];exact e
      have aK:upd H2 a (.lst ws) a=some (.lst ws):=b6
      have ag:gB (upd H2 a (.lst ws)) g s.S:=by show upd H2 a (.lst ws) g=_;rw[cF (K5 ax)];exact ao
      generalize upd H2 a (.lst ws)=H3 at aE b3 aK ag ⊢;refine⟨_,rfl,p,_,1,_,rfl,rfl,cu.of (aE _ _ ab),cJ (j:=1) rfl,_,rfl,ik,λu hu=>?_⟩;have s4:bY H3 (upd H3 u (.tup [.str (JO "near"),v0,v,.int ((m:Nat):Int)])):=cq hu;have eu:upd H3 u (.tup [.str (JO "near"),v0,v,.int ((m:Nat):Int)]) u=some (.tup [.str (JO "near"),v0,v,.int ((m:Nat):Int)]):=b6;generalize upd H3 u (.tup [.str (JO "near"),v0,v,.int ((m:Nat):Int)])=H4 at s4 eu ⊢;have pn:cD false H4 (.ref u) (dT (.near l0 l m)):= .tup eu (.cons (.str _) (.cons ((bh.tups aE).same s4) (.cons ((hv.tups aE).same s4) (.cons (.int _) .nil))));have aF:gR H4 a A':=⟨ws,s4 _ _ aK,(aT.tups aE).same s4⟩;obtain⟨bo,aL,bH,bp⟩:=AN (t:= .near l0 l m) aF pn;have bq:bo=ws:=by rw[s4 _ _ aK] at aL;injection aL with h;injection h with h;exact h.symm
      subst bq;refine⟨a,_,_,rfl,rfl,aL,by rw[sz];lia,⟨_,rfl,rfl,_,rfl,eE (jP .more) (fin ⟨.near l0 l m::A',s.S,.more⟩ (.leaf l) r2 e1 _ _ (b3.trans ((eX.of s4).trans λc u n1 n2 e=>by rw[cF n1];exact e)) bp (by show upd H4 a _ g=_;rw[cF (K5 ax)];exact s4 _ _ ag) t3 t4 (λq hq=>ak q (by rw[er];exact J0 _ hq)) ?_ ?_ ?_ ?_)⟩⟩
      ·rw[er];show _=((dP s (.leaf l)).bind λs'=>eN s' r2).bind fM;have:dP s (.leaf l)=some ⟨.near l0 l m::A',s.S,.more⟩:=by
        unfold RA.dP;rw[hm,eA];rfl
       rw[this];rfl
      ·have U:dP s (.leaf l)=some ⟨.near l0 l m::A',s.S,.more⟩:=by
        unfold RA.dP;rw[hm,eA];rfl
       refine⟨⟨_,RA.pY aD U⟩,(λz=>by rcases z with z|⟨m',z⟩<;>cases z),λt ht=>?_,?_,?_⟩
       ·rcases List.mem_cons.mp ht with rfl|ht
        ·exact⟨li.g (.leaf l0) (by rw[eA];simp),t2⟩
        ·exact li.g t (by rw[eA];exact J0 _ ht)
       ·rw[er,JV] at lia;show A'.length+1+r2.length<=_
        lia
       ·rw[er,JV] at aj;show s.S.length+2*r2.length+1<=_;split at aj<;>lia
      ·intro m' z;cases z
      ·show 2*(L.length-e1)+1<_;split<;>lia
     ·rw[JQ h1];have on:jg s r=none:=by
       rcases af with ⟨e,hk,_⟩|⟨k2,r2,e,hk,_⟩
       ·rw[e];show fM s=none;unfold RA.fM;rw[if_neg (λz=>by rcases z.1 with z|z<;>(rw[hm] at z;cases z))]
       ·rw[e];show((dP s k2).bind λs'=>eN s' r2).bind fM=none;have:dP s k2=none:=by
         unfold RA.dP;rw[hm];rw[hk] at h1;cases k2<;>first|rfl|exact absurd rfl h1
        rw[this];rfl
      exact cg ⟨_,rfl,p,_,2,_,rfl,rfl,cu.of ab,cJ (j:=2) rfl,bad H2 (λc u _ _ e=>e) on⟩
    ·rw[JQ (λz=>by cases U:s.st<;>rw[U] at z<;>first|(exact au ⟨_,U⟩)|cases z)];have aa:s.st= .plain\/s.st= .more:=by
      cases U:s.st with
      |first=>exact absurd U I
      |plain=>exact .inl rfl
      |more=>exact .inr rfl
      |near m=>exact absurd ⟨m,U⟩ au
     obtain⟨⟨q1,ai,aU,aV⟩,q2,ae,aW⟩:=CY aD I;refine cj ⟨p,ko,s.st,b1,e1,rfl,rfl,hp,?_⟩;by_cases h2:cY ko=2/\jA s.st=1
     ·rw[JS h2];obtain⟨m,rfl⟩:∃ m,ko=some (.near m):=by
       cases ko with
       |none=>cases h2.1
       |some k=>cases k<;>first|exact⟨_,rfl⟩|cases h2.1
      have aX:s.st= .plain:=by rcases aa with h|h<;>rw[h] at h2 ⊢;exact absurd h2.2 (by decide)
      obtain⟨r2,er⟩:∃ r2,r= .near m::r2:=by
       rcases af with ⟨_,hk,_⟩|⟨k2,r2,e,hk,_⟩
       ·cases hk
       ·injection hk with hk;exact⟨r2,by rw[hk];exact e⟩
      obtain⟨t1,t2,t3,t4,t5,t6,t7,t8⟩:=tok _ r2 er;have ev:v= .int ((m:Nat):Int):=by
       have br:cD false H2 v (.int ((m:Nat):Int)):=hv;cases br;rfl
      subst ev;have U:dP s (.near m)=some {s with st:= .near m}:=by unfold RA.dP;rw[aX]
      refine cg ⟨_,rfl,p,_,1,_,rfl,rfl,cu.of ab,cJ (j:=1) rfl,_,_,rfl,⟨_,rfl,rfl,_,rfl,eE (jP (.near m)) (fin {s with st:= .near m} (.near m) r2 e1 (.int ((m:Nat):Int)) H2 (λc u _ _ e=>e) ay ao t3 t4 (λq hq=>ak q (by rw[er];exact J0 _ hq)) ?_ ⟨⟨_,RA.pY aD U⟩,λ_=>li.lf (.inl aX),li.g,?_,?_⟩ ?_ ?_)⟩⟩
      ·rw[er];show _=((dP s (.near m)).bind λs'=>eN s' r2).bind fM;rw[U];rfl
      ·rw[er,JV] at lia;show s.A.length+_<=_
       lia
      ·rw[er,JV] at aj;show s.S.length+2*r2.length+1<=_;split at aj<;>lia
      ·intro m' z;injection z with z;rw[z]
      ·show 2*(L.length-e1)+1<_;split<;>lia
     ·rw[JQ h2];refine cj ⟨p,g,ko,s.S,b1,e1,rfl,rfl,ao,hp,?_⟩;by_cases h0:cY ko=0/\cnt s.S=0
      ·rw[JS h0];have ek:ko=none:=by
        cases ko with
        |none=>rfl
        |some k=>cases k<;>cases h0.1
       have er:r=[]:=by
        rcases af with ⟨e,_⟩|⟨k2,r2,e,hk,_⟩
        ·exact e
        ·rw[ek] at hk;cases hk
       obtain⟨tt,rfl⟩:=aV h0.2;have oo:jg s r=some tt:=by
        rw[er];show fM s=some tt;unfold RA.fM;rw[J1 ⟨aa,h0.2⟩,ai];rfl
       have gt:gb tt:=nL li.g ai tt (by simp);refine cg ⟨_,rfl,_,rfl,a,g,0,1,s.A,[tt],s.S,[],rfl,rfl,ax,ay,ao,by lia,by lia,ai,λH3 b3 ar ag=>?_⟩;obtain⟨bt,aY,aJ⟩:=ar;obtain⟨v3,rfl,aZ⟩:∃ v3,bt=[v3]/\cD false H3 v3 (dT tt):=by
        cases aJ with
        |cons h r=>cases r;exact⟨_,rfl,h⟩
       have a0:=bY.but2 aI b3 ha aH;refine⟨_,rfl,a,_,0,v3,rfl,rfl,ck.of aY,cJ (j:=0) rfl,v3,tt,rfl,aZ,gt,λbb H4 s4 bu=>⟨_,rfl,?_⟩⟩;cases bb with
       |true=>
        refine cg ⟨_,rfl,a,_,0,v3,rfl,rfl,ck.of (s4 _ _ aY),cJ (j:=0) rfl,q v3 H4 (a0.trans s4) (.inl ⟨tt,ho.symm.trans oo,gt,aZ.same s4⟩)⟩
       |false=>
        refine cj ⟨_,rfl,_,rfl,dC (by rw[al];lia),q _ H4 (a0.trans s4) (.inr ⟨_,rfl,λq' aC a3=>?_⟩)⟩;rw[<-ho,oo] at aC;have:tt=q':=Kg aC;subst this;exact absurd (bu a3.1 a3.2) (by decide)
      ·rw[JQ h0];refine cj ⟨_,rfl,_,rfl,_,rfl,a,g,p,s.A,s.S,ko,b1,e1,q1,q2,rfl,ax,hp,ay,ao,lA,lS,ai,ae,aU,?_⟩;cases hj:oJ s.A s.S ko with
       |none=>
        intro H3 b3;have aM:kX H3 p ko b1 e1:=⟨v,b3 _ _ aA aB ab,hv.tups (b3.tup aq az)⟩;refine⟨p,ko,JO "",b1,e1,rfl,rfl,aM,λH4 s4=>?_⟩;rw[JQ (λz=>absurd z.1 dkq)];have on:jg s r=none:=by
         rcases af with ⟨e,hk,_⟩|⟨k2,r2,e,hk,_⟩
         ·rw[e];show fM s=none;unfold RA.fM;rw[if_neg (λz=>h0 ⟨by rw[hk];rfl,z.2⟩)]
         ·rw[e];show((dP s k2).bind λs'=>eN s' r2).bind fM=none;have:dP s k2=none:=by
           rw[hk] at hj h2;cases k2 with
           |near m=>
            unfold RA.dP;rcases aa with h|h
            ·exact absurd ⟨rfl,by rw[h];rfl⟩ h2
            ·rw[h];rfl
           |rp=>rw[mm aa (λn z=>by cases z)];exact hj
           |or=>rw[mm aa (λn z=>by cases z)];exact hj
           |and=>rw[mm aa (λn z=>by cases z)];exact hj
           |leaf l=>have J:(putAll 2 s.A s.S).bind (λq=>some (Ls.mk q.1 (.both::q.2) .first))=none:=hj;rw[ae] at J;cases J
           |lp=>have J:(putAll 2 s.A s.S).bind (λq=>some (Ls.mk q.1 (.both::q.2) .first))=none:=hj;rw[ae] at J;cases J
           |no=>have J:(putAll 2 s.A s.S).bind (λq=>some (Ls.mk q.1 (.both::q.2) .first))=none:=hj;rw[ae] at J;cases J
          rw[this];rfl
        exact cj ⟨_,rfl,rfl,_,rfl,cg ⟨_,rfl,p,_,2,_,rfl,rfl,cu.of (s4 _ _ (b3 _ _ aA aB ab)),cJ (j:=2) rfl,bad H4 (b3.trans (eX.of s4)) on⟩⟩
       |some s'=>
        intro H3 b3 ar ag;have aM:kX H3 p ko b1 e1:=⟨v,b3 _ _ aA aB ab,hv.tups (b3.tup aq az)⟩;refine⟨p,ko,fS s'.st,b1,e1,rfl,rfl,aM,λH4 s4=>?_⟩;obtain⟨k2,r2,er,hk⟩:∃ k2 r2,r=k2::r2/\ko=some k2:=by
         rcases af with ⟨_,hk,_⟩|⟨k2,r2,e,hk,_⟩
         ·rw[hk] at hj;cases hj
         ·exact⟨k2,r2,e,hk⟩
        subst hk;obtain⟨t1,t2,t3,t4,t5,t6,t7,t8⟩:=tok _ r2 er;have b4:=b3.trans (eX.of s4);have aF:=ar.same s4;have a4:gB H4 g s'.S:=s4 _ _ ag;have aN:H4 p=_:=s4 _ _ (b3 _ _ aA aB ab);have bw:∀ q∈r2,gK q:=λq hq=>ak q (by rw[er];exact J0 _ hq)
        have l1:=qp ai
        have l2:=qp ae
        have bB:s.S.length+2*(r2.length+1)+1<=2*ts.length+1:=by rw[er,JV,if_neg I] at aj;exact aj
        have bD:s.A.length+(r2.length+1)<=ts.length:=by rw[er,JV] at lia;exact lia
        have step:∀(U:dP s k2=some s') (av:s'.st≠ .plain/\∀ m,s'.st≠ .near m) (a5:∀ t∈s'.A,gb t) (bx:s'.A.length<=s.A.length) (bz:s'.S.length<=s.S.length+1),rO H L ts a g [some (.str (sT L)),some (.ref a),some (.ref g),some (.str (fS s'.st)),some (.int ((e1:Nat):Int)),some vf,some (.ref p)] H4/\mK L [some (.str (sT L)),some (.ref a),some (.ref g),some (.str (fS s'.st)),some (.int ((e1:Nat):Int)),some vf,some (.ref p)]<mK L [some (.str (sT L)),some (.ref a),some (.ref g),some (.str (fS s.st)),some (.int ((b:Nat):Int)),some vf,o6]:=λU av a5 bx bz=>by
         refine fin s' k2 r2 e1 vf H4 b4 aF a4 t3 t4 bw ?_ ⟨⟨_,RA.pY aD U⟩,(λz=>by rcases z with z|⟨m,z⟩;exact absurd z av.1;exact absurd z (av.2 m)),a5,by lia,by split<;>lia⟩ (λm z=>absurd z (av.2 m)) (by rw[if_neg I];split<;>lia);rw[er];show _=((dP s k2).bind λs'=>eN s' r2).bind fM;rw[U];rfl
        have again:(cY (some k2)=1\/cY (some k2)=6\/cY (some k2)=3)->s'=⟨q2.1,.both::q2.2,.first⟩->(∀ n,k2≠ .near n)->RA.lx s.A s.S k2=(putAll 2 s.A s.S).bind (λq=>RA.lI q.1 (.both::q.2) k2)->rO H L ts a g [some (.str (sT L)),some (.ref a),some (.ref g),some (.str (fS s'.st)),some (.int ((b1:Nat):Int)),some vf,some (.ref p)] H4/\mK L [some (.str (sT L)),some (.ref a),some (.ref g),some (.str (fS s'.st)),some (.int ((b1:Nat):Int)),some vf,some (.ref p)]<mK L [some (.str (sT L)),some (.ref a),some (.ref g),some (.str (fS s.st)),some (.int ((b:Nat):Int)),some vf,o6]:=λ_ es hk hm=>by
         subst es;refine fin _ .lp (k2::r2) b1 vf H4 b4 aF a4 t6 t8 (λq hq=>ak q (by rw[er];exact hq)) ?_ ⟨aW,(λz=>by rcases z with z|⟨m,z⟩<;>cases z),nL li.g ae,by show q2.1.length+(r2.length+1)<=_;lia,by show q2.2.length+1+2*(r2.length+1)+0<=_;lia⟩ (λm z=>by cases z) (by rw[if_neg I];show 2*(L.length-b1)+0<_;lia);rw[er];show((dP ⟨q2.1,.both::q2.2,.first⟩ k2).bind λs'=>eN s' r2).bind fM=((dP s k2).bind λs'=>eN s' r2).bind fM;rw[mm aa hk,hm,ae];rfl
        have two:∀{qq:JP Tr×JP Sg} {st:Ls},(some qq:JW (JP Tr×JP Sg)).bind (λq=>some (Ls.mk q.1 (.both::q.2) .first))=some st->st=⟨qq.1,.both::qq.2,.first⟩:=λh=>by injection h with h;exact h.symm
        cases k2 with
        |near m=>cases hj
        |leaf l=>
         have J:(putAll 2 s.A s.S).bind (λq=>some (Ls.mk q.1 (.both::q.2) .first))=some s':=hj;rw[ae] at J;have es:=two J;rw[JS (show fS s'.st=JO "first"/\(cY (some (.leaf l))=1\/cY (some (.leaf l))=6\/cY (some (.leaf l))=3) from⟨by rw[es];rfl,.inl rfl⟩)];exact cg ⟨_,rfl,p,_,2,_,rfl,rfl,cu.of aN,cJ (j:=2) rfl,⟨_,rfl,rfl,_,rfl,eE (jP _) (again (.inl rfl) es (λn z=>by cases z) rfl)⟩⟩
        |lp=>
         have J:(putAll 2 s.A s.S).bind (λq=>some (Ls.mk q.1 (.both::q.2) .first))=some s':=hj;rw[ae] at J;have es:=two J;rw[JS (show fS s'.st=JO "first"/\(cY (some .lp)=1\/cY (some .lp)=6\/cY (some .lp)=3) from⟨by rw[es];rfl,.inr (.inl rfl)⟩)];exact cg ⟨_,rfl,p,_,2,_,rfl,rfl,cu.of aN,cJ (j:=2) rfl,⟨_,rfl,rfl,_,rfl,eE (jP _) (again (.inr (.inl rfl)) es (λn z=>by cases z) rfl)⟩⟩
        |no=>
         have J:(putAll 2 s.A s.S).bind (λq=>some (Ls.mk q.1 (.both::q.2) .first))=some s':=hj;rw[ae] at J;have es:=two J;rw[JS (show fS s'.st=JO "first"/\(cY (some .no)=1\/cY (some .no)=6\/cY (some .no)=3) from⟨by rw[es];rfl,.inr (.inr rfl)⟩)];exact cg ⟨_,rfl,p,_,2,_,rfl,rfl,cu.of aN,cJ (j:=2) rfl,⟨_,rfl,rfl,_,rfl,eE (jP _) (again (.inr (.inr rfl)) es (λn z=>by cases z) rfl)⟩⟩
        |and=>
         have U:dP s .and=some s':=by rw[mm aa (λn z=>by cases z)];exact hj
         have J:(putAll 2 s.A s.S).bind (λq=>some (Ls.mk q.1 (.both::q.2) .first))=some s':=hj;rw[ae] at J;have es:=two J;rw[JQ (λz=>by rcases z.2 with z|z|z<;>cases z)];exact cj ⟨_,rfl,rfl,_,rfl,eE (jP _) (step U (by rw[es];exact⟨(λz=>by cases z),(λm z=>by cases z)⟩) (by rw[es];exact nL li.g ae) (by rw[es];exact l2.1) (by rw[es];exact M6 l2.2))⟩
        |or=>
         have U:dP s .or=some s':=by rw[mm aa (λn z=>by cases z)];exact hj
         have J:(putAll 1 s.A s.S).bind (λq=>some (Ls.mk q.1 (.either::q.2) .first))=some s':=hj;rw[ai] at J;have es:s'=⟨q1.1,.either::q1.2,.first⟩:=by injection J with h;exact h.symm
         rw[JQ (λz=>by rcases z.2 with z|z|z<;>cases z)];exact cj ⟨_,rfl,rfl,_,rfl,eE (jP _) (step U (by rw[es];exact⟨(λz=>by cases z),(λm z=>by cases z)⟩) (by rw[es];exact nL li.g ai) (by rw[es];exact l1.1) (by rw[es];exact M6 l1.2))⟩
        |rp=>
         have U:dP s .rp=some s':=by rw[mm aa (λn z=>by cases z)];exact hj
         have J:(if 0<cnt s.S then (putAll 1 s.A s.S).bind (λq=>match q.2 with|_::S'=>some (Ls.mk q.1 S' .more)|[]=>none) else none)=some s':=hj;rw[ai] at J;obtain⟨A1,S1⟩:=q1;obtain⟨x,S3,e3,es⟩:∃ x S3,S1=x::S3/\s'=⟨A1,S3,.more⟩:=by
          split at J
          ·cases S1 with
           |nil=>cases J
           |cons x S3=>exact⟨x,S3,rfl,by injection J with h;exact h.symm⟩
          ·cases J
         rw[JQ (λz=>by rcases z.2 with z|z|z<;>cases z)];exact cj ⟨_,rfl,rfl,_,rfl,eE (jP _) (step U (by rw[es];exact⟨(λz=>by cases z),(λm z=>by cases z)⟩) (by rw[es];exact nL li.g ai) (by rw[es];exact l1.1) (by rw[es];have:=l1.2;rw[e3] at this;show S3.length<=_;have h':S3.length+1<=s.S.length:=this;lia))⟩
  ·rintro σ H' Q1 Q2 hq ⟨b,e,q⟩;exact⟨b,e,hq _ _ q⟩
  ·rintro σ H' Q' ⟨p,ko,st,b1,e1,h6,h3,⟨v,hp,hv⟩,q'⟩;refine⟨_,h6,p,_,0,_,rfl,rfl,cu.of hp,cJ (j:=0) rfl,rfl,_,rfl,?_⟩;rw[show decide (V.str (gj ko)=V.str (JO "near"))=decide (cY ko=2) from jS ko (j:=2) (by decide)];by_cases h:cY ko=2
   ·rw[JS h];refine cg ⟨_,h3,rfl,_,rfl,?_⟩;rw[show decide (V.str (fS st)=V.str (JO "plain"))=decide (jA st=1) from wQ st 1 (by decide)];have:decide (cY ko=2/\jA st=1)=decide (jA st=1):=by simp[h]
    rw[this] at q';exact q'
   ·rw[JQ h];rw[JQ (λz=>h z.1)] at q';exact cj q'
  ·rintro σ H' Q' ⟨p,g,ko,S,b1,e1,h6,h2,hS,⟨v,hp,hv⟩,q'⟩;refine⟨_,h6,p,_,0,_,rfl,rfl,cu.of hp,cJ (j:=0) rfl,rfl,_,rfl,?_⟩;rw[show decide (V.str (gj ko)=V.str (JO "end"))=decide (cY ko=0) from jS ko (j:=0) (by decide)];by_cases h:cY ko=0
   ·rw[JS h];have a6:H' g=_:=hS;refine cg ⟨_,h2,.inl ⟨rfl,_,ck.of a6⟩,g,S.reverse.map dU,_,rfl,rfl,ck.of a6,rfl,_,rfl,?_⟩;rw[xk];have:decide (cY ko=0/\cnt S=0)=decide (V.int ((cnt S:Nat):Int)=V.int 0):=by
     by_cases hc:cnt S=0
     ·simp[h,hc]
     ·rw[JQ (λz=>hc z.2)];exact(JQ (λz=>hc (by injection z with z;lia))).symm
    rw[this] at q';exact q'
   ·rw[JQ h];rw[JQ (λz=>h z.1)] at q';exact cj q'
  ·rintro σ H' Q' ⟨p,ko,z,b1,e1,h6,h3,⟨v,hp,hv⟩,q'⟩;refine⟨_,h3,rfl,_,rfl,?_⟩;rw[CM];by_cases h:z=JO "first"
   ·rw[JS h];refine cg ⟨_,h6,p,_,0,_,rfl,rfl,cu.of hp,cJ (j:=0) rfl,fH,λu hu=>⟨u,_,rfl,.inr (cu.of b6),rfl,rfl,_,rfl,?_⟩⟩;show Q' (e7 (.str (gj ko)) [.str (JO "plain"),.str (JO "("),.str (JO "not")]) _;rw[(jx ko).1,BA _ (jx ko).2];have q2:=q' _ (cq (o:= .tup [.str (JO "plain"),.str (JO "("),.str (JO "not")]) hu);have:decide (z=JO "first"/\(cY ko=1\/cY ko=6\/cY ko=3))=decide (cY ko=1\/cY ko=6\/cY ko=3):=by simp[h]
    rw[this] at q2;exact q2
   ·rw[JQ h];have q2:=q' H' (bY.refl _);rw[JQ (λy=>h y.1)] at q2;exact cj q2
end
open RA (Lf Tr Tk wr brk)
noncomputable def xQ(H:Hp)(q:JR)(y:Nat×Nat):Prop:=H q=some (.tup [.int ((y.1:Nat):Int),.int ((y.2:Nat):Int)])
noncomputable def HX(H:Hp)(l:JR)(ys:JP (Nat×Nat)):Prop:=∃ qs:JP JR,H l=some (.lst (qs.map V.ref))/\Lo (xQ H) qs ys
noncomputable def iN(l:JP Nat):JP V:=l.map λn=>V.int ((n:Nat):Int)
section
variable {P : Ka} {w : Ku} {K : J7} {mg : Str -> JW JT} {base : KP}
noncomputable def zP:Sp:=λvs H Q _=>∃(L:JP Nat) (new:JP (Nat×Nat)) (st:kA),vs=[.str (sT L)]/\L.length<=20000/\fg L 0 ([],[],false)=some st/\st.1=new/\∀ l H',bY H H'->HX H' l new->Q (.ref l) H'
noncomputable abbrev EJ:JP Str:=["_law_line","_law_found","_law_begun","_law_within","_law_at"]
theorem tF:da EJ ["_law_line"] (cG qx):=⟨rfl,rfl,rfl,dkq,rfl,dkq,dkq⟩
seal cH PS PE PT PA PG PI cT cP in
theorem Gp{f:JR}{fd:J2}(D:Df K mg "_law_brackets" qx f fd)(T:Txt mg):bX P w K mg base b7 1 f fd ["_law_line"] zP:=by
 refine D.F.ok tF (λvs H Q E h=>?_) (λcdv A0 outer s H vs Q E hr h=>?_)
 ·obtain⟨L,new,st,rfl,_⟩:=h;rfl
 ·obtain⟨L,new,st,rfl,hl,hR,rfl,q⟩:=h;have sz:sizeLine=16777216:=Kv;have al:(sT L).length=L.length:=dv L;refine⟨_,b9 (IP (i:=1) (j:=2) (k:=3) rfl tF.nd rfl rfl rfl (by decide) (by decide) (by decide) rfl rfl rfl (bU (eZ bV) (bU (eZ bV) (bU ij bV))) rfl)
   (b9 (kT KZ rfl (lF rfl T.range (bU (dE ia rfl T.len e8 (bU (pv 0) bV)) bV)) (eY (i:=4) tF.nd rfl (Kh rfl))
    (b5 (cM (cx cU (cK gI (pv 0) (pv 4) (λ_ _=>rfl)) b8 (cC _)) (b5 (cZ (i:=3) tF.nd rfl (Kh rfl) (xr (pv 3))))
    (b5 (cM (PW.pt (hZ (cx cU (cK gI (pv 0) (pv 4) (λ_ _=>rfl)) b8 (cC _)) (hU (gG (fU (pv 3)))))) (b5 (e9 (f7 Kp KO K6 iM (pv 2) (bU (pv 4) bV))))
    (b5 (cM (PW.pt (hZ (cx cU (cK gI (pv 0) (pv 4) (λ_ _=>rfl)) b8 (cC _)) (hU (gG (fU (pv 3)))))) (b5 (e9 (f7 Kp KO K6 iM (pv 1) (bU (dm (bU (iR Kp LP L4 j8 (pv 2)) (bU (pv 4) bV))) bV)))) cX)))))))
   (b5 (cy (pv 1)))),?_⟩;refine⟨Ks _,λa ha=>⟨Ks _,λg aa=>⟨_,_,_,rfl,?_⟩⟩⟩;have ag:a≠g:=λz=>by rw[<-z,b6] at aa;cases aa
  have aj:H g=none:=by
   cases e:H g with
   |none=>rfl
   |some u=>rw[(cq ha) _ _ e] at aa;cases aa
  have s1:bY H (upd (upd H a (.lst [])) g (.lst [])):=(cq ha).trans (cq aa)
  have ea:upd (upd H a (.lst [])) g (.lst []) a=some (.lst []):=(cq aa) _ _ b6
  have eg:upd (upd H a (.lst [])) g (.lst []) g=some (.lst []):=b6
  show kC _ _ _ [some (.str (sT L)),some (.ref a),some (.ref g),some (.bl false),none] (upd (upd H a (.lst [])) g (.lst []));generalize upd (upd H a (.lst [])) g (.lst [])=H1 at s1 ea eg ⊢;refine⟨_,rfl,_,rfl,dC (by rw[al];lia),_,rfl,by rw[al];lia,by rw[al];lia,?_⟩;rw[al,Oe];refine tP (λi σ H'=>∃(c:kA) (o4:JW V) (qs:JP JR),σ=[some (.str (sT L)),some (.ref a),some (.ref g),some (.bl c.2.2),o4]/\bY H H'/\H' a=some (.lst (qs.map V.ref))/\Lo (xQ H') qs c.1/\H' g=some (.lst (iN c.2.1.reverse))/\qs.length<=i/\c.2.1.length<=i/\fg (L.drop i) i c=some st) ⟨([],[],false),none,[],rfl,s1,ea,.nil,eg,JY _,JY _,by rw[OW];exact hR⟩ ?_ ?_
  ·rintro i σ H' hi ⟨⟨f0,U,w0⟩,o4,qs,rfl,sm,hA,hP,hG,l1,l2,ae⟩;have hc:L[i]? =some L[i]:=List.getElem?_eq_getElem hi;generalize aq:L[i]=c at hc;have ix:iz (sT L).cps.toList ((0:Int)+(i:Nat))=some c:=by rw[OG];exact cJ (j:=i) (by simpa using hc)
   rw[Lb hi,aq] at ae;have J:(f9 c i (f0,U,w0)).bind (fg (L.drop (i+1)) (i+1))=some st:=ae;have l9:(sT L).length<=sizeLine:=dC (by rw[al];lia);have ql:=M8 hP;refine⟨_,rfl,_,rfl,_,_,c,rfl,rfl,l9,ix,rfl,_,rfl,?_⟩;rw[show decide (V.str ⟨#[c]⟩=V.str (JO "\""))=decide (c=34) from gN c 34];by_cases I:c=34
   ·rw[JS I];have e:f9 c i (f0,U,w0)=some (f0,U,!w0):=by unfold f9;rw[J1 I]
    rw[e] at J;exact cg ⟨_,rfl,_,rfl,⟨(f0,U,!w0),_,qs,rfl,sm,hA,hP,hG,by lia,Kz l2,J⟩⟩
   ·rw[JQ I];refine cj ⟨_,rfl,_,rfl,_,_,c,rfl,rfl,l9,ix,rfl,_,rfl,?_⟩;rw[show decide (V.str ⟨#[c]⟩=V.str (JO "("))=decide (c=40) from gN c 40];by_cases ab:c=40
    ·rw[JS ab];refine cg ⟨_,rfl,_,rfl,?_⟩;cases w0 with
     |false=>
      have e:f9 c i (f0,U,false)=some (f0,i::U,false):=by unfold f9;rw[if_neg I,J1 ⟨ab,rfl⟩]
      rw[e] at J;refine cg ⟨_,rfl,.inl ⟨rfl,_,ck.of hG⟩,_,rfl,g,_,_,rfl,rfl,hG,by unfold iN;rw[JX,K8,sz];have h':U.length<=i:=l2;lia,⟨(f0,i::U,false),_,qs,rfl,kH sm aj,by rw[cF ag];exact hA,kP (λq y h=>?_) hP,?_,by lia,by show U.length+1<=i+1;have h':U.length<=i:=l2;lia,J⟩⟩
      ·show upd H' g _ q=_;rw[cF (λz=>by rw[z] at h;rw[show H' g=_ from h] at hG;cases hG)];exact h
      ·rw[b6];show some (HO.lst (iN U.reverse++[V.int ((0:Int)+(i:Nat))]))=some (.lst (iN (i::U).reverse));unfold iN;rw[Ke,J5,OG];rfl
     |true=>
      have e:f9 c i (f0,U,true)=some (f0,U,true):=by unfold f9;rw[if_neg I,if_neg (λz=>by cases z.2),if_neg (λz=>by cases z.2)]
      rw[e] at J;refine cj ⟨_,rfl,_,rfl,_,_,c,rfl,rfl,l9,ix,rfl,_,rfl,?_⟩;rw[show decide (V.str ⟨#[c]⟩=V.str (JO ")"))=decide (c=41) from gN c 41,JQ (by lia)];exact cj (cj ⟨(f0,U,true),_,qs,rfl,sm,hA,hP,hG,by lia,Kz l2,J⟩)
    ·rw[JQ ab];refine cj (cj ⟨_,rfl,_,rfl,_,_,c,rfl,rfl,l9,ix,rfl,_,rfl,?_⟩);rw[show decide (V.str ⟨#[c]⟩=V.str (JO ")"))=decide (c=41) from gN c 41];by_cases af:c=41
     ·rw[JS af];refine cg ⟨_,rfl,_,rfl,?_⟩;cases w0 with
      |true=>
       have e:f9 c i (f0,U,true)=some (f0,U,true):=by unfold f9;rw[if_neg I,if_neg (λz=>by cases z.2),if_neg (λz=>by cases z.2)]
       rw[e] at J;exact cj ⟨(f0,U,true),_,qs,rfl,sm,hA,hP,hG,by lia,Kz l2,J⟩
      |false=>
       cases U with
       |nil=>
        have e:f9 c i (f0,[],false)=none:=by unfold f9;rw[if_neg I,if_neg (λz=>ab z.1),J1 ⟨af,rfl⟩]
        rw[e] at J;cases J
       |cons b g1=>
        have e:f9 c i (f0,b::g1,false)=some (f0++[(b,i)],g1,false):=by unfold f9;rw[if_neg I,if_neg (λz=>ab z.1),J1 ⟨af,rfl⟩]
        rw[e] at J;have ah:H' g=some (.lst (iN g1.reverse++[.int ((b:Nat):Int)])):=by
         rw[show H' g=_ from hG];unfold iN;show some (HO.lst ((b::g1).reverse.map _))=_;rw[Ke,J5];rfl
        have au:g1.length+1<=i:=l2;refine cg ⟨_,rfl,.inl ⟨rfl,_,ck.of hA⟩,_,rfl,.inl ⟨rfl,_,ck.of ah⟩,g,_,_,rfl,rfl,ah,ke,?_⟩;rw[Ln];have tt:TT H' (upd H' g (.lst (iN g1.reverse))):=λc' xs e'=>by rw[cF (λz=>by rw[z,ah] at e';cases e')];exact e'
        have ak:bY H (upd H' g (.lst (iN g1.reverse))):=kH sm aj
        have ai:upd H' g (.lst (iN g1.reverse)) a=some (.lst (qs.map V.ref)):=by rw[cF ag];exact hA
        have ao:upd H' g (.lst (iN g1.reverse)) g=some (.lst (iN g1.reverse)):=b6;generalize upd H' g (.lst (iN g1.reverse))=H2 at tt ak ai ao ⊢;refine⟨_,rfl,eK,λu hu=>⟨a,_,_,rfl,rfl,(cq hu) _ _ ai,by rw[JX,sz];lia,?_⟩⟩;have s3:bY H2 (upd H2 u (.tup [.int ((b:Nat):Int),.int ((0:Int)+(i:Nat))])):=cq hu;have eu:upd H2 u (.tup [.int ((b:Nat):Int),.int ((0:Int)+(i:Nat))]) u=some (.tup [.int ((b:Nat):Int),.int ((0:Int)+(i:Nat))]):=b6;generalize upd H2 u (.tup [.int ((b:Nat):Int),.int ((0:Int)+(i:Nat))])=H3 at s3 eu ⊢;have ar:=s3 _ _ ai;have t4:TT H3 (upd H3 a (.lst (qs.map V.ref++[.ref u]))):=λc' xs e'=>by rw[cF (λz=>by rw[z,ar] at e';cases e')];exact e'
        refine⟨(f0++[(b,i)],g1,false),_,qs++[u],rfl,kH (ak.trans s3) ha,by rw[b6,J5];rfl,sY (kP (λq y h=>t4 _ _ (s3 _ _ (tt _ _ h))) hP) (.cons ?_ .nil),by rw[cF (K5 ag)];exact s3 _ _ ao,by rw[JU];show _+1<=_;lia,by show g1.length<=i+1;lia,J⟩;rw[OG] at eu;exact t4 _ _ eu
     ·rw[JQ af];have e:f9 c i (f0,U,w0)=some (f0,U,w0):=by unfold f9;rw[if_neg I,if_neg (λz=>ab z.1),if_neg (λz=>af z.1)]
      rw[e] at J;exact cj (cj ⟨(f0,U,w0),_,qs,rfl,sm,hA,hP,hG,by lia,Kz l2,J⟩)
  ·rintro σ H' ⟨c,o4,qs,rfl,sm,hA,hP,hG,l1,l2,ae⟩;rw[Ms] at ae;have:c=st:=Kg ae;subst this;exact⟨_,rfl,q a H' sm ⟨qs,hA,hP⟩⟩
end
end K13
namespace L2
open PySem PySem.Spec PyProof.Rows
section
variable {X : Cx} {o : KI} {to : TE} {name : Str} {apos cpos p1 p2 : Pos} {T id : Mx} {r : V -> JP V -> Hp -> VK -> Prop} {i : Int} {j1 j2 : Nat} {y z : Str}
noncomputable def Bg(X:Cx)(e:KI)(t:TE):Prop:=
 ∀(pins:JP (JR×Obj)) (s:JZ) (σ:St) (H:Hp) (Q:VK),Inv X pins σ H s->t σ H Q->Kq (Ko X.prog X.w) X.A (eval e X.env) (λv s'=>1<=s'.toks/\EP X pins σ Q v s') X.xe s
noncomputable def CP(to:TE)(y z:Str):TE:=λσ H Q=>to σ H λx H1=>∃ S,x= .str S/\(y==z)=false/\S.length+(S.length+1)*z.length<=16777216/\Q (.str (Txt.replace S y z)) H1
end
section
variable {X : Cx}
noncomputable def sd(X:Cx)(e:KI)(t:TE):Prop:=
 ∀(pins:JP (JR×Obj)) (s:JZ) (σ:St) (H:Hp) (Q:VK),Inv X pins σ H s->1<=s.toks->t σ H Q->Kq (Ko X.prog X.w) X.A (eval e X.env) (EP X pins σ Q) X.xe s
theorem Ee{e:KI}{t:TE}(h:PE X e t):sd X e t:=λpins s σ H Q I _ q=>h pins s σ H Q I q
theorem Ae{o:KI}{to:TE}{apos cpos p1 p2:Pos}{j1 j2:Nat}{y z:Str}(ho:sd X o to)(hbase:MI o "replace" X.env (eval o X.env)=eval o X.env:=by rfl)(hline:(apos.endLine==cpos.line)=true:=by rfl):
  sd X (.Call (.Attribute o "replace" apos) [.Constant (.str y) j1 p1,.Constant (.str z) j2 p2] [] cpos) (CP to y z):=by
 intro pins s σ H Q I h1 h;refine wpAny_Call_method_late hbase rfl hline rfl (KY (Oj h1 (ho pins s σ H _ I h1 h)) (λv s1 ⟨ht,x,H1,U,r1,S,e,J,hl,q1⟩=>?_) λ_ _ h=>h.2);subst e;obtain⟨t,rfl⟩:=r1;refine⟨"str","str.replace",LA,F.slot_str_replace,F.type_str_replace,Nf _ S t,(λ_ e=>nomatch e),?_⟩;refine MA rfl (MX ?_);refine L6 (NW (k:=j1) (pos:=p1) (L6 (NW (k:=j2) (pos:=p2) (Ni ?_))));refine SC.replace (u:=s1.toks) (v:=s1.toks+1) (OA ht) (Nat.succ_ne_zero _) (Kr (LJ _)) J hl λt' k=>?_
 exact⟨.str (Txt.replace S y z),H1,(U.tok _),⟨_,rfl⟩,q1⟩
noncomputable def AX(X:Cx)(st:K0)(t:TS):Prop:=
 ∀(pins:JP (JR×Obj)) (s:JZ) (σ:St) (H:Hp) (D:Ends),Inv X pins σ H s->1<=s.toks->t D σ H->Kq (Ko X.prog X.w) X.A (exec st X.env) (SP X pins D) X.xe s
noncomputable def tN(X:Cx)(st:K0)(t:TS):Prop:=
 ∀(pins:JP (JR×Obj)) (s:JZ) (σ:St) (H:Hp) (D:Ends),Inv X pins σ H s->t D σ H->Kq (Ko X.prog X.w) X.A (exec st X.env) (λf s'=>1<=s'.toks/\SP X pins D f s') X.xe s
theorem Cy{i:Nat}{x:Str}{e:KI}{te:TE}{pos pos':Pos}(hN:X.N.Nodup)(hi:X.N[i]? =some x)(hx:Loc X.env.scope x)(he:sd X e te)(hs:Ol e (some (.Name x pos')) pos.line X.env=pure false:=by rfl)(hf:X.fn x=true\/X.env.scope.names.lookup x=some .local:=by first|exact .inl rfl|exact .inr rfl|assumption):
  AX X (.Assign [.Name x pos'] e pos) (p9 te (g6 i)):=by
 intro pins s σ H D I h1 h;refine N8 (cv (he pins s σ H _ I h1 h) λv s1 ⟨y,H1,J,r1,U⟩=>?_) hs;exact iU J hN hi hx r1 (λs2 I2=>⟨_,H1,I2,U⟩) hf
theorem G0{i:Nat}{x:Str}{e:KI}{te:TE}{pos pos':Pos}(hN:X.N.Nodup)(hi:X.N[i]? =some x)(hx:Loc X.env.scope x)(he:Bg X e te)(hs:Ol e (some (.Name x pos')) pos.line X.env=pure false:=by rfl)(hf:X.fn x=true\/X.env.scope.names.lookup x=some .local:=by first|exact .inl rfl|exact .inr rfl|assumption):
  tN X (.Assign [.Name x pos'] e pos) (p9 te (g6 i)):=by
 intro pins s σ H D I h;refine N8 (cv (he pins s σ H _ I h) λv s1 ⟨ht,y,H1,J,r1,U⟩=>?_) hs;exact KY (Oj ht (iU (Q:=λ_ s'=>SP X pins D .next s') J hN hi hx r1 (λs2 I2=>⟨_,H1,I2,U⟩) hf)) (λ_ _ h=>h) λ_ _ h=>h.2
theorem Hu{st st2:K0}{rest:JP K0}{t u r:TS}(h1:tN X st t)(h2:AX X st2 u)(h3:cH X rest r):cH X (st::st2::rest) (kC t (kC u r)):=by
 intro pins s σ H D I h;refine M4 (cv (h1 pins s σ H {D with nx:=kC u r D} I h) λf s1 q=>?_);obtain⟨ht,q⟩:=q;cases f with
 |next=>
  obtain⟨J,H',U,q⟩:=q;refine M4 (cv (h2 pins s1 J H' {D with nx:=r D} U ht q) λf s2 q=>?_);cases f with
  |next=>
   obtain⟨J,H',U,q⟩:=q;exact h3 pins s2 J H' D U q
  |ret v=>exact q
  |brk=>exact q
  |cont=>exact q
 |ret v=>exact q
 |brk=>exact q
 |cont=>exact q
noncomputable def vI(X:Cx)(st:JP K0)(t:TS):Prop:=
 ∀(pins:JP (JR×Obj)) (s:JZ) (σ:St) (H:Hp) (D:Ends),Inv X pins σ H s->t D σ H->Kq (Ko X.prog X.w) X.A (execs st X.env) (λf s'=>1<=s'.toks/\SP X pins D f s') X.xe s
theorem Dy{st:K0}{rest:JP K0}{t u:TS}(h1:tN X st t)(h2:cH X rest u):vI X (st::rest) (kC t u):=by
 intro pins s σ H D I h;refine M4 (cv (h1 pins s σ H {D with nx:=u D} I h) λf s1 q=>?_);obtain⟨ht,q⟩:=q;cases f with
 |next=>
  obtain⟨J,H',U,q⟩:=q;exact KY (Oj ht (h2 pins s1 J H' D U q)) (λ_ _ h=>h) λ_ _ h=>h.2
 |ret v=>exact⟨ht,q⟩
 |brk=>exact⟨ht,q⟩
 |cont=>exact⟨ht,q⟩
noncomputable def sq(X:Cx)(es:JP KI)(t:TA):Prop:=
 ∀(pos:Pos) (pins:JP (JR×Obj)) (s:JZ) (σ:St) (H:Hp) (Q:JP V->Hp->Prop),Inv X pins σ H s->t σ H Q->Kq (Ko X.prog X.w) X.A (spliced (Mh pos (KA es X.env))) (λus s'=>1<=s'.toks/\AP X pins σ Q us s') X.xe s
theorem Fg{i:Int}{j:Nat}{p:Pos}:sq X [.Constant (.int i) j p] (wy (tC (.int i)) qf):=by
 intro pos pins s σ H Q I h;exact L6 (wpAny_Constant_int (k:=j) (pos:=p) (Ni ⟨ON 1 _,[.int i],H,I.tok _,.cons ⟨_,rfl⟩ .nil,h⟩))
theorem Ja{e:KI}{es:JP KI}{te:TE}{t:TA}(ha:PE X e te)(hr:sq X es t)(hs:KA (e::es) X.env=(false,eval e X.env)::KA es X.env:=by rfl):sq X (e::es) (wy te t):=by
 intro pos pins s σ H Q I h;rw[hs];show Kq _ _ (spliced ((false,eval e X.env)::Mh pos (KA es X.env))) _ _ s;refine L6 (cv (ha pins s σ H _ I h) λu s1 ⟨x,H1,J,r1,U⟩=>?_);exact cv (hr pos pins s1 σ H1 _ J U) λus s2 ⟨ht,xs,H2,I2,r2,q2⟩=>⟨ht,x::xs,H2,I2,.cons r1 r2,q2⟩
theorem DY{i j:Nat}{x y:Str}{a b:KI}{ta:TA}{px py pt pos:Pos}{kt k2 pt2}(hc:X.calm=true)(hN:X.N.Nodup)(hi:X.N[i]? =some x)(hj:X.N[j]? =some y)(hij:i≠j)
  (hx:X.env.scope.names.lookup x=some .local)(hy:X.env.scope.names.lookup y=some .local)(ha:sq X [a,b] ta)
  (hw:Og [.Tuple [.Name x px,.Name y py] kt pt] (.Tuple [a,b] k2 pt2) X.env=pure (some [x,y]))
  (hs:Of [.Tuple [.Name x px,.Name y py] kt pt] (.Tuple [a,b] k2 pt2) pos.line X.env=pure false:=by rfl):
  tN X (.Assign [.Tuple [.Name x px,.Name y py] kt pt] (.Tuple [a,b] k2 pt2) pos) (xv i j ta):=by
 intro pins s σ H D I h;rw[OH];refine J8 (MH ?_);rw[hs];refine J8 (KN ?_);rw[if_neg (by decide)];refine J8 (Tuple_ (cv (ha _ pins s σ H _ I h) λus s1 ⟨ht,vs,H1,I1,r1,q1⟩=>?_));obtain⟨v,w,e1,q1⟩:=q1;subst e1;obtain⟨J,U,rfl,rv,aa⟩:∃ J U,us=[J,U]/\RelV v J/\RelV w U:=by
  cases r1 with
  |cons p q=>
   cases q with
   |cons p' q'=>
    cases q';exact⟨_,_,rfl,p,p'⟩
 refine MN ?_ (by show 2<=sizeLine;decide);have I2:Inv X pins σ H1 {s1 with heap:=s1.heap.push {cls:= .type "tuple",data:= .seq [J,U].toArray}}:=I1.kept (t':=s1.toks) λb o e=>Heap.get?_push_of_some _ e
 rw[hw];refine J8 (KN ?_);refine KY (Oj (Q:=SP X pins D) (E:=X.xe) (n:=1) (s:={s1 with heap:=s1.heap.push {cls:= .type "tuple",data:= .seq [J,U].toArray}}) ht ?_) (λ_ _ h=>h) λ_ _ h=>h.2
 show Kq (Ko X.prog X.w) X.A (do rule "assign.swapped-stores";let items<-unpackItems (.ref s1.heap.objs.size) 2 none;MG [λv=>Mm X.env y v,λv=>Mm X.env x v] items.reverse;pure Om) _ _ _;refine J8 (wpAny_rule (J8 (N9 (items:=#[J,U]) (I.ok.hd hc) (IsTup.new s1.heap _) λh' ab=>?_)));have I3:=I2.kept (h':=h') (t':=s1.toks) λb o e=>ab b o (Kr (Kb e)) e
 show Kq _ _ (MG [λv=>Mm X.env y v,λv=>Mm X.env x v] [U,J] >>= λ_=>pure Om) _ _ _;refine J8 (LH (Mn (iU I3 hN hj (.inl hy) aa (λs2 I4=>?_) (.inr hy))));refine LH (Mn (iU I4 hN hi (.inl hx) rv (λs3 I5=>Nh (KN ?_)) (.inr hx)));rw[Ny _ _ (K5 hij)] at I5;exact⟨_,H1,I5,q1⟩
end
structure kG (P : Ka) (w : Ku) (K : Kl) (mg : Str -> JW JT) (base : KP) (k : Nat) (f : JR) (fd : J2) (ps : JP Str) (sp : Sp) : Prop where
 len : ∀ vs H Q E, sp vs H Q E -> vs.length = ps.length
 run : ∀ (A : K4) (outer : JP Env) (s : JZ) (H : Hp) (args : Args) (us : JP JT) (vs : JP V) (Q : VK) (E : XK), eF k A -> k4 P w K mg base A outer s H -> O1 s fd args (ps.zip us) -> Vals vs us -> sp vs H Q E ->
  Nz (Ko P w) A (.call (.ref f) args) (λr s' => 1<=s'.toks /\ CR b7 outer P w H s Q E r s') s
theorem Fd{P:Ka}{w:Ku}{K:Kl}{mg:Str->JW JT}{base:KP}{k:Nat}{f:JR}{name qual:Str}{params:Arguments}{body:JP K0}{scope:MS}{dV kV doc pm cdv ct oc:JT}{an od:JW JR}
  {osl:MM (JW JT)}{N ps:JP Str}{sp:Sp}(lk:K.lookup f=some ⟨oc,od,.func (Nk name qual params body scope dV kV doc pm an cdv ct),osl⟩)(hcd:N1 K cdv qual=true)(S:da N ps scope)
  (len:∀ vs H Q E,sp vs H Q E->vs.length=ps.length)
  (hbody:∀(A:K4) (outer:JP Env) (s:JZ) (H:Hp) (vs:JP V) (Q:VK) (E:XK),eF k (A.deeper (Mz qual scope s.heap.objs.size f cdv))->sp vs H Q E->
   ∃ t,vI (eM b7 P w K mg base N qual scope f cdv A outer s H E).nox body t/\t {nx:=λ_ H'=>Q .non H',rt:=Q} (start N vs) H):
  kG P w K mg base (k+1) f (Nk name qual params body scope dV kV doc pm an cdv ct) ps sp:=by
 refine⟨len,λA outer s H args us vs Q E hr e0 hb r ab=>?_⟩;have hl:=len _ _ _ _ ab;have KX:K.In s.heap:=e0.mod.kin.keeps λb o e=>(e0.bs b o e).1
 have lim:s.heap.NoLimit:=e0.mod.nolimit.keeps λb o e=>(e0.bs b o e).1
 have aa:∀ y∈ps.zip us,scope.names.lookup y.1=some .local\/(scope.names.lookup y.1=some .cell/\((cellsFrom (s.heap.objs.size+1) scope.names []).lookup y.1).isSome=true):=λ⟨n,v⟩ hy=>by
  rcases S.par n (NI hy).1 with q|q
  ·exact .inl q
  ·exact .inr ⟨q,Oq _ _ _ (.inl q)⟩
 refine codeAny_call_function hr.depth (KX _ _ lk) rfl S.co S.gen rfl (W.codeRec_of KX hcd) (hb _ _ _ _ ?_);refine N2 S.kind aa λenv he s1 x=>?_
 subst he;refine⟨lim.keeps x.toInCall.keep,codeAny_func ?_⟩;obtain⟨t,ht,hq⟩:=hbody A outer s H vs Q E (hr.deeper _) ab;have I:Inv (eM b7 P w K mg base N qual scope f cdv A outer s H E) [] (start N vs) H s1:=yG S hr.hd e0 hl r x;refine KY (ht [] s1 (start N vs) H _ (I.wish _) hq) (λfl s' hs=>?_) λe s' hs=>La hs
 obtain⟨htk,ae⟩:=hs;have hs:=ae.unwish;have fin:∀{U:St} {H':Hp} {v:V} {u:JT},Inv (eM b7 P w K mg base N qual scope f cdv A outer s H E) [] U H' s'->RelV v u->Q v H'->CE outer P w H s Q u s':=
  λ{U H' v u} J rv q=>⟨v,H',J.os,J.bare,J.base,J.hok,rv,q⟩;cases fl with
 |ret u=>
  obtain⟨v,U,H',J,rv,q⟩:=hs;exact⟨htk,fin J rv q⟩
 |next=>
  obtain⟨U,H',J,q⟩:=hs;exact⟨htk,fin (v:=V.non) (u:=My) J rfl q⟩
 |brk=>
  obtain⟨_,_,_,q⟩:=hs;exact La q
 |cont=>
  obtain⟨_,_,_,q⟩:=hs;exact La q
theorem ej.okT {P:Ka}{w:Ku}{K:Kl}{mg:Str->JW JT}{base:KP}{x qual:Str}{st:K0}{f:JR}{fd:J2}{N ps:JP Str}{k:Nat}{sp:Sp}(F:ej K x qual st f fd)(S:da N ps (cG st))(len:∀ vs H Q E,sp vs H Q E->vs.length=ps.length)
  (hbody:∀(cdv:JT) (A:K4) (outer:JP Env) (s:JZ) (H:Hp) (vs:JP V) (Q:VK) (E:XK),eF k (A.deeper (Mz qual (cG st) s.heap.objs.size f cdv))->sp vs H Q E->
   ∃ t,vI (eM b7 P w K mg base N qual (cG st) f cdv A outer s H E).nox (iC st) t/\t {nx:=λ_ H'=>Q .non H',rt:=Q} (start N vs) H):kG P w K mg base (k+1) f fd ps sp:=by
 obtain⟨oc,od,kV,doc,pm,an,cdv,ct,I,rfl,lk,J⟩:=F.ex;exact Fd lk J S len λA outer s H vs Q E hr U=>hbody cdv A outer s H vs Q E hr U
section
variable {X : Cx} {k : Nat} {f : JR} {fd : J2} {ps : JP Str} {sp : Sp} {x : Str} {p pos : Pos} {e : KI} {es : JP KI} {t : TA} {ds : JP JT} {dvs : JP V}
theorem IS(F:kG X.prog X.w X.K X.mg X.base k f fd ps sp)(hr:eF k X.A)(hg:Gl X x)(hm:X.mg x=some (.ref f))(hk:ME X.K (.ref f)=true)(hb:Binds X.K fd ps ds)(hd:Vals dvs ds)
  (ha:PA X (e::es) t)(hdb:(x==("__debug__":Str))=false:=by decide)(he:KA (e::es) X.env=(false,eval e X.env)::KA es X.env:=by rfl)(hpl:(Mh pos (KA es X.env)).any (·.1)=false:=by rfl):
  Bg X (.Call (.Name x p) (e::es) [] pos) (yt sp dvs E0 t):=by
 intro pins s σ H Q I h;refine LU (jw I hg hm ?_ hdb);refine NR (h₀:=X.base) I.ok.mod.kin hk (cv (ha pos pins s σ H _ I h) λus s1 ⟨vs,H1,U,r,q⟩=>⟨U.kIn,?_⟩) he hpl;have r2:Vals (vs++dvs) (us++ds):=r.append hd;have hl:(us++ds).length=ps.length:=by rw[<-r2.length];exact F.len _ _ _ _ q
 refine O4 (Nj (F.run X.A X.stack s1 H1 ⟨us,[]⟩ (us++ds) (vs++dvs) Q E0 hr U.env0 (hb s1 us U.kIn hl) r2 q) λr s' J=>?_);obtain⟨ht,J⟩:=J;cases r with
 |error e=>exact(show LG from J).elim
 |ok fl=>
  cases fl with
  |ret u=>exact⟨ht,U.after J⟩
  |next=>exact La J
  |brk=>exact La J
  |cont=>exact La J
end
end L2
namespace K13
open PySem L2 PyProof.Rows PySem.Spec Gn K01
open RA (Lf Tr Tk wr brk)
noncomputable def dG:At->Nat
 |.both a b=>1+(dG a+dG b)|.either a b=>dG a+dG b|.near a b _=>dG a+dG b|.no a=>dG a|_=>0
noncomputable def uR:At->KS
 |.both _ _=>true|_=>false
theorem IK(t:At):dG t=(if uR t then 1 else 0)+(t.kids.map dG).sum:=by
 cases t with
 |word z=>rfl
 |start z=>rfl
 |row z=>rfl
 |near a b n=>show _=0+(dG a+(dG b+0));show dG a+dG b=_;lia
 |both a b=>show 1+(dG a+dG b)=1+(dG a+(dG b+0));lia
 |either a b=>show dG a+dG b=0+(dG a+(dG b+0));lia
 |no a=>show dG a=0+(dG a+0);lia
theorem kL:∀ t:At,dG t<=t.many
 |.word _=>Ks _
 |.start _=>Ks _
 |.row _=>Ks _
 |.near a b n=>by have:=kL a;have:=kL b;show dG a+dG b<=1+(a.many+b.many);lia
 |.both a b=>by have:=kL a;have:=kL b;show 1+(dG a+dG b)<=1+(a.many+b.many);lia
 |.either a b=>by have:=kL a;have:=kL b;show dG a+dG b<=1+(a.many+b.many);lia
 |.no a=>by have:=kL a;show dG a<=1+a.many;lia
theorem og:∀{t:At},Gd t->gZ t.tr=dG t
 |.word _,_=>rfl
 |.start _,_=>rfl
 |.row _,_=>rfl
 |.near a b n,h=>by
  have z:∀{x:At},gs x.kn=true->dG x=0:=λ{x} J=>by cases x<;>first|rfl|cases J
  show 0=dG a+dG b;rw[z h.1.1,z h.1.2]
 |.both a b,h=>by show 1+(gZ a.tr+gZ b.tr)=1+(dG a+dG b);rw[og h.1,og h.2]
 |.either a b,h=>by show gZ a.tr+gZ b.tr=dG a+dG b;rw[og h.1,og h.2]
 |.no a,h=>by show gZ a.tr=dG a;rw[og (t:=a) h]
theorem EI(t:At):decide (V.str t.nm=V.str (JO "both"))=uR t:=by
 cases t with
 |word z=>exact(show decide (V.str (JO "word")=V.str (JO "both"))=false from dkq)
 |start z=>exact(show decide (V.str (JO "start")=V.str (JO "both"))=false from dkq)
 |row z=>exact(show decide (V.str (JO "row")=V.str (JO "both"))=false from dkq)
 |near a b n=>exact(show decide (V.str (JO "near")=V.str (JO "both"))=false from dkq)
 |both a b=>exact(show decide (V.str (JO "both")=V.str (JO "both"))=true from dkq)
 |either a b=>exact(show decide (V.str (JO "either")=V.str (JO "both"))=false from dkq)
 |no a=>exact(show decide (V.str (JO "not")=V.str (JO "both"))=false from dkq)
section
variable {P : Ka} {w : Ku} {K : J7} {mg : Str -> JW JT} {base : KP}
noncomputable def rX(n:Nat):Sp:=λvs H Q _=>∃(x:V) (t:At),vs=[x]/\cD false H x t.told/\t.dep<=n/\t.many<=100000/\∀ H',bY H H'->Q (.int ((dG t:Nat):Int)) H'
noncomputable def F7:Nat->Sp
 |0=>λ_ _ _ _=>LG
 |n+1=>rX n
theorem E7:da ["_law_told"] ["_law_told"] (cG mZ):=⟨rfl,rfl,rfl,dkq,rfl,dkq,dkq⟩
theorem Js:(["_law_kid"]:JP Str).Nodup:=dkq
seal cH PS PE PT PA PG PI cT cP in
theorem yj{f fk:JR}{fd fdk:J2}(D:Df K mg "_law_ands" mZ f fd)(DK:Df K mg "_law_kids" kQ fk fdk)(T:Txt mg)(n:Nat)(GM:bX P w K mg base b7 (n+1) f fd ["_law_told"] (F7 n)):bX P w K mg base b7 (n+2) f fd ["_law_told"] (rX n):=by
 have bM:=dY (p:="_law_told") D.F λ_ _ _ _ _ _ _=>rfl
 have GK:bX P w K mg base b7 (n+1) fk fdk ["_law_told"] sU:=(wK DK).mono (by lia)
 have bK:=dY (p:="_law_told") DK.F λ_ _ _ _ _ _ _=>rfl
 have hz:(sizeLine:Nat)=16777216:=Kv;refine D.F.ok E7 (λvs H Q E h=>?_) (λcdv A outer s H vs Q E hr h=>?_)
 ·obtain⟨x,t,rfl,_⟩:=h;rfl
 ·obtain⟨x,t,rfl,hx,hd,hm,k⟩:=h;refine⟨_,b5 (cy (cA eD (ie lV rfl T.int jJ (bU (ip cU (cK dS (pv 0) bZ (λ_ _=>rfl)) b8 rfl) bV)) (dE (Ak rfl) rfl T.sum Al (bU (jF (own:=1) (caps:=[]) (N:=["_law_kid"]) (N0:=["_law_told"]) (sc0:=cG mZ) rfl
    (pj (cQ GK hr rfl DK.m DK.F.kp bK .nil cz (bU (pv 0) bV))) (λ_ _ _=>eY (i:=0) Js rfl (Kh rfl)) (λ_ _ _=>i9)
    (λ_ _ _=>cQ GM hr rfl D.m D.F.kp bM .nil cz (bU (pv 0) bV)) (iX (by decide)) rfl rfl
    dkq rfl dkq dkq rfl dkq) bV)))),?_⟩;obtain⟨p,ab,rfl,ha,hs⟩:=(t.told_eq ▸ hx).t0;refine⟨_,rfl,p,_,0,_,rfl,rfl,cu.of ha,cJ (j:=0) rfl,rfl,.inr ⟨_,rfl,?_⟩⟩;rw[EI];refine⟨_,rfl,.ref p,t,rfl,hx,λl xs H1 s1 hl el J=>?_⟩;have kl:=t.kids_len;have xl:xs.length=t.kids.length:=by rw[J.len,JX]
  refine⟨l,rfl,⟨_,ck.of el⟩,rC (xs:=xs) (λi ys H'=>bY H1 H'/\ys=(t.kids.take i).map λk=>V.int ((dG k:Nat):Int)) (by lia) (λi ys H' ⟨e,_⟩=>ck.of (e _ _ el)) ⟨bY.refl _,rfl⟩ ?_ ?_⟩
  ·rintro i y ys H' N hy ⟨sm,rfl⟩ hN;obtain⟨d,U,pd⟩:=vS J hy;rw[List.getElem?_map] at U;cases hkd:t.kids[i]? with
   |none=>rw[hkd] at U;cases U
   |some kd=>
    rw[hkd] at U;have aa:kd.told=d:=Kg U;have I:=List.mem_of_getElem? hkd;have d1:=At.kids_dep I;have m1:=At.kids_many I;refine g1 ?_
    match n,GM,hd with
    |0,_,hd=>lia
    |n+1,_,hd=>
     refine⟨_,rfl,y,kd,rfl,by rw[aa];exact pd.same sm,by lia,by lia,λH2 s2=>hN _ _ ⟨sm.trans s2,?_⟩⟩;rw[Lk,hkd,J5];rfl
  ·rintro ys H' ⟨sm,rfl⟩ _ u hu;have mk:=IK t;have am:=kL t;have e1:(t.kids.take xs.length).map (λk=>V.int ((dG k:Nat):Int))=(t.kids.map dG).map λ(n:Nat)=>V.int (n:Int):=by
    rw[xl,Mq,LB];rfl
   refine⟨u,t.kids.map dG,rfl,ck.of (by rw[b6,e1]),by lia,_,_,rfl,rfl,?_⟩;have:=k _ ((s1.trans sm).trans (cq (o:= .lst ((t.kids.take xs.length).map λk=>V.int ((dG k:Nat):Int))) hu));rw[mk] at this;cases hb:uR t<;>(rw[hb] at this;exact this)
theorem x8{f fk:JR}{fd fdk:J2}(D:Df K mg "_law_ands" mZ f fd)(DK:Df K mg "_law_kids" kQ fk fdk)(T:Txt mg):∀ n:Nat,bX P w K mg base b7 (n+2) f fd ["_law_told"] (rX n)
 |0=>yj D DK T 0 tH
 |n+1=>yj D DK T (n+1) (x8 D DK T n)
noncomputable def xx:Sp:=λvs H Q _=>∃ J:JP Tk,vs=[.str (sT (tl .lp J))]/\(tl .lp J).length<=2000/\(∀ k∈J,gK k)/\∀ l H',bY H H'->H' l=some (.lst ((dI J).map λw=>V.str (sT w)))->Q (.ref l) H'
noncomputable abbrev D0:JP Str:=["_law_line","_law_found","_law_at","_law_piece_here"]
theorem sZ:da D0 ["_law_line"] (cG qe):=⟨rfl,rfl,rfl,dkq,rfl,dkq,dkq⟩
theorem Ea:∀ n<8,e7 (.str (kR n)) [.str (JO "("),.str (JO ")"),.str (JO "end")]=decide (n=6\/n=7\/n=0):=dkq
theorem FZ(k:Tk):lE k=decide (cY (some k)=6\/cY (some k)=7\/cY (some k)=0):=by cases k<;>rfl
seal cH PS PE PT PA PG PI cT cP in
theorem CD{f fc:JR}{fd fdc:J2}(D:Df K mg "_law_words_of" qe f fd)(DC:Df K mg "_law_piece" mv fc fdc)(GC0:bX P w K mg base b7 3 fc fdc ["_law_line","_law_at"] tD)(T:Txt mg):kG P w K mg base 4 f fd ["_law_line"] xx:=by
 have GC:bX P w K mg base b7 3 fc fdc ["_law_line","_law_at"] wx:=bX.imp GC0 λ_ _ _ _=>xA
 have bC:=DC.F.binds (ps:=["_law_line","_law_at"]) λ_ _ _ _ _ _ us hl=>eU (λ_ _=>rfl) us hl
 refine D.F.okT sZ (λvs H Q E h=>?_) (λcdv A0 outer s H vs Q E hr h=>?_)
 ·obtain⟨ts,rfl,_⟩:=h;rfl
 ·obtain⟨ts,rfl,hl,hg,q⟩:=h;have sz:sizeLine=16777216:=Kv;have ae:=oZ ts .lp hg;generalize hL:tl .lp ts=L at hl ae;have al:(sT L).length=L.length:=dv L;refine⟨_,Dy (DY (i:=1) (j:=2) rfl sZ.nd rfl rfl (by decide) rfl rfl (Ja (eZ bV) Fg) rfl)
   (b9 (kj KZ (cx iS (pv 2) (dE ia rfl T.len e8 (bU (pv 0) bV)) (cC _))
    (b9 (cZ (i:=3) sZ.nd rfl (Kh rfl) (cQ GC hr rfl DC.m DC.F.kp bC .nil cz (bU (pv 0) (bU (pv 2) bV))))
    (b9 (cM (cx EH (cK dS (pv 3) bZ (λ_ _=>rfl)) (dm (bU b8 (bU b8 (bU b8 bV)))) (by with_unfolding_all rfl)) (b5 (e9 (f7 Kp KO K6 iM (pv 1) (bU (gP gM (pv 0) (fE (cK dS (pv 3) bZ (λ_ _=>rfl))) (fE (cK dS (pv 3) bZ (λ_ _=>rfl)))) bV)))) cX)
    (b5 (cZ (i:=2) sZ.nd rfl (Kh rfl) (cK dS (pv 3) bZ (λ_ _=>rfl)))))))
   (b5 (cy (pv 1)))),?_⟩;refine⟨Ks _,λa ha=>⟨_,_,rfl,?_⟩⟩;have s1:bY H (upd H a (.lst [])):=cq ha;have ea:upd H a (.lst []) a=some (.lst []):=b6;show kC _ _ _ [some (.str (sT L)),some (.ref a),some (.int 0),none] (upd H a (.lst []));generalize upd H a (.lst [])=H1 at s1 ea ⊢;refine kq (λσ H'=>∃(k:Tk) (r:JP Tk) (b:Nat) (ws:JP (JP Nat)) (o3:JW V),σ=[some (.str (sT L)),some (.ref a),some (.int ((b:Nat):Int)),o3]/\bY H H'/\H' a=some (.lst (ws.map λw=>V.str (sT w)))/\ws++dI r=dI ts/\L.drop b=tl k r/\b<=L.length/\(∀ q∈r,gK q)/\ws.length+r.length<=ts.length) (λσ _=>match σ with|[_,_,some (.int r),_]=>L.length-r.toNat|_=>0) ⟨.lp,ts,0,[],none,rfl,s1,ea,rfl,by rw[OW,hL],Ks _,hg,by show 0+_<=_;lia⟩ ?_ ?_
  ·rintro σ H' ⟨k,r,b,ws,o3,rfl,sm,hA,hw,hd,hb,J,hlen⟩;refine⟨_,rfl,_,rfl,_,rfl,dC (by rw[al];lia),_,_,rfl,rfl,_,rfl,?_⟩;rw[al];by_cases ai:b<L.length
   ·rw[JS (show((b:Nat):Int)<(L.length:Int) by lia)];cases r with
    |nil=>
     have:L.length<=b:=List.drop_eq_nil_iff.mp hd
     lia
    |cons k2 r2=>
     refine cg ⟨_,rfl,_,rfl,L,b,k,k2::r2,some k2,_,_,rfl,by lia,hb,hd,J,.inr ⟨k2,r2,rfl,rfl,rfl,rfl⟩,λp H2 s2 hp=>?_⟩;obtain⟨v,aa,hv⟩:=id hp;have gk:=J k2 (by simp);have af:L.drop b=cL k k2++(txt k2++tl k2 r2):=hd;have d1:L.drop (b+(cL k k2).length)=txt k2++tl k2 r2:=iA af;have d2:L.drop (b+(cL k k2).length+(txt k2).length)=tl k2 r2:=iA d1;have tp:=tR gk;have ll:=K9 Mw d1;rw[KH,JU] at ll;generalize aj:b+(cL k k2).length=b1 at *;have ag:=s2 _ _ hA;refine⟨_,rfl,p,_,0,_,rfl,rfl,cu.of aa,cJ (j:=0) rfl,fH,λu hu=>?_⟩;have s3:bY H2 (upd H2 u (.tup [.str (JO "("),.str (JO ")"),.str (JO "end")])):=cq hu;have eu:upd H2 u (.tup [.str (JO "("),.str (JO ")"),.str (JO "end")]) u=some (.tup [.str (JO "("),.str (JO ")"),.str (JO "end")]):=b6;generalize upd H2 u (.tup [.str (JO "("),.str (JO ")"),.str (JO "end")])=H3 at s3 eu ⊢;refine⟨u,_,rfl,.inr (cu.of eu),rfl,rfl,_,rfl,?_⟩;show if (!e7 (.str (gj (some k2))) [.str (JO "("),.str (JO ")"),.str (JO "end")])=true then _ else _
     rw[(jx (some k2)).1,Ea _ (jx (some k2)).2,<-FZ];have U:=s3 _ _ aa;have I:=s3 _ _ ag;have ab:=(sm.trans s2).trans s3;rw[JV] at hlen;cases hB:lE k2 with
     |true=>
      have ew:dI (k2::r2)=dI r2:=by unfold dI;rw[LX,hB];rfl
      refine cj ⟨_,rfl,p,_,3,_,rfl,rfl,cu.of U,cJ (j:=3) rfl,⟨k2,r2,_,ws,_,rfl,ab,I,by rw[<-ew];exact hw,d2,by lia,λq hq=>J q (J0 _ hq),by lia⟩,?_⟩;show L.length-((b1+(txt k2).length:Nat):Int).toNat<L.length-((b:Nat):Int).toNat
      lia
     |false=>
      have ew:dI (k2::r2)=txt k2::dI r2:=jK hB r2
      have ah:RA.sl L b1 (b1+(txt k2).length)=txt k2:=by
       unfold RA.sl;rw[d1,Lj,L8]
      refine cg ⟨_,rfl,.inl ⟨rfl,_,ck.of I⟩,_,rfl,_,rfl,p,_,2,_,rfl,rfl,cu.of U,cJ (j:=2) rfl,_,rfl,_,rfl,p,_,3,_,rfl,rfl,cu.of U,cJ (j:=3) rfl,_,rfl,_,rfl,dC (by rw[al];lia),a,_,_,rfl,rfl,I,by rw[JX,sz];lia,?_⟩;rw[jf L (by lia) (by lia),ah];have t4:TT H3 (upd H3 a (.lst ((ws.map λw=>V.str (sT w))++[.str (sT (txt k2))]))):=λc xs e=>by rw[cF (λz=>by rw[z,I] at e;cases e)];exact e
      refine⟨_,rfl,p,_,3,_,rfl,rfl,cu.of (t4 _ _ U),cJ (j:=3) rfl,⟨k2,r2,_,ws++[txt k2],_,rfl,kH ab ha,by rw[b6,J5];rfl,by rw[ew] at hw;rw[Kt];exact hw,d2,by lia,λq hq=>J q (J0 _ hq),by rw[JU];show _+1+_<=_;lia⟩,?_⟩;show L.length-((b1+(txt k2).length:Nat):Int).toNat<L.length-((b:Nat):Int).toNat
      lia
   ·rw[JQ (show ¬ ((b:Nat):Int)<(L.length:Int) by lia)];have er:r=[]:=by
     cases r with
     |nil=>rfl
     |cons k2 r2=>
      have:=K9 Mw hd;rw[KH] at this;have tp:=oZ (k2::r2) k J;rw[JV] at tp
      lia
    subst er;have ew:ws=dI ts:=by rw[<-hw];show ws=ws++[];rw[KR]
    rw[ew] at hA;exact cj ⟨_,rfl,q a H' sm hA⟩
  ·intro σ H' Q1 Q2 hq h;obtain⟨x,h1,y,h2,z,h3,h4,i,j,e1,e2,b,e3,q⟩:=h;exact⟨x,h1,y,h2,z,h3,h4,i,j,e1,e2,b,e3,hq _ _ q⟩
end
theorem zt:∀ zs:JP Str,OO (zs.map .str)=0
 |[]=>rfl
 |z::zs=>by show max 0 (OO (zs.map .str))=0;rw[zt zs];rfl
theorem jI:∀ t:At,t.told.depth<=t.dep+2
 |.word z=>by show max 0 (max 0 0)+1<=0+2;decide
 |.start z=>by show max 0 (max 0 0)+1<=0+2;decide
 |.row zs=>by
  show max 0 (max (OO (zs.map .str)+1) 0)+1<=0+2;rw[zt];decide
 |.near a b n=>by
  have h1:=jI a
  have h2:=jI b
  show max 0 (max a.told.depth (max b.told.depth (max 0 0)))+1<=max a.dep b.dep+1+2
  lia
 |.both a b=>by
  have h1:=jI a
  have h2:=jI b
  show max 0 (max a.told.depth (max b.told.depth 0))+1<=max a.dep b.dep+1+2
  lia
 |.either a b=>by
  have h1:=jI a
  have h2:=jI b
  show max 0 (max a.told.depth (max b.told.depth 0))+1<=max a.dep b.dep+1+2
  lia
 |.no a=>by
  have h1:=jI a
  show max 0 (max a.told.depth 0)+1<=a.dep+1+2
  lia
theorem nK:∀{t:At},Gd t->dZ t.tr=t.many
 |.word _,_=>rfl
 |.start _,_=>rfl
 |.row _,_=>rfl
 |.near a b n,h=>by show 3=1+(a.many+b.many);rw[At.lf_many h.1.1,At.lf_many h.1.2]
 |.both a b,h=>by show 1+(dZ a.tr+dZ b.tr)=1+(a.many+b.many);rw[nK h.1,nK h.2]
 |.either a b,h=>by show 1+(dZ a.tr+dZ b.tr)=1+(a.many+b.many);rw[nK h.1,nK h.2]
 |.no a,h=>by show 1+dZ a.tr=1+a.many;rw[nK (t:=a) h]
theorem Ha(l:JP Nat):codes (sT l)=l:=by simp[codes]
theorem zW(c:Nat):∀ Ps:JP Str,(∀ p∈Ps,c∉p.cps.toList)->(codes (Pa ⟨#[c]⟩ Ps)).filter (λd=>decide (d≠c))=codes (Pa (JO "") Ps)
 |[],_=>rfl
 |[p],h=>by
  show(codes p).filter _=codes p;exact List.filter_eq_self.mpr λd hd=>JS λe=>h p (by simp) (by rw[<-e];exact hd)
 |p::q::r,h=>by
  have J:=zW c (q::r) λx U=>h x (J0 _ U)
  show(codes (p++⟨#[c]⟩++Pa ⟨#[c]⟩ (q::r))).filter _=codes (p++JO ""++Pa (JO "") (q::r))
  have ca:∀ a b:Str,codes (a++b)=codes a++codes b:=λa b=>by unfold codes;rw[PySem.Str.cps_append,Array.toList_append]
  rw[ca,ca,ca,ca,L9,L9,J];have I:(codes p).filter (λd=>decide (d≠c))=codes p:=List.filter_eq_self.mpr λd hd=>JS λe=>h p (by simp) (by rw[<-e];exact hd)
  have e2:(codes (⟨#[c]⟩:Str)).filter (λd=>decide (d≠c))=[]:=by show [c].filter _=[];simp
  rw[I,e2];rfl
theorem vc(l:JP Nat)(c:Nat):Txt.replace (sT l) ⟨#[c]⟩ (JO "")=sT (l.filter λd=>decide (d≠c)):=by
 rw[StrLaws.replace_one];have h:=zW c _ (StrLaws.split_free (sT l) c);rw[StrLaws.join_split,Ha] at h;rw[h];exact(toStr _).symm
theorem Dv(l:JP Nat):Txt.replace (Txt.replace (sT l) (JO "(") (JO "")) (JO ")") (JO "")=sT (fu l):=by
 have J:Txt.replace (sT l) (JO "(") (JO "")=_:=vc l 40;rw[J];exact vc _ 41
theorem Aa:∀(r:JP Tk) (k:Tk),(((dI r).map sT).map (·.length)).sum<=(tl k r).length
 |[],_=>JY _
 |q::r,k=>by
  have J:=Aa r q
  show _<=(cL k q++(txt q++tl q r)).length;rw[JU,JU];cases hb:lE q with
  |true=>
   have e:dI (q::r)=dI r:=by unfold dI;rw[LX,hb];rfl
   rw[e]
   lia
  |false=>
   rw[jK hb,KU,KU,NC,dv]
   lia
theorem C9(l:JP Nat){a:Nat}(ha:a<=l.length):Txt.slice ⟨l.toArray⟩ none (some (a:Int))=sT (l.take a):=by
 have J:(sT l).cps.toList.length=l.length:=by simp
 have U:Txt.slice (sT l) none (some (a:Int))=_:=L7 ⟨by lia,by rw[J];lia⟩;refine U.trans ?_;simp[sT]
section
variable {P : Ka} {w : Ku} {K : J7} {mg : Str -> JW JT} {base : KP} {C fW fT : Kn -> JR} {dW dT' : Kn -> J2}
noncomputable def Ba(C:Kn->JR):Sp:=λvs H Q _=>∃(a:JR) (x:V) (t:At),vs=[.ref a,x]/\d0 C H a t/\cD false H x t.told/\Gd t/\t.dep<=7/\t.many<=33/\∀ H',bY H H'->Q (.bl true) H'
noncomputable abbrev FX:JP Str:=["_law_ask","_law_told","_law_line","_law_pieces","_law_plain_here","_law_begin","_law_end","_law_fewer"]
theorem lU:da FX ["_law_ask","_law_told"] (cG qo):=⟨rfl,rfl,rfl,dkq,rfl,dkq,dkq⟩
seal cH PS PE PT PA PG PI cT cP in
theorem Iw{f fr fa fo fn fb:JR}{fd fdr fda fdo fdn fdb:J2}(D:Df K mg "_law_right" qo f fd)(T:Txt mg)(Cl:Cs K C)(MW:Mt K C "written" iB fZ fW dW)(GW0:∀ i,bX P w K mg base b7 16 (fW i) (dW i) ["self"] (gp C 7 i))(MT:Mt K C "told" oF mx fT dT')(DR:Df K mg "_law_read" pP fr fdr)(GR:bX P w K mg base b7 16 fr fdr ["_law_line"] uL)(DA:Df K mg "read_ask" nC fa fda)(GA:bX P w K mg base b7 16 fa fda ["line"] (v5 C))
  (DO:Df K mg "_law_words_of" qe fo fdo)(GO:kG P w K mg base 16 fo fdo ["_law_line"] xx)(DN:Df K mg "_law_ands" mZ fn fdn)(GN:bX P w K mg base b7 16 fn fdn ["_law_told"] (rX 7))(DB:Df K mg "_law_brackets" qx fb fdb):bX P w K mg base b7 17 f fd ["_law_ask","_law_told"] (Ba C):=by
 have GT:∀ i,bX P w K mg base b7 16 (fT i) (dT' i) ["self"] (pL C 7 i):=λi=>(vt Cl MT 7 i).mono (by decide)
 have GB:bX P w K mg base b7 16 fb fdb ["_law_line"] zP:=(Gp DB T).mono (by decide)
 have bR:=dY (p:="_law_line") DR.F λ_ _ _ _ _ _ _=>rfl
 have bA:=dY (p:="line") DA.F λ_ _ _ _ _ _ _=>rfl
 have bO:=dY (p:="_law_line") DO.F λ_ _ _ _ _ _ _=>rfl
 have bN:=dY (p:="_law_told") DN.F λ_ _ _ _ _ _ _=>rfl
 have bB:=dY (p:="_law_line") DB.F λ_ _ _ _ _ _ _=>rfl
 refine D.F.ok lU (λvs H Q E h=>?_) (λcdv A0 outer s H vs Q E hr h=>?_)
 ·obtain⟨a,x,t,rfl,_⟩:=h;rfl
 ·obtain⟨a,x,t,rfl,hA,hx,I,hd,hm,q⟩:=h;refine⟨_,b9 (cZ (i:=2) lU.nd rfl (Kh rfl) (gc (pv 0) Cl.cl MW.M GW0 hr (jm MW) cz))
   (b9 (cM (PW.pt (gu (gG (fU (dE jv rfl T.isi iF (bU (pv 2) (bU (lj (v:= .ty "str") rfl T.str nj rfl) bV))))) (ig (cx (sO hr.units100) (cQ GR hr rfl DR.m DR.F.kp bR .nil cz (bU (pv 2) bV)) (pv 1) (cC _))))) (b5 (cy ij)) cX)
   (b9 (cM (cx (sO hr.units100) (gc (cQ GA hr rfl DA.m DA.F.kp bA .nil cz (bU (pv 2) bV)) Cl.cl MT.M GT hr (kx MT) cz) (pv 1) (cC _)) (b5 (cy ij)) cX)
   (Hu (G0 (i:=3) lU.nd rfl (Kh rfl) (IS GO hr rfl DO.m DO.F.kp bO .nil (bU (pv 2) bV))) (Cy (i:=4) lU.nd rfl (Kh rfl) (Ae (Ae (Ee (pv 2)))))
   (b9 (cM (PW.pt (gu (cx k8 (f7 Kp Nq Nr qX (pv 3) (bU b8 bV)) (cQ GN hr rfl DN.m DN.F.kp bN .nil cz (bU (pv 1) bV)) (cC _)) (ig (cx k8 (f7 LA OL OM AD b8 (bU (pv 3) bV)) (pv 4) (cC _))))) (b5 (cy ij)) cX)
   (b9 (kT KZ rfl (pj (cQ GB hr rfl DB.m DB.F.kp bB .nil cz (bU (pv 2) bV))) (qI (n:=2) rfl (iK (eY (i:=5) lU.nd rfl (Kh rfl)) (iK (eY (i:=6) lU.nd rfl (Kh rfl)) pH)))
    (b9 (cZ (i:=7) lU.nd rfl (Kh rfl) (cA gh (gP gM (pv 2) lT (fE (pv 5))) (gP gM (pv 2) (fE (cA eD (pv 5) bZ)) (fE (pv 6)))))
    (b5 (cM (cx (wm hr.units100) (cQ GR hr rfl DR.m DR.F.kp bR .nil cz (bU (cA gh (pv 7) (gP gM (pv 2) (fE (cA eD (pv 6) bZ)) lT)) bV)) (pv 1) (cC _)) (b5 (cy ij)) cX))))
   (b5 (cy (ip cU (gc (pv 0) Cl.cl MW.M GW0 hr (jm MW) cz) (pv 2) rfl)))))))),?_⟩;have sz:sizeLine=16777216:=Kv;have hL:=ku I;have hlen:t.lin.length<=2000:=by have:=kI I;lia
  have U:=jX I
  have ae:=jQ I
  have ag:(tl .lp (wr t.tr)).length<=2000:=by rw[<-hL];exact hlen
  have lay:t.told.canLay0=true:=by rw[<-i5 I];exact jY (mh I)
  have dep:t.told.depth<=100:=by have:=jI t;lia
  have out:jg ⟨[],[],.first⟩ (wr t.tr)=some t.tr:=by
   obtain⟨s',h1,h2⟩:=RA.CT (t:=t.tr) (by rw[lJ I];lia);show(RA.eN _ _).bind _=_;rw[h1];exact h2
  obtain⟨dp,fp,ep,lp⟩:=hA.ob;refine⟨_,rfl,t.kn,a,dp,fp,rfl,ep,lp _ jk,a,t,rfl,hA,hd,rfl,ae,by lia,λH1 s1=>?_⟩;rw[hL];refine⟨_,rfl,.str (sT (tl .lp (wr t.tr))),.ty "str",_,_,rfl,.str _,.inl ⟨_,rfl,uu (n:="str") (H:=H1) (.str (sT (tl .lp (wr t.tr))))⟩,_,rfl,cj ?_⟩;refine⟨_,rfl,wr t.tr,rfl,ag,U,λv H2 s2 hv=>?_⟩;have pv:cD false H2 v t.told:=by
   rcases hv with ⟨q',e,_,p⟩|⟨i,e,n⟩
   ·rw[out] at e;have:t.tr=q':=Kg e;rw[<-this,i5 I] at p;exact p
   ·exact absurd ⟨by rw[lJ I];exact hd,by rw[nK I];lia⟩ (n _ out)
  have ah:=(hx.same s1).same s2;refine⟨_,rfl,t.told,t.told,pv.dt,ah.dt,lay,lay,Kj (LV _ _) dep,_,rfl,?_⟩;rw[vK lay];refine cj ?_;refine⟨_,rfl,t,by rw[hL];rfl,I,hd,hm,λa2 H3 s3 ai=>?_⟩;obtain⟨ay,az,aA,aB⟩:=ai.ob;refine⟨t.kn,a2,ay,az,rfl,aA,aB _ jL,a2,t,rfl,ai,hd,rfl,λx3 H4 s4 aC=>?_⟩;have aj:=(ah.same s3).same s4;refine⟨_,rfl,t.told,t.told,aC.dt,aj.dt,lay,lay,Kj (LV _ _) dep,_,rfl,?_⟩;rw[vK lay];refine cj ?_;refine⟨_,rfl,wr t.tr,rfl,ag,U,λl H5 s5 aD=>?_⟩;have aa:H5 l=some (.lst (((dI (wr t.tr)).map sT).map V.str)):=by rw[aD,LB];rfl
  have ak:=aj.same s5
  have wl:(dI (wr t.tr)).length<=2000:=by
   have h1:=oZ (wr t.tr) .lp U
   have h2:(dI (wr t.tr)).length<=(wr t.tr).length:=by unfold dI;rw[JX];exact ML _ _
   lia
  have fl:(fu (tl .lp (wr t.tr))).length<=2000:=Kj (Kj (ML _ _) (ML _ _)) ag;refine⟨_,rfl,_,rfl,dkq,by rw[dv];show _+(_+1)*0<=_;lia,_,rfl,dkq,?_,?_⟩
  ·rw[show Txt.replace (sT (tl .lp (wr t.tr))) (JO "(") (JO "")=sT ((tl .lp (wr t.tr)).filter λd=>decide (d≠40)) from vc _ 40,dv];have:((tl .lp (wr t.tr)).filter λd=>decide (d≠40)).length<=(tl .lp (wr t.tr)).length:=ML _ _;show _+(_+1)*0<=_
   lia
  rw[Dv];refine⟨_,rfl,.inl ⟨rfl,_,ck.of aa⟩,l,(dI (wr t.tr)).map sT,_,rfl,rfl,ck.of aa,_,rfl,x,t,rfl,ak,hd,by lia,λH6 s6=>⟨rfl,_,rfl,?_⟩⟩;have cnt:((dI (wr t.tr)).map sT).count (JO "and")=dG t:=by
   rw[<-og I,<-oh,<-yU U];have:∀ ws:JP (JP Nat),(ws.map sT).count (JO "and")=ws.count [97,110,100]:=λws=>by
    induction ws with
    |nil=>rfl
    |cons y ws ih=>
     rw[KU,Nd,Nd,ih];by_cases e:y=[97,110,100]
     ·subst e;rfl
     ·have e1:(sT y==JO "and")=false:=beq_eq_false_iff_ne.mpr λz=>e (uV (show sT y=sT [97,110,100] from z))
      have e2:(y == [97,110,100])=false:=beq_eq_false_iff_ne.mpr e;rw[e1,e2]
   exact this _
  rw[cnt];refine eE (by simp) ?_;have aE:=s6 _ _ aa;refine⟨rfl,_,rfl,_,l,(dI (wr t.tr)).map sT,rfl,rfl,ck.of aE,?_,?_⟩
  ·have:=Aa (wr t.tr) .lp;rw[JX];show _+_*1<=_
   lia
  rw[wM,<-pD t.tr U];refine⟨_,rfl,rfl,_,rfl,eE (by simp) ?_⟩;obtain⟨new,aF,ao⟩:=BY U;refine⟨_,rfl,tl .lp (wr t.tr),new,_,rfl,by lia,aF,rfl,λlb H7 s7 aG=>?_⟩;obtain⟨qs,aq,aH⟩:=aG;have ar:=((((s2.trans s3).trans s4).trans s5).trans s6).trans s7;have aI:=((ak.same s6).same s7);refine⟨lb,rfl,⟨_,ck.of aq⟩,?_⟩;refine xY (xs:=qs.map V.ref) (λi σ H'=>∃(o5 o6 o7:JW V),σ=[some (.ref a),some x,some (.str (sT (tl .lp (wr t.tr)))),some (.ref l),some (.str (sT (fu (tl .lp (wr t.tr))))),o5,o6,o7]/\bY H7 H') ⟨none,none,none,rfl,bY.refl _⟩ ?_ ?_ ?_
  ·rintro i σ H' _ ⟨_,_,_,_,sm⟩;exact ck.of (sm _ _ aq)
  ·rintro i y σ H' hy ⟨o5,o6,o7,rfl,sm⟩;obtain⟨u,hu,rfl⟩:∃ u,qs[i]? =some u/\V.ref u=y:=by
    rw[List.getElem?_map] at hy;cases e:qs[i]? with
    |none=>rw[e] at hy;cases hy
    |some z=>rw[e] at hy;exact⟨z,rfl,Kg hy⟩
   obtain⟨⟨b,e⟩,aJ,aK⟩:=wo aH hu;obtain⟨c1,c2,ab,hc,aS,au⟩:=ao _ (List.mem_of_getElem? aJ);have aT:b<e:=c1;have aU:e<(tl .lp (wr t.tr)).length:=c2;generalize aV:tl .lp (wr t.tr)=J at *;have l9:(sT J).length<=sizeLine:=dC (by rw[dv];lia);have af:∀ p q,(RA.sl J p q).length<=2000:=λp q=>by
    unfold RA.sl;rw[Lr,KH]
    lia
   refine⟨u,_,rfl,cu.of (sm _ _ aK),rfl,_,_,rfl,_,_,rfl,rfl,?_⟩;refine⟨_,rfl,_,rfl,_,rfl,_,rfl,l9,_,rfl,_,rfl,_,_,rfl,rfl,((b+1:Nat):Int),rfl,_,rfl,_,rfl,_,rfl,l9,?_⟩;rw[C9 J (by lia),jf J (by lia) (by lia)];have tk:(J.take b).length<=2000:=by rw[Lr];lia
   refine⟨_,_,rfl,rfl,dC (by show(sT (J.take b)).length+(sT (RA.sl J (b+1) e)).length<=30000;rw[dv,dv];have:=af (b+1) e;lia),?_⟩;show g6 7 (V.str (sT (J.take b)++sT (RA.sl J (b+1) e))) _ _ _;rw[fO];refine⟨_,rfl,_,rfl,_,rfl,_,_,rfl,rfl,((e+1:Nat):Int),rfl,_,rfl,l9,?_⟩;rw[Ax J (by lia)];have dr:(J.drop (e+1)).length<=2000:=by rw[KH];lia
   refine⟨_,_,rfl,rfl,dC (by show(sT (J.take b++RA.sl J (b+1) e)).length+(sT (J.drop (e+1))).length<=30000;rw[dv,dv,JU];have:=af (b+1) e;lia),?_⟩;show uL ([V.str (sT (J.take b++RA.sl J (b+1) e)++sT (J.drop (e+1)))]++[]) _ _ E0;rw[fO];have av:J.take b++RA.sl J (b+1) e++J.drop (e+1)=tl .lp ab:=hc;rw[av];have aL:(tl .lp ab).length<=2000:=by
    rw[<-av,JU,JU,Lr,KH];have:(RA.sl J (b+1) e).length<=e-(b+1):=by unfold RA.sl;rw[Lr];lia
    lia
   refine⟨ab,rfl,aL,λk hk=>U k (au k hk),λv8 H8 s8 aM=>?_⟩;have aw:=(aI.same sm).same s8;have fin:(([some (.ref a),some x,some (.str (sT J)),some (.ref l),some (.str (sT (fu J))),some (.int ((b:Nat):Int)),some (.int ((e:Nat):Int)),some (.str (sT (J.take b++RA.sl J (b+1) e)))]:L2.St)=[some (.ref a),some x,some (.str (sT J)),some (.ref l),some (.str (sT (fu J))),some (.int ((b:Nat):Int)),some (.int ((e:Nat):Int)),some (.str (sT (J.take b++RA.sl J (b+1) e)))])/\bY H7 H8:=⟨rfl,sm.trans s8⟩;rcases aM with ⟨q',eo,gq,pq⟩|⟨i8,ei,_⟩
   ·have aN:q'≠t.tr:=λz=>by
     have e1:(RA.eN ⟨[],[],.first⟩ ab).bind RA.fM=some q':=eo;cases e2:RA.eN ⟨[],[],.first⟩ ab with
     |none=>rw[e2] at e1;cases e1
     |some s'=>
      rw[e2] at e1;have:=RA.few e2 e1;rw[z] at this;have e3:RA.need t.tr=RA.nb (wr t.tr):=rfl
      lia
    refine⟨_,rfl,dT q',t.told,pq.dt,aw.dt,jY gq,lay,Kj (LV _ _) dep,_,rfl,?_⟩;rw[<-i5 I,Fp aN];exact cj ⟨_,_,_,fin.1,fin.2⟩
   ·subst ei;refine⟨_,rfl,.int i8,t.told,.int _,aw.dt,rfl,lay,Kj (LV _ _) dep,_,rfl,?_⟩;rw[<-i5 I,Bm];exact cj ⟨_,_,_,fin.1,fin.2⟩
  ·rintro σ H' ⟨o5,o6,o7,rfl,sm⟩;have ax:d0 C H' a t:=(((hA.same s1).same ar).same sm);obtain⟨aO,aP,aQ,aR⟩:=ax.ob;refine⟨_,rfl,t.kn,a,aO,aP,rfl,aQ,aR _ jk,a,t,rfl,ax,hd,rfl,ae,by lia,λH9 s9=>⟨_,rfl,rfl,?_⟩⟩;rw[hL,JS rfl];exact q H9 (((s1.trans ar).trans sm).trans s9)
end
theorem bX.any {P:Ka}{w:Ku}{K:Kl}{mg:Str->JW JT}{base:KP}{CX:gv}{k N:Nat}{f:JR}{fd:J2}{ps:JP Str}{sp:Nat->Sp}(F:∀ n,n<=N->bX P w K mg base CX k f fd ps (sp n)):
  bX P w K mg base CX k f fd ps (λvs H Q E=>∃ n,n<=N/\sp n vs H Q E):=
 ⟨λvs H Q E ⟨n,hn,q⟩=>(F n hn).len vs H Q E q,λA outer s H args us vs Q E J he hb U ⟨n,hn,q⟩=>(F n hn).run A outer s H args us vs Q E J he hb U q⟩
theorem Gd.kids:∀{t:At},Gd t->∀ k∈t.kids,Gd k
 |.near a b n,g,k,h=>by
  have h':k=a\/k=b:=by simpa[At.kids] using h
  rcases h' with rfl|rfl
  ·exact g.2.2.1
  ·exact g.2.2.2
 |.both a b,g,k,h=>by
  have h':k=a\/k=b:=by simpa[At.kids] using h
  rcases h' with rfl|rfl
  ·exact g.1
  ·exact g.2
 |.either a b,g,k,h=>by
  have h':k=a\/k=b:=by simpa[At.kids] using h
  rcases h' with rfl|rfl
  ·exact g.1
  ·exact g.2
 |.no a,g,k,h=>by
  have h':k=a:=by simpa[At.kids] using h
  rw[h'];exact g
 |.word _,_,k,h=>by simp[At.kids] at h
 |.start _,_,k,h=>by simp[At.kids] at h
 |.row _,_,k,h=>by simp[At.kids] at h
noncomputable def ph(K:Kl):Sp:=λvs H Q _=>∃(a:JR) (ns:JP Int),vs=[.ref a]/\ck K H a (ns.map V.int)/\ns.length<=63/\∀ H',Q (.bl true) H'
noncomputable abbrev C0:JP Str:=["_law_script","_law_menu_here","_law_told","_law_ask","_law_kids_here","_law_kid","_law_due"]
theorem lR:da C0 ["_law_script"] (cG jG):=⟨rfl,rfl,rfl,dkq,rfl,dkq,dkq⟩
section
variable {P : Ka} {w : Ku} {K : J7} {mg : Str -> JW JT} {base : KP} {C fW fT fk : Kn -> JR} {dW dT' fdk : Kn -> J2} {CA : JR}
seal cH PS PE PT PA PG PI cT cP in
theorem Hx{fL fn fm fme ft fp fa fr fq gk:JR}{fdL fdn fdm fdme fdt fdp fda fdr fdq fgk:J2}(D:Df K mg "law" jG fL fdL)(DN:Df K mg "_law_number" mS fn fdn)(DM:Df K mg "_law_mixed" ju fm fdm)(DMe:Df K mg "_law_menu" lX fme fdme)(DT:Df K mg "_law_tree" nZ ft fdt)(DP:Df K mg "_law_plain" kM fp fdp)
  (DA:Df K mg "ask_of" nJ fa fda)(DR:Df K mg "_law_right" qo fr fdr)(DQ:Df K mg "read_ask" nC fq fdq)(DK:Df K mg "_law_kids" kQ gk fgk)(Cl:Cs K C)(MK:Mt K C "kids" nX nh fk fdk)(MW:Mt K C "written" iB fZ fW dW)(GW0:∀ i,bX P w K mg base b7 17 (fW i) (dW i) ["self"] (gp C 7 i))(MT:Mt K C "told" oF mx fT dT')(T:Txt mg)
  (GA0:bX P w K mg base (dD P w) 14 fa fda ["told"] (vk C CA))(GQ:bX P w K mg base b7 17 fq fdq ["line"] (v5 C))(GR:bX P w K mg base b7 17 fr fdr ["_law_ask","_law_told"] (Ba C)):
  bX P w K mg base b7 18 fL fdL ["_law_script"] (ph K):=by
 have GN:bX P w K mg base b7 17 fn fdn ["_law_script","_law_k"] (xh K):=(yx DN DM T).mono (by decide)
 have bN:=DN.F.binds (ps:=["_law_script","_law_k"]) λ_ _ _ _ _ _ us hl=>eU (λ_ _=>rfl) us hl
 have aD:bX P w K mg base b7 17 fme fdme ["_law_number_here"] zM:=(Fz DMe DM T).mono (by decide)
 have aE:=dY (p:="_law_number_here") DMe.F λ_ _ _ _ _ _ _=>rfl
 have GT:bX P w K mg base b7 17 ft fdt ["_law_script","_law_at","_law_deep","_law_menu_here"] (λvs H Q E=>∃ n,n<=8/\sF K n vs H Q E):=bX.any λn hn=>(y7 DT DM DN DP T n).mono (by lia)
 have bT:=DT.F.binds (ps:=["_law_script","_law_at","_law_deep","_law_menu_here"]) λ_ _ _ _ _ _ us hl=>w5 (λ_ _ _ _=>rfl) us hl
 have GA:=GA0.mono (show 14<=17 by decide)
 have bA:=dY (p:="told") DA.F λ_ _ _ _ _ _ _=>rfl
 have bQ:=dY (p:="line") DQ.F λ_ _ _ _ _ _ _=>rfl
 have bR:=DR.F.binds (ps:=["_law_ask","_law_told"]) λ_ _ _ _ _ _ us hl=>eU (λ_ _=>rfl) us hl
 have GK:bX P w K mg base b7 17 gk fgk ["_law_told"] sU:=(wK DK).mono (by decide)
 have bK:=dY (p:="_law_told") DK.F λ_ _ _ _ _ _ _=>rfl
 have aF:∀ i,bX P w K mg base b7 17 (fk i) (fdk i) ["self"] (uk C i):=λi=>(yC Cl MK i).mono (by decide)
 have aG:∀ i,bX P w K mg base b7 17 (fT i) (dT' i) ["self"] (pL C 7 i):=λi=>(vt Cl MT 7 i).mono (by decide)
 refine D.F.ok lR (λvs H Q E h=>?_) (λcdv A outer s H vs Q E U h=>?_)
 ·obtain⟨a,ns,rfl,_⟩:=h;rfl
 ·obtain⟨a,ns,rfl,hS,ak,kk⟩:=h;have hz:(sizeLine:Nat)=16777216:=Kv;refine⟨_,b9 (cZ (i:=1) lR.nd rfl (Kh rfl) (cQ aD U rfl DMe.m DMe.F.kp aE .nil cz (bU (cQ GN U rfl DN.m DN.F.kp bN .nil cz (bU (pv 0) (bU bZ bV))) bV)))
   (b9 (cZ (i:=2) lR.nd rfl (Kh rfl) (cQ GT U rfl DT.m DT.F.kp bT .nil cz (bU (pv 0) (bU (eZ (bU bZ bV)) (bU (cA eD bZ (cA fI (cQ GN U rfl DN.m DN.F.kp bN .nil cz (bU (pv 0) (bU bZ bV))) bZ)) (bU (pv 1) bV))))))
   (b9 (cZ (i:=3) lR.nd rfl (Kh rfl) (cQ GA U rfl DA.m DA.F.kp bA .nil Ii (bU (pv 2) bV)))
   (b9 (cM (PW.pt (gu (gG (fU (cQ GR U rfl DR.m DR.F.kp bR .nil cz (bU (pv 3) (bU (pv 2) bV))))) (ig (gG (fU (cQ GR U rfl DR.m DR.F.kp bR .nil cz (bU (cQ GQ U rfl DQ.m DQ.F.kp bQ .nil cz (bU (gc (pv 3) Cl.cl MW.M GW0 U (jm MW) cz) bV)) (bU (pv 2) bV)))))))) (b5 (cy ij)) cX)
   (b9 (cZ (i:=4) lR.nd rfl (Kh rfl) (gc (pv 3) Cl.cl MK.M aF U (yb MK) cz))
   (b9 (kT KZ rfl (HN rfl T.zip (bU (pv 4) (bU (cQ GK U rfl DK.m DK.F.kp bK .nil cz (bU (pv 2) bV)) bV))) (qI (n:=2) rfl (iK (eY (i:=5) lR.nd rfl (Kh rfl)) (iK (eY (i:=6) lR.nd rfl (Kh rfl)) pH)))
    (b5 (cM (gG (fU (cQ GR U rfl DR.m DR.F.kp bR .nil cz (bU (pv 5) (bU (pv 6) bV))))) (b5 (cy ij)) cX)))
   (b5 (cy (ip (wm U.units100) (gc (pv 3) Cl.cl MT.M aG U (kx MT) cz) (pv 2) rfl)))))))),?_⟩;refine⟨_,rfl,a,ns,0,rfl,hS,ak,by decide,λr0 H1 _ _ s1=>⟨r0,rfl,λme H2 zs s2 e2 aH aI=>?_⟩⟩;have aJ:=s1.trans s2;have aK:kK H2 me zs:=⟨e2,aH,aI⟩;have aw:=aJ.seq hS;refine⟨_,rfl,eh,λc hc=>⟨_,rfl,a,ns,40,rfl,(cq hc).seq aw,ak,by decide,λr H3 _ _ s3=>⟨_,_,rfl,rfl,(by show(0:Int)<8;decide),_,_,rfl,rfl,_,rfl,?_⟩⟩⟩;have e0:=LR r (show(8:Int)≠0 by decide);have e1:=Ly r (show(0:Int)<8 by decide);obtain⟨n,hn⟩:=Int.eq_ofNat_of_zero_le (show 0<=1+r%8 by lia);have ax:n<=8:=by lia
  have p8:2 ^ n<=2 ^ 8:=LK (by decide) ax
  have p256:(2:Nat) ^ 8=256:=rfl;refine⟨n,ax,a,c,me,ns,zs,0,_,H2,rfl,hn,by lia,(cq hc).trans s3,hc,aw,ak,aK,s3 _ _ b6,by lia,λx t a' H4 x4 c4 hx gd hd ha hm=>?_⟩;have ab:t.many<=33:=by lia
  have I:t.dep<=7:=by lia
  have own:=wG gd;rw[J1 ⟨I,by lia⟩] at own;have ay:=jQ gd;have hlen:t.lin.length<=2000:=by have:=kI gd;lia
  refine⟨_,rfl,x,t.told,rfl,cD.any hx,jM gd,λu hu aa H6 s6 hA=>?_,λe=>by rw[own] at e;cases e⟩;have eu:t=u:=Kg (own.symm.trans hu);subst eu;have ao:=hx.same s6;refine⟨_,rfl,_,rfl,aa,x,t,rfl,hA,ao,gd,I,ab,λH7 s7=>⟨_,rfl,cj ?_⟩⟩;have az:=hA.same s7;obtain⟨dp,aL,ep,lp⟩:=az.ob;refine⟨_,rfl,t.kn,aa,dp,aL,rfl,ep,lp _ jk,aa,t,rfl,az,I,rfl,ay,by lia,λH8 s8=>⟨t,rfl,gd,I,ab,λa9 H9 s9 aM=>⟨_,rfl,a9,x,t,rfl,aM,((ao.same s7).same s8).same s9,gd,I,ab,λae aN=>⟨_,rfl,cj ?_⟩⟩⟩⟩;have ah:=((s7.trans s8).trans s9).trans aN;have af:=hA.same ah;obtain⟨aO,aP,aQ,aR⟩:=af.ob;refine⟨_,rfl,t.kn,aa,aO,aP,rfl,aQ,aR _ zy,aa,t,rfl,af,rfl,λl6 J aS aT=>?_⟩;have ag:bY ae (upd ae l6 (.lst J)):=cq aS;have aq:upd ae l6 (.lst J) l6=some (.lst J):=b6;show kC _ _ _ [some (.ref a),some (.ref me),some x,some (.ref aa),some (.ref l6),none,none] (upd ae l6 (.lst J));generalize upd ae l6 (.lst J)=a3 at ag aq ⊢;have ai:=(ao.same ah).same ag;refine⟨_,rfl,_,rfl,x,t,rfl,ai,λl7 ar HC sC fC eC qC=>?_⟩;have KC:=lG.same (ag.trans sC) aT;have a4:=Gn.Paired.len KC;have a5:ar.length=t.kids.length:=by have:=qC.len;rw[JX] at this;exact this
  refine⟨l6,l7,J,ar,rfl,sC _ _ aq,eC,?_⟩;refine JA (xs:=J) (ys:=ar) (λj σ H'=>∃(o5 o6:JW V),σ=[some (.ref a),some (.ref me),some x,some (.ref aa),some (.ref l6),o5,o6]/\bY HC H') (by lia) ?_ ?_ ?_ ?_
  ·exact⟨none,none,rfl,bY.refl _⟩
  ·rintro j σ H' _ ⟨o5,o6,rfl,sm⟩;exact⟨sm _ _ (sC _ _ aq),sm _ _ eC⟩
  ·rintro j y z σ H' tt hy aU ⟨o5,o6,rfl,sm⟩ aV;obtain⟨kd,aA,p,rfl,aW⟩:=um KC hy;obtain⟨d,aB,hd2⟩:=qC.get aU;have ed:d=kd.told:=by
    rw[List.getElem?_map,aA] at aB;exact(Kg aB).symm
   subst ed;have au:=List.mem_of_getElem? aA;have d1:=At.kids_dep au;have m1:=At.kids_many au;have st:=sm.trans (cq (o:= .tup [.ref p,z]) aV);refine⟨tt,_,rfl,cu.of b6,rfl,_,_,rfl,_,_,rfl,rfl,?_⟩;exact⟨_,rfl,_,rfl,p,z,kd,rfl,aW.same st,hd2.same st,gd.kids kd au,by lia,by lia,λaC av=>⟨_,rfl,cj ⟨_,_,rfl,st.trans av⟩⟩⟩
  ·rintro σ H' ⟨o5,o6,rfl,sm⟩;have aj:=((af.same ag).same sC).same sm;obtain⟨aX,aY,aZ,a0⟩:=aj.ob;have lay:t.told.canLay0=true:=by rw[<-i5 gd];exact jY (mh gd)
   have dep:t.told.depth<=100:=by have:=jI t;lia
   refine⟨_,rfl,t.kn,aa,aX,aY,rfl,aZ,a0 _ jL,aa,t,rfl,aj,I,rfl,λa6 aC av px=>?_⟩;refine⟨_,rfl,t.told,t.told,px.dt,(((ai.same sC).same sm).same av).dt,lay,lay,Kj (LV _ _) dep,?_⟩;rw[vK lay];exact kk aC
end
theorem _root_.L2.kG.mono {P:Ka}{w:Ku}{K:Kl}{mg:Str->JW JT}{base:KP}{j k:Nat}{f:JR}{fd:J2}{ps:JP Str}{sp:Sp}(F:kG P w K mg base j f fd ps sp)(h:j<=k):
  kG P w K mg base k f fd ps sp:=⟨F.len,λA outer s H args us vs Q E J=>F.run A outer s H args us vs Q E (J.mono h)⟩
noncomputable def sel{α:Type}(a0 a1 a2 a3 a4 a5 a6:α):Kn->α
 |.w=>a0|.s=>a1|.r=>a2|.n=>a3|.b=>a4|.e=>a5|.o=>a6
noncomputable def Fm{α:Type}(a0 a1 a2 a3 a4 a5 a6 a7:α):RA.Kd->α
 |.lp=>a0|.no=>a1|.and=>a2|.or=>a3|.tilde=>a4|.leaf=>a5|.near=>a6|.rp=>a7|.stop=>a4
section
variable {P : Ka} {w : Ku} {K : J7} {mg : Str -> JW JT} {base h : KP}
theorem Di(X:K.In h)(G:h.Ns Kc mg){t0 t1 t2 t3 t4 t5 t6 t7 t8 t9:Tok}
  (n0:Lx K Kc "isinstance"=some none)
  (n1:Lx K Kc "int"=some none)
  (n2:Lx K Kc "bool"=some none)
  (n3:Lx K Kc "str"=some none)
  (n4:Lx K Kc "list"=some none)
  (n5:Lx K Kc "tuple"=some none)
  (n6:Lx K Kc "len"=some none)
  (n7:Lx K Kc "all"=some none)
  (n8:Lx K Kc "range"=some none)
  (n9:Lx K Kc "zip"=some none)
  (n10:Lx K Kc "sum"=some none)
  (n11:Lx K Kc "ord"=some none)
  (c0:Lx K Kc "MOST_TEXT_SIGNS"=some (some (.int 2000 t0)))
  (c1:Lx K Kc "PERCENT_NUMBER"=some (some (.int 37 t1)))
  (c2:Lx K Kc "MOST_BRACKETS"=some (some (.int 12 t2)))
  (c3:Lx K Kc "SMALL_SIGNS"=some (some (.str "abcdefghijklmnopqrstuvwxyz0123456789" t3)))
  (c4:Lx K Kc "MOST_WORD_SIGNS"=some (some (.int 2000 t4)))
  (c5:Lx K Kc "LEAST_IN_ROW"=some (some (.int 2 t5)))
  (c6:Lx K Kc "MOST_IN_ROW"=some (some (.int 8 t6)))
  (c7:Lx K Kc "MOST_FAR"=some (some (.int 20 t7)))
  (c8:Lx K Kc "MOST_DEEP"=some (some (.int 8 t8)))
  (c9:Lx K Kc "MOST_IN_ALL"=some (some (.int 40 t9)))
  :Txt mg where
 isi:=LN X G n0
 int:=LN X G n1
 bool:=LN X G n2
 str:=LN X G n3
 list:=LN X G n4
 tuple:=LN X G n5
 len:=LN X G n6
 all:=LN X G n7
 range:=LN X G n8
 zip:=LN X G n9
 sum:=LN X G n10
 ord:=LN X G n11
 cText:=⟨t0,LF X G c0⟩
 cPer:=⟨t1,LF X G c1⟩
 cBrk:=⟨t2,LF X G c2⟩
 cSmall:=⟨t3,LF X G c3⟩
 cWord:=⟨t4,LF X G c4⟩
 cLR:=⟨t5,LF X G c5⟩
 cMR:=⟨t6,LF X G c6⟩
 cFar:=⟨t7,LF X G c7⟩
 cDeep:=⟨t8,LF X G c8⟩
 cAll:=⟨t9,LF X G c9⟩
theorem D6(P:Ka){d:JR}{ep:Nat}{t0 t1 t2 t3 t4 t5 t6:Tok}{u0 u1 u2 u3 u4 u5 u6:Tok}(X:K.In h)(G:h.Ns Kc mg)(a:Lx K Kc "TOLD_LENGTHS"=some (some (.ref d)))(ns:(d==Mg)=false)
  (l:K.lookup d=some ⟨.type "dict",none,.dict #[⟨Le w.params "word",.str "word" t0,.int 2 u0⟩,⟨Le w.params "start",.str "start" t1,.int 2 u1⟩,⟨Le w.params "row",.str "row" t2,.int 2 u2⟩,⟨Le w.params "near",.str "near" t3,.int 4 u3⟩,⟨Le w.params "both",.str "both" t4,.int 3 u4⟩,⟨Le w.params "either",.str "either" t5,.int 3 u5⟩,⟨Le w.params "not",.str "not" t6,.int 2 u6⟩] ep,#[]⟩):∃ d,mg "TOLD_LENGTHS"=some (.ref d)/\KD P w K d gf:=by
 refine⟨d,LF X G a,ns,λh' J=>⟨[((.inr "word":Key),.int 2 u0),((.inr "start":Key),.int 2 u1),((.inr "row":Key),.int 2 u2),((.inr "near":Key),.int 4 u3),((.inr "both":Key),.int 3 u4),((.inr "either":Key),.int 3 u5),((.inr "not":Key),.int 2 u6)],?_,_,_,_,J _ _ l,?_,rfl,?_,?_,?_⟩⟩
 ·exact .cons ⟨rfl,_,rfl⟩ (.cons ⟨rfl,_,rfl⟩ (.cons ⟨rfl,_,rfl⟩ (.cons ⟨rfl,_,rfl⟩ (.cons ⟨rfl,_,rfl⟩ (.cons ⟨rfl,_,rfl⟩ (.cons ⟨rfl,_,rfl⟩ (.nil)))))))
 ·exact⟨rfl,rfl,rfl⟩
 ·intro e he;simp at he;rcases he with rfl|rfl|rfl|rfl|rfl|rfl|rfl
  ·exact⟨.inr "word",eV "word" t0,rfl⟩
  ·exact⟨.inr "start",eV "start" t1,rfl⟩
  ·exact⟨.inr "row",eV "row" t2,rfl⟩
  ·exact⟨.inr "near",eV "near" t3,rfl⟩
  ·exact⟨.inr "both",eV "both" t4,rfl⟩
  ·exact⟨.inr "either",eV "either" t5,rfl⟩
  ·exact⟨.inr "not",eV "not" t6,rfl⟩
 ·exact .cons (eV "word" t0) rfl (.cons (eV "start" t1) rfl (.cons (eV "row" t2) rfl (.cons (eV "near" t3) rfl (.cons (eV "both" t4) rfl (.cons (eV "either" t5) rfl (.cons (eV "not" t6) rfl (.nil)))))))
 ·show([.inr "word",.inr "start",.inr "row",.inr "near",.inr "both",.inr "either",.inr "not"]:JP Key).Nodup;decide +kernel
theorem HG(P:Ka){d:JR}{ep:Nat}{t0 t1 t2 t3 t4 t5 t6 t7:Tok}{j0 j1 j2 j3 j4 j5 j6 j7:JR}{od0 od1 od2 od3 od4 od5 od6 od7:JW JR}{m0 m1 m2 m3 m4 m5 m6 m7:Nat}{sl0 sl1 sl2 sl3 sl4 sl5 sl6 sl7:MM (JW JT)}{v0_0 v0_1 v0_2 v1_0 v1_1 v1_2 v2_0 v2_1 v2_2 v3_0 v3_1 v3_2 v4_0 v5_0 v5_1 v5_2 v5_3 v5_4 v5_5 v5_6 v5_7 v6_0 v6_1 v6_2 v6_3 v6_4 v6_5 v6_6 v7_0 v7_1 v7_2 v7_3 v7_4 v7_5 v7_6:Tok}(X:K.In h)(G:h.Ns Kc mg)(a:Lx K Kc "BEHIND"=some (some (.ref d)))(ns:(d==Mg)=false)
  (l:K.lookup d=some ⟨.type "dict",none,.dict #[⟨Le w.params "(",.str "(" t0,.ref j0⟩,⟨Le w.params "not",.str "not" t1,.ref j1⟩,⟨Le w.params "and",.str "and" t2,.ref j2⟩,⟨Le w.params "or",.str "or" t3,.ref j3⟩,⟨Le w.params "~",.str "~" t4,.ref j4⟩,⟨Le w.params "leaf",.str "leaf" t5,.ref j5⟩,⟨Le w.params "near",.str "near" t6,.ref j6⟩,⟨Le w.params ")",.str ")" t7,.ref j7⟩] ep,#[]⟩)(l0:K.lookup j0=some ⟨.type "tuple",od0,.seq #[.str "leaf" v0_0,.str "not" v0_1,.str "(" v0_2] m0,sl0⟩)(l1:K.lookup j1=some ⟨.type "tuple",od1,.seq #[.str "leaf" v1_0,.str "not" v1_1,.str "(" v1_2] m1,sl1⟩)(l2:K.lookup j2=some ⟨.type "tuple",od2,.seq #[.str "leaf" v2_0,.str "not" v2_1,.str "(" v2_2] m2,sl2⟩)(l3:K.lookup j3=some ⟨.type "tuple",od3,.seq #[.str "leaf" v3_0,.str "not" v3_1,.str "(" v3_2] m3,sl3⟩)(l4:K.lookup j4=some ⟨.type "tuple",od4,.seq #[.str "leaf" v4_0] m4,sl4⟩)(l5:K.lookup j5=some ⟨.type "tuple",od5,.seq #[.str "leaf" v5_0,.str "not" v5_1,.str "(" v5_2,.str "and" v5_3,.str "or" v5_4,.str ")" v5_5,.str "end" v5_6,.str "~" v5_7] m5,sl5⟩)(l6:K.lookup j6=some ⟨.type "tuple",od6,.seq #[.str "leaf" v6_0,.str "not" v6_1,.str "(" v6_2,.str "and" v6_3,.str "or" v6_4,.str ")" v6_5,.str "end" v6_6] m6,sl6⟩)(l7:K.lookup j7=some ⟨.type "tuple",od7,.seq #[.str "leaf" v7_0,.str "not" v7_1,.str "(" v7_2,.str "and" v7_3,.str "or" v7_4,.str ")" v7_5,.str "end" v7_6] m7,sl7⟩):∃ d j,mg "BEHIND"=some (.ref d)/\KD P w K d (oM j)/\∀ k,k≠ .stop->∀ H,cu K H (j k) (kc k):=by
 refine⟨d,Fm j0 j1 j2 j3 j4 j5 j6 j7,LF X G a,⟨ns,λh' J=>⟨[((.inr "(":Key),.ref j0),((.inr "not":Key),.ref j1),((.inr "and":Key),.ref j2),((.inr "or":Key),.ref j3),((.inr "~":Key),.ref j4),((.inr "leaf":Key),.ref j5),((.inr "near":Key),.ref j6),((.inr ")":Key),.ref j7)],?_,_,_,_,J _ _ l,?_,rfl,?_,?_,?_⟩⟩,λk hk H=>match k,hk with|.lp,_=> .inr ⟨_,_,_,l0,rfl,rfl,by show 3<=sizeLine;decide,.cons ⟨_,rfl⟩ (.cons ⟨_,rfl⟩ (.cons ⟨_,rfl⟩ (.nil)))⟩|.no,_=> .inr ⟨_,_,_,l1,rfl,rfl,by show 3<=sizeLine;decide,.cons ⟨_,rfl⟩ (.cons ⟨_,rfl⟩ (.cons ⟨_,rfl⟩ (.nil)))⟩|.and,_=> .inr ⟨_,_,_,l2,rfl,rfl,by show 3<=sizeLine;decide,.cons ⟨_,rfl⟩ (.cons ⟨_,rfl⟩ (.cons ⟨_,rfl⟩ (.nil)))⟩|.or,_=> .inr ⟨_,_,_,l3,rfl,rfl,by show 3<=sizeLine;decide,.cons ⟨_,rfl⟩ (.cons ⟨_,rfl⟩ (.cons ⟨_,rfl⟩ (.nil)))⟩|.tilde,_=> .inr ⟨_,_,_,l4,rfl,rfl,by show 1<=sizeLine;decide,.cons ⟨_,rfl⟩ (.nil)⟩|.leaf,_=> .inr ⟨_,_,_,l5,rfl,rfl,by show 8<=sizeLine;decide,.cons ⟨_,rfl⟩ (.cons ⟨_,rfl⟩ (.cons ⟨_,rfl⟩ (.cons ⟨_,rfl⟩ (.cons ⟨_,rfl⟩ (.cons ⟨_,rfl⟩ (.cons ⟨_,rfl⟩ (.cons ⟨_,rfl⟩ (.nil))))))))⟩|.near,_=> .inr ⟨_,_,_,l6,rfl,rfl,by show 7<=sizeLine;decide,.cons ⟨_,rfl⟩ (.cons ⟨_,rfl⟩ (.cons ⟨_,rfl⟩ (.cons ⟨_,rfl⟩ (.cons ⟨_,rfl⟩ (.cons ⟨_,rfl⟩ (.cons ⟨_,rfl⟩ (.nil)))))))⟩|.rp,_=> .inr ⟨_,_,_,l7,rfl,rfl,by show 7<=sizeLine;decide,.cons ⟨_,rfl⟩ (.cons ⟨_,rfl⟩ (.cons ⟨_,rfl⟩ (.cons ⟨_,rfl⟩ (.cons ⟨_,rfl⟩ (.cons ⟨_,rfl⟩ (.cons ⟨_,rfl⟩ (.nil)))))))⟩|.stop,hk=>absurd rfl hk⟩
 ·exact .cons ⟨rfl,rfl⟩ (.cons ⟨rfl,rfl⟩ (.cons ⟨rfl,rfl⟩ (.cons ⟨rfl,rfl⟩ (.cons ⟨rfl,rfl⟩ (.cons ⟨rfl,rfl⟩ (.cons ⟨rfl,rfl⟩ (.cons ⟨rfl,rfl⟩ (.nil))))))))
 ·exact⟨rfl,rfl,rfl⟩
 ·intro e he;simp at he;rcases he with rfl|rfl|rfl|rfl|rfl|rfl|rfl|rfl
  ·exact⟨.inr "(",eV "(" t0,rfl⟩
  ·exact⟨.inr "not",eV "not" t1,rfl⟩
  ·exact⟨.inr "and",eV "and" t2,rfl⟩
  ·exact⟨.inr "or",eV "or" t3,rfl⟩
  ·exact⟨.inr "~",eV "~" t4,rfl⟩
  ·exact⟨.inr "leaf",eV "leaf" t5,rfl⟩
  ·exact⟨.inr "near",eV "near" t6,rfl⟩
  ·exact⟨.inr ")",eV ")" t7,rfl⟩
 ·exact .cons (eV "(" t0) rfl (.cons (eV "not" t1) rfl (.cons (eV "and" t2) rfl (.cons (eV "or" t3) rfl (.cons (eV "~" t4) rfl (.cons (eV "leaf" t5) rfl (.cons (eV "near" t6) rfl (.cons (eV ")" t7) rfl (.nil))))))))
 ·show([.inr "(",.inr "not",.inr "and",.inr "or",.inr "~",.inr "leaf",.inr "near",.inr ")"]:JP Key).Nodup;decide +kernel
theorem Jy{j:JR}{od:JW JR}{m:Nat}{sl:MM (JW JT)}{v0 v1 v2:Tok}(X:K.In h)(G:h.Ns Kc mg)(a:Lx K Kc "JOINING"=some (some (.ref j)))(l:K.lookup j=some ⟨.type "tuple",od,.seq #[.str "and" v0,.str "or" v1,.str "not" v2] m,sl⟩):∃ j,mg "JOINING"=some (.ref j)/\∀ H,cu K H j gU:=
 ⟨j,LF X G a,λH=> .inr ⟨_,_,_,l,rfl,rfl,by show 3<=sizeLine;decide,.cons ⟨_,rfl⟩ (.cons ⟨_,rfl⟩ (.cons ⟨_,rfl⟩ .nil))⟩⟩
noncomputable def MF(K:Kl)(C f:JR)(m q:Str)(st:K0)(fd:J2):Prop:=ej K m q st f fd/\Meth K C m f
theorem dX{C f:JR}{m q:Str}{st:K0}{od an:JW JR}{sl:MM (JW JT)}{oc kV dc pm cd ct:JT}(a:Li K (.ref C) m=some (some (.ref f)))(i:W.isFn K (.ref f)=true)
  (l:K.lookup f=some ⟨oc,od,.func (Nk m q (ji st) (iC st) (cG st) .none kV dc pm an cd ct),sl⟩)(c:N1 K cd q=true)(k:ME K (.ref f)=true):MF K C f m q st (Nk m q (ji st) (iC st) (cG st) .none kV dc pm an cd ct):=
 ⟨xi l c k,a,i,k⟩
noncomputable def CL(K:Kl)(C:JR):Prop:=gA K C/\W.makesIn K C=true/\ME K (.ref C)=true
theorem kz{C:JR}(a:OB K C Str.empty=true)(b:OQ K C=true)(c:W.plainOver K C=true)(d:Li K (.ref C) "__setattr__"=some (some (.builtin "object.__setattr__")))(e:W.makesIn K C=true)(f:ME K (.ref C)=true):CL K C:=⟨⟨a,b,c,d⟩,e,f⟩
noncomputable def NA(K:Kl)(C:JR)(x:Str):Prop:=Li K (.ref C) x=some none
noncomputable def lC(K:Kl)(C:JR):Prop:=NA K C "word"/\NA K C "side_by_side"/\NA K C "one"/\NA K C "other"/\NA K C "far"
theorem mf{C:JR}(a:Li K (.ref C) "word"=some none)(b:Li K (.ref C) "side_by_side"=some none)(c:Li K (.ref C) "one"=some none)(d:Li K (.ref C) "other"=some none)(e:Li K (.ref C) "far"=some none):lC K C:=⟨a,b,c,d,e⟩
noncomputable def HA(K:Kl)(C:JR):Prop:=Li K (.ref C) "__class__"=some (some (.builtin "object.__class__"))/\W.mroIn K C (.type "object")=some true
theorem mj{C:JR}(a:Li K (.ref C) "__class__"=some (some (.builtin "object.__class__")))(b:W.mroIn K C (.type "object")=some true):HA K C:=⟨a,b⟩
structure All (K : Kl) (mg : Str -> JW JT) (C fi ft fw fk : Kn -> JR) (di dt dw dk : Kn -> J2) (CB cBk cRdr : JR) (b0 b1 b2 b3 b4 : JR) (e0 e1 e2 e3 e4 : J2) (r0 r1 r2 r3 r4 r5 : JR) (g0 g1 g2 g3 g4 g5 : J2) : Prop where
 cs : Cs K C
 nm : Nm mg C
 I : In K C fi di
 MT : Mt K C "told" oF mx ft dt
 MW : Mt K C "written" iB fZ fw dw
 MK : Mt K C "kids" nX nh fk dk
 hK : ∀ i, Lm K (.ref (C i)) ([C .w, C .s, C .r].map Ky) = some (gs i)
 hE : ∀ i, Lw K (.ref (C i)) (.ref (C .e)) = some (eI i)
 hBE : ∀ i, Lm K (.ref (C i)) ([C .b, C .e].map Ky) = some (eG i)
 ex : Ex K mg "BadAsk" CB
 bm : ly K cBk b0 b1 b2 b3 b4 e0 e1 e2 e3 e4
 mB : mg "Bracket" = some (.ref cBk)
 rm : Be K cRdr r0 r1 r2 r3 r4 r5 g0 g1 g2 g3 g4 g5
 mR : mg "Reader" = some (.ref cRdr)
noncomputable def u9(K:Kl)(mg:Str->JW JT):Prop:=∃ C fi ft fw fk di dt dw I CB U J b0 b1 b2 b3 b4 e0 e1 e2 e3 e4 r0 r1 r2 r3 r4 r5 g0 g1 g2 g3 g4 g5,All K mg C fi ft fw fk di dt dw I CB U J b0 b1 b2 b3 b4 e0 e1 e2 e3 e4 r0 r1 r2 r3 r4 r5 g0 g1 g2 g3 g4 g5
theorem HZ{cw cs cr cn cb ce co CB cBk cRdr:JR}{fIw fTw fWw fKw fIs fTs fWs fKs fIr fTr fWr fKr fIn fTn fWn fKn fIb fTb fWb fKb fIe fTe fWe fKe fIo fTo fWo fKo fBk0 fBk1 fBk2 fBk3 fBk4 fRd0 fRd1 fRd2 fRd3 fRd4 fRd5:JR}{dIw dTw dWw dKw dIs dTs dWs dKs dIr dTr dWr dKr dIn dTn dWn dKn dIb dTb dWb dKb dIe dTe dWe dKe dIo dTo dWo dKo dBk0 dBk1 dBk2 dBk3 dBk4 dRd0 dRd1 dRd2 dRd3 dRd4 dRd5:J2}
  (X:K.In h)(G:h.Ns Kc mg)
  (hGet:W.specialIn K (.builtin "object.__class__") "__get__"=some (some (.builtin "getset_descriptor.__get__")))
  (hTak:W.takesIn K (.builtin "object.__class__")=some true)
  (aw:Lx K Kc "Word"=some (some (.ref cw)))
  (Cw:CL K cw)
  (hw:HA K cw)
  (nw:lC K cw)
  (mIw:MF K cw fIw "__init__" "Word.__init__" (inClass cW 0) dIw)
  (mTw:MF K cw fTw "told" "Word.told" (inClass cW 1) dTw)
  (mWw:MF K cw fWw "written" "Word.written" (inClass cW 2) dWw)
  (mKw:MF K cw fKw "kids" "Ask.kids" (inClass se 0) dKw)
  (as:Lx K Kc "Start"=some (some (.ref cs)))
  (Cs:CL K cs)
  (hs:HA K cs)
  (ns:lC K cs)
  (mIs:MF K cs fIs "__init__" "Start.__init__" (inClass cS 0) dIs)
  (mTs:MF K cs fTs "told" "Start.told" (inClass cS 1) dTs)
  (mWs:MF K cs fWs "written" "Start.written" (inClass cS 2) dWs)
  (mKs:MF K cs fKs "kids" "Ask.kids" (inClass se 0) dKs)
  (ar:Lx K Kc "Row"=some (some (.ref cr)))
  (Cr:CL K cr)
  (hr:HA K cr)
  (nr:lC K cr)
  (mIr:MF K cr fIr "__init__" "Row.__init__" (inClass cR 0) dIr)
  (mTr:MF K cr fTr "told" "Row.told" (inClass cR 1) dTr)
  (fZ:MF K cr fWr "written" "Row.written" (inClass cR 2) dWr)
  (mKr:MF K cr fKr "kids" "Ask.kids" (inClass se 0) dKr)
  (an:Lx K Kc "Near"=some (some (.ref cn)))
  (Cn:CL K cn)
  (hn:HA K cn)
  (nn:lC K cn)
  (mIn:MF K cn fIn "__init__" "Near.__init__" (inClass cN 0) dIn)
  (mTn:MF K cn fTn "told" "Near.told" (inClass cN 1) dTn)
  (mWn:MF K cn fWn "written" "Near.written" (inClass cN 2) dWn)
  (mKn:MF K cn fKn "kids" "Near.kids" (inClass cN 3) dKn)
  (ab:Lx K Kc "Both"=some (some (.ref cb)))
  (Cb:CL K cb)
  (hb:HA K cb)
  (nb:lC K cb)
  (mIb:MF K cb fIb "__init__" "Both.__init__" (inClass cB 0) dIb)
  (mTb:MF K cb fTb "told" "Both.told" (inClass cB 1) dTb)
  (mWb:MF K cb fWb "written" "Both.written" (inClass cB 2) dWb)
  (mKb:MF K cb fKb "kids" "Both.kids" (inClass cB 3) dKb)
  (ae:Lx K Kc "Either"=some (some (.ref ce)))
  (Ce:CL K ce)
  (he:HA K ce)
  (ne:lC K ce)
  (mIe:MF K ce fIe "__init__" "Either.__init__" (inClass cE 0) dIe)
  (mTe:MF K ce fTe "told" "Either.told" (inClass cE 1) dTe)
  (mWe:MF K ce fWe "written" "Either.written" (inClass cE 2) dWe)
  (mKe:MF K ce fKe "kids" "Either.kids" (inClass cE 3) dKe)
  (ao:Lx K Kc "Not"=some (some (.ref co)))
  (Co:CL K co)
  (ho:HA K co)
  (no:lC K co)
  (mIo:MF K co fIo "__init__" "Not.__init__" (inClass cO 0) dIo)
  (mTo:MF K co fTo "told" "Not.told" (inClass cO 1) dTo)
  (mWo:MF K co fWo "written" "Not.written" (inClass cO 2) dWo)
  (mKo:MF K co fKo "kids" "Not.kids" (inClass cO 3) dKo)
  (qLw:Lm K (.ref cw) [.ref cw,.ref cs,.ref cr]=some true)
  (qEw:Lw K (.ref cw) (.ref ce)=some false)
  (qBw:Lm K (.ref cw) [.ref cb,.ref ce]=some false)
  (qLs:Lm K (.ref cs) [.ref cw,.ref cs,.ref cr]=some true)
  (qEs:Lw K (.ref cs) (.ref ce)=some false)
  (qBs:Lm K (.ref cs) [.ref cb,.ref ce]=some false)
  (qLr:Lm K (.ref cr) [.ref cw,.ref cs,.ref cr]=some true)
  (qEr:Lw K (.ref cr) (.ref ce)=some false)
  (qBr:Lm K (.ref cr) [.ref cb,.ref ce]=some false)
  (qLn:Lm K (.ref cn) [.ref cw,.ref cs,.ref cr]=some false)
  (qEn:Lw K (.ref cn) (.ref ce)=some false)
  (qBn:Lm K (.ref cn) [.ref cb,.ref ce]=some false)
  (qLb:Lm K (.ref cb) [.ref cw,.ref cs,.ref cr]=some false)
  (qEb:Lw K (.ref cb) (.ref ce)=some false)
  (qBb:Lm K (.ref cb) [.ref cb,.ref ce]=some true)
  (qLe:Lm K (.ref ce) [.ref cw,.ref cs,.ref cr]=some false)
  (qEe:Lw K (.ref ce) (.ref ce)=some true)
  (qBe:Lm K (.ref ce) [.ref cb,.ref ce]=some true)
  (qLo:Lm K (.ref co) [.ref cw,.ref cs,.ref cr]=some false)
  (qEo:Lw K (.ref co) (.ref ce)=some false)
  (qBo:Lm K (.ref co) [.ref cb,.ref ce]=some false)
  (aB:Lx K Kc "BadAsk"=some (some (.ref CB)))
  (xB:W.excIn K CB [.type "ValueError",.type "Exception",.type "BaseException",.type "object"] "ValueError.__new__"=true)
  (aBk:Lx K Kc "Bracket"=some (some (.ref cBk)))
  (CBk:CL K cBk)
  (nBnots:Li K (.ref cBk) "nots"=some none)
  (nBbyand:Li K (.ref cBk) "by_and"=some none)
  (nBbyor:Li K (.ref cBk) "by_or"=some none)
  (mBk0:MF K cBk fBk0 "__init__" "Bracket.__init__" (inClass gD 0) dBk0)
  (mBk1:MF K cBk fBk1 "deny" "Bracket.deny" (inClass gD 1) dBk1)
  (mBk2:MF K cBk fBk2 "take_in" "Bracket.take_in" (inClass gD 2) dBk2)
  (mBk3:MF K cBk fBk3 "choose" "Bracket.choose" (inClass gD 3) dBk3)
  (mBk4:MF K cBk fBk4 "whole" "Bracket.whole" (inClass gD 4) dBk4)
  (aRd:Lx K Kc "Reader"=some (some (.ref cRdr)))
  (CRd:CL K cRdr)
  (nDbrackets:Li K (.ref cRdr) "brackets"=some none)
  (nDlast:Li K (.ref cRdr) "last"=some none)
  (nDleaf:Li K (.ref cRdr) "leaf"=some none)
  (nDfar:Li K (.ref cRdr) "far"=some none)
  (mRd0:MF K cRdr fRd0 "__init__" "Reader.__init__" (inClass fJ 0) dRd0)
  (mRd1:MF K cRdr fRd1 "lets" "Reader.lets" (inClass fJ 1) dRd1)
  (mRd2:MF K cRdr fRd2 "read_leaf" "Reader.read_leaf" (inClass fJ 2) dRd2)
  (mRd3:MF K cRdr fRd3 "read_other" "Reader.read_other" (inClass fJ 3) dRd3)
  (mRd4:MF K cRdr fRd4 "read" "Reader.read" (inClass fJ 4) dRd4)
  (mRd5:MF K cRdr fRd5 "whole" "Reader.whole" (inClass fJ 5) dRd5)
  :u9 K mg:=by
 refine⟨(sel cw cs cr cn cb ce co),(sel fIw fIs fIr fIn fIb fIe fIo),(sel fTw fTs fTr fTn fTb fTe fTo),(sel fWw fWs fWr fWn fWb fWe fWo),(sel fKw fKs fKr fKn fKb fKe fKo),(sel dIw dIs dIr dIn dIb dIe dIo),(sel dTw dTs dTr dTn dTb dTe dTo),(sel dWw dWs dWr dWn dWb dWe dWo),(sel dKw dKs dKr dKn dKb dKe dKo),CB,cBk,cRdr,fBk0,fBk1,fBk2,fBk3,fBk4,dBk0,dBk1,dBk2,dBk3,dBk4,fRd0,fRd1,fRd2,fRd3,fRd4,fRd5,dRd0,dRd1,dRd2,dRd3,dRd4,dRd5,?_⟩
 refine⟨⟨λi=>match i with|.w=>⟨Cw.1,hw.1,hGet,hTak,hw.2⟩|.s=>⟨Cs.1,hs.1,hGet,hTak,hs.2⟩|.r=>⟨Cr.1,hr.1,hGet,hTak,hr.2⟩|.n=>⟨Cn.1,hn.1,hGet,hTak,hn.2⟩|.b=>⟨Cb.1,hb.1,hGet,hTak,hb.2⟩|.e=>⟨Ce.1,he.1,hGet,hTak,he.2⟩|.o=>⟨Co.1,ho.1,hGet,hTak,ho.2⟩,λi=>match i with|.w=>nw.1|.s=>ns.1|.r=>nr.1|.n=>nn.1|.b=>nb.1|.e=>ne.1|.o=>no.1,λi=>match i with|.w=>nw.2.1|.s=>ns.2.1|.r=>nr.2.1|.n=>nn.2.1|.b=>nb.2.1|.e=>ne.2.1|.o=>no.2.1,λi=>match i with|.w=>nw.2.2.1|.s=>ns.2.2.1|.r=>nr.2.2.1|.n=>nn.2.2.1|.b=>nb.2.2.1|.e=>ne.2.2.1|.o=>no.2.2.1,λi=>match i with|.w=>nw.2.2.2.1|.s=>ns.2.2.2.1|.r=>nr.2.2.2.1|.n=>nn.2.2.2.1|.b=>nb.2.2.2.1|.e=>ne.2.2.2.1|.o=>no.2.2.2.1,λi=>match i with|.w=>nw.2.2.2.2|.s=>ns.2.2.2.2|.r=>nr.2.2.2.2|.n=>nn.2.2.2.2|.b=>nb.2.2.2.2|.e=>ne.2.2.2.2|.o=>no.2.2.2.2⟩,⟨LF X G aw,LF X G as,LF X G ar,LF X G an,LF X G ab,LF X G ae,LF X G ao⟩,⟨λi=>match i with|.w=>mIw.1|.s=>mIs.1|.r=>mIr.1|.n=>mIn.1|.b=>mIb.1|.e=>mIe.1|.o=>mIo.1,λi=>match i with|.w=>⟨Cw.2.1,mIw.2.1,mIw.2.2,Cw.2.2⟩|.s=>⟨Cs.2.1,mIs.2.1,mIs.2.2,Cs.2.2⟩|.r=>⟨Cr.2.1,mIr.2.1,mIr.2.2,Cr.2.2⟩|.n=>⟨Cn.2.1,mIn.2.1,mIn.2.2,Cn.2.2⟩|.b=>⟨Cb.2.1,mIb.2.1,mIb.2.2,Cb.2.2⟩|.e=>⟨Ce.2.1,mIe.2.1,mIe.2.2,Ce.2.2⟩|.o=>⟨Co.2.1,mIo.2.1,mIo.2.2,Co.2.2⟩⟩,⟨λi=>match i with|.w=>mTw.1|.s=>mTs.1|.r=>mTr.1|.n=>mTn.1|.b=>mTb.1|.e=>mTe.1|.o=>mTo.1,λi=>match i with|.w=>mTw.2|.s=>mTs.2|.r=>mTr.2|.n=>mTn.2|.b=>mTb.2|.e=>mTe.2|.o=>mTo.2⟩,⟨λi=>match i with|.w=>mWw.1|.s=>mWs.1|.r=>fZ.1|.n=>mWn.1|.b=>mWb.1|.e=>mWe.1|.o=>mWo.1,λi=>match i with|.w=>mWw.2|.s=>mWs.2|.r=>fZ.2|.n=>mWn.2|.b=>mWb.2|.e=>mWe.2|.o=>mWo.2⟩,⟨λi=>match i with|.w=>mKw.1|.s=>mKs.1|.r=>mKr.1|.n=>mKn.1|.b=>mKb.1|.e=>mKe.1|.o=>mKo.1,λi=>match i with|.w=>mKw.2|.s=>mKs.2|.r=>mKr.2|.n=>mKn.2|.b=>mKb.2|.e=>mKe.2|.o=>mKo.2⟩,λi=>match i with|.w=>qLw|.s=>qLs|.r=>qLr|.n=>qLn|.b=>qLb|.e=>qLe|.o=>qLo,λi=>match i with|.w=>qEw|.s=>qEs|.r=>qEr|.n=>qEn|.b=>qEb|.e=>qEe|.o=>qEo,λi=>match i with|.w=>qBw|.s=>qBs|.r=>qBr|.n=>qBn|.b=>qBb|.e=>qBe|.o=>qBo,⟨LF X G aB,xB⟩,⟨⟨CBk.1,nBnots,nBbyand,nBbyor⟩,mBk0.1,⟨CBk.2.1,mBk0.2.1,mBk0.2.2,CBk.2.2⟩,mBk1.1,mBk1.2,mBk2.1,mBk2.2,mBk3.1,mBk3.2,mBk4.1,mBk4.2⟩,LF X G aBk,⟨⟨CRd.1,nDbrackets,nDlast,nDleaf,nDfar⟩,mRd0.1,⟨CRd.2.1,mRd0.2.1,mRd0.2.2,CRd.2.2⟩,mRd1.1,mRd1.2,mRd2.1,mRd2.2,mRd3.1,mRd3.2,mRd4.1,mRd4.2,mRd5.1,mRd5.2⟩,LF X G aRd⟩
theorem JD(T:Txt mg)(X:u9 K mg)(KL:∃ d,mg "TOLD_LENGTHS"=some (.ref d)/\KD P w K d gf)(KB:∃ d j,mg "BEHIND"=some (.ref d)/\KD P w K d (oM j)/\∀ k,k≠ .stop->∀ H,cu K H (j k) (kc k))(KJ:∃ j,mg "JOINING"=some (.ref j)/\∀ H,cu K H j gU)
  (d_sWhole:∃ f fd,Df K mg "is_whole" qy f fd)
  (d_sSign:∃ f fd,Df K mg "is_text_sign" pI f fd)
  (d_sText:∃ f fd,Df K mg "is_text" oA f fd)
  (d_sRow:∃ f fd,Df K mg "is_small_row" pC f fd)
  (d_sNText:∃ f fd,Df K mg "need_text" qD f fd)
  (d_sWord:∃ f fd,Df K mg "is_word" qk f fd)
  (d_sInB:∃ f fd,Df K mg "in_brackets" iG f fd)
  (d_sName:∃ f fd,Df K mg "need_name" p4 f fd)
  (d_sAWord:∃ f fd,Df K mg "asked_word" o8 f fd)
  (d_sARow:∃ f fd,Df K mg "asked_row" nO f fd)
  (d_sANear:∃ f fd,Df K mg "asked_near" qQ f fd)
  (d_sWithin:∃ f fd,Df K mg "ask_within" pU f fd)
  (d_sMany:∃ f fd,Df K mg "many_in" nA f fd)
  (d_sAskOf:∃ f fd,Df K mg "ask_of" nJ f fd)
  (d_sNoP:∃ f fd,Df K mg "no_piece" mw f fd)
  (d_sEnd:∃ f fd,Df K mg "end_of_row" nu f fd)
  (d_sWP:∃ f fd,Df K mg "word_piece" pG f fd)
  (d_sFP:∃ f fd,Df K mg "far_piece" pK f fd)
  (d_sMP:∃ f fd,Df K mg "marked_piece" nV f fd)
  (d_sPAt:∃ f fd,Df K mg "piece_at" pW f fd)
  (d_sParted:∃ f fd,Df K mg "parted" pE f fd)
  (d_sRead:∃ f fd,Df K mg "read_ask" nC f fd)
  (d_lMixed:∃ f fd,Df K mg "_law_mixed" ju f fd)
  (d_lNumber:∃ f fd,Df K mg "_law_number" mS f fd)
  (d_lMenu:∃ f fd,Df K mg "_law_menu" lX f fd)
  (d_lPlain:∃ f fd,Df K mg "_law_plain" kM f fd)
  (d_lTree:∃ f fd,Df K mg "_law_tree" nZ f fd)
  (d_lKids:∃ f fd,Df K mg "_law_kids" kQ f fd)
  (d_lSK:∃ f fd,Df K mg "_law_sign_kind" oQ f fd)
  (d_lRP:∃ f fd,Df K mg "_law_row_piece" oE f fd)
  (d_lPiece:∃ f fd,Df K mg "_law_piece" mv f fd)
  (d_lPut:∃ f fd,Df K mg "_law_put" oG f fd)
  (d_lPutA:∃ f fd,Df K mg "_law_put_all" l8 f fd)
  (d_lFits:∃ f fd,Df K mg "_law_fits" nM f fd)
  (d_lFirst:∃ f fd,Df K mg "_law_first" qO f fd)
  (d_lJoin:∃ f fd,Df K mg "_law_joined" p7 f fd)
  (d_lRead:∃ f fd,Df K mg "_law_read" pP f fd)
  (d_lBrk:∃ f fd,Df K mg "_law_brackets" qx f fd)
  (d_lAnds:∃ f fd,Df K mg "_law_ands" mZ f fd)
  (d_lWof:∃ f fd,Df K mg "_law_words_of" qe f fd)
  (d_lRight:∃ f fd,Df K mg "_law_right" qo f fd)
  {f:JR}{fd:J2}(D:Df K mg "law" jG f fd):bX P w K mg base b7 18 f fd ["_law_script"] (ph K):=by
 obtain⟨C,fi,ft,fw,fk,di,dt,dw,dk,CB,bg,bf,b0,b1,b2,b3,b4,e0,e1,e2,e3,e4,r0,r1,r2,r3,r4,r5,g0,g1,g2,g3,g4,g5,Z⟩:=X;obtain⟨d,hd,a5⟩:=KL;obtain⟨dB,jB,hB,a6,kB⟩:=KB;obtain⟨j,hJ,kJ⟩:=KJ;obtain⟨_,_,aE⟩:=d_sWhole;obtain⟨_,_,aI⟩:=d_sSign;obtain⟨_,_,ar⟩:=d_sText;obtain⟨_,_,aL⟩:=d_sRow;obtain⟨_,_,ao⟩:=d_sNText;obtain⟨_,_,au⟩:=d_sWord;obtain⟨_,_,aM⟩:=d_sInB;obtain⟨_,_,af⟩:=d_sName;obtain⟨_,_,J⟩:=d_sAWord;obtain⟨_,_,ag⟩:=d_sARow;obtain⟨_,_,aa⟩:=d_sANear;obtain⟨_,_,U⟩:=d_sWithin;obtain⟨_,_,av⟩:=d_sMany;obtain⟨_,_,ab⟩:=d_sAskOf;obtain⟨_,_,aN⟩:=d_sNoP;obtain⟨_,_,aO⟩:=d_sEnd;obtain⟨_,_,aQ⟩:=d_sWP;obtain⟨_,_,aR⟩:=d_sFP;obtain⟨_,_,aS⟩:=d_sMP;obtain⟨_,_,aB⟩:=d_sPAt;obtain⟨_,_,ah⟩:=d_sParted;obtain⟨_,_,ai⟩:=d_sRead;obtain⟨_,_,aF⟩:=d_lMixed;obtain⟨_,_,aA⟩:=d_lNumber;obtain⟨_,_,aJ⟩:=d_lMenu;obtain⟨_,_,aG⟩:=d_lPlain;obtain⟨_,_,aK⟩:=d_lTree;obtain⟨_,_,aj⟩:=d_lKids;obtain⟨_,_,aT⟩:=d_lSK;obtain⟨_,_,aU⟩:=d_lRP;obtain⟨_,_,ae⟩:=d_lPiece;obtain⟨_,_,aC⟩:=d_lPut;obtain⟨_,_,ak⟩:=d_lPutA;obtain⟨_,_,aw⟩:=d_lFits;obtain⟨_,_,aH⟩:=d_lFirst;obtain⟨_,_,ax⟩:=d_lJoin;obtain⟨_,_,ay⟩:=d_lRead;obtain⟨_,_,aP⟩:=d_lBrk;obtain⟨_,_,az⟩:=d_lAnds;obtain⟨_,_,aD⟩:=d_lWof;obtain⟨_,_,aq⟩:=d_lRight;have aV:=Jd (P:=P) (w:=w) (base:=base) au aL T;have aW:=GV J au Z.ex aV;have g6:=EK (P:=P) (w:=w) (base:=base) af T Z.ex hd a5;have aX:=Bt ag J T Z.cs Z.I Z.nm.r Z.ex aW;have aY:=Cc (P:=P) (w:=w) (base:=base) aa aE T Z.cs Z.I Z.nm.w Z.nm.s Z.nm.r Z.nm.n Z.ex Z.hK;have gW:∀ n:Nat,bX P w K mg base (dD P w) (n+5) _ _ ["told","deep"] (sN C CB n):=λn=>by
  induction n with
  |zero=>exact Af U af J ag aa Z.cs Z.I Z.nm Z.ex g6 aW aX aY 0 tH
  |succ n ih=>exact Af U af J ag aa Z.cs Z.I Z.nm Z.ex g6 aW aX aY (n+1) ih
 have gO:=Ei ab U av T Z.ex (gW 8) (zL av T Z.cs Z.MK 7)
 have aZ:=uj (P:=P) (w:=w) (base:=base) Z.cs Z.MW aM Z.nm hJ kJ Z.hE Z.hBE T 7
 have a7:=CJ (P:=P) (w:=w) (base:=base) aB aQ aO aR aS aN hJ kJ T
 have a0:=Hn (P:=P) (w:=w) (base:=base) ah aB a7 T
 have a8:=JC (P:=P) (w:=w) (base:=base) ao ar (Dg ar aI T)
 have a3:=FN ai ah (a0.mono (by decide)) ao (a8.mono (by decide)) ab gO Z.ex Z.bm Z.mB Z.rm Z.mR T hB a6 kB
 have a4:=CC (P:=P) (w:=w) (base:=base) ae aU aT T
 have a9:=Gh ay ae a4 aH ax (BX ax ak aC T) ak (AY ak aC) aw (Dr aw aj) T
 have ba:=CD aD ae a4 T
 have bb:=x8 (P:=P) (w:=w) (base:=base) az aj T 7
 have bc:=Iw aq T Z.cs Z.MW (λi=>(aZ i).mono (by decide)) Z.MT ay (a9.mono (by decide)) ai (a3.mono (by decide)) aD (ba.mono (by decide)) az (bb.mono (by decide)) aP;exact Hx D aA aF aJ aK aG ab aq ai aj Z.cs Z.MK Z.MW (λi=>(aZ i).mono (by decide)) Z.MT T gO (a3.mono (by decide)) bc
theorem EA{f fa:JR}{oc kV doc pm cd ct:JT}{od an:JW JR}{sl:MM (JW JT)}(X:K.In h)(G:h.Ns Kc mg)(hfa:mg "law"=some (.ref fa))(a:Lx K Kc "law"=some (some (.ref f)))
  (l:K.lookup f=some ⟨oc,od,.func (Nk "law" "law" (ji jG) (iC jG) (cG jG) .none kV doc pm an cd ct),sl⟩)(c:N1 K cd "law"=true)(k:ME K (.ref f)=true)
  (ok:∀(fd:J2) (base:KP),Df K mg "law" jG f fd->bX P w K mg base b7 18 f fd ["_law_script"] (ph K)):
  ∃ fd:J2,(∀(s:JZ) (v:JT),O1 s fd ⟨[v],[]⟩ [("_law_script",v)])/\∀ base:KP,K.In base->base.Ns Kc mg->bX P w K mg base b7 18 fa fd ["_law_script"] (ph K):=by
 have e:=hfa.symm.trans (LF X G a);cases e;exact⟨Nk "law" "law" (ji jG) (iC jG) (cG jG) .none kV doc pm an cd ct,λs v=> .of_eq rfl,λbase _ _=>ok _ base ⟨xi l c k,LF X G a⟩⟩
end
theorem walk{l:W.OpenLaw}{q:Ka}{loose:JP Str}{XP:(Str->JW JT)->KP->Prop}{YP:Ku->KP->Prop}{d:DefRec}{K:Params->Kl}(hn:l.most=some 63)(hdf:d.params.defaults=[])
  (hY:∀(w:Ku) (h:KP),YP w h->(K w.params).In h)
  (F:∀(w:Ku) (mg:Str->JW JT) (fa:JR) (h:KP),(K w.params).In h->h.Ns Kc mg->mg d.name=some (.ref fa)->
   ∃ fd:J2,(∀(s:JZ) (u:JT),O1 s fd ⟨[u],[]⟩ [("_law_script",u)])/\∀ base:KP,(K w.params).In base->base.Ns Kc mg->bX l.prog w (K w.params) mg base b7 18 fa fd ["_law_script"] (ph (K w.params))):
  W.WalkO q loose XP YP l.row.toRowW d [] (λf vs=>PySem.call f vs):=
 F0 (n:=63) (k:=18) (x:="_law_script") (sp:=ph) hn (by decide) hdf ⟨rfl,by decide,by decide⟩ hY F λK H a ns J hb U=>⟨a,ns,rfl,U,J,λ_=>rfl⟩
end K13
open PySem PySem.W PyProof.Rows
set_option maxRecDepth 100000 in
set_option maxHeartbeats 0 in
theorem PySem.Challenge.cw_findhall_k13_asks_written_holds : PySem.Challenge.rw_findhall_k13_asks_written.Holds := by
 refine H13.head ?_
 k_fill
 refine K13.walk (l := PySem.Challenge.rw_findhall_k13_asks_written) rfl rfl (fun w h Y => PySem.W.kIn_of Y) ?F
 case F =>
  intro w mg fa h J G a3
  have hC : K13.u9 (L2.cI J) mg := by
   dsimp only [L2.cI]
   refine' K13.HZ J G ?hGet ?hTak ?aw ?Cw ?hw ?nw ?mIw ?mTw ?mWw ?mKw ?as ?Cs ?hs ?ns ?mIs ?mTs ?mWs ?mKs ?ar ?Cr ?hr ?nr ?mIr ?mTr ?fZ ?mKr ?an ?Cn ?hn ?nn ?mIn ?mTn ?mWn ?mKn ?ab ?Cb ?hb ?nb ?mIb ?mTb ?mWb ?mKb ?ae ?Ce ?he ?ne ?mIe ?mTe ?mWe ?mKe ?ao ?Co ?ho ?no ?mIo ?mTo ?mWo ?mKo ?qLw ?qEw ?qBw ?qLs ?qEs ?qBs ?qLr ?qEr ?qBr ?qLn ?qEn ?qBn ?qLb ?qEb ?qBb ?qLe ?qEe ?qBe ?qLo ?qEo ?qBo ?aB ?xB ?aBk ?CBk ?nBnots ?nBbyand ?nBbyor ?mBk0 ?mBk1 ?mBk2 ?mBk3 ?mBk4 ?aRd ?CRd ?nDbrackets ?nDlast ?nDleaf ?nDfar ?mRd0 ?mRd1 ?mRd2 ?mRd3 ?mRd4 ?mRd5
   (case hGet => k_is)
   (case hTak => k_is)
   (case aw => k_is)
   (case Cw => refine' K13.kz ?ua1 ?ub1 ?uc1 ?ud1 ?ue1 ?uf1 <;> k_is)
   (case hw => refine' K13.mj ?ua2 ?ub2 <;> k_is)
   (case nw => refine' K13.mf ?ua3 ?ub3 ?uc3 ?ud3 ?ue3 <;> k_is)
   (case mIw => refine' K13.dX ?ua4 ?ui4 ?ul4 ?uc4 ?uk4; (case ua4 => k_is); (case ui4 => k_is); (case ul4 => k_is); (case uc4 => k_is); (case uk4 => k_is))
   (case mTw => refine' K13.dX ?ua5 ?ui5 ?ul5 ?uc5 ?uk5; (case ua5 => k_is); (case ui5 => k_is); (case ul5 => k_is); (case uc5 => k_is); (case uk5 => k_is))
   (case mWw => refine' K13.dX ?ua6 ?ui6 ?ul6 ?uc6 ?uk6; (case ua6 => k_is); (case ui6 => k_is); (case ul6 => k_is); (case uc6 => k_is); (case uk6 => k_is))
   (case mKw => refine' K13.dX ?ua7 ?ui7 ?ul7 ?uc7 ?uk7; (case ua7 => k_is); (case ui7 => k_is); (case ul7 => k_is); (case uc7 => k_is); (case uk7 => k_is))
   (case as => k_is)
   (case Cs => refine' K13.kz ?ua8 ?ub8 ?uc8 ?ud8 ?ue8 ?uf8 <;> k_is)
   (case hs => refine' K13.mj ?ua9 ?ub9 <;> k_is)
   (case ns => refine' K13.mf ?ua10 ?ub10 ?uc10 ?ud10 ?ue10 <;> k_is)
   (case mIs => refine' K13.dX ?ua11 ?ui11 ?ul11 ?uc11 ?uk11; (case ua11 => k_is); (case ui11 => k_is); (case ul11 => k_is); (case uc11 => k_is); (case uk11 => k_is))
   (case mTs => refine' K13.dX ?ua12 ?ui12 ?ul12 ?uc12 ?uk12; (case ua12 => k_is); (case ui12 => k_is); (case ul12 => k_is); (case uc12 => k_is); (case uk12 => k_is))
   (case mWs => refine' K13.dX ?ua13 ?ui13 ?ul13 ?uc13 ?uk13; (case ua13 => k_is); (case ui13 => k_is); (case ul13 => k_is); (case uc13 => k_is); (case uk13 => k_is))
   (case mKs => refine' K13.dX ?ua14 ?ui14 ?ul14 ?uc14 ?uk14; (case ua14 => k_is); (case ui14 => k_is); (case ul14 => k_is); (case uc14 => k_is); (case uk14 => k_is))
   (case ar => k_is)
   (case Cr => refine' K13.kz ?ua15 ?ub15 ?uc15 ?ud15 ?ue15 ?uf15 <;> k_is)
   (case hr => refine' K13.mj ?ua16 ?ub16 <;> k_is)
   (case nr => refine' K13.mf ?ua17 ?ub17 ?uc17 ?ud17 ?ue17 <;> k_is)
   (case mIr => refine' K13.dX ?ua18 ?ui18 ?ul18 ?uc18 ?uk18; (case ua18 => k_is); (case ui18 => k_is); (case ul18 => k_is); (case uc18 => k_is); (case uk18 => k_is))
   (case mTr => refine' K13.dX ?ua19 ?ui19 ?ul19 ?uc19 ?uk19; (case ua19 => k_is); (case ui19 => k_is); (case ul19 => k_is); (case uc19 => k_is); (case uk19 => k_is))
   (case fZ => refine' K13.dX ?ua20 ?ui20 ?ul20 ?uc20 ?uk20; (case ua20 => k_is); (case ui20 => k_is); (case ul20 => k_is); (case uc20 => k_is); (case uk20 => k_is))
   (case mKr => refine' K13.dX ?ua21 ?ui21 ?ul21 ?uc21 ?uk21; (case ua21 => k_is); (case ui21 => k_is); (case ul21 => k_is); (case uc21 => k_is); (case uk21 => k_is))
   (case an => k_is)
   (case Cn => refine' K13.kz ?ua22 ?ub22 ?uc22 ?ud22 ?ue22 ?uf22 <;> k_is)
   (case hn => refine' K13.mj ?ua23 ?ub23 <;> k_is)
   (case nn => refine' K13.mf ?ua24 ?ub24 ?uc24 ?ud24 ?ue24 <;> k_is)
   (case mIn => refine' K13.dX ?ua25 ?ui25 ?ul25 ?uc25 ?uk25; (case ua25 => k_is); (case ui25 => k_is); (case ul25 => k_is); (case uc25 => k_is); (case uk25 => k_is))
   (case mTn => refine' K13.dX ?ua26 ?ui26 ?ul26 ?uc26 ?uk26; (case ua26 => k_is); (case ui26 => k_is); (case ul26 => k_is); (case uc26 => k_is); (case uk26 => k_is))
   (case mWn => refine' K13.dX ?ua27 ?ui27 ?ul27 ?uc27 ?uk27; (case ua27 => k_is); (case ui27 => k_is); (case ul27 => k_is); (case uc27 => k_is); (case uk27 => k_is))
   (case mKn => refine' K13.dX ?ua28 ?ui28 ?ul28 ?uc28 ?uk28; (case ua28 => k_is); (case ui28 => k_is); (case ul28 => k_is); (case uc28 => k_is); (case uk28 => k_is))
   (case ab => k_is)
   (case Cb => refine' K13.kz ?ua29 ?ub29 ?uc29 ?ud29 ?ue29 ?uf29 <;> k_is)
   (case hb => refine' K13.mj ?ua30 ?ub30 <;> k_is)
   (case nb => refine' K13.mf ?ua31 ?ub31 ?uc31 ?ud31 ?ue31 <;> k_is)
   (case mIb => refine' K13.dX ?ua32 ?ui32 ?ul32 ?uc32 ?uk32; (case ua32 => k_is); (case ui32 => k_is); (case ul32 => k_is); (case uc32 => k_is); (case uk32 => k_is))
   (case mTb => refine' K13.dX ?ua33 ?ui33 ?ul33 ?uc33 ?uk33; (case ua33 => k_is); (case ui33 => k_is); (case ul33 => k_is); (case uc33 => k_is); (case uk33 => k_is))
   (case mWb => refine' K13.dX ?ua34 ?ui34 ?ul34 ?uc34 ?uk34; (case ua34 => k_is); (case ui34 => k_is); (case ul34 => k_is); (case uc34 => k_is); (case uk34 => k_is))
   (case mKb => refine' K13.dX ?ua35 ?ui35 ?ul35 ?uc35 ?uk35; (case ua35 => k_is); (case ui35 => k_is); (case ul35 => k_is); (case uc35 => k_is); (case uk35 => k_is))
   (case ae => k_is)
   (case Ce => refine' K13.kz ?ua36 ?ub36 ?uc36 ?ud36 ?ue36 ?uf36 <;> k_is)
   (case he => refine' K13.mj ?ua37 ?ub37 <;> k_is)
   (case ne => refine' K13.mf ?ua38 ?ub38 ?uc38 ?ud38 ?ue38 <;> k_is)
   (case mIe => refine' K13.dX ?ua39 ?ui39 ?ul39 ?uc39 ?uk39; (case ua39 => k_is); (case ui39 => k_is); (case ul39 => k_is); (case uc39 => k_is); (case uk39 => k_is))
   (case mTe => refine' K13.dX ?ua40 ?ui40 ?ul40 ?uc40 ?uk40; (case ua40 => k_is); (case ui40 => k_is); (case ul40 => k_is); (case uc40 => k_is); (case uk40 => k_is))
   (case mWe => refine' K13.dX ?ua41 ?ui41 ?ul41 ?uc41 ?uk41; (case ua41 => k_is); (case ui41 => k_is); (case ul41 => k_is); (case uc41 => k_is); (case uk41 => k_is))
   (case mKe => refine' K13.dX ?ua42 ?ui42 ?ul42 ?uc42 ?uk42; (case ua42 => k_is); (case ui42 => k_is); (case ul42 => k_is); (case uc42 => k_is); (case uk42 => k_is))
   (case ao => k_is)
   (case Co => refine' K13.kz ?ua43 ?ub43 ?uc43 ?ud43 ?ue43 ?uf43 <;> k_is)
   (case ho => refine' K13.mj ?ua44 ?ub44 <;> k_is)
   (case no => refine' K13.mf ?ua45 ?ub45 ?uc45 ?ud45 ?ue45 <;> k_is)
   (case mIo => refine' K13.dX ?ua46 ?ui46 ?ul46 ?uc46 ?uk46; (case ua46 => k_is); (case ui46 => k_is); (case ul46 => k_is); (case uc46 => k_is); (case uk46 => k_is))
   (case mTo => refine' K13.dX ?ua47 ?ui47 ?ul47 ?uc47 ?uk47; (case ua47 => k_is); (case ui47 => k_is); (case ul47 => k_is); (case uc47 => k_is); (case uk47 => k_is))
   (case mWo => refine' K13.dX ?ua48 ?ui48 ?ul48 ?uc48 ?uk48; (case ua48 => k_is); (case ui48 => k_is); (case ul48 => k_is); (case uc48 => k_is); (case uk48 => k_is))
   (case mKo => refine' K13.dX ?ua49 ?ui49 ?ul49 ?uc49 ?uk49; (case ua49 => k_is); (case ui49 => k_is); (case ul49 => k_is); (case uc49 => k_is); (case uk49 => k_is))
   (case qLw => kit_is)
   (case qEw => kit_is)
   (case qBw => kit_is)
   (case qLs => kit_is)
   (case qEs => kit_is)
   (case qBs => kit_is)
   (case qLr => kit_is)
   (case qEr => kit_is)
   (case qBr => kit_is)
   (case qLn => kit_is)
   (case qEn => kit_is)
   (case qBn => kit_is)
   (case qLb => kit_is)
   (case qEb => kit_is)
   (case qBb => kit_is)
   (case qLe => kit_is)
   (case qEe => kit_is)
   (case qBe => kit_is)
   (case qLo => kit_is)
   (case qEo => kit_is)
   (case qBo => kit_is)
   (case aB => k_is)
   (case xB => k_exc)
   (case aBk => k_is)
   (case CBk => refine' K13.kz ?ua50 ?ub50 ?uc50 ?ud50 ?ue50 ?uf50 <;> k_is)
   (case nBnots => k_is)
   (case nBbyand => k_is)
   (case nBbyor => k_is)
   (case mBk0 => refine' K13.dX ?ua51 ?ui51 ?ul51 ?uc51 ?uk51; (case ua51 => k_is); (case ui51 => k_is); (case ul51 => k_is); (case uc51 => k_is); (case uk51 => k_is))
   (case mBk1 => refine' K13.dX ?ua52 ?ui52 ?ul52 ?uc52 ?uk52; (case ua52 => k_is); (case ui52 => k_is); (case ul52 => k_is); (case uc52 => k_is); (case uk52 => k_is))
   (case mBk2 => refine' K13.dX ?ua53 ?ui53 ?ul53 ?uc53 ?uk53; (case ua53 => k_is); (case ui53 => k_is); (case ul53 => k_is); (case uc53 => k_is); (case uk53 => k_is))
   (case mBk3 => refine' K13.dX ?ua54 ?ui54 ?ul54 ?uc54 ?uk54; (case ua54 => k_is); (case ui54 => k_is); (case ul54 => k_is); (case uc54 => k_is); (case uk54 => k_is))
   (case mBk4 => refine' K13.dX ?ua55 ?ui55 ?ul55 ?uc55 ?uk55; (case ua55 => k_is); (case ui55 => k_is); (case ul55 => k_is); (case uc55 => k_is); (case uk55 => k_is))
   (case aRd => k_is)
   (case CRd => refine' K13.kz ?ua56 ?ub56 ?uc56 ?ud56 ?ue56 ?uf56 <;> k_is)
   (case nDbrackets => k_is)
   (case nDlast => k_is)
   (case nDleaf => k_is)
   (case nDfar => k_is)
   (case mRd0 => refine' K13.dX ?ua57 ?ui57 ?ul57 ?uc57 ?uk57; (case ua57 => k_is); (case ui57 => k_is); (case ul57 => k_is); (case uc57 => k_is); (case uk57 => k_is))
   (case mRd1 => refine' K13.dX ?ua58 ?ui58 ?ul58 ?uc58 ?uk58; (case ua58 => k_is); (case ui58 => k_is); (case ul58 => k_is); (case uc58 => k_is); (case uk58 => k_is))
   (case mRd2 => refine' K13.dX ?ua59 ?ui59 ?ul59 ?uc59 ?uk59; (case ua59 => k_is); (case ui59 => k_is); (case ul59 => k_is); (case uc59 => k_is); (case uk59 => k_is))
   (case mRd3 => refine' K13.dX ?ua60 ?ui60 ?ul60 ?uc60 ?uk60; (case ua60 => k_is); (case ui60 => k_is); (case ul60 => k_is); (case uc60 => k_is); (case uk60 => k_is))
   (case mRd4 => refine' K13.dX ?ua61 ?ui61 ?ul61 ?uc61 ?uk61; (case ua61 => k_is); (case ui61 => k_is); (case ul61 => k_is); (case uc61 => k_is); (case uk61 => k_is))
   (case mRd5 => refine' K13.dX ?ua62 ?ui62 ?ul62 ?uc62 ?uk62; (case ua62 => k_is); (case ui62 => k_is); (case ul62 => k_is); (case uc62 => k_is); (case uk62 => k_is))
  have T : K13.Txt mg := by
   refine' K13.Di J G ?n0 ?n1 ?n2 ?n3 ?n4 ?n5 ?n6 ?n7 ?n8 ?n9 ?n10 ?n11 ?c0 ?c1 ?c2 ?c3 ?c4 ?c5 ?c6 ?c7 ?c8 ?c9
   (case n0 => k_is)
   (case n1 => k_is)
   (case n2 => k_is)
   (case n3 => k_is)
   (case n4 => k_is)
   (case n5 => k_is)
   (case n6 => k_is)
   (case n7 => k_is)
   (case n8 => k_is)
   (case n9 => k_is)
   (case n10 => k_is)
   (case n11 => k_is)
   (case c0 => k_is)
   (case c1 => k_is)
   (case c2 => k_is)
   (case c3 => k_is)
   (case c4 => k_is)
   (case c5 => k_is)
   (case c6 => k_is)
   (case c7 => k_is)
   (case c8 => k_is)
   (case c9 => k_is)
  have KL : ∃ d, mg "TOLD_LENGTHS" = some (.ref d) /\ L2.KD PySem.Challenge.rw_findhall_k13_asks_written.prog w (L2.cI J) d K13.gf := by
   dsimp only [L2.cI]
   refine' K13.D6 _ J G ?a ?ns ?l
   (case a => k_is)
   (case ns => decide)
   (case l => k_is)
  have KB : ∃ d j, mg "BEHIND" = some (.ref d) /\ L2.KD PySem.Challenge.rw_findhall_k13_asks_written.prog w (L2.cI J) d (K13.oM j) /\ ∀ k, k ≠ .stop -> ∀ H, L2.cu (L2.cI J) H (j k) (K13.kc k) := by
   dsimp only [L2.cI]
   refine' K13.HG _ J G ?a ?ns ?l ?l0 ?l1 ?l2 ?l3 ?l4 ?l5 ?l6 ?l7
   (case a => k_is)
   (case ns => decide)
   (case l => k_is)
   (case l0 => k_is); (case l1 => k_is); (case l2 => k_is); (case l3 => k_is); (case l4 => k_is); (case l5 => k_is); (case l6 => k_is); (case l7 => k_is)
  have KJ : ∃ j, mg "JOINING" = some (.ref j) /\ ∀ H, L2.cu (L2.cI J) H j K13.gU := by
   dsimp only [L2.cI]
   refine' K13.Jy J G ?a ?l
   (case a => k_is)
   (case l => k_is)
  have af : ∃ f fd, Gn.Df (L2.cI J) mg "is_whole" K13.qy f fd := by
   dsimp only [L2.cI]
   refine' Gn.dR J G ?a ?l ?c ?k
   (case a => k_is); (case l => k_is); (case c => k_is); (case k => k_is)
  have ay : ∃ f fd, Gn.Df (L2.cI J) mg "is_text_sign" K13.pI f fd := by
   dsimp only [L2.cI]
   refine' Gn.dR J G ?a ?l ?c ?k
   (case a => k_is); (case l => k_is); (case c => k_is); (case k => k_is)
  have az : ∃ f fd, Gn.Df (L2.cI J) mg "is_text" K13.oA f fd := by
   dsimp only [L2.cI]
   refine' Gn.dR J G ?a ?l ?c ?k
   (case a => k_is); (case l => k_is); (case c => k_is); (case k => k_is)
  have aO : ∃ f fd, Gn.Df (L2.cI J) mg "is_small_row" K13.pC f fd := by
   dsimp only [L2.cI]
   refine' Gn.dR J G ?a ?l ?c ?k
   (case a => k_is); (case l => k_is); (case c => k_is); (case k => k_is)
  have ag : ∃ f fd, Gn.Df (L2.cI J) mg "need_text" K13.qD f fd := by
   dsimp only [L2.cI]
   refine' Gn.dR J G ?a ?l ?c ?k
   (case a => k_is); (case l => k_is); (case c => k_is); (case k => k_is)
  have aA : ∃ f fd, Gn.Df (L2.cI J) mg "is_word" K13.qk f fd := by
   dsimp only [L2.cI]
   refine' Gn.dR J G ?a ?l ?c ?k
   (case a => k_is); (case l => k_is); (case c => k_is); (case k => k_is)
  have aP : ∃ f fd, Gn.Df (L2.cI J) mg "in_brackets" K13.iG f fd := by
   dsimp only [L2.cI]
   refine' Gn.dR J G ?a ?l ?c ?k
   (case a => k_is); (case l => k_is); (case c => k_is); (case k => k_is)
  have aC : ∃ f fd, Gn.Df (L2.cI J) mg "need_name" K13.p4 f fd := by
   dsimp only [L2.cI]
   refine' Gn.dR J G ?a ?l ?c ?k
   (case a => k_is); (case l => k_is); (case c => k_is); (case k => k_is)
  have ah : ∃ f fd, Gn.Df (L2.cI J) mg "asked_word" K13.o8 f fd := by
   dsimp only [L2.cI]
   refine' Gn.dR J G ?a ?l ?c ?k
   (case a => k_is); (case l => k_is); (case c => k_is); (case k => k_is)
  have aD : ∃ f fd, Gn.Df (L2.cI J) mg "asked_row" K13.nO f fd := by
   dsimp only [L2.cI]
   refine' Gn.dR J G ?a ?l ?c ?k
   (case a => k_is); (case l => k_is); (case c => k_is); (case k => k_is)
  have ai : ∃ f fd, Gn.Df (L2.cI J) mg "asked_near" K13.qQ f fd := by
   dsimp only [L2.cI]
   refine' Gn.dR J G ?a ?l ?c ?k
   (case a => k_is); (case l => k_is); (case c => k_is); (case k => k_is)
  have U : ∃ f fd, Gn.Df (L2.cI J) mg "ask_within" K13.pU f fd := by
   dsimp only [L2.cI]
   refine' Gn.dR J G ?a ?l ?c ?k
   (case a => k_is); (case l => k_is); (case c => k_is); (case k => k_is)
  have aE : ∃ f fd, Gn.Df (L2.cI J) mg "many_in" K13.nA f fd := by
   dsimp only [L2.cI]
   refine' Gn.dR J G ?a ?l ?c ?k
   (case a => k_is); (case l => k_is); (case c => k_is); (case k => k_is)
  have aj : ∃ f fd, Gn.Df (L2.cI J) mg "ask_of" K13.nJ f fd := by
   dsimp only [L2.cI]
   refine' Gn.dR J G ?a ?l ?c ?k
   (case a => k_is); (case l => k_is); (case c => k_is); (case k => k_is)
  have aQ : ∃ f fd, Gn.Df (L2.cI J) mg "no_piece" K13.mw f fd := by
   dsimp only [L2.cI]
   refine' Gn.dR J G ?a ?l ?c ?k
   (case a => k_is); (case l => k_is); (case c => k_is); (case k => k_is)
  have aR : ∃ f fd, Gn.Df (L2.cI J) mg "end_of_row" K13.nu f fd := by
   dsimp only [L2.cI]
   refine' Gn.dR J G ?a ?l ?c ?k
   (case a => k_is); (case l => k_is); (case c => k_is); (case k => k_is)
  have aW : ∃ f fd, Gn.Df (L2.cI J) mg "word_piece" K13.pG f fd := by
   dsimp only [L2.cI]
   refine' Gn.dR J G ?a ?l ?c ?k
   (case a => k_is); (case l => k_is); (case c => k_is); (case k => k_is)
  have aX : ∃ f fd, Gn.Df (L2.cI J) mg "far_piece" K13.pK f fd := by
   dsimp only [L2.cI]
   refine' Gn.dR J G ?a ?l ?c ?k
   (case a => k_is); (case l => k_is); (case c => k_is); (case k => k_is)
  have aY : ∃ f fd, Gn.Df (L2.cI J) mg "marked_piece" K13.nV f fd := by
   dsimp only [L2.cI]
   refine' Gn.dR J G ?a ?l ?c ?k
   (case a => k_is); (case l => k_is); (case c => k_is); (case k => k_is)
  have aS : ∃ f fd, Gn.Df (L2.cI J) mg "piece_at" K13.pW f fd := by
   dsimp only [L2.cI]
   refine' Gn.dR J G ?a ?l ?c ?k
   (case a => k_is); (case l => k_is); (case c => k_is); (case k => k_is)
  have I : ∃ f fd, Gn.Df (L2.cI J) mg "parted" K13.pE f fd := by
   dsimp only [L2.cI]
   refine' Gn.dR J G ?a ?l ?c ?k
   (case a => k_is); (case l => k_is); (case c => k_is); (case k => k_is)
  have aF : ∃ f fd, Gn.Df (L2.cI J) mg "read_ask" K13.nC f fd := by
   dsimp only [L2.cI]
   refine' Gn.dR J G ?a ?l ?c ?k
   (case a => k_is); (case l => k_is); (case c => k_is); (case k => k_is)
  have ak : ∃ f fd, Gn.Df (L2.cI J) mg "_law_mixed" K13.ju f fd := by
   dsimp only [L2.cI]
   refine' Gn.dR J G ?a ?l ?c ?k
   (case a => k_is); (case l => k_is); (case c => k_is); (case k => k_is)
  have aa : ∃ f fd, Gn.Df (L2.cI J) mg "_law_number" K13.mS f fd := by
   dsimp only [L2.cI]
   refine' Gn.dR J G ?a ?l ?c ?k
   (case a => k_is); (case l => k_is); (case c => k_is); (case k => k_is)
  have aG : ∃ f fd, Gn.Df (L2.cI J) mg "_law_menu" K13.lX f fd := by
   dsimp only [L2.cI]
   refine' Gn.dR J G ?a ?l ?c ?k
   (case a => k_is); (case l => k_is); (case c => k_is); (case k => k_is)
  have aq : ∃ f fd, Gn.Df (L2.cI J) mg "_law_plain" K13.kM f fd := by
   dsimp only [L2.cI]
   refine' Gn.dR J G ?a ?l ?c ?k
   (case a => k_is); (case l => k_is); (case c => k_is); (case k => k_is)
  have aH : ∃ f fd, Gn.Df (L2.cI J) mg "_law_tree" K13.nZ f fd := by
   dsimp only [L2.cI]
   refine' Gn.dR J G ?a ?l ?c ?k
   (case a => k_is); (case l => k_is); (case c => k_is); (case k => k_is)
  have aI : ∃ f fd, Gn.Df (L2.cI J) mg "_law_kids" K13.kQ f fd := by
   dsimp only [L2.cI]
   refine' Gn.dR J G ?a ?l ?c ?k
   (case a => k_is); (case l => k_is); (case c => k_is); (case k => k_is)
  have aZ : ∃ f fd, Gn.Df (L2.cI J) mg "_law_sign_kind" K13.oQ f fd := by
   dsimp only [L2.cI]
   refine' Gn.dR J G ?a ?l ?c ?k
   (case a => k_is); (case l => k_is); (case c => k_is); (case k => k_is)
  have a0 : ∃ f fd, Gn.Df (L2.cI J) mg "_law_row_piece" K13.oE f fd := by
   dsimp only [L2.cI]
   refine' Gn.dR J G ?a ?l ?c ?k
   (case a => k_is); (case l => k_is); (case c => k_is); (case k => k_is)
  have au : ∃ f fd, Gn.Df (L2.cI J) mg "_law_piece" K13.mv f fd := by
   dsimp only [L2.cI]
   refine' Gn.dR J G ?a ?l ?c ?k
   (case a => k_is); (case l => k_is); (case c => k_is); (case k => k_is)
  have aT : ∃ f fd, Gn.Df (L2.cI J) mg "_law_put" K13.oG f fd := by
   dsimp only [L2.cI]
   refine' Gn.dR J G ?a ?l ?c ?k
   (case a => k_is); (case l => k_is); (case c => k_is); (case k => k_is)
  have aJ : ∃ f fd, Gn.Df (L2.cI J) mg "_law_put_all" K13.l8 f fd := by
   dsimp only [L2.cI]
   refine' Gn.dR J G ?a ?l ?c ?k
   (case a => k_is); (case l => k_is); (case c => k_is); (case k => k_is)
  have aK : ∃ f fd, Gn.Df (L2.cI J) mg "_law_fits" K13.nM f fd := by
   dsimp only [L2.cI]
   refine' Gn.dR J G ?a ?l ?c ?k
   (case a => k_is); (case l => k_is); (case c => k_is); (case k => k_is)
  have av : ∃ f fd, Gn.Df (L2.cI J) mg "_law_first" K13.qO f fd := by
   dsimp only [L2.cI]
   refine' Gn.dR J G ?a ?l ?c ?k
   (case a => k_is); (case l => k_is); (case c => k_is); (case k => k_is)
  have aL : ∃ f fd, Gn.Df (L2.cI J) mg "_law_joined" K13.p7 f fd := by
   dsimp only [L2.cI]
   refine' Gn.dR J G ?a ?l ?c ?k
   (case a => k_is); (case l => k_is); (case c => k_is); (case k => k_is)
  have aM : ∃ f fd, Gn.Df (L2.cI J) mg "_law_read" K13.pP f fd := by
   dsimp only [L2.cI]
   refine' Gn.dR J G ?a ?l ?c ?k
   (case a => k_is); (case l => k_is); (case c => k_is); (case k => k_is)
  have aU : ∃ f fd, Gn.Df (L2.cI J) mg "_law_brackets" K13.qx f fd := by
   dsimp only [L2.cI]
   refine' Gn.dR J G ?a ?l ?c ?k
   (case a => k_is); (case l => k_is); (case c => k_is); (case k => k_is)
  have aN : ∃ f fd, Gn.Df (L2.cI J) mg "_law_ands" K13.mZ f fd := by
   dsimp only [L2.cI]
   refine' Gn.dR J G ?a ?l ?c ?k
   (case a => k_is); (case l => k_is); (case c => k_is); (case k => k_is)
  have aV : ∃ f fd, Gn.Df (L2.cI J) mg "_law_words_of" K13.qe f fd := by
   dsimp only [L2.cI]
   refine' Gn.dR J G ?a ?l ?c ?k
   (case a => k_is); (case l => k_is); (case c => k_is); (case k => k_is)
  have ax : ∃ f fd, Gn.Df (L2.cI J) mg "_law_right" K13.qo f fd := by
   dsimp only [L2.cI]
   refine' Gn.dR J G ?a ?l ?c ?k
   (case a => k_is); (case l => k_is); (case c => k_is); (case k => k_is)
  refine' K13.EA J G a3 ?a ?l ?c ?k fun fd base D => K13.JD T hC KL KB KJ af ay az aO ag aA aP aC ah aD ai U aE aj aQ aR aW aX aY aS I aF ak aa aG aq aH aI aZ a0 au aT aJ aK av aL aM aU aN aV ax D
  (case a => k_is); (case l => k_is); (case c => k_is); (case k => k_is)
