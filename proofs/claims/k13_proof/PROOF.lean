import PyProof.Rows.All
import Wide.All
import OpenK.AllK
import Wide.FinOn
import PyProof.EqAt
import PyProof.EqKinds
import PyProof.TupleCall
import Lean
import PySem.Challenge.RW_findhall_k13_asks_written
noncomputable section
set_option Elab.async false
set_option linter.all false
set_option compiler.extract_closed false
set_option maxRecDepth 100000
set_option maxHeartbeats 4000000
namespace H13
open PySem PySem.W PyProof.Rows
abbrev pQ : Program := PySem.Challenge.pw_findhall_k13_asks_written
def vQ : Program := PySem.W.view pQ [0, 2, 3, 4, 5, 7, 8, 9, 10, 11, 12, 13, 14, 16, 17, 19, 20, 21, 22, 23, 24, 26, 27, 28, 29, 30, 31, 32, 33, 34, 35, 36, 37, 38, 39, 40, 41, 43, 45, 46, 47, 48, 49, 50, 51, 52, 53, 54, 56, 57, 58, 59, 60, 61, 62, 63, 64, 65, 66, 67, 68, 69, 70, 71, 72, 73, 74, 75]
def lQ : List Str := [Str.ofString "TOLD_LENGTHS", Str.ofString "BEHIND"]
def xQ (s : Shared) : Bool := xlAt vQ [] s && recOk (RowW.records PySem.Challenge.rw_findhall_k13_asks_written.row.toRowW) s
def sQ (w : World) (os : OsState) : Shared := ⟨boot_heap w.params, Array.mk [], boot_drawn, boot_toks, os⟩
def topRunT (tb : String -> Option Builtin) (p : Program) (w : World) (n₀ : Nat) (ann : Option Value) : Nat -> SharedT -> Thread -> Option SharedT
 | 0, _, _ => none
 | n + 1, s, t => match through t with
  | true => some s
  | false => match stepOk n₀ ann t with
   | false => none
   | true => match stepT (denote tb) p w s t with
    | some (s', t') => topRunT tb p w n₀ ann n s' t'
    | none => none
theorem topRun_of {tb : String -> Option Builtin} {p : Program} {w : World} {n₀ : Nat} {ann : Option Value} : ∀ {n : Nat} {s s' : SharedT} {t : Thread}, topRunT tb p w n₀ ann n s t = some s' -> topRun tb p w n₀ ann n s.abs t = some s'.abs
 | 0, _, _, _, h => by cases h
 | n + 1, s, s', t, h => by
  unfold topRunT at h
  unfold topRun
  cases he : through t with
  | true => rw [he] at h; cases h; rfl
  | false =>
   rw [he] at h
   cases hk : stepOk n₀ ann t with
   | false => rw [hk] at h; cases h
   | true =>
    rw [hk] at h
    cases hs : stepT (denote tb) p w s t with
    | none => rw [hs] at h; cases h
    | some r => obtain ⟨s₂, t₂⟩ := r; rw [hs] at h; rw [stepT_spec hs]; exact topRun_of h
def buildT : List Obj -> BT -> Nat -> Option BT
 | [], t, _ => some t
 | o :: r, t, n => match ((t.ins n o).get n).isSome with
  | true => buildT r (t.ins n o) (n + 1)
  | false => none
theorem build_of : ∀ {l : List Obj} {t t' : BT} {n : Nat} (life : Life), buildT l t n = some t' -> absHeap t' (n + l.length) life = ⟨(absHeap t n life).objs ++ l.toArray, life⟩
 | [], t, t', n, life, h => by
  cases h
  show absHeap t n life = _
  unfold absHeap
  simp
 | o :: r, t, t', n, life, h => by
  unfold buildT at h
  cases hs : ((t.ins n o).get n).isSome with
  | false => rw [hs] at h; cases h
  | true =>
   rw [hs] at h
   have e := build_of life h
   rw [show n + (o :: r).length = n + 1 + r.length by rw [List.length_cons]; omega, e, absHeap_ins hs]
   show Heap.mk _ _ = Heap.mk _ _
   congr 1
   show (absHeap t n life).objs.push o ++ r.toArray = (absHeap t n life).objs ++ (o :: r).toArray
   apply Array.ext'
   simp
def annQ (w : World) (os : OsState) : Option Value := (sQ w os).heap.nsMap mainGlobals (Str.ofString "__annotations__")
def topQ (w : World) (os : OsState) : Option Shared := match buildT (boot_heap w.params).objs.toList .nil 0 with
 | none => none
 | some t => (topRunT treeTable pQ w (boot_heap w.params).objs.size (annQ w os) 20000 ⟨t, (boot_heap w.params).objs.size, (boot_heap w.params).life, Array.mk [], boot_drawn, boot_toks, os⟩ (topStub pQ)).map SharedT.abs
theorem topQ_run {w : World} {os : OsState} {s : Shared} (h : topQ w os = some s) : topRun treeTable pQ w (sQ w os).heap.objs.size ((sQ w os).heap.nsMap mainGlobals (Str.ofString "__annotations__")) 20000 (sQ w os) (topStub pQ) = some s := by
 unfold topQ at h
 cases hb : buildT (boot_heap w.params).objs.toList .nil 0 with
 | none => rw [hb] at h; cases h
 | some t =>
  rw [hb] at h
  obtain ⟨x, hx, e⟩ := Option.map_eq_some_iff.mp h
  have q := topRun_of hx
  have a : absHeap t (boot_heap w.params).objs.size (boot_heap w.params).life = boot_heap w.params := by
   have := build_of (boot_heap w.params).life hb
   rw [Nat.zero_add, Array.length_toList] at this
   rw [this]
   show Heap.mk _ _ = _
   have e0 : (absHeap .nil 0 (boot_heap w.params).life).objs = #[] := by unfold absHeap BT.list; simp
   rw [e0]
   simp
  have es : SharedT.abs ⟨t, (boot_heap w.params).objs.size, (boot_heap w.params).life, Array.mk [], boot_drawn, boot_toks, os⟩ = sQ w os := by
   unfold SharedT.abs sQ
   rw [a]
  rw [es] at q
  rw [<- e]
  exact q
def okQ (h : Heap) (s : Shared) : Bool := staticsOk (importedModules pQ.main.body) h s.heap && namesBound pQ s.heap && gensDone s && laidKept h s.heap
def seenQ (s : Shared) := openSeen vQ lQ (importedModules pQ.main.body) xQ true s
def goodQ := openGood vQ lQ
def ok9 (w : World) (os : OsState) (s : Shared) : Bool := okQ (boot_heap w.params) s && ((sQ w os).heap.isNs mainGlobals && (sQ w os).gens.size == 0)
def seenA (s : Shared) := (fun x => (x.1, x.2.1, x.2.2.1, x.2.2.2.1, x.2.2.2.2.1, x.2.2.2.2.2.1, x.2.2.2.2.2.2.1, x.2.2.2.2.2.2.2.1, x.2.2.2.2.2.2.2.2)) (seenQ s)
def goodA := (true, (fun x => (x.1, x.2.1, x.2.2.1, x.2.2.2.1, x.2.2.2.2.1, x.2.2.2.2.2.1, x.2.2.2.2.2.2.1, x.2.2.2.2.2.2.2.1, x.2.2.2.2.2.2.2.2)) goodQ)
def runA (w : World) (os : OsState) := (topQ w os).map fun s => (ok9 w os s, seenA s)
def runK (as : List Nat) (w : World) (os : OsState) := (topQ w os).map fun s => as.map s.heap.get?
def _root_.PySem.W.Fast.tw14598715356260435866 := PySem.W.boot_o_0
theorem _root_.PySem.W.Fast.te14598715356260435866 : PySem.W.boot_o_0 = PySem.W.Fast.tw14598715356260435866 := rfl
def _root_.PySem.W.Fast.tw15206149664975928935 := PySem.Challenge.pw_findhall_k13_asks_written
theorem _root_.PySem.W.Fast.te15206149664975928935 : PySem.Challenge.pw_findhall_k13_asks_written = PySem.W.Fast.tw15206149664975928935 := rfl
lay_quick runA goodA
theorem hA0 : ∀ w os, PySem.W.Fast.tw2950362555844286997 (World.withFollow w "special-get-raises" false) os = some PySem.W.Fast.tw7600713767559432141 := fun w os => by kernel_rfl
theorem hA1 : ∀ w os, PySem.W.Fast.tw2950362555844286997 (World.withFollow w "special-get-raises" true) os = some PySem.W.Fast.tw7600713767559432141 := fun w os => by kernel_rfl
lay_quick runK
theorem rA (w : World) (os : OsState) : runA w os = some goodA := by
 have k : ∀ b, runA (World.withFollow w "special-get-raises" b) os = some goodA := fun b => by
  rw [PySem.W.Fast.te2950362555844286997, PySem.W.Fast.te7600713767559432141]
  cases b
  ·exact hA0 w os
  ·exact hA1 w os
 have := k (w.params.followText "special-get-raises")
 rwa [World.withFollow_self] at this
theorem spl {as : List Nat} {V : World -> List (Option Obj)} {w : World} {os : OsState} (k : ∀ b, PySem.W.Fast.tw4018855459578168484 as (World.withFollow w "special-get-raises" b) os = some (V (World.withFollow w "special-get-raises" b))) : PySem.W.Fast.tw4018855459578168484 as w os = some (V w) := by
 have := k (w.params.followText "special-get-raises")
 rwa [World.withFollow_self] at this
theorem topFrom_some {tb : String -> Option Builtin} {p : Program} {w : World} {N : Nat} {s0 s : Shared} (h1 : (s0.heap.isNs mainGlobals && s0.gens.size == 0) = true) (h2 : topRun tb p w s0.heap.objs.size (s0.heap.nsMap mainGlobals (Str.ofString "__annotations__")) N s0 (topStub p) = some s)
  (h3 : (staticsOk (importedModules p.main.body) s0.heap s.heap && namesBound p s.heap && gensDone s && laidKept s0.heap s.heap) = true) : topFrom tb p w N s0 = some s := by
 unfold topFrom
 rw [h1]
 dsimp only
 rw [h2]
 dsimp only [Option.bind]
 rw [h3]
theorem openEnds_some {tb : String -> Option Builtin} {p : Program} {w : World} {N : Nat} {s0 s : Shared} (a : fencedOpening tb p w N = some s0) (b : topFrom tb p w N s0 = some s) : openEnds tb p w N = some s := by
 unfold openEnds
 rw [a]
 exact b
theorem map_at {α β : Type} {o : Option α} {s : α} {f : α -> β} {b : β} (h : o = some s) (e : o.map f = some b) : f s = b := by
 subst h
 exact Option.some.inj e
theorem map_some' {α β : Type} {o : Option α} {f : α -> β} {b : β} (e : o.map f = some b) : ∃ s, o = some s := by
 cases o with
 | none => cases e
 | some s => exact ⟨s, rfl⟩
theorem pair_of {α β σ : Type} {f : σ -> α} {g : σ -> β} {o : Option σ} {s : σ} {a : α} {b : β} (e : o = some s) (h1 : f s = a) (h2 : g s = b) : o.map (fun s => (f s, g s)) = some (a, b) := by
 subst e
 subst h1
 subst h2
 rfl
theorem sh_eq {s : Shared} {h : Heap} {g : Array GenState} {d : Drawn} {k : Nat} (a : s.heap = h) (b : s.gens = g) (c : s.drawn = d) (e : s.toks = k) : s = ⟨h, g, d, k, s.os⟩ := by
 cases s
 cases a
 cases b
 cases c
 cases e
 rfl
theorem opQ : opening pQ = plainProg pQ.main.scope.names := by kernel_rfl
theorem feQ (s : Shared) : fenceModules? pQ s = some s := by kernel_rfl
theorem seen_eq {s : Shared} (aA : seenA s = goodA.2) : seenQ s = goodQ :=
 Prod.ext (congrArg (fun y => y.1) aA) (Prod.ext (congrArg (fun y => y.2.1) aA) (Prod.ext (congrArg (fun y => y.2.2.1) aA) (Prod.ext (congrArg (fun y => y.2.2.2.1) aA) (Prod.ext (congrArg (fun y => y.2.2.2.2.1) aA) (Prod.ext (congrArg (fun y => y.2.2.2.2.2.1) aA) (Prod.ext (congrArg (fun y => y.2.2.2.2.2.2.1) aA) (Prod.ext (congrArg (fun y => y.2.2.2.2.2.2.2.1) aA) ((congrArg (fun y => y.2.2.2.2.2.2.2.2) aA)))))))))
theorem end_of {as : List Nat} {V : World -> List (Option Obj)} {w : World} {os : OsState} {s : Shared} (ht : topQ w os = some s) (hs0 : fencedOpening treeTable pQ w 20000 = some (sQ w os)) (e : runK as w os = some (V w)) :
  openEnds treeTable pQ w 20000 = some s /\ seenQ s = goodQ /\ as.map s.heap.get? = V w := by
 have d0 := map_at (f := fun (s : Shared) => (ok9 w os s, seenA s)) ht (rA w os)
 have d1 : ok9 w os s = true := congrArg (fun y => y.1) d0
 have dA : seenA s = goodA.2 := congrArg (fun y => y.2) d0
 obtain ⟨d2, d3⟩ := Bool.and_eq_true_iff.mp d1
 exact ⟨openEnds_some hs0 (topFrom_some d3 (topQ_run ht) d2), seen_eq dA , map_at (f := fun (s : Shared) => as.map s.heap.get?) ht e⟩
theorem hl_of {as : List Nat} {V : World -> List (Option Obj)} (h : ∀ w os, PySem.W.Fast.tw4018855459578168484 as w os = some (V w)) : LeftO pQ vQ lQ xQ (fun s => as.map s.heap.get?) V 20000 := fun w => by
 obtain ⟨s0, hs0, hv⟩ := Option.map_eq_some_iff.mp (boot_open (p := pQ) (N := 20000) opQ rfl feQ w)
 have es : s0 = sQ w s0.os := sh_eq (congrArg (fun x => x.1) hv) (congrArg (fun x => x.2.1) hv) (congrArg (fun x => x.2.2.1) hv) (congrArg (fun x => x.2.2.2) hv)
 rw [es] at hs0
 obtain ⟨s, ht⟩ := map_some' (rA w s0.os)
 have e : runK as w s0.os = some (V w) := by rw [PySem.W.Fast.te4018855459578168484]; exact h w s0.os
 obtain ⟨e1, e2, e3⟩ := end_of ht hs0 e
 exact pair_of (f := seenQ) (g := fun s => as.map s.heap.get?) (a := goodQ) e1 e2 e3
theorem dry {p : Prop} (_ : True) (h : p) : p := h
end H13
section
open PySem PySem.W PyProof.Rows
local macro_rules | `(tactic| o_head $H:term) => `(tactic| refine H13.dry ?hw ?hc)
local macro_rules | `(tactic| w_witness2) => `(tactic| trivial)
open_top H13.pre for PySem.Challenge.rw_findhall_k13_asks_written
end
namespace H13
open PySem PySem.W PyProof.Rows
noncomputable def asQ : List Addr := [2, 3, 15, 17, 18, 20, 21, 22, 29, 30, 31, 32, 35, 42, 43, 44, 47, 54, 55, 56, 59, 66, 68, 69, 71, 72, 73, 74, 75, 78, 80, 81, 83, 84, 85, 87, 88, 90, 91, 92, 95, 96, 97, 100, 101, 102, 104, 105, 107, 108, 109, 111, 112, 114, 115, 116, 117, 118, 120, 121, 123, 124, 132, 134, 135, 137, 138, 139, 141, 142, 144, 145, 146, 148, 149, 151, 152, 153, 154, 155, 156, 157, 160, 167, 169, 170, 172, 173, 174, 176, 177, 179, 180, 181, 183, 184, 186, 187, 188, 190, 191, 193, 194, 195, 196, 197, 200, 207, 209, 210, 212, 213, 214, 216, 217, 219, 220, 221, 223, 224, 226, 227, 228, 230, 231, 233, 234, 235, 236, 237, 240, 247, 249, 250, 252, 253, 254, 256, 257, 259, 260, 261, 263, 264, 266, 267, 268, 270, 271, 273, 274, 275, 276, 277, 280, 287, 289, 290, 292, 293, 294, 296, 297, 299, 300, 301, 303, 304, 306, 307, 308, 310, 311, 313, 314, 315, 317, 318, 320, 321, 322, 323, 324, 327, 334, 336, 337, 339, 340, 341, 343, 344, 346, 347, 348, 350, 351, 353, 354, 355, 357, 358, 360, 361, 362, 364, 365, 367, 368, 369, 371, 372, 374, 375, 376, 378, 379, 381, 382, 383, 384, 385, 388, 395, 397, 398, 400, 401, 402, 404, 405, 407, 408, 409, 411, 412, 414, 415, 416, 418, 419, 421, 422, 423, 425, 426, 428, 429, 430, 432, 433, 435, 436, 437, 439, 440, 442, 443, 444, 445, 446, 449, 456, 458, 459, 461, 462, 463, 465, 466, 468, 469, 470, 472, 473, 475, 476, 477, 479, 480, 482, 483, 484, 486, 487, 489, 490, 491, 493, 494, 496, 497, 498, 500, 501, 503, 504, 505, 506, 507, 510, 512, 513, 515, 516, 517, 519, 520, 522, 523, 524, 527, 528, 529, 531, 532, 534, 535, 536, 538, 539, 541, 542, 543, 546, 547, 548, 550, 551, 553, 554, 555, 556, 557, 558, 559, 560, 561, 562, 563, 564, 566, 567, 569, 570, 571, 573, 574, 576, 577, 578, 580, 581, 583, 584, 585, 587, 588, 590, 591, 592, 595, 596, 597, 599, 600, 602, 603, 604, 606, 607, 609, 610, 618, 620, 621, 623, 624, 625, 627, 628, 630, 631, 632, 634, 635, 637, 638, 639, 641, 642, 644, 645, 646, 648, 649, 651, 652, 653, 654, 655, 656, 657, 667, 669, 670, 672, 673, 674, 676, 677, 679, 680, 681, 683, 684, 686, 687, 688, 690, 691, 693, 694, 695, 697, 698, 700, 701, 702, 704, 705, 707, 708, 709, 710, 711, 712, 713, 716, 718, 719, 721, 722, 723, 725, 726, 728, 729, 730, 732, 733, 735, 736, 737, 740, 741, 742, 745, 746, 747, 749, 750, 752, 753, 754, 756, 757, 759, 760, 761, 763, 764, 766, 767, 768, 771, 772, 773, 776, 777, 778, 780, 781, 783, 784, 785, 787, 788, 790, 791, 792, 795, 796, 797, 799, 800, 802, 803, 804, 806, 807, 809, 810, 811, 813, 814, 816, 817, 818, 820, 821, 823, 824, 825, 828, 829, 830, 832, 833, 835, 836, 837, 839, 840, 842, 843, 844, 846, 847, 849, 850]
noncomputable abbrev hkQ : Hook := kHook H13.pre.heap_39 asQ (fun _ => by kernel_rfl)
theorem kF : ∀ w os, PySem.W.Fast.tw4018855459578168484 asQ (World.withFollow w "special-get-raises" false) os = some (Hook.val hkQ (World.withFollow w "special-get-raises" false)) := fun w os => by kernel_rfl
theorem kT : ∀ w os, PySem.W.Fast.tw4018855459578168484 asQ (World.withFollow w "special-get-raises" true) os = some (Hook.val hkQ (World.withFollow w "special-get-raises" true)) := fun w os => by kernel_rfl
theorem kB (w : World) (os : OsState) : ∀ b, PySem.W.Fast.tw4018855459578168484 asQ (World.withFollow w "special-get-raises" b) os = some (Hook.val hkQ (World.withFollow w "special-get-raises" b))
 | false => kF w os
 | true => kT w os
end H13
section
open PySem PySem.W PyProof.Rows
local macro_rules | `(tactic| o_head $H:term) => `(tactic|
 refine holds_open
  (q := H13.vQ) (loose := H13.lQ)
  (Xt := H13.xQ) (XP := XL H13.vQ [])
  (Yf := Hook.obs H13.hkQ)
  (Ya := Hook.val H13.hkQ) (YP := Hook.says H13.hkQ)
  (N := 20000)
  (H13.hl_of fun w os => H13.spl (H13.kB w os))
  (Hook.of H13.hkQ) (Hook.keeps H13.hkQ)
  (fun s e => xl_of s (Bool.and_eq_true_iff.mp e).1)
  XL.keeps rfl rfl rfl
  (fun s e => recFacts_of (Bool.and_eq_true_iff.mp e).2)
  rfl
  (by first | assumption | decide +kernel)
  (by decide +kernel)
  ⟨rfl, rfl, rfl, rfl, rfl, by decide +kernel⟩
  ?hw ?hc)
open_top H13.head for PySem.Challenge.rw_findhall_k13_asks_written
end
open PySem.Str renaming ofString→JO,length_append→L3,length→N3,join→Pa
open _root_ renaming List→JP,decide_eq_false→JQ,decide_eq_true→JS,Option→JW,if_pos→J1,Bool→KS,congrArg→K9,False→LG,DecidableEq→LY,of_decide_eq_true→LZ,String→Mx,Array→MM,decide_eq_true_eq→MR,or_false→N4,True→O3
open PySem renaming Addr→JR,Value→JT,Shared→JZ,FuncData→J2,wpAny_bind→J8,Program→Ka,mainGlobals→Kc,PyData→Kf,model→Ko,wpAny→Kq,World→Ku,sizeLine_eq→Kv,starEach→KA,Expr→KI,wpAny_pure→KN,Heap→KP,Spec→KQ,wpAny_mono→KY,Stmt→K0,Around→K4,Paired→Lo,bootBuiltins→Lp,compareOp→Lz,wpAny_truthy_bool→LD,mem_of_lookup→LO,wpAny_Call_Name_kw→LU,noteFrame→L0,wpAny_passesOwn→Mb,foldedSetIterable→Me,sysModules→Mg,backTo→Mh,bindName→Mm,wpAny_bindName→Mn,wpAny_getItem_str_slice→Mp,assignInOrder→MG,wpAny_standAt→MH,attributeBase→MI,wpAny_newObj_type→MN,Scope→MS,NameKind→MV,call_meets→MY,wpAny_execs_cons→M4,wpAny_execs_nil→Nb,letOwnedTupleGo→Nc,typeIs_str→Nf,codeAny_mono→Nj,codeAny→Nz,strIterType→NF,post_val_or_str→NJ,assignEach→NY,wpAny_newFunctionEnv_cells→N2,wpAny_Assign_Name→N8,wpAny_pyIter_list→Oa,keywordEach→Ob,list_append→Oc,swapsWithSole→Of,swappedStores→Og,behindInMarks→Oh,wpAny_toks_of→Oj,swapsWith→Ol,binaryOp→Oo,setFlight→Ov,valueAt→OD,exec_Assign_arm→OH,recursionLimit→OR,subscripted→OS,compEnvC→OT,wpAny_field→OU,holding→OZ,getMethod→O0,BindsTo→O1,callerA→O2,wpAny_call→O4,Operator→O5,backToKw→O6,getItem→O7,compPost→O8,handleBy→O9,cLine→Pc
open List renaming length_append→JU,length_cons→JV,length_map→JX,mem_cons_of_mem→J0,map_append→J5,reverse_cons→Ke,mem_append_right→Ki,size_toArray→Kk,append_assoc→Kt,mem_cons_self→KG,length_drop→KH,append_nil→KR,map_cons→KU,length_reverse→K8,drop_eq_getElem_cons→Lb,take_add_one→Lk,mem_append_left→Ll,dropLast_concat→Ln,take_of_length_le→Lq,length_take→Lr,lookup_cons→Lu,count_cons_of_ne→Lv,map_map→LB,takeWhile_cons→LC,range→LL,not_mem_nil→LW,filter_cons→LX,mem_cons→L5,take_left→L8,filter_append→L9,length_replicate→Ma,length_nil→Mc,count_cons_self→Mf,take_length→Mq,drop_length→Ms,lookup→Mv,length→Mw,drop_of_length_le→MD,length_filter_le→ML,drop_drop→M0,getElem_mem→M5,map_congr_left→M7,all_cons→M9,count_cons→Nd,count_append→Nl,set_comm→Ny,sum_cons→NC,drop_append_of_le_length→NG,of_mem_zip→NI,sum_append→NK,nil_append→NL,takeWhile_append_of_pos→NN,filterMap_cons→NO,any_cons→Oi,map_nil→OC,all_map→OE,map_id'→OF,all_append→OK,drop_left→OV,drop_zero→OW
open Nat renaming le_refl→JY,le_of_ble_eq_true→J9,le_trans→Kj,lt_of_lt_of_le→Km,ne_of_lt→Kr,zero_le→Ks,lt_irrefl→Kw,le_succ_of_le→Kz,add_sub_cancel_left→Lj,lt_succ_self→LJ,pow_le_pow_right→LK,ble_eq_true_of_le→LS,min_le_right→LV,lt_succ_of_lt→MP,le_succ→MU,le_of_lt→M3,succ_le_succ→M6,lt_of_le_of_lt→N5,ne_of_gt→OA,le_add_left→ON
open Bool renaming false_ne_true→J3,and_eq_true→Lc,not_eq_true'→MQ,and_false→MZ,eq_iff_iff→NH,false_and→NZ,or_eq_true→OJ
open PySem.W renaming Frag→J7,Frag→Kl,findIn→Li,kitAny→Lm,kitOne→Lw,nsIn→Lx,mg_of→LF,mg_none_of→LN,emptyDict→Mu,keepIn→ME,kia_one→MJ,fnOf→Nk,instObj→Nv,callWith_K→NR,hideAll→NV,codeIn→N1,cellsFrom_some→Oq,of_hideAll→Oz,plainGet→OB,methodCall_KW→OI,hideAll_none→OP,hasDictIn→OQ
open PySem.Heap renaming lt_size→Kb,SameBut→Md,size_push→Mo,FlyingW→NS
open Option.some renaming inj→Kg
open Or renaming inl→Kh,inr→Pb
open PySem.F renaming plainAttrs_list→Kp,excBase_ValueError→Kx,slot_list_append→KO,type_list_append→K6,plainAttrs_str→LA,slot_list_pop→LP,type_list_pop→L4,slot_str_split→Mr,entry_str_split→Np,slot_list_count→Nq,type_list_count→Nr,args_list_append_2→ND,entry_list_append→NP,args_str_split_2→N7,slot_str_lower→Ow,type_str_lower→Ox,slot_str_join→OL,type_str_join→OM
open PySem.Value renaming ref→Ky,none→My,int→Nu,str→NU,bool→Oy
open PySem.PyData renaming strOk→KW,tuple→Ld,keyHash→Le,canLayAll0→LM,str→MC,eqv→Nx,depthAll→OO
open PySem.PassesOwn renaming never→KZ
open PySem.NameKind renaming free→K2,cell→NB
open Ne renaming symm→K5
open PySem.Builtin.Str renaming occurrences→K7,strSliceIndices→Lh,spaceWords→Nn,glued→Od
open False renaming elim→La
open PySem.Obj renaming mapFields→Lg,mapSeq→Nw
open Int renaming emod_lt_of_pos→Ly,emod_nonneg→LR,toNat_of_nonneg→Ml,toNat_natCast→Oe,zero_add→OG
open PyProof.Rows renaming assignInOrder_cons→LH,envOfC→Mz,callWith_type1→MO,assignInOrder_nil→Nh,AllBare→NQ,unpackItems_tuple→N9
open ForInStep renaming yield→LQ
open PySem.Calls renaming spliced_cons→L6,callWith_builtin→MA,evalArgs_plain→MX,spliced_nil→Ni,Constant_str→NW,Name_function_global→NX
open PySem.StrLaws renaming sliceText_to→L7,found_one→Ng,glued_eq_join→Nt,sliceText_nat→NT
open True renaming intro→Mi
open PySem.Builtin.Int renaming intBits→Mj
open PySem.Paired renaming length→M8
open PySem.Builtin.List renaming listTooLong→Na
open PySem.KWd renaming step→N6
open PySem.Flow renaming next→Om
open PySem.IsL renaming update→Ot
open PySem.W.WData renaming int→Ou
open Sum renaming inl→OX,inr→OY
namespace L2
open PySem PySem.Spec PyProof.Rows
theorem _root_.dkq {p:Prop} [Decidable p] (h:decide p=true:=by kernel_rfl):p:=LZ h
noncomputable abbrev Key:=Sum Int Str
noncomputable def oO:Key->JT->KS
 |.inl k,v=>Value.isInt k v
 |.inr x,v=>Value.isStrOf x v
noncomputable def JC(w:Ku):Key->Int
 |.inl k=>hashInt k
 |.inr x=>hashStr w x
theorem jK:∀{k:Key} {v:JT},oO k v=true->(∃ i t,k=OX i/\v=Nu i t)\/(∃ x t,k=OY x/\v=NU x t)
 |.inl i,v,h=>by
  obtain⟨t,e⟩:=Value.isInt_shape (k:=i) (v:=v) h;exact .inl ⟨i,t,rfl,e⟩
 |.inr x,v,h=>by
  obtain⟨t,e⟩:=Value.isStrOf_shape (x:=x) (v:=v) h;exact .inr ⟨x,t,rfl,e⟩
theorem HE(i:Int)(t:Tok):oO (.inl i) (.int i t)=true:=by simp[oO,Value.isInt]
theorem eT(x:Str)(t:Tok):oO (.inr x) (.str x t)=true:=by simp[oO,Value.isStrOf]
theorem Fw(a b:Int):decide ((OX a:Key)=OX b)=(a==b):=by
 by_cases e:a=b
 ·subst e;simp
 ·have h:¬ (OX a:Key)=OX b:=λq=>e (Sum.inl.inj q)
  rw[JQ h];exact(beq_eq_false_iff_ne.mpr e).symm
theorem FK(a b:Str):decide ((OY a:Key)=OY b)=decide (a=b):=by
 by_cases e:a=b
 ·subst e;simp
 ·have h:¬ (OY a:Key)=OY b:=λq=>e (Sum.inr.inj q)
  rw[JQ h,JQ e]
theorem Jf(a:Int)(b:Str):decide ((OX a:Key)=OY b)=false:=JQ (λq=>nomatch q)
theorem Jr(a:Str)(b:Int):decide ((OY a:Key)=OX b)=false:=JQ (λq=>nomatch q)
noncomputable def g7(prog:Ka)(w:Ku):PySem.KeyKind prog w Key where
 is:=oO
 hash:=JC w
 inj:=λv a b ha hb=>by
  rcases jK ha with ⟨i,t,rfl,rfl⟩|⟨x,t,rfl,rfl⟩
  ·rcases jK hb with ⟨j,u,rfl,e⟩|⟨y,u,rfl,e⟩
   ·injection e with e1 _;rw[e1]
   ·exact nomatch e
  ·rcases jK hb with ⟨j,u,rfl,e⟩|⟨y,u,rfl,e⟩
   ·exact nomatch e
   ·injection e with e1 _;rw[e1]
 byValue:=λk v h=>by
  rcases jK h with ⟨i,t,rfl,rfl⟩|⟨x,t,rfl,rfl⟩<;>rfl
 pyHash:=λJ h=>by
  rcases jK J with ⟨i,t,rfl,rfl⟩|⟨x,t,rfl,rfl⟩
  ·exact wpAny_pyHash_int h
  ·exact wpAny_pyHash_str h
 eqBool:=λU J h=>by
  rcases jK U with ⟨i,t,rfl,rfl⟩|⟨x,t,rfl,rfl⟩
  ·rcases jK J with ⟨j,u,rfl,rfl⟩|⟨y,u,rfl,rfl⟩
   ·rw[Fw] at h;exact wpAny_eqBool_int h
   ·rw[Jf] at h;exact SeqAt.EqAt.int_str i t y u _ _ _ _ h
  ·rcases jK J with ⟨j,u,rfl,rfl⟩|⟨y,u,rfl,rfl⟩
   ·rw[Jr] at h;exact SeqAt.EqAt.str_int x t j u _ _ _ _ h
   ·rw[FK] at h;exact wpAny_eqBool_str h
 «strs»:=λk x t v h=>by
  rcases jK h with ⟨i,u,rfl,e⟩|⟨y,u,rfl,e⟩
  ·exact nomatch e
  ·injection e with e1 _;subst e1;cases v<;>rfl
theorem JK(prog:Ka)(w:Ku)(i:Int)(t:Tok):(g7 prog w).is (.inl i) (.int i t)=true:=HE i t
theorem CQ(prog:Ka)(w:Ku)(x:Str)(t:Tok):(g7 prog w).is (.inr x) (.str x t)=true:=eT x t
inductive V where
 |non|bl (b : KS)|int (i : Int)|str (x : Str)|byt (b : MM UInt8)|flt (b : UInt64)|ref (a : JR)|ty (n : Mx)
 deriving LY
noncomputable def RelV:V->JT->Prop
 |.non,u=>u=My
 |.bl b,u=>u=Oy b
 |.int i,u=>∃ t,u=Nu i t
 |.str x,u=>∃ t,u=NU x t
 |.byt b,u=>∃ t,u=Value.bytes b t
 |.flt b,u=>∃ t,u=Value.float b t
 |.ref a,u=>u=Ky a
 |.ty n,u=>u=Value.type n
noncomputable abbrev Vals:JP V->JP JT->Prop:=Lo RelV
theorem Vals.length {xs:JP V}{us:JP JT}(r:Vals xs us):xs.length=us.length:=M8 r
theorem Vals.get:∀{xs:JP V} {us:JP JT} {i:Nat} {x:V},Vals xs us->xs[i]? =some x->∃ u,us[i]? =some u/\RelV x u
 |_,_,_,_,.nil,e=>by simp at e
 |_,_,0,_,.cons r _,e=>by simp at e;subst e;exact⟨_,rfl,r⟩
 |_,_,i+1,x,.cons _ t,e=>by
  obtain⟨u,h1,h2⟩:=Vals.get (i:=i) (x:=x) t (by simpa using e);exact⟨u,by simpa using h1,h2⟩
theorem Vals.set {x:V}{u:JT}(r:RelV x u):∀{xs:JP V} {us:JP JT} (i:Nat),Vals xs us->Vals (xs.set i x) (us.set i u)
 |_,_,_,.nil=> .nil
 |_,_,0,.cons _ t=> .cons r t
 |_,_,i+1,.cons q t=> .cons q (Vals.set r i t)
theorem Vals.append:∀{xs ys:JP V} {us ws:JP JT},Vals xs us->Vals ys ws->Vals (xs++ys) (us++ws)
 |_,_,_,_,.nil,s=>s
 |_,_,_,_,.cons r t,s=> .cons r (Vals.append t s)
noncomputable def gY:JW V->JW JT->Prop
 |some v,some u=>RelV v u
 |none,none=>O3
 |_,_=>LG
noncomputable def KV{κ:Type}:JP (κ×V)->JP (κ×JT)->Prop:=Lo λ(p:κ×V) (q:κ×JT)=>p.1=q.1/\RelV p.2 q.2
noncomputable def kV:Key->V
 |.inl i=> .int i
 |.inr x=> .str x
inductive HO where
 |lst (xs : JP V)
 |tup (xs : JP V)
 |dK (kvs : JP (Key × V))|dT (kvs : JP (JP Key × V))
 |set (S : Int -> KS) (n : Nat)
 |ins (C dx : JR) (fs : JP (Str × V))
 |own (x : JR)
 |xd (fs : JP (Str × V))
 |met (f x : JR)
 |rng (lo hi : Int)
 |frz (o : Obj) (u : HO)
 |tbl (ps : MM JT)
 |ext (φ : KP -> Prop)
noncomputable abbrev Hp:=JR->JW HO
noncomputable def upd(H:Hp)(a:JR)(o:HO):Hp:=λb=>if b=a then some o else H b
theorem b6{H:Hp}{a:JR}{o:HO}:upd H a o a=some o:=by unfold upd;rw[J1 rfl]
theorem cF{H:Hp}{a b:JR}{o:HO}(h:b≠a):upd H a o b=H b:=by unfold upd;rw[if_neg h]
theorem qJ{H:Hp}{a:JR}{o u:HO}:upd (upd H a o) a u=upd H a u:=by
 funext b;unfold upd;split<;>rfl
theorem rZ{H:Hp}{a b:JR}{o u:HO}(h:H a=some o)(h':H b=some u)(d:o≠u):a≠b:=by
 intro e;subst e;rw[h] at h';exact d (Kg h')
theorem dI{H:Hp}{a b:JR}{o:HO}(h:H a=some o)(h':H b=none):a≠b:=by
 intro e;subst e;rw[h] at h';cases h'
section
variable (P : Ka) (w : Ku)
noncomputable def eY(H:Hp)(h:KP)(a:JR):HO->Prop
 |.lst xs=>xs.length<=sizeLine/\∃(J:JP JT) (n:Nat),Vals xs J/\h.get? a=some {cls:= .type "list",data:= .seq J.toArray n}
 |.tup xs=>xs.length<=sizeLine/\∃ J:JP JT,Vals xs J/\IsTup h a J.toArray
 |.dK kvs=>kvs.length<=sizeLine/\(a==Mg)=false/\∃ vs,KV kvs vs/\h.DictOf (g7 P w) a vs
 |.dT kvs=>kvs.length<=sizeLine/\(a==Mg)=false/\∃ xs:JP (JP Key×JR×JT),
   Lo (λ(p:JP Key×V) (q:JP Key×JR×JT)=>p.1=q.1/\H q.2.1=some (.tup (p.1.map kV))/\RelV p.2 q.2.2) kvs xs/\
   ∃ o es I,h.get? a=some o/\o.ExactDict/\o.data= .dict es I/\es.toList=xs.map (entryOfKey (tupleKind (g7 P w)))/\(xs.map (·.1)).Nodup
 |.set S n=>h.SetOf (intKind P w) a S n
 |.ins C dx fs=>H dx=some (.own a)/\fs.length<=1000/\dx≠a/\h.get? a=some (Nv C dx)/\
   ∃ mA,h.Ns1 dx mA/\(∀ f,gY (fs.lookup f) (mA f))/\PySem.Within mA (fs.map (·.1))
 |.own _=>∃ o,h.get? a=some o
 |.xd fs=>∃ mA,h.Ns1 a mA/\∀ f,gY (fs.lookup f) (mA f)
 |.rng lo hi=>∃ t u v,h.get? a=some {cls:= .type "range",data:= .fields #[.int lo t,.int hi u,.int 1 v]}
 |.frz o u=>h.get? a=some o/\eY H h a u
 |.tbl ps=>h.get? a=some {cls:= .none,data:= .fields ps}
 |.met f x=>h.get? a=some (W.methodObj (.ref f) (.ref x))
 |.ext U=>U h/\(∃ o,h.get? a=some o)/\∀ h1 h2:KP,U h1->(∀ o,h1.get? a=some o->h2.get? a=some o)->U h2
noncomputable def eK(H:Hp)(h:KP):Prop:=∀ a o,H a=some o->eY P w H h a o
end
section
variable {P : Ka} {w : Ku} {H H' : Hp} {h h' : KP} {a : JR} {o : HO}
theorem eY.lt (x:eY P w H h a o):a<h.objs.size:=by
 cases o with
 |lst xs=>obtain⟨_,_,_,_,e⟩:=x;exact Kb e
 |tup xs=>obtain⟨_,_,_,p⟩:=x;exact p.lt
 |dK kvs=>obtain⟨_,_,_,_,o,_,_,e,_⟩:=x;exact Kb e
 |dT kvs=>obtain⟨_,_,_,_,o,_,_,e,_⟩:=x;exact Kb e
 |set S n=>obtain⟨o,_,_,_,e,_⟩:=x;exact Kb e
 |ins C dx fs=>obtain⟨_,_,_,e,_⟩:=x;exact Kb e
 |own y=>obtain⟨_,e⟩:=x;exact Kb e
 |xd fs=>obtain⟨_,⟨_,_,_,e,_⟩,_⟩:=x;exact Kb e
 |rng lo hi=>obtain⟨_,_,_,e⟩:=x;exact Kb e
 |frz ob u=>obtain⟨e,_⟩:=x;exact Kb e
 |tbl ps=>exact Kb (show h.get? a=some _ from x)
 |met f y=>exact Kb (show h.get? a=some _ from x)
 |ext J=>obtain⟨_,⟨_,e⟩,_⟩:=x;exact Kb e
theorem Paired.mapP {α β:Type}{F G:α->β->Prop}:∀{l₁:JP α} {l₂:JP β},Lo F l₁ l₂->(∀ a b,F a b->G a b)->Lo G l₁ l₂
 |_,_,.nil,_=> .nil
 |_,_,.cons r t,f=> .cons (f _ _ r) (Paired.mapP t f)
theorem eY.stay (x:eY P w H h a o)(k:∀ b u,(b=a\/H b=some (.own a))->h.get? b=some u->h'.get? b=some u)
  (ho:∀ b,H b=some (.own a)->H' b=some (.own a))(ht:∀ b xs,H b=some (.tup xs)->H' b=some (.tup xs)):eY P w H' h' a o:=by
 induction o with
 |lst xs=>obtain⟨z,U,n,r,e⟩:=x;exact⟨z,U,n,r,k _ _ (.inl rfl) e⟩
 |tup xs=>obtain⟨z,U,r,ob,e,c⟩:=x;exact⟨z,U,r,ob,k _ _ (.inl rfl) e,c⟩
 |dK kvs=>obtain⟨z,y,vs,r,ob,es,J,e,c⟩:=x;exact⟨z,y,vs,r,ob,es,J,k _ _ (.inl rfl) e,c⟩
 |dT kvs=>
  obtain⟨z,y,xs,r,ob,es,J,e,c⟩:=x;exact⟨z,y,xs,Paired.mapP r λp q z=>⟨z.1,ht _ _ z.2.1,z.2.2⟩,ob,es,J,k _ _ (.inl rfl) e,c⟩
 |set S n=>obtain⟨ob,es,J,t,e,c⟩:=x;exact⟨ob,es,J,t,k _ _ (.inl rfl) e,c⟩
 |ins C dx fs=>
  obtain⟨d,z,ne,e,mA,⟨I,es,J,e2,c⟩,r⟩:=x;exact⟨ho _ d,z,ne,k _ _ (.inl rfl) e,mA,⟨I,es,J,k _ _ (.inr d) e2,c⟩,r⟩
 |own y=>obtain⟨ob,e⟩:=x;exact⟨ob,k _ _ (.inl rfl) e⟩
 |xd fs=>obtain⟨mA,⟨I,es,J,e,c⟩,r⟩:=x;exact⟨mA,⟨I,es,J,k _ _ (.inl rfl) e,c⟩,r⟩
 |rng lo hi=>obtain⟨t,u,v,e⟩:=x;exact⟨t,u,v,k _ _ (.inl rfl) e⟩
 |frz ob u ih=>obtain⟨e,q⟩:=x;exact⟨k _ _ (.inl rfl) e,ih q⟩
 |tbl ps=>
  have e:h.get? a=some {cls:= .none,data:= .fields ps}:=x
  show h'.get? a=some {cls:= .none,data:= .fields ps};exact k a _ (.inl rfl) e
 |met f y=>
  have e:h.get? a=some (W.methodObj (.ref f) (.ref y)):=x
  show h'.get? a=some (W.methodObj (.ref f) (.ref y));exact k a _ (.inl rfl) e
 |ext φ=>obtain⟨p,⟨o,e⟩,st⟩:=x;exact⟨st _ _ p λo q=>k _ _ (.inl rfl) q,⟨o,k _ _ (.inl rfl) e⟩,st⟩
theorem eK.lt (x:eK P w H h)(e:H a=some o):a<h.objs.size:=(x a o e).lt
theorem eK.fresh (x:eK P w H h)(e:h.objs.size<=a):H a=none:=by
 cases q:H a with
 |none=>rfl
 |some u=>exact absurd (Km (x.lt q) e) (Kw _)
theorem eK.kept (x:eK P w H h)(k:∀ b u,h.get? b=some u->h'.get? b=some u):eK P w H h':=λa o e=>
 (x a o e).stay (λb u _ q=>k b u q) (λ_ q=>q) λ_ _ q=>q
theorem eK.laid (x:eK P w H h)(k:∀ b u,h.get? b=some u->h'.get? b=some u)(hp:h.objs.size<=a)(new:eY P w (upd H a o) h' a o):eK P w (upd H a o) h':=λb u e=>by
 have hn:=x.fresh hp;by_cases hb:b=a
 ·subst hb;rw[b6] at e;cases e;exact new
 ·rw[cF hb] at e;exact(x b u e).stay (λc v _ q=>k c v q) (λc q=>by rw[cF (dI q hn)];exact q) λc xs q=>by rw[cF (dI q hn)];exact q
end
noncomputable def Rd(H:Hp)(a:JR)(u:HO):Prop:=H a=some u\/∃ o,H a=some (.frz o u)
theorem Rd.ok {P:Ka}{w:Ku}{H:Hp}{h:KP}{a:JR}{u:HO}(r:Rd H a u)(x:eK P w H h):eY P w H h a u:=by
 rcases r with r|⟨o,r⟩
 ·exact x a u r
 ·obtain⟨_,q⟩:=x a _ r;exact q
noncomputable def pU:JW HO->Prop
 |some (.lst _)=>O3
 |some (.dK _)=>O3
 |some (.dT _)=>O3
 |some (.set _ _)=>O3
 |some (.ins _ _ _)=>O3
 |some (.ext _)=>O3
 |_=>LG
section
variable {P : Ka} {w : Ku} {H : Hp} {h h' : KP} {x e : JR} {o' : HO}
theorem eK.write (ok:eK P w H h)(mu:pU (H x))(he:e=x\/H e=some (.own x))(k:∀ b u,b≠e->h.get? b=some u->h'.get? b=some u)(heo:∃ u,h'.get? e=some u)
  (new:eY P w (upd H x o') h' x o'):eK P w (upd H x o') h':=λb u q=>by
 have U:∀ c y,H c=some (.own y)->c≠x:=λc y r z=>by subst z;rw[r] at mu;exact mu
 have I:∀ c xs,H c=some (.tup xs)->c≠x:=λc xs r z=>by subst z;rw[r] at mu;exact mu
 by_cases hb:b=x
 ·subst hb;rw[b6] at q;cases q;exact new
 ·rw[cF hb] at q;by_cases J:b=e
  ·have q':H b=some (.own x):=by
    rcases he with z|z
    ·exact absurd (J.trans z) hb
    ·rw[J];exact z
   rw[q] at q';cases q';obtain⟨v,hv⟩:=heo;exact⟨v,by rw[J];exact hv⟩
  ·refine(ok b u q).stay (λc v hc r=>k c v ?_ r) (λc r=>by rw[cF (U c b r)];exact r) λc xs r=>by rw[cF (I c xs r)];exact r
   rcases hc with rfl|hc
   ·exact J
   ·rintro rfl;rcases he with z|z
    ·exact U c b hc z
    ·rw[hc] at z;cases z;exact hb rfl
end
structure Un (fs ex : JP JR) (H H' : Hp) (h h' : KP) : Prop where
 keep : ∀ b o, h.get? b = some o -> H b = none -> b ∉ fs -> b ∉ ex -> h'.get? b = some o
 slot : ∀ b o, h.get? b = some o -> H b = none -> b ∈ fs -> b ∉ ex -> ∃ sl, h'.get? b = some { o with slots := sl }
 free : ∀ b o, h.get? b = some o -> H b = none -> b ∉ ex -> H' b = none
 there : ∀ b o, h.get? b = some o -> b ∉ ex -> ∃ o', h'.get? b = some o'
 tups : ∀ b xs, H b = some (.tup xs) -> H' b = some (.tup xs)
 frzs : ∀ b o u, H b = some (.frz o u) -> H' b = some (.frz o u)
 tbls : ∀ b ps, H b = some (.tbl ps) -> ∃ more, H' b = some (.tbl (ps ++ more))
section
variable {fs fs' ex ex' : JP JR} {H H1 H2 : Hp} {h h1 h2 h' : KP} {a x e : JR} {o : HO}
theorem Un.any (u:Un fs ex H H1 h h1){b:JR}{ob:Obj}(q:h.get? b=some ob)(n:H b=none)(hx:b∉ex):∃ sl,h1.get? b=some {ob with slots:=sl}:=by
 by_cases hb:b∈fs
 ·exact u.slot b ob q n hb hx
 ·exact⟨ob.slots,u.keep b ob q n hb hx⟩
theorem Un.kept (k:∀ b u,h.get? b=some u->h'.get? b=some u):Un fs ex H H h h':=
 ⟨λb ob q _ _ _=>k b ob q,λb ob q _ _ _=>⟨ob.slots,k b ob q⟩,λ_ _ _ n _=>n,λb ob q _=>⟨ob,k b ob q⟩,λ_ _ q=>q,λ_ _ _ q=>q,λ_ ps q=>⟨#[],by rw[q];simp⟩⟩
theorem Un.refl:Un fs ex H H h h:=Un.kept λ_ _ q=>q
theorem Un.laid (k:∀ b u,h.get? b=some u->h'.get? b=some u)(hp:h.objs.size<=a)(hn:H a=none):Un fs ex H (upd H a o) h h' where
 keep:=λb u q _ _ _=>k b u q
 slot:=λb u q _ _ _=>⟨u.slots,k b u q⟩
 free:=λb u q n _=>by rw[cF (Kr (Km (Kb q) hp))];exact n
 there:=λb u q _=>⟨u,k b u q⟩
 tups:=λb xs q=>by rw[cF (dI q hn)];exact q
 frzs:=λb u xs q=>by rw[cF (dI q hn)];exact q
 tbls:=λb ps q=>⟨#[],by rw[cF (dI q hn),q];simp⟩
theorem Un.write (mu:pU (H x))(he:e=x\/H e=some (.own x))(k:∀ b u,b≠e->h.get? b=some u->h'.get? b=some u)(heo:∃ u,h'.get? e=some u):Un fs ex H (upd H x o) h h':=by
 have U:∀ b,H b=none->b≠x:=λb n z=>by subst z;rw[n] at mu;exact mu
 have hb:∀ b,H b=none->b≠e:=λb n z=>by
  subst z;rcases he with r|r
  ·exact U b n r
  ·rw[n] at r;cases r
 have hm:∀ b u,H b=some u->¬ pU (some u)->b≠x:=λb u q nm z=>by subst z;rw[q] at mu;exact nm mu
 refine⟨λb u q n _ _=>k b u (hb b n) q,λb u q n _ _=>⟨u.slots,k b u (hb b n) q⟩,λb u q n _=>by rw[cF (U b n)];exact n,λb u q _=>?_,
  λb xs q=>by rw[cF (hm b _ q λz=>z)];exact q,λb u xs q=>by rw[cF (hm b _ q λz=>z)];exact q,λb ps q=>⟨#[],by rw[cF (hm b _ q λz=>z),q];simp⟩⟩;by_cases J:b=e
 ·subst J;exact heo
 ·exact⟨u,k b u J q⟩
end
noncomputable def sY(h:KP)(H:Hp):JP JR:=(LL h.objs.size).filter λa=>(H a).isSome
noncomputable def kA(h:KP)(H:Hp):KP:=NV h (sY h H)
theorem GZ(h:KP)(H:Hp):(kA h H).objs.size=h.objs.size:=W.hideAll_size _ _
theorem HW{h:KP}{H:Hp}{b:JR}{o:Obj}(e:h.get? b=some o)(n:H b=none):(kA h H).get? b=some o:=
 W.hideAll_get _ e λhm=>by
  have q:(H b).isSome=true:=(List.mem_filter.mp hm).2;rw[n] at q;simp at q
theorem Jo{h:KP}{H:Hp}{b:JR}{o:Obj}(e:(kA h H).get? b=some o):h.get? b=some o/\H b=none:=by
 have J:h.get? b=some o:=Oz (sY h H) e;refine⟨J,?_⟩;cases q:H b with
 |none=>rfl
 |some x=>
  have hm:b∈sY h H:=List.mem_filter.mpr ⟨List.mem_range.mpr (Kb J),by simp[q]⟩
  have z:(kA h H).get? b=none:=OP (sY h H) hm;rw[z] at e;cases e
structure Mod (K : Kl) (mg : Str -> JW JT) (base : KP) : Prop where
 kin : K.In base
 glob : base.Ns Kc mg
 blt : ∃ mb, base.Ns builtinsNs mb /\ ∀ x : Str, x ≠ "__name__" -> mb x = Lp x
 nolimit : base.NoLimit
structure Cx where
 prog : Ka
 w : Ku
 K : Kl
 mg : Str -> JW JT
 base : KP
 A : K4
 N : JP Str
 s₀ : JZ
 H₀ : Hp
 env : Env
 outer : JP Env
 stack : JP Env
 ex : JP JR
 fn : Str -> KS
 calm : KS
 pn : JP (JR × Obj)
 xe : JT -> JZ -> Prop
noncomputable def dz(l:JP Env):JP JR:=l.filterMap (·.frame)
noncomputable abbrev Cx.fs (X:Cx):JP JR:=dz X.outer
noncomputable def rD(sc:MS)(x:Str):Prop:=sc.names.lookup x=some .local\/sc.names.lookup x=some .cell\/sc.names.lookup x=some .free
noncomputable def Loc(sc:MS)(x:Str):Prop:=sc.names.lookup x=some .local\/sc.names.lookup x=some .cell
noncomputable def Look(env:Env)(h:KP)(m:Str->JW JT)(x:Str)(u:JT):Prop:=
 (env.kindOf x=some .local/\m x=some u)\/((env.kindOf x=some .cell\/env.kindOf x=some .free)/\∃ c,env.cells.lookup x=some c/\h.IsCell c (some u))
structure Cx.Ok (X : Cx) : Prop where
 mod : Mod X.K X.mg X.base
 kind : X.env.scope.kind = .function
 glob : X.env.globals = Kc
 blt : X.env.builtins = builtinsNs
 above : X.s₀.heap.objs.size<=X.env.locals
 inj : ∀ x y c, X.env.cells.lookup x = some c -> X.env.cells.lookup y = some c -> x = y
 has : ∀ x, (X.env.kindOf x = some .cell \/ X.env.kindOf x = some .free) -> ∃ c, X.env.cells.lookup x = some c
 cab : ∀ x c, X.fn x = true -> X.env.cells.lookup x = some c -> X.s₀.heap.objs.size<=c
 hd : X.calm = true -> X.A.handled = none
 frames : X.A.frames = some X.stack
 stk : X.stack = X.outer \/ (X.stack = X.env :: X.outer /\ X.env.frame = some X.env.locals)
 exf : ∀ b ∈ X.ex, b ≠ X.env.locals /\ ∀ x c, X.env.cells.lookup x = some c -> c ≠ b
 bs : ∀ b o, X.base.get? b = some o -> X.s₀.heap.get? b = some o /\ X.H₀ b = none
 bsz : X.base.objs.size<=X.s₀.heap.objs.size
 noex : ∀ b o, X.base.get? b = some o -> b ∉ X.ex
 exfs : ∀ b ∈ X.ex, b ∉ X.fs
 funs : X.s₀.heap.FunFrames X.base X.outer
 frf : ∀ b ∈ X.fs, X.H₀ b = none
structure Inv (X : Cx) (pins : JP (JR × Obj)) (σ : JP (JW V)) (H : Hp) (s : JZ) : Prop where
 ok : X.Ok
 os : s.os = X.s₀.os
 bare : NQ s.gens
 base : Un X.fs X.ex X.H₀ H X.s₀.heap s.heap
 loc : ∃ m, s.heap.Ns X.env.locals m /\ ∀ (i : Nat) (x : Str) (v : V), X.N[i]? = some x -> σ[i]? = some (some v) -> rD X.env.scope x -> ∃ u, RelV v u /\ Look X.env s.heap m x u
 cell : ∀ x c, X.env.cells.lookup x = some c -> ∃ v, s.heap.IsCell c v
 free : H X.env.locals = none
 freeC : ∀ x c, X.env.cells.lookup x = some c -> H c = none
 pin : ∀ p ∈ X.pn ++ pins, s.heap.get? p.1 = some p.2 /\ H p.1 = none /\ p.1 ≠ X.env.locals /\ p.1 ∉ X.fs /\ ∀ v, p.2.data ≠ .cell v
 hok : eK X.prog X.w H s.heap
 len : σ.length = X.N.length
section
variable {X : Cx} {pins : JP (JR × Obj)} {σ : JP (JW V)} {H H' : Hp} {s : JZ} {h' : KP}
theorem Cx.Ok.nofr (ok:X.Ok){b:JR}{o:Obj}(e:X.base.get? b=some o):b∉X.fs:=λhb=>by
 have:=(ok.funs.mem hb).1;rw[e] at this;cases this
theorem Inv.bs (I:Inv X pins σ H s):∀ b o,X.base.get? b=some o->s.heap.get? b=some o/\H b=none:=λb o e=>
 ⟨I.base.keep b o (I.ok.bs b o e).1 (I.ok.bs b o e).2 (I.ok.nofr e) (I.ok.noex b o e),I.base.free b o (I.ok.bs b o e).1 (I.ok.bs b o e).2 (I.ok.noex b o e)⟩
theorem Inv.bk (I:Inv X pins σ H s):∀ b o,X.base.get? b=some o->s.heap.get? b=some o:=λb o e=>(I.bs b o e).1
theorem Inv.mod (I:Inv X pins σ H s):Mod X.K X.mg X.base:=I.ok.mod
theorem Inv.kIn (I:Inv X pins σ H s):X.K.In s.heap:=I.ok.mod.kin.keeps I.bk
theorem Inv.fr (I:Inv X pins σ H s):∃ m,Fr X.base X.env.locals s.heap m:=
 let ⟨m,hn,_⟩:=I.loc
 ⟨m,hn,I.bk,Kj I.ok.bsz I.ok.above⟩
theorem Inv.lt (I:Inv X pins σ H s):X.env.locals<s.heap.objs.size:=let ⟨_,hn,_⟩:=I.loc;hn.lt
theorem Inv.sz (I:Inv X pins σ H s):X.s₀.heap.objs.size<=s.heap.objs.size:=Kj I.ok.above (M3 I.lt)
theorem Inv.nofs (I:Inv X pins σ H s){a:JR}(h:s.heap.objs.size<=a):a∉X.fs:=λhb=>by
 obtain⟨_,o,J,_⟩:=I.ok.funs.mem hb;exact absurd (Km (Kb J) (Kj I.sz h)) (Kw _)
theorem Inv.cne (I:Inv X pins σ H s):∀ x c,X.env.cells.lookup x=some c->c≠X.env.locals:=λx c e z=>by
 obtain⟨v,o,ho,hd⟩:=I.cell x c e;obtain⟨m,⟨o',es,ep,J,U,_⟩,_⟩:=I.loc;rw[z,J] at ho;cases ho;rw[U] at hd;cases hd
theorem Inv.funs (I:Inv X pins σ H s):s.heap.FunFrames X.base X.outer:=by
 have all:∀(l:JP Env),(∀ b∈dz l,b∈X.fs)->X.s₀.heap.FunFrames X.base l->s.heap.FunFrames X.base l:=by
  intro l;induction l with
  |nil=>intro _ _;trivial
  |cons env r ih=>
   intro U hl;obtain⟨hk,⟨L,o,hf,hn,ho,hd⟩,hr⟩:=hl;have J:L∈X.fs:=U L (by unfold dz;rw[NO,hf];exact KG);obtain⟨sl,e⟩:=I.base.slot L o ho (I.ok.frf L J) J λz=>I.ok.exfs L z J
   exact⟨hk,⟨L,_,hf,hn,e,hd⟩,ih (λb hb=>U b (by unfold dz;rw[NO,hf];exact J0 _ hb)) hr⟩
 exact all X.outer (λ_ hb=>hb) I.ok.funs
theorem Inv.stack (I:Inv X pins σ H s):s.heap.FunFrames X.base X.stack:=by
 rcases I.ok.stk with e|⟨e,hf⟩
 ·rw[e];exact I.funs
 ·rw[e];obtain⟨m,hn,_⟩:=I.loc;refine .cons (by rw[I.ok.kind];decide) hf hn ?_ I.funs;exact Heap.get?_none_of_le (Kj I.ok.bsz I.ok.above)
theorem Inv.stkSub (I:Inv X pins σ H s):∀ b∈dz X.stack,b∈X.env.locals::X.fs:=λb hb=>by
 rcases I.ok.stk with e|⟨e,hf⟩
 ·rw[e] at hb;exact J0 _ hb
 ·rw[e] at hb;unfold dz at hb;rw[NO,hf] at hb;exact hb
theorem Inv.stkFree (I:Inv X pins σ H s):∀ b∈dz X.stack,H b=none:=λb hb=>by
 rcases List.mem_cons.mp (I.stkSub b hb) with e|hb
 ·rw[e];exact I.free
 ·obtain⟨_,o,J,_⟩:=I.ok.funs.mem hb;exact I.base.free b o J (I.ok.frf b hb) λz=>I.ok.exfs b z hb
theorem Inv.step {g':MM GenState}{t':Nat}{d':Drawn}{ch:JP JR}(I:Inv X pins σ H s)
  (hch:∀ b∈ch,(b∈X.ex\/X.s₀.heap.objs.size<=b)/\b≠X.env.locals/\(∀ x c,X.env.cells.lookup x=some c->c≠b)/\∀ p∈X.pn++pins,p.1≠b)
  (keep:∀ b o,b≠X.env.locals->b∉X.fs->b∉ch->s.heap.get? b=some o->H b=none->h'.get? b=some o)
  (slot:∀ b o,b≠X.env.locals->b∈X.fs->b∉ch->s.heap.get? b=some o->H b=none->∃ sl,h'.get? b=some {o with slots:=sl})(free:∀ b o,b∉ch->s.heap.get? b=some o->H b=none->H' b=none)
  (there:∀ b o,b∉ch->s.heap.get? b=some o->∃ o',h'.get? b=some o')
  (tups:∀ b xs,H b=some (.tup xs)->H' b=some (.tup xs))(frzs:∀ b o u,H b=some (.frz o u)->H' b=some (.frz o u))(tbls:∀ b ps,H b=some (.tbl ps)->∃ more,H' b=some (.tbl (ps++more)))
  (ns:∀ m,s.heap.Ns X.env.locals m->h'.Ns X.env.locals m)(hok:eK X.prog X.w H' h')(hg:NQ g'):
  Inv X pins σ H' {s with heap:=h',gens:=g',drawn:=d',toks:=t'}:=by
 have ab:∀ b o,X.s₀.heap.get? b=some o->b≠X.env.locals:=λb o e=>Kr (Km (Kb e) I.ok.above)
 have aa:∀ b o,X.s₀.heap.get? b=some o->b∉X.ex->b∉ch:=λb o e J hb=>by
  rcases(hch b hb).1 with z|z
  ·exact J z
  ·exact absurd (Km (Kb e) z) (Kw _)
 have cellK:∀ x c,X.env.cells.lookup x=some c->∀ v,s.heap.IsCell c v->h'.IsCell c v:=λx c e v ⟨o,ho,hd⟩=>by
  have U:c∉ch:=λz=>(hch c z).2.2.1 x c e rfl
  by_cases hc:c∈X.fs
  ·obtain⟨sl,q⟩:=slot c o (I.cne x c e) hc U ho (I.freeC x c e);exact⟨_,q,hd⟩
  ·exact⟨o,keep c o (I.cne x c e) hc U ho (I.freeC x c e),hd⟩
 refine⟨I.ok,I.os,hg,⟨λb o e n hb J=>?_,λb o e n hb J=>?_,λb o e n J=>?_,λb o e J=>?_,λb xs e=>tups b xs (I.base.tups b xs e),λb o xs e=>frzs b o xs (I.base.frzs b o xs e),λb ps e=>?_⟩,?_,λx c e=>?_,?_,λx c e=>?_,λp hp=>?_,hok,I.len⟩
 ·exact keep b o (ab b o e) hb (aa b o e J) (I.base.keep b o e n hb J) (I.base.free b o e n J)
 ·obtain⟨sl,e1⟩:=I.base.slot b o e n hb J;obtain⟨ae,e2⟩:=slot b _ (ab b o e) hb (aa b o e J) e1 (I.base.free b o e n J);exact⟨ae,e2⟩
 ·obtain⟨o',e1⟩:=I.base.there b o e J;exact free b o' (aa b o e J) e1 (I.base.free b o e n J)
 ·obtain⟨o',e1⟩:=I.base.there b o e J;exact there b o' (aa b o e J) e1
 ·obtain⟨m1,e1⟩:=I.base.tbls b ps e;obtain⟨m2,e2⟩:=tbls b _ e1;exact⟨m1++m2,by rw[e2,Array.append_assoc]⟩
 ·obtain⟨m,hn,hl⟩:=I.loc;refine⟨m,ns m hn,λi x v e1 e2 e3=>?_⟩;obtain⟨u,r,l⟩:=hl i x v e1 e2 e3;refine⟨u,r,?_⟩;rcases l with l|⟨k,c,e,z⟩
  ·exact .inl l
  ·exact .inr ⟨k,c,e,cellK x c e _ z⟩
 ·obtain⟨v,z⟩:=I.cell x c e;exact⟨v,cellK x c e v z⟩
 ·obtain⟨m,⟨o,_,_,ho,_⟩,_⟩:=I.loc;exact free _ o (λz=>(hch _ z).2.1 rfl) ho I.free
 ·obtain⟨v,o,ho,hd⟩:=I.cell x c e;exact free c o (λz=>(hch c z).2.2.1 x c e rfl) ho (I.freeC x c e)
 ·obtain⟨e,n,ne,nf,d⟩:=I.pin p hp;have U:p.1∉ch:=λz=>(hch p.1 z).2.2.2 p hp rfl
  exact⟨keep p.1 p.2 ne nf U e n,free p.1 p.2 U e n,ne,nf,d⟩
theorem Inv.un {t':Nat}(I:Inv X pins σ H s)(u:Un X.fs [] H H' s.heap h')(hok:eK X.prog X.w H' h'):Inv X pins σ H' {s with heap:=h',toks:=t'}:=by
 obtain⟨m,⟨o,es,ep,ho,r⟩,_⟩:=id I.loc;obtain⟨sl,hL⟩:=u.any ho I.free (by simp);exact I.step (g':=s.gens) (d':=s.drawn) (ch:=[]) (λ_ z=>nomatch z) (λb o _ hb _ e n=>u.keep b o e n hb (by simp)) (λb o _ hb _ e n=>u.slot b o e n hb (by simp)) (λb o _ e n=>u.free b o e n (by simp)) (λb o _ e=>u.there b o e (by simp)) u.tups u.frzs u.tbls (λm' hm=>by
  obtain⟨o',U,aa,J,r'⟩:=hm;rw[ho] at J;cases J;exact⟨_,U,aa,hL,r'⟩) hok I.bare
theorem Inv.call {g':MM GenState}{t':Nat}{d':Drawn}{ch:JP JR}(I:Inv X pins σ H s)(u:Un (dz X.stack) ch H H' s.heap h')(hok:eK X.prog X.w H' h')(hg:NQ g')
  (hch:∀ b∈ch,(b∈X.ex\/X.s₀.heap.objs.size<=b)/\b≠X.env.locals/\(∀ x c,X.env.cells.lookup x=some c->c≠b)/\∀ p∈X.pn++pins,p.1≠b):
  Inv X pins σ H' {s with heap:=h',gens:=g',drawn:=d',toks:=t'}:=by
 obtain⟨m,⟨o,es,ep,ho,r⟩,_⟩:=id I.loc;obtain⟨sl,hL⟩:=u.any ho I.free λz=>(hch _ z).2.1 rfl
 exact I.step (ch:=ch) hch (λb o hL hb J e n=>u.keep b o e n (λz=>(List.mem_cons.mp (I.stkSub b z)).elim hL hb) J) (λb o _ _ J e n=>u.any e n J) (λb o J e n=>u.free b o e n J) (λb o J e=>u.there b o e J) u.tups u.frzs u.tbls (λm' hm=>by
  obtain⟨o',aa,ab,U,r'⟩:=hm;rw[ho] at U;cases U;exact⟨_,aa,ab,hL,r'⟩) hok hg
theorem Inv.turned {t':Nat}{it:JR}(I:Inv X pins σ H s)(k:∀ b o,b≠it->s.heap.get? b=some o->h'.get? b=some o)(hn:H it=none)(hL:it≠X.env.locals)
  (h1:it∈X.ex\/X.s₀.heap.objs.size<=it)(h2:∀ x c,X.env.cells.lookup x=some c->c≠it)(h3:∀ p∈X.pn++pins,p.1≠it):Inv X pins σ H {s with heap:=h',toks:=t'}:=by
 have U:∀ b u,H b=some u->b≠it:=λb u e z=>by rw[z,hn] at e;cases e
 refine I.step (g':=s.gens) (d':=s.drawn) (ch:=[it]) (λb hb=>?_) (λb o _ _ J e _=>k b o (λz=>J (by simp[z])) e) (λb o _ _ J e _=>⟨o.slots,k b o (λz=>J (by simp[z])) e⟩) (λ_ _ _ _ n=>n)
  (λb o J e=>⟨o,k b o (λz=>J (by simp[z])) e⟩) (λ_ _ e=>e) (λ_ _ _ e=>e) (λb ps e=>⟨#[],by rw[e];simp⟩) (λm hm=>?_) (λb u e=>?_) I.bare
 ·have e:b=it:=by simpa using hb
  subst e;exact⟨h1,hL,h2,h3⟩
 ·obtain⟨o,es,ep,ho,r⟩:=hm;exact⟨o,es,ep,k _ o (K5 hL) ho,r⟩
 ·refine(I.hok b u e).stay (λc v J q=>k c v ?_ q) (λ_ q=>q) λ_ _ q=>q
  rcases J with z|z
  ·rw[z];exact U b u e
  ·exact U c _ z
theorem Inv.tok (I:Inv X pins σ H s)(t:Nat):Inv X pins σ H {s with toks:=t}:=I.un (h':=s.heap) (t':=t) Un.refl I.hok
theorem Inv.kept {t':Nat}(I:Inv X pins σ H s)(k:∀ b u,s.heap.get? b=some u->h'.get? b=some u):Inv X pins σ H {s with heap:=h',toks:=t'}:=I.un (Un.kept k) (I.hok.kept k)
theorem Inv.laid {a:JR}{o:HO}{t':Nat}(I:Inv X pins σ H s)(k:∀ b u,s.heap.get? b=some u->h'.get? b=some u)(hp:s.heap.objs.size<=a)(new:eY X.prog X.w (upd H a o) h' a o):
  Inv X pins σ (upd H a o) {s with heap:=h',toks:=t'}:=I.un (Un.laid k hp (I.hok.fresh hp)) (I.hok.laid k hp new)
theorem Inv.write {x e:JR}{o:HO}{t':Nat}(I:Inv X pins σ H s)(mu:pU (H x))(he:e=x\/H e=some (.own x))(k:∀ b u,b≠e->s.heap.get? b=some u->h'.get? b=some u)(heo:∃ u,h'.get? e=some u)
  (new:eY X.prog X.w (upd H x o) h' x o):Inv X pins σ (upd H x o) {s with heap:=h',toks:=t'}:=I.un (Un.write mu he k heo) (I.hok.write mu he k heo new)
theorem Inv.weak {σ':JP (JW V)}(I:Inv X pins σ H s)(hl:σ'.length=σ.length)(w:∀(i:Nat) v,σ'[i]? =some (some v)->σ[i]? =some (some v)):Inv X pins σ' H s:=
 ⟨I.ok,I.os,I.bare,I.base,let ⟨m,hn,hl'⟩:=I.loc;⟨m,hn,λi x v J U e3=>hl' i x v J (w i v U) e3⟩,I.cell,I.free,I.freeC,I.pin,I.hok,hl.trans I.len⟩
theorem Inv.pins_of {pins':JP (JR×Obj)}(I:Inv X pins σ H s)(h:∀ p∈pins',s.heap.get? p.1=some p.2/\H p.1=none/\p.1≠X.env.locals/\p.1∉X.fs/\∀ v,p.2.data≠ .cell v):Inv X pins' σ H s:=
 ⟨I.ok,I.os,I.bare,I.base,I.loc,I.cell,I.free,I.freeC,λp hp=>(List.mem_append.mp hp).elim (λz=>I.pin p (Ll _ z)) (h p),I.hok,I.len⟩
theorem x8{N:JP Str}(hN:N.Nodup){i j:Nat}{x:Str}(a:N[i]? =some x)(b:N[j]? =some x):i=j:=by
 obtain⟨h1,J⟩:=List.getElem?_eq_some_iff.mp a;obtain⟨h2,U⟩:=List.getElem?_eq_some_iff.mp b;exact(List.getElem_inj hN).mp (J.trans U.symm)
theorem zM{M:Model}{A:K4}{E:JT->JZ->Prop}{i:Nat}{x:Str}{v:V}{u:JT}{Q:Unit->JZ->Prop}(I:Inv X pins σ H s)(hN:X.N.Nodup)(hi:X.N[i]? =some x)(hx:Loc X.env.scope x)(r:RelV v u)
  (h:∀ s',Inv X pins (σ.set i (some v)) H s'->(∃ a,Md a s.heap s'.heap/\(a=X.env.locals\/X.env.cells.lookup x=some a))->Q () s')(hf:X.fn x=true\/X.env.scope.names.lookup x=some .local:=by first|exact .inl rfl|exact .inr rfl|assumption):Kq M A (storeName X.env x u) Q E s:=by
 obtain⟨m,hn,hl⟩:=id I.loc;have af:(X.env.scope.kind == .class||(X.env.scope.kind == .module&&X.env.locals != X.env.globals))=false:=by rw[I.ok.kind];rfl
 have ab:i<σ.length:=by rw[I.len];exact(List.getElem?_eq_some_iff.mp hi).1
 have cne:=I.cne
 have tracked:∀{a:JR} {h':KP},(∃ o,s.heap.get? a=some o/\H a=none)->Md a s.heap h'->eK X.prog X.w H h':=λ{a h'} ha J b ob e=>by
  obtain⟨_,_,aa⟩:=ha;refine(I.hok b ob e).stay (λc w' hc q=>(J.2 c ?_).trans q) (λ_ q=>q) λ_ _ q=>q
  rintro rfl;rcases hc with rfl|hc
  ·rw[aa] at e;cases e
  ·rw[aa] at hc;cases hc
 rcases hx with hk|hk
 ·refine wpAny_storeName_local hk hn (λh' ak J=>?_) af;obtain⟨oL,_,_,ao,_⟩:=id hn;refine h _ ⟨I.ok,I.os,I.bare,⟨λb o e n hb hx=>?_,λb o e n hb hx=>?_,I.base.free,λb o e hx=>?_,I.base.tups,I.base.frzs,I.base.tbls⟩,⟨_,ak,λj y v' U e2 e3=>?_⟩,λy c e=>?_,I.free,I.freeC,λp hp=>?_,tracked ⟨oL,ao,I.free⟩ J,by simpa using I.len⟩ ⟨_,J,.inl rfl⟩
  ·exact(J.2 b (Kr (Km (Kb e) I.ok.above))).trans (I.base.keep b o e n hb hx)
  ·obtain⟨sl,U⟩:=I.base.slot b o e n hb hx;exact⟨sl,(J.2 b (Kr (Km (Kb e) I.ok.above))).trans U⟩
  ·obtain⟨o',U⟩:=I.base.there b o e hx;exact⟨o',(J.2 b (Kr (Km (Kb e) I.ok.above))).trans U⟩
  ·by_cases hj:j=i
   ·subst hj;rw[hi] at U;cases U;rw[List.getElem?_set_self ab] at e2;cases e2;exact⟨u,r,.inl ⟨hk,by simp⟩⟩
   ·rw[List.getElem?_set_ne (K5 hj)] at e2;obtain⟨u',r',q⟩:=hl j y v' U e2 e3;refine⟨u',r',?_⟩;rcases q with ⟨k,e⟩|⟨k,c,e,z⟩
    ·refine .inl ⟨k,?_⟩;have:y≠x:=λe=>hj (x8 hN U (e ▸ hi))
     simp[this,e]
    ·exact .inr ⟨k,c,e,z.sameBut J (cne y c e)⟩
  ·obtain⟨w',z⟩:=I.cell y c e;exact⟨w',z.sameBut J (cne y c e)⟩
  ·obtain⟨e,n,ne,nf,d⟩:=I.pin p hp;exact⟨(J.2 p.1 ne).trans e,n,ne,nf,d⟩
 ·have ae:X.fn x=true:=by
   rcases hf with z|z
   ·exact z
   ·rw[z] at hk;cases hk
  obtain⟨c,hc⟩:=I.ok.has x (.inl hk);obtain⟨w',z⟩:=I.cell x c hc;refine wpAny_storeName_cell I.ok.kind hk hc z (λh' ag J=>?_);obtain⟨oc,ah,ai⟩:=id z;refine h {s with heap:=h'} ⟨I.ok,I.os,I.bare,⟨λb o e n hb hx=>?_,λb o e n hb hx=>?_,I.base.free,λb o e hx=>?_,I.base.tups,I.base.frzs,I.base.tbls⟩,⟨m,hn.sameBut J (K5 (cne x c hc)),λj y v' U e2 e3=>?_⟩,λy c' e=>?_,I.free,I.freeC,λp hp=>?_,tracked ⟨oc,ah,I.freeC x c hc⟩ J,by simpa using I.len⟩ ⟨c,J,.inr hc⟩
  ·exact(J.2 b (Kr (Km (Kb e) (I.ok.cab x c ae hc)))).trans (I.base.keep b o e n hb hx)
  ·obtain⟨sl,U⟩:=I.base.slot b o e n hb hx;exact⟨sl,(J.2 b (Kr (Km (Kb e) (I.ok.cab x c ae hc)))).trans U⟩
  ·obtain⟨o',U⟩:=I.base.there b o e hx;exact⟨o',(J.2 b (Kr (Km (Kb e) (I.ok.cab x c ae hc)))).trans U⟩
  ·by_cases hj:j=i
   ·subst hj;rw[hi] at U;cases U;rw[List.getElem?_set_self ab] at e2;cases e2;exact⟨u,r,.inr ⟨.inl hk,c,hc,ag⟩⟩
   ·rw[List.getElem?_set_ne (K5 hj)] at e2;obtain⟨u',r',q⟩:=hl j y v' U e2 e3;refine⟨u',r',?_⟩;rcases q with q|⟨k,c',e,z'⟩
    ·exact .inl q
    ·refine .inr ⟨k,c',e,z'.sameBut J ?_⟩;rintro rfl;exact hj (x8 hN U (I.ok.inj _ _ _ e hc ▸ hi))
  ·by_cases aj:c'=c
   ·subst aj;exact⟨_,ag⟩
   ·obtain⟨w2,z2⟩:=I.cell y c' e;exact⟨w2,z2.sameBut J aj⟩
  ·obtain⟨e,n,ne,nf,d⟩:=I.pin p hp;refine⟨(J.2 p.1 ?_).trans e,n,ne,nf,d⟩;intro q;rw[q,ah] at e;have q':oc=p.2:=Kg e;exact d w' (by rw[<-q'];exact ai)
theorem iR{M:Model}{A:K4}{E:JT->JZ->Prop}{i:Nat}{x:Str}{v:V}{u:JT}{Q:Unit->JZ->Prop}(I:Inv X pins σ H s)(hN:X.N.Nodup)(hi:X.N[i]? =some x)(hx:Loc X.env.scope x)(r:RelV v u)
  (h:∀ s',Inv X pins (σ.set i (some v)) H s'->Q () s')(hf:X.fn x=true\/X.env.scope.names.lookup x=some .local:=by first|exact .inl rfl|exact .inr rfl|assumption):Kq M A (storeName X.env x u) Q E s:=
 zM I hN hi hx r (λs' J _=>h s' J) hf
theorem Inv.call' {s':JZ}{ch:JP JR}(I:Inv X pins σ H s)(ho:s'.os=s.os)(u:Un (dz X.stack) ch H H' s.heap s'.heap)(hok:eK X.prog X.w H' s'.heap)(hg:NQ s'.gens)
  (hch:∀ b∈ch,(b∈X.ex\/X.s₀.heap.objs.size<=b)/\b≠X.env.locals/\(∀ x c,X.env.cells.lookup x=some c->c≠b)/\∀ p∈X.pn++pins,p.1≠b):Inv X pins σ H' s':=by
 obtain⟨h',g',d',t',o'⟩:=s';have e:o'=s.os:=ho;subst e;exact I.call (g':=g') (t':=t') (d':=d') u hok hg hch
end
noncomputable abbrev XK:=JT->JW JR->Hp->Prop
noncomputable abbrev St:=JP (JW V)
noncomputable abbrev VK:=V->Hp->Prop
noncomputable abbrev TE:=St->Hp->VK->Prop
noncomputable abbrev TT:=St->Hp->(KS->Hp->Prop)->Prop
noncomputable abbrev TA:=St->Hp->(JP V->Hp->Prop)->Prop
structure Ends where
 nx : St -> Hp -> Prop
 rt : VK
 bk : St -> Hp -> Prop := λ_ _ => LG
 ct : St -> Hp -> Prop := λ_ _ => LG
noncomputable abbrev TS:=Ends->St->Hp->Prop
noncomputable def EP(X:Cx)(pins:JP (JR×Obj))(σ:St)(Q:VK)(u:JT)(s':JZ):Prop:=∃ v H',Inv X pins σ H' s'/\RelV v u/\Q v H'
noncomputable def TP(X:Cx)(pins:JP (JR×Obj))(σ:St)(Q:KS->Hp->Prop)(b:KS)(s':JZ):Prop:=∃ H',Inv X pins σ H' s'/\Q b H'
noncomputable def AP(X:Cx)(pins:JP (JR×Obj))(σ:St)(Q:JP V->Hp->Prop)(us:JP JT)(s':JZ):Prop:=∃ vs H',Inv X pins σ H' s'/\Vals vs us/\Q vs H'
noncomputable def SP(X:Cx)(pins:JP (JR×Obj))(D:Ends)(f:Flow)(s':JZ):Prop:=
 match f with
 |.next=>∃ J H',Inv X pins J H' s'/\D.nx J H'
 |.brk=>∃ J H',Inv X pins J H' s'/\D.bk J H'
 |.cont=>∃ J H',Inv X pins J H' s'/\D.ct J H'
 |.ret u=>∃ v J H',Inv X pins J H' s'/\RelV v u/\D.rt v H'
noncomputable def PE(X:Cx)(e:KI)(t:TE):Prop:=
 ∀(pins:JP (JR×Obj)) (s:JZ) (σ:St) (H:Hp) (Q:VK),Inv X pins σ H s->t σ H Q->Kq (Ko X.prog X.w) X.A (eval e X.env) (EP X pins σ Q) X.xe s
noncomputable def PT(X:Cx)(e:KI)(t:TT):Prop:=
 ∀(pins:JP (JR×Obj)) (s:JZ) (σ:St) (H:Hp) (Q:KS->Hp->Prop),Inv X pins σ H s->t σ H Q->Kq (Ko X.prog X.w) X.A (isTrue e X.env (eval e X.env)) (TP X pins σ Q) X.xe s
noncomputable def PW(X:Cx)(e:KI)(t:TT):Prop:=
 ∀(whole:Sem JT) (pins:JP (JR×Obj)) (s:JZ) (σ:St) (H:Hp) (Q:KS->Hp->Prop),Inv X pins σ H s->t σ H Q->Kq (Ko X.prog X.w) X.A (isTrue e X.env whole) (TP X pins σ Q) X.xe s
theorem PW.pt {X:Cx}{e:KI}{t:TT}(h:PW X e t):PT X e t:=h _
noncomputable def PA(X:Cx)(es:JP KI)(t:TA):Prop:=
 ∀(pos:Pos) (pins:JP (JR×Obj)) (s:JZ) (σ:St) (H:Hp) (Q:JP V->Hp->Prop),Inv X pins σ H s->t σ H Q->Kq (Ko X.prog X.w) X.A (spliced (Mh pos (KA es X.env))) (AP X pins σ Q) X.xe s
noncomputable def PS(X:Cx)(st:K0)(t:TS):Prop:=
 ∀(pins:JP (JR×Obj)) (s:JZ) (σ:St) (H:Hp) (D:Ends),Inv X pins σ H s->t D σ H->Kq (Ko X.prog X.w) X.A (exec st X.env) (SP X pins D) X.xe s
noncomputable def cH(X:Cx)(st:JP K0)(t:TS):Prop:=
 ∀(pins:JP (JR×Obj)) (s:JZ) (σ:St) (H:Hp) (D:Ends),Inv X pins σ H s->t D σ H->Kq (Ko X.prog X.w) X.A (execs st X.env) (SP X pins D) X.xe s
theorem cv{α:Type}{t:Sem α}{Q Q':α->JZ->Prop}{M:Model}{A:K4}{E:JT->JZ->Prop}{s:JZ}(h:Kq M A t Q E s)(hQ:∀ a s,Q a s->Q' a s):Kq M A t Q' E s:=KY h hQ λ_ _ x=>x
section
variable {X : Cx}
noncomputable def zV(i:Nat):TE:=λσ H Q=>∃ v,σ[i]? =some (some v)/\Q v H
noncomputable def tC(v:V):TE:=λ_ H Q=>Q v H
theorem CG{i:Nat}{x:Str}{pos:Pos}(hN:X.N[i]? =some x)(hv:rD X.env.scope x)(hd:(x==("__debug__":Str))=false:=by decide)(hcd:(x==("__classdict__":Str))=false:=by decide):PE X (.Name x pos) (zV i):=by
 intro pins s σ H Q I h;obtain⟨v,e,h⟩:=h;obtain⟨m,hn,hl⟩:=I.loc;obtain⟨u,r,l⟩:=hl i x v hN e hv;have fin:EP X pins σ Q u s:=⟨v,H,I,r,h⟩;rcases l with ⟨hk,hm⟩|⟨hk,c,U,J⟩
 ·exact wpAny_Name (wpAny_loadName_local I.ok.kind hk hn hm fin) hd
 ·rcases hk with hk|hk
  ·exact wpAny_Name (wpAny_loadName_cell I.ok.kind hk U J fin) hd
  ·exact wpAny_Name (wpAny_loadName_free I.ok.kind hk U J fin hcd) hd
theorem bZ{i j pos}:PE X (.Constant (.int i) j pos) (tC (.int i)):=λ_ _ _ H _ I h=>wpAny_Constant_int ⟨.int i,H,I.tok _,⟨_,rfl⟩,h⟩
theorem iq{b j pos}:PE X (.Constant (.bool b) j pos) (tC (.bl b)):=λ_ _ _ H _ I h=>Constant_bool ⟨.bl b,H,I,rfl,h⟩
theorem ib{j pos}:PE X (.Constant .none j pos) (tC .non):=λ_ _ _ H _ I h=>Constant_none ⟨.non,H,I,rfl,h⟩
theorem b8{x j pos}:PE X (.Constant (.str x) j pos) (tC (.str x)):=λ_ _ _ H _ I h=>NW ⟨.str x,H,I.tok _,⟨_,rfl⟩,h⟩
noncomputable def Gl(X:Cx)(x:Str):Prop:=X.env.kindOf x=some .globalImplicit
theorem jw{E:JT->JZ->Prop}{pins:JP (JR×Obj)}{s:JZ}{σ:St}{H:Hp}{x:Str}{u:JT}{pos:Pos}{Q:JT->JZ->Prop}(I:Inv X pins σ H s)(hg:Gl X x)(hm:X.mg x=some u)(h:Q u s)
  (hd:(x==("__debug__":Str))=false:=by decide):Kq (Ko X.prog X.w) X.A (eval (.Name x pos) X.env) Q E s:=
 NX I.ok.kind hg (Calls.loadGlobal_global (by rw[I.ok.glob];exact I.mod.glob.keeps I.bk) hm h) hd
theorem pG{E:JT->JZ->Prop}{pins:JP (JR×Obj)}{s:JZ}{σ:St}{H:Hp}{x:Str}{u:JT}{pos:Pos}{Q:JT->JZ->Prop}(I:Inv X pins σ H s)(hg:Gl X x)(hm:X.mg x=none)(hv:Lp x=some u)(h:Q u s)
  (hn:x≠"__name__":=by decide)(hd:(x==("__debug__":Str))=false:=by decide):Kq (Ko X.prog X.w) X.A (eval (.Name x pos) X.env) Q E s:=by
 obtain⟨J,h1,h2⟩:=I.mod.blt;exact NX I.ok.kind hg (Calls.loadGlobal_builtin (by rw[I.ok.glob];exact I.mod.glob.keeps I.bk) hm (by rw[I.ok.blt];exact h1.keeps I.bk) ((h2 x hn).trans hv) h) hd
theorem fH{x:Str}{v:V}{u:JT}{pos:Pos}(hg:Gl X x)(hm:X.mg x=some u)(r:RelV v u)(hd:(x==("__debug__":Str))=false:=by decide):PE X (.Name x pos) (tC v):=
 λ_ _ _ H _ I h=>jw I hg hm ⟨v,H,I,r,h⟩ hd
theorem lx{x:Str}{v:V}{u:JT}{pos:Pos}(hg:Gl X x)(hm:X.mg x=none)(hv:Lp x=some u)(r:RelV v u)(hn:x≠"__name__":=by decide)(hd:(x==("__debug__":Str))=false:=by decide):PE X (.Name x pos) (tC v):=
 λ_ _ _ H _ I h=>pG I hg hm hv ⟨v,H,I,r,h⟩ hn hd
variable {a b : KI} {ta tb : TE} {pos : Pos}
noncomputable def tB(t:TE):TT:=λσ H Q=>t σ H λx H1=>∃ c,x= .bl c/\Q c H1
theorem fZ{e:KI}{t:TE}(h:PE X e t)(he:∀ whole,isTrue e X.env whole=(do let v<-whole;standAt e.pos;OZ [v] (truthy v)):=by intro _;rfl):PT X e (tB t):=by
 intro pins s σ H Q I hw;refine isTrue_plain (cv (h pins s σ H _ I hw) λv s1 ⟨x,H1,J,r1,U⟩=>?_) (he _);obtain⟨d,rfl,q⟩:=U;cases r1;exact LD ⟨H1,J,q⟩
variable {tA tB' : TT} {rest : JP KI}
noncomputable def IZ(t u:TT):TT:=λσ H Q=>t σ H λc H1=>if c=true then u σ H1 Q else Q false H1
noncomputable def Ia(t u:TT):TT:=λσ H Q=>t σ H λc H1=>if c=true then Q true H1 else u σ H1 Q
noncomputable def G7(t:TT):TT:=λσ H Q=>t σ H λc H1=>Q (!c) H1
theorem gZ(ha:PT X a tA):PW X (.BoolOp .And [a] pos) tA:=by
 intro J pins s σ H Q I h;refine isTrue_and (cv (ha pins s σ H Q I h) λc s1 e=>?_);cases c with
 |true=>exact isTrue_and_nil e
 |false=>exact e
theorem ia(ha:PT X a tA):PW X (.BoolOp .Or [a] pos) tA:=by
 intro J pins s σ H Q I h;refine isTrue_or (cv (ha pins s σ H Q I h) λc s1 e=>?_);cases c with
 |false=>exact isTrue_or_nil e
 |true=>exact e
theorem g8(ha:PT X a tA)(hb:PW X (.BoolOp .And (b::rest) pos) tB'):PW X (.BoolOp .And (a::b::rest) pos) (IZ tA tB'):=by
 intro wh pins s σ H Q I h;refine isTrue_and (cv (ha pins s σ H _ I h) λc s1 ⟨H1,J,U⟩=>?_);cases c with
 |true=>exact hb wh pins s1 σ H1 Q J U
 |false=>exact⟨H1,J,U⟩
theorem gn(ha:PT X a tA)(hb:PW X (.BoolOp .Or (b::rest) pos) tB'):PW X (.BoolOp .Or (a::b::rest) pos) (Ia tA tB'):=by
 intro wh pins s σ H Q I h;refine isTrue_or (cv (ha pins s σ H _ I h) λc s1 ⟨H1,J,U⟩=>?_);cases c with
 |true=>exact⟨H1,J,U⟩
 |false=>exact hb wh pins s1 σ H1 Q J U
theorem gF(ha:PT X a tA):PT X (.UnaryOp .Not a pos) (G7 tA):=by
 intro pins s σ H Q I h;exact isTrue_not (ha pins s σ H (λc H1=>Q (!c) H1) I h)
noncomputable def Jq(ta tb:TE):TE:=λσ H Q=>ta σ H λx H1=>∃ c,x= .bl c/\if c=true then tb σ H1 Q else Q (.bl false) H1
noncomputable def JF(ta tb:TE):TE:=λσ H Q=>ta σ H λx H1=>∃ c,x= .bl c/\if c=true then Q (.bl true) H1 else tb σ H1 Q
noncomputable def Hh(ta:TE):TE:=λσ H Q=>ta σ H λx H1=>∃ c,x= .bl c/\Q (.bl (!c)) H1
theorem sx{op}{t:TE}(h:PE X a t):PE X (.BoolOp op [a] pos) t:=λpins s σ H Q I hw=>BoolOp_one (h pins s σ H Q I hw)
theorem zQ(ha:PE X a ta)(hb:PE X (.BoolOp .And (b::rest) pos) tb):PE X (.BoolOp .And (a::b::rest) pos) (Jq ta tb):=by
 intro pins s σ H Q I h;refine BoolOp_and (cv (ha pins s σ H _ I h) λv s1 ⟨x,H1,U,r1,J⟩=>?_);obtain⟨c,rfl,J⟩:=J;cases r1;refine LD ?_;cases c with
 |true=>exact hb pins s1 σ H1 Q U J
 |false=>exact⟨.bl false,H1,U,rfl,J⟩
theorem zK(ha:PE X a ta)(hb:PE X (.BoolOp .Or (b::rest) pos) tb):PE X (.BoolOp .Or (a::b::rest) pos) (JF ta tb):=by
 intro pins s σ H Q I h;refine BoolOp_or (cv (ha pins s σ H _ I h) λv s1 ⟨x,H1,U,r1,J⟩=>?_);obtain⟨c,rfl,J⟩:=J;cases r1;refine LD ?_;cases c with
 |false=>exact hb pins s1 σ H1 Q U J
 |true=>exact⟨.bl true,H1,U,rfl,J⟩
theorem xJ(ha:PE X a ta):PE X (.UnaryOp .Not a pos) (Hh ta):=by
 intro pins s σ H Q I h;refine UnaryOp_ (cv (ha pins s σ H _ I h) λv s1 ⟨x,H1,U,r1,J⟩=>?_);obtain⟨c,rfl,J⟩:=J;cases r1;exact not_of (LD ⟨.bl (!c),H1,U,rfl,J⟩)
noncomputable def DI(t:TT)(ta tb:TE):TE:=λσ H Q=>t σ H λc H1=>if c=true then ta σ H1 Q else tb σ H1 Q
theorem ji{c:KI}(hc:PT X c tA)(ha:PE X a ta)(hb:PE X b tb):PE X (.IfExp c a b pos) (DI tA ta tb):=by
 intro pins s σ H Q I h;refine wpAny_IfExp (cv (hc pins s σ H _ I h) λd s1 ⟨H1,J,U⟩=>?_);cases d with
 |true=>exact ha pins s1 σ H1 Q J U
 |false=>exact hb pins s1 σ H1 Q J U
end
noncomputable def ck(K:Kl)(H:Hp)(a:JR)(xs:JP V):Prop:=
 Rd H a (.lst xs)\/
  ∃(o:Obj) (J:MM JT) (n:Nat),K.lookup a=some o/\o.cls= .type "list"/\o.dict=none/\o.data= .seq J n/\J.size<=sizeLine/\Vals xs J.toList
noncomputable def cu(K:Kl)(H:Hp)(a:JR)(xs:JP V):Prop:=
 Rd H a (.tup xs)\/
  ∃(o:Obj) (J:MM JT) (n:Nat),K.lookup a=some o/\o.cls= .type "tuple"/\o.data= .seq J n/\J.size<=sizeLine/\Vals xs J.toList
noncomputable def GV:JT->JW V
 |.none=>some .non
 |.bool b=>some (.bl b)
 |.int i _=>some (.int i)
 |.str x _=>some (.str x)
 |.bytes b _=>some (.byt b)
 |.float b _=>some (.flt b)
 |.ref a=>some (.ref a)
 |.type n=>some (.ty n)
 |_=>none
theorem RelV.abs {x:V}{u:JT}(r:RelV x u):GV u=some x:=by
 cases x with
 |non=>cases r;rfl
 |bl _=>cases r;rfl
 |int _=>obtain⟨t,rfl⟩:=r;rfl
 |str _=>obtain⟨t,rfl⟩:=r;rfl
 |byt _=>obtain⟨t,rfl⟩:=r;rfl
 |flt _=>obtain⟨t,rfl⟩:=r;rfl
 |ref _=>cases r;rfl
 |ty _=>cases r;rfl
theorem RelV.inj {x y:V}{u:JT}(r:RelV x u)(q:RelV y u):x=y:=Kg (r.abs.symm.trans q.abs)
theorem Vals.inj:∀{xs ys:JP V} {us:JP JT},Vals xs us->Vals ys us->xs=ys
 |_,_,_,.nil,.nil=>rfl
 |_,_,_,.cons r t,.cons J t'=>by rw[r.inj J,Vals.inj t t']
section
variable {X : Cx} {pins : JP (JR × Obj)} {σ : St} {H : Hp} {s : JZ} {a : JR} {xs ys : JP V}
theorem ck.of {K:Kl}(h:H a=some (.lst xs)):ck K H a xs:= .inl (.inl h)
theorem cu.of {K:Kl}(h:H a=some (.tup xs)):cu K H a xs:= .inl (.inl h)
theorem Inv.list (I:Inv X pins σ H s)(h:ck X.K H a xs):∃ its:JP JT,Vals xs its/\PlainL s.heap a its.toArray/\xs.length<=sizeLine:=by
 rcases h with h|⟨o,its,n,hk,J,hd,U,hz,r⟩
 ·obtain⟨z,its,n,r,e⟩:=h.ok I.hok;exact⟨its,r,⟨_,n,e,rfl,rfl,rfl⟩,z⟩
 ·refine⟨its.toList,r,⟨o,n,I.kIn a o hk,J,hd,by simpa using U⟩,?_⟩;have e:=r.length;simp only[Array.length_toList] at e;omega
theorem Inv.tuple (I:Inv X pins σ H s)(h:cu X.K H a xs):∃ its:JP JT,Vals xs its/\IsTup s.heap a its.toArray/\xs.length<=sizeLine:=by
 rcases h with h|⟨o,its,n,hk,J,U,hz,r⟩
 ·obtain⟨z,its,r,p⟩:=h.ok I.hok;exact⟨its,r,p,z⟩
 ·refine⟨its.toList,r,⟨o,I.kIn a o hk,J,n,by simpa using U⟩,?_⟩;have e:=r.length;simp only[Array.length_toList] at e;omega
theorem Inv.list_inj (I:Inv X pins σ H s)(h:ck X.K H a xs)(h':ck X.K H a ys):xs=ys:=by
 obtain⟨J,r,⟨o,n,e,_,_,d⟩,_⟩:=I.list h;obtain⟨its',r',⟨o',n',U,_,_,d'⟩,_⟩:=I.list h';rw[e] at U;cases U;rw[d] at d';injection d' with d1 _;have:J=its':=by simpa using K9 Array.toList d1
 subst this;exact r.inj r'
theorem Inv.tuple_inj (I:Inv X pins σ H s)(h:cu X.K H a xs)(h':cu X.K H a ys):xs=ys:=by
 obtain⟨J,r,⟨o,e,_,n,d⟩,_⟩:=I.tuple h;obtain⟨its',r',⟨o',U,_,n',d'⟩,_⟩:=I.tuple h';rw[e] at U;cases U;rw[d] at d';injection d' with d1 _;have:J=its':=by simpa using K9 Array.toList d1
 subst this;exact r.inj r'
end
noncomputable abbrev Cx.wish (X:Cx)(E:JT->JZ->Prop):Cx:={X with xe:=E}
noncomputable abbrev Cx.nox (X:Cx):Cx:=X.wish λ_ _=>LG
theorem Cx.Ok.wish {X:Cx}(ok:X.Ok)(E:JT->JZ->Prop):(X.wish E).Ok:=
 ⟨ok.mod,ok.kind,ok.glob,ok.blt,ok.above,ok.inj,ok.has,ok.cab,ok.hd,ok.frames,ok.stk,ok.exf,ok.bs,ok.bsz,ok.noex,ok.exfs,ok.funs,ok.frf⟩
theorem Cx.Ok.unwish {X:Cx}{E:JT->JZ->Prop}(ok:(X.wish E).Ok):X.Ok:=
 ⟨ok.mod,ok.kind,ok.glob,ok.blt,ok.above,ok.inj,ok.has,ok.cab,ok.hd,ok.frames,ok.stk,ok.exf,ok.bs,ok.bsz,ok.noex,ok.exfs,ok.funs,ok.frf⟩
section
variable {X : Cx} {pins : JP (JR × Obj)} {σ : St} {H : Hp} {s : JZ} {E : JT -> JZ -> Prop}
theorem Inv.wish (I:Inv X pins σ H s)(E:JT->JZ->Prop):Inv (X.wish E) pins σ H s:=⟨I.ok.wish E,I.os,I.bare,I.base,I.loc,I.cell,I.free,I.freeC,I.pin,I.hok,I.len⟩
theorem Inv.unwish (I:Inv (X.wish E) pins σ H s):Inv X pins σ H s:=⟨I.ok.unwish,I.os,I.bare,I.base,I.loc,I.cell,I.free,I.freeC,I.pin,I.hok,I.len⟩
theorem SP.unwish {D:Ends}{f:Flow}{s':JZ}(h:SP (X.wish E) pins D f s'):SP X pins D f s':=by
 cases f with
 |next=>obtain⟨J,H',I,q⟩:=h;exact⟨J,H',I.unwish,q⟩
 |brk=>obtain⟨J,H',I,q⟩:=h;exact⟨J,H',I.unwish,q⟩
 |cont=>obtain⟨J,H',I,q⟩:=h;exact⟨J,H',I.unwish,q⟩
 |ret u=>obtain⟨v,J,H',I,r,q⟩:=h;exact⟨v,J,H',I.unwish,r,q⟩
theorem cH.nox {st:JP K0}{t:TS}(h:cH X.nox st t):cH X st t:=λpins s σ H D I hw=>
 KY (h pins s σ H D (I.wish _) hw) (λ_ _ q=>q.unwish) λ_ _ z=>La z
end
section
variable {X : Cx} {st : K0} {rest : JP K0} {t u : TS} {e : KI} {te : TE} {pos : Pos}
noncomputable def G2:TS:=λD σ H=>D.nx σ H
noncomputable def jV(t u:TS):TS:=λD σ H=>t {D with nx:=u D} σ H
theorem cY:cH X [] G2:=λ_ _ σ H _ I h=>Nb ⟨σ,H,I,h⟩
theorem b9(h1:PS X st t)(h2:cH X rest u):cH X (st::rest) (jV t u):=by
 intro pins s σ H D I h;refine M4 (cv (h1 pins s σ H {D with nx:=u D} I h) λf s1 q=>?_);cases f with
 |next=>
  obtain⟨J,H',U,q⟩:=q;exact h2 pins s1 J H' D U q
 |ret v=>exact q
 |brk=>exact q
 |cont=>exact q
theorem b5(h1:PS X st t):cH X [st] t:=by
 intro pins s σ H D I h;refine M4 (cv (h1 pins s σ H D I h) λf s1 q=>?_);cases f with
 |next=>exact Nb q
 |ret v=>exact q
 |brk=>exact q
 |cont=>exact q
theorem Inv.quiet {pins:JP (JR×Obj)}{σ:St}{H:Hp}{s:JZ}(I:Inv X pins σ H s):interactive X.env=false:=by simp[interactive,I.ok.kind]
noncomputable def Gv(te:TE):TS:=λD σ H=>te σ H λ_ H1=>D.nx σ H1
theorem e7(he:PE X e te)(hs:Ol e none pos.line X.env=pure false:=by rfl):PS X (.Expr e pos) (Gv te):=by
 intro pins s σ H D I h;exact wpAny_Expr_any (cv (he pins s σ H _ I h) λv s1 ⟨x,H1,J,r1,U⟩=>⟨σ,H1,J,U⟩) I.quiet hs
noncomputable def Eu(te:TE):TS:=λD σ H=>te σ H D.rt
theorem cy(he:PE X e te):PS X (.Return (some e) pos) (Eu te):=by
 intro pins s σ H D I h;exact wpAny_Return_some (cv (he pins s σ H _ I h) λv s1 ⟨x,H1,J,r1,U⟩=>⟨x,σ,H1,J,r1,U⟩)
noncomputable def FE(c:TT)(t u:TS):TS:=λD σ H=>c σ H λb H1=>if b=true then t D σ H1 else u D σ H1
theorem cM{c:KI}{a b:JP K0}{tc:TT}(hc:PT X c tc)(ha:cH X a t)(hb:cH X b u):PS X (.If c a b pos) (FE tc t u):=by
 intro pins s σ H D I h;refine wpAny_If (cv (hc pins s σ H _ I h) λd s1 ⟨H1,J,U⟩=>?_);cases d with
 |true=>exact ha pins s1 σ H1 D J U
 |false=>exact hb pins s1 σ H1 D J U
noncomputable def HQ:TS:=λ_ _ _=>LG
theorem pK{sts:JP K0}:cH X sts HQ:=λ_ _ _ _ _ _ h=>h.elim
end
noncomputable abbrev TG:=V->St->Hp->(St->Hp->Prop)->Prop
noncomputable abbrev mG:=JP V->St->Hp->(St->Hp->Prop)->Prop
noncomputable def PG(X:Cx)(target:KI)(t:TG):Prop:=
 ∀(pins:JP (JR×Obj)) (s:JZ) (σ:St) (H:Hp) (v:V) (u:JT) (Q:St->Hp->Prop),Inv X pins σ H s->RelV v u->t v σ H Q->
  Kq (Ko X.prog X.w) X.A (assign target X.env u) (λ_ s'=>∃ J H',Inv X pins J H' s'/\Q J H') X.xe s
noncomputable def cT(X:Cx)(ts:JP KI)(t:mG):Prop:=
 ∀(pins:JP (JR×Obj)) (s:JZ) (σ:St) (H:Hp) (vs:JP V) (us:JP JT) (Q:St->Hp->Prop),Inv X pins σ H s->Vals vs us->t vs σ H Q->
  Kq (Ko X.prog X.w) X.A (MG ((NY ts X.env).map (·.2)) us) (λ_ s'=>∃ J H',Inv X pins J H' s'/\Q J H') X.xe s
noncomputable abbrev uO:=V->V->V->Hp->(Hp->Prop)->Prop
noncomputable def xo(X:Cx)(t:uO):Prop:=
 ∀(pins:JP (JR×Obj)) (s:JZ) (σ:St) (H:Hp) (o i v:V) (J U u:JT) (Q:Hp->Prop),Inv X pins σ H s->RelV o J->RelV i U->RelV v u->t o i v H Q->
  Kq (Ko X.prog X.w) X.A (setItem J U u) (λ_ s'=>∃ H',Inv X pins σ H' s'/\Q H') X.xe s
noncomputable abbrev tG:=V->V->Hp->VK->Prop
noncomputable def Af(X:Cx)(op:O5)(t:tG):Prop:=
 ∀(pins:JP (JR×Obj)) (s:JZ) (σ:St) (H:Hp) (x y:V) (v u:JT) (Q:VK),Inv X pins σ H s->RelV x v->RelV y u->t x y H Q->
  Kq (Ko X.prog X.w) X.A (inplaceOp op v u) (EP X pins σ Q) X.xe s
section
variable {X : Cx} {pos : Pos}
noncomputable def hV(i:Nat):TG:=λv σ H Q=>Q (σ.set i (some v)) H
theorem eX{i:Nat}{x:Str}(hN:X.N.Nodup)(hi:X.N[i]? =some x)(hx:Loc X.env.scope x)(hf:X.fn x=true\/X.env.scope.names.lookup x=some .local:=by first|exact .inl rfl|exact .inr rfl|assumption):PG X (.Name x pos) (hV i):=by
 intro pins s σ H v u Q I r h;exact wpAny_assign_Name (iR I hN hi hx r (λs' J=>⟨_,H,J,h⟩) hf)
noncomputable def FD:mG:=λvs σ H Q=>vs=[]/\Q σ H
noncomputable def Ft(t:TG)(u:mG):mG:=λvs σ H Q=>∃ v r,vs=v::r/\t v σ H λJ H'=>u r J H' Q
theorem qm:cT X [] FD:=by
 intro pins s σ H vs us Q I r h;obtain⟨e,h⟩:=h;subst e;cases r;exact Nh ⟨σ,H,I,h⟩
theorem iN{e:KI}{es:JP KI}{t:TG}{u:mG}(h1:PG X e t)(h2:cT X es u)
  (hs:(NY (e::es) X.env).map (·.2)=assign e X.env::(NY es X.env).map (·.2):=by rfl):cT X (e::es) (Ft t u):=by
 intro pins s σ H vs us Q I r h;obtain⟨v,vr,U,h⟩:=h;subst U;cases r with
 |cons r rr=>
  rw[hs];refine LH (cv (h1 pins s σ H _ _ _ I r h) λ_ s1 ⟨J,H1,I1,q1⟩=>?_);exact h2 pins s1 J H1 _ _ Q I1 rr q1
noncomputable def BW(K:Kl)(n:Nat)(t:mG):TG:=λv σ H Q=>∃ a xs,v= .ref a/\cu K H a xs/\xs.length=n/\t xs σ H Q
theorem qA{es:JP KI}{k:Nat}{t:mG}{n:Nat}(hc:X.calm=true)(h:cT X es t)
  (hn:(NY es X.env).length=n:=by rfl)(hst:(NY es X.env).findIdx? (·.1)=none:=by rfl):PG X (.Tuple es k pos) (BW X.K n t):=by
 intro pins s σ H v u Q I r hw;obtain⟨a,xs,U,hq,hl,hw⟩:=hw;subst U;cases r;obtain⟨aa,J,ht,hz⟩:=I.tuple hq;refine assign_Tuple_tuple (I.ok.hd hc) ht (by simp[hn,<-hl,J.length]) hst λh' hx=>?_
 have I1:Inv X pins σ H {s with heap:=h'}:=I.kept (t':=s.toks) λb o e=>hx b o (Kr (Kb e)) e
 exact h pins _ σ H xs _ Q I1 (by simpa using J) hw
noncomputable def Fv(to ti:TE)(t:uO):TG:=λv σ H Q=>to σ H λo H1=>ti σ H1 λi H2=>t o i v H2 λJ=>Q σ J
theorem Fo{o i:KI}{to ti:TE}{t:uO}(ho:PE X o to)(hi:PE X i ti)(hs:xo X t)
  (ha:∀ v,assign (.Subscript o i pos) X.env v=(do
   let ov<-OZ [v] (eval o X.env)
   let iv<-OZ [v,ov] (eval i X.env)
   standAt pos
   OZ [v,ov,iv] (setItem ov iv v)
   release [v,ov,iv] []):=by intro _;rfl):PG X (.Subscript o i pos) (Fv to ti t):=by
 intro pins s σ H v u Q I r h;rw[ha];refine J8 (wpAny_holding (cv (ho pins s σ H _ I h) λov s1 ⟨x,H1,J,r1,U⟩=>?_));refine J8 (wpAny_holding (cv (hi pins s1 σ H1 _ J U) λiv s2 ⟨y,H2,I2,r2,q2⟩=>?_));refine J8 (MH (J8 (wpAny_holding (cv (hs pins s2 σ H2 x y v ov iv u _ I2 r1 r2 r q2) λ_ s3 ⟨H3,I3,q3⟩=>?_))));exact wpAny_release ⟨σ,H3,I3,q3⟩
noncomputable def qI(te:TE)(g:TG):TS:=λD σ H=>te σ H λx H1=>g x σ H1 D.nx
theorem vq{tg e:KI}{te:TE}{g:TG}(he:PE X e te)(hg:PG X tg g)(hs:Of [tg] e pos.line X.env=pure false:=by rfl)(hw:Og [tg] e X.env=pure none:=by rfl)
  (h1:(NY [tg] X.env).map (·.2)=[assign tg X.env]:=by rfl):PS X (.Assign [tg] e pos) (qI te g):=by
 intro pins s σ H D I h;refine wpAny_Assign_stores (cv (he pins s σ H _ I h) λv s1 ⟨x,H1,J,r1,U⟩=>?_) hs hw;rw[h1];exact cv (hg pins s1 σ H1 x v _ J r1 U) λ_ s2 q=>q
theorem cZ{i:Nat}{x:Str}{e:KI}{te:TE}{pos':Pos}(hN:X.N.Nodup)(hi:X.N[i]? =some x)(hx:Loc X.env.scope x)(he:PE X e te)(hs:Ol e (some (.Name x pos')) pos.line X.env=pure false:=by rfl)(hf:X.fn x=true\/X.env.scope.names.lookup x=some .local:=by first|exact .inl rfl|exact .inr rfl|assumption):
  PS X (.Assign [.Name x pos'] e pos) (qI te (hV i)):=by
 intro pins s σ H D I h;refine N8 (cv (he pins s σ H _ I h) λv s1 ⟨y,H1,J,r1,U⟩=>?_) hs;exact iR J hN hi hx r1 (λs2 I2=>⟨_,H1,I2,U⟩) hf
noncomputable def zd(i j:Nat)(ta:TA):TS:=λD σ H=>ta σ H λvs H1=>∃ v w,vs=[v,w]/\D.nx ((σ.set i (some v)).set j (some w)) H1
theorem A3{i j:Nat}{x y:Str}{a b:KI}{ta:TA}{px py pt:Pos}{kt k2 pt2}(hc:X.calm=true)(hN:X.N.Nodup)(hi:X.N[i]? =some x)(hj:X.N[j]? =some y)(hij:i≠j)
  (hx:X.env.scope.names.lookup x=some .local)(hy:X.env.scope.names.lookup y=some .local)(ha:PA X [a,b] ta)
  (hw:Og [.Tuple [.Name x px,.Name y py] kt pt] (.Tuple [a,b] k2 pt2) X.env=pure (some [x,y]))
  (hs:Of [.Tuple [.Name x px,.Name y py] kt pt] (.Tuple [a,b] k2 pt2) pos.line X.env=pure false:=by rfl):
  PS X (.Assign [.Tuple [.Name x px,.Name y py] kt pt] (.Tuple [a,b] k2 pt2) pos) (zd i j ta):=by
 intro pins s σ H D I h;rw[OH];refine J8 (MH ?_);rw[hs];refine J8 (KN ?_);rw[if_neg (by decide)];refine J8 (Tuple_ (cv (ha _ pins s σ H _ I h) λus s1 ⟨vs,H1,I1,r1,q1⟩=>?_));obtain⟨v,w,e1,q1⟩:=q1;subst e1;obtain⟨J,U,rfl,rv,aa⟩:∃ J U,us=[J,U]/\RelV v J/\RelV w U:=by
  cases r1 with
  |cons p q=>
   cases q with
   |cons p' q'=>
    cases q';exact⟨_,_,rfl,p,p'⟩
 refine MN ?_ (by show 2<=sizeLine;decide);have I2:Inv X pins σ H1 {s1 with heap:=s1.heap.push {cls:= .type "tuple",data:= .seq [J,U].toArray}}:=I1.kept (t':=s1.toks) λb o e=>Heap.get?_push_of_some _ e
 rw[hw];refine J8 (KN ?_);show Kq (Ko X.prog X.w) X.A (do rule "assign.swapped-stores";let items<-unpackItems (.ref s1.heap.objs.size) 2 none;MG [λv=>Mm X.env y v,λv=>Mm X.env x v] items.reverse;pure Om) _ _ _;refine J8 (wpAny_rule (J8 (N9 (items:=#[J,U]) (I.ok.hd hc) (IsTup.new s1.heap _) λh' ab=>?_)));have I3:=I2.kept (h':=h') (t':=s1.toks) λb o e=>ab b o (Kr (Kb e)) e
 show Kq _ _ (MG [λv=>Mm X.env y v,λv=>Mm X.env x v] [U,J] >>= λ_=>pure Om) _ _ _;refine J8 (LH (Mn (iR I3 hN hj (.inl hy) aa (λs2 I4=>?_) (.inr hy))));refine LH (Mn (iR I4 hN hi (.inl hx) rv (λs3 I5=>Nh (KN ?_)) (.inr hx)));rw[Ny _ _ (K5 hij)] at I5;exact⟨_,H1,I5,q1⟩
noncomputable def CI(i:Nat)(te:TE)(ti:tG):TS:=λD σ H=>∃ x,σ[i]? =some (some x)/\te σ H λy H1=>ti x y H1 λz H2=>D.nx (σ.set i (some z)) H2
theorem zA{i:Nat}{x:Str}{e:KI}{te:TE}{op:O5}{ti:tG}{pos':Pos}(hN:X.N.Nodup)(hi:X.N[i]? =some x)(hx:Loc X.env.scope x)(he:PE X e te)(ho:Af X op ti)(hf:X.fn x=true\/X.env.scope.names.lookup x=some .local:=by first|exact .inl rfl|exact .inr rfl|assumption):
  PS X (.AugAssign (.Name x pos') op e pos) (CI i te ti):=by
 intro pins s σ H D I h;obtain⟨v,e1,h⟩:=h;obtain⟨m,hn,hl⟩:=I.loc;have ab:rD X.env.scope x:=by rcases hx with k|k;exact .inl k;exact .inr (.inl k)
 obtain⟨u,r,l⟩:=hl i x v hi e1 ab;refine wpAny_AugAssign_Name ?_;have go:Kq (Ko X.prog X.w) X.A (eval e X.env) (λw U=>Kq (Ko X.prog X.w) X.A (inplaceOp op u w) (λr aa=>Kq (Ko X.prog X.w) X.A (storeName X.env x r) (λ_=>SP X pins D .next) X.xe aa) X.xe U) X.xe s:=by
  refine cv (he pins s σ H _ I h) λw s1 ⟨y,H1,I1,r1,q1⟩=>?_
  refine cv (ho pins s1 σ H1 v y u w _ I1 r r1 q1) λz s2 ⟨zv,H2,I2,r2,q2⟩=>?_
  exact iR I2 hN hi hx r2 (λs3 I3=>⟨_,H2,I3,q2⟩) hf
 rcases l with ⟨hk,hm⟩|⟨hk,c,hc,J⟩
 ·exact wpAny_loadName_local I.ok.kind hk hn hm go
 ·rcases hk with hk|hk
  ·exact wpAny_loadName_cell I.ok.kind hk hc J go
  ·rcases hx with k|k
   ·have:X.env.scope.names.lookup x=some .free:=hk;rw[k] at this;cases this
   ·have:X.env.scope.names.lookup x=some .free:=hk;rw[k] at this;cases this
noncomputable def Fu(f:Int->Int->Int):tG:=λx y H Q=>∃ i j,x= .int i/\y= .int j/\Q (.int (f i j)) H
theorem yX:Af X .Add (Fu λi j=>i+j):=by
 intro pins s σ H x y v u Q I r1 r2 h;obtain⟨i,j,J,U,q⟩:=h;subst J;subst U;obtain⟨t,rfl⟩:=r1;obtain⟨t',rfl⟩:=r2;exact iadd_int ⟨.int _,H,I.tok _,⟨_,rfl⟩,q⟩
noncomputable def vZ(c:TT)(tb:TS):TS:=λD σ H=>∃ W:Nat->St->Hp->Prop,(∃ m,W m σ H)/\∀ m σ H,W m σ H->
 c σ H λb H1=>if b=true then ∃ N:St->Hp->Prop,(∀ J H',N J H'->∃ U,U<m/\W U J H')/\tb {D with nx:=N,ct:=N,bk:=D.nx} σ H1 else D.nx σ H1
theorem jZ{c:KI}{body:JP K0}{tc:TT}{tb:TS}(hp:PassesOwn (Ko X.prog X.w) X.A X.env X.xe)(hc:PT X c tc)(hb:cH X body tb):PS X (.While c body [] pos) (vZ tc tb):=by
 intro pins s σ H D I h;obtain⟨W,⟨m0,w0⟩,turn⟩:=h;refine wpAny_While (codeAny_whileLoop (λn s'=>∃ aa H',Inv X pins aa H' s'/\W n aa H') ?_ m0 ⟨σ,H,I,w0⟩);rintro n s1 ⟨U,H1,I1,w1⟩;refine Mb hp (cv (hc pins s1 U H1 _ I1 (turn n U H1 w1)) λb s2 ⟨H2,I2,q2⟩=>?_);cases b with
 |true=>
  obtain⟨N,hN,q2⟩:=q2;rw[J1 rfl];refine Mb hp (cv (hb pins s2 U H2 _ I2 q2) λf s3 q3=>?_);cases f with
  |next=>
   obtain⟨J,H3,I3,n3⟩:=q3;obtain⟨m',hm,w3⟩:=hN J H3 n3;exact⟨m',hm,J,H3,I3,w3⟩
  |cont=>
   obtain⟨J,H3,I3,n3⟩:=q3;obtain⟨m',hm,w3⟩:=hN J H3 n3;exact⟨m',hm,J,H3,I3,w3⟩
  |brk=>exact q3
  |ret v=>exact q3
 |false=>
  rw[if_neg J3];exact Nb ⟨U,H2,I2,q2⟩
end
structure It where
 go : Nat -> Hp -> Prop
 yld : Nat -> Hp -> V -> Hp -> Prop
 stop : Nat -> Hp -> Prop
noncomputable def iy(X:Cx)(pins:JP (JR×Obj))(H:Hp)(b:JR):Prop:=
 H b=none/\b≠X.env.locals/\b∉X.fs/\(b∈X.ex\/X.s₀.heap.objs.size<=b)/\(∀ x c,X.env.cells.lookup x=some c->c≠b)/\∀ p∈X.pn++pins,p.1≠b
theorem Inv.fpOk {X:Cx}{pins:JP (JR×Obj)}{σ:St}{H H':Hp}{s:JZ}{b:JR}(I:Inv X pins σ H s)(hb:s.heap.objs.size<=b)(hn:H' b=none):iy X pins H' b:=by
 refine⟨hn,OA (Km I.lt hb),I.nofs hb,.inr (Kj I.sz hb),λx c e z=>?_,λp hp z=>?_⟩
 ·obtain⟨v,q⟩:=I.cell x c e;exact absurd (Km q.lt (by rw[z];exact hb)) (Kw _)
 ·exact absurd (Km (Kb (I.pin p hp).1) (by rw[z];exact hb)) (Kw _)
structure Turn (P : Ka) (w : Ku) (K : Kl) (tg : KI) (J : It) (fp : JP JR) (it : JR) (tn : Nat -> KP -> Prop) : Prop where
 mem : it ∈ fp
 obj : ∀ i h, tn i h -> ∀ b ∈ fp, ∃ o, h.get? b = some o /\ ∀ v, o.data ≠ .cell v
 keep : ∀ i h h', tn i h -> (∀ b ∈ fp, ∀ o, h.get? b = some o -> h'.get? b = some o) -> tn i h'
 item : ∀ (X : Cx), X.prog = P -> X.w = w -> X.K = K -> X.calm = true -> ∀ (i : Nat) (pins : JP (JR × Obj)) (s : JZ) (σ : St) (H : Hp) (E : JT -> JZ -> Prop), Inv X pins σ H s -> (∀ b ∈ fp, iy X pins H b) -> tn i s.heap -> J.go i H ->
  Kq (Ko P w) X.A (pyNext (.ref it)) (λr s1 => ∃ u, r = some u /\
   Kq (Ko P w) X.A (Nc tg (.ref it) u) (λ_ s2 => ∃ x H', Inv X pins σ H' s2 /\ RelV x u /\ J.yld i H x H' /\ tn (i+1) s2.heap /\ ∀ b ∈ fp, H' b = none) E s1) E s
 done : ∀ (X : Cx), X.prog = P -> X.w = w -> X.K = K -> X.calm = true -> ∀ (i : Nat) (pins : JP (JR × Obj)) (s : JZ) (σ : St) (H : Hp) (E : JT -> JZ -> Prop), Inv X pins σ H s -> (∀ b ∈ fp, iy X pins H b) -> tn i s.heap -> J.stop i H ->
  Kq (Ko P w) X.A (pyNext (.ref it)) (λr s1 => r = none /\ Inv X pins σ H s1) E s
 self : ∀ (A : K4) (i : Nat) (s : JZ) (Q : JT -> JZ -> Prop) (E : JT -> JZ -> Prop), tn i s.heap -> Q (.ref it) s -> Kq (Ko P w) A (pyIter (.ref it)) Q E s
noncomputable abbrev TI:=St->Hp->(It->Hp->Prop)->Prop
noncomputable def z5(X:Cx)(pins:JP (JR×Obj))(σ:St)(tg:KI)(R:It->Hp->Prop)(itv:JT)(s2:JZ):Prop:=
 ∃(it:JR) (fp:JP JR) (U:Nat->KP->Prop) (J:It) (H':Hp),itv= .ref it/\Inv X pins σ H' s2/\Turn X.prog X.w X.K tg J fp it U/\U 0 s2.heap/\(∀ b∈fp,iy X pins H' b)/\R J H'
noncomputable def PI(X:Cx)(tg iter:KI)(wi:TI):Prop:=
 ∀(pins:JP (JR×Obj)) (s:JZ) (σ:St) (H:Hp) (R:It->Hp->Prop),Inv X pins σ H s->wi σ H R->
  Kq (Ko X.prog X.w) X.A (eval iter X.env) (λv s1=>Kq (Ko X.prog X.w) X.A (pyIter v) (z5 X pins σ tg R) X.xe s1) X.xe s
theorem sy {M : Model} {A : K4} {E : JT -> JZ -> Prop} {s : JZ} {tg : KI} {it : JR} {u : JT} {o : Obj} {n : Mx} {vs : MM JT} {Q : Unit -> JZ -> Prop} (ho : s.heap.get? it = some o) (hc : o.cls = .type n) (hd : o.data = .fields vs)
  (hn : ["enumerate", "zip", "dict_itemiterator", "dict_reverseitemiterator", "odict_iterator", "itertools.zip_longest", "itertools.pairwise"].contains n = false) (hQ : Q () s) : Kq M A (Nc tg (.ref it) u) Q E s := by
 unfold Nc
 cases tg <;> first
  |exact KN hQ
  |(cases u <;> first
    |exact KN hQ
    |(refine J8 (wpAny_load ho ?_)
       rw[hc, hd]
       show Kq M A (if (["enumerate", "zip", "dict_itemiterator", "dict_reverseitemiterator", "odict_iterator", "itertools.zip_longest", "itertools.pairwise"].contains n&&vs[0]? == some (rawInt _)) = true then _ else _) Q E s
       rw[if_neg (by intro h; rw[hn, NZ] at h; cases h)]
       exact KN hQ))
noncomputable def oM(K:Kl)(a:JR):It:=
 ⟨λi H=>∃ xs x,ck K H a xs/\xs[i]? =some x,λi H x H'=>H'=H/\∀ xs,ck K H a xs->xs[i]? =some x,λi H=>∃ xs,ck K H a xs/\xs.length<=i⟩
noncomputable def oF(K:Kl)(a:JR):It:=
 ⟨λi H=>∃ xs x,cu K H a xs/\xs[i]? =some x,λi H x H'=>H'=H/\∀ xs,cu K H a xs->xs[i]? =some x,λi H=>∃ xs,cu K H a xs/\xs.length<=i⟩
noncomputable def mU(lo:Int)(n:Nat):It:=⟨λi _=>i<n,λi H x H'=>H'=H/\x= .int (lo+i),λi _=>n<=i⟩
theorem Hy{P:Ka}{w:Ku}{K:Kl}{tg:KI}(a it:JR):Turn P w K tg (oM K a) [it] it (λi h=>h.IsListIter it a i) where
 mem:=by simp
 obj:=λi h st b hb=>by
  have e:b=it:=by simpa using hb
  subst e;obtain⟨o,e,c,d⟩:=st;exact⟨o,e,λv z=>by rw[d] at z;cases z⟩
 keep:=λi h h' st k=>st.at λo e=>k it (by simp) o e
 item:=by
  intro X hP hw hK hc i pins s σ H E I hf st hg;subst hP hw hK;obtain⟨xs,x,U,hx⟩:=hg;obtain⟨aa,rv,p,hz⟩:=I.list U;obtain⟨u,hu,ru⟩:=rv.get hx;obtain⟨f0,f1,f2,f3,f4,f5⟩:=hf it (by simp);refine wpAny_pyNext_list_item st p.isList (x:=u) (by simpa using hu) λh' J sb=>?_
  have I1:Inv X pins σ H {s with heap:=h'}:=I.turned (t':=s.toks) (λb o hb e=>(sb.2 b hb).trans e) f0 f1 f3 f4 f5;obtain⟨o,e,c,d⟩:=id J;exact⟨u,rfl,sy (s:={s with heap:=h'}) e c d (by decide) ⟨x,H,I1,ru,⟨rfl,λys hy=>by rw[I.list_inj hy U];exact hx⟩,J,λb hb=>(hf b hb).1⟩⟩
 done:=by
  intro X hP hw hK hc i pins s σ H E I hf st hg;subst hP hw hK;obtain⟨xs,U,hx⟩:=hg;obtain⟨aa,rv,p,hz⟩:=I.list U;obtain⟨f0,f1,f2,f3,f4,f5⟩:=hf it (by simp);have hl:=rv.length;exact wpAny_pyNext_list_end (I.ok.hd hc) st p.isList (by simp;omega) λh' eb=>⟨rfl,I.turned (t':=s.toks) (λb o hb e=>eb b o hb e) f0 f1 f3 f4 f5⟩
 self:=λ_ _ _ _ _ st h=>wpAny_pyIter_listiter st h
theorem BU{P:Ka}{w:Ku}{K:Kl}{tg:KI}(a it:JR):Turn P w K tg (oF K a) [it] it (λi h=>h.IsTupleIter it a i) where
 mem:=by simp
 obj:=λi h st b hb=>by
  have e:b=it:=by simpa using hb
  subst e;obtain⟨o,e,c,d⟩:=st;exact⟨o,e,λv z=>by rw[d] at z;cases z⟩
 keep:=λi h h' st k=>st.at λo e=>k it (by simp) o e
 item:=by
  intro X hP hw hK hc i pins s σ H E I hf st hg;subst hP hw hK;obtain⟨xs,x,hq,hx⟩:=hg;obtain⟨J,rv,p,hz⟩:=I.tuple hq;obtain⟨u,hu,ru⟩:=rv.get hx;obtain⟨f0,f1,f2,f3,f4,f5⟩:=hf it (by simp);refine wpAny_pyNext_tuple_item st (show s.heap.IsTuple a J.toArray from p) (x:=u) (by simpa using hu) λh' U sb=>?_
  have I1:Inv X pins σ H {s with heap:=h'}:=I.turned (t':=s.toks) (λb o hb e=>(sb.2 b hb).trans e) f0 f1 f3 f4 f5;obtain⟨o,e,c,d⟩:=id U;exact⟨u,rfl,sy (s:={s with heap:=h'}) e c d (by decide) ⟨x,H,I1,ru,⟨rfl,λys hy=>by rw[I.tuple_inj hy hq];exact hx⟩,U,λb hb=>(hf b hb).1⟩⟩
 done:=by
  intro X hP hw hK hc i pins s σ H E I hf st hg;subst hP hw hK;obtain⟨xs,hq,hx⟩:=hg;obtain⟨J,rv,p,hz⟩:=I.tuple hq;obtain⟨f0,f1,f2,f3,f4,f5⟩:=hf it (by simp);have hl:=rv.length;exact wpAny_pyNext_tuple_end (I.ok.hd hc) st (show s.heap.IsTuple a J.toArray from p) (by simp;omega) λh' eb=>⟨rfl,I.turned (t':=s.toks) (λb o hb e=>eb b o hb e) f0 f1 f3 f4 f5⟩
 self:=λ_ _ _ _ _ st h=>wpAny_pyIter_tupleiter st h
theorem Hm{P:Ka}{w:Ku}{K:J7}{tg:KI}(it:JR)(lo:Int)(n:Nat):Turn P w K tg (mU lo n) [it] it (λi h=>IsRangeIter h it (lo+(i:Nat)*1) ((n:Int)-(i:Nat)) 1) where
 mem:=by simp
 obj:=λi h st b hb=>by
  have e:b=it:=by simpa using hb
  subst e;exact⟨_,st,λv z=>by
   have z':Data.fields _=Data.cell v:=z;cases z'⟩
 keep:=λi h h' st k=>k it (by simp) _ st
 item:=by
  intro X U hw hK hc i pins s σ H E I hf st hg;subst U hw hK;obtain⟨f0,f1,f2,f3,f4,f5⟩:=hf it (by simp);have W:=Walks.range (prog:=X.prog) (w:=X.w) (I.ok.hd hc) it lo 1 n;refine W.item i s _ _ hg st λv h' tk hv J kk=>?_
  obtain⟨t,rfl⟩:=hv;have I1:Inv X pins σ H {s with heap:=h',toks:=tk}:=I.turned (λb o hb e=>kk b o (by simpa using hb) e) f0 f1 f3 f4 f5;refine⟨_,rfl,sy (s:={s with heap:=h',toks:=tk}) (n:="range_iterator") J rfl rfl (by decide) ⟨.int (lo+i),H,I1,⟨t,?_⟩,⟨rfl,rfl⟩,J,λb hb=>(hf b hb).1⟩⟩;rw[Int.mul_one]
 done:=by
  intro X U hw hK hc i pins s σ H E I hf st hg;subst U hw hK;obtain⟨f0,f1,f2,f3,f4,f5⟩:=hf it (by simp);exact wpAny_pyNext_range_end (I.ok.hd hc) st (by have:n<=i:=hg;omega) λh' eb=>⟨rfl,I.turned (t':=s.toks) (λb o hb e=>eb b o hb e) f0 f1 f3 f4 f5⟩
 self:=λ_ _ _ _ _ st h=>wpAny_pyIter_rangeiter st h
section
variable {X : Cx} {tg : KI}
noncomputable def IF(K:Kl)(tl:TE):TI:=λσ H R=>tl σ H λx H1=>∃ a,x= .ref a/\(∃ xs,ck K H1 a xs)/\R (oM K a) H1
noncomputable def Ic(K:Kl)(tl:TE):TI:=λσ H R=>tl σ H λx H1=>∃ a,x= .ref a/\(∃ xs,cu K H1 a xs)/\R (oF K a) H1
theorem oz{l:KI}{tl:TE}(hl:PE X l tl):PI X tg l (IF X.K tl):=by
 intro pins s σ H R I h;refine cv (hl pins s σ H _ I h) λv s1 ⟨x,H1,J,r1,U⟩=>?_
 obtain⟨a,e,⟨xs,hq⟩,q⟩:=U;subst e;cases r1;obtain⟨aa,rv,p,hz⟩:=J.list hq;refine Oa p.isList ?_;refine⟨s1.heap.objs.size,[s1.heap.objs.size],_,_,H1,rfl,J.kept (t':=s1.toks) λb o e=>Heap.get?_push_of_some _ e,Hy a _,⟨_,Heap.get?_push_size _ rfl,rfl,rfl⟩,λb hb=>?_,q⟩;have e:b=s1.heap.objs.size:=by simpa using hb
 subst e;exact J.fpOk (JY _) (J.hok.fresh (JY _))
theorem Ah{l:KI}{tl:TE}(hl:PE X l tl):PI X tg l (Ic X.K tl):=by
 intro pins s σ H R I h;refine cv (hl pins s σ H _ I h) λv s1 ⟨x,H1,J,r1,q1⟩=>?_
 obtain⟨a,e,⟨xs,hq⟩,q⟩:=q1;subst e;cases r1;obtain⟨U,rv,p,hz⟩:=J.tuple hq;refine wpAny_pyIter_tuple (show s1.heap.IsTuple a U.toArray from p) ?_;refine⟨s1.heap.objs.size,[s1.heap.objs.size],_,_,H1,rfl,J.kept (t':=s1.toks) λb o e=>Heap.get?_push_of_some _ e,BU a _,⟨_,Heap.get?_push_size _ rfl,rfl,rfl⟩,λb hb=>?_,q⟩;have e:b=s1.heap.objs.size:=by simpa using hb
 subst e;exact J.fpOk (JY _) (J.hok.fresh (JY _))
theorem Iu{pins:JP (JR×Obj)}{σ:St}{H:Hp}{s:JZ}{R:It->Hp->Prop}{E:JT->JZ->Prop}{lo hi:Int}{t u v:Tok}{tk:Nat}(I:Inv X pins σ H s)(h1: -(2 ^ 62)<=lo)(h2:lo<2 ^ 62)(h3: -(2 ^ 62)<=hi)(h4:hi<2 ^ 62)
  (q:R (mU lo (hi-lo).toNat) H):Kq (Ko X.prog X.w) X.A (pyIter (.ref s.heap.objs.size)) (z5 X pins σ tg R) E {s with heap:=s.heap.push {cls:= .type "range",data:= .fields #[.int lo t,.int hi u,.int 1 v]},toks:=tk}:=by
 refine wpAny_pyIter_range (IsRange.new ..) (small_one h1 h2 h3 h4) ?_;have J:Inv X pins σ H {s with heap:=s.heap.push {cls:= .type "range",data:= .fields #[.int lo t,.int hi u,.int 1 v]},toks:=tk}:=I.kept λb o e=>Heap.get?_push_of_some _ e
 refine⟨(s.heap.push {cls:= .type "range",data:= .fields #[.int lo t,.int hi u,.int 1 v]}).objs.size,[(s.heap.push {cls:= .type "range",data:= .fields #[.int lo t,.int hi u,.int 1 v]}).objs.size],_,_,H,rfl,
  J.kept (t':=tk) λb o e=>Heap.get?_push_of_some _ e,Hm _ lo (hi-lo).toNat,?_,λb hb=>?_,q⟩
 ·have U:lo+((0:Nat):Int)*1=lo:=by simp
  have e2:(((hi-lo).toNat:Nat):Int)-((0:Nat):Int)=Builtin.Range.rangeSize lo hi 1:=by rw[rangeSize_one];split<;>omega
  show IsRangeIter _ _ (lo+((0:Nat):Int)*1) ((((hi-lo).toNat:Nat):Int)-((0:Nat):Int)) 1;rw[U,e2];exact Heap.get?_push_size _ rfl
 ·have e:b=(s.heap.push {cls:= .type "range",data:= .fields #[.int lo t,.int hi u,.int 1 v]}).objs.size:=by simpa using hb
  subst e;exact J.fpOk (JY _) (J.hok.fresh (JY _))
noncomputable def Ik(ta:TA):TI:=λσ H R=>ta σ H λvs H1=>∃ j:Int,vs=[.int j]/\ -(2 ^ 62)<=j/\j<2 ^ 62/\R (mU 0 j.toNat) H1
theorem kZ{a:KI}{ta:TA}{p pos:Pos}(hg:Gl X "range")(hm:X.mg "range"=none)(ha:PA X [a] ta)(hs:KA [a] X.env=[(false,eval a X.env)]:=by rfl):PI X tg (.Call (.Name "range" p) [a] [] pos) (Ik ta):=by
 intro pins s σ H R I h;refine Call_ (pG I hg hm boot_range (MO (cv (ha pos pins s σ H _ I h) λus s1 ⟨vs,H1,U,r1,J⟩=>?_) hs rfl));obtain⟨j,e,J,q2,q⟩:=J;subst e;cases r1 with
 |cons r rr=>
  cases rr;obtain⟨t,rfl⟩:=r;exact call_range_1 (Iu U (by omega) (by omega) J q2 (by simpa using q))
noncomputable def Fj(wi:TI)(g:TG)(tb:TS):TS:=λD σ H=>wi σ H λJ H1=>∃ W:Nat->Nat->St->Hp->Prop,(∃ m,W 0 m σ H1)/\∀ i m σ H,W i m σ H->
 (J.stop i H/\D.nx σ H)\/(J.go i H/\∃ N:St->Hp->Prop,(∀ U H',N U H'->∃ m',m'<m/\W (i+1) m' U H')/\∀ x H',J.yld i H x H'->g x σ H' λI H2=>tb {D with nx:=N,ct:=N,bk:=D.nx} I H2)
noncomputable def nA(fp:JP JR)(h:KP):JP (JR×Obj):=fp.filterMap λb=>(h.get? b).map λo=>(b,o)
theorem oJ{fp:JP JR}{h:KP}{b:JR}{o:Obj}(hb:b∈fp)(e:h.get? b=some o):(b,o)∈nA fp h:=List.mem_filterMap.mpr ⟨b,hb,by rw[e];rfl⟩
theorem BJ{fp:JP JR}{h:KP}{p:JR×Obj}(hp:p∈nA fp h):p.1∈fp/\h.get? p.1=some p.2:=by
 obtain⟨b,hb,e⟩:=List.mem_filterMap.mp hp;cases q:h.get? b with
 |none=>rw[q] at e;cases e
 |some o=>
  rw[q] at e;have J:(b,o)=p:=Kg e;subst J;exact⟨hb,q⟩
theorem Inv.pinned {pins:JP (JR×Obj)}{σ:St}{H:Hp}{s:JZ}{fp:JP JR}(I:Inv X pins σ H s)(hf:∀ b∈fp,iy X pins H b)(ho:∀ b∈fp,∃ o,s.heap.get? b=some o/\∀ v,o.data≠ .cell v):Inv X (pins++nA fp s.heap) σ H s:=
 I.pins_of λp hp=>(List.mem_append.mp hp).elim (λz=>I.pin p (Ki _ z)) λz=>by
  obtain⟨hb,e⟩:=BJ z;obtain⟨f0,f1,f2,_⟩:=hf p.1 hb;obtain⟨o,J,d⟩:=ho p.1 hb;rw[e] at J;cases J;exact⟨e,f0,f1,f2,d⟩
theorem Inv.unpinned {pins pl:JP (JR×Obj)}{σ:St}{H:Hp}{s:JZ}(I:Inv X (pins++pl) σ H s):Inv X pins σ H s:=I.pins_of λp hp=>I.pin p (Ki _ (Ll _ hp))
theorem lF{iter:KI}{body:JP K0}{wi:TI}{g:TG}{tb:TS}{pos:Pos}(hp:PassesOwn (Ko X.prog X.w) X.A X.env X.xe)(hc:X.calm=true)(hi:PI X tg iter wi)(hg:PG X tg g)(hb:cH X body tb)
  (hs:∀ x,Me iter X.env x=pure x:=by intro _;rfl):PS X (.For tg iter body [] pos) (Fj wi g tb):=by
 intro pins s σ H D I h;refine wpAny_For (cv (hi pins s σ H _ I h) λv s1 h1=>cv h1 λaq s2 h2=>?_) hs;obtain⟨it,fp,tn,J,H2,e,I2,T,ai,f2,W,⟨m0,w0⟩,turn⟩:=h2;subst e;have aa:∀{H':Hp},(∀ b∈fp,H' b=none)->∀ b∈fp,iy X pins H' b:=λhn b hb=>⟨hn b hb,(f2 b hb).2⟩
 refine codeAny_forLoop_any (λn s'=>∃ i ab H',Inv X pins ab H' s'/\tn i s'.heap/\(∀ b∈fp,H' b=none)/\W i n ab H') ?_ m0 ⟨0,σ,H2,I2,ai,λb hb=>(f2 b hb).1,w0⟩;rintro n s3 ⟨i,ae,H3,I3,ag,ah,w3⟩;rcases turn i n ae H3 w3 with ⟨stop,qn⟩|⟨go,N,hN,step⟩
 ·refine Mb hp (cv (T.done X rfl rfl rfl hc i pins s3 ae H3 X.xe I3 (aa ah) ag stop) λr s4 ⟨hr,I4⟩=>?_);subst hr;exact Nb ⟨ae,H3,I4,qn⟩
 ·refine Mb hp (cv (T.item X rfl rfl rfl hc i pins s3 ae H3 X.xe I3 (aa ah) ag go) λr s4 ⟨u,hr,h4⟩=>?_);subst hr;refine Mb hp (cv h4 λ_ s5 ⟨x,H5,I5,r5,y5,af,aj⟩=>?_);have ak:=I5.pinned (aa aj) (T.obj _ _ af);refine Mb hp (cv (hg _ s5 ae H5 x u _ ak r5 (step x H5 y5)) λ_ s6 ⟨ao,H6,I6,q6⟩=>?_);refine Mb hp (cv (hb _ s6 ao H6 _ I6 q6) λf s7 q7=>?_);have again:∀{U:St} {H7:Hp},Inv X (pins++nA fp s5.heap) U H7 s7->N U H7->∃ m,m<n/\∃ i ab H',Inv X pins ab H' s7/\tn i s7.heap/\(∀ b∈fp,H' b=none)/\W i m ab H':=λ{U H7} I7 n7=>by
   obtain⟨m',hm,w7⟩:=hN U H7 n7;refine⟨m',hm,i+1,U,H7,I7.unpinned,T.keep _ _ _ af λb hb o e=>(I7.pin (b,o) (Ki _ (Ki _ (oJ hb e)))).1,λb hb=>?_,w7⟩;obtain⟨o,e,d⟩:=T.obj _ _ af b hb;exact(I7.pin (b,o) (Ki _ (Ki _ (oJ hb e)))).2.1
  cases f with
  |next=>obtain⟨U,H7,I7,n7⟩:=q7;exact again I7 n7
  |cont=>obtain⟨U,H7,I7,n7⟩:=q7;exact again I7 n7
  |brk=>obtain⟨U,H7,I7,q7⟩:=q7;exact⟨U,H7,I7.unpinned,q7⟩
  |ret v=>obtain⟨x7,U,H7,I7,r7,q7⟩:=q7;exact⟨x7,U,H7,I7.unpinned,r7,q7⟩
end
theorem xY{K:J7}{a:JR}{xs:JP V}{g:TG}{tb:TS}{D:Ends}{σ:St}{H:Hp}(Pv:Nat->St->Hp->Prop)(h0:Pv 0 σ H)(hl:∀ i σ H,i<=xs.length->Pv i σ H->ck K H a xs)
  (hs:∀ i x σ H,xs[i]? =some x->Pv i σ H->g x σ H λσ2 H2=>tb {D with nx:=Pv (i+1),ct:=Pv (i+1),bk:=D.nx} σ2 H2)(hd:∀ σ H,Pv xs.length σ H->D.nx σ H):
  ∃ W:Nat->Nat->St->Hp->Prop,(∃ m,W 0 m σ H)/\∀ i m σ H,W i m σ H->
   ((oM K a).stop i H/\D.nx σ H)\/((oM K a).go i H/\∃ N:St->Hp->Prop,(∀ σ' H',N σ' H'->∃ m',m'<m/\W (i+1) m' σ' H')/\∀ x H',(oM K a).yld i H x H'->g x σ H' λσ2 H2=>tb {D with nx:=N,ct:=N,bk:=D.nx} σ2 H2):=by
 refine⟨λi m σ H=>m=xs.length-i/\i<=xs.length/\Pv i σ H,⟨xs.length,by simp,Ks _,h0⟩,?_⟩;rintro i m σ H ⟨rfl,hi,p⟩;have q:=hl i σ H hi p;by_cases J:i<xs.length
 ·refine .inr ⟨⟨xs,xs[i],q,by simp[J]⟩,Pv (i+1),λσ' H' U=>⟨xs.length-(i+1),by omega,rfl,J,U⟩,λx H' y=>?_⟩;obtain⟨e,y⟩:=y;subst e;exact hs i x σ _ (y xs q) p
 ·have e:i=xs.length:=by omega
  subst e;exact .inl ⟨⟨xs,q,JY _⟩,hd σ H p⟩
theorem Hg{K:J7}{a:JR}{xs:JP V}{g:TG}{tb:TS}{D:Ends}{σ:St}{H:Hp}(Pv:Nat->St->Hp->Prop)(h0:Pv 0 σ H)(hl:∀ i σ H,i<=xs.length->Pv i σ H->cu K H a xs)
  (hs:∀ i x σ H,xs[i]? =some x->Pv i σ H->g x σ H λσ2 H2=>tb {D with nx:=Pv (i+1),ct:=Pv (i+1),bk:=D.nx} σ2 H2)(hd:∀ σ H,Pv xs.length σ H->D.nx σ H):
  ∃ W:Nat->Nat->St->Hp->Prop,(∃ m,W 0 m σ H)/\∀ i m σ H,W i m σ H->
   ((oF K a).stop i H/\D.nx σ H)\/((oF K a).go i H/\∃ N:St->Hp->Prop,(∀ σ' H',N σ' H'->∃ m',m'<m/\W (i+1) m' σ' H')/\∀ x H',(oF K a).yld i H x H'->g x σ H' λσ2 H2=>tb {D with nx:=N,ct:=N,bk:=D.nx} σ2 H2):=by
 refine⟨λi m σ H=>m=xs.length-i/\i<=xs.length/\Pv i σ H,⟨xs.length,by simp,Ks _,h0⟩,?_⟩;rintro i m σ H ⟨rfl,hi,p⟩;have q:=hl i σ H hi p;by_cases J:i<xs.length
 ·refine .inr ⟨⟨xs,xs[i],q,by simp[J]⟩,Pv (i+1),λσ' H' U=>⟨xs.length-(i+1),by omega,rfl,J,U⟩,λx H' y=>?_⟩;obtain⟨e,y⟩:=y;subst e;exact hs i x σ _ (y xs q) p
 ·have e:i=xs.length:=by omega
  subst e;exact .inl ⟨⟨xs,q,JY _⟩,hd σ H p⟩
theorem rA{lo:Int}{n:Nat}{g:TG}{tb:TS}{D:Ends}{σ:St}{H:Hp}(Pv:Nat->St->Hp->Prop)(h0:Pv 0 σ H)
  (hs:∀ i σ H,i<n->Pv i σ H->g (.int (lo+i)) σ H λσ2 H2=>tb {D with nx:=Pv (i+1),ct:=Pv (i+1),bk:=D.nx} σ2 H2)(hd:∀ σ H,Pv n σ H->D.nx σ H):
  ∃ W:Nat->Nat->St->Hp->Prop,(∃ m,W 0 m σ H)/\∀ i m σ H,W i m σ H->
   ((mU lo n).stop i H/\D.nx σ H)\/((mU lo n).go i H/\∃ N:St->Hp->Prop,(∀ σ' H',N σ' H'->∃ m',m'<m/\W (i+1) m' σ' H')/\∀ x H',(mU lo n).yld i H x H'->g x σ H' λσ2 H2=>tb {D with nx:=N,ct:=N,bk:=D.nx} σ2 H2):=by
 refine⟨λi m σ H=>m=n-i/\i<=n/\Pv i σ H,⟨n,by simp,Ks _,h0⟩,?_⟩;rintro i m σ H ⟨rfl,hi,p⟩;by_cases J:i<n
 ·refine .inr ⟨J,Pv (i+1),λσ' H' U=>⟨n-(i+1),by omega,rfl,J,U⟩,λx H' y=>?_⟩;obtain⟨e,y⟩:=y;subst e y;exact hs i σ _ J p
 ·have e:i=n:=by omega
  subst e;exact .inl ⟨JY _,hd σ H p⟩
theorem jT{c:TT}{tb:TS}{D:Ends}{σ:St}{H:Hp}(Pv:St->Hp->Prop)(μ:St->Hp->Nat)(h0:Pv σ H)
  (hs:∀ σ H,Pv σ H->c σ H λb H1=>if b=true then tb {D with nx:=λσ' H'=>Pv σ' H'/\μ σ' H'<μ σ H,ct:=λσ' H'=>Pv σ' H'/\μ σ' H'<μ σ H,bk:=D.nx} σ H1 else D.nx σ H1)
  (mono:∀ σ H Q Q',(∀ b H1,Q b H1->Q' b H1)->c σ H Q->c σ H Q'):vZ c tb D σ H:=by
 refine⟨λm σ H=>m=μ σ H/\Pv σ H,⟨_,rfl,h0⟩,?_⟩;rintro m σ H ⟨rfl,p⟩;refine mono σ H _ _ (λb H1 q=>?_) (hs σ H p);cases b with
 |true=>exact⟨_,λσ' H' ⟨J,l⟩=>⟨_,l,rfl,J⟩,q⟩
 |false=>exact q
noncomputable abbrev R2:=V->V->Hp->VK->Prop
noncomputable def eU(X:Cx)(f:JT->JT->Sem JT)(r:R2):Prop:=
 ∀(pins:JP (JR×Obj)) (s:JZ) (σ:St) (H:Hp) (x y:V) (v u:JT) (Q:VK),Inv X pins σ H s->RelV x v->RelV y u->r x y H Q->
  Kq (Ko X.prog X.w) X.A (f v u) (EP X pins σ Q) X.xe s
noncomputable def vz(X:Cx)(f:JT->Sem JT)(r:V->Hp->VK->Prop):Prop:=
 ∀(pins:JP (JR×Obj)) (s:JZ) (σ:St) (H:Hp) (x:V) (v:JT) (Q:VK),Inv X pins σ H s->RelV x v->r x H Q->
  Kq (Ko X.prog X.w) X.A (f v) (EP X pins σ Q) X.xe s
noncomputable def iI(X:Cx)(f:JT)(r:JP V->Hp->VK->Prop):Prop:=
 ∀(pins:JP (JR×Obj)) (s:JZ) (σ:St) (H:Hp) (xs:JP V) (us:JP JT) (Q:VK),Inv X pins σ H s->Vals xs us->r xs H Q->
  Kq (Ko X.prog X.w) X.A (call f us) (EP X pins σ Q) X.xe s
noncomputable def sH(r:R2)(ta tb:TE):TE:=λσ H Q=>ta σ H λx H1=>tb σ H1 λy H2=>r x y H2 Q
noncomputable def JG(r:V->Hp->VK->Prop)(ta:TE):TE:=λσ H Q=>ta σ H λx H1=>r x H1 Q
noncomputable def rI(C:Int->Int->Prop)(g:Int->Int->V):R2:=λx y H Q=>∃ i j,x= .int i/\y= .int j/\C i j/\Q (g i j) H
noncomputable def jS(g:Int->Int->V):R2:=λx y H Q=>∃ i j,x= .int i/\y= .int j/\Q (g i j) H
noncomputable def rU(g:Int->V):V->Hp->VK->Prop:=λx H Q=>∃ i,x= .int i/\Q (g i) H
section
variable {X : Cx} {a b c : KI} {ta tb tc : TE} {pos : Pos}
theorem vn(ha:PE X a ta)(hb:PE X b tb){pins:JP (JR×Obj)}{s:JZ}{σ:St}{H:Hp}{R:V->V->Hp->Prop}(I:Inv X pins σ H s)
  (h:ta σ H λx H1=>tb σ H1 λy H2=>R x y H2){Q:JT->JZ->Prop}{f:JT->JT->Sem JT}
  (hf:∀ v u s2 x y H2,Inv X pins σ H2 s2->RelV x v->RelV y u->R x y H2->Kq (Ko X.prog X.w) X.A (f v u) Q X.xe s2):
  Kq (Ko X.prog X.w) X.A (eval a X.env) (λv s₁=>Kq (Ko X.prog X.w) X.A (eval b X.env) (λu s₂=>Kq (Ko X.prog X.w) X.A (f v u) Q X.xe s₂) X.xe s₁) X.xe s:=by
 refine cv (ha pins s σ H _ I h) λv s1 ⟨x,H1,J,r1,U⟩=>?_
 refine cv (hb pins s1 σ H1 _ J U) λu s2 ⟨y,H2,I2,r2,q2⟩=>?_
 exact hf v u s2 x y H2 I2 r1 r2 q2
theorem cA{op:O5}{r:R2}(ho:eU X (Oo op) r)(ha:PE X a ta)(hb:PE X b tb):PE X (.BinOp a op b pos) (sH r ta tb):=by
 intro pins s σ H Q I h;exact wpAny_BinOp (vn ha hb I h λv u s2 x y H2 J U ry q=>ho pins s2 σ H2 x y v u Q J U ry q)
theorem mS{op:UnaryOp}{r:V->Hp->VK->Prop}(ho:vz X (unaryOp op) r)(ha:PE X a ta):PE X (.UnaryOp op a pos) (JG r ta):=by
 intro pins s σ H Q I h;exact UnaryOp_ (cv (ha pins s σ H _ I h) λv s1 ⟨x,H1,J,r1,U⟩=>ho pins s1 σ H1 x v Q J r1 U)
theorem ui{f:JT->JT->Sem JT}{C:Int->Int->Prop}{g:Int->Int->Int}
  (rule:∀(i j:Int) (t u:Tok) (s:JZ) (Q:JT->JZ->Prop) (E:JT->JZ->Prop),C i j->Q (.int (g i j) s.toks) {s with toks:=s.toks+1}->Kq (Ko X.prog X.w) X.A (f (.int i t) (.int j u)) Q E s):
  eU X f (rI C λi j=> .int (g i j)):=by
 intro pins s σ H x y v u Q I J U h;obtain⟨i,j,rfl,rfl,hc,q⟩:=h;obtain⟨t,rfl⟩:=J;obtain⟨t',rfl⟩:=U;exact rule i j t t' s _ _ hc ⟨.int (g i j),H,I.tok _,⟨_,rfl⟩,q⟩
theorem vi{f:JT->JT->Sem JT}{g:Int->Int->Int}
  (rule:∀(i j:Int) (t u:Tok) (s:JZ) (Q:JT->JZ->Prop) (E:JT->JZ->Prop),Q (.int (g i j) s.toks) {s with toks:=s.toks+1}->Kq (Ko X.prog X.w) X.A (f (.int i t) (.int j u)) Q E s):
  eU X f (jS λi j=> .int (g i j)):=by
 intro pins s σ H x y v u Q I J U h;obtain⟨i,j,rfl,rfl,q⟩:=h;obtain⟨t,rfl⟩:=J;obtain⟨t',rfl⟩:=U;exact rule i j t t' s _ _ ⟨.int (g i j),H,I.tok _,⟨_,rfl⟩,q⟩
theorem rM{f:JT->JT->Sem JT}{g:Int->Int->KS}
  (rule:∀(i j:Int) (t u:Tok) (s:JZ) (Q:JT->JZ->Prop) (E:JT->JZ->Prop),Q (.bool (g i j)) s->Kq (Ko X.prog X.w) X.A (f (.int i t) (.int j u)) Q E s):
  eU X f (jS λi j=> .bl (g i j)):=by
 intro pins s σ H x y v u Q I J U h;obtain⟨i,j,rfl,rfl,q⟩:=h;obtain⟨t,rfl⟩:=J;obtain⟨t',rfl⟩:=U;exact rule i j t t' s _ _ ⟨.bl (g i j),H,I,rfl,q⟩
noncomputable def F1(i j:Int):Prop:=0<j/\j<1073741824
noncomputable def vE(i j:Int):Prop:=(-(2 ^ 64)<i/\i<2 ^ 64)\/(-(2 ^ 64)<j/\j<2 ^ 64)
theorem vE.ok {i j:Int}(h:vE i j):IntMulOk i j:=by
 rcases h with ⟨h1,h2⟩|⟨h1,h2⟩
 ·exact .of_left (intBits_le_64 h1 h2)
 ·exact .of_right (intBits_le_64 h1 h2)
theorem eD:eU X (Oo .Add) (jS λi j=> .int (i+j)):=vi λ_ _ _ _ _ _ _ q=>add_int q
theorem pD:eU X (Oo .Sub) (jS λi j=> .int (i-j)):=vi λ_ _ _ _ _ _ _ q=>sub_int q
theorem mV:eU X (Oo .Mult) (rI vE λi j=> .int (i*j)):=ui λ_ _ _ _ _ _ _ J q=>mul_int q J.ok
theorem iu:eU X (Oo .FloorDiv) (rI F1 λi j=> .int (i/j)):=ui λi j _ _ _ _ _ J q=>by
 have h1:(0:Int)<j:=J.1
 have h2:j<1073741824:=J.2;exact floordiv_int (by omega) (by rw[Int.fdiv_eq_ediv_of_nonneg i (by omega)];exact q) (.inl (PyProof.noPylong_small (by omega)))
theorem fI:eU X (Oo .Mod) (rI (λ_ j=>0<j) λi j=> .int (i%j)):=ui λi j _ _ _ _ _ J q=>by
 have h1:(0:Int)<j:=J;exact mod_int' (by omega) (by rw[Int.fmod_eq_emod_of_nonneg i (by omega)];exact q)
theorem Iw:eU X (inplaceOp .Add) (jS λi j=> .int (i+j)):=vi λ_ _ _ _ _ _ _ q=>iadd_int q
theorem Hn{f:JT->Sem JT}{g:Int->Int}
  (rule:∀(i:Int) (t:Tok) (s:JZ) (Q:JT->JZ->Prop) (E:JT->JZ->Prop),Q (.int (g i) s.toks) {s with toks:=s.toks+1}->Kq (Ko X.prog X.w) X.A (f (.int i t)) Q E s):
  vz X f (rU λi=> .int (g i)):=by
 intro pins s σ H x v Q I J h;obtain⟨i,rfl,q⟩:=h;obtain⟨t,rfl⟩:=J;exact rule i t s _ _ ⟨.int (g i),H,I.tok _,⟨_,rfl⟩,q⟩
theorem lK:vz X (unaryOp .USub) (rU λi=> .int (-i)):=Hn λ_ _ _ _ _ q=>neg_int q
end
noncomputable def wj:V->V->KS
 |.non,.non=>true|.non,.int _=>true|.int _,.non=>true|.non,.bl _=>true|.bl _,.non=>true|.non,.str _=>true|.str _,.non=>true
 |.int _,.int _=>true|.bl _,.bl _=>true|.str _,.str _=>true|.byt _,.byt _=>true
 |.int _,.str _=>true|.str _,.int _=>true|.bl _,.str _=>true|.str _,.bl _=>true
 |_,_=>false
noncomputable def CS:R2:=λx y H Q=>wj x y=true/\Q (.bl (decide (x=y))) H
noncomputable def G4:R2:=λx y H Q=>wj x y=true/\Q (.bl (!decide (x=y))) H
theorem vL{i j:Int}:decide (V.int i=V.int j)=(i==j):=by
 rw[NH];simp
theorem x9{i j:KS}:decide (V.bl i=V.bl j)=(i==j):=by
 rw[NH];simp
theorem yj{i j:Str}:decide (V.str i=V.str j)=(i==j):=by
 rw[NH];simp
theorem ym{i j:MM UInt8}:decide (V.byt i=V.byt j)=(i.toList==j.toList):=by
 rw[NH];cases i;cases j;simp
section
variable {X : Cx} {a b c : KI} {ta tb tc : TE} {pos : Pos}
theorem eQ{pins:JP (JR×Obj)}{σ:St}{H:Hp}{s:JZ}{Q:VK}{k k':KS}(I:Inv X pins σ H s)(q:Q (.bl k) H)(e:k=k'):EP X pins σ Q (.bool k') s:=by
 subst e;exact⟨.bl k,H,I,rfl,q⟩
theorem cU:eU X (Lz .Eq) CS:=by
 intro pins s σ H x y v u Q I rx J h;obtain⟨U,q⟩:=h;cases x with
 |non=>
  cases rx;cases y with
  |non=>cases J;exact PySem.EqNone.eq_none_none (eQ I q (by simp))
  |bl j=>cases J;exact PySem.EqNone.eq_none_bool (eQ I q (by simp))
  |int j=>obtain⟨t',rfl⟩:=J;exact PySem.EqNone.eq_none_int (eQ I q (by simp))
  |str j=>obtain⟨t',rfl⟩:=J;exact PySem.EqNone.eq_none_str (eQ I q (by simp))
  |_=>exact absurd (show false=true from U) J3
 |bl i=>
  cases rx;cases y with
  |non=>cases J;exact PySem.EqNone.eq_bool_none (eQ I q (by simp))
  |bl j=>cases J;exact eq_bool (eQ I q x9)
  |str j=>obtain⟨t',rfl⟩:=J;exact PySem.EqMixed.eq_bool_str (eQ I q (by simp))
  |_=>exact absurd (show false=true from U) J3
 |int i=>
  obtain⟨t,rfl⟩:=rx;cases y with
  |non=>cases J;exact PySem.EqNone.eq_int_none (eQ I q (by simp))
  |int j=>obtain⟨t',rfl⟩:=J;exact eq_int (eQ I q vL)
  |str j=>obtain⟨t',rfl⟩:=J;exact PySem.EqMixed.eq_int_str (eQ I q (by simp))
  |_=>exact absurd (show false=true from U) J3
 |str i=>
  obtain⟨t,rfl⟩:=rx;cases y with
  |non=>cases J;exact PySem.EqNone.eq_str_none (eQ I q (by simp))
  |bl j=>cases J;exact PySem.EqMixed.eq_str_bool (eQ I q (by simp))
  |int j=>obtain⟨t',rfl⟩:=J;exact PySem.EqMixed.eq_str_int (eQ I q (by simp))
  |str j=>obtain⟨t',rfl⟩:=J;exact eq_str (eQ I q yj)
  |_=>exact absurd (show false=true from U) J3
 |byt i=>
  obtain⟨t,rfl⟩:=rx;cases y with
  |byt j=>obtain⟨t',rfl⟩:=J;exact W.eq_bytes (eQ I q ym)
  |_=>exact absurd (show false=true from U) J3
 |_=>cases y<;>exact absurd (show false=true from U) J3
theorem kN:eU X (Lz .NotEq) G4:=by
 intro pins s σ H x y v u Q I rx J h;obtain⟨U,q⟩:=h;cases x with
 |non=>
  cases rx;cases y with
  |non=>cases J;exact PySem.EqNone.ne_none_none (eQ I q (by simp))
  |bl j=>cases J;exact PySem.EqNone.ne_none_bool (eQ I q (by simp))
  |int j=>obtain⟨t',rfl⟩:=J;exact PySem.EqNone.ne_none_int (eQ I q (by simp))
  |str j=>obtain⟨t',rfl⟩:=J;exact PySem.EqNone.ne_none_str (eQ I q (by simp))
  |_=>exact absurd (show false=true from U) J3
 |bl i=>
  cases rx;cases y with
  |non=>cases J;exact PySem.EqNone.ne_bool_none (eQ I q (by simp))
  |bl j=>cases J;exact ne_bool (eQ I q (K9 not x9))
  |str j=>obtain⟨t',rfl⟩:=J;exact PySem.EqMixed.ne_bool_str (eQ I q (by simp))
  |_=>exact absurd (show false=true from U) J3
 |int i=>
  obtain⟨t,rfl⟩:=rx;cases y with
  |non=>cases J;exact PySem.EqNone.ne_int_none (eQ I q (by simp))
  |int j=>obtain⟨t',rfl⟩:=J;exact ne_int (eQ I q (K9 not vL))
  |str j=>obtain⟨t',rfl⟩:=J;exact PySem.EqMixed.ne_int_str (eQ I q (by simp))
  |_=>exact absurd (show false=true from U) J3
 |str i=>
  obtain⟨t,rfl⟩:=rx;cases y with
  |non=>cases J;exact PySem.EqNone.ne_str_none (eQ I q (by simp))
  |bl j=>cases J;exact PySem.EqMixed.ne_str_bool (eQ I q (by simp))
  |int j=>obtain⟨t',rfl⟩:=J;exact PySem.EqMixed.ne_str_int (eQ I q (by simp))
  |str j=>obtain⟨t',rfl⟩:=J;exact ne_str (eQ I q (K9 not yj))
  |_=>exact absurd (show false=true from U) J3
 |byt i=>
  obtain⟨t,rfl⟩:=rx;cases y with
  |byt j=>obtain⟨t',rfl⟩:=J;exact W.ne_bytes (eQ I q (K9 not ym))
  |_=>exact absurd (show false=true from U) J3
 |_=>cases y<;>exact absurd (show false=true from U) J3
theorem iQ:eU X (Lz .Lt) (jS λi j=> .bl (decide (i<j))):=rM λ_ _ _ _ _ _ _ q=>lt_int q
theorem yM:eU X (Lz .LtE) (jS λi j=> .bl (decide (i<=j))):=rM λ_ _ _ _ _ _ _ q=>le_int q
theorem iJ:eU X (Lz .Gt) (jS λi j=> .bl (decide (j<i))):=rM λ_ _ _ _ _ _ _ q=>gt_int q
theorem BA:eU X (Lz .GtE) (jS λi j=> .bl (decide (j<=i))):=rM λ_ _ _ _ _ _ _ q=>ge_int q
theorem qK:eU X (Lz .In) (λx y H Q=>∃ i j,x= .str i/\y= .str j/\Q (.bl (!(K7 j i 0 j.length 1).isEmpty)) H):=by
 intro pins s σ H x y v u Q I J U h;obtain⟨i,j,rfl,rfl,q⟩:=h;obtain⟨t,rfl⟩:=J;obtain⟨t',rfl⟩:=U;exact in_str (eQ I q rfl)
theorem AD:eU X (Lz .Is) (λx y H Q=>y= .non/\Q (.bl (decide (x= .non))) H):=by
 intro pins s σ H x y v u Q I J U h;obtain⟨rfl,q⟩:=h;cases U;refine is_none_gen (eQ I q ?_);cases x<;>first
  |(cases J;rfl)
  |(obtain⟨t,rfl⟩:=J;rfl)
theorem cC(b:KI){op:CmpOp}(h:op≠ .In:=by decide)(h2:op≠ .NotIn:=by decide):Oh op b=false:=by
 have J:(op==CmpOp.In)=false:=by cases op<;>first|rfl|exact absurd rfl h
 have U:(op==CmpOp.NotIn)=false:=by cases op<;>first|rfl|exact absurd rfl h2
 cases b<;>simp[Oh,J,U]
theorem ik{op:CmpOp}{r:R2}(ho:eU X (Lz op) r)(ha:PE X a ta)(hb:PE X b tb)(hm:Oh op b=false):PE X (.Compare a [op] [b] pos) (sH r ta tb):=by
 intro pins s σ H Q I h;exact wpAny_Compare1 (vn ha hb I h λv u s2 x y H2 J U ry q=>ho pins s2 σ H2 x y v u Q J U ry q) hm
noncomputable def xE(t:TE):TT:=λσ H Q=>t σ H λx H'=>∃ k,x= .bl k/\Q k H'
theorem cx{op:CmpOp}{r:R2}(ho:eU X (Lz op) r)(ha:PE X a ta)(hb:PE X b tb)(hm:Oh op b=false):PT X (.Compare a [op] [b] pos) (xE (sH r ta tb)):=by
 intro pins s σ H Q I h;refine wpAny_isTrue_Compare1 (cv (ha pins s σ H _ I h) λv s1 ⟨x,H1,J,r1,U⟩=>cv (hb pins s1 σ H1 _ J U) λu s2 ⟨y,H2,I2,r2,q2⟩=>
  cv (ho pins s2 σ H2 x y v u _ I2 r1 r2 q2) λc s3 ⟨z,H3,I3,r3,k,e,q3⟩=>?_) hm;subst e;cases r3;exact LD ⟨H3,I3,q3⟩
noncomputable def yp(r r':R2)(ta tb tc:TE):TE:=λσ H Q=>ta σ H λx H1=>tb σ H1 λy H2=>r x y H2 λz J=>∃ k,z= .bl k/\
 (if k=true then tc σ J λU I=>r' y U I Q else Q (.bl false) J)
theorem Dh{op op':CmpOp}{r r':R2}(ho:eU X (Lz op) r)(ho':eU X (Lz op') r')(ha:PE X a ta)(hb:PE X b tb)(hc:PE X c tc)
  (hm:lastMarks [op,op'] [b,c]=false:=by with_unfolding_all rfl):PE X (.Compare a [op,op'] [b,c] pos) (yp r r' ta tb tc):=by
 intro pins s σ H Q I h;refine Compare_chain (cv (ha pins s σ H _ I h) λv s1 ⟨x,H1,I1,r1,q1⟩=>chain_link (cv (hb pins s1 σ H1 _ I1 q1) λu s2 ⟨y,H2,I2,r2,q2⟩=>
  cv (ho pins s2 σ H2 x y v u _ I2 r1 r2 q2) λd s3 ⟨z,J,U,r3,k,e,q3⟩=>?_)) hm;subst e;cases r3;refine LD ?_;cases k with
 |false=>exact ite_ff ⟨.bl false,J,U,rfl,q3⟩
 |true=>exact ite_tt (chain_last (cv (hc pins s3 σ J _ U q3) λw' s4 ⟨z',H4,I4,r4,q4⟩=>ho' pins s4 σ H4 y z' u w' Q I4 r2 r4 q4))
theorem Dn{op op':CmpOp}{r r':R2}(ho:eU X (Lz op) r)(ho':eU X (Lz op') r')(ha:PE X a ta)(hb:PE X b tb)(hc:PE X c tc)
  (hm:lastMarks [op,op'] [b,c]=false:=by with_unfolding_all rfl):PT X (.Compare a [op,op'] [b,c] pos) (xE (yp r r' ta tb tc)):=by
 intro pins s σ H Q I h;refine isTrue_chain (cv (ha pins s σ H _ I h) λv s1 ⟨x,H1,I1,r1,q1⟩=>test_link (cv (hb pins s1 σ H1 _ I1 q1) λu s2 ⟨y,H2,I2,r2,q2⟩=>
  cv (ho pins s2 σ H2 x y v u _ I2 r1 r2 q2) λd s3 ⟨z,J,U,r3,k,e,q3⟩=>?_)) hm;subst e;cases r3;refine LD ?_;cases k with
 |false=>
  obtain⟨k',e',q'⟩:=q3;cases e';exact ite_ff ⟨J,U,q'⟩
 |true=>
  refine ite_tt (test_last (cv (hc pins s3 σ J _ U q3) λw' s4 ⟨z',H4,I4,r4,q4⟩=>cv (ho' pins s4 σ H4 y z' u w' _ I4 r2 r4 q4) λd' s5 ⟨z2,H5,I5,r5,k2,e2,q5⟩=>?_));subst e2;cases r5;exact LD ⟨H5,I5,q5⟩
theorem nZ:(sizeLine:Nat)<2 ^ 63:=by rw[Kv];decide
theorem gf:eU X (Oo .Add) (λx y H Q=>∃ i j,x= .str i/\y= .str j/\i.length+j.length<=sizeLine/\Q (.str (i++j)) H):=by
 intro pins s σ H x y v u Q I J U h;obtain⟨i,j,rfl,rfl,hz,q⟩:=h;obtain⟨t,rfl⟩:=J;obtain⟨t',rfl⟩:=U;exact add_str (λt' tk=>⟨.str (i++j),H,I.tok _,⟨_,rfl⟩,q⟩) hz
theorem vals1{x:V}{us:JP JT}(r:Vals [x] us):∃ u,us=[u]/\RelV x u:=by
 cases r with
 |cons r1 r2=>cases r2;exact⟨_,rfl,r1⟩
theorem vals2{x y:V}{us:JP JT}(r:Vals [x,y] us):∃ u w',us=[u,w']/\RelV x u/\RelV y w':=by
 cases r with
 |cons r1 r2=>
  cases r2 with
  |cons r3 r4=>cases r4;exact⟨_,_,rfl,r1,r3⟩
theorem mK:iI X (.type "int") (λxs H Q=>(∃ i,xs=[.int i]/\Q (.int i) H)\/∃ k,xs=[.bl k]/\Q (.int (if k then 1 else 0)) H):=by
 intro pins s σ H xs us Q I r h;rcases h with ⟨i,rfl,q⟩|⟨k,rfl,q⟩
 ·obtain⟨u,rfl,t,rfl⟩:=vals1 r;exact call_int_int ⟨.int i,H,I,⟨_,rfl⟩,q⟩
 ·obtain⟨u,rfl,r1⟩:=vals1 r;cases r1;exact call_int_bool ⟨.int (if k then 1 else 0),H,I.tok _,⟨_,rfl⟩,q⟩
theorem tT:iI X (.type "str") (λxs H Q=>∃ i,xs=[.int i]/\i.natAbs.log2<1920/\Q (.str (toString i)) H):=by
 intro pins s σ H xs us Q I r h;obtain⟨i,rfl,J,q⟩:=h;obtain⟨u,rfl,t,rfl⟩:=vals1 r;exact PySem.P.str_of_int J ⟨.str _,H,I.tok _,⟨_,rfl⟩,q⟩
theorem HU:iI X (.builtin "ord") (λxs H Q=>∃ x,xs=[.str x]/\x.length=1/\Q (.int (x.cps.getD 0 0:Nat)) H):=by
 intro pins s σ H xs us Q I r h;obtain⟨x,rfl,J,q⟩:=h;obtain⟨u,rfl,t,rfl⟩:=vals1 r;exact ord_of_one J ⟨.int _,H,I.tok _,⟨_,rfl⟩,q⟩
end
structure lM (h : KP) (x dx C : JR) (mA : Str -> JW JT) : Prop where
 obj : h.get? x = some (Nv C dx)
 ns : h.Ns1 dx mA
 ne : dx ≠ x
theorem Dm{h:KP}{dx:JR}{mA:Str->JW JT}(n:h.Ns1 dx mA):∃ od,h.get? dx=some od/\∀ name,W.lookIn name od=some (mA name):=by
 obtain⟨o,es,ep,U,hd,hk,_,hm⟩:=n;refine⟨o,U,λname=>?_⟩;have e:=hm name;unfold nsFind findBy at e;rw[<-Array.find?_toList] at e;unfold W.lookIn;rw[hd];dsimp only;split
 ·rename_i y q;rw[q] at e;exact K9 some e
 ·rename_i q;rw[q] at e;have a:es.toList.any (·.refKey)=false:=by
   rw[List.any_eq_false];intro y I;obtain⟨z,t,J⟩:=hk y (Array.mem_toList_iff.mp I);simp[DictEntry.refKey,J]
  have a':¬ es.toList.any (·.refKey)=true:=by rw[a];exact J3
  rw[if_neg a'];exact K9 some e
theorem lM.look {h:KP}{x dx C:JR}{mA:Str->JW JT}(I:lM h x dx C mA):∃ od,W.InstAt h x (Nv C dx) C (some od)/\∀ name,W.lookIn name od=some (mA name):=
 let ⟨od,ho,hl⟩:=Dm I.ns
 ⟨od,⟨I.obj,rfl,rfl,ho⟩,hl⟩
section
variable {prog : Ka} {w : Ku} {A : K4} {E : JT -> JZ -> Prop} {s : JZ} {K : J7} {x dx C f : JR} {mA : Str -> JW JT} {name : Str} {v : JT}
theorem get_map{expr:KS}{Q:JT->JZ->Prop}(X:K.In s.heap)(I:lM s.heap x dx C mA)(hg:OB K C name=true)(hh:OQ K C=true)
  (ha:Li K (.ref C) name=some none)(hv:mA name=some v)(hv':W.handedIn v=true)(h:Q v {s with toks:=s.toks+1}):
  Kq (Ko prog w) A (getAttr (.ref x) name expr) Q E s:=by
 obtain⟨od,J,U⟩:=I.look;exact W.get_value X J (W.plainGet_of hg).1 (W.findObj_own hh ha rfl (by rw[U,hv])) hv' h
theorem Dj{pl:Sem KS}{Q:JT×JP JT->JZ->Prop}(X:K.In s.heap)(I:lM s.heap x dx C mA)(hg:OB K C name=true)
  (hf:Li K (.ref C) name=some (some (.ref f)))(ht:W.isFn K (.ref f)=true)(hv:mA name=none)(h:Q (.ref f,[.ref x]) s):
  Kq (Ko prog w) A (O0 (.ref x) name pl) Q E s:=by
 obtain⟨U,J,hl⟩:=I.look;exact W.method_fn X J (W.plainGet_of hg).1 (W.plainGet_of hg).2 hf (beq_iff_eq.mp ht) (by show(W.lookIn name U).map (·.isSome)=some false;rw[hl,hv];rfl) h
theorem Cj{ns:JP Str}{Q:Unit->JZ->Prop}(X:K.In s.heap)(I:lM s.heap x dx C mA)
  (hs:Li K (.ref C) "__setattr__"=some (some (.builtin "object.__setattr__")))(hp:W.plainOver K C=true)(ht:W.takerIn K C name=some none)(hh:OQ K C=true)
  (hw:PySem.Within mA ns)(hsz:ns.length<=sizeLine)
  (h:∀ h',lM h' x dx C (λy=>if y=name then some v else mA y)->Md dx s.heap h'->Q () {s with heap:=h',toks:=s.toks+2}):
  Kq (Ko prog w) A (setAttr (.ref x) name v) Q E s:=by
 obtain⟨od,J,hl⟩:=I.look;refine W.set_plain X J hs (W.osa_open (s:={s with toks:=s.toks+1}) (r:=none) X J hp ht λb=>?_);obtain⟨cd,hc,ab⟩:=W.any_some hh;have hx:s.heap.get? x=some ⟨.ref C,some dx,.plain,#[]⟩:=I.obj;refine J8 (KN (J8 (J8 (wpAny_loadPart hx (J8 (W.Looks.here (s:={s with toks:=s.toks+1}) (W.looks_clsIn X hc) ?_))))));rw[ab];refine KN (a:=some dx) (J8 (KN (J8 ?_)));refine wpAny_nsSet1 (s:={s with toks:=s.toks+1}) I.ns λh' U aa=>?_
 obtain⟨oD,ah,ai,ae,af,ag⟩:=U.count (PySem.Within.cons name v hw);refine J8 (wpAny_lookBehind ae (by rw[af];exact pastItsLine_dict (Kj ag (by rw[JV];omega))) ?_);exact KN (h _ ⟨(aa.2 _ (K5 I.ne)).trans I.obj,U,I.ne⟩ aa)
theorem Er{R:Result->JZ->Prop}{vs:JP JT}{kw:JP (Str×JT)}(X:K.In s.heap)(hm:W.makesIn K C=true)
  (hi:Li K (.ref C) "__init__"=some (some (.ref f)))(hf:W.typeIn K (.ref f)=some (.type "function"))
  (h:Nz (Ko prog w) (A.under (.builtin "type.__call__" ⟨.ref C::vs,kw⟩)) (.call (.ref f) ⟨.ref (s.heap.objs.size+1)::vs,kw⟩) (W.InitBack (s.heap.objs.size+1) R)
   {s with heap:=(s.heap.push Mu).push (Nv C s.heap.objs.size)}):
  Nz (Ko prog w) A (.call (.ref C) ⟨vs,kw⟩) R s:=by
 obtain⟨J,g,d,t,os⟩:=s;exact W.make_core (W.makes_of X hm) (W.looks_findIn X hi) (λself=>W.bind_fn X self hf) (.inl rfl) h
end
noncomputable def dh(f:Str)(v:V):JP (Str×V)->JP (Str×V)
 |[]=>[(f,v)]
 |(g,x)::r=>if g=f then (g,v)::r else (g,x)::dh f v r
theorem dO(f g:Str)(v:V):∀ fs:JP (Str×V),(dh f v fs).lookup g=if g=f then some v else fs.lookup g
 |[]=>by
  show Mv g [(f,v)]=_;by_cases h:g=f
  ·have hb:(g==f)=true:=beq_iff_eq.mpr h;simp only[Mv,hb,J1 h]
  ·have hb:(g==f)=false:=beq_eq_false_iff_ne.mpr h;simp only[Mv,hb,if_neg h]
 |(k,x)::r=>by
  have J:=dO f g v r;rw[show dh f v ((k,x)::r)=(if k=f then (k,v)::r else (k,x)::dh f v r) from rfl];by_cases hk:k=f
  ·rw[J1 hk];by_cases h:g=k
   ·have hb:(g==k)=true:=beq_iff_eq.mpr h;simp only[Mv,hb,J1 (h.trans hk)]
   ·have hb:(g==k)=false:=beq_eq_false_iff_ne.mpr h;simp only[Mv,hb,if_neg (λe:g=f=>h (e.trans hk.symm))]
  ·rw[if_neg hk];by_cases h:g=k
   ·have hb:(g==k)=true:=beq_iff_eq.mpr h;simp only[Mv,hb,if_neg (λe:g=f=>hk (h.symm.trans e))]
   ·have hb:(g==k)=false:=beq_eq_false_iff_ne.mpr h;simp only[Mv,hb];exact J
theorem vv(f:Str)(v:V):∀ fs:JP (Str×V),f∈(dh f v fs).map (·.1)/\∀ g,g∈fs.map (·.1)->g∈(dh f v fs).map (·.1)
 |[]=>⟨by simp[dh],λg h=>by simp at h⟩
 |(k,x)::r=>by
  obtain⟨J,U⟩:=vv f v r;rw[show dh f v ((k,x)::r)=(if k=f then (k,v)::r else (k,x)::dh f v r) from rfl];by_cases hk:k=f
  ·rw[J1 hk];subst hk;exact⟨by simp,λg h=>by simpa using h⟩
  ·rw[if_neg hk];refine⟨?_,λg h=>?_⟩
   ·rw[KU];exact J0 _ J
   ·rw[KU] at h ⊢;rcases List.mem_cons.mp h with e|e
    ·exact List.mem_cons.mpr (.inl e)
    ·exact J0 _ (U g e)
theorem ke(f:Str)(v:V):∀ fs:JP (Str×V),(dh f v fs).length<=fs.length+1
 |[]=>by simp[dh]
 |(k,x)::r=>by
  have J:=ke f v r;rw[show dh f v ((k,x)::r)=(if k=f then (k,v)::r else (k,x)::dh f v r) from rfl];by_cases hk:k=f
  ·rw[J1 hk,JV,JV];omega
  ·rw[if_neg hk,JV,JV];omega
theorem gY.some_of {v:V}{o:JW JT}(r:gY (some v) o):∃ u,o=some u/\RelV v u:=by
 cases o with
 |none=>exact(show LG from r).elim
 |some u=>exact⟨u,rfl,r⟩
theorem gY.none_of {o:JW JT}(r:gY none o):o=none:=by
 cases o with
 |none=>rfl
 |some u=>exact(show LG from r).elim
theorem C9{v:V}{u:JT}(r:RelV v u):W.handedIn u=true:=by
 cases v with
 |non=>cases (show u=My from r);rfl
 |bl b=>cases (show u=Oy b from r);rfl
 |int i=>obtain⟨t,e⟩:=(show ∃ t,u=Nu i t from r);cases e;rfl
 |str x=>obtain⟨t,e⟩:=(show ∃ t,u=NU x t from r);cases e;rfl
 |byt b=>obtain⟨t,e⟩:=(show ∃ t,u=Value.bytes b t from r);cases e;rfl
 |flt b=>obtain⟨t,e⟩:=(show ∃ t,u=Value.float b t from r);cases e;rfl
 |ref a=>cases (show u=Ky a from r);rfl
 |ty n=>cases (show u=Value.type n from r);rfl
section
variable {P : Ka} {w : Ku} {H H' : Hp} {h h' : KP} {a C dx : JR} {fs fs' : JP (Str × V)}
theorem qw(hok:eK P w H h)(e:H a=some (.ins C dx fs)):∃ mA,lM h a dx C mA/\(∀ f,gY (fs.lookup f) (mA f))/\PySem.Within mA (fs.map (·.1))/\fs.length<=1000/\H dx=some (.own a):=by
 obtain⟨d,z,ne,ob,mA,n,r,q⟩:=(show eY P w H h a (.ins C dx fs) from hok a _ e);exact⟨mA,⟨ob,n,ne⟩,r,q,z,d⟩
end
structure gB (K : Kl) (C : JR) : Prop where
 pg : OB K C Str.empty = true
 hd : OQ K C = true
 po : W.plainOver K C = true
 sa : Li K (.ref C) "__setattr__" = some (some (.builtin "object.__setattr__"))
theorem gB.get {K:Kl}{C:JR}(c:gB K C)(f:Str):OB K C f=true:=c.pg
noncomputable def gg(K:Kl)(C:JR)(f:Str):Prop:=Li K (.ref C) f=some none
theorem gg.taker {K:Kl}{C:JR}{f:Str}(n:gg K C f):W.takerIn K C f=some none:=by
 unfold W.takerIn;rw[show Li K (.ref C) f=some none from n];rfl
structure Meth (K : Kl) (C : JR) (m : Str) (f : JR) : Prop where
 at_ : Li K (.ref C) m = some (some (.ref f))
 fn : W.isFn K (.ref f) = true
 kp : ME K (.ref f) = true
section
variable {X : Cx} {pins : JP (JR × Obj)} {σ : St} {H : Hp} {s : JZ} {a C dx : JR} {fs : JP (Str × V)} {f : Str} {v : V} {A : K4} {E : JT -> JZ -> Prop}
theorem ye{b:KS}{Q:JT->JZ->Prop}(I:Inv X pins σ H s)(e:H a=some (.ins C dx fs))(c:gB X.K C)(n:gg X.K C f)(l:fs.lookup f=some v)
  (h:∀ u s',Inv X pins σ H s'->RelV v u->Q u s'):Kq (Ko X.prog X.w) A (getAttr (.ref a) f b) Q E s:=by
 obtain⟨mA,O,r,_,_,_⟩:=qw I.hok e;obtain⟨u,U,J⟩:=gY.some_of (v:=v) (o:=mA f) (by rw[<-l];exact r f);exact get_map I.kIn O (c.get f) c.hd n U (C9 J) (h u _ (I.tok _) J)
theorem ux{m:Str}{g:JR}{pl:Sem KS}{Q:JT×JP JT->JZ->Prop}(I:Inv X pins σ H s)(e:H a=some (.ins C dx fs))(c:gB X.K C)(k:Meth X.K C m g)(l:fs.lookup m=none)
  (h:Q (.ref g,[.ref a]) s):Kq (Ko X.prog X.w) A (O0 (.ref a) m pl) Q E s:=by
 obtain⟨mA,O,r,_,_,_⟩:=qw I.hok e;have hn:mA m=none:=gY.none_of (by rw[<-l];exact r m);exact Dj I.kIn O (c.get m) k.at_ k.fn hn h
theorem xu{y:V}{u:JT}{Q:Unit->JZ->Prop}(I:Inv X pins σ H s)(e:H a=some (.ins C dx fs))(c:gB X.K C)(n:gg X.K C f)(hl:fs.length<1000)(ry:RelV y u)
  (h:∀ s',Inv X pins σ (upd H a (.ins C dx (dh f y fs))) s'->Q () s'):Kq (Ko X.prog X.w) A (setAttr (.ref a) f u) Q E s:=by
 obtain⟨mA,O,r,U,_,ho⟩:=qw I.hok e;have hz:(fs.map (·.1)).length<=sizeLine:=by rw[JX,Kv];omega
 refine Cj I.kIn O c.sa c.po n.taker c.hd U hz λh' J sb=>h _ ?_
 have hd:∃ o,h'.get? dx=some o:=let ⟨o,_,_,e',_⟩:=J.ns;⟨o,e'⟩;refine I.write (x:=a) (e:=dx) (by rw[e];exact Mi) (.inr ho) (λb q hb z=>(sb.2 b hb).trans z) hd ?_;refine⟨by rw[cF O.ne];exact ho,?_,O.ne,J.obj,_,J.ns,λg=>?_,λg hg=>?_⟩
 ·have:=ke f y fs;omega
 ·show gY ((dh f y fs).lookup g) (if g=f then some u else mA g);rw[dO];by_cases q:g=f
  ·rw[J1 q,J1 q];exact ry
  ·rw[if_neg q,if_neg q];exact r g
 ·by_cases q:g=f
  ·rw[q];exact(vv f y fs).1
  ·refine(vv f y fs).2 g (U g λz=>hg ?_);show(if g=f then some u else mA g)=none;rw[if_neg q];exact z
theorem Inv.made (I:Inv X pins σ H s):Inv X pins σ (upd (upd H s.heap.objs.size (.own (s.heap.objs.size+1))) (s.heap.objs.size+1) (.ins C s.heap.objs.size []))
  {s with heap:=(s.heap.push Mu).push (Nv C s.heap.objs.size)}:=by
 have J:(s.heap.push Mu).get? s.heap.objs.size=some Mu:=Heap.get?_push_size s.heap rfl
 have U:((s.heap.push Mu).push (Nv C s.heap.objs.size)).get? (s.heap.objs.size+1)=some (Nv C s.heap.objs.size):=by
  have:=Heap.get?_push_size (s.heap.push Mu) (o:=Nv C s.heap.objs.size) rfl
  rwa [Mo] at this
 have e3:(s.heap.push Mu).Ns s.heap.objs.size (λ_=>none):=⟨Mu,#[],_,J,rfl,(λe he=>absurd he (by simp)),λ_=>rfl⟩
 have I1:=I.laid (a:=s.heap.objs.size) (o:= .own (s.heap.objs.size+1)) (h':=s.heap.push Mu) (t':=s.toks) (λb u q=>Heap.get?_push_of_some _ q) (JY _) ⟨_,J⟩;refine I1.laid (a:=s.heap.objs.size+1) (o:= .ins C s.heap.objs.size []) (t':=s.toks) (λb u q=>Heap.get?_push_of_some _ q) (Nat.le_of_eq (Mo _ _)) ?_;have ne:s.heap.objs.size≠s.heap.objs.size+1:=Kr (LJ _);refine⟨by rw[cF ne,b6],Ks _,ne,U,λ_=>none,(Heap.Ns1.of_empty e3).at λo q=>Heap.get?_push_of_some _ q,λ_=>Mi,λy hy=>absurd rfl hy⟩
theorem Ct{prog:Ka}{w:Ku}{env:Env}{e:KI}{f:Str}{pos:Pos}{s:JZ}{Q:JT->JZ->Prop}(hb:MI e f env (eval e env)=eval e env)
  (h:Kq (Ko prog w) A (eval e env) (λo s₁=>Kq (Ko prog w) A (getAttr o f true) Q E s₁) E s):Kq (Ko prog w) A (eval (.Attribute e f pos) env) Q E s:=
 Attribute_any_ h (by rw[arm_eval_Attribute,hb])
end
noncomputable def GY(K:Kl)(ta:TE)(f:Str):TE:=λσ H Q=>ta σ H λx H1=>∃ a C dx fs v,x= .ref a/\H1 a=some (.ins C dx fs)/\gB K C/\gg K C f/\fs.lookup f=some v/\Q v H1
noncomputable def Eb(K:Kl)(ta tv:TE)(f:Str):TS:=λD σ H=>tv σ H λy H1=>ta σ H1 λx H2=>∃ a C dx fs,x= .ref a/\H2 a=some (.ins C dx fs)/\gB K C/\gg K C f/\fs.length<1000/\
 D.nx σ (upd H2 a (.ins C dx (dh f y fs)))
noncomputable def Jk(X:Cx)(op:O5)(rd:V->V->Hp->VK->Prop):Prop:=
 ∀(pins:JP (JR×Obj)) (s:JZ) (σ:St) (H:Hp) (x y:V) (u v:JT) (Q:VK),Inv X pins σ H s->RelV x u->RelV y v->rd x y H Q->Kq (Ko X.prog X.w) X.A (inplaceOp op u v) (EP X pins σ Q) X.xe s
noncomputable def Jx(K:Kl)(ta tv:TE)(rd:V->V->Hp->VK->Prop)(f:Str):TS:=λD σ H=>ta σ H λx H1=>∃ a C dx fs v,x= .ref a/\H1 a=some (.ins C dx fs)/\gB K C/\gg K C f/\fs.lookup f=some v/\
 tv σ H1 λy H2=>rd v y H2 λz U=>∃ J fs',U a=some (.ins C J fs')/\fs'.length<1000/\D.nx σ (upd U a (.ins C J (dh f z fs')))
section
variable {X : Cx} {o e value : KI} {f : Str} {pos pos' tpos : Pos} {ta tv : TE}
theorem df(he:PE X e ta)(hb:MI e f X.env (eval e X.env)=eval e X.env):PE X (.Attribute e f pos) (GY X.K ta f):=by
 intro pins s σ H Q I h;refine Ct hb (cv (he pins s σ H _ I h) λu s1 ⟨x,H1,J,U,a,C,dx,fs,v,ex,ea,c,n,l,q⟩=>?_);subst ex;obtain rfl:u=Ky a:=U;exact ye J ea c n l λu' s2 I2 ru=>⟨v,H1,I2,ru,q⟩
theorem fF(ha:PE X o ta)(hv:PE X value tv)(hs:Ol value (some (.Attribute o f pos')) pos.line X.env=pure false):PS X (.Assign [.Attribute o f pos'] value pos) (Eb X.K ta tv f):=by
 intro pins s σ H D I h;refine plainObj_wpAny_Assign_Attribute (cv (hv pins s σ H _ I h) λu s1 ⟨y,H1,J,U,q⟩=>cv (ha pins s1 σ H1 _ J q) λov s2 ⟨x,H2,I2,rx,a,C,dx,fs,ex,ea,c,n,l,q2⟩=>?_) hs;subst ex;obtain rfl:ov=Ky a:=rx;exact xu I2 ea c n l U λs3 I3=>⟨σ,_,I3,q2⟩
theorem Fi{op:O5}{rd:V->V->Hp->VK->Prop}(ha:PE X o ta)(hv:PE X value tv)(hop:Jk X op rd):PS X (.AugAssign (.Attribute o f tpos) op value pos) (Jx X.K ta tv rd f):=by
 intro pins s σ H D I h;refine wpAny_AugAssign_AttributeAny (cv (ha pins s σ H _ I h) λU s1 ⟨x,H1,I1,rx,a,C,dx,fs,v,ex,ea,c,n,l,q⟩=>?_);subst ex;obtain rfl:U=Ky a:=rx;refine ye I1 ea c n l λu s2 I2 ru=>cv (hv pins s2 σ H1 _ I2 q) λw3 s3 ⟨y,H2,I3,ry,q3⟩=>cv (hop pins s3 σ H2 v y u w3 _ I3 ru ry q3) λw4 s4 ⟨z,H3,I4,rz,aa,fs',J,l',q4⟩=>?_
 exact xu I4 J c n l' rz λs5 I5=>⟨σ,_,I5,q4⟩
end
section
variable {X : Cx} {pins : JP (JR × Obj)} {σ : St} {H : Hp} {s : JZ} {A : K4} {E : JT -> JZ -> Prop} {Q : JT -> JZ -> Prop} {c : JT} {b : KS}
inductive gA (K : Kl) (H : Hp) : V -> JT -> Prop where
 |non : gA K H .non (.type "NoneType")
 |bl (x : KS) : gA K H (.bl x) (.type "bool")
 |int (i : Int) : gA K H (.int i) (.type "int")
 |str (x : Str) : gA K H (.str x) (.type "str")
 |flt (x : UInt64) : gA K H (.flt x) (.type "float")
 |lst {a : JR} {xs : JP V} (e : H a = some (.lst xs)) : gA K H (.ref a) (.type "list")
 |frz {a : JR} {o : Obj} {xs : JP V} (e : H a = some (.frz o (.lst xs))) : gA K H (.ref a) (.type "list")
 |tup {a : JR} {xs : JP V} (e : H a = some (.tup xs)) : gA K H (.ref a) (.type "tuple")
 |dK {a : JR} {kvs : JP (Key × V)} (e : H a = some (.dK kvs)) : gA K H (.ref a) (.type "dict")
 |dT {a : JR} {kvs : JP (JP Key × V)} (e : H a = some (.dT kvs)) : gA K H (.ref a) (.type "dict")
 |ins {a C dx : JR} {fs : JP (Str × V)} (e : H a = some (.ins C dx fs)) (cl : gB K C) (ha : Li K (.ref C) "__class__" = some (some (.builtin "object.__class__")))
   (hn : W.specialIn K (.builtin "object.__class__") "__get__" = some (some (.builtin "getset_descriptor.__get__"))) (htk : W.takesIn K (.builtin "object.__class__") = some true)
   (hm : W.mroIn K C (.type "object") = some true) : gA K H (.ref a) (.ref C)
theorem AQ{x:V}{u t:JT}(I:Inv X pins σ H s)(rx:RelV x u)(ty:gA X.K H x t)(e:Lw X.K t c=some b)(h:∀ tk,Q (.bool b) {s with toks:=tk}):
  Kq (Ko X.prog X.w) A (call (.builtin "isinstance") [u,c]) Q E s:=by
 cases ty with
 |non=>cases (show u=My from rx);exact MJ W.kitx_none I.kIn Mi e (λz=>nomatch z) h
 |bl y=>cases (show u=Oy y from rx);exact MJ W.kitx_bool I.kIn Mi e (λz=>nomatch z) h
 |int i=>obtain⟨t,q⟩:=(show ∃ t,u=Nu i t from rx);cases q;exact MJ W.kitx_int I.kIn Mi e (λz=>nomatch z) h
 |str y=>obtain⟨t,q⟩:=(show ∃ t,u=NU y t from rx);cases q;exact MJ W.kitx_str I.kIn Mi e (λz=>nomatch z) h
 |flt y=>obtain⟨t,q⟩:=(show ∃ t,u=Value.float y t from rx);cases q;exact MJ W.kitx_float I.kIn Mi e (λz=>nomatch z) h
 | @lst a xs U=>
  cases (show u=Ky a from rx);obtain⟨_,_,n,_,h1⟩:=(show eY X.prog X.w H s.heap a (.lst xs) from I.hok a _ U);exact MJ W.kitx_list I.kIn ⟨_,h1,rfl⟩ e (λz=>nomatch z) h
 | @frz a ob xs U=>
  cases (show u=Ky a from rx);obtain⟨_,_,_,n,_,h1⟩:=(show eY X.prog X.w H s.heap a (.frz ob (.lst xs)) from I.hok a _ U);exact MJ W.kitx_list I.kIn ⟨_,h1,rfl⟩ e (λz=>nomatch z) h
 | @tup a xs U=>
  cases (show u=Ky a from rx);obtain⟨_,_,_,p⟩:=(show eY X.prog X.w H s.heap a (.tup xs) from I.hok a _ U);obtain⟨o,h1,h2,_⟩:=p;exact MJ W.kitx_tuple I.kIn ⟨o,h1,h2⟩ e (λz=>nomatch z) h
 | @dK a kvs U=>
  cases (show u=Ky a from rx);obtain⟨_,_,vs,_,p⟩:=(show eY X.prog X.w H s.heap a (.dK kvs) from I.hok a _ U);obtain⟨o,es,ep,h1,h2,_⟩:=p;exact MJ W.kitx_dict I.kIn ⟨o,h1,h2.1⟩ e (λz=>nomatch z) h
 | @dT a kvs U=>
  cases (show u=Ky a from rx);obtain⟨_,_,xs,_,o,es,ep,h1,h2,_⟩:=(show eY X.prog X.w H s.heap a (.dT kvs) from I.hok a _ U);exact MJ W.kitx_dict I.kIn ⟨o,h1,h2.1⟩ e (λz=>nomatch z) h
 | @ins a C dx fs U cl ha hn htk hm=>
  cases (show u=Ky a from rx);obtain⟨mA,O,_⟩:=qw I.hok U;obtain⟨od,J,_⟩:=O.look;exact MJ (W.kitx_own (cl.get _) cl.hd ha hn htk hm) I.kIn J e (λz=>nomatch z) h
end
structure eG (k : Nat) (A : K4) : Prop where
 hd : A.handled = none
 dp : A.depth+3*k+5<OR
 un : A.units+16*k+200<Pc
theorem eG.mono {j k:Nat}{A:K4}(r:eG k A)(h:j<=k):eG j A:=⟨r.hd,by have:=r.dp;omega,by have:=r.un;omega⟩
theorem eG.deeper {k:Nat}{A:K4}(r:eG (k+1) A)(env:Env):eG k (A.deeper env):=
 ⟨r.hd,by have:=r.dp;show A.depth+1+3*k+5<_;omega,by have:=r.un;show A.units+3+16*k+200<_;omega⟩
theorem HI{A:K4}{C:JR}{us:JP JT}{kw:JP (Str×JT)}:(A.under (.builtin "type.__call__" ⟨.ref C::us,kw⟩)).depth=A.depth+1:=by
 first|rfl|simp[Around.under,Code.weight,Code.isCreation,Code.isGuard,Code.isCaller,Code.frames,Code.isFrame,guardIds]
theorem Gq{A:K4}{C:JR}{us:JP JT}{kw:JP (Str×JT)}:(A.under (.builtin "type.__call__" ⟨.ref C::us,kw⟩)).units=A.units+1:=by
 first|rfl|simp[Around.under,Code.cUnits,Code.frames,Code.isFrame]
theorem eG.make {k:Nat}{A:K4}(r:eG (k+1) A)(C:JR)(us:JP JT)(kw:JP (Str×JT)):eG k (A.under (.builtin "type.__call__" ⟨.ref C::us,kw⟩)):=
 ⟨r.hd,by have:=r.dp;rw[HI];omega,by have:=r.un;rw[Gq];omega⟩
theorem eG.depth {k:Nat}{A:K4}(r:eG k A):A.depth<OR:=by have:=r.dp;omega
noncomputable def qk:TA:=λ_ H Q=>Q [] H
noncomputable def ub(ta:TE)(tr:TA):TA:=λσ H Q=>ta σ H λx H1=>tr σ H1 λxs H2=>Q (x::xs) H2
section
variable {X : Cx} {e : KI} {es : JP KI} {te : TE} {t : TA} {pos : Pos}
theorem bV:PA X [] qk:=λ_ _ _ _ H Q I h=>Ni ⟨[],H,I,.nil,h⟩
theorem bU(ha:PE X e te)(hr:PA X es t)(hs:KA (e::es) X.env=(false,eval e X.env)::KA es X.env:=by rfl):PA X (e::es) (ub te t):=by
 intro pos pins s σ H Q I h;rw[hs];show Kq _ _ (spliced ((false,eval e X.env)::Mh pos (KA es X.env))) _ _ s;refine L6 (cv (ha pins s σ H _ I h) λu s1 ⟨x,H1,J,r1,U⟩=>?_);exact cv (hr pos pins s1 σ H1 _ J U) λus s2 ⟨xs,H2,I2,r2,q2⟩=>⟨x::xs,H2,I2,.cons r1 r2,q2⟩
noncomputable def CW(t:TA):TE:=λσ H Q=>t σ H λxs H1=>xs.length<=sizeLine/\∀ p,H1 p=none->Q (.ref p) (upd H1 p (.tup xs))
noncomputable def C7(t:TA):TE:=λσ H Q=>t σ H λxs H1=>xs.length<=sizeLine/\∀ p,H1 p=none->Q (.ref p) (upd H1 p (.lst xs))
theorem dv{x1}(h:PA X es t):PE X (.Tuple es x1 pos) (CW t):=by
 intro pins s σ H Q I U;refine wpAny_Tuple_spliced (cv (h pos pins s σ H _ I U) λus s1 ⟨xs,H1,J,r,z,q⟩=>⟨by rw[<-r.length];exact z,?_⟩);have hf:H1 s1.heap.objs.size=none:=J.hok.fresh (JY _);refine⟨.ref s1.heap.objs.size,upd H1 s1.heap.objs.size (.tup xs),J.laid (t':=s1.toks) (λb u e=>Heap.get?_push_of_some _ e) (JY _) ?_,rfl,q _ hf⟩;exact⟨z,us,r,⟨_,Heap.get?_push_size _ rfl,rfl,_,rfl⟩⟩
theorem eZ(h:PA X es t):PE X (.List es pos) (C7 t):=by
 intro pins s σ H Q I U;refine wpAny_List_spliced (cv (h pos pins s σ H _ I U) λus s1 ⟨xs,H1,J,r,z,q⟩=>⟨by rw[<-r.length];exact z,?_⟩);have hf:H1 s1.heap.objs.size=none:=J.hok.fresh (JY _);refine⟨.ref s1.heap.objs.size,upd H1 s1.heap.objs.size (.lst xs),J.laid (t':=s1.toks) (λb u e=>Heap.get?_push_of_some _ e) (JY _) ?_,rfl,q _ hf⟩;exact⟨z,us,0,r,Heap.get?_push_size _ rfl⟩
end
noncomputable abbrev Sp:=JP V->Hp->VK->XK->Prop
noncomputable abbrev gv:=JP Env->Hp->JZ->XK->JT->JZ->Prop
structure kQ (P : Ka) (w : Ku) (K : Kl) (mg : Str -> JW JT) (base : KP) (A : K4) (outer : JP Env) (s : JZ) (H : Hp) : Prop where
 frames : A.frames = some outer
 mod : Mod K mg base
 bs : ∀ b o, base.get? b = some o -> s.heap.get? b = some o /\ H b = none
 bsz : base.objs.size<=s.heap.objs.size
 funs : s.heap.FunFrames base outer
 frf : ∀ b ∈ dz outer, H b = none
 hok : eK P w H s.heap
 bare : NQ s.gens
noncomputable def CE(outer:JP Env)(P:Ka)(w:Ku)(H:Hp)(s:JZ)(Q:VK)(u:JT)(s':JZ):Prop:=
 ∃ v H',s'.os=s.os/\NQ s'.gens/\Un (dz outer) [] H H' s.heap s'.heap/\eK P w H' s'.heap/\RelV v u/\Q v H'
noncomputable def CR(CX:gv)(outer:JP Env)(P:Ka)(w:Ku)(H:Hp)(s:JZ)(Q:VK)(E:XK)(r:Result)(s':JZ):Prop:=
 match r with
 |.ok (.ret u)=>CE outer P w H s Q u s'
 |.ok _=>LG
 |.error e=>CX outer H s E e s'
structure bX (P : Ka) (w : Ku) (K : Kl) (mg : Str -> JW JT) (base : KP) (CX : gv) (k : Nat) (f : JR) (fd : J2) (ps : JP Str) (sp : Sp) : Prop where
 len : ∀ vs H Q E, sp vs H Q E -> vs.length = ps.length
 run : ∀ (A : K4) (outer : JP Env) (s : JZ) (H : Hp) (args : Args) (us : JP JT) (vs : JP V) (Q : VK) (E : XK), eG k A -> kQ P w K mg base A outer s H -> O1 s fd args (ps.zip us) -> Vals vs us -> sp vs H Q E ->
  Nz (Ko P w) A (.call (.ref f) args) (CR CX outer P w H s Q E) s
theorem bX.mono {P:Ka}{w:Ku}{K:Kl}{mg:Str->JW JT}{base:KP}{CX:gv}{j k:Nat}{f:JR}{fd:J2}{ps:JP Str}{sp:Sp}(F:bX P w K mg base CX j f fd ps sp)(h:j<=k):
  bX P w K mg base CX k f fd ps sp:=⟨F.len,λA outer s H args us vs Q E J=>F.run A outer s H args us vs Q E (J.mono h)⟩
theorem bX.imp {P:Ka}{w:Ku}{K:Kl}{mg:Str->JW JT}{base:KP}{CX:gv}{k:Nat}{f:JR}{fd:J2}{ps:JP Str}{sp sp':Sp}(F:bX P w K mg base CX k f fd ps sp)
  (h:∀ vs H Q E,sp' vs H Q E->sp vs H Q E):bX P w K mg base CX k f fd ps sp':=
 ⟨λvs H Q E q=>F.len vs H Q E (h _ _ _ _ q),λA outer s H args us vs Q E J he hb U I=>F.run A outer s H args us vs Q E J he hb U (h _ _ _ _ I)⟩
theorem kQ.make {P:Ka}{w:Ku}{K:Kl}{mg:Str->JW JT}{base:KP}{A:K4}{outer:JP Env}{s:JZ}{H:Hp}(e:kQ P w K mg base A outer s H)(C:JR)(us:JP JT)(kw:JP (Str×JT)):
  kQ P w K mg base (A.under (.builtin "type.__call__" ⟨.ref C::us,kw⟩)) outer s H:=⟨by first|exact e.frames|(simpa[Around.under,Code.envs,Code.isFrame,pushEnvs] using e.frames),e.mod,e.bs,e.bsz,e.funs,e.frf,e.hok,e.bare⟩
section
variable {X : Cx} {pins : JP (JR × Obj)} {σ : St} {H : Hp} {s s' : JZ}
theorem Inv.env0 (I:Inv X pins σ H s):kQ X.prog X.w X.K X.mg X.base X.A X.stack s H:=
 ⟨I.ok.frames,I.ok.mod,I.bs,Kj I.ok.bsz I.sz,I.stack,I.stkFree,I.hok,I.bare⟩
theorem Inv.after {Q:VK}{u:JT}(I:Inv X pins σ H s)(h:CE X.stack X.prog X.w H s Q u s'):EP X pins σ Q u s':=by
 obtain⟨v,H',os,bare,un,hok,r,q⟩:=h;obtain⟨U,g,d,t,J⟩:=s';obtain rfl:J=s.os:=os;exact⟨v,H',I.call (h':=U) (g':=g) (d':=d) (t':=t) (ch:=[]) un hok bare (λb z=>absurd z (by simp)),r,q⟩
end
noncomputable def Ba(sp:Sp)(dvs:JP V)(E:XK)(t:TA):TE:=λσ H Q=>t σ H λvs H1=>sp (vs++dvs) H1 Q E
noncomputable def zD(C:JR)(m:Str)(sp:Sp)(dvs:JP V)(E:XK)(ta:TE)(t:TA):TE:=λσ H Q=>ta σ H λx H1=>∃ a dx fs,x= .ref a/\H1 a=some (.ins C dx fs)/\fs.lookup m=none/\
 t σ H1 λvs H2=>sp (x::(vs++dvs)) H2 Q E
noncomputable def za(C:JR)(sp:Sp)(dvs:JP V)(E:XK)(t:TA):TE:=λσ H Q=>t σ H λvs H1=>∀ x dx,H1 x=none->H1 dx=none->dx≠x->
 sp (.ref x::(vs++dvs)) (upd (upd H1 dx (.own x)) x (.ins C dx [])) (λv H2=>v= .non/\Q (.ref x) H2) E
noncomputable def Binds(K:Kl)(fd:J2)(ps:JP Str)(ds:JP JT):Prop:=
 ∀(s:JZ) (us:JP JT),K.In s.heap->(us++ds).length=ps.length->O1 s fd ⟨us,[]⟩ (ps.zip (us++ds))
theorem Binds.all {K:Kl}{fd:J2}{ps:JP Str}(h:∀ us:JP JT,us.length=ps.length->bindArgs fd ⟨us,[]⟩=pure (ps.zip us)):Binds K fd ps []:=λs us _ J=>by
 rw[KR] at J ⊢;exact .of_eq (h us J)
noncomputable def Passes(CX:gv)(X:Cx)(E:XK):Prop:=∀(pins:JP (JR×Obj)) (σ:St) (H:Hp) (s:JZ) (e:JT) (s':JZ),Inv X pins σ H s->CX X.stack H s E e s'->X.xe e s'
section
variable {X : Cx} {CX : gv} {k : Nat} {f C : JR} {fd : J2} {ps : JP Str} {sp : Sp} {dvs : JP V} {ds : JP JT} {E : XK} {x m : Str} {p pos apos : Pos} {e o : KI} {es : JP KI} {ta : TE} {t : TA}
theorem rC{pins:JP (JR×Obj)}{σ:St}{H:Hp}{s:JZ}{Q:VK}{us:JP JT}{vs:JP V}(F:bX X.prog X.w X.K X.mg X.base CX k f fd ps sp)(hr:eG k X.A)(hb:Binds X.K fd ps ds)(hd:Vals dvs ds)(hx:Passes CX X E)
  (I:Inv X pins σ H s)(r:Vals vs us)(h:sp (vs++dvs) H Q E):Kq (Ko X.prog X.w) X.A (call (.ref f) us) (EP X pins σ Q) X.xe s:=by
 have r2:Vals (vs++dvs) (us++ds):=r.append hd
 have U:(us++ds).length=ps.length:=by rw[<-r2.length];exact F.len _ _ _ _ h
 refine O4 (Nj (F.run X.A X.stack s H ⟨us,[]⟩ (us++ds) (vs++dvs) Q E hr I.env0 (hb s us I.kIn U) r2 h) λr s' J=>?_);cases r with
 |error e=>exact hx pins σ H s e s' I J
 |ok fl=>
  cases fl with
  |ret u=>exact I.after J
  |next=>exact La J
  |brk=>exact La J
  |cont=>exact La J
theorem cQ(F:bX X.prog X.w X.K X.mg X.base CX k f fd ps sp)(hr:eG k X.A)(hg:Gl X x)(hm:X.mg x=some (.ref f))(hk:ME X.K (.ref f)=true)(hb:Binds X.K fd ps ds)(hd:Vals dvs ds)(hx:Passes CX X E)
  (ha:PA X (e::es) t)(hdb:(x==("__debug__":Str))=false:=by decide)(he:KA (e::es) X.env=(false,eval e X.env)::KA es X.env:=by rfl)(hpl:(Mh pos (KA es X.env)).any (·.1)=false:=by rfl):
  PE X (.Call (.Name x p) (e::es) [] pos) (Ba sp dvs E t):=by
 intro pins s σ H Q I h;refine LU (jw I hg hm ?_ hdb);refine NR (h₀:=X.base) I.ok.mod.kin hk (cv (ha pos pins s σ H _ I h) λus s1 ⟨vs,H1,J,r,q⟩=>⟨J.kIn,?_⟩) he hpl;exact rC F hr hb hd hx J r q
theorem mx{pl:Sem KS}(he:PE X o ta)(c:gB X.K C)(hm:Meth X.K C m f)(F:bX X.prog X.w X.K X.mg X.base CX k f fd ps sp)(hr:eG k X.A)(hb:Binds X.K fd ps ds)(hd:Vals dvs ds)(hx:Passes CX X E)(ha:PA X (e::es) t)
  (hst:KA (e::es) X.env=(false,eval e X.env)::KA es X.env:=by rfl)(hpl:(Mh pos (KA es X.env)).any (·.1)=false:=by rfl)
  (ht:eval (.Call (.Attribute o m apos) (e::es) [] pos) X.env=(do
   let ov<-eval o X.env
   standAt apos.atName
   let (f,first)<-OZ [ov] (O0 ov m pl)
   callWith pos f first (Mh pos (KA (e::es) X.env)) (O6 pos (Ob [] X.env))):=by rfl):
  PE X (.Call (.Attribute o m apos) (e::es) [] pos) (zD C m sp dvs E ta t):=by
 intro pins s σ H Q I h;refine OI (pl:=pl) (cv (he pins s σ H _ I h) λu s1 ⟨x,H1,J,rx,a,dx,fs,ex,ea,l,q⟩=>?_) ht;subst ex;obtain rfl:u=Ky a:=rx;refine ux J ea c hm l ?_;refine NR (first:=[.ref a]) (h₀:=X.base) I.ok.mod.kin hm.kp (cv (ha pos pins s1 σ H1 _ J q) λus s2 ⟨vs,H2,U,r,q2⟩=>⟨U.kIn,?_⟩) hst hpl;exact rC (us:= .ref a::us) (vs:= .ref a::vs) F hr hb hd hx U (.cons rfl r) q2
theorem nO{pl:Sem KS}(he:PE X o ta)(c:gB X.K C)(hm:Meth X.K C m f)(F:bX X.prog X.w X.K X.mg X.base CX k f fd ps sp)(hr:eG k X.A)(hb:Binds X.K fd ps ds)(hd:Vals dvs ds)(hx:Passes CX X E)
  (ht:eval (.Call (.Attribute o m apos) [] [] pos) X.env=(do
   let ov<-eval o X.env
   standAt apos.atName
   let (f,first)<-OZ [ov] (O0 ov m pl)
   callWith pos f first (Mh pos (KA [] X.env)) (O6 pos (Ob [] X.env))):=by rfl):
  PE X (.Call (.Attribute o m apos) [] [] pos) (zD C m sp dvs E ta qk):=by
 intro pins s σ H Q I h;refine OI (pl:=pl) (cv (he pins s σ H _ I h) λu s1 ⟨x,H1,J,U,a,dx,fs,ex,ea,l,q⟩=>?_) ht;subst ex;obtain rfl:u=Ky a:=U;refine ux J ea c hm l ?_;exact W.callWith_K0 (first:=[.ref a]) J.kIn hm.kp (rC (us:=[.ref a]) (vs:=[.ref a]) F hr hb hd hx J (.cons rfl .nil) q)
structure Mk (K : Kl) (C f : JR) : Prop where
 makes : W.makesIn K C = true
 init : Li K (.ref C) "__init__" = some (some (.ref f))
 fn : W.isFn K (.ref f) = true
 kp : ME K (.ref C) = true
theorem z9{pins:JP (JR×Obj)}{σ:St}{H:Hp}{s:JZ}{Q:VK}{us:JP JT}{vs:JP V}(M:Mk X.K C f)(F:bX X.prog X.w X.K X.mg X.base CX k f fd ps sp)(hr:eG (k+1) X.A)(hb:Binds X.K fd ps ds)(hd:Vals dvs ds)
  (hx:Passes CX X E)(I:Inv X pins σ H s)(r:Vals vs us)
  (h:∀ x dx,H x=none->H dx=none->dx≠x->sp (.ref x::(vs++dvs)) (upd (upd H dx (.own x)) x (.ins C dx [])) (λv H2=>v= .non/\Q (.ref x) H2) E):
  Kq (Ko X.prog X.w) X.A (call (.ref C) us) (EP X pins σ Q) X.xe s:=by
 have hq:=h (s.heap.objs.size+1) s.heap.objs.size (I.hok.fresh (MU _)) (I.hok.fresh (JY _)) (Kr (LJ _))
 have U:=Inv.made (C:=C) I
 have r2:Vals (V.ref (s.heap.objs.size+1)::(vs++dvs)) (Ky (s.heap.objs.size+1)::(us++ds)):= .cons rfl (r.append hd)
 have hl:(Ky (s.heap.objs.size+1)::us++ds).length=ps.length:=by
  have e:=r2.length;rw[F.len _ _ _ _ hq] at e;exact e.symm
 refine O4 (Er (f:=f) I.kIn M.makes M.init (beq_iff_eq.mp M.fn) (Nj (F.run _ X.stack _ _ ⟨Ky (s.heap.objs.size+1)::us,[]⟩ (Ky (s.heap.objs.size+1)::(us++ds)) _ _ E (hr.make C us [])
  (U.env0.make C us []) (hb _ (Ky (s.heap.objs.size+1)::us) U.kIn hl) r2 hq) λr s' J=>?_));cases r with
 |error e=>exact hx pins σ _ _ e s' U J
 |ok fl=>
  cases fl with
  |ret u=>
   obtain⟨v,H',I3,rv,ev,q3⟩:=U.after J;subst ev;exact⟨rv,⟨V.ref (s.heap.objs.size+1),H',I3,rfl,q3⟩⟩
  |next=>exact La J
  |brk=>exact La J
  |cont=>exact La J
theorem my(M:Mk X.K C f)(F:bX X.prog X.w X.K X.mg X.base CX k f fd ps sp)(hr:eG (k+1) X.A)(hg:Gl X x)(hm:X.mg x=some (.ref C))(hb:Binds X.K fd ps ds)(hd:Vals dvs ds)(hx:Passes CX X E)
  (ha:PA X (e::es) t)(hdb:(x==("__debug__":Str))=false:=by decide)(he:KA (e::es) X.env=(false,eval e X.env)::KA es X.env:=by rfl)(hpl:(Mh pos (KA es X.env)).any (·.1)=false:=by rfl):
  PE X (.Call (.Name x p) (e::es) [] pos) (za C sp dvs E t):=by
 intro pins s σ H Q I h;refine LU (jw I hg hm ?_ hdb);refine NR (h₀:=X.base) I.ok.mod.kin M.kp (cv (ha pos pins s σ H _ I h) λus s1 ⟨vs,H1,J,r,q⟩=>⟨J.kIn,?_⟩) he hpl;exact z9 M F hr hb hd hx J r q
theorem wJ(M:Mk X.K C f)(F:bX X.prog X.w X.K X.mg X.base CX k f fd ps sp)(hr:eG (k+1) X.A)(hg:Gl X x)(hm:X.mg x=some (.ref C))(hb:Binds X.K fd ps ds)(hd:Vals dvs ds)(hx:Passes CX X E)
  (hdb:(x==("__debug__":Str))=false:=by decide):PE X (.Call (.Name x p) [] [] pos) (za C sp dvs E qk):=by
 intro pins s σ H Q I h;refine LU (jw I hg hm ?_ hdb);exact W.callWith_K0 I.kIn M.kp (z9 (us:=[]) M F hr hb hd hx I .nil h)
end
section
variable {X : Cx} {CX : gv} {k : Nat} {f C : JR} {fd : J2} {ps ks : JP Str} {sp : Sp} {E : XK} {x m : Str} {p pos apos kpos : Pos} {e o : KI} {es : JP KI} {kws : JP Keyword} {te ta : TE} {t tk : TA} {nm : JW Str}
variable {g : JP JT -> JP JT -> JP JT} {gV : JP V -> JP V -> JP V}
end
structure da (N P : JP Str) (sc : MS) : Prop where
 kind : sc.kind = .function
 co : sc.isCoroutine = false
 gen : sc.isGenerator = false
 nd : N.Nodup
 pre : N.take P.length = P
 par : ∀ x ∈ P, sc.names.lookup x = some .local \/ sc.names.lookup x = some .cell
 nofree : ∀ y ∈ sc.names, y.2 ≠ .free
theorem Aa{kindOf:Str->JW MV}{x:Str}:∀{binds:JP (Str×JT)} {m:Str->JW JT},(∀ v,(x,v)∉binds)->bindL kindOf binds m x=m x
 |[],_,_=>rfl
 |(n,v)::r,m,h=>by
  unfold bindL;rw[Aa λw hw=>h w (J0 _ hw)];split
  ·have:x≠n:=by rintro rfl;exact h v KG
   simp[this]
  ·rfl
theorem zw{kindOf:Str->JW MV}{x:Str}:∀{binds:JP (Str×JT)} {m:Str->JW JT},(∀ v,(x,v)∉binds)->bindC kindOf binds m x=m x
 |[],_,_=>rfl
 |(n,v)::r,m,h=>by
  unfold bindC;rw[zw λw hw=>h w (J0 _ hw)];split
  ·rfl
  ·have:x≠n:=by rintro rfl;exact h v KG
   simp[this]
theorem zr{kindOf:Str->JW MV}{x:Str}{v:JT}:∀{P:JP Str} {vs:JP JT} {i:Nat} {m:Str->JW JT},P.Nodup->P[i]? =some x->vs[i]? =some v->kindOf x=some .local->
  bindL kindOf (P.zip vs) m x=some v
 |[],_,_,_,_,h,_,_=>by simp at h
 |_::_,[],_,_,_,_,h,_=>by simp at h
 |p::P,w::vs,0,m,nd,h1,h2,hk=>by
  simp at h1 h2;subst h1;subst h2;show bindL kindOf ((p,w)::P.zip vs) m p=_;unfold bindL;rw[Aa λv J=>(List.nodup_cons.mp nd).1 (NI J).1,J1 hk];simp
 |p::P,w::vs,i+1,m,nd,h1,h2,hk=>by
  show bindL kindOf ((p,w)::P.zip vs) m x=_;unfold bindL;exact zr (i:=i) (List.nodup_cons.mp nd).2 (by simpa using h1) (by simpa using h2) hk
theorem Aw{kindOf:Str->JW MV}{x:Str}{v:JT}:∀{P:JP Str} {vs:JP JT} {i:Nat} {m:Str->JW JT},P.Nodup->P[i]? =some x->vs[i]? =some v->kindOf x≠some .local->
  bindC kindOf (P.zip vs) m x=some v
 |[],_,_,_,_,h,_,_=>by simp at h
 |_::_,[],_,_,_,_,h,_=>by simp at h
 |p::P,w::vs,0,m,nd,h1,h2,hk=>by
  simp at h1 h2;subst h1;subst h2;show bindC kindOf ((p,w)::P.zip vs) m p=_;unfold bindC;rw[zw λv J=>(List.nodup_cons.mp nd).1 (NI J).1,if_neg hk];simp
 |p::P,w::vs,i+1,m,nd,h1,h2,hk=>by
  show bindC kindOf ((p,w)::P.zip vs) m x=_;unfold bindC;exact Aw (i:=i) (List.nodup_cons.mp nd).2 (by simpa using h1) (by simpa using h2) hk
noncomputable def start(N:JP Str)(vs:JP V):St:=vs.map some++List.replicate (N.length-vs.length) none
noncomputable def eO(CX:gv)(P:Ka)(w:Ku)(K:Kl)(mg:Str->JW JT)(base:KP)(N:JP Str)(qual:Str)(scope:MS)(f:JR)(cd:JT)(A:K4)(outer:JP Env)(s:JZ)(H:Hp)(E:XK):Cx where
 prog:=P
 w:=w
 K:=K
 mg:=mg
 base:=base
 A:=A.deeper (Mz qual scope s.heap.objs.size f cd)
 N:=N
 s₀:=s
 H₀:=H
 env:=Mz qual scope s.heap.objs.size f cd
 outer:=outer
 stack:=Mz qual scope s.heap.objs.size f cd::outer
 ex:=[]
 calm:=true
 fn:=λ_=>true
 pn:=[]
 xe:=λe s'=>Kq (Ko P w) (A.deeper (Mz qual scope s.heap.objs.size f cd)) (leaving (Mz qual scope s.heap.objs.size f cd) e) (λ_ J=>CX outer H s E e J) (λU J=>CX outer H s E U J) s'
theorem yx{sc:MS}{n:Nat}{x:Str}(h:sc.names.lookup x=some .cell):∃ c,(cellsFrom n sc.names []).lookup x=some c:=by
 have q:=Oq sc.names n [] (.inl h);exact Option.isSome_iff_exists.mp q
theorem yV{CX:gv}{P:Ka}{w:Ku}{K:Kl}{mg:Str->JW JT}{base:KP}{N ps:JP Str}{qual:Str}{scope:MS}{f:JR}{cd:JT}{A:K4}{outer:JP Env}{s s1:JZ}{H:Hp}{E:XK}{us:JP JT}{vs:JP V}
  (S:da N ps scope)(hd:A.handled=none)(e0:kQ P w K mg base A outer s H)(hl:vs.length=ps.length)(r:Vals vs us)
  (x:InCallC s s.heap.objs.size (bindL (Mz qual scope s.heap.objs.size f cd).kindOf (ps.zip us) λ_=>none) (cellsFrom (s.heap.objs.size+1) scope.names []) (bindC (Mz qual scope s.heap.objs.size f cd).kindOf (ps.zip us) λ_=>none) s1):
  Inv (eO CX P w K mg base N qual scope f cd A outer s H E) [] (start N vs) H s1:=by
 have aa:ps.length<=N.length:=by have:=K9 Mw S.pre;rw[Lr] at this;omega
 obtain⟨h1,tk,rfl,hk⟩:=x.done;have J:∀ b:JR,b∉(eO CX P w K mg base N qual scope f cd A outer s H E).ex:=λb z=>absurd (show b∈([]:JP JR) from z) (by simp)
 refine⟨⟨e0.mod,S.kind,rfl,rfl,JY _,λy z c h1 h2=>?_,λy hy=>?_,λy c _ h=>?_,λ_=>hd,Around.frames_deeper e0.frames,.inr ⟨rfl,rfl⟩,λb z=>absurd z (J b),e0.bs,e0.bsz,λb _ _=>J b,λb z=>absurd z (J b),e0.funs,e0.frf⟩,
  rfl,e0.bare,Un.kept hk,⟨_,x.toInCall.ns,λi y v h1 h2 h3=>?_⟩,λy c h=>⟨_,x.cell y c h⟩,e0.hok.fresh (JY _),λy c h=>?_,λp hp=>absurd (show p∈([]:JP (JR×Obj)) from hp) (by simp),e0.hok.kept hk,?_⟩
 ·exact name_of_addr x.apart (LO h1) (LO h2)
 ·have hy:scope.names.lookup y=some .cell\/scope.names.lookup y=some .free:=hy;rcases hy with hy|hy
  ·exact yx hy
  ·exact absurd rfl (S.nofree _ (LO hy))
 ·exact M3 (x.above y c (LO h))
 ·have hi:i<vs.length:=by
   unfold start at h2;by_cases hi:i<vs.length
   ·exact hi
   ·rw[List.getElem?_append_right (by simpa using hi)] at h2;rw[List.getElem?_replicate] at h2;split at h2<;>cases h2
  have ha:vs[i]? =some v:=by
   unfold start at h2;rw[List.getElem?_append_left (by simpa using hi),List.getElem?_map] at h2;cases e:vs[i]? with
   |none=>rw[e] at h2;cases h2
   |some a=>rw[e] at h2;cases h2;rfl
  obtain⟨u,I,rv⟩:=r.get ha;have hp:ps[i]? =some y:=by
   rw[<-S.pre,List.getElem?_take_of_lt (by omega)];exact h1
  have U:ps.Nodup:=by rw[<-S.pre];exact S.nd.sublist (List.take_sublist _ _)
  refine⟨u,rv,?_⟩;rcases S.par y (List.mem_of_getElem? hp) with k|k
  ·exact .inl ⟨k,zr U hp I k⟩
  ·obtain⟨c,e⟩:=yx (n:=s.heap.objs.size+1) k;refine .inr ⟨.inl k,c,e,?_⟩;have q:=x.cell y c e;rw[Aw U hp I (by show scope.names.lookup y≠_;rw[k];decide)] at q;exact q
 ·exact e0.hok.fresh (M3 (x.above y c (LO h)))
 ·unfold start;show _=N.length;rw[JU,JX,Ma];omega
theorem yZ{CX:gv}{P:Ka}{w:Ku}{K:Kl}{mg:Str->JW JT}{base:KP}{k:Nat}{f:JR}{name qual:Str}{params:Arguments}{body:JP K0}{scope:MS}{dV kV doc pm cdv ct oc:JT}{an od:JW JR}
  {osl:MM (JW JT)}{N ps:JP Str}{sp:Sp}(lk:K.lookup f=some ⟨oc,od,.func (Nk name qual params body scope dV kV doc pm an cdv ct),osl⟩)(hcd:N1 K cdv qual=true)(S:da N ps scope)
  (len:∀ vs H Q E,sp vs H Q E->vs.length=ps.length)
  (hbody:∀(A:K4) (outer:JP Env) (s:JZ) (H:Hp) (vs:JP V) (Q:VK) (E:XK),eG k (A.deeper (Mz qual scope s.heap.objs.size f cdv))->sp vs H Q E->
   ∃ t,cH (eO CX P w K mg base N qual scope f cdv A outer s H E) body t/\t {nx:=λ_ H'=>Q .non H',rt:=Q} (start N vs) H):
  bX P w K mg base CX (k+1) f (Nk name qual params body scope dV kV doc pm an cdv ct) ps sp:=by
 refine⟨len,λA outer s H args us vs Q E hr e0 hb r ab=>?_⟩;have hl:=len _ _ _ _ ab;have KX:K.In s.heap:=e0.mod.kin.keeps λb o e=>(e0.bs b o e).1
 have lim:s.heap.NoLimit:=e0.mod.nolimit.keeps λb o e=>(e0.bs b o e).1
 have aa:∀ y∈ps.zip us,scope.names.lookup y.1=some .local\/(scope.names.lookup y.1=some .cell/\((cellsFrom (s.heap.objs.size+1) scope.names []).lookup y.1).isSome=true):=λ⟨n,v⟩ hy=>by
  rcases S.par n (NI hy).1 with q|q
  ·exact .inl q
  ·exact .inr ⟨q,Oq _ _ _ (.inl q)⟩
 refine codeAny_call_function hr.depth (KX _ _ lk) rfl S.co S.gen rfl (W.codeRec_of KX hcd) (hb _ _ _ _ ?_);refine N2 S.kind aa λenv he s1 x=>?_
 subst he;refine⟨lim.keeps x.toInCall.keep,codeAny_func ?_⟩;obtain⟨t,ht,hq⟩:=hbody A outer s H vs Q E (hr.deeper _) ab;have I:Inv (eO CX P w K mg base N qual scope f cdv A outer s H E) [] (start N vs) H s1:=yV S hr.hd e0 hl r x;refine KY (ht [] s1 (start N vs) H _ I hq) (λfl s' hs=>?_) λe s' hs=>hs
 have fin:∀{U:St} {H':Hp} {v:V} {u:JT},Inv (eO CX P w K mg base N qual scope f cdv A outer s H E) [] U H' s'->RelV v u->Q v H'->CE outer P w H s Q u s':=
  λ{U H' v u} J rv q=>⟨v,H',J.os,J.bare,J.base,J.hok,rv,q⟩;cases fl with
 |ret u=>
  obtain⟨v,U,H',J,rv,q⟩:=hs;exact fin J rv q
 |next=>
  obtain⟨U,H',J,q⟩:=hs;exact fin (v:=V.non) (u:=My) J rfl q
 |brk=>
  obtain⟨_,_,_,q⟩:=hs;exact La q
 |cont=>
  obtain⟨_,_,_,q⟩:=hs;exact La q
section
variable {X : Cx} {x : Str} {p pos : Pos} {e : KI} {es : JP KI} {t : TA} {id T : Mx} {r : JP V -> Hp -> VK -> Prop}
noncomputable def AE(r:JP V->Hp->VK->Prop)(t:TA):TE:=λσ H Q=>t σ H λvs H1=>r vs H1 Q
theorem dF(hc:iI X (.builtin id) r)(hg:Gl X x)(hm:X.mg x=none)(hv:Lp x=some (.builtin id))(ha:PA X (e::es) t)(hn:x≠"__name__":=by decide)(hdb:(x==("__debug__":Str))=false:=by decide)
  (he:KA (e::es) X.env=(false,eval e X.env)::KA es X.env:=by rfl)(hpl:(Mh pos (KA es X.env)).any (·.1)=false:=by rfl):PE X (.Call (.Name x p) (e::es) [] pos) (AE r t):=by
 intro pins s σ H Q I h;refine LU (pG I hg hm hv ?_ hn hdb);exact PyProof.Rows.callWith_builtin1 (cv (ha pos pins s σ H _ I h) λus s1 ⟨vs,H1,J,r1,U⟩=>hc pins s1 σ H1 vs us Q J r1 U) he hpl
theorem il(hc:iI X (.type T) r)(hg:Gl X x)(hm:X.mg x=none)(hv:Lp x=some (.type T))(ha:PA X (e::es) t)(hn:x≠"__name__":=by decide)(hdb:(x==("__debug__":Str))=false:=by decide)
  (he:KA (e::es) X.env=(false,eval e X.env)::KA es X.env:=by rfl)(hpl:(Mh pos (KA es X.env)).any (·.1)=false:=by rfl):PE X (.Call (.Name x p) (e::es) [] pos) (AE r t):=by
 intro pins s σ H Q I h;refine LU (pG I hg hm hv ?_ hn hdb);exact MO (cv (ha pos pins s σ H _ I h) λus s1 ⟨vs,H1,J,r1,U⟩=>hc pins s1 σ H1 vs us Q J r1 U) he hpl
end
end L2
namespace HT
open PySem PyProof.Rows
section
open PySem.SeqAt
open PySem.AutoSeq1 (wpAny_loadPart')
open PySem.MeetsSeq PySem.MeetsSeq2 PySem.MeetsSeq3
end
section
variable {prog : Ka} {w : Ku} {A : K4} {E : JT -> JZ -> Prop} {s : JZ}
end
end HT
namespace L2
open PySem PySem.Spec PyProof.Rows
noncomputable abbrev TO:=St->Hp->(JW Int->Hp->Prop)->Prop
noncomputable def PO(X:Cx)(e:JW KI)(t:TO):Prop:=
 ∀(pins:JP (JR×Obj)) (s:JZ) (σ:St) (H:Hp) (Q:JW Int->Hp->Prop),Inv X pins σ H s->t σ H Q->
  Kq (Ko X.prog X.w) X.A (evalPart e X.env) (λu s'=>∃ o H',Inv X pins σ H' s'/\IsPart u o/\Q o H') X.xe s
noncomputable def Hq:TO:=λ_ H Q=>Q none H
noncomputable def Hu(t:TE):TO:=λσ H Q=>t σ H λx H1=>∃ i,x= .int i/\Q (some i) H1
section
variable {X : Cx} {e : KI} {te : TE} {lo hi : JW KI} {tl th : TO} {pos p2 : Pos}
theorem lZ:PO X none Hq:=by
 intro pins s σ H Q I h;rw[evalPart_none];exact KN ⟨none,H,I,.none,h⟩
theorem fh(h:PE X e te):PO X (some e) (Hu te):=by
 intro pins s σ H Q I hw;rw[evalPart_some];refine cv (h pins s σ H _ I hw) λu s1 ⟨x,H1,J,r1,U⟩=>?_
 obtain⟨i,rfl,q⟩:=U;obtain⟨t,rfl⟩:=r1;exact⟨some i,H1,J,.int i t,q⟩
noncomputable def zJ(X:Cx)(r:V->JW Int->JW Int->Hp->VK->Prop):Prop:=
 ∀(pins:JP (JR×Obj)) (s:JZ) (σ:St) (H:Hp) (x:V) (v vl J:JT) (lo hi:JW Int) (sl:JR) (Q:VK),Inv X pins σ H s->RelV x v->s.heap.IsSliceOf sl vl J .none->IsPart vl lo->IsPart J hi->r x lo hi H Q->
  ∃ T id,typeLookup (.type T) "__getitem__"=pure (some (.builtin id))/\s.TypeIs v T/\Kq (Ko X.prog X.w) X.A (O7 v (.ref sl)) (EP X pins σ Q) X.xe s
noncomputable def Io(r:V->JW Int->JW Int->Hp->VK->Prop)(te:TE)(tl th:TO):TE:=λσ H Q=>te σ H λx H1=>tl σ H1 λl H2=>th σ H2 λu J=>r x l u J Q
theorem gS{r:V->JW Int->JW Int->Hp->VK->Prop}(hr:zJ X r)(he:PE X e te)(hl:PO X lo tl)(hu:PO X hi th):PE X (.Subscript e (.Slice lo hi none p2) pos) (Io r te tl th):=by
 intro pins s σ H Q I h;refine Subscript_ (cv (he pins s σ H _ I h) λv s1 ⟨x,H1,I1,r1,q1⟩=>?_);refine wpAny_Slice (cv (hl pins s1 σ H1 _ I1 q1) λvl s2 ⟨l,H2,I2,pl,q2⟩=>cv (hu pins s2 σ H2 _ I2 q2) λJ s3 ⟨u,U,I3,pu,q3⟩=>?_);rw[evalPart_none];refine KN ?_;have I4:Inv X pins σ U {s3 with heap:=s3.heap.push {cls:= .type "slice",data:= .fields #[vl,J,.none]}}:=I3.kept (t':=s3.toks) λb ob q=>Heap.get?_push_of_some _ q
 obtain⟨T,id,hT,ht,hg⟩:=hr pins {s3 with heap:=s3.heap.push {cls:= .type "slice",data:= .fields #[vl,J,.none]}} σ U x v vl J l u s3.heap.objs.size Q I4 r1 (Heap.IsSliceOf.new ..) pl pu q3;show Kq (Ko X.prog X.w) X.A (subscriptTail e (.Slice lo hi none p2) v (.ref s3.heap.objs.size)) (EP X pins σ Q) X.xe {s3 with heap:=s3.heap.push {cls:= .type "slice",data:= .fields #[vl,J,.none]}};exact tail_any (ops:=[.ref s3.heap.objs.size,v]) ht hT hg (by with_unfolding_all rfl)
end
noncomputable def kz(n:Nat)(i:Int):JW Nat:=if 0<=i then (if i<n then some i.toNat else none) else if -(n:Int)<=i then some (i+n).toNat else none
noncomputable def iz{α:Type}(xs:JP α)(i:Int):JW α:=(kz xs.length i).bind λj=>xs[j]?
theorem yi{n:Nat}{i:Int}{j:Nat}(h:kz n i=some j):seqIndex? i n=some j/\j<n/\ -(n:Int)<=i/\i<n:=by
 unfold kz at h;by_cases h0:0<=i
 ·rw[J1 h0] at h;by_cases h1:i<n
  ·rw[J1 h1] at h;have e:i.toNat=j:=Kg h;exact⟨by rw[seqIndex_of h0 h1,e],by omega,by omega,h1⟩
  ·rw[if_neg h1] at h;cases h
 ·rw[if_neg h0] at h;by_cases h1: -(n:Int)<=i
  ·rw[J1 h1] at h;have e:(i+n).toNat=j:=Kg h;exact⟨by rw[seqIndex_neg (by omega) h1,e],by omega,h1,by omega⟩
  ·rw[if_neg h1] at h;cases h
theorem wx{α:Type}{xs:JP α}{i:Int}{v:α}(h:iz xs i=some v):∃ j,seqIndex? i xs.length=some j/\xs[j]? =some v/\j<xs.length/\ -(xs.length:Int)<=i/\i<xs.length:=by
 unfold iz at h;cases e:kz xs.length i with
 |none=>rw[e] at h;cases h
 |some j=>
  rw[e] at h;obtain⟨h1,h2,J,U⟩:=yi e;exact⟨j,h1,h,h2,J,U⟩
theorem cJ{α:Type}{xs:JP α}{j:Nat}{v:α}(h:xs[j]? =some v):iz xs (j:Int)=some v:=by
 have J:j<xs.length:=(List.getElem?_eq_some_iff.mp h).1
 have e:kz xs.length (j:Int)=some j:=by
  unfold kz;rw[J1 (by omega),J1 (by omega)];simp
 unfold iz;rw[e];exact h
theorem Bc{α:Type}(xs:JP α)(v:α):iz (xs++[v]) (-1)=some v:=by
 have J:(xs++[v]).length=xs.length+1:=by simp
 have e:kz (xs++[v]).length (-1)=some xs.length:=by
  unfold kz;rw[J,if_neg (by decide),J1 (by omega)]
  congr 1
  omega
 unfold iz;rw[e];show(xs++[v])[xs.length]? =some v;simp
noncomputable def Ie(b:KI):Prop:=∀ o i,OS b false o i=operate [o,i] (O7 o i)
noncomputable def qy(X:Cx)(r:R2):Prop:=
 ∀(value slice:KI) (pins:JP (JR×Obj)) (s:JZ) (σ:St) (H:Hp) (x y:V) (v u:JT) (Q:VK),Inv X pins σ H s->RelV x v->RelV y u->r x y H Q->
  OS slice false v u=operate [v,u] (O7 v u)->Kq (Ko X.prog X.w) X.A (subscriptTail value slice v u) (EP X pins σ Q) X.xe s
noncomputable def jC(X:Cx)(id:Mx)(r:V->JP V->Hp->VK->Prop):Prop:=
 ∀(pins:JP (JR×Obj)) (s:JZ) (σ:St) (H:Hp) (x:V) (xs:JP V) (v:JT) (us:JP JT) (Q:VK),Inv X pins σ H s->RelV x v->Vals xs us->r x xs H Q->
  Kq (Ko X.prog X.w) X.A (call (.builtin id) (v::us)) (EP X pins σ Q) X.xe s
section
variable {X : Cx} {a b : KI} {ta tb : TE} {pos : Pos}
theorem cK{r:R2}(hr:qy X r)(ha:PE X a ta)(hb:PE X b tb)(hs:Ie b):PE X (.Subscript a b pos) (sH r ta tb):=by
 intro pins s σ H Q I h;exact Subscript_ (vn ha hb I h λv u s2 x y H2 J U ry q=>hr a b pins s2 σ H2 x y v u Q J U ry q (hs _ _))
noncomputable def zi(K:Kl):R2:=λx y H Q=>∃ p xs i v,x= .ref p/\y= .int i/\ck K H p xs/\iz xs i=some v/\Q v H
noncomputable def HL(K:Kl):R2:=λx y H Q=>∃ p xs i v,x= .ref p/\y= .int i/\cu K H p xs/\iz xs i=some v/\Q v H
noncomputable def Jy:R2:=λx y H Q=>∃ z i c,x= .str z/\y= .int i/\z.length<=sizeLine/\iz z.cps.toList i=some c/\Q (.str ⟨#[c]⟩) H
theorem fO:qy X (zi X.K):=by
 intro value slice pins s σ H x y v u Q I rx ry h hs;obtain⟨p,xs,i,z,rfl,rfl,hq,he,q⟩:=h;cases rx;obtain⟨t,rfl⟩:=ry;obtain⟨J,r,pl,hz⟩:=I.list hq;obtain⟨j,h1,h2,h3,h4,h5⟩:=wx he;obtain⟨w,ew,U⟩:=r.get h2;have hl:=r.length;have hn:=nZ;have fin:EP X pins σ Q w s:=⟨z,H,I,U,q⟩;by_cases h0:0<=i
 ·have hj:i.toNat=j:=by
   rw[seqIndex_of h0 h5] at h1;exact Kg h1
  exact item_listR pl.isList h0 (by omega) (by rw[hj];simpa using ew) fin hs
 ·have hj:(i+(J.toArray.size:Int)).toNat=j:=by
   rw[seqIndex_neg (by omega) h4] at h1;rw[Kk,<-hl];exact Kg h1
  exact subscriptTail_builtinR (x:=w) pl.isList.typeIs slot_list_getitem.lookup
   (wpAny_getItem_list_neg (Q:=λr s'=>r=w/\EP X pins σ Q r s') pl.isList (by omega) (by rw[Kk]<;>omega) (by omega) (by rw[hj];simpa using ew) ⟨rfl,fin⟩) hs
theorem dS:qy X (HL X.K):=by
 intro value slice pins s σ H x y v u Q I U ry h hs;obtain⟨p,xs,i,z,rfl,rfl,hq,he,q⟩:=h;cases U;obtain⟨t,rfl⟩:=ry;obtain⟨aa,r,pl,hz⟩:=I.tuple hq;obtain⟨j,h1,h2,h3,h4,h5⟩:=wx he;obtain⟨w,ew,J⟩:=r.get h2;have hl:=r.length;have hn:=nZ;have fin:EP X pins σ Q w s:=⟨z,H,I,J,q⟩;exact subscriptTail_builtinR (x:=w) pl.typeIs slot_tuple_getitem.lookup
  (getItem_tuple (j:=j) (Q:=λr s'=>r=w/\EP X pins σ Q r s') pl (by omega) (by omega) (by rw[Kk,<-hl];exact h1) (by simpa using ew) ⟨rfl,fin⟩) hs
theorem gE:qy X Jy:=by
 intro value slice pins s σ H x y v u Q I J U h hs;obtain⟨z,i,c,rfl,rfl,hz,he,q⟩:=h;obtain⟨t,rfl⟩:=J;obtain⟨t',rfl⟩:=U;obtain⟨j,h1,h2,h3,h4,h5⟩:=wx he;have hl:z.cps.toList.length=z.length:=by simp[N3]
 rw[hl] at h1 h4 h5;have hn:=nZ;exact tail_any (Nf s z t) slot_str_getitem.lookup (getItem_str (c:=c) (by
  have e1:decide (i < -(2 ^ 63:Int))=false:=JQ (by omega)
  have e2:decide (i ≥ 2 ^ 63)=false:=JQ (by omega);rw[e1,e2,Bool.or_false]) (by rw[h1];simpa using h2) ⟨.str ⟨#[c]⟩,H,I.tok _,⟨_,rfl⟩,q⟩) hs
theorem Jw(its:JP JT)(n j:Nat)(u:JT):Nw (·.setIfInBounds j u) {cls:= .type "list",data:= .seq its.toArray n}={cls:= .type "list",data:= .seq (its.set j u).toArray n}:=by
 simp[Nw]
theorem Inv.lst {pins:JP (JR×Obj)}{σ:St}{H:Hp}{s:JZ}{p:JR}{xs:JP V}(I:Inv X pins σ H s)(h:H p=some (.lst xs)):
  ∃(its:JP JT) (n:Nat),Vals xs its/\s.heap.get? p=some {cls:= .type "list",data:= .seq its.toArray n}/\xs.length<=sizeLine:=by
 obtain⟨z,its,n,r,e⟩:=I.hok p _ h;exact⟨its,n,r,e,z⟩
theorem Inv.lstUpd {pins:JP (JR×Obj)}{σ:St}{H:Hp}{s:JZ}{p:JR}{xs ys:JP V}{its its':JP JT}{n n':Nat}{f:Obj->Obj}(I:Inv X pins σ H s)(h:H p=some (.lst xs))
  (ho:s.heap.get? p=some {cls:= .type "list",data:= .seq its.toArray n})(hf:f {cls:= .type "list",data:= .seq its.toArray n}={cls:= .type "list",data:= .seq its'.toArray n'})(r:Vals ys its')(hz:ys.length<=sizeLine)(t:Nat):
  Inv X pins σ (upd H p (.lst ys)) {s with heap:=s.heap.update p f,toks:=t}:=by
 have e:(s.heap.update p f).get? p=some {cls:= .type "list",data:= .seq its'.toArray n'}:=by
  rw[Heap.get?_update_self f ho (by rw[hf]<;>rfl),hf]
 refine I.write (x:=p) (e:=p) (by rw[h];trivial) (.inl rfl) (λb u hb q=>(Heap.get?_update_other _ _ (K5 hb)).trans q) ⟨_,e⟩ ?_;exact⟨hz,its',n',r,e⟩
noncomputable def Cu:V->V->V->Hp->(Hp->Prop)->Prop:=λo i v H Q=>∃ p xs k j,o= .ref p/\i= .int k/\H p=some (.lst xs)/\kz xs.length k=some j/\Q (upd H p (.lst (xs.set j v)))
theorem set_list:xo X Cu:=by
 intro pins s σ H o i v ov iv u Q I ro ri rv h;obtain⟨p,xs,k,j,rfl,rfl,hp,hj,q⟩:=h;cases ro;obtain⟨t,rfl⟩:=ri;obtain⟨J,n,r,U,hz⟩:=I.lst hp;obtain⟨h1,h2,h3,h4⟩:=yi hj;have hl:=r.length;have hn:=nZ;have I':Inv X pins σ (upd H p (.lst (xs.set j v))) {s with heap:=s.heap.update p (Nw (·.setIfInBounds j u))}:=
  I.lstUpd hp U (Jw J n j u) (r.set rv j) (by rw[List.length_set];exact hz) s.toks;by_cases h0:0<=k
 ·have hk:k.toNat=j:=by
   rw[seqIndex_of h0 h4] at h1;exact Kg h1
  exact W.ki_setAt U h0 (by omega) (by rw[Kk,<-hl];exact h4) (by rw[hk];exact⟨_,I',q⟩)
 ·have hk:(k+(J.toArray.size:Int)).toNat=j:=by
   rw[seqIndex_neg (by omega) h3] at h1;rw[Kk,<-hl];exact Kg h1
  exact W.ki_setBack U (by omega) (by rw[Kk,<-hl];exact h3) (by omega) (by rw[hk];exact⟨_,I',q⟩)
noncomputable def kF:V->KS
 |.non=>true
 |.bl _=>true
 |.int _=>true
 |.str _=>true
 |_=>false
noncomputable def jt:V->V->KS
 |.non,.non=>true
 |.bl a,.bl b=>a==b
 |.bl a,.int b=>(if a then 1 else 0)==b
 |.int a,.bl b=>a==(if b then 1 else 0)
 |.int a,.int b=>a==b
 |.str a,.str b=>a==b
 |_,_=>false
theorem Ig{A:K4}{s:JZ}{y x:V}{u v:JT}(ry:RelV y u)(rx:RelV x v)(fy:kF y=true)(fx:kF x=true):SeqAt.EqAt A s u v (jt y x):=by
 cases y with
 |non=>
  cases ry;cases x with
  |non=>cases rx;exact SeqAt.EqAt.same _
  |bl b=>cases rx;exact SeqAt.EqAt.none_bool b
  |int b=>obtain⟨t,rfl⟩:=rx;exact SeqAt.EqAt.none_int b t
  |str b=>obtain⟨t,rfl⟩:=rx;exact SeqAt.EqAt.none_str b t
  |_=>exact absurd (show false=true from fx) J3
 |bl a=>
  cases ry;cases x with
  |non=>cases rx;exact SeqAt.EqAt.bool_none a
  |bl b=>cases rx;exact SeqAt.EqAt.bool_bool a b
  |int b=>obtain⟨t,rfl⟩:=rx;exact SeqAt.EqAt.bool_int a b t
  |str b=>obtain⟨t,rfl⟩:=rx;exact SeqAt.EqAt.bool_str a b t
  |_=>exact absurd (show false=true from fx) J3
 |int a=>
  obtain⟨t',rfl⟩:=ry;cases x with
  |non=>cases rx;exact SeqAt.EqAt.int_none a t'
  |bl b=>cases rx;exact SeqAt.EqAt.int_bool a t' b
  |int b=>obtain⟨t,rfl⟩:=rx;exact SeqAt.EqAt.int_int a t' b t
  |str b=>obtain⟨t,rfl⟩:=rx;exact SeqAt.EqAt.int_str a t' b t
  |_=>exact absurd (show false=true from fx) J3
 |str a=>
  obtain⟨t',rfl⟩:=ry;cases x with
  |non=>cases rx;exact SeqAt.EqAt.str_none a t'
  |bl b=>cases rx;exact SeqAt.EqAt.str_bool a t' b
  |int b=>obtain⟨t,rfl⟩:=rx;exact SeqAt.EqAt.str_int a t' b t
  |str b=>obtain⟨t,rfl⟩:=rx;exact SeqAt.EqAt.str_str a t' b t
  |_=>exact absurd (show false=true from fx) J3
 |_=>exact absurd (show false=true from fy) J3
noncomputable def ij(x:V)(u:JT):KS:=match u with
 |.none=>jt .non x
 |.bool b=>jt (.bl b) x
 |.int i _=>jt (.int i) x
 |.str z _=>jt (.str z) x
 |_=>false
theorem yc{x y:V}{u:JT}(r:RelV y u)(f:kF y=true):ij x u=jt y x:=by
 cases y with
 |non=>cases r;rfl
 |bl b=>cases r;rfl
 |int i=>obtain⟨t,rfl⟩:=r;rfl
 |str z=>obtain⟨t,rfl⟩:=r;rfl
 |_=>exact absurd (show false=true from f) J3
theorem qL{x:V}:∀{xs:JP V} {us:JP JT},Vals xs us->xs.all kF=true->us.any (ij x)=xs.any λy=>jt y x
 |_,_,.nil,_=>rfl
 |y::xs,u::us,.cons r t,f=>by
  rw[M9,Lc] at f;rw[Oi,Oi,yc r f.1,qL t f.2]
theorem qp{A:K4}{s:JZ}{x:V}{v:JT}(rx:RelV x v)(fx:kF x=true):∀{xs:JP V} {us:JP JT},Vals xs us->xs.all kF=true->∀ u∈us,SeqAt.EqAt A s u v (ij x u)
 |_,_,.nil,_=>λu hu=>by cases hu
 |y::xs,u::us,.cons r t,f=>λJ hu=>by
  rw[M9,Lc] at f;rcases List.mem_cons.mp hu with rfl|hu
  ·rw[yc r f.1];exact Ig r rx f.1 fx
  ·exact qp rx fx t f.2 J hu
noncomputable def e9(x:V)(xs:JP V):KS:=xs.any λy=>jt y x
noncomputable def vd(K:Kl)(neg:KS):R2:=λx y H Q=>∃ p xs,y= .ref p/\(ck K H p xs\/cu K H p xs)/\kF x=true/\xs.all kF=true/\Q (.bl (if neg then !e9 x xs else e9 x xs)) H
theorem kC:eU X (Lz .In) (vd X.K false):=by
 intro pins s σ H x y v u Q I U ry h;obtain⟨p,xs,rfl,hq,fx,fs,q⟩:=h;cases ry;rcases hq with hq|hq
 ·obtain⟨J,r,pl,hz⟩:=I.list hq;refine SeqAt.in_listAt (ij x) pl.isList (λw hw=>qp U fx r fs w (by simpa using hw)) ⟨.bl _,H,I,rfl,?_⟩;rw[show J.toArray.any (ij x)=J.any (ij x) by simp,qL r fs];exact q
 ·obtain⟨J,r,pl,hz⟩:=I.tuple hq;refine SeqAt.in_tupleAt (ij x) pl (λw hw=>qp U fx r fs w (by simpa using hw)) ⟨.bl _,H,I,rfl,?_⟩;rw[show J.toArray.any (ij x)=J.any (ij x) by simp,qL r fs];exact q
theorem HZ:eU X (Lz .NotIn) (vd X.K true):=by
 intro pins s σ H x y v u Q I U ry h;obtain⟨p,xs,rfl,hq,fx,fs,q⟩:=h;cases ry;rcases hq with hq|hq
 ·obtain⟨J,r,pl,hz⟩:=I.list hq;refine SeqAt.notIn_listAt (ij x) pl.isList (λw hw=>qp U fx r fs w (by simpa using hw)) ⟨.bl _,H,I,rfl,?_⟩;rw[show J.toArray.any (ij x)=J.any (ij x) by simp,qL r fs];exact q
 ·obtain⟨J,r,pl,hz⟩:=I.tuple hq;refine SeqAt.notIn_tupleAt (ij x) pl (λw hw=>qp U fx r fs w (by simpa using hw)) ⟨.bl _,H,I,rfl,?_⟩;rw[show J.toArray.any (ij x)=J.any (ij x) by simp,qL r fs];exact q
theorem Bz:eU X (Lz .NotIn) (λx y H Q=>∃ i j,x= .str i/\y= .str j/\Q (.bl (!(!(K7 j i 0 j.length 1).isEmpty))) H):=by
 intro pins s σ H x y v u Q I J U h;obtain⟨i,j,rfl,rfl,q⟩:=h;obtain⟨t,rfl⟩:=J;obtain⟨t',rfl⟩:=U;exact notIn_str ⟨.bl _,H,I,rfl,q⟩
theorem iF:iI X (.builtin "len") (λxs H Q=>∃ p ys,xs=[.ref p]/\(ck X.K H p ys\/cu X.K H p ys)/\Q (.int ys.length) H):=by
 intro pins s σ H xs us Q I r h;obtain⟨p,ys,rfl,hq,q⟩:=h;obtain⟨u,rfl,rx⟩:=vals1 r;cases rx;have hn:=nZ;rcases hq with hq|hq
 ·obtain⟨J,U,pl,hz⟩:=I.list hq;have hlen:=U.length;exact Calls.call_len_list pl.isList (by simp only[Kk]<;>omega) ⟨.int ys.length,H,I.tok _,⟨s.toks+1,by rw[Kk,hlen]⟩,q⟩
 ·obtain⟨J,U,pl,hz⟩:=I.tuple hq;have hlen:=U.length;exact len_tuple pl (by simp only[Kk]<;>omega) ⟨.int ys.length,H,I.tok _,⟨s.toks+1,by rw[Kk,hlen]⟩,q⟩
theorem ip:iI X (.builtin "len") (λxs H Q=>∃ z,xs=[.str z]/\z.length<=sizeLine/\Q (.int z.length) H):=by
 intro pins s σ H xs us Q I r h;obtain⟨z,rfl,J,q⟩:=h;obtain⟨u,rfl,t,rfl⟩:=vals1 r;have hn:=nZ;exact len_str (by omega) ⟨.int z.length,H,I.tok _,⟨_,rfl⟩,q⟩
theorem sF:iI X (.type "tuple") (λxs H Q=>∃ p ys,xs=[.ref p]/\((ck X.K H p ys/\∀ l,H l=none->Q (.ref l) (upd H l (.tup ys)))\/(cu X.K H p ys/\Q (.ref p) H))):=by
 intro pins s σ H xs us Q I r h;obtain⟨p,ys,rfl,h⟩:=h;obtain⟨u,rfl,rx⟩:=vals1 r;cases rx;rcases h with ⟨U,q⟩|⟨U,q⟩
 ·obtain⟨J,r',pl,hz⟩:=I.list U;have hlen:=r'.length;refine call_tuple_list pl.isList (λh' kp=>?_) (by simp only[Kk]<;>omega);have I1:Inv X pins σ H {s with heap:=h'}:=I.kept (t':=s.toks) kp;have I2:Inv X pins σ (upd H h'.objs.size (.tup ys)) {s with heap:=h'.push {cls:= .type "tuple",data:= .seq J.toArray}}:=
   I1.laid (t':=s.toks) (λb o e=>Heap.get?_push_of_some _ e) (JY _) (show eY X.prog X.w _ _ _ (.tup ys) from⟨hz,J,r',IsTup.new _ _⟩);exact⟨.ref h'.objs.size,_,I2,rfl,q _ (I1.hok.fresh (JY _))⟩
 ·obtain⟨J,r',pl,hz⟩:=I.tuple U;exact call_tuple_same pl ⟨.ref p,H,I,rfl,q⟩
noncomputable def uD(K:Kl)(T:Mx)(x:V)(H:Hp):Prop:=match x with
 |.str _=>T="str"
 |.int _=>T="int"
 |.ref p=>(T="list"/\∃ xs,ck K H p xs)\/(T="tuple"/\∃ o,K.lookup p=some o/\o.cls= .type "tuple"/\o.dict=none)\/
   (T="dict"/\((∃ kvs,H p=some (.dK kvs))\/∃ kvs,H p=some (.dT kvs)))\/(T="set"/\∃ S n,H p=some (.set S n))
 |_=>LG
theorem yb{pins:JP (JR×Obj)}{σ:St}{H:Hp}{s:JZ}{T:Mx}{x:V}{v:JT}(I:Inv X pins σ H s)(r:RelV x v)(ty:uD X.K T x H):
  s.TypeIs v T/\∀ a,v= .ref a->∃ ob,s.heap.get? a=some ob/\ob.dict=none:=by
 cases x with
 |str z=>
  obtain⟨t,rfl⟩:=r;cases (show T="str" from ty);exact⟨Nf s z t,λ_ e=>nomatch e⟩
 |int i=>
  obtain⟨t,rfl⟩:=r;cases (show T="int" from ty);exact⟨typeIs_int s i t,λ_ e=>nomatch e⟩
 |ref p=>
  cases r;rcases ty with ⟨rfl,xs,U⟩|⟨rfl,o,hk,hc,hd⟩|⟨rfl,hk⟩|⟨rfl,S,n,hk⟩
  ·obtain⟨aa,_,pl,_⟩:=I.list U;refine⟨pl.isList.typeIs,λa e=>?_⟩;cases e;obtain⟨o,n,e,c,hd,_⟩:=pl;exact⟨o,e,hd⟩
  ·refine⟨⟨o,I.kIn p o hk,hc⟩,λa e=>?_⟩;cases e;exact⟨o,I.kIn _ o hk,hd⟩
  ·have z:∃ o,s.heap.get? p=some o/\o.ExactDict:=by
    rcases hk with ⟨kvs,hk⟩|⟨kvs,hk⟩
    ·obtain⟨_,_,_,_,o,_,_,e,ex,_⟩:=I.hok p _ hk;exact⟨o,e,ex⟩
    ·obtain⟨_,_,_,_,o,_,_,e,ex,_⟩:=I.hok p _ hk;exact⟨o,e,ex⟩
   obtain⟨o,e,ex⟩:=z;refine⟨⟨o,e,ex.1⟩,λa J=>?_⟩;cases J;exact⟨o,e,ex.2.1⟩
  ·obtain⟨o,_,_,_,e,ex,_⟩:=I.hok p _ hk;refine⟨⟨o,e,ex.1⟩,λa J=>?_⟩;cases J;exact⟨o,e,ex.2.1⟩
 |_=>exact La ty
noncomputable def Bb(K:Kl)(T:Mx)(r:V->JP V->Hp->VK->Prop)(to:TE):TE:=λσ H Q=>to σ H λx H1=>uD K T x H1/\r x [] H1 Q
noncomputable def Cc(K:Kl)(T:Mx)(r:V->JP V->Hp->VK->Prop)(to:TE)(t:TA):TE:=λσ H Q=>to σ H λx H1=>uD K T x H1/\t σ H1 λxs H2=>r x xs H2 Q
variable {o e : KI} {es : JP KI} {to : TE} {t : TA} {name : Str} {apos cpos : Pos} {T id : Mx} {r : V -> JP V -> Hp -> VK -> Prop}
theorem iL(pa:PlainAttrs T)(slot:Slot T name id)(hty:typeOf (.builtin id)=pure (.type "method_descriptor"))(hm:jC X id r)(ho:PE X o to)
  (hbase:MI o name X.env (eval o X.env)=eval o X.env:=by rfl)(hline:(apos.endLine==cpos.line)=true:=by rfl):PE X (.Call (.Attribute o name apos) [] [] cpos) (Bb X.K T r to):=by
 intro pins s σ H Q I h;refine wpAny_Call_method0_late hbase hline (cv (ho pins s σ H _ I h) λv s1 ⟨x,H1,J,r1,ty,U⟩=>?_);obtain⟨h1,h2⟩:=yb J r1 ty;exact⟨T,id,pa,slot,hty,h1,h2,MA rfl (PySem.evalArgs_none (hm pins s1 σ H1 x [] v [] Q J r1 .nil U))⟩
theorem fS(pa:PlainAttrs T)(slot:Slot T name id)(hty:typeOf (.builtin id)=pure (.type "method_descriptor"))(hm:jC X id r)(ho:PE X o to)(ha:PA X (e::es) t)
  (hbase:MI o name X.env (eval o X.env)=eval o X.env:=by rfl)
  (hfew:((Mh cpos (KA (e::es) X.env)).all (λx=> !x.1)&&(O6 cpos (Ob [] X.env)).all (λx=>x.1.isSome)
   && decide ((e::es).length+([]:JP Keyword).length+(if ([]:JP Keyword).isEmpty then 0 else 1)<30))=true:=by rfl)
  (hline:(apos.endLine==cpos.line)=true:=by rfl)(hs:KA (e::es) X.env=(false,eval e X.env)::KA es X.env:=by rfl)(hplain:(Mh cpos (KA es X.env)).any (·.1)=false:=by rfl):
  PE X (.Call (.Attribute o name apos) (e::es) [] cpos) (Cc X.K T r to t):=by
 intro pins s σ H Q I h;refine wpAny_Call_method_late hbase hfew hline rfl (cv (ho pins s σ H _ I h) λv s1 ⟨x,H1,J,r1,ty,q1⟩=>?_);obtain⟨h1,h2⟩:=yb J r1 ty;refine⟨T,id,pa,slot,hty,h1,h2,?_⟩;have U:=ha cpos pins s1 σ H1 _ J q1;rw[hs] at U ⊢;refine MA (by show(false||(Mh cpos (KA es X.env)).any (·.1))=false;rw[hplain]<;>rfl) (MX ?_);exact cv U λus s2 ⟨vs,H2,I2,r2,q2⟩=>hm pins s2 σ H2 x vs v us Q I2 r1 r2 q2
end
noncomputable def w9(X:Cx)(id:Mx)(r:V->JP V->Hp->VK->Prop):Prop:=
 ∀(pins:JP (JR×Obj)) (s:JZ) (σ:St) (H:Hp) (x:V) (xs:JP V) (v:JT) (us:JP JT) (Q:VK),Inv X pins σ H s->RelV x v->Vals xs us->r x xs H Q->
  Kq (Ko X.prog X.w) X.A (call (.builtin id) (v::us)) (EP X pins σ Q) X.xe s
theorem Vals.one:∀{x:V} {us:JP JT},Vals [x] us->∃ u,us=[u]/\RelV x u
 |_,_,.cons r .nil=>⟨_,rfl,r⟩
theorem Vals.two:∀{x y:V} {us:JP JT},Vals [x,y] us->∃ u v,us=[u,v]/\RelV x u/\RelV y v
 |_,_,_,.cons r (.cons q .nil)=>⟨_,_,rfl,r,q⟩
theorem Vals.zero:∀{us:JP JT},Vals [] us->us=[]
 |_,.nil=>rfl
theorem Vals.dropLast {xs:JP V}{us:JP JT}(h:Vals xs us):Vals xs.dropLast us.dropLast:=by
 induction h with
 |nil=>exact .nil
 |cons r t J=>
  cases t with
  |nil=>exact .nil
  |cons q t'=>exact .cons r J
theorem Fg{α:Type}(l:JP α):l.eraseIdx (l.length-1)=l.dropLast:=by
 induction l with
 |nil=>rfl
 |cons a r J=>
  cases r with
  |nil=>rfl
  |cons b r=>
   have e:(a::b::r).length-1=((b::r).length-1)+1:=by
    have h1:(a::b::r).length=r.length+2:=rfl
    have h2:(b::r).length=r.length+1:=rfl;omega
   rw[e,List.eraseIdx_cons_succ,J]
   all_goals rfl
section
variable {X : Cx} {pins : JP (JR × Obj)} {σ : St} {H : Hp} {s : JZ} {l b : JR} {xs ys zs : JP V}
theorem Inv.lset {its its':JP JT}{n:Nat}{f:MM JT->MM JT}{t':Nat}(I:Inv X pins σ H s)(hH:H l=some (.lst xs))
  (e:s.heap.get? l=some {cls:= .type "list",data:= .seq its.toArray n})(hf:f its.toArray=its'.toArray)(hv:Vals ys its')(hz:ys.length<=sizeLine):
  Inv X pins σ (upd H l (.lst ys)) {s with heap:=s.heap.update l (Nw f),toks:=t'}:=by
 have q:=Ot e f;rw[hf] at q;refine I.write (x:=l) (e:=l) (by rw[hH];exact trivial) (.inl rfl) (λb' u hb J=>(Heap.get?_update_other s.heap (Nw f) (K5 hb)).trans J) ⟨_,q⟩ ?_;exact⟨hz,its',_,hv,q⟩
theorem Inv.lstM (I:Inv X pins σ H s)(hH:H l=some (.lst xs)):xs.length<=sizeLine/\∃(its:JP JT) (n:Nat),Vals xs its/\xs.length=its.length/\s.heap.get? l=some {cls:= .type "list",data:= .seq its.toArray n}:=by
 obtain⟨z,its,n,r,e⟩:=I.hok l _ hH;exact⟨z,its,n,r,r.length,e⟩
theorem FR{n:Nat}(h:n<=sizeLine):Na n=false:=by
 unfold Na;exact JQ (by omega)
end
section
variable {X : Cx}
noncomputable def BQ:V->JP V->Hp->VK->Prop:=λx vs H Q=>∃ l xs y,x= .ref l/\vs=[y]/\H l=some (.lst xs)/\xs.length<sizeLine/\Q .non (upd H l (.lst (xs++[y])))
theorem iO:w9 X "list.append" BQ:=by
 intro pins s σ H x vs v us Q I rx rv h;obtain⟨l,xs,y,rfl,rfl,U,hz,q⟩:=h;cases rx;obtain⟨u,rfl,ru⟩:=rv.one;obtain⟨z,J,n,r,hl,e⟩:=I.lstM U;refine MY KO ⟨_,e,rfl⟩ NP (ND _ _) (Oc l J.toArray n u (by rw[Kk];omega)) ⟨e,?_⟩;refine⟨.non,_,I.lset (its':=J++[u]) U e (by simp) (r.append (.cons ru .nil)) ?_,rfl,q⟩;rw[JU,List.length_singleton];omega
noncomputable def Iq:V->JP V->Hp->VK->Prop:=λx vs H Q=>∃ l b xs zs,x= .ref l/\vs=[.ref b]/\H l=some (.lst xs)/\H b=some (.lst zs)/\xs.length+zs.length<=sizeLine/\Q .non (upd H l (.lst (xs++zs)))
theorem EZ:w9 X "list.extend" Iq:=by
 intro pins s σ H x vs v us Q I rx rv h;obtain⟨l,b,xs,zs,rfl,rfl,hH,hB,hz,q⟩:=h;cases rx;obtain⟨u,rfl,ru⟩:=rv.one;cases ru;obtain⟨z,U,n,r,hl,e⟩:=I.lstM hH;obtain⟨z2,J,n2,r2,ae,e2⟩:=I.lstM hB;have ab:U.toArray.size+J.toArray.size<=sizeLine:=by rw[Kk,Kk];omega
 have aa:¬ (!U.toArray.isEmpty&&Na (U.toArray.size+J.toArray.size))=true:=by
  rw[FR ab,MZ];exact J3
 refine MY F.slot_list_extend ⟨_,e,rfl⟩ F.entry_list_extend (F.args_list_extend_2 _ _)
  (AutoSeq1.list_extend_list_list_0 l U.toArray n b J.toArray n2 aa (by rw[Kk];omega) (by omega)) ⟨e,e2,?_⟩;refine⟨.non,_,I.lset (its':=U++J) hH e (by simp) (r.append r2) ?_,rfl,q⟩;rw[JU];omega
noncomputable def JJ:V->JP V->Hp->VK->Prop:=λx vs H Q=>∃ l xs y,x= .ref l/\vs=[]/\H l=some (.lst xs)/\xs[xs.length-1]? =some y/\Q y (upd H l (.lst xs.dropLast))
theorem jM:w9 X "list.pop" JJ:=by
 intro pins s σ H x vs v us Q I rx rv h;obtain⟨l,xs,y,rfl,rfl,hH,hy,q⟩:=h;cases rx;have U:=rv.zero;subst U;obtain⟨z,J,n,r,hl,e⟩:=I.lstM hH;obtain⟨u,hu,ru⟩:=r.get hy;have aa:J.toArray[J.toArray.size-1]? =some u:=by
  show J.toArray[J.length-1]? =some u;rw[<-Array.getElem?_toList,<-hl];exact hu
 refine MY LP ⟨_,e,rfl⟩ F.entry_list_pop (F.args_list_pop_1 _) (MeetsSeq.list_pop_last l J.toArray n u aa (by rw[Kk];omega)) ⟨e,?_⟩;refine⟨y,_,I.lset (its':=J.dropLast) hH e ?_ r.dropLast ?_,ru,q⟩
 ·show J.toArray.eraseIdxIfInBounds (J.toArray.size-1)=J.dropLast.toArray;rw[Kk,List.eraseIdxIfInBounds_toArray,Fg]
 ·rw[List.length_dropLast];omega
end
section
variable {prog : Ka} {w : Ku} {A : K4} {E : JT -> JZ -> Prop} {s : JZ}
end
section
variable {X : Cx}
end
end L2
namespace Att
open PySem PySem.W PySem.Calls PyProof.Rows
theorem IQ{P:Params}{h:KP}:∀(ns:JP Int) (vs:JP JT),WellAll P h vs (ns.map Ou)->IntsAre vs ns:=by
 intro ns;induction ns with
 |nil=>
  intro vs w;rw[OC] at w;cases w;exact .nil
 |cons n ns J=>
  intro vs w;rw[KU] at w;cases w with
  |cons a b=>
   cases a;exact .cons _ _ (J _ b)
theorem IA{l:OpenLaw}{n:Nat}(hn:l.most=some n){P:Params}{h:KP}{args:JP WData}{vals:JP JT}
  (hpre:l.row.toRowW.claim.pre args=true)(hwl:WellAll P h vals args):
  ∃ a vs ns,vals=[Ky a]/\args=[WData.list (ns.map Ou)]/\h.get? a=some {cls:= .type "list",data:= .seq vs.toArray}/\IntsAre vs ns/\ns.length<=n:=by
 have aa:WShape.hasAll [] args [.list .int]=true:=(pre_splitW hpre).1
 have hc:l.pre.holds [] {args:=args}=true:=(pre_splitW hpre).2;obtain⟨d,r,rfl,h1,h2⟩:=hasAllW_cons aa;obtain rfl:=hasAllW_nil h2;obtain⟨xs,rfl,h3⟩:=hasW_list h1;obtain⟨ns,rfl⟩:=items_int h3;have hlen:ns.length<=n:=by
  unfold OpenLaw.pre at hc;have U:(WTm.not (.lt (.lit (.int (n:Int))) (.len (.arg 0)))).holds [] {args:=[.list (ns.map .int)]}=true:=by
   have U:=(holds_andW hc).1;rw[hn] at U;exact U
  have I:=condW_of U (w_not (w_lt w_lit (w_len_list (w_arg rfl))));rw[JX] at I;refine Nat.le_of_not_lt λq=>?_
  have q':(n:Int)<((ns.length:Nat):Int):=by omega
  first
   |(rw[JS q'] at I;exact absurd I (by decide))
   |(simp at I;omega)
 cases hwl with
 |cons w1 w2=>
  cases w2;cases w1 with
  |list ho J=>exact⟨_,_,ns,rfl,rfl,ho,IQ ns _ J,hlen⟩
theorem IT(l:OpenLaw)(args:JP WData):l.row.toRowW.claim.post args (.bool true) args=true:=
 postW_of (r:=l.row.toRowW) (X:=(true==true))
  (show WShape.has [] (.bool true) .bool=true by first|rfl|decide|simp[WShape.has,WShape.arms,WShape.armsAll])
  (show(WTm.eq .res (.lit (.bool true))).value [] {args:=args,res:=some (.bool true),after:=args}=some (.bool (true==true)) from w_eq_bool (w_res rfl) w_lit) rfl
section
variable {prog : Ka} {w : Ku} {A : K4} {E : JT -> JZ -> Prop} {s : JZ} {K : Frag}
end
end Att
namespace L2
open PySem PySem.Spec PyProof.Rows
theorem yY:∀{vs:JP JT} {ns:JP Int},IntsAre vs ns->Vals (ns.map V.int) vs
 |_,_,.nil=> .nil
 |_,_,.cons n t h=> .cons ⟨t,rfl⟩ (yY h)
noncomputable def A5(H:Hp):Prop:=∀ b,H b=none\/∃ o xs,H b=some (.frz o (.lst xs))
theorem Hi{P:Ka}{w:Ku}{K:Kl}{mg mb:Str->JW JT}{CX:gv}{k:Nat}{fa a:JR}{fd:J2}{x:Str}{sp:Sp}{s₁:JZ}{vs:JP JT}{ns:JP Int}
  (KX:K.In s₁.heap)(hns:s₁.heap.Ns Kc mg)(hb:s₁.heap.Ns builtinsNs mb)(hbb:∀ x:Str,x≠"__name__"->mb x=Lp x)(hlim:s₁.heap.NoLimit)(hg:s₁.gens=#[])
  (ha:s₁.heap.get? a=some {cls:= .type "list",data:= .seq vs.toArray})(hi:IntsAre vs ns)(hl:ns.length<=sizeLine)(hr:eG k O2)
  (F:∀ base:KP,K.In base->base.Ns Kc mg->bX P w K mg base CX k fa fd [x] sp)(hbind:∀(s:JZ) (u:JT),O1 s fd ⟨[u],[]⟩ [(x,u)])
  (hsp:∀ H:Hp,A5 H->ck K H a (ns.map V.int)->sp [.ref a] H (λv _=>v= .bl true) λ_ _ _=>LG)
  (hCX:∀ H e s',CX [] H s₁ (λ_ _ _=>LG) e s'->LG):
  Nz (Ko P w) O2 (.call (.ref fa) ⟨[.ref a],[]⟩) (λr s'=>r= .ok (.ret (.bool true))/\OldK s₁.heap s'.heap/\s'.os=s₁.os/\NQ s'.gens) s₁:=by
 have rv:=yY hi
 have I:=hi.length
 have core:∀ H:Hp,A5 H->ck K H a (ns.map V.int)->eK P w H s₁.heap->(∀ b,H b≠none->b=a)->(H a≠none->K.lookup a=none)->
   Nz (Ko P w) O2 (.call (.ref fa) ⟨[.ref a],[]⟩) (λr s'=>r= .ok (.ret (.bool true))/\OldK s₁.heap s'.heap/\s'.os=s₁.os/\NQ s'.gens) s₁:=by
  intro H hO hS hok hA hK;have J:∀{b:JR} {o:Obj},s₁.heap.get? b=some o->H b=none->(kA s₁.heap H).get? b=some o:=λe n=>HW e n
  have ae:∀{b:JR} {o:Obj} {es:MM DictEntry} {ep:Nat},s₁.heap.get? b=some o->o.data= .dict es ep->H b=none:=λ{b o es ep} e d=>by
   cases q:H b with
   |none=>rfl
   |some u=>
    have e':b=a:=hA b (by rw[q];simp);subst e';rw[ha] at e;cases e;have d':Data.seq vs.toArray _=Data.dict es ep:=d;cases d'
  have U:∀{b:JR} {m:Str->JW JT},s₁.heap.Ns b m->(kA s₁.heap H).Ns b m:=λ{b m} ⟨o,es,ep,e,d,r⟩=>⟨o,es,ep,J e (ae e d),d,r⟩
  have aa:K.In (kA s₁.heap H):=λb o e=>J (KX b o e) (by
   cases q:H b with
   |none=>rfl
   |some u=>
    have e':b=a:=hA b (by rw[q];simp);subst e';rw[hK (by rw[q];simp)] at e;cases e)
  have hM:Mod K mg (kA s₁.heap H):=⟨aa,U hns,⟨mb,U hb,hbb⟩,let ⟨mc,h1,h2⟩:=hlim;⟨mc,U h1,h2⟩⟩
  have e0:kQ P w K mg (kA s₁.heap H) O2 [] s₁ H:=⟨rfl,hM,λb o e=>Jo e,Nat.le_of_eq (GZ _ _),trivial,λb hb=>absurd (show b∈([]:JP JR) from hb) (by simp),hok,.of_eq hg⟩;refine Nj ((F _ aa (U hns)).run O2 [] s₁ H ⟨[.ref a],[]⟩ [.ref a] [.ref a] _ _ hr e0 (hbind s₁ (.ref a)) (.cons rfl .nil) (hsp H hO hS)) λr s' h=>?_
  cases r with
  |error e=>exact(hCX H e s' h).elim
  |ok fl=>
   cases fl with
   |next=>exact La h
   |brk=>exact La h
   |cont=>exact La h
   |ret u=>
    obtain⟨v,H',os,bare,un,ab,r',q⟩:=h;have q':v= .bl true:=q;subst q';obtain rfl:u=Oy true:=r';refine⟨rfl,OldK.of_keep λb o e=>?_,os,bare⟩;cases q:H b with
    |none=>exact un.keep b o e q (by intro z;exact absurd (show b∈([]:JP JR) from z) (by simp)) (by simp)
    |some u=>
     rcases hO b with z|⟨ob,xs,z⟩
     ·rw[q] at z;cases z
     ·have z2:=un.frzs b ob _ z;obtain⟨e1,_⟩:=hok b _ z;obtain⟨e2,_⟩:=ab b _ z2;rw[e] at e1;cases e1;exact e2
 cases hk:K.lookup a with
 |some o=>
  have e:=KX a o hk;rw[ha] at e;cases e;refine core (λ_=>none) (λ_=> .inl rfl) (.inr ⟨_,vs.toArray,_,hk,rfl,rfl,rfl,by rw[Kk,I];exact hl,by simpa using rv⟩) (λb u z=>by have z':(none:JW HO)=some u:=z;cases z') (λb z=>absurd rfl z) λz=>absurd rfl z
 |none=>
  refine core (λb=>if b=a then some (.frz {cls:= .type "list",data:= .seq vs.toArray} (.lst (ns.map V.int))) else none) (λb=>?_) (.inl (.inr ⟨{cls:= .type "list",data:= .seq vs.toArray},J1 rfl⟩)) (λb u z=>?_) (λb z=>?_) λ_=>hk
  ·by_cases hb:b=a
   ·exact .inr ⟨_,_,J1 hb⟩
   ·exact .inl (if_neg hb)
  ·by_cases hb:b=a
   ·have z':=(J1 hb).symm.trans z;cases z';subst hb;exact⟨ha,by rw[JX];exact hl,vs,_,rv,ha⟩
   ·have z':=(if_neg hb).symm.trans z;cases z'
  ·by_cases hb:b=a
   ·exact hb
   ·exact absurd (if_neg hb) z
noncomputable abbrev cI{K:Kl}{h:KP}(_:K.In h):Kl:=K
noncomputable def inClass(s:K0)(j:Nat):K0:=match s with
 |.ClassDef _ _ _ body _ _ _ _ _ _ _=>body.getD j (.Pass ⟨0,0,0,0⟩)
 |_=> .Pass ⟨0,0,0,0⟩
noncomputable def i3(s:K0):Arguments:=match s with
 |.FunctionDef _ a _ _ _ _ _ _ _ _=>a
 |_=>{posonlyargs:=[],args:=[],vararg:=none,kwonlyargs:=[],kw_defaults:=[],kwarg:=none,defaults:=[]}
noncomputable def iB(s:K0):JP K0:=match s with
 |.FunctionDef _ _ b _ _ _ _ _ _ _=>b
 |_=>[]
noncomputable def cG(s:K0):MS:=match s with
 |.FunctionDef _ _ _ _ _ _ sc _ _ _=>sc
 |_=>{kind:= .function,names:=[],isGenerator:=false,isCoroutine:=false}
noncomputable abbrev b7:gv:=λ_ _ _ _ _ _=>LG
noncomputable abbrev E0:XK:=λ_ _ _=>LG
theorem cz{X:Cx}:Passes b7 X E0:=λ_ _ _ _ _ _ _ h=>h.elim
structure ej (K : Kl) (x qual : Str) (st : K0) (f : JR) (fd : J2) : Prop where
 ex : ∃ (oc : JT) (od : JW JR) (kV doc pm : JT) (an : JW JR) (cdv ct : JT) (osl : MM (JW JT)),
  fd = Nk x qual (i3 st) (iB st) (cG st) .none kV doc pm an cdv ct /\ K.lookup f = some ⟨oc, od, .func fd, osl⟩ /\ N1 K cdv qual = true
 kp : ME K (.ref f) = true
section
variable {P : Ka} {w : Ku} {K : J7} {mg : Str -> JW JT} {base : KP}
theorem ej.ok {x qual:Str}{st:K0}{f:JR}{fd:J2}{N ps:JP Str}{k:Nat}{sp:Sp}(F:ej K x qual st f fd)(S:da N ps (cG st))(len:∀ vs H Q E,sp vs H Q E->vs.length=ps.length)
  (hbody:∀(cdv:JT) (A:K4) (outer:JP Env) (s:JZ) (H:Hp) (vs:JP V) (Q:VK) (E:XK),eG k (A.deeper (Mz qual (cG st) s.heap.objs.size f cdv))->sp vs H Q E->
   ∃ t,cH (eO b7 P w K mg base N qual (cG st) f cdv A outer s H E).nox (iB st) t/\t {nx:=λ_ H'=>Q .non H',rt:=Q} (start N vs) H):bX P w K mg base b7 (k+1) f fd ps sp:=by
 obtain⟨oc,od,kV,doc,pm,an,cdv,ct,I,rfl,lk,J⟩:=F.ex;refine yZ lk J S len λA outer s H vs Q E hr U=>?_
 obtain⟨t,h,q⟩:=hbody cdv A outer s H vs Q E hr U;exact⟨t,h.nox,q⟩
theorem ej.binds {x qual:Str}{st:K0}{f:JR}{fd:J2}{ps:JP Str}(F:ej K x qual st f fd)
  (h:∀(kV doc pm:JT) (an:JW JR) (cdv ct:JT) (us:JP JT),us.length=ps.length->bindArgs (Nk x qual (i3 st) (iB st) (cG st) .none kV doc pm an cdv ct) ⟨us,[]⟩=pure (ps.zip us)):Binds K fd ps []:=by
 obtain⟨I,od,kV,doc,pm,an,cdv,ct,J,rfl,lk,U⟩:=F.ex;exact .all (h kV doc pm an cdv ct)
theorem uQ{x qual:Str}{st:K0}{f:JR}{oc:JT}{od an:JW JR}{osl:MM (JW JT)}{kV doc pm cdv ct:JT}(l:K.lookup f=some ⟨oc,od,.func (Nk x qual (i3 st) (iB st) (cG st) .none kV doc pm an cdv ct),osl⟩)
  (c:N1 K cdv qual=true)(k:ME K (.ref f)=true):ej K x qual st f (Nk x qual (i3 st) (iB st) (cG st) .none kV doc pm an cdv ct):=⟨⟨oc,od,kV,doc,pm,an,cdv,ct,osl,rfl,l,c⟩,k⟩
end
section
variable {X : Cx}
theorem pv(i:Nat){x:Str}{pos:Pos}(hN:X.N[i]? =some x:=by rfl)(hv:rD X.env.scope x:=by first|exact Kh rfl|exact Pb (Kh rfl)|exact Pb (Pb rfl))(hd:(x==("__debug__":Str))=false:=by decide)
  (hcd:(x==("__classdict__":Str))=false:=by decide):PE X (.Name x pos) (zV i):=CG hN hv hd hcd
end
theorem cj{A B:Prop}(h:B):if false=true then A else B:=by
 rw[if_neg J3];exact h
theorem cg{A B:Prop}(h:A):if true=true then A else B:=by
 rw[J1 rfl];exact h
theorem i4{c A B:Prop} [Decidable c] (h1:c->A)(h2:¬ c->B):if c then A else B:=by
 by_cases h:c
 ·rw[J1 h];exact h1 h
 ·rw[if_neg h];exact h2 h
noncomputable def bY(H H':Hp):Prop:=∀ b o,H b=some o->H' b=some o
theorem bY.refl (H:Hp):bY H H:=λ_ _ h=>h
theorem bY.trans {H H1 H2:Hp}(a:bY H H1)(b:bY H1 H2):bY H H2:=λc o h=>b c o (a c o h)
theorem bY.free {H H':Hp}(e:bY H H'){l:JR}(h:H' l=Option.none):H l=Option.none:=by
 cases q:H l with
 |none=>rfl
 |some o=>
  rw[e l o q] at h;cases h
theorem bY.seq {K:Kl}{H H':Hp}{a:JR}{xs:JP V}(e:bY H H')(h:ck K H a xs):ck K H' a xs:=by
 rcases h with (h|⟨o,h⟩)|h
 ·exact .inl (.inl (e _ _ h))
 ·exact .inl (.inr ⟨o,e _ _ h⟩)
 ·exact .inr h
end L2
set_option maxHeartbeats 4000000
namespace L2
open PySem PySem.Spec PyProof.Rows
section
variable {X : Cx}
theorem w5:jC X "str.lower" (λx xs H Q=>∃ z,x= .str z/\xs=[]/\z.length<=5592405/\Q (.str (Txt.lower z)) H):=by
 intro pins s σ H x xs v us Q I J rs h;obtain⟨z,rfl,rfl,U,q⟩:=h;obtain⟨t,rfl⟩:=J;cases rs;exact SCL.lower U λ_=>⟨.str _,H,I.tok _,⟨_,rfl⟩,q⟩
theorem tL:∀{ys:JP Str} {us:JP JT},Vals (ys.map V.str) us->StrsAre us ys
 |[],_,.nil=> .nil
 |y::ys,_,.cons r t=>by
  obtain⟨k,e⟩:=(show ∃ k,_=NU y k from r);subst e;exact .cons y k (tL t)
theorem AJ:jC X "str.join" (λx xs H Q=>∃ z p ys,x= .str z/\xs=[.ref p]/\ck X.K H p (ys.map V.str)/\(ys.map (·.length)).sum+ys.length*z.length<=16777216/\Q (.str (Txt.join z ys)) H):=by
 intro pins s σ H x xs v us Q I J rs h;obtain⟨z,p,ys,rfl,rfl,U,hz,q⟩:=h;obtain⟨t,rfl⟩:=J;obtain⟨u,rfl,r1⟩:=vals1 rs;cases r1;obtain⟨aa,r,pl,_⟩:=I.list U;exact join_list pl.isList (by simpa using tL r) hz λt' k=>⟨.str _,H,I.tok _,⟨_,rfl⟩,q⟩
noncomputable def Gh:V->JW Int->JW Int->Hp->VK->Prop:=λx lo hi H Q=>∃ z,x= .str z/\z.length<=sizeLine/\Q (.str (Txt.slice z lo hi)) H
theorem gJ:zJ X Gh:=by
 intro pins s σ H x v vl vu lo hi sl Q I rx J pl pu h;obtain⟨z,rfl,U,q⟩:=h;obtain⟨t,rfl⟩:=rx;refine⟨"str",_,F.slot_str_getitem.lookup,Nf _ _ _,?_⟩;cases pl with
 |none=>
  cases pu with
  |none=>exact Mp (l:=none) (u:=none) (st:=none) J rfl (NJ ⟨Kj (Txt.slice_le z _ _) U,λt' k=>⟨.str (Txt.slice z none none),H,I.tok _,⟨_,rfl⟩,q⟩⟩)
  |int j tj=>exact Mp (l:=none) (u:=some (j,tj)) (st:=none) J rfl (NJ ⟨Kj (Txt.slice_le z _ _) U,λt' k=>⟨.str (Txt.slice z none (some j)),H,I.tok _,⟨_,rfl⟩,q⟩⟩)
 |int i ti=>
  cases pu with
  |none=>exact Mp (l:=some (i,ti)) (u:=none) (st:=none) J rfl (NJ ⟨Kj (Txt.slice_le z _ _) U,λt' k=>⟨.str (Txt.slice z (some i) none),H,I.tok _,⟨_,rfl⟩,q⟩⟩)
  |int j tj=>exact Mp (l:=some (i,ti)) (u:=some (j,tj)) (st:=none) J rfl (NJ ⟨Kj (Txt.slice_le z _ _) U,λt' k=>⟨.str (Txt.slice z (some i) (some j)),H,I.tok _,⟨_,rfl⟩,q⟩⟩)
theorem zC:eU X (Lz .LtE) (λx y H Q=>∃ i j,x= .str i/\y= .str j/\Q (.bl (!(decide (j.cps.toList<i.cps.toList)))) H):=by
 intro pins s σ H x y v u Q I J U h;obtain⟨i,j,rfl,rfl,q⟩:=h;obtain⟨t,rfl⟩:=J;obtain⟨t',rfl⟩:=U;exact PySem.P.le_str ⟨.bl _,H,I,rfl,q⟩
mutual
inductive ig (K : J7) (H : Hp) : V -> Kf -> Prop
 |non : ig K H .non .none
 |bl (b : KS) : ig K H (.bl b) (.bool b)
 |int (i : Int) : ig K H (.int i) (.int i)
 |str (x : Str) : ig K H (.str x) (.str x)
 |lst {a : JR} {xs : JP V} {ds : JP Kf} : ck K H a xs -> iU K H xs ds -> ig K H (.ref a) (.list ds)
 |tup {a : JR} {xs : JP V} {ds : JP Kf} : cu K H a xs -> iU K H xs ds -> ig K H (.ref a) (.tuple ds)
inductive iU (K : J7) (H : Hp) : JP V -> JP Kf -> Prop
 |nil : iU K H [] []
 |cons {x : V} {xs : JP V} {d : Kf} {ds : JP Kf} : ig K H x d -> iU K H xs ds -> iU K H (x :: xs) (d :: ds)
end
mutual
theorem ig.reads {pins : JP (JR × Obj)} {σ : St} {H : Hp} {s : JZ} (I : Inv X pins σ H s) : ∀ {x : V} {d : Kf} {u : JT}, ig X.K H x d -> RelV x u -> ∃ as, Reads s.heap u d as
 | _, _, _, .non, r => by cases r; exact ⟨_, .none⟩
 | _, _, _, .bl b, r => by cases r; exact ⟨_, .bool b⟩
 | _, _, _, .int i, r => by obtain ⟨t, rfl⟩ := r; exact ⟨_, .int i t⟩
 | _, _, _, .str x, r => by obtain ⟨t, rfl⟩ := r; exact ⟨_, .str x t⟩
 | _, _, _, .lst hq hs, r => by
  cases r
  obtain ⟨its, rv, ⟨o, n, e, c, _, d⟩, _⟩ := I.list hq
  obtain ⟨as, ra⟩ := iU.reads I hs rv
  exact ⟨_, .list e c d (by simpa using ra)⟩
 | _, _, _, .tup hq hs, r => by
  cases r
  obtain ⟨its, rv, ⟨o, e, c, n, d⟩, _⟩ := I.tuple hq
  obtain ⟨as, ra⟩ := iU.reads I hs rv
  exact ⟨_, .tuple e c d (by simpa using ra)⟩
theorem iU.reads {pins : JP (JR × Obj)} {σ : St} {H : Hp} {s : JZ} (I : Inv X pins σ H s) : ∀ {xs : JP V} {ds : JP Kf} {us : JP JT}, iU X.K H xs ds -> Vals xs us -> ∃ as, ReadsAll s.heap us ds as
 | _, _, _, .nil, .nil => ⟨_, .nil⟩
 | _, _, _, .cons h hs, .cons r rs => by
  obtain ⟨as, ra⟩ := ig.reads I h r
  obtain ⟨bs, rb⟩ := iU.reads I hs rs
  exact ⟨_, .cons ra rb⟩
end
noncomputable def GH(X:Cx):R2:=λx y H Q=>∃ dx J,ig X.K H x dx/\ig X.K H y J/\dx.canLay0=true/\J.canLay0=true/\min dx.depth J.depth<=100/\Q (.bl (Nx dx J)) H
noncomputable def D5(X:Cx):R2:=λx y H Q=>∃ dx J,ig X.K H x dx/\ig X.K H y J/\dx.canLay0=true/\J.canLay0=true/\min dx.depth J.depth<=100/\Q (.bl (!PyData.eqv dx J)) H
theorem wA(hu:X.A.units+100<Pc):eU X (Lz .Eq) (GH X):=by
 intro pins s σ H x y v u Q I rx ry h;obtain⟨dx,dy,hx,hy,J,U,hd,q⟩:=h;obtain⟨as,ra⟩:=hx.reads I rx;obtain⟨bs,rb⟩:=hy.reads I ry;exact SeqAt.compareEq_reads ra rb J U (by(clear U J;omega)) ⟨.bl _,H,I,rfl,q⟩
theorem sJ(hu:X.A.units+100<Pc):eU X (Lz .NotEq) (D5 X):=by
 intro pins s σ H x y v u Q I rx ry h;obtain⟨dx,dy,hx,hy,J,U,hd,q⟩:=h;obtain⟨as,ra⟩:=hx.reads I rx;obtain⟨bs,rb⟩:=hy.reads I ry;exact SeqAt.compareNe_reads ra rb J U (by(clear U J;omega)) ⟨.bl _,H,I,rfl,q⟩
theorem xV:∀{bs:JP KS} {us:JP JT},Vals (bs.map V.bl) us->∀(i:Nat) (v:JT),us[i]? =some v->∃ b,bs[i]? =some b/\v= .bool b
 |[],_,.nil,i,v,h=>by simp at h
 |b::bs,_,.cons r t,0,v,h=>by
  have J:_=Oy b:=r;subst J;simp at h;exact⟨b,by simp,h.symm⟩
 |b::bs,_,.cons r t,i+1,v,h=>by
  obtain⟨c,U,I⟩:=xV t i v (by simpa using h);exact⟨c,by simpa using U,I⟩
theorem vt(hc:X.calm=true):iI X (.builtin "all") (λxs H Q=>∃(p:JR) (bs:JP KS),xs=[.ref p]/\ck X.K H p (bs.map V.bl)/\Q (.bl (bs.all id)) H):=by
 intro pins s σ H xs us Q I r h;obtain⟨p,bs,rfl,hq,q⟩:=h;obtain⟨u,rfl,rx⟩:=vals1 r;cases rx;obtain⟨J,rv,pl,hz⟩:=I.list hq;have U:=pl.isList;have hlen:=rv.length;rw[JX] at hlen;have aa:p<s.heap.objs.size:=by obtain⟨_,e,_⟩:=U;exact Kb e
 refine call_all_walk (Oa U ?_);refine⟨s.heap.objs.size,[s.heap.objs.size,p],[s.heap.objs.size],J.toArray.size,_,_,λi=>(bs[i]?).getD true,rfl,Walks.list (A:=X.A.in1) (I.ok.hd hc) _ p (Kr aa) J.toArray,
  ⟨⟨_,Heap.get?_push_size _ rfl,rfl,rfl⟩,U.push _⟩,λi v s' Q' E' hP hQ=>?_,λh' tk hk=>?_⟩
 ·obtain⟨b,e,rfl⟩:=xV rv i v (by simpa using hP);simp only[e,Option.getD_some] at hQ;exact LD hQ
 ·have e:((LL J.toArray.size).all λi=>(bs[i]?).getD true)=bs.all id:=by
   rw[Kk,<-hlen];exact LSm.range_all bs
  rw[e];exact⟨.bl _,H,I.kept (LSm.kept_iter hk),rfl,q⟩
theorem jE:iI X (.builtin "isinstance") (λxs H Q=>∃ x c t b,xs=[x,c]/\gA X.K H x t/\
  ((∃ n,c= .ty n/\Lw X.K t (.type n)=some b)\/(∃ C,c= .ref C/\Lw X.K t (.ref C)=some b))/\Q (.bl b) H):=by
 intro pins s σ H xs us Q I r h;obtain⟨x,c,t,b,rfl,ty,U,q⟩:=h;obtain⟨u,w',rfl,J,rc⟩:=vals2 r;rcases U with ⟨n,rfl,e⟩|⟨C,rfl,e⟩
 ·cases rc;exact AQ I J ty e λtk=>⟨.bl b,H,I.tok tk,rfl,q⟩
 ·cases rc;exact AQ I J ty e λtk=>⟨.bl b,H,I.tok tk,rfl,q⟩
end
section
variable {X : Cx} {pins : JP (JR × Obj)} {σ : St} {H H' : Hp} {s : JZ} {h' : KP}
theorem Inv.track {a:JR}{o:HO}(I:Inv X pins σ H s)(hs:X.s₀.heap.get? a=none\/a∈X.ex)(hn:H a=none)(hL:a≠X.env.locals)(hC:∀ x c,X.env.cells.lookup x=some c->c≠a)(hp:∀ p∈X.pn++pins,p.1≠a)
  (new:eY X.prog X.w (upd H a o) s.heap a o):Inv X pins σ (upd H a o) s:=by
 refine⟨I.ok,I.os,I.bare,⟨I.base.keep,I.base.slot,λb ob e n U=>?_,I.base.there,λb xs e=>?_,λb ob u e=>?_,λb ps e=>?_⟩,I.loc,I.cell,?_,λx c e=>?_,λp J=>?_,λb u e=>?_,I.len⟩
 ·have hb:b≠a:=by
   rintro rfl;rcases hs with z|z
   ·rw[z] at e;cases e
   ·exact U z
  rw[cF hb];exact I.base.free b ob e n U
 ·have q:=I.base.tups b xs e;rw[cF (dI q hn)];exact q
 ·have q:=I.base.frzs b ob u e;rw[cF (dI q hn)];exact q
 ·obtain⟨m,q⟩:=I.base.tbls b ps e;exact⟨m,by rw[cF (dI q hn)];exact q⟩
 ·rw[cF (K5 hL)];exact I.free
 ·rw[cF (hC x c e)];exact I.freeC x c e
 ·obtain⟨e,n,r⟩:=I.pin p J;exact⟨e,by rw[cF (hp p J)];exact n,r⟩
 ·by_cases hb:b=a
  ·subst hb;rw[b6] at e;cases e;exact new
  ·rw[cF hb] at e;exact(I.hok b u e).stay (λc v _ q=>q) (λc q=>by rw[cF (dI q hn)];exact q) λc xs q=>by rw[cF (dI q hn)];exact q
theorem Inv.turnedL {t':Nat}{fp:JP JR}(I:Inv X pins σ H s)(k:∀ b o,b∉fp->s.heap.get? b=some o->h'.get? b=some o)(hf:∀ b∈fp,iy X pins H b):Inv X pins σ H {s with heap:=h',toks:=t'}:=by
 have U:∀ b u,H b=some u->b∉fp:=λb u e z=>by rw[(hf b z).1] at e;cases e
 refine I.step (g':=s.gens) (d':=s.drawn) (ch:=fp) (λb hb=>?_) (λb o _ _ J e _=>k b o J e) (λb o _ _ J e _=>⟨o.slots,k b o J e⟩) (λ_ _ _ _ n=>n)
  (λb o J e=>⟨o,k b o J e⟩) (λ_ _ e=>e) (λ_ _ _ e=>e) (λb ps e=>⟨#[],by rw[e];simp⟩) (λm hm=>?_) (λb u e=>?_) I.bare
 ·obtain⟨f0,f1,f2,f3,f4,f5⟩:=hf b hb;exact⟨f3,f1,f4,f5⟩
 ·obtain⟨o,es,ep,ho,r⟩:=hm;exact⟨o,es,ep,k _ o (λz=>(hf _ z).2.1 rfl) ho,r⟩
 ·refine(I.hok b u e).stay (λc v J q=>k c v ?_ q) (λ_ q=>q) λ_ _ q=>q
  rcases J with z|z
  ·rw[z];exact U b u e
  ·exact U c _ z
end
noncomputable def tR(x:Str):It:=⟨λi _=>i<x.cps.size,λi H v H'=>H'=H/\∃ c,x.cps[i]? =some c/\v= .str ⟨#[c]⟩,λi _=>i=x.cps.size⟩
theorem AH{P:Ka}{w:Ku}{A:K4}(hh:A.handled=none)(I:JR)(x:Str)(t:Tok):Walks P w A I [I] [I] x.cps.size (SignAt x) (λi h=>h.IsStrIter I (NF x) x t i):=by
 unfold NF;cases x.cps.all (· < 128)
 ·exact Walks.strWide hh I x t
 ·exact Walks.strAscii hh I x t
theorem Il{x:Str}:["enumerate","zip","dict_itemiterator","dict_reverseitemiterator","odict_iterator","itertools.zip_longest","itertools.pairwise"].contains (NF x)=false:=by
 unfold NF;cases x.cps.all (· < 128)<;>decide
theorem IV{P:Ka}{w:Ku}{K:Kl}{tg:KI}(x:Str)(t:Tok)(it:JR):Turn P w K tg (tR x) [it] it (λi h=>h.IsStrIter it (NF x) x t i) where
 mem:=by simp
 obj:=λi h st b hb=>by
  have e:b=it:=by simpa using hb
  subst e;obtain⟨o,e,c,d⟩:=st;exact⟨o,e,λv z=>by rw[d] at z;cases z⟩
 keep:=λi h h' st k=>by
  obtain⟨o,e,r⟩:=st;exact⟨o,k it (by simp) o e,r⟩
 item:=by
  intro X U hw hK hc i pins s σ H E I hf st hg;subst U hw hK;refine(AH (P:=X.prog) (w:=X.w) (I.ok.hd hc) it x t).item i s _ _ hg st λv h' tk hv J kk=>?_
  obtain⟨c,u,aa,rfl⟩:=hv;have I1:Inv X pins σ H {s with heap:=h',toks:=tk}:=I.turnedL kk hf;obtain⟨o,e,c2,d⟩:=id J;exact⟨_,rfl,sy (s:={s with heap:=h',toks:=tk}) e c2 d Il ⟨.str ⟨#[c]⟩,H,I1,⟨u,rfl⟩,⟨rfl,c,aa,rfl⟩,J,λb hb=>(hf b hb).1⟩⟩
 done:=by
  intro X U hw hK hc i pins s σ H E I hf st hg;subst U hw hK;have ab:i=x.cps.size:=hg;subst ab;exact(AH (P:=X.prog) (w:=X.w) (I.ok.hd hc) it x t).done s _ _ st λh' tk kk=>⟨rfl,I.turnedL kk hf⟩
 self:=λA i s Q E st h=>by
  revert st;unfold NF;cases x.cps.all (· < 128)
  ·exact λst=>wpAny_pyIter_striter_wide st h
  ·exact λst=>wpAny_pyIter_striter_ascii st h
noncomputable def BP(tl:TE):TI:=λσ H R=>tl σ H λv H1=>∃ x,v= .str x/\R (tR x) H1
section
variable {X : Cx} {tg : KI}
theorem ug{l:KI}{tl:TE}(hl:PE X l tl):PI X tg l (BP tl):=by
 intro pins s σ H R I h;refine cv (hl pins s σ H _ I h) λv s1 ⟨y,H1,J,r1,x,e,q⟩=>?_
 subst e;obtain⟨t,rfl⟩:=r1;refine wpAny_pyIter_strU ?_;refine⟨s1.heap.objs.size,[s1.heap.objs.size],_,_,H1,rfl,J.kept (t':=s1.toks) λb o e=>Heap.get?_push_of_some _ e,IV x t _,⟨_,Heap.get?_push_size _ rfl,rfl,rfl⟩,λb hb=>?_,q⟩;have e:b=s1.heap.objs.size:=by simpa using hb
 subst e;exact J.fpOk (JY _) (J.hok.fresh (JY _))
end
section
variable {X : Cx}
end
open PySem
noncomputable def gP(env:Env):JP (Str×MV)->JP (Str×JR)->JP (Str×JR)
 |[],cs=>cs
 |(n,k)::r,cs=>gP env r (if (k==K2)=true then (n,(env.cells.lookup n).getD 0)::cs else cs)
theorem zN{scope:MS}{env:Env}(h:∀ x∈scope.names,x.2= .free->∃ c,env.cells.lookup x.1=some c):closureFor scope env=pure (gP env scope.names []):=by
 unfold closureFor;have go:∀(names:JP (Str×MV)) (cs:JP (Str×JR)),(∀ x∈names,x.2= .free->∃ c,env.cells.lookup x.1=some c)->
   (forIn names cs λ(x:Str×MV) (r:JP (Str×JR))=>(match x with
    |(name,kind)=>if (kind==K2)=true then do let a<-cellOf env name;pure (LQ ((name,a)::r)) else pure (LQ r):Sem (ForInStep (JP (Str×JR)))))=pure (gP env names cs):=by
  intro names;induction names with
  |nil=>intro cs _;rfl
  |cons x r J=>
   intro cs h;obtain⟨n,k⟩:=x;rw[List.forIn_cons];have U:=λy hy=>h y (J0 _ hy)
   cases hk:(k==K2) with
   |false=>
    simp only[hk,Bool.false_eq_true,if_false];show(pure (LQ cs) >>= _:Sem _)=_;simp only[pure_bind];rw[J cs U];simp only[gP,hk,Bool.false_eq_true,if_false]
   |true=>
    obtain⟨c,I⟩:=h (n,k) KG (by simpa using hk);have e:cellOf env n=pure c:=by unfold cellOf;rw[show env.cells.lookup n=some c from I]
    simp only[hk,if_true,e,pure_bind];rw[J _ U];simp only[gP,hk,if_true];rw[show env.cells.lookup n=some c from I];rfl
 exact K9 (λm:Sem (JP (Str×JR))=>m >>= λr=>pure r) (go scope.names [] h)
theorem uN{env:Env}{x:Str}{c:JR}:∀{names:JP (Str×MV)} {cs:JP (Str×JR)},(gP env names cs).lookup x=some c->cs.lookup x=some c\/((x,K2)∈names/\c=(env.cells.lookup x).getD 0)
 |[],_,h=> .inl h
 |(n,k)::r,cs,h=>by
  rcases uN (names:=r) h with q|⟨q,e⟩
  ·cases hk:(k==K2) with
   |false=>rw[hk] at q;exact .inl q
   |true=>
    rw[hk,J1 rfl] at q;have J:k=K2:=by simpa using hk
    subst J;cases hx:x==n with
    |true=>
     rw[Lu,hx] at q;have e:x=n:=by simpa using hx
     subst e;exact .inr ⟨KG,(Kg q).symm⟩
    |false=>
     rw[Lu,hx] at q;exact .inl q
  ·exact .inr ⟨J0 _ q,e⟩
theorem mH{env:Env}{x:Str}:∀{names:JP (Str×MV)} {cs:JP (Str×JR)},(x,K2)∈names\/(∃ c,cs.lookup x=some c)->∃ c,(gP env names cs).lookup x=some c
 |[],_,h=>by
  rcases h with h|h
  ·cases h
  ·exact h
 |(n,k)::r,cs,h=>by
  refine mH (names:=r) ?_;rcases h with h|⟨c,h⟩
  ·rcases List.mem_cons.mp h with e|e
   ·cases e;refine .inr ⟨(env.cells.lookup x).getD 0,?_⟩;rw[J1 (by rfl),Lu];simp
   ·exact .inl e
  ·refine .inr ?_;cases hk:(k==K2) with
   |false=>exact⟨c,h⟩
   |true=>
    rw[J1 rfl,Lu];cases hx:x==n with
    |true=>exact⟨_,rfl⟩
    |false=>exact⟨c,h⟩
theorem wa{env:Env}(hf:env.scope.kind= .function):∀{names:JP (Str×MV)} {x:Str},names.lookup x=some .free->env.kindOf x=some .cell->
  (names.map λ(n,k)=>if (k==K2&&env.scope.kind == .function&&env.kindOf n==some .cell) then (n,NB) else (n,k)).lookup x=some .cell
 |[],_,h,_=>by simp at h
 |(n,k)::r,x,h,U=>by
  have I:=@wa env hf r x
  show Mv x ((if (k==K2&&env.scope.kind == .function&&env.kindOf n==some .cell)=true then (n,NB) else (n,k))::_)=_;cases hx:x==n with
  |true=>
   have e:x=n:=by simpa using hx
   subst e;simp only[Lu,hx] at h;cases h;rw[J1 (by rw[hf,U];rfl)];simp[Lu]
  |false=>
   simp only[Lu,hx] at h;by_cases J:(k==K2&&env.scope.kind == .function&&env.kindOf n==some .cell)=true
   ·rw[J1 J];simp only[Lu,hx];exact I h U
   ·rw[if_neg J];simp only[Lu,hx];exact I h U
theorem pF{env:Env}:∀{names:JP (Str×MV)} {x:Str} {k':MV},(∀ y∈names,y.2≠ .cell)->(k'= .cell\/k'= .free)->
  (names.map λ(n,k)=>if (k==K2&&env.scope.kind == .function&&env.kindOf n==some .cell) then (n,NB) else (n,k)).lookup x=some k'->(x,K2)∈names
 |[],_,_,_,_,h=>by simp at h
 |(n,k)::r,x,k',hn,hk,h=>by
  have ih:=@pF env r x k' (λy hy=>hn y (J0 _ hy)) hk
  have h':Mv x ((if (k==K2&&env.scope.kind == .function&&env.kindOf n==some .cell)=true then (n,NB) else (n,k))::r.map λ(n,k)=>if (k==K2&&env.scope.kind == .function&&env.kindOf n==some .cell) then (n,NB) else (n,k))=some k':=h
  have U:k≠ .cell:=hn (n,k) KG;by_cases J:(k==K2&&env.scope.kind == .function&&env.kindOf n==some .cell)=true
  ·rw[J1 J,Lu] at h';have I:k= .free:=by
    rw[Lc,Lc] at J;simpa using J.1.1
   cases hx:x==n with
   |true=>
    have e:x=n:=by simpa using hx
    subst e;rw[I];exact KG
   |false=>rw[hx] at h';exact J0 _ (ih h')
  ·rw[if_neg J,Lu] at h';cases hx:x==n with
   |true=>
    rw[hx] at h';have e:x=n:=by simpa using hx
    subst e;have e2:k=k':=Kg h';subst e2;rcases hk with z|z
    ·exact absurd z U
    ·rw[z];exact KG
   |false=>rw[hx] at h';exact J0 _ (ih h')
section
variable {prog : Ka} {w : Ku} {A : K4} {R : Result -> JZ -> Prop} {s : JZ}
theorem Ja{elt target iter:KI}{ifs:JP KI}{scope:MS}{pos:Pos}{it acc:JT}{env:Env}(I:Nat->JZ->Prop)
  (turn:∀ n s,I n s->Kq (Ko prog w) A (pyNext it) (λr s₁=>match r with
   |none=>R (.ok .next) s₁
   |some v=>Kq (Ko prog w) A (Nc target it v) (λ_ s₀=>Kq (Ko prog w) A (assign target env v) (λ_ s₂=>
     Kq (Ko prog w) A (forIn ifs true λc r=>if r=true then do let ok<-isTrue c env (eval c env);pure (LQ ok) else pure (LQ r)) (λok s₃=>
      if ok=true then Kq (Ko prog w) A (eval elt env) (λx s₄=>
       Kq (Ko prog w) A (call (.builtin "list.append") [acc,x]) (λ_ s₅=>∃ m,m<n/\I m s₅) (λ_ _=>LG) s₄) (λ_ _=>LG) s₃
      else ∃ m,m<n/\I m s₃) (λ_ _=>LG) s₂) (λ_ _=>LG) s₀) (λ_ _=>LG) s₁) (λ_ _=>LG) s)
  (n:Nat)(h:I n s):
  Nz (Ko prog w) A (.compLoop (.ListComp elt [⟨target,iter,ifs,0⟩] scope pos) 0 it acc env) R s:=by
 refine codeAny_loop rfl I (λn s hI=>?_) n h;show Kq _ A ((compTurn (.ListComp elt [⟨target,iter,ifs,0⟩] scope pos) 0 it acc env).onRaise (λx=>do L0 x env;theTreesLotGoes x)) _ _ s;refine wpAny_noted ?_;rw[compTurn_list];refine J8 (MH (J8 (KY (turn n s hI) (λr s₁ J=>?_) λ_ _ h'=>h'.elim)));cases r with
 |none=>exact KN J
 |some v=>
  refine J8 (KY J (λ_ s₀ h₀=>?_) λ_ _ h'=>h'.elim);refine J8 (KY h₀ (λ_ s₂ aa=>J8 (KY aa (λok s₃ U=>?_) λ_ _ h'=>h'.elim)) λ_ _ h'=>h'.elim);cases ok with
  |false=>exact KN ⟨rfl,U⟩
  |true=>
   exact J8 (J8 (KY U (λx s₄ ab=>J8 (KY ab (λ_ s₅ ae=>KN (KN ⟨rfl,ae⟩)) λ_ _ h'=>h'.elim)) λ_ _ h'=>h'.elim))
end
noncomputable def dH(X:Cx)(scope:MS)(N:JP Str)(s₀:JZ)(H₀:Hp)(ex:JP JR):Cx:=
 {X with N:=N,s₀:=s₀,H₀:=H₀,env:=OT scope (gP X.env scope.names []) s₀.heap.objs.size X.env,outer:=X.stack,ex:=ex,fn:=λ_=>false,pn:=[],xe:=λ_ _=>LG}
section
variable {X : Cx} {c : KI} {t : TT}
noncomputable def cP(X:Cx)(ifs:JP KI)(t:TT):Prop:=∀(pins:JP (JR×Obj)) (s:JZ) (σ:St) (H:Hp) (Q:KS->Hp->Prop),Inv X pins σ H s->t σ H Q->
 Kq (Ko X.prog X.w) X.A (forIn ifs true λc r=>if r=true then do let ok<-isTrue c X.env (eval c X.env);pure (LQ ok) else pure (LQ r)) (TP X pins σ Q) X.xe s
noncomputable def A8:TT:=λ_ H Q=>Q true H
theorem jj:cP X [] A8:=λ_ _ _ H _ I h=>wpAny_tests_nil ⟨H,I,h⟩
theorem Im(h:PT X c t):cP X [c] t:=λpins s σ H Q I J=>wpAny_tests_one (h pins s σ H Q I J)
end
noncomputable def oB(own:Nat)(g:TG):Prop:=∀ x σ H Q U,g x σ H Q->(∀ J H',Q J H'->J.length=σ.length->(∀ j v,own<=j->σ[j]? =some (some v)->J[j]? =some (some v))->U J H')->g x σ H U
theorem iV{own i:Nat}(hi:i<own):oB own (hV i):=λx σ H Q J h k=>k _ H h (by simp) λj v U e=>by rw[List.getElem?_set_ne (by(clear e;omega))];exact e
noncomputable def gX(own:Nat)(caps:JP Nat)(σ:St):St:=List.replicate own none++caps.map λj=>(σ[j]?).join
noncomputable def nQ(J:It)(g:TG)(tc:TT)(te:TE)(σ0:St)(Q:VK)(H:Hp):Prop:=
  ∃ W:Nat->Nat->JP V->Hp->Prop,(∃ m,W 0 m [] H)/\∀ i m ys H,W i m ys H->
   (J.stop i H/\ys.length<=sizeLine/\∀ p,H p=none->Q (.ref p) (upd H p (.lst ys)))\/
   (J.go i H/\ys.length<sizeLine/\∀ x H',J.yld i H x H'->g x σ0 H' λU H2=>tc U H2 λb H3=>
    if b=true then te U H3 λy H4=>∃ I,I<m/\W (i+1) I (ys++[y]) H4 else ∃ I,I<m/\W (i+1) I ys H3)
noncomputable def pO(own:Nat)(caps:JP Nat)(wi:TI)(g:TG)(tc:TT)(te:TE):TE:=λσ H Q=>wi σ H λJ H1=>nQ J g tc te (gX own caps σ) Q H1
theorem rG{a:JR}{o:Obj}:∀ p∈[(a,o)],p.1=a:=λp hp=>by rw[List.mem_singleton.mp hp]
section
variable {X : Cx}
theorem zu{scope:MS}{N:JP Str}{pins:JP (JR×Obj)}{σ σ':St}{H2 He:Hp}{s2 s1:JZ}{hp h':KP}{fp:JP JR}{ys:JP V}{its:JP JT}{na:Nat}{lo:Obj}
  (I2:Inv X pins σ H2 s2)(f2:∀ b∈fp,iy X pins H2 b)(ehp:hp=s2.heap.push lo)
  (J:Inv (dH X scope N {s2 with heap:=hp} H2 (s2.heap.objs.size::fp)) [(s2.heap.objs.size,{cls:= .type "list",data:= .seq its.toArray na})] σ' He s1)
  (hsb:Md hp.objs.size s1.heap h')(hv:Vals ys its)(hz:ys.length<=sizeLine):
  Inv X pins σ (upd He s2.heap.objs.size (.lst ys)) {s1 with heap:=h'}:=by
 have hC:hp.objs.size=s2.heap.objs.size+1:=by rw[ehp,Mo]
 have below:∀{b:JR} {o:Obj},s2.heap.get? b=some o->b≠hp.objs.size/\b≠s2.heap.objs.size:=λ{b o} e=>by
  have q:=Kb e;exact⟨by rw[hC];exact Kr (MP q),Kr q⟩
 have up:∀{b:JR} {o:Obj},s2.heap.get? b=some o->hp.get? b=some o:=λe=>by rw[ehp];exact Heap.get?_push_of_some _ e
 have un:Un (dz X.stack) (s2.heap.objs.size::fp) H2 He hp s1.heap:=J.base
 have nD:∀{b:JR} {o:Obj},s2.heap.get? b=some o->b∉fp->b∉s2.heap.objs.size::fp:=λe I z=>(List.mem_cons.mp z).elim (below e).2 I
 have U:He hp.objs.size=none:=J.free
 have u2:Un (dz X.stack) fp H2 He s2.heap h':=by
  refine⟨λb o e n hb I=>?_,λb o e n hb I=>?_,λb o e n I=>?_,λb o e I=>?_,un.tups,un.frzs,un.tbls⟩
  ·exact(hsb.2 b (below e).1).trans (un.keep b o (up e) n hb (nD e I))
  ·obtain⟨sl,q⟩:=un.slot b o (up e) n hb (nD e I);exact⟨sl,(hsb.2 b (below e).1).trans q⟩
  ·exact un.free b o (up e) n (nD e I)
  ·obtain⟨o',q⟩:=un.there b o (up e) (nD e I);exact⟨o',(hsb.2 b (below e).1).trans q⟩
 have hok:eK X.prog X.w He h':=λb u e=>by
  refine(J.hok b u e).stay (λc v hc q=>(hsb.2 c ?_).trans q) (λ_ q=>q) λ_ _ q=>q
  rintro rfl;rcases hc with z|z
  ·rw[<-z,U] at e;cases e
  ·rw[U] at z;cases z
 have I3:Inv X pins σ He {s1 with heap:=h'}:=I2.call' (s':={s1 with heap:=h'}) (ch:=fp) J.os u2 hok J.bare λb hb=>by
  obtain⟨f0,f1,f3,f4,f5,f6⟩:=f2 b hb;exact⟨f4,f1,f5,f6⟩
 obtain⟨pe,pn,_⟩:=J.pin _ (Ki _ KG);refine I3.track (.inl (Heap.get?_none_of_le I2.sz)) pn (OA I2.lt) (λy c' q z=>?_) (λp aa z=>?_) ?_
 ·obtain⟨v,q'⟩:=I2.cell y c' q;exact absurd q'.lt (by rw[z];exact Kw _)
 ·exact absurd (Kb (I2.pin p aa).1) (by rw[z];exact Kw _)
 ·exact⟨hz,its,na,hv,(hsb.2 _ (by rw[hC];exact Kr (LJ _))).trans pe⟩
theorem AG{elt target iter:KI}{ifs:JP KI}{scope sc0:MS}{pos:Pos}{N N0:JP Str}{own:Nat}{caps:JP Nat}{wi:TI}{g:TG}{tc:TT}{te:TE}
  (hcalm:X.calm=true)(hi:PI X target iter wi)
  (hg:∀ s₀ H₀ ex,PG (dH X scope N s₀ H₀ ex) target g)(hc:∀ s₀ H₀ ex,cP (dH X scope N s₀ H₀ ex) ifs tc)(he:∀ s₀ H₀ ex,PE (dH X scope N s₀ H₀ ex) elt te)(hk:oB own g)
  (hX:X.N=N0)(hsc:X.env.scope=sc0)
  (hcell:∀ y∈scope.names,y.2≠ .cell)(hkind:scope.kind= .function)(hnames:∀ y∈scope.names,y.2= .local->scope.names.lookup y.1=some .local)
  (hfree:∀ y∈scope.names,y.2= .free->sc0.names.lookup y.1=some .cell)(hN:N.length=own+caps.length)
  (hcap:∀ p∈caps.zip (N.drop own),N0[p.1]? =some p.2/\scope.names.lookup p.2=some .free)
  (hs:∀ x,Me iter X.env x=pure x)
  {use:JW (JT->Sem Unit)}{Qf:JT->JZ->Prop}{pins:JP (JR×Obj)}{s:JZ}{σ:St}{H:Hp}{Q:VK}{cpos:Pos}(I:Inv X pins σ H s)(h:pO own caps wi g tc te σ H Q)
  (hR:∀(D C:JR) (s':JZ) (He:Hp) (ys:JP V) (m:Str->JW JT) (f:Flow),s'.heap.Ns C m->(∀ h',Md C s'.heap h'->Inv X pins σ (upd He D (.lst ys)) {s' with heap:=h'})->
   iy X pins (upd He D (.lst ys)) C->Q (.ref D) (upd He D (.lst ys))->O8 (Ko X.prog X.w) X.A X.xe use Qf (.ref D) C (.ok f) s'):
  Kq (Ko X.prog X.w) X.A (comprehension (.ListComp elt [⟨target,iter,ifs,0⟩] scope pos) scope X.env cpos (newList []) false (eval iter X.env) use) Qf X.xe s:=by
 have ab:∀ y∈scope.names,y.2= .free->X.env.kindOf y.1=some .cell:=λy hy e=>by
  show X.env.scope.names.lookup y.1=some .cell;rw[hsc];exact hfree y hy e
 refine wpAny_comprehension_free (use:=use) rfl hs (zN λy hy e=>I.ok.has y.1 (.inl (ab y hy e))) hkind hnames ?_;refine cv (hi pins s σ H _ I h) λv s1 h1=>cv h1 λaY s2 h2=>?_
 obtain⟨it,fp,tn,J,H2,e,I2,T,aC,f2,W,⟨m0,w0⟩,turn⟩:=h2;subst e;refine MN (wpAny_newFunctionEnv hcell (by intro y hy;simp at hy) (λak af ag=>?_) hkind);dsimp only at af ag ⊢;generalize ah:s2.heap.push {cls:= .type "list",dict:=none,data:= .seq ([]:JP JT).toArray}=hp at af ag ⊢;have hC:hp.objs.size=s2.heap.objs.size+1:=by rw[<-ah,Mo]
 have ai:s2.heap.objs.size≠hp.objs.size:=by rw[hC];exact Kr (LJ _)
 have av:hp.get? s2.heap.objs.size=some {cls:= .type "list",data:= .seq ([]:JP JT).toArray}:=by rw[<-ah];exact Heap.get?_push_size _ rfl
 have up:∀{b:JR} {o:Obj},s2.heap.get? b=some o->hp.get? b=some o:=λe=>by rw[<-ah];exact Heap.get?_push_of_some _ e
 have up1:∀{b:JR} {o:Obj},hp.get? b=some o->ak.get? b=some o:=λ{b o} e=>ag.extBut b o (Kr (Kb e)) (Heap.get?_push_of_some _ e)
 have aB:∀{b:JR} {o:Obj},s2.heap.get? b=some o->b<s2.heap.objs.size:=λe=>Kb e
 have aQ:∀ b∈fp,∃ o,s2.heap.get? b=some o:=λb hb=>by obtain⟨o,e,_⟩:=T.obj 0 _ aC b hb;exact⟨o,e⟩
 have aw:∀ b∈fp,b≠hp.objs.size/\b≠s2.heap.objs.size:=λb hb=>by
  obtain⟨o,e⟩:=aQ b hb;have q:=aB e;exact⟨by rw[hC];exact Kr (MP q),Kr q⟩
 have aa:∀{x:Str} {c:JR},(gP X.env scope.names []).lookup x=some c->X.env.cells.lookup x=some c/\X.env.kindOf x=some .cell:=λ{x c} q=>by
  rcases uN q with z|⟨z,e⟩
  ·cases z
  ·have k:=ab _ z rfl;obtain⟨c',ao⟩:=I2.ok.has x (.inl k);rw[ao] at e;have e':c=c':=e;subst e';exact⟨ao,k⟩
 have aj:∀{x:Str} {c:JR},(gP X.env scope.names []).lookup x=some c->c<s2.heap.objs.size:=λq=>by
  obtain⟨v,z⟩:=I2.cell _ _ (aa q).1;exact z.lt
 have aq:∀ b∈dz X.stack,b<s2.heap.objs.size:=λb hb=>by
  obtain⟨_,o,ho,_⟩:=I2.stack.mem hb;exact Kb ho
 have aR:(dH X scope N {s2 with heap:=hp} H2 (s2.heap.objs.size::fp)).Ok:=by
  refine⟨I2.ok.mod,hkind,I2.ok.glob,I2.ok.blt,JY _,λx y c q1 q2=>I2.ok.inj x y c (aa q1).1 (aa q2).1,λx hx=>?_,(λx c z=>by cases z),I2.ok.hd,I2.ok.frames,.inl rfl,λb hb=>?_,λb o q=>⟨up (I2.bs b o q).1,(I2.bs b o q).2⟩,?_,λb o q hb=>?_,λb hb=>?_,?_,λb hb=>I2.stkFree b hb⟩
  ·rcases hx with hx|hx
   ·exact mH (.inl (pF (env:=X.env) hcell (.inl rfl) hx))
   ·exact mH (.inl (pF (env:=X.env) hcell (.inr rfl) hx))
  ·rcases List.mem_cons.mp hb with rfl|hb
   ·exact⟨by show s2.heap.objs.size≠hp.objs.size;exact ai,λx c q=>Kr (aj q)⟩
   ·exact⟨(aw b hb).1,λx c q=>(f2 b hb).2.2.2.2.1 x c (aa q).1⟩
  ·show X.base.objs.size<=hp.objs.size;rw[hC];exact Kz (Kj I2.ok.bsz I2.sz)
  ·rcases List.mem_cons.mp hb with rfl|hb
   ·exact Kw _ (aB (I2.bs _ o q).1)
   ·rcases(f2 b hb).2.2.2.1 with z|z
    ·exact I2.ok.noex b o q z
    ·exact Kw _ (Km (Kb (I2.ok.bs b o q).1) z)
  ·intro z;rcases List.mem_cons.mp hb with rfl|hb
   ·exact Kw _ (aq _ z)
   ·rcases List.mem_cons.mp (I2.stkSub b z) with q|q
    ·exact(f2 b hb).2.1 q
    ·exact(f2 b hb).2.2.1 q
  ·show hp.FunFrames X.base X.stack;exact I2.stack.of_keeps λb o q _=>⟨o,up q,rfl⟩
 have len0:(gX own caps σ).length=N.length:=by unfold gX;rw[JU,Ma,JX,hN]
 have I0:Inv (dH X scope N {s2 with heap:=hp} H2 (s2.heap.objs.size::fp)) [] (gX own caps σ) H2 {s2 with heap:=ak,toks:=s2.toks+([]:JP (Str×JT)).length}:=by
  refine⟨aR,rfl,I2.bare,Un.kept λb o q=>up1 q,⟨_,af,λi x v e1 e2 e3=>?_⟩,λx c q=>?_,I2.hok.fresh (by show s2.heap.objs.size<=hp.objs.size;rw[hC];exact MU _),λx c q=>I2.freeC x c (aa q).1,λp ae=>absurd (show p∈([]:JP (JR×Obj)) from ae) (by simp),I2.hok.kept λb o q=>up1 (up q),len0⟩
  ·
   unfold gX at e2;by_cases aJ:i<own
   ·rw[List.getElem?_append_left (by simpa using aJ),List.getElem?_replicate] at e2;split at e2<;>cases e2
   ·rw[List.getElem?_append_right (by simpa using aJ),Ma,List.getElem?_map] at e2;cases ec:caps[i-own]? with
    |none=>rw[ec] at e2;cases e2
    |some j=>
     rw[ec] at e2;have ar:(σ[j]?).join=some v:=Kg e2;have aK:σ[j]? =some (some v):=by
      cases q:σ[j]? with
      |none=>rw[q] at ar;cases ar
      |some z=>rw[q] at ar;exact K9 some ar
     have hx:(N.drop own)[i-own]? =some x:=by
      rw[List.getElem?_drop];have:own+(i-own)=i:=by(clear aK ar ec e2 e1 len0 av ai hC ah hN hkind hsc hX hcalm;omega)
      rw[this];exact e1
     have hz:(caps.zip (N.drop own))[i-own]? =some (j,x):=by
      rw[List.getElem?_zip_eq_some];exact⟨ec,hx⟩
     obtain⟨hj,hf⟩:=hcap _ (List.mem_of_getElem? hz);rw[<-hX] at hj;have aL:(x,K2)∈scope.names:=LO hf;have aD:=ab _ aL rfl;obtain⟨m,hn,hl⟩:=I2.loc;obtain⟨u,ru,lk⟩:=hl j x v hj aK (.inr (.inl aD));refine⟨u,ru,.inr ⟨.inl (wa I2.ok.kind hf aD),?_⟩⟩;obtain⟨c,ao⟩:=mH (env:=X.env) (cs:=[]) (.inl aL);have aS:=(aa ao).1;rcases lk with ⟨z,_⟩|⟨_,c2,aM,ax⟩
     ·rw[aD] at z;cases z
     ·rw[aS] at aM;cases aM;obtain⟨oc,aE,aF⟩:=ax;exact⟨c,ao,oc,up1 (up aE),aF⟩
  ·obtain⟨v,oc,aE,aF⟩:=I2.cell x c (aa q).1;exact⟨v,oc,up1 (up aE),aF⟩
 have aN:∀{ay:St} {H':Hp} {s':JZ} {U:JP JT} {na:Nat},Inv (dH X scope N {s2 with heap:=hp} H2 (s2.heap.objs.size::fp)) [] ay H' s'->H' s2.heap.objs.size=none->
   s'.heap.get? s2.heap.objs.size=some {cls:= .type "list",data:= .seq U.toArray na}->
   Inv (dH X scope N {s2 with heap:=hp} H2 (s2.heap.objs.size::fp)) [(s2.heap.objs.size,{cls:= .type "list",data:= .seq U.toArray na})] ay H' s':=λ{ay H' s' U na} I' hn hd=>I'.pins_of λp ae=>by
  have e:p=(s2.heap.objs.size,{cls:= .type "list",data:= .seq U.toArray na}):=by simpa using ae
  subst e;exact⟨hd,hn,ai,λz=>Kw _ (aq _ z),λv z=>nomatch z⟩
 have aO:∀{H':Hp} {pl:JP (JR×Obj)},(∀ b∈fp,H' b=none)->(∀ p∈pl,p.1=s2.heap.objs.size)->∀ b∈fp,iy (dH X scope N {s2 with heap:=hp} H2 (s2.heap.objs.size::fp)) pl H' b:=λhn aT b hb=>by
  refine⟨hn b hb,(aw b hb).1,λz=>?_,.inl (J0 _ hb),λx c q=>(f2 b hb).2.2.2.2.1 x c (aa q).1,λp ae z=>?_⟩
  ·rcases List.mem_cons.mp (I2.stkSub b z) with q|q
   ·exact(f2 b hb).2.1 q
   ·exact(f2 b hb).2.2.1 q
  ·exact(aw b hb).2 (z.symm.trans (aT p ae))
 have loop:∀ au:JZ,au={s2 with heap:=ak,toks:=s2.toks+([]:JP (Str×JT)).length}->
   Nz (Ko X.prog X.w) X.A (.compLoop (.ListComp elt [⟨target,iter,ifs,0⟩] scope pos) 0 (.ref it) (.ref s2.heap.objs.size) (OT scope (gP X.env scope.names []) hp.objs.size X.env))
    (O8 (Ko X.prog X.w) X.A X.xe use Qf (.ref s2.heap.objs.size) hp.objs.size) au:=by
  rintro au rfl;refine Ja (λn s'=>∃ i ys U na H',Inv (dH X scope N {s2 with heap:=hp} H2 (s2.heap.objs.size::fp)) [] (gX own caps σ) H' s'/\tn i s'.heap/\(∀ b∈fp,H' b=none)/\H' s2.heap.objs.size=none/\
   Vals ys U/\s'.heap.get? s2.heap.objs.size=some {cls:= .type "list",data:= .seq U.toArray na}/\W i n ys H') ?_ m0
   ⟨0,[],[],0,H2,I0,T.keep _ _ _ aC λb _ o q=>up1 (up q),λb hb=>(f2 b hb).1,I2.hok.fresh (JY _),.nil,up1 av,w0⟩;rintro n s3 ⟨i,ys,U,na,H3,I3,aP,aU,aG,az,aH,w3⟩;have Ip:=aN I3 aG aH;have f3:=aO (H':=H3) (pl:=[(s2.heap.objs.size,{cls:= .type "list",data:= .seq U.toArray na})]) aU rG;rcases turn i n ys H3 w3 with ⟨stop,hz,fin⟩|⟨go,hz,step⟩
  ·refine cv (T.done (dH X scope N {s2 with heap:=hp} H2 (s2.heap.objs.size::fp)) rfl rfl rfl hcalm i _ s3 _ H3 _ Ip f3 aP stop) λr s4 ⟨hr,I4⟩=>?_
   subst hr;obtain⟨m,hn,_⟩:=I4.loc;exact hR _ _ _ _ ys m _ hn (λh' aV=>zu I2 f2 ah.symm I4 aV az hz) (I2.fpOk (by rw[hC];exact MU _) (by rw[cF (K5 ai)];exact I4.free)) (fin _ (I4.pin _ (Ki _ KG)).2.1)
  ·refine cv (T.item (dH X scope N {s2 with heap:=hp} H2 (s2.heap.objs.size::fp)) rfl rfl rfl hcalm i _ s3 _ H3 _ Ip f3 aP go) λr s4 ⟨u,hr,h4⟩=>?_
   subst hr;refine cv h4 λ_ s5 ⟨x,H5,I5,r5,y5,aI,aW⟩=>?_
   have aX:=I5.pinned (aO (H':=H5) (pl:=[(s2.heap.objs.size,{cls:= .type "list",data:= .seq U.toArray na})]) aW rG) (T.obj _ _ aI);refine cv (hg _ _ _ _ s5 _ H5 x u _ aX r5 (hk x _ H5 _ _ (step x H5 y5) λay H' q l k=>(⟨q,l,k⟩:_/\_/\_))) λ_ s6 ⟨aA,H6,I6,q6,l6,k6⟩=>?_
   refine cv (hc _ _ _ _ s6 aA H6 _ I6 q6) λok s7 ⟨H7,I7,q7⟩=>?_
   have weak:∀{H':Hp} {s':JZ} {pl:JP (JR×Obj)},Inv (dH X scope N {s2 with heap:=hp} H2 (s2.heap.objs.size::fp)) pl aA H' s'->Inv (dH X scope N {s2 with heap:=hp} H2 (s2.heap.objs.size::fp)) pl (gX own caps σ) H' s':=λI'=>
    I'.weak l6.symm λj v e=>k6 j v (by
     by_cases hj:j<own
     ·unfold gX at e;rw[List.getElem?_append_left (by simpa using hj),List.getElem?_replicate] at e;split at e<;>cases e
     ·(clear e l6 hz aH aG len0 av ai hC ah hN hkind hsc hX hcalm;omega)) e
   have after:∀{H':Hp} {s':JZ},Inv (dH X scope N {s2 with heap:=hp} H2 (s2.heap.objs.size::fp)) ([(s2.heap.objs.size,{cls:= .type "list",data:= .seq U.toArray na})]++nA fp s5.heap) aA H' s'->
     tn (i+1) s'.heap/\(∀ b∈fp,H' b=none)/\H' s2.heap.objs.size=none/\s'.heap.get? s2.heap.objs.size=some {cls:= .type "list",data:= .seq U.toArray na}:=λI'=>by
    refine⟨T.keep _ _ _ aI λb hb o e=>(I'.pin (b,o) (Ki _ (Ki _ (oJ hb e)))).1,λb hb=>?_,?_,?_⟩
    ·obtain⟨o,e,d⟩:=T.obj _ _ aI b hb;exact(I'.pin (b,o) (Ki _ (Ki _ (oJ hb e)))).2.1
    ·exact(I'.pin _ (Ki _ (Ll _ KG))).2.1
    ·exact(I'.pin _ (Ki _ (Ll _ KG))).1
   cases ok with
   |false=>
    rw[if_neg J3];obtain⟨m',hm,w7⟩:=(show ∃ m',m'<n/\W (i+1) m' ys H7 by rw[if_neg J3] at q7;exact q7);obtain⟨a1,a2,a3,a4⟩:=after I7;exact⟨m',hm,i+1,ys,U,na,H7,(weak I7).pins_of (λp ae=>absurd ae (by simp)),a1,a2,a3,az,a4,w7⟩
   |true=>
    rw[J1 rfl];rw[J1 rfl] at q7;refine cv (he _ _ _ _ s7 aA H7 _ I7 q7) λyv s8 ⟨y,H8,I8,r8,m',hm,w8⟩=>?_
    obtain⟨a1,a2,a3,a4⟩:=after I8;have hl:=az.length;refine MY KO ⟨_,a4,rfl⟩ NP (ND _ _) (Oc s2.heap.objs.size U.toArray na yv (by rw[Kk];(clear a4 a3 hm l6 aH aG len0 av ai hC ah hN hkind hsc hX hcalm;omega))) ⟨a4,?_⟩;have I9:Inv (dH X scope N {s2 with heap:=hp} H2 (s2.heap.objs.size::fp)) [] (gX own caps σ) H8 s8:=(weak I8).pins_of (λp ae=>absurd ae (by simp));have q:(s8.heap.update s2.heap.objs.size (Nw (·.push yv))).get? s2.heap.objs.size=some {cls:= .type "list",data:= .seq (U++[yv]).toArray (na+1)}:=by
     have q:=Ot a4 (·.push yv);simpa using q
    refine⟨m',hm,i+1,ys++[y],U++[yv],na+1,H8,I9.turned (it:=s2.heap.objs.size) (t':=s8.toks) (λb o hb e=>?_) a3 (ai) (.inl KG) (λx c z=>Kr (aj z)) (λp ae=>absurd (show p∈([]:JP (JR×Obj)) from ae) (by simp)),?_,a2,a3,az.append (.cons r8 .nil),q,w8⟩
    ·rw[Heap.get?_update_other _ _ (K5 hb)];exact e
    ·exact T.keep _ _ _ a1 λb hb o e=>by rw[Heap.get?_update_other _ _ (K5 (aw b hb).2)];exact e
 exact codeAny_compStart_list (loop _ rfl) (T.self _ 0 _ _ _ (T.keep _ _ _ aC λb _ o q=>up1 (up q)) (loop _ rfl))
theorem jA{elt target iter:KI}{ifs:JP KI}{scope sc0:MS}{pos:Pos}{N N0:JP Str}{own:Nat}{caps:JP Nat}{wi:TI}{g:TG}{tc:TT}{te:TE}
  (hcalm:X.calm=true)(hi:PI X target iter wi)
  (hg:∀ s₀ H₀ ex,PG (dH X scope N s₀ H₀ ex) target g)(hc:∀ s₀ H₀ ex,cP (dH X scope N s₀ H₀ ex) ifs tc)(he:∀ s₀ H₀ ex,PE (dH X scope N s₀ H₀ ex) elt te)(hk:oB own g)
  (hX:X.N=N0)(hsc:X.env.scope=sc0)
  (hcell:∀ y∈scope.names,y.2≠ .cell)(hkind:scope.kind= .function)(hnames:∀ y∈scope.names,y.2= .local->scope.names.lookup y.1=some .local)
  (hfree:∀ y∈scope.names,y.2= .free->sc0.names.lookup y.1=some .cell)(hN:N.length=own+caps.length)
  (hcap:∀ p∈caps.zip (N.drop own),N0[p.1]? =some p.2/\scope.names.lookup p.2=some .free)
  (hs:∀ x,Me iter X.env x=pure x:=by intro _;rfl):
  PE X (.ListComp elt [⟨target,iter,ifs,0⟩] scope pos) (pO own caps wi g tc te):=by
 intro pins s σ H Q I h;rw[eval_ListComp];exact AG hcalm hi hg hc he hk hX hsc hcell hkind hnames hfree hN hcap hs I h λD C s' He ys m f hn U _ q=>⟨m,hn,λh' J=>⟨.ref D,_,U h' J,rfl,q⟩⟩
end
theorem eY.at {P:Ka}{w:Ku}{H:Hp}{h:KP}{a:JR}{o:HO}(x:eY P w H h a o):∃ ob,h.get? a=some ob:=by
 cases o with
 |lst xs=>obtain⟨_,_,_,_,e⟩:=x;exact⟨_,e⟩
 |tup xs=>obtain⟨_,_,_,ob,e,_⟩:=x;exact⟨_,e⟩
 |dK kvs=>obtain⟨_,_,_,_,o,_,_,e,_⟩:=x;exact⟨_,e⟩
 |dT kvs=>obtain⟨_,_,_,_,o,_,_,e,_⟩:=x;exact⟨_,e⟩
 |set S n=>obtain⟨o,_,_,_,e,_⟩:=x;exact⟨_,e⟩
 |ins C dx fs=>obtain⟨_,_,_,e,_⟩:=x;exact⟨_,e⟩
 |own y=>obtain⟨_,e⟩:=x;exact⟨_,e⟩
 |xd fs=>obtain⟨_,⟨_,_,_,e,_⟩,_⟩:=x;exact⟨_,e⟩
 |rng lo hi=>obtain⟨_,_,_,e⟩:=x;exact⟨_,e⟩
 |frz ob u=>obtain⟨e,_⟩:=x;exact⟨_,e⟩
 |tbl ps=>exact⟨_,show h.get? a=some _ from x⟩
 |met f y=>exact⟨_,show h.get? a=some _ from x⟩
 |ext J=>obtain⟨_,⟨_,e⟩,_⟩:=x;exact⟨_,e⟩
noncomputable def dD(P:Ka)(w:Ku):gv:=λouter H s E e s'=>∃(J:JR) (cls U:JT) (B:KP) (H':Hp),
 e= .ref J/\s'.os=s.os/\NQ s'.gens/\Un (dz outer) [] H H' s.heap s'.heap/\eK P w H' s'.heap/\NS B outer J cls U s'.heap/\
 (∀ b o,s.heap.get? b=some o->H b=none->b∉dz outer->B.get? b=some o)/\(∀ b o,s.heap.get? b=some o->b∉dz outer->∃ o',B.get? b=some o')/\
 (∀ b u,H' b=some u->∃ o,B.get? b=some o)/\E cls none H'
theorem dD.no {P:Ka}{w:Ku}{outer:JP Env}{H:Hp}{s s':JZ}{e:JT}(h:dD P w outer H s (λ_ _ _=>LG) e s'):LG:=by
 obtain⟨_,_,_,_,_,_,_,_,_,_,_,_,_,_,z⟩:=h;exact z
theorem oR{fs:JP JR}{H H':Hp}{h h1 h2 B base:KP}{outer:JP Env}(hfs:fs=dz outer)(u:Un fs [] H H' h h1)(k1:∀ b o,h.get? b=some o->H b=none->b∉fs->B.get? b=some o)
  (k3:∀ b o,h.get? b=some o->b∉fs->∃ o',B.get? b=some o')(ff:h1.FunFrames base outer)(st:B.StaysIn h2)(up:h1.UpToSlots h2):Un fs [] H H' h h2:=by
 have fr:∀ b∈fs,∀ o,h1.get? b=some o->∃ sl,h2.get? b=some {o with slots:=sl}:=λb hb o e=>by
  rw[hfs] at hb;obtain⟨_,o',J,nf⟩:=ff.mem hb;rw[e] at J;cases J;exact up b o e nf
 refine⟨λb o e n hb _=>st b o (k1 b o e n hb),λb o e n hb U=>?_,u.free,λb o e U=>?_,u.tups,u.frzs,u.tbls⟩
 ·obtain⟨sl,I⟩:=u.slot b o e n hb U;obtain⟨aa,e2⟩:=fr b hb _ I;exact⟨aa,e2⟩
 ·by_cases hb:b∈fs
  ·obtain⟨o1,I⟩:=u.there b o e U;obtain⟨sl,e2⟩:=fr b hb _ I;exact⟨_,e2⟩
  ·obtain⟨o',J⟩:=k3 b o e hb;exact⟨o',st b o' J⟩
theorem ou{P:Ka}{w:Ku}{H:Hp}{h1 h2 B:KP}(x:eK P w H h1)(k2:∀ b u,H b=some u->∃ o,B.get? b=some o)(s1:B.StaysIn h1)(s2:B.StaysIn h2):eK P w H h2:=λb u e=>by
 refine(x b u e).stay (λc v J q=>?_) (λ_ q=>q) λ_ _ q=>q
 have ht:∃ z,H c=some z:=by
  rcases J with z|z
  ·subst z;exact⟨u,e⟩
  ·exact⟨_,z⟩
 obtain⟨z,U⟩:=ht;obtain⟨o,eo⟩:=k2 c z U;have:=s1 c o eo;rw[q] at this;cases this;exact s2 c v eo
section
variable {P : Ka} {w : Ku} {K : J7} {mg : Str -> JW JT} {base : KP} {N : JP Str} {qual : Str} {scope : MS} {f : JR} {cdv : JT} {A : K4} {outer : JP Env} {s₀ : JZ} {H₀ : Hp} {E E' : XK}
noncomputable def Raises(X:Cx)(E:XK):Prop:=∀(pins:JP (JR×Obj)) (σ:St) (H:Hp) (s:JZ) (h':KP) (J:JR) (cls:JT) (args:JP JT),Inv X pins σ H s->Heap.MadeExcOf s.heap h' J cls args->E cls none H->X.xe (.ref J) {s with heap:=h'}
theorem kU:Raises (eO (dD P w) P w K mg base N qual scope f cdv A outer s₀ H₀ E) E:=by
 intro pins σ H s h' ea cls args I hx hE;have stk:=I.stack;have U:∀ env∈(eO (dD P w) P w K mg base N qual scope f cdv A outer s₀ H₀ E).stack,∀ b,env.frame=some b->b∈dz (eO (dD P w) P w K mg base N qual scope f cdv A outer s₀ H₀ E).stack:=λenv he b hb=>List.mem_filterMap.mpr ⟨env,he,hb⟩
 have J:∀{b:JR} {o:Obj},s.heap.get? b=some o->b∉dz (eO (dD P w) P w K mg base N qual scope f cdv A outer s₀ H₀ E).stack->(NV s.heap (dz (eO (dD P w) P w K mg base N qual scope f cdv A outer s₀ H₀ E).stack)).get? b=some o:=λe hb=>W.hideAll_get _ e hb
 have hL:∀{b:JR} {o:Obj},s₀.heap.get? b=some o->b∉dz outer->b∉dz (eO (dD P w) P w K mg base N qual scope f cdv A outer s₀ H₀ E).stack:=λ{b o} e hb z=>by
  rcases List.mem_cons.mp (I.stkSub b z) with q|q
  ·have h1:=Kb e
   have h2:s₀.heap.objs.size<=(eO (dD P w) P w K mg base N qual scope f cdv A outer s₀ H₀ E).env.locals:=I.ok.above;rw[q] at h1;exact Kw _ (Km h1 h2)
  ·exact hb q
 show Kq (Ko P w) (A.deeper (Mz qual scope s₀.heap.objs.size f cdv)) (leaving (Mz qual scope s₀.heap.objs.size f cdv) (.ref ea)) _ _ _;refine wpAny_leaves_madeW (s:={s with heap:=h'}) (h:=s.heap) (base:=NV s.heap (dz (eO (dD P w) P w K mg base N qual scope f cdv A outer s₀ H₀ E).stack)) I.ok.frames rfl (λb o q=>Oz _ q) (W.funFrames_hide stk U) hx λaa t fl _ _ up=>?_
 have u0:Un (dz outer) [] H₀ H s₀.heap s.heap:=I.base
 have tr:∀ b u,H b=some u->b∉dz (eO (dD P w) P w K mg base N qual scope f cdv A outer s₀ H₀ E).stack:=λb u e z=>by rw[I.stkFree b z] at e;cases e
 have k1:∀ b o,s₀.heap.get? b=some o->H₀ b=none->b∉dz outer->(NV s.heap (dz (eO (dD P w) P w K mg base N qual scope f cdv A outer s₀ H₀ E).stack)).get? b=some o:=λb o e n hb=>J (u0.keep b o e n hb (by simp)) (hL e hb)
 have k3:∀ b o,s₀.heap.get? b=some o->b∉dz outer->∃ o',(NV s.heap (dz (eO (dD P w) P w K mg base N qual scope f cdv A outer s₀ H₀ E).stack)).get? b=some o':=λb o e hb=>by
  obtain⟨o',e'⟩:=u0.there b o e (by simp);exact⟨o',J e' (hL e hb)⟩
 have k2:∀ b u,H b=some u->∃ o,(NV s.heap (dz (eO (dD P w) P w K mg base N qual scope f cdv A outer s₀ H₀ E).stack)).get? b=some o:=λb u e=>by
  obtain⟨o,eo⟩:=(I.hok b u e).at;exact⟨o,J eo (tr b u e)⟩
 exact⟨ea,cls,.ref t,_,H,rfl,I.os,I.bare,oR rfl u0 k1 k3 I.funs fl.1 ((Heap.UpToSlots.of_keeps hx.keeps).trans up),ou I.hok k2 (λb o q=>Oz _ q) fl.1,fl,k1,k3,k2,hE⟩
theorem kE(hE:∀ cls od H',E' cls od H'->E cls od H'):Passes (dD P w) (eO (dD P w) P w K mg base N qual scope f cdv A outer s₀ H₀ E) E':=by
 intro pins σ H s e s' I h;obtain⟨ea,cls,a0,B,H',rfl,os,bare,un,hok,fl,k1,k3,k2,U⟩:=h;have stk:(eO (dD P w) P w K mg base N qual scope f cdv A outer s₀ H₀ E).stack=Mz qual scope s₀.heap.objs.size f cdv::outer:=rfl;have ae:dz (eO (dD P w) P w K mg base N qual scope f cdv A outer s₀ H₀ E).stack=s₀.heap.objs.size::dz outer:=rfl;have J:Un (dz outer) [] H₀ H s₀.heap s.heap:=I.base;have aa:∀{b:JR} {o:Obj},s₀.heap.get? b=some o->b∉dz outer->b∉dz (eO (dD P w) P w K mg base N qual scope f cdv A outer s₀ H₀ E).stack:=λ{b o} e hb z=>by
  rw[ae] at z;rcases List.mem_cons.mp z with q|q
  ·have h1:=Kb e;rw[q] at h1;exact Kw _ h1
  ·exact hb q
 show Kq (Ko P w) (A.deeper (Mz qual scope s₀.heap.objs.size f cdv)) (leaving (Mz qual scope s₀.heap.objs.size f cdv) (.ref ea)) _ _ _;refine wpAny_leaves_onW I.ok.frames rfl fl λag ab up=>?_
 have u1:Un (dz outer) [] H₀ H' s₀.heap s'.heap:=by
  refine⟨λb o e n hb U=>?_,λb o e n hb U=>?_,λb o e n U=>?_,λb o e U=>?_,λb xs q=>un.tups b xs (J.tups b xs q),λb ob u q=>un.frzs b ob u (J.frzs b ob u q),λb ps q=>?_⟩
  ·exact un.keep b o (J.keep b o e n hb U) (J.free b o e n U) (aa e hb) (by simp)
  ·obtain⟨sl,e1⟩:=J.slot b o e n hb U;obtain⟨af,e2⟩:=un.any e1 (J.free b o e n U) (by simp);exact⟨af,e2⟩
  ·obtain⟨o',e1⟩:=J.there b o e U;exact un.free b o' e1 (J.free b o e n U) (by simp)
  ·obtain⟨o',e1⟩:=J.there b o e U;exact un.there b o' e1 (by simp)
  ·obtain⟨m1,e1⟩:=J.tbls b ps q;obtain⟨m2,e2⟩:=un.tbls b _ e1;exact⟨m1++m2,by rw[e2,Array.append_assoc]⟩
 have K1:∀ b o,s₀.heap.get? b=some o->H₀ b=none->b∉dz outer->B.get? b=some o:=λb o e n hb=>k1 b o (J.keep b o e n hb (by simp)) (J.free b o e n (by simp)) (aa e hb)
 have K3:∀ b o,s₀.heap.get? b=some o->b∉dz outer->∃ o',B.get? b=some o':=λb o e hb=>by
  obtain⟨o',e1⟩:=J.there b o e (by simp);exact k3 b o' e1 (aa e hb)
 have ff:s'.heap.FunFrames B outer:=by
  obtain⟨_,_,⟨_,_,r⟩,_⟩:=fl;exact r
 exact⟨ea,cls,a0,B,H',rfl,os.trans I.os,bare,oR rfl u1 K1 K3 ff ab.1 up,ou hok k2 fl.1 ab.1,ab,K1,K3,k2,hE _ _ _ U⟩
end
theorem FQ{K:Kl}{h:KP}{C:JR}{bmB:JP JT}{newId:Mx}(X:K.In h)(q:W.excIn K C bmB newId=true):
  ∃ bm N nm qn bs hdct sn sub ab col dd k0 k1 k2 k3 k5 mN,h.get? C=some (excClassObj nm qn C N bs bm hdct sn sub ab col dd k0 k1 k2 k3 k5 newId)/\h.Ns N mN/\mN "__init__"=none/\OwnTail h bmB bm:=by
 unfold W.excIn at q;split at q
 ·rename_i dd cd sl ho;split at q
  ·rename_i C' bm k0 k1 k2 k3 n k5 hm hs;simp only[Lc,beq_iff_eq,MQ] at q;obtain⟨⟨⟨⟨⟨rfl,rfl⟩,J⟩,ht⟩,hok⟩,U⟩:=q;obtain⟨nm,bs,mro,ns,qn,hd,sn,sub,ab,col,del⟩:=cd;dsimp only at hm J hok U;subst hm J;have I:sl=#[k0,k1,k2,k3,some (.builtin n),k5]:=by
    obtain⟨l⟩:=sl;simp only at hs;rw[hs]
   subst I;exact⟨bm,ns,nm,qn,bs,hd,sn,sub,ab,col,dd,k0,k1,k2,k3,k5,_,X _ _ ho,.of_isNs (W.isNs_of_in X hok),W.nsMap_none_of_in X hok U,W.tail_of_in X ht⟩
  ·cases q
 ·cases q
section
variable {X : Cx} {E : XK}
noncomputable def IY(C:JR)(E:XK)(t:TA):TS:=λ_ σ H=>t σ H λvs H1=>vs.length<=sizeLine/\E (.ref C) none H1
theorem kW{x:Str}{C:JR}{e:KI}{es:JP KI}{t:TA}{np cpos pos:Pos}{B Bn newId nid initId inN:Mx}{bmB bmN:JP JT}(hcalm:X.calm=true)(hq:W.excIn X.K C bmB newId=true)
  (Fn:ExcBaseFacts Bn newId inN bmN)(hBn:bmB.contains (.type Bn)=true)(FB:ExcBaseFacts B nid initId bmB)(hg:Gl X x)(hm:X.mg x=some (.ref C))(ha:PA X (e::es) t)(hR:Raises X E)
  (hdb:(x==("__debug__":Str))=false:=by decide)(he:KA (e::es) X.env=(false,eval e X.env)::KA es X.env:=by rfl)(hpl:(Mh cpos (KA es X.env)).any (·.1)=false:=by rfl):
  PS X (.Raise (some (.Call (.Name x np) (e::es) [] cpos)) none pos) (IY C E t):=by
 intro pins s σ H D I h;obtain⟨tl,N,nm,qn,bs,hdct,sn,sub,ab,col,dd,k0,k1,k2,k3,k5,mN,hC,hN,U,T⟩:=FQ I.ok.mod.kin hq;refine wpAny_Raise_call_subU (C:=C) (nm:=nm) (q:=qn) (N:=N) (bs:=bs) (bm:=tl) (hdct:=hdct) (sn:=sn) (sub:=sub) (ab:=ab) (col:=col) (dd:=dd) (k0:=k0) (k1:=k1) (k2:=k2) (k3:=k3) (k5:=k5)
  Fn hBn FB (mN:=mN) (T.hasType FB.hasBase) (I.ok.hd hcalm) (by rw[he];show(false||(Mh cpos (KA es X.env)).any (·.1))=false;rw[hpl];rfl) U (jw I hg hm ⟨rfl,?_⟩ hdb);have hA:=ha cpos pins s σ H _ I h;rw[he] at hA ⊢;exact MX (cv hA λus s2 ⟨vs,H2,J,r,hz,hE⟩=>⟨rfl,by rw[<-r.length];exact hz,J.bk _ _ hC,hN.keeps J.bk,T.keeps J.bk,λh' ea mk=>hR pins σ H2 s2 h' ea (.ref C) us J mk hE⟩)
end
section
variable {P : Ka} {w : Ku} {K : J7} {mg : Str -> JW JT} {base : KP}
theorem ej.ok1 {x qual:Str}{st:K0}{f:JR}{fd:J2}{N ps:JP Str}{k:Nat}{sp:Sp}(F:ej K x qual st f fd)(S:da N ps (cG st))(len:∀ vs H Q E,sp vs H Q E->vs.length=ps.length)
  (hbody:∀(cdv:JT) (A:K4) (outer:JP Env) (s:JZ) (H:Hp) (vs:JP V) (Q:VK) (E:XK),eG k (A.deeper (Mz qual (cG st) s.heap.objs.size f cdv))->sp vs H Q E->
   ∃ t,cH (eO (dD P w) P w K mg base N qual (cG st) f cdv A outer s H E) (iB st) t/\t {nx:=λ_ H'=>Q .non H',rt:=Q} (start N vs) H):bX P w K mg base (dD P w) (k+1) f fd ps sp:=by
 obtain⟨oc,od,kV,doc,pm,an,cdv,ct,I,rfl,lk,J⟩:=F.ex;exact yZ lk J S len λA outer s H vs Q E hr U=>hbody cdv A outer s H vs Q E hr U
end
noncomputable abbrev Cx.tr (X:Cx)(p:JP (JR×Obj))(E:JT->JZ->Prop):Cx:={X with pn:=p,xe:=E}
noncomputable def sA(X:Cx)(ea:JR)(p:JP (JR×Obj)):Cx:={X with A:=X.A.mark (some (.ref ea)),calm:=false,xe:=λ_ _=>LG,pn:=p}
noncomputable def rB(CX:gv)(X:Cx)(E:St->XK):Prop:=∀(pins:JP (JR×Obj)) (σ:St) (H:Hp) (s:JZ) (e:JT) (s':JZ),Inv X pins σ H s->CX X.stack H s (E σ) e s'->X.xe e s'
noncomputable def FT(sp:Sp)(dvs:JP V)(E:St->XK)(t:TA):TE:=λσ H Q=>t σ H λvs H1=>sp (vs++dvs) H1 Q (E σ)
section
variable {X : Cx} {CX : gv} {k : Nat} {f C : JR} {fd : J2} {ps : JP Str} {sp : Sp} {dvs : JP V} {ds : JP JT} {E : St -> XK} {x m : Str} {p pos apos : Pos} {e o : KI} {es : JP KI} {ta : TE} {t : TA}
theorem CN{pins:JP (JR×Obj)}{σ:St}{H:Hp}{s:JZ}{Q:VK}{us:JP JT}{vs:JP V}(F:bX X.prog X.w X.K X.mg X.base CX k f fd ps sp)(hr:eG k X.A)(hb:Binds X.K fd ps ds)(hd:Vals dvs ds)(hx:rB CX X E)
  (I:Inv X pins σ H s)(r:Vals vs us)(h:sp (vs++dvs) H Q (E σ)):Kq (Ko X.prog X.w) X.A (call (.ref f) us) (EP X pins σ Q) X.xe s:=by
 have r2:Vals (vs++dvs) (us++ds):=r.append hd
 have U:(us++ds).length=ps.length:=by rw[<-r2.length];exact F.len _ _ _ _ h
 refine O4 (Nj (F.run X.A X.stack s H ⟨us,[]⟩ (us++ds) (vs++dvs) Q (E σ) hr I.env0 (hb s us I.kIn U) r2 h) λr s' J=>?_);cases r with
 |error e=>exact hx pins σ H s e s' I J
 |ok fl=>
  cases fl with
  |ret u=>exact I.after J
  |next=>exact La J
  |brk=>exact La J
  |cont=>exact La J
theorem E4(F:bX X.prog X.w X.K X.mg X.base CX k f fd ps sp)(hr:eG k X.A)(hg:Gl X x)(hm:X.mg x=some (.ref f))(hk:ME X.K (.ref f)=true)(hb:Binds X.K fd ps ds)(hd:Vals dvs ds)(hx:rB CX X E)
  (ha:PA X (e::es) t)(hdb:(x==("__debug__":Str))=false:=by decide)(he:KA (e::es) X.env=(false,eval e X.env)::KA es X.env:=by rfl)(hpl:(Mh pos (KA es X.env)).any (·.1)=false:=by rfl):
  PE X (.Call (.Name x p) (e::es) [] pos) (FT sp dvs E t):=by
 intro pins s σ H Q I h;refine LU (jw I hg hm ?_ hdb);refine NR (h₀:=X.base) I.ok.mod.kin hk (cv (ha pos pins s σ H _ I h) λus s1 ⟨vs,H1,J,r,q⟩=>⟨J.kIn,?_⟩) he hpl;exact CN F hr hb hd hx J r q
end
section
variable {X : Cx} {pins : JP (JR × Obj)} {σ : St} {H : Hp} {s : JZ}
end
section
variable {X : Cx}
end
structure uB (k : Nat) (A : K4) : Prop where
 dp : A.depth+3*k+5<OR
 un : A.units+16*k+200<Pc
theorem eG.toN {k:Nat}{A:K4}(r:eG k A):uB k A:=⟨r.dp,r.un⟩
theorem uB.units {k:Nat}{A:K4}(r:uB k A):A.units+100<Pc:=by have:=r.un;omega
theorem eG.units100 {k:Nat}{A:K4}(r:eG k A):A.units+100<Pc:=r.toN.units
section
variable {X : Cx} {k : Nat} {f C : JR} {fd : J2} {ps : JP Str} {sp : JP V -> Hp -> VK -> Prop} {dvs : JP V} {ds : JP JT} {x m : Str} {p pos apos : Pos} {e o : KI} {es : JP KI} {ta : TE} {t : TA}
end
end L2
namespace PySem.W
open PySem PySem.Spec PySem.Calls PyProof.Rows PySem.Builtin.ObjectAttr PySem.Builtin.Getset_descriptor PySem.Builtin
section
variable {prog : Ka} {w : Ku} {A : K4} {E : JT -> JZ -> Prop} {K : Frag} {x C : JR} {ox : Obj}
end
end PySem.W
namespace L2
open PySem PySem.Spec PyProof.Rows
theorem ze:∀{Cs:JP JR} {its:JP JT},Vals (Cs.map V.ref) its->its=Cs.map Ky
 |[],_,.nil=>rfl
 |_::_,_,.cons r1 r2=>by cases r1;rw[ze r2,KU]
section
variable {X : Cx}
end
theorem sW{J:It}{g:TG}{tc:TT}{te:TE}{σ0:St}{H:Hp}{Q:VK}(n:Nat)(Pv:Nat->JP V->Hp->Prop)(hz:n<sizeLine)(hgo:∀ i ys H,i<n->Pv i ys H->J.go i H)(hstop:∀ ys H,Pv n ys H->J.stop n H)(h0:Pv 0 [] H)
  (hs:∀ i ys H x H' (N:JP V->Hp->Prop),i<n->Pv i ys H->J.yld i H x H'->(∀ ys' H2,Pv (i+1) ys' H2->N ys' H2)->
   g x σ0 H' λσ2 H2=>tc σ2 H2 λb H3=>if b=true then te σ2 H3 λy H4=>N (ys++[y]) H4 else N ys H3)
  (hd:∀ ys H,Pv n ys H->ys.length<=n->∀ p,H p=none->Q (.ref p) (upd H p (.lst ys))):
  nQ J g tc te σ0 Q H:=by
 refine⟨λi m ys H=>m=n-i/\i<=n/\ys.length<=i/\Pv i ys H,⟨n,by simp,Ks _,JY _,h0⟩,?_⟩;rintro i m ys H ⟨rfl,hi,hl,p⟩;by_cases I:i<n
 ·refine .inr ⟨hgo i ys H I p,by(clear I;omega),λx H' y=>?_⟩;have key:=hs i ys H x H' (λys' H2=>(ys'.length<=ys.length+1->∃ U,U<n-i/\U=n-(i+1)/\i+1<=n/\ys'.length<=i+1/\Pv (i+1) ys' H2)) I p y (λys' H2 q hle=>⟨n-(i+1),by(clear hle hl hi hz;omega),rfl,I,by(clear I hi hz;omega),q⟩);have e:(λσ2 H2=>tc σ2 H2 λb H3=>if b=true then te σ2 H3 λy H4=>((ys++[y]).length<=ys.length+1->∃ U,U<n-i/\U=n-(i+1)/\i+1<=n/\(ys++[y]).length<=i+1/\Pv (i+1) (ys++[y]) H4)
    else (ys.length<=ys.length+1->∃ U,U<n-i/\U=n-(i+1)/\i+1<=n/\ys.length<=i+1/\Pv (i+1) ys H3))=
   (λσ2 H2=>tc σ2 H2 λb H3=>if b=true then te σ2 H3 λy H4=>∃ U,U<n-i/\U=n-(i+1)/\i+1<=n/\(ys++[y]).length<=i+1/\Pv (i+1) (ys++[y]) H4
    else ∃ U,U<n-i/\U=n-(i+1)/\i+1<=n/\ys.length<=i+1/\Pv (i+1) ys H3):=by
   funext σ2 H2
   congr 1
   funext b H3
   have e1:∀(y:V) (H4:Hp),((ys++[y]).length<=ys.length+1->∃ U,U<n-i/\U=n-(i+1)/\i+1<=n/\(ys++[y]).length<=i+1/\Pv (i+1) (ys++[y]) H4)=(∃ U,U<n-i/\U=n-(i+1)/\i+1<=n/\(ys++[y]).length<=i+1/\Pv (i+1) (ys++[y]) H4):=λy H4=>
    propext ⟨λq=>q (by simp),λq _=>q⟩
   have e2:(ys.length<=ys.length+1->∃ U,U<n-i/\U=n-(i+1)/\i+1<=n/\ys.length<=i+1/\Pv (i+1) ys H3)=(∃ U,U<n-i/\U=n-(i+1)/\i+1<=n/\ys.length<=i+1/\Pv (i+1) ys H3):=propext ⟨λq=>q (by(clear I hl hi hz;omega)),λq _=>q⟩;simp only[e1,e2]
  rw[e] at key;exact key
 ·have e:i=n:=by(clear hl hz;omega)
  subst e;exact .inl ⟨hstop ys H p,by(clear I hi;omega),hd ys H p hl⟩
theorem v9{x:Str}{g:TG}{tc:TT}{te:TE}{σ0:St}{H:Hp}{Q:VK}(Pv:Nat->JP V->Hp->Prop)(hz:x.cps.size<sizeLine)(h0:Pv 0 [] H)
  (hs:∀ i c ys H (N:JP V->Hp->Prop),x.cps[i]? =some c->Pv i ys H->(∀ ys' H2,Pv (i+1) ys' H2->N ys' H2)->
   g (.str ⟨#[c]⟩) σ0 H λσ2 H2=>tc σ2 H2 λb H3=>if b=true then te σ2 H3 λy H4=>N (ys++[y]) H4 else N ys H3)
  (hd:∀ ys H,Pv x.cps.size ys H->ys.length<=x.cps.size->∀ p,H p=none->Q (.ref p) (upd H p (.lst ys))):nQ (tR x) g tc te σ0 Q H:=sW x.cps.size Pv hz (λi ys H hi _=>hi) (λys H _=>rfl) h0
 (λi ys H v H' N hi p y J=>by
  obtain⟨e,c,U,I⟩:=y;subst e I;exact hs i c ys _ N U p J) hd
theorem sd{lo:Int}{n:Nat}{g:TG}{tc:TT}{te:TE}{σ0:St}{H:Hp}{Q:VK}(Pv:Nat->JP V->Hp->Prop)(hz:n<sizeLine)(h0:Pv 0 [] H)
  (hs:∀ i ys H (N:JP V->Hp->Prop),i<n->Pv i ys H->(∀ ys' H2,Pv (i+1) ys' H2->N ys' H2)->
   g (.int (lo+i)) σ0 H λσ2 H2=>tc σ2 H2 λb H3=>if b=true then te σ2 H3 λy H4=>N (ys++[y]) H4 else N ys H3)
  (hd:∀ ys H,Pv n ys H->ys.length<=n->∀ p,H p=none->Q (.ref p) (upd H p (.lst ys))):nQ (mU lo n) g tc te σ0 Q H:=sW n Pv hz (λi ys H hi _=>hi) (λys H _=>JY _) h0
 (λi ys H v H' N hi p y J=>by
  obtain⟨e,U⟩:=y;subst e U;exact hs i ys _ N hi p J) hd
theorem tJ{K:Kl}{a:JR}{xs:JP V}{g:TG}{tc:TT}{te:TE}{σ0:St}{H:Hp}{Q:VK}(Pv:Nat->JP V->Hp->Prop)(hz:xs.length<sizeLine)(hl:∀ i ys H,Pv i ys H->ck K H a xs)(h0:Pv 0 [] H)
  (hs:∀ i x ys H (N:JP V->Hp->Prop),xs[i]? =some x->Pv i ys H->(∀ ys' H2,Pv (i+1) ys' H2->N ys' H2)->
   g x σ0 H λσ2 H2=>tc σ2 H2 λb H3=>if b=true then te σ2 H3 λy H4=>N (ys++[y]) H4 else N ys H3)
  (hd:∀ ys H,Pv xs.length ys H->ys.length<=xs.length->∀ p,H p=none->Q (.ref p) (upd H p (.lst ys))):nQ (oM K a) g tc te σ0 Q H:=sW xs.length Pv hz
 (λi ys H hi p=>⟨xs,xs[i],hl i ys H p,by simp[hi]⟩) (λys H p=>⟨xs,hl _ ys H p,JY _⟩) h0
 (λi ys H v H' N hi p y J=>by
  obtain⟨e,y⟩:=y;subst e;exact hs i v ys _ N (y xs (hl i ys _ p)) p J) hd
@[elab_as_elim] theorem Dc {α:Type}{p:JP α->Prop}(h:∀ a,p [a])(us:JP α)(hl:us.length=1):p us:=by
 obtain⟨a,rfl⟩:=List.length_eq_one_iff.mp hl;exact h a
@[elab_as_elim] theorem iX {α:Type}{p:JP α->Prop}(h:∀ a b,p [a,b])(us:JP α)(hl:us.length=2):p us:=by
 cases us with
 |nil=>cases hl
 |cons a r=>exact @Dc _ (λr=>p (a::r)) (λb=>h a b) r (Nat.succ.inj hl)
@[elab_as_elim] theorem EW {α:Type}{p:JP α->Prop}(h:∀ a b c,p [a,b,c])(us:JP α)(hl:us.length=3):p us:=by
 cases us with
 |nil=>cases hl
 |cons a r=>exact @iX _ (λr=>p (a::r)) (λb c=>h a b c) r (Nat.succ.inj hl)
@[elab_as_elim] theorem BC {α:Type}{p:JP α->Prop}(h:∀ a b c d,p [a,b,c,d])(us:JP α)(hl:us.length=4):p us:=by
 cases us with
 |nil=>cases hl
 |cons a r=>exact @EW _ (λr=>p (a::r)) (λb c d=>h a b c d) r (Nat.succ.inj hl)
section
variable {X : Cx}
theorem Ec{i:Nat}{x:Str}{pos' spos:Pos}{elt target iter:KI}{ifs:JP KI}{scope sc0:MS}{pos:Pos}{N N0:JP Str}{own:Nat}{caps:JP Nat}{wi:TI}{g:TG}{tc:TT}{te t':TE}
  (hNd:X.N.Nodup)(hxi:X.N[i]? =some x)(hx:Loc X.env.scope x)
  (hcalm:X.calm=true)(hi:PI X target iter wi)
  (hg:∀ s₀ H₀ ex,PG (dH X scope N s₀ H₀ ex) target g)(hc:∀ s₀ H₀ ex,cP (dH X scope N s₀ H₀ ex) ifs tc)(he:∀ s₀ H₀ ex,PE (dH X scope N s₀ H₀ ex) elt te)(hk:oB own g)
  (hX:X.N=N0)(hsc:X.env.scope=sc0)
  (hcell:∀ y∈scope.names,y.2≠ .cell)(hkind:scope.kind= .function)(hnames:∀ y∈scope.names,y.2= .local->scope.names.lookup y.1=some .local)
  (hfree:∀ y∈scope.names,y.2= .free->sc0.names.lookup y.1=some .cell)(hN:N.length=own+caps.length)
  (hcap:∀ p∈caps.zip (N.drop own),N0[p.1]? =some p.2/\scope.names.lookup p.2=some .free)
  (himp:∀ σ H Q,t' σ H Q->pO own caps wi g tc te σ H Q)
  (hs:∀ x,Me iter X.env x=pure x:=by intro _;rfl)
  (hsw:Ol (.ListComp elt [⟨target,iter,ifs,0⟩] scope pos) (some (.Name x pos')) spos.line X.env=pure true:=by rfl)
  (hf:X.fn x=true\/X.env.scope.names.lookup x=some .local:=by first|exact .inl rfl|exact .inr rfl|assumption):
  PS X (.Assign [.Name x pos'] (.ListComp elt [⟨target,iter,ifs,0⟩] scope pos) spos) (qI t' (hV i)):=by
 intro pins s σ H D I h;rw[exec_Assign_Name_used _ _ _ _ hsw];refine J8 (MH (J8 ?_));show Kq _ X.A (do let _<-comprehension (.ListComp elt [⟨target,iter,ifs,0⟩] scope pos) scope X.env _ (newList []) false (eval iter X.env) (some (assign (.Name x pos') X.env))) _ _ s;refine J8 (KY (AG (use:=some (assign (.Name x pos') X.env)) (Qf:=λ_ s'=>SP X pins D .next s') hcalm hi hg hc he hk hX hsc hcell hkind hnames hfree hN hcap hs I (himp _ _ _ h) ?_) (λ_ s' hq=>KN (KN hq)) λ_ _ e=>e);intro U C s' He ys m f hn hI J q;show Kq _ X.A (assign (.Name x pos') X.env (.ref U)) _ _ s';have I1:Inv X pins σ (upd He U (.lst ys)) s':=hI s'.heap ⟨rfl,λ_ _=>rfl⟩;refine wpAny_assign_Name (zM (v:= .ref U) I1 hNd hxi hx rfl (λaa I2 ⟨a,ab,ha⟩=>?_) hf);have ae:C≠a:=by
  rcases ha with rfl|ha
  ·exact J.2.1
  ·exact λz=>J.2.2.2.2.1 _ _ ha z.symm
 refine⟨m,hn.sameBut ab ae,λh' af=>⟨_,_,I2.turnedL (fp:=[C]) (t':=aa.toks) (λb o hb e=>(af.2 b (λz=>hb (by rw[z];exact List.mem_singleton.mpr rfl))).trans e) (λb hb=>?_),q⟩⟩;rw[List.mem_singleton.mp hb];exact J
end
section
variable {X : Cx} {CX : gv} {k : Nat} {f C : JR} {fd : J2} {ps : JP Str} {ds : JP JT} {dvs : JP V} {sp : Sp} {m : Str} {pos apos : Pos} {e o : KI} {es : JP KI} {ta : TE} {t : TA} {E : St -> XK}
end
section
variable {κ : Type} [LY κ]
noncomputable def eM(kvs:JP (κ×V))(k:κ):JW V:=(kvs.find? λJ=>decide (J.1=k)).map (·.2)
noncomputable def putK(kvs:JP (κ×V))(k:κ)(v:V):JP (κ×V):=
 if (kvs.any λJ=>decide (J.1=k))=true then kvs.map (λJ=>if J.1=k then (J.1,v) else J) else kvs++[(k,v)]
theorem vp{p:κ×V}{r:JP (κ×V)}{k:κ}(e:p.1=k):eM (p::r) k=some p.2:=by simp[eM,List.find?_cons,e]
theorem uK{p:κ×V}{r:JP (κ×V)}{k:κ}(e:¬ p.1=k):eM (p::r) k=eM r k:=by simp[eM,List.find?_cons,e]
theorem Fh(kvs:JP (κ×V))(k:κ)(v:V):(putK kvs k v).length<=kvs.length+1:=by
 unfold putK;split
 ·rw[JX];omega
 ·rw[JU,JV,Mc];omega
theorem gY.getD {o:JW V}{u:JW JT}{d:V}{d':JT}(r:gY o u)(rd:RelV d d'):RelV (o.getD d) (u.getD d'):=by
 cases o with
 |none=>cases u with
  |none=>exact rd
  |some _=>exact(show LG from r).elim
 |some _=>cases u with
  |none=>exact(show LG from r).elim
  |some _=>exact r
theorem KV.val {kvs:JP (κ×V)}{vs:JP (κ×JT)}(r:KV kvs vs)(k:κ):gY (eM kvs k) (OD vs k):=by
 unfold KV at r;induction r with
 |nil=>exact Mi
 | @cons p q ps qs h t U=>
  obtain⟨h1,h2⟩:=h;by_cases e:p.1=k
  ·have J:q.1=k:=h1.symm.trans e
   have b:OD (q::qs) k=some q.2:=by simp[OD,List.find?_cons,J]
   rw[vp e,b];exact h2
  ·have J:¬ q.1=k:=λz=>e (h1.trans z)
   have b:OD (q::qs) k=OD qs k:=by simp[OD,List.find?_cons,J]
   rw[uK e,b];exact U
theorem KV.any {kvs:JP (κ×V)}{vs:JP (κ×JT)}(r:KV kvs vs)(k:κ):(kvs.any λkv=>decide (kv.1=k))=vs.any λkv=>decide (kv.1=k):=by
 unfold KV at r;induction r with
 |nil=>rfl
 |cons h t J=>rw[Oi,Oi,J,h.1]
theorem KV.repl {kvs:JP (κ×V)}{vs:JP (κ×JT)}(r:KV kvs vs)(k:κ){y:V}{u:JT}(ry:RelV y u):
  KV (kvs.map λkv=>if kv.1=k then (kv.1,y) else kv) (vs.map λkv=>if kv.1=k then (kv.1,u) else kv):=by
 unfold KV at r ⊢;induction r with
 |nil=>exact .nil
 | @cons p q ps qs h t J=>
  rw[KU,KU];refine .cons ?_ J;obtain⟨h1,h2⟩:=h;by_cases e:p.1=k
  ·rw[J1 e,J1 (h1.symm.trans e)];exact⟨h1,ry⟩
  ·rw[if_neg e,if_neg (λz=>e (h1.trans z))];exact⟨h1,h2⟩
theorem KV.put {kvs:JP (κ×V)}{vs:JP (κ×JT)}(r:KV kvs vs)(k:κ){y:V}{u:JT}(ry:RelV y u):KV (putK kvs k y) (stored vs k u):=by
 unfold putK stored;rw[r.any k];by_cases e:(vs.any λJ=>decide (J.1=k))=true
 ·rw[J1 e,J1 e];exact r.repl k ry
 ·rw[if_neg e,if_neg e];exact Paired.snoc r ⟨rfl,ry⟩
end
theorem qv{P:Ka}{w:Ku}{k:Key}{u:JT}(r:RelV (kV k) u):(g7 P w).is k u=true:=by
 cases k with
 |inl i=>obtain⟨t,e⟩:=(show ∃ t,u=Nu i t from r);subst e;exact JK P w i t
 |inr x=>obtain⟨t,e⟩:=(show ∃ t,u=NU x t from r);subst e;exact CQ P w x t
theorem zm{P:Ka}{w:Ku}:∀{ks:JP Key} {us:JP JT},Vals (ks.map kV) us->ItemsAre (g7 P w) ks us
 |[],_,r=>by rw[OC] at r;cases r;exact .nil
 |k::ks,_,r=>by
  rw[KU] at r;cases r with
  |cons h t=>exact .cons (qv h) (zm t)
noncomputable abbrev KT(H:Hp):JP (JP Key×V)->JP (JP Key×JR×JT)->Prop:=Lo λp q=>p.1=q.1/\H q.2.1=some (.tup (p.1.map kV))/\RelV p.2 q.2.2
theorem KT.val {H:Hp}{kvs:JP (JP Key×V)}{xs:JP (JP Key×JR×JT)}(r:KT H kvs xs)(k:JP Key):gY (eM kvs k) ((atKey xs k).map (·.2)):=by
 induction r with
 |nil=>exact Mi
 | @cons p q ps qs h t U=>
  obtain⟨h1,_,h2⟩:=h;by_cases e:p.1=k
  ·have J:q.1=k:=h1.symm.trans e
   have b:atKey (q::qs) k=some q.2:=by simp[atKey,List.find?_cons,J]
   rw[vp e,b];exact h2
  ·have J:¬ q.1=k:=λz=>e (h1.trans z)
   have b:atKey (q::qs) k=atKey qs k:=by simp[atKey,List.find?_cons,J]
   rw[uK e,b];exact U
section
variable {P : Ka} {w : Ku} {H : Hp} {h : KP} {a : JR}
theorem yJ{u:HO}(ok:eK P w H h)(e:Rd H a u):eY P w H h a u:=e.ok ok
theorem uT{kvs:JP (Key×V)}(ok:eK P w H h)(e:Rd H a (.dK kvs)):kvs.length<=sizeLine/\(a==Mg)=false/\∃ vs,KV kvs vs/\h.DictOf (g7 P w) a vs:=
 show eY P w H h a (.dK kvs) from yJ ok e
theorem Fe{kvs:JP (Key×V)}(ok:eK P w H h)(e:H a=some (.dK kvs)):kvs.length<=sizeLine/\(a==Mg)=false/\∃ vs,KV kvs vs/\h.DictOf (g7 P w) a vs:=uT ok (.inl e)
theorem yG{ks:JP Key}(ok:eK P w H h)(e:H a=some (.tup (ks.map kV))):(tupleKind (g7 P w)).is h ks a:=by
 obtain⟨_,J,r,o,h1,h2,n,U⟩:=(show eY P w H h a (.tup (ks.map kV)) from ok a _ e);exact⟨o,J.toArray,n,h1,h2,U,by simpa using zm r⟩
theorem AK{kvs:JP (JP Key×V)}(ok:eK P w H h)(e:Rd H a (.dT kvs)):kvs.length<=sizeLine/\(a==Mg)=false/\
  ∃ xs,KT H kvs xs/\h.DictOfH (tupleKind (g7 P w)) a xs:=by
 obtain⟨z,y,xs,r,o,es,U,h1,h2,I,h4,h5⟩:=(show eY P w H h a (.dT kvs) from yJ ok e);refine⟨z,y,xs,r,o,es,U,h1,h2,I,h4,λx hx=>?_,h5⟩;have all:∀{l:JP (JP Key×V)} {m:JP (JP Key×JR×JT)},KT H l m->∀ x∈m,(tupleKind (g7 P w)).is h x.1 x.2.1:=by
  intro l m q;induction q with
  |nil=>intro x hx;exact nomatch hx
  | @cons p q ps qs J t ih=>
   intro x hx;rcases List.mem_cons.mp hx with e|hx
   ·subst e;exact yG ok (by rw[<-J.1];exact J.2.1)
   ·exact ih x hx
 exact all r x hx
end
noncomputable def tV(H:Hp)(a:JR)(y:V)(r:JW V):Prop:=
 (∃ kvs k,Rd H a (.dK kvs)/\y=kV k/\r=eM kvs k)\/∃ kvs k b,Rd H a (.dT kvs)/\y= .ref b/\H b=some (.tup (k.map kV))/\r=eM kvs k
section
variable {X : Cx} {pins : JP (JR × Obj)} {σ : St} {H : Hp} {s : JZ} {a : JR} {y v : V} {u r : JT} {o : JW V} {A : K4} {E : JT -> JZ -> Prop}
theorem Inv.big (I:Inv X pins σ H s):Mg<s.heap.objs.size:=by
 have h:Kc<s.heap.objs.size:=(I.mod.glob.keeps I.bk).lt;exact Nat.lt_trans (by decide) h
theorem CJ{Q:JT->JZ->Prop}(hu:A.units+1<Pc)(I:Inv X pins σ H s)(g:tV H a y (some v))(ry:RelV y u)(h:∀ w' s',Inv X pins σ H s'->RelV v w'->Q w' s'):
  Kq (Ko X.prog X.w) A (O7 (.ref a) u) Q E s:=by
 rcases g with ⟨kvs,k,e,U,l⟩|⟨kvs,k,b,e,U,eb,l⟩
 ·subst U;obtain⟨z,hd,vs,rel,dd⟩:=uT I.hok e;obtain⟨w',hw,J⟩:=gY.some_of (v:=v) (o:=OD vs k) (by rw[l];exact rel.val k);exact wpAny_getItem_of (qv ry) dd.mapOf hw (h w' _ (I.tok _) J)
 ·subst U;cases (show u=Ky b from ry);obtain⟨z,hd,xs,rel,dd⟩:=AK I.hok e;obtain⟨w',hw,J⟩:=gY.some_of (v:=v) (o:=(atKey xs k).map (·.2)) (by rw[l];exact rel.val k);obtain⟨p,hp,aa⟩:=Option.map_eq_some_iff.mp hw;refine wpAny_getItem_heap (tupleKind_room_in1 hu) (yG I.hok eb) dd hp ?_;rw[aa];exact h w' _ (I.tok _) J
theorem B9{h':KP}{t':Nat}{ob:HO}(I:Inv X pins σ H s)(mu:pU (H a))(hs:Md a s.heap h')(he:∃ q,h'.get? a=some q)(new:eY X.prog X.w (upd H a ob) h' a ob):
  Inv X pins σ (upd H a ob) {s with heap:=h',toks:=t'}:=
 I.write (x:=a) (e:=a) mu (.inl rfl) (λb q hb z=>(hs.2 b hb).trans z) he new
theorem Hx{P:Ka}{w:Ku}{H':Hp}{h':KP}{kvs:JP (Key×V)}{vs:JP (Key×JT)}(z:kvs.length<=sizeLine)(hd:(a==Mg)=false)(rel:KV kvs vs)(dd:h'.DictOf (g7 P w) a vs):
  eY P w H' h' a (.dK kvs):=⟨z,hd,vs,rel,dd⟩
end
section
variable {X : Cx} {pins : JP (JR × Obj)} {σ : St} {H : Hp} {s : JZ} {a : JR} {kvs : JP (Key × V)} {k : Key} {u : JT} {A : K4} {E : JT -> JZ -> Prop}
end
noncomputable def vR(i:KI):Prop:=∀ J U,OS i false J U=operate [J,U] (O7 J U)
theorem y4{prog:Ka}{w:Ku}{A:K4}{E:JT->JZ->Prop}{s:JZ}{env:Env}{value slice:KI}{pos:Pos}{T id:Mx}{Q:JT->JZ->Prop}
  (hl:typeLookup (.type T) "__getitem__"=pure (some (.builtin id)))(hs:vR slice)
  (h:Kq (Ko prog w) A (eval value env) (λo s₁=>Kq (Ko prog w) A (eval slice env) (λi s₂=>s₂.TypeIs o T/\Kq (Ko prog w) A (O7 o i) Q E s₂) E s₁) E s):
  Kq (Ko prog w) A (eval (.Subscript value slice pos) env) Q E s:=by
 refine Subscript_ (KY h (λo s₁ I=>KY I (λi s₂ J=>?_) λ_ _ x=>x) λ_ _ x=>x);obtain⟨hT,J⟩:=J;unfold subscriptTail;refine J8 ?_;rw[getitemInPython_of_ne hT.not_modules];refine J8 (wpAny_specialOf hT hl ?_);have fin:Kq (Ko prog w) A (OS slice false o i) (λr U=>Kq (Ko prog w) A (letTemporaryGo value o r >>= λ_=>pure r) Q E U) E s₂:=by
  rw[hs o i];exact wpAny_operating (KY J (λr U aa=>J8 (wpAny_letTemporaryGo (KN aa))) λ_ _ x=>x)
 first
  |exact KN (J8 fin)
  |exact J8 (KN (J8 fin))
  |exact J8 fin
theorem Ed{X:Cx}{pins:JP (JR×Obj)}{σ:St}{H:Hp}{s:JZ}{a:JR}{y:V}{o:JW V}(I:Inv X pins σ H s)(g:tV H a y o):s.TypeIs (.ref a) "dict":=by
 rcases g with ⟨kvs,k,e,_,_⟩|⟨kvs,k,b,e,_,_,_⟩
 ·obtain⟨_,_,vs,_,dd⟩:=uT I.hok e;exact dd.typeIs
 ·obtain⟨_,_,xs,_,dd⟩:=AK I.hok e;exact dd.typeIs
noncomputable def Jj(td ty:TE):TE:=λσ H Q=>td σ H λx H1=>ty σ H1 λy H2=>∃ a v,x= .ref a/\tV H2 a y (some v)/\Q v H2
section
variable {X : Cx} {o i e value : KI} {pos pos' tpos : Pos} {td ty tv : TE}
theorem Gg(hu:X.A.units+1<Pc)(ho:PE X o td)(hi:PE X i ty)(hs:vR i):PE X (.Subscript o i pos) (Jj td ty):=by
 intro pins s σ H Q I h;refine y4 F.slot_dict_getitem.lookup hs (cv (ho pins s σ H _ I h) λu s1 ⟨x,H1,I1,rx,q1⟩=>cv (hi pins s1 σ H1 _ I1 q1) λiv s2 ⟨y,H2,U,ry,a,v,ex,g,q2⟩=>?_);subst ex;obtain rfl:u=Ky a:=rx;exact⟨Ed U g,CJ hu U g ry λw' s3 I3 J=>⟨v,H2,I3,J,q2⟩⟩
end
theorem IS{P:Ka}{w:Ku}{H:Hp}(h:KP)(hb:Mg<h.objs.size):eY P w H (h.push {cls:= .type "dict",data:= .dict #[]}) h.objs.size (.dK []):=
 ⟨Ks _,beq_eq_false_iff_ne.mpr (K5 (Kr hb)),[],.nil,Heap.DictOf.new h⟩
section
variable {X : Cx} {pos : Pos}
end
noncomputable def uH:JP (TE×TE)->St->Hp->(JP (V×V)->Hp->Prop)->Prop
 |[],_,H,Q=>Q [] H
 |(tk,tv)::r,σ,H,Q=>tk σ H λx H1=>tv σ H1 λy H2=>uH r σ H2 λps J=>Q ((x,y)::ps) J
noncomputable abbrev VV:JP (V×V)->JP (JT×JT)->Prop:=Lo λp q=>RelV p.1 q.1/\RelV p.2 q.2
noncomputable def tN(X:Cx)(pos:Pos)(keys:JP (JW KI))(values:JP KI)(trs:JP (TE×TE)):Prop:=
 ∀(pins:JP (JR×Obj)) (s:JZ) (σ:St) (H:Hp) (Q:JP (V×V)->Hp->Prop),Inv X pins σ H s->uH trs σ H Q->
  Kq (Ko X.prog X.w) X.A (evalPairs (pairTrees keys values X.env pos)) (λvs s'=>∃ ps H',Inv X pins σ H' s'/\VV ps vs/\Q ps H') X.xe s
theorem B6{X:Cx}{pos:Pos}:tN X pos [] [] []:=λpins s σ H Q I h=>pairTrees_nil_walk ⟨[],H,I,.nil,h⟩
theorem qW{X:Cx}{pos:Pos}{k v:KI}{ks:JP (JW KI)}{vs:JP KI}{tk tv:TE}{trs:JP (TE×TE)}(hk:PE X k tk)(hv:PE X v tv)(hr:tN X pos ks vs trs):
  tN X pos (some k::ks) (v::vs) ((tk,tv)::trs):=λpins s σ H Q I h=>
 pairTrees_cons_walk (cv (hk pins s σ H _ I h) λu s1 ⟨x,H1,J,U,q1⟩=>cv (hv pins s1 σ H1 _ J q1) λw2 s2 ⟨y,H2,I2,ry,q2⟩=>
  cv (hr pins s2 σ H2 _ I2 q2) λws s3 ⟨ps,H3,I3,rel,q3⟩=>⟨(x,y)::ps,H3,I3,.cons ⟨U,ry⟩ rel,q3⟩)
noncomputable def oH(kvs more:JP (Key×V)):JP (Key×V):=more.foldl (λacc J=>putK acc J.1 J.2) kvs
theorem KV.merge:∀{more:JP (Key×V)} {rs:JP (Key×JT)} {kvs:JP (Key×V)} {vs:JP (Key×JT)},KV more rs->KV kvs vs->KV (oH kvs more) (merged vs rs):=by
 intro more rs kvs vs r;unfold KV at r;induction r generalizing kvs vs with
 |nil=>intro q;exact q
 | @cons p q ps qs h t J=>
  intro U;have e:KV (putK kvs p.1 p.2) (stored vs q.1 q.2):=by
   have:=U.put p.1 h.2;rw[<-h.1];exact this
  exact J e
theorem AS:∀(more kvs:JP (Key×V)),(oH kvs more).length<=kvs.length+more.length
 |[],kvs=>by show kvs.length<=kvs.length+0;omega
 |p::r,kvs=>by
  have h1:=AS r (putK kvs p.1 p.2)
  have h2:=Fh kvs p.1 p.2
  show(oH (putK kvs p.1 p.2) r).length<=_;rw[JV];omega
theorem AR{P:Ka}{w:Ku}:∀{kvs:JP (Key×V)} {ws:JP (JT×JT)},VV (kvs.map λkv=>(kV kv.1,kv.2)) ws->∃ rs,Carries (g7 P w) ws rs/\KV kvs rs
 |[],_,r=>by rw[OC] at r;cases r;exact⟨[],Mi,.nil⟩
 |p::kvs,_,r=>by
  rw[KU] at r;cases r with
  | @cons a b as bs h t=>
   obtain⟨rs,c,q⟩:=AR (P:=P) (w:=w) t;obtain⟨b1,J⟩:=b;exact⟨(p.1,J)::rs,⟨qv h.1,rfl,c⟩,.cons ⟨rfl,h.2⟩ q⟩
noncomputable def Hb(trs:JP (TE×TE)):TE:=λσ H Q=>∀ p,H p=none->uH trs σ (upd H p (.dK [])) λps H2=>H2 p=some (.dK [])/\∃ kvs:JP (Key×V),ps=kvs.map (λJ=>(kV J.1,J.2))/\kvs.length<=15/\Q (.ref p) (upd H2 p (.dK (oH [] kvs)))
theorem ID{X:Cx}{pos:Pos}{keys:JP (JW KI)}{values:JP KI}{trs:JP (TE×TE)}(h:tN X pos keys values trs)(hall:keys.all (·.isSome)=true)(hl:keys.length=values.length)(h0:keys≠[])
  (h15:keys.length<=15):PE X (.Dict keys values pos) (Hb trs):=by
 intro pins s σ H Q I q;have hn:=I.hok.fresh (JY s.heap.objs.size);have I1:=I.laid (a:=s.heap.objs.size) (o:= .dK []) (h':=s.heap.push {cls:= .type "dict",data:= .dict #[]}) (t':=s.toks) (λ_ _ q=>Heap.get?_push_of_some _ q) (JY _) (IS s.heap I.big);refine wpAny_Dict_walk (knd:=g7 X.prog X.w) hall hl h0 h15 (cv (h pins _ σ _ _ I1 (q _ hn)) λws s2 ⟨ps,H2,U,rel,e,kvs,ep,lk,q2⟩=>?_);subst ep;obtain⟨rs,c,rk⟩:=AR (P:=X.prog) (w:=X.w) rel;obtain⟨z,hd,aa,r0,dd⟩:=Fe U.hok e;cases r0;refine⟨rs,c,dd,λh' J hs=>⟨.ref s.heap.objs.size,_,?_,rfl,q2⟩⟩;have hz:(oH [] kvs).length<=sizeLine:=by
  have h1:=AS kvs [];rw[Mc] at h1;rw[Kv];omega
 have he:∃ q,h'.get? s.heap.objs.size=some q:=let ⟨q,_,_,hq,_⟩:=J;⟨q,hq⟩;exact B9 U (by rw[e];exact Mi) hs he (Hx hz hd (rk.merge .nil) J)
structure M1 (X : Cx) (o : KI) (m : Str) (apos : Pos) (e : KI) (cpos : Pos) : Prop where
 base : MI o m X.env (eval o X.env) = eval o X.env
 few : ((Mh cpos (KA [e] X.env)).all (λx => !x.1)&&(O6 cpos (Ob [] X.env)).all (λx => x.1.isSome)
  && decide (([e] : JP KI).length+([] : JP Keyword).length+(if ([] : JP Keyword).isEmpty then 0 else 1)<30)) = true
 line : (apos.endLine==cpos.line) = true
 trees : Mh cpos (KA [e] X.env) = [(false, eval e X.env)]
section
variable {X : Cx} {pins : JP (JR × Obj)} {σ : St} {H : Hp} {s : JZ} {a : JR} {y d : V} {u r : JT} {o : JW V} {A : K4} {E : JT -> JZ -> Prop}
end
section
variable {X : Cx} {o e f : KI} {apos cpos : Pos} {td ty tx : TE}
end
section
variable {X : Cx} {pins : JP (JR × Obj)} {σ : St} {H : Hp} {s : JZ} {a : JR} {kvs : JP (Key × V)} {A : K4} {E : JT -> JZ -> Prop}
end
section
variable {X : Cx} {pins : JP (JR × Obj)} {σ : St} {H : Hp} {s : JZ} {a : JR} {y : V} {u : JT} {A : K4} {E : JT -> JZ -> Prop}
end
section
variable {X : Cx}
end
section
variable {κ : Type} [LY κ]
end
section
variable {X : Cx} {pins : JP (JR × Obj)} {σ : St} {H : Hp} {s : JZ} {a : JR}
end
section
variable {X : Cx}
theorem zT:∀{ns:JP Nat} {us:JP JT},Vals (ns.map λ(n:Nat)=>V.int (n:Int)) us->∀(i:Nat) (v:JT),us[i]? =some v->∃ n t,ns[i]? =some n/\v= .int (n:Int) t
 |[],_,.nil,i,v,h=>by simp at h
 |b::bs,_,.cons r t,0,v,h=>by
  obtain⟨k,J⟩:=(show ∃ k,_=Nu (b:Int) k from r);subst J;simp at h;exact⟨b,k,by simp,h.symm⟩
 |b::bs,_,.cons r t,i+1,v,h=>by
  obtain⟨c,k,U,I⟩:=zT t i v (by simpa using h);exact⟨c,k,by simpa using U,I⟩
theorem uI(ns:JP Nat):∀ k,k<=ns.length->preSum (λi=>(((ns[i]?).getD 0:Nat):Int)) k=((ns.take k).sum:Nat)
 |0,_=>rfl
 |k+1,h=>by
  show preSum _ k+(((ns[k]?).getD 0:Nat):Int)=_;rw[uI ns k (by omega),Lk,NK,List.getElem?_eq_getElem (show k<ns.length by omega)];simp
theorem EI(ns:JP Nat)(k:Nat):(ns.take k).sum<=ns.sum:=by
 have:=K9 List.sum (List.take_append_drop k ns);rw[NK] at this;omega
theorem y0:∀{ns:JP Nat} {n:Nat},n∈ns->n<=ns.sum
 |m::r,n,h=>by
  rw[NC];rcases List.mem_cons.mp h with e|e
  ·omega
  ·have:=y0 e;omega
theorem xO(hc:X.calm=true):iI X (.builtin "sum") (λxs H Q=>∃(p:JR) (ns:JP Nat),xs=[.ref p]/\ck X.K H p (ns.map λ(n:Nat)=>V.int (n:Int))/\ns.sum<=1000000/\Q (.int ((ns.sum:Nat):Int)) H):=by
 intro pins s σ H xs us Q I r h;obtain⟨p,ns,rfl,hq,hS,q⟩:=h;obtain⟨u,rfl,rx⟩:=vals1 r;cases rx;obtain⟨J,rv,pl,hz⟩:=I.list hq;have hl:=pl.isList;have hlen:=rv.length;rw[JX] at hlen;have U:p<s.heap.objs.size:=by obtain⟨_,e,_⟩:=hl;exact Kb e
 refine call_sum_walk (Oa hl ?_);refine⟨s.heap.objs.size,[s.heap.objs.size,p],[s.heap.objs.size],J.toArray.size,_,_,λi=>(((ns[i]?).getD 0:Nat):Int),rfl,Walks.list (A:=X.A.in1) (I.ok.hd hc) _ p (Kr U) J.toArray,
  ⟨⟨_,Heap.get?_push_size _ rfl,rfl,rfl⟩,hl.push _⟩,λb hb=>?_,λi v hP=>?_,λj hj=>?_,λh' tk t' hk=>?_⟩
 ·have e:∀ o,(s.heap.push o).objs.size=s.heap.objs.size+1:=λo=>by show(s.heap.objs.push o).size=_;simp
  show b<(s.heap.push _).objs.size;rw[e];rcases List.mem_cons.mp hb with z|z
  ·rw[z];exact LJ _
  ·rw[List.mem_singleton.mp z];exact MP U
 ·obtain⟨n,t,e,rfl⟩:=zT rv i v (by simpa using hP);refine⟨t,?_⟩;show Nu (n:Int) t=Nu (((ns[i]?).getD 0:Nat):Int) t;rw[e];rfl
 ·have aa:j<ns.length:=by rw[Kk] at hj;omega
  refine⟨?_,?_⟩
  ·show InLong (((ns[j]?).getD 0:Nat):Int);rw[List.getElem?_eq_getElem aa,Option.getD_some];have:=y0 (M5 aa);exact⟨by omega,by omega⟩
  ·rw[uI ns (j+1) (by omega)];have:=EI ns (j+1);exact⟨by omega,by omega⟩
 ·rw[Kk,<-hlen,uI ns _ (JY _),Lq (JY _)];exact⟨.int _,H,I.kept (LSm.kept_iter hk),⟨t',rfl⟩,q⟩
end
section
variable {X : Cx} {o e : KI} {es : JP KI} {to : TE} {t : TA} {name : Str} {apos cpos : Pos} {T id : Mx} {r : V -> JP V -> Hp -> VK -> Prop}
end
end L2
namespace Gn
open PySem L2 PyProof.Rows PySem.Spec
end Gn
namespace L2
open PySem PySem.Spec PyProof.Rows
section
variable {X : Cx}
noncomputable def GX(K:Kl)(CH:JR)(E:St->XK)(tb ts:TS):TS:=λD σ H=>tb D σ H/\∀ J cls H',E J cls none H'->
 ∃ C,cls= .ref C/\W.exmOne K (.ref C) (.ref CH)=some true/\ts D J H'
theorem FY{pins:JP (JR×Obj)}{D:Ends}{CH:JR}{E:St->XK}{x:Str}{np pos:Pos}{b₀:K0}{suite:JP K0}{ts:TS}
  (hstk:X.stack=X.env::X.outer)(hfr:X.env.frame=some X.env.locals)(hg:Gl X x)(hm:X.mg x=some (.ref CH))
  (hs:∀ ea p,cH (sA X ea p) (b₀::suite) ts)
  (hc:∀ σ' cls H',E σ' cls none H'->∃ C,cls= .ref C/\W.exmOne X.K (.ref C) (.ref CH)=some true/\ts D σ' H')
  (hdb:(x==("__debug__":Str))=false:=by decide):
  rB (dD X.prog X.w) (X.tr (X.pn++pins) λe s₁=>Kq (Ko X.prog X.w) X.A (L0 e X.env) (λ_ s₂=>Kq (Ko X.prog X.w) X.A (Ov e none) (λ_ s₃=>
   Kq (Ko X.prog X.w) X.A (O9 e X.env [.ExceptHandler (some (.Name x np)) none (b₀::suite) pos]) (SP X pins D) X.xe s₃) X.xe s₂) X.xe s₁) E:=by
 intro aa σ' H1 s1 e s' U hx;obtain⟨ea,cls,a0,B,H',rfl,os,bare,un,hok,fl,k1,k3,k2,hE⟩:=hx;have ar:NS B (X.env::X.outer) ea cls a0 s'.heap:=hstk ▸ fl;have ae:X.A.frames=some (X.env::X.outer):=hstk ▸ U.ok.frames;have au:ea∉dz X.stack:=λz=>by
  obtain⟨_,o,ho,nf⟩:=fl.2.2.1.mem z;obtain⟨oe,vs,_,_,_,he,_,hd,_⟩:=fl.2.2.2;rw[he] at ho;cases ho;exact nf vs hd
 have nE:∀{b:JR} {o:Obj},s1.heap.get? b=some o->b≠ea:=λ{b o} q z=>by
  subst z;obtain⟨o',e'⟩:=k3 b o q au;rw[fl.2.1] at e';cases e'
 have nH:H' ea=none:=by
  cases q:H' ea with
  |none=>rfl
  |some u=>
   obtain⟨o,e'⟩:=k2 ea u q;rw[fl.2.1] at e';cases e'
 have go:∀{h2:KP},NS B (X.env::X.outer) ea cls a0 h2->s'.heap.UpToSlots h2->Inv (X.tr (X.pn++pins) λe s₁=>Kq (Ko X.prog X.w) X.A (L0 e X.env) (λ_ s₂=>Kq (Ko X.prog X.w) X.A (Ov e none) (λ_ s₃=>
   Kq (Ko X.prog X.w) X.A (O9 e X.env [.ExceptHandler (some (.Name x np)) none (b₀::suite) pos]) (SP X pins D) X.xe s₃) X.xe s₂) X.xe s₁) aa σ' H' {s' with heap:=h2}:=λ{h2} af up=>
  U.call' (s':={s' with heap:=h2}) (ch:=[]) os (oR rfl un k1 k3 fl.2.2.1 af.1 up) (ou hok k2 fl.1 af.1) bare λb z=>absurd z (by simp)
 have ag:∀{s2:JZ} {H2:Hp},Inv (X.tr (X.pn++pins) λe s₁=>Kq (Ko X.prog X.w) X.A (L0 e X.env) (λ_ s₂=>Kq (Ko X.prog X.w) X.A (Ov e none) (λ_ s₃=>
   Kq (Ko X.prog X.w) X.A (O9 e X.env [.ExceptHandler (some (.Name x np)) none (b₀::suite) pos]) (SP X pins D) X.xe s₃) X.xe s₂) X.xe s₁) aa σ' H2 s2->Inv (sA X ea (X.pn++pins)) [] σ' H2 s2:=λI=>
  ⟨⟨I.ok.mod,I.ok.kind,I.ok.glob,I.ok.blt,I.ok.above,I.ok.inj,I.ok.has,I.ok.cab,(λz=>by cases z),I.ok.frames,I.ok.stk,I.ok.exf,I.ok.bs,I.ok.bsz,I.ok.noex,I.ok.exfs,I.ok.funs,I.ok.frf⟩,
   I.os,I.bare,I.base,I.loc,I.cell,I.free,I.freeC,λp hp=>I.pin p (Ll _ (by have ah:p∈(X.pn++pins)++[]:=hp;rw[KR] at ah;exact ah)),I.hok,I.len⟩
 refine wpAny_looks_onW ae hfr ar λh4 held ai=>?_
 refine wpAny_landsW held λh5 ab aj=>?_
 obtain⟨C,rfl,ak,av⟩:=hc σ' cls H' hE;have I5:=ag (go ab (ai.trans aj));refine wpAny_handleBy_cons (codeAny_handlers_test ?_) (by intro q;cases q);refine jw I5 hg hm ?_ hdb;obtain⟨ob,aw,ao⟩:=ab.there;have LT:W.Looks (Ko X.prog X.w) h5 (typeOf (.ref ea)) (.ref C):=by
  rw[<-ao];exact(W.Looks.ld aw).andThen .now
 refine W.exm_one I5.kIn LT ak _ _ _ _ (λ_ _ q=>q) ?_;refine codeAny_handlers_suite (lands_againW ab λh6 ax ay=>?_);have I6:=ag (go ax ((ai.trans aj).trans ay));refine KY (hs ea (X.pn++pins) [] _ _ _ _ I6 av) (λaq s9 h9=>?_) λ_ _ z=>La z
 have back:∀{J:St} {H2:Hp},Inv (sA X ea (X.pn++pins)) [] J H2 s9->Inv X pins J H2 s9:=λI=>
  ⟨⟨U.ok.mod,U.ok.kind,U.ok.glob,U.ok.blt,U.ok.above,U.ok.inj,U.ok.has,U.ok.cab,U.ok.hd,U.ok.frames,U.ok.stk,U.ok.exf,U.ok.bs,U.ok.bsz,U.ok.noex,U.ok.exfs,U.ok.funs,U.ok.frf⟩,
   I.os,I.bare,I.base,I.loc,I.cell,I.free,I.freeC,λp hp=>I.pin p (Ll _ hp),I.hok,I.len⟩
 show SP X pins D aq s9;cases aq with
 |next=>obtain⟨J,H2,I9,q9⟩:=h9;exact⟨J,H2,back I9,q9⟩
 |brk=>obtain⟨J,H2,I9,q9⟩:=h9;exact⟨J,H2,back I9,q9⟩
 |cont=>obtain⟨J,H2,I9,q9⟩:=h9;exact⟨J,H2,back I9,q9⟩
 |ret u=>obtain⟨v,J,H2,I9,rv,q9⟩:=h9;exact⟨v,J,H2,back I9,rv,q9⟩
theorem B0{CH:JR}(E:St->XK){x:Str}{np hpos pos:Pos}{b₀:K0}{suite body:JP K0}{tb ts:TS}
  (hstk:X.stack=X.env::X.outer)(hfr:X.env.frame=some X.env.locals)(hg:Gl X x)(hm:X.mg x=some (.ref CH))
  (hb:∀ p xe,rB (dD X.prog X.w) (X.tr p xe) E->cH (X.tr p xe) body tb)(hs:∀ ea p,cH (sA X ea p) (b₀::suite) ts)
  (hdb:(x==("__debug__":Str))=false:=by decide):PS X (.Try body [.ExceptHandler (some (.Name x np)) none (b₀::suite) hpos] [] [] pos) (GX X.K CH E tb ts):=by
 intro pins s σ H D I h;obtain⟨h1,h2⟩:=h;refine wpAny_Try_except ?_;have I':Inv (X.tr (X.pn++pins) λe aa=>Kq (Ko X.prog X.w) X.A (L0 e X.env) (λ_ ab=>Kq (Ko X.prog X.w) X.A (Ov e none) (λ_ ae=>
   Kq (Ko X.prog X.w) X.A (O9 e X.env [.ExceptHandler (some (.Name x np)) none (b₀::suite) hpos]) (SP X pins D) X.xe ae) X.xe ab) X.xe aa) [] σ H s:=
  ⟨⟨I.ok.mod,I.ok.kind,I.ok.glob,I.ok.blt,I.ok.above,I.ok.inj,I.ok.has,I.ok.cab,I.ok.hd,I.ok.frames,I.ok.stk,I.ok.exf,I.ok.bs,I.ok.bsz,I.ok.noex,I.ok.exfs,I.ok.funs,I.ok.frf⟩,
   I.os,I.bare,I.base,I.loc,I.cell,I.free,I.freeC,λp hp=>I.pin p (by simpa using hp),I.hok,I.len⟩;have back:∀{U:St} {H2:Hp} {s2:JZ},Inv (X.tr (X.pn++pins) λe aa=>Kq (Ko X.prog X.w) X.A (L0 e X.env) (λ_ ab=>Kq (Ko X.prog X.w) X.A (Ov e none) (λ_ ae=>
   Kq (Ko X.prog X.w) X.A (O9 e X.env [.ExceptHandler (some (.Name x np)) none (b₀::suite) hpos]) (SP X pins D) X.xe ae) X.xe ab) X.xe aa) [] U H2 s2->Inv X pins U H2 s2:=λJ=>
  ⟨I.ok,J.os,J.bare,J.base,J.loc,J.cell,J.free,J.freeC,λp hp=>J.pin p (Ll _ hp),J.hok,J.len⟩
 refine KY (hb _ _ (FY hstk hfr hg hm hs h2 hdb) [] s σ H D I' h1) (λf s1 q=>?_) λe s1 q=>q
 cases f with
 |next=>
  obtain⟨U,H2,J,q⟩:=q;exact Nb ⟨U,H2,back J,q⟩
 |brk=>obtain⟨U,H2,J,q⟩:=q;exact⟨U,H2,back J,q⟩
 |cont=>obtain⟨U,H2,J,q⟩:=q;exact⟨U,H2,back J,q⟩
 |ret u=>obtain⟨v,U,H2,J,r,q⟩:=q;exact⟨v,U,H2,back J,r,q⟩
end
noncomputable def pP(a b:JR):It:=⟨λi H=>∃ xs ys x y,H a=some (.lst xs)/\H b=some (.lst ys)/\xs[i]? =some x/\ys[i]? =some y,
 λi H v H'=>∃ T x y,H T=none/\(∀ xs,H a=some (.lst xs)->xs[i]? =some x)/\(∀ ys,H b=some (.lst ys)->ys[i]? =some y)/\v= .ref T/\H'=upd H T (.tup [x,y]),
 λi H=>∃ xs ys,H a=some (.lst xs)/\H b=some (.lst ys)/\i=min xs.length ys.length⟩
theorem zf{H:Hp}{a b z TI TO i1 i2:JR}{xs ys:JP V}(ha:H a=some (.lst xs))(hb:H b=some (.lst ys))(hf:∀ c∈[z,TI,TO,i1,i2],H c=none)(hd:[z,TI,TO,i1,i2].Nodup):ZipApart z TI TO i1 i2 a b:=by
 have f:∀ c∈[z,TI,TO,i1,i2],a≠c/\b≠c:=λc U=>⟨λe=>(by rw[e,hf c U] at ha;cases ha),λe=>(by rw[e,hf c U] at hb;cases hb)⟩
 simp at hd f;obtain⟨⟨I,d2,d3,d4⟩,⟨d5,d6,d7⟩,⟨d8,d9⟩,J⟩:=hd;obtain⟨⟨f1,g1⟩,⟨f2,g2⟩,⟨f3,g3⟩,⟨f4,g4⟩,f5,g5⟩:=f;exact⟨K5 I,K5 d2,K5 d3,K5 d4,d5,d6,d7,d8,d9,J,f1,f3,f4,f5,g1,g3,g4,g5⟩
theorem FI{P:Ka}{w:Ku}{K:J7}{elts:JP KI}{k:Nat}{pos:Pos}(a b z TI TO i1 i2:JR)(hd:[z,TI,TO,i1,i2].Nodup):
  Turn P w K (.Tuple elts k pos) (pP a b) [z,TI,TO,i1,i2] z (λi h=>IsZip h z TI TO .none/\IsPair h TI (.ref i1) (.ref i2)/\(∃ a b,IsPair h TO a b)/\h.IsListIter i1 a i/\h.IsListIter i2 b i) where
 mem:=by simp
 obj:=λi h st c U=>by
  obtain⟨hz,af,⟨u,v,ah⟩,⟨o1,ar,c1,d1⟩,o2,au,c2,d2⟩:=st;simp at U;rcases U with rfl|rfl|rfl|rfl|rfl
  ·exact⟨_,hz,λv z=>nomatch z⟩
  ·exact⟨_,af,λv z=>nomatch z⟩
  ·exact⟨_,ah,λv z=>nomatch z⟩
  ·exact⟨o1,ar,λv z=>by rw[d1] at z;cases z⟩
  ·exact⟨o2,au,λv z=>by rw[d2] at z;cases z⟩
 keep:=λi h h' st kk=>by
  obtain⟨hz,af,⟨u,v,ah⟩,h1,h2⟩:=st;exact⟨kk z (by simp) _ hz,kk TI (by simp) _ af,⟨u,v,kk TO (by simp) _ ah⟩,h1.at λo e=>kk i1 (by simp) o e,h2.at λo e=>kk i2 (by simp) o e⟩
 item:=by
  intro X hP hw hK U i pins s σ H E I hf st hg;subst hP hw hK;obtain⟨xs,ys,x,y,hA,hB,hx,hy⟩:=hg;obtain⟨ab,rv,p,hz⟩:=I.list (ck.of hA);obtain⟨J,ai,p2,av⟩:=I.list (ck.of hB);obtain⟨u,hu,ru⟩:=rv.get hx;obtain⟨u2,ao,aw⟩:=ai.get hy;have aj:=zf hA hB (λc U=>(hf c U).1) hd;have ax:i<min ab.toArray.size J.toArray.size:=by
   have h1:=(List.getElem?_eq_some_iff.mp hu).1
   have h2:=(List.getElem?_eq_some_iff.mp ao).1;simp;omega
  have W:=WalksT.zip2 (prog:=X.prog) (w:=X.w) (A:=X.A) (I.ok.hd U) z TI TO i1 i2 a b aj ab.toArray J.toArray;refine W.item i s _ _ ax ⟨st.1,st.2.1,st.2.2.1,st.2.2.2.1,st.2.2.2.2,p.isList,p2.isList⟩ λT vals h' tk hv hT ht mid kk=>⟨_,rfl,?_⟩
  obtain⟨q,q2,hq,ay,rfl⟩:=hv;have e1:q=u:=by
   have h1:ab[i]? =some q:=by simpa using hq
   rw[hu] at h1;exact(Kg h1).symm
  have e2:q2=u2:=by
   have h1:J[i]? =some q2:=by simpa using ay
   rw[ao] at h1;exact(Kg h1).symm
  subst e1 e2;refine W.go elts k pos i T _ _ _ mid λak aa aq=>?_
  have sub:∀ c,c∉[z,TI,TO,i1,i2]->c∉[z,TO,i1,i2]:=λc U hm=>U (by simp at hm ⊢;rcases hm with r|r|r|r<;>simp[r])
  have keep:∀ c o,c∉[z,TI,TO,i1,i2]->s.heap.get? c=some o->ak.get? c=some o:=λc o U q=>aq c o (sub c U) (kk c o (sub c U) q)
  have I1:Inv X pins σ H {s with heap:=ak,toks:=tk}:=I.turnedL keep hf
  have hn:H T=none:=I.hok.fresh hT
  have ae:T∉[z,TO,i1,i2]:=W.apart i T h' mid
  have af:T≠TI:=λe=>by
   have:=Kb st.2.1;rw[<-e] at this;exact absurd (Km this hT) (Kw _)
  obtain⟨ot,az,aA,n,aB⟩:=ht;have I2:Inv X pins σ (upd H T (.tup [x,y])) {s with heap:=ak,toks:=tk}:=by
   refine I1.track (.inl (Heap.get?_none_of_le (Kj I.sz hT))) hn (OA (Km I.lt hT)) (λy c' q z=>?_) (λp hp z=>?_) ?_
   ·obtain⟨v,q'⟩:=I.cell y c' q;exact absurd (Km q'.lt (by rw[z];exact hT)) (Kw _)
   ·exact absurd (Km (Kb (I.pin p hp).1) (by rw[z];exact hT)) (Kw _)
   ·exact⟨by show 2<=sizeLine;decide,[q,q2],.cons ru (.cons aw .nil),ot,aq T ot ae az,aA,n,aB⟩
  refine⟨.ref T,_,I2,rfl,⟨T,x,y,hn,(λzs ag=>?_),(λzs ag=>?_),rfl,rfl⟩,⟨aa.1,aa.2.1,aa.2.2.1,aa.2.2.2.1,aa.2.2.2.2.1⟩,λb hb=>?_⟩
  ·rw[hA] at ag;cases ag;exact hx
  ·rw[hB] at ag;cases ag;exact hy
  ·have aC:b≠T:=λe=>by
    subst e;simp at hb ae;rcases hb with r|r|r|r|r
    ·exact ae.1 r
    ·exact af r
    ·exact ae.2.1 r
    ·exact ae.2.2.1 r
    ·exact ae.2.2.2 r
   rw[cF aC];exact(hf b hb).1
 done:=by
  intro X hP hw hK U i pins s σ H E I hf st hg;subst hP hw hK;obtain⟨xs,ys,hA,hB,hx⟩:=hg;obtain⟨ab,rv,p,hz⟩:=I.list (ck.of hA);obtain⟨J,ai,p2,av⟩:=I.list (ck.of hB);have hl:=rv.length;have aD:=ai.length;have aj:=zf hA hB (λc U=>(hf c U).1) hd;have W:=WalksT.zip2 (prog:=X.prog) (w:=X.w) (A:=X.A) (I.ok.hd U) z TI TO i1 i2 a b aj ab.toArray J.toArray;have hi:i=min ab.toArray.size J.toArray.size:=by rw[hx,hl,aD];simp
  subst hi;have sub:∀ c,c∉[z,TI,TO,i1,i2]->c∉[z,TO,i1,i2]:=λc U hm=>U (by simp at hm ⊢;rcases hm with r|r|r|r<;>simp[r])
  exact W.done s _ _ ⟨st.1,st.2.1,st.2.2.1,st.2.2.2.1,st.2.2.2.2,p.isList,p2.isList⟩ λh' tk kk=>⟨rfl,I.turnedL (λc o U q=>kk c o (sub c U) q) hf⟩
 self:=λA i s Q E st h=>wpAny_pyIter_zip st.1 h
noncomputable def Fb(ta:TA):TI:=λσ H R=>ta σ H λvs H1=>∃(a b:JR) (xs ys:JP V),vs=[.ref a,.ref b]/\H1 a=some (.lst xs)/\H1 b=some (.lst ys)/\R (pP a b) H1
section
variable {X : Cx}
theorem F0:Lp "zip"=some (.type "zip"):=dkq
theorem Cy{elts:JP KI}{k:Nat}{tpos p pos:Pos}{a b:KI}{ta:TA}(hg:Gl X "zip")(hm:X.mg "zip"=none)(ha:PA X [a,b] ta)(hs:KA [a,b] X.env=(false,eval a X.env)::KA [b] X.env:=by rfl)(hs2:(Mh pos (KA [b] X.env)).any (·.1)=false:=by rfl):
  PI X (.Tuple elts k tpos) (.Call (.Name "zip" p) [a,b] [] pos) (Fb ta):=by
 intro pins s σ H R I h;refine Call_ (pG I hg hm F0 (MO (cv (ha pos pins s σ H _ I h) λus s1 ⟨vs,H1,J,r1,q1⟩=>?_) hs hs2));obtain⟨l1,l2,xs,ys,e,hA,hB,q⟩:=q1;subst e;obtain⟨u1,u2,rfl,ab,ae⟩:=r1.two;cases ab;cases ae;obtain⟨aj,rv,pl,hz⟩:=J.list (ck.of hA);obtain⟨ai,ak,af,ao⟩:=J.list (ck.of hB);refine call_zip_2 pl.isList af.isList λh' U ag ah h1 h2 aq hk=>?_
 refine wpAny_pyIter_zip U ?_;refine⟨s1.heap.objs.size+4,[s1.heap.objs.size+4,s1.heap.objs.size+2,s1.heap.objs.size+3,s1.heap.objs.size,s1.heap.objs.size+1],_,_,H1,rfl,J.kept (t':=s1.toks) hk,FI l1 l2 _ _ _ _ _ (by simp),⟨U,ag,⟨_,_,ah⟩,h1,h2⟩,λb hb=>?_,q⟩;simp at hb;have aa:s1.heap.objs.size<=b:=by
  rcases hb with r|r|r|r|r<;>rw[r]<;>first|exact JY _|exact Nat.le_add_right _ _
 exact J.fpOk aa (J.hok.fresh aa)
end
theorem HD{a b:JR}{xs ys:JP V}{g:TG}{tb:TS}{D:Ends}{σ:St}{H:Hp}(Pv:Nat->St->Hp->Prop)(he:xs.length=ys.length)(h0:Pv 0 σ H)(hl:∀ i σ H,i<=xs.length->Pv i σ H->H a=some (.lst xs)/\H b=some (.lst ys))
  (hs:∀ i x y σ H T,xs[i]? =some x->ys[i]? =some y->Pv i σ H->H T=none->g (.ref T) σ (upd H T (.tup [x,y])) λσ2 H2=>tb {D with nx:=Pv (i+1),ct:=Pv (i+1),bk:=D.nx} σ2 H2)(hd:∀ σ H,Pv xs.length σ H->D.nx σ H):
  ∃ W:Nat->Nat->St->Hp->Prop,(∃ m,W 0 m σ H)/\∀ i m σ H,W i m σ H->
   ((pP a b).stop i H/\D.nx σ H)\/((pP a b).go i H/\∃ N:St->Hp->Prop,(∀ σ' H',N σ' H'->∃ m',m'<m/\W (i+1) m' σ' H')/\∀ x H',(pP a b).yld i H x H'->g x σ H' λσ2 H2=>tb {D with nx:=N,ct:=N,bk:=D.nx} σ2 H2):=by
 refine⟨λi m σ H=>m=xs.length-i/\i<=xs.length/\Pv i σ H,⟨xs.length,by simp,Ks _,h0⟩,?_⟩;rintro i m σ H ⟨rfl,hi,p⟩;have q:=hl i σ H hi p;by_cases J:i<xs.length
 ·refine .inr ⟨⟨xs,ys,xs[i],ys[i]'(by omega),q.1,q.2,by simp[J],by simp[show i<ys.length by omega]⟩,Pv (i+1),λσ' H' I=>⟨xs.length-(i+1),by omega,rfl,J,I⟩,λx H' y=>?_⟩;obtain⟨T,z,z2,hT,hz,U,rfl,rfl⟩:=y;exact hs i z z2 σ H T (hz xs q.1) (U ys q.2) p hT
 ·have e:i=xs.length:=by omega
  subst e;exact .inl ⟨⟨xs,ys,q.1,q.2,by omega⟩,hd σ H p⟩
structure KD (P : Ka) (w : Ku) (K : Kl) (d : JR) (kvs : JP (Key × V)) : Prop where
 ns : (d==Mg) = false
 at_ : ∀ h : KP, K.In h -> ∃ vs, KV kvs vs /\ h.DictOf (g7 P w) d vs
noncomputable def Dw(kvs:JP (Key×V))(ty:TE):TE:=λσ H Q=>ty σ H λy H2=>∃ k,y=kV k/\Q ((eM kvs k).getD .non) H2
section
variable {X : Cx} {x : Str} {d : JR} {kvs : JP (Key × V)} {e : KI} {p apos cpos : Pos} {ty : TE}
theorem JD(hg:Gl X x)(hm:X.mg x=some (.ref d))(D:KD X.prog X.w X.K d kvs)(he:PE X e ty)(m:M1 X (.Name x p) "get" apos e cpos)(hdb:(x==("__debug__":Str))=false:=by decide):
  PE X (.Call (.Attribute (.Name x p) "get" apos) [e] [] cpos) (Dw kvs ty):=by
 intro pins s σ H Q I h;refine wpAny_Call_method m.base m.few m.line F.plainAttrs_dict F.slot_dict_get F.type_dict_get (jw I hg hm ?_ hdb);obtain⟨vs,rel,dd⟩:=D.at_ s.heap I.kIn;refine⟨dd.typeIs,λb q=>?_,?_⟩
 ·cases q;obtain⟨ob,_,_,h1,h2,_⟩:=dd;exact⟨ob,h1,h2.2.1⟩
 rw[m.trees];refine MA rfl (MX (L6 (cv (he pins s σ H _ I h) λiv s2 ⟨y,H2,I2,ry,k,ey,q2⟩=>Ni ?_)));subst ey;obtain⟨aa,J,U⟩:=D.at_ s2.heap I2.kIn;refine call_meetsIn F.slot_dict_get U.typeIs F.entry_dict_get (F.args_dict_get_2 _ _) (meets_dict_get (g7 X.prog X.w) d (qv ry) D.ns) ⟨_,U.mapOf,⟨_,H2,I2.tok _,?_,q2⟩⟩;exact(J.val k).getD rfl
end
section
variable {X : Cx} {CX : gv} {k : Nat} {ι : Type} {C f : ι -> JR} {fd : ι -> J2} {ps : ι -> JP Str} {sp : ι -> Sp} {E : XK} {m : Str} {pos apos : Pos} {e o : KI} {es : JP KI} {ta : TE} {t : TA}
noncomputable def G3(C:ι->JR)(m:Str)(sp:ι->Sp)(E:XK)(ta:TE)(t:TA):TE:=λσ H Q=>ta σ H λx H1=>∃ i a dx fs,x= .ref a/\H1 a=some (.ins (C i) dx fs)/\fs.lookup m=none/\
 t σ H1 λvs H2=>sp i (x::vs) H2 Q E
theorem gc{pl:Sem KS}(he:PE X o ta)(c:∀ i,gB X.K (C i))(hm:∀ i,Meth X.K (C i) m (f i))(F:∀ i,bX X.prog X.w X.K X.mg X.base CX k (f i) (fd i) (ps i) (sp i))(hr:eG k X.A)(hb:∀ i,Binds X.K (fd i) (ps i) [])
  (hx:Passes CX X E)
  (ht:eval (.Call (.Attribute o m apos) [] [] pos) X.env=(do
   let ov<-eval o X.env
   standAt apos.atName
   let (f,first)<-OZ [ov] (O0 ov m pl)
   callWith pos f first (Mh pos (KA [] X.env)) (O6 pos (Ob [] X.env))):=by rfl):
  PE X (.Call (.Attribute o m apos) [] [] pos) (G3 C m sp E ta qk):=by
 intro pins s σ H Q I h;refine OI (pl:=pl) (cv (he pins s σ H _ I h) λu s1 ⟨x,H1,J,U,i,a,dx,fs,ex,ea,l,q⟩=>?_) ht;subst ex;obtain rfl:u=Ky a:=U;refine ux J ea (c i) (hm i) l ?_;exact W.callWith_K0 (first:=[.ref a]) J.kIn (hm i).kp (rC (us:=[.ref a]) (vs:=[.ref a]) (dvs:=[]) (F i) hr (hb i) .nil hx J (.cons rfl .nil) q)
end
section
variable {X : Cx}
structure sQ (K : Kl) (C : JR) : Prop where
 cl : gB K C
 ha : Li K (.ref C) "__class__" = some (some (.builtin "object.__class__"))
 hn : W.specialIn K (.builtin "object.__class__") "__get__" = some (some (.builtin "getset_descriptor.__get__"))
 htk : W.takesIn K (.builtin "object.__class__") = some true
 hm : W.mroIn K C (.type "object") = some true
theorem sQ.ty {K:Kl}{C:JR}(c:sQ K C){H:Hp}{a dx:JR}{fs:JP (Str×V)}(e:H a=some (.ins C dx fs)):gA K H (.ref a) (.ref C):= .ins e c.cl c.ha c.hn c.htk c.hm
theorem wQ:iI X (.builtin "isinstance") (λxs H Q=>∃(a C dx:JR) (fs:JP (Str×V)) (p:JR) (Cs:JP JR) (b:KS),xs=[.ref a,.ref p]/\H a=some (.ins C dx fs)/\sQ X.K C/\H p=some (.tup (Cs.map V.ref))/\Lm X.K (.ref C) (Cs.map Ky)=some b/\Q (.bl b) H):=by
 intro pins s σ H xs us Q I r h;obtain⟨a,C,dx,fs,p,Cs,b,rfl,ea,T,hp,e,q⟩:=h;obtain⟨u,w',rfl,rx,rc⟩:=vals2 r;cases rx;cases rc;obtain⟨mA,O,_⟩:=qw I.hok ea;obtain⟨od,J,_⟩:=O.look;obtain⟨_,U,rv,o,ho,ab,n,hd⟩:=(show eY X.prog X.w H s.heap p (.tup (Cs.map V.ref)) from I.hok p _ hp);have ei:U=Cs.map Ky:=ze rv;obtain⟨cls,dd,data,sl⟩:=o;have aa:cls= .type "tuple":=ab;have ae:data= .seq U.toArray n:=hd;subst aa ae;exact W.kia_tup (W.kitx_own (T.cl.get _) T.cl.hd T.ha T.hn T.htk T.hm) I.kIn J ho (by rw[ei];exact e) (λz=>nomatch z) λtk=>⟨.bl b,H,I.tok tk,rfl,q⟩
end
end L2
namespace Gn
open PySem L2 PyProof.Rows PySem.Spec
section
variable {P : Ka} {w : Ku} {K : J7} {mg : Str -> JW JT} {base h : KP}
noncomputable def qR:V->KS
 |.str _=>true
 |_=>false
noncomputable def vV:V->KS
 |.int _=>true
 |.bl _=>true
 |_=>false
noncomputable def zZ:V->KS
 |.bl _=>true
 |_=>false
noncomputable def Known(K:Kl)(H:Hp)(x:V):Prop:=∃ n,gA K H x (.type n)
theorem uq{K:Kl}{H:Hp}{x:V}{n:Mx}(h:gA K H x (.type n)):Lw K (.type n) (.type "str")=some (qR x):=by
 cases h<;>kernel_rfl
theorem Bs{K:Kl}{H:Hp}{x:V}{n:Mx}(h:gA K H x (.type n)):Lw K (.type n) (.type "int")=some (vV x):=by
 cases h<;>kernel_rfl
theorem CK{K:Kl}{H:Hp}{x:V}{n:Mx}(h:gA K H x (.type n)):Lw K (.type n) (.type "bool")=some (zZ x):=by
 cases h<;>kernel_rfl
theorem cq{H:Hp}{a:JR}{o:HO}(h:H a=none):bY H (upd H a o):=λb u e=>by rw[cF (dI e h)];exact e
theorem bY.upd {H H':Hp}{a:JR}{o:HO}(s:bY H H')(h:H' a=none):bY H (upd H' a o):=s.trans (cq h)
structure Df (K : Kl) (mg : Str -> JW JT) (x : Str) (st : K0) (f : JR) (fd : J2) : Prop where
 F : ej K x x st f fd
 m : mg x = some (.ref f)
theorem iP:Lp "isinstance"=some (.builtin "isinstance"):=dkq
theorem jF:Lp "int"=some (.type "int"):=dkq
theorem Ih:Lp "bool"=some (.type "bool"):=dkq
theorem mm:Lp "str"=some (.type "str"):=dkq
theorem oU:Lp "tuple"=some (.type "tuple"):=dkq
theorem e8:Lp "len"=some (.builtin "len"):=dkq
theorem uM:Lp "all"=some (.builtin "all"):=dkq
theorem dY{x p:Str}{st:K0}{f:JR}{fd:J2}(F:ej K x x st f fd)
  (h:∀(kV doc pm:JT) (an:JW JR) (cdv ct:JT) (u:JT),bindArgs (Nk x x (i3 st) (iB st) (cG st) .none kV doc pm an cdv ct) ⟨[u],[]⟩=pure ([p].zip [u])):Binds K fd [p] []:=
 F.binds λkV doc pm an cdv ct us J=>match us,J with|[u],_=>h kV doc pm an cdv ct u
theorem g1{i:Nat}{v:V}{σ:L2.St}{H:Hp}{te:TE}{M:V->Hp->Prop}{N0:Hp->Prop}(h:te (σ.set i (some v)) H M):hV i v σ H λσ2 H2=>A8 σ2 H2 λb H3=>if b=true then te σ2 H3 M else N0 H3:=by
 show if true=true then te (σ.set i (some v)) H M else N0 H
 exact cg h
structure Ex (K : Kl) (mg : Str -> JW JT) (x : Str) (C : JR) : Prop where
 m : mg x = some (.ref C)
 q : W.excIn K C [.type "ValueError", .type "Exception", .type "BaseException", .type "object"] "ValueError.__new__" = true
structure JN (K : Kl) (mg : Str -> JW JT) (x : Str) (st : K0) (f : JR) (fd : J2) (items : MM JT) : Prop where
 ex : ∃ (oc : JT) (od : JW JR) (kV doc pm : JT) (an : JW JR) (cdv ct : JT) (osl : MM (JW JT)) (T : JR) (o : Obj) (n : Nat),
  fd = Nk x x (i3 st) (iB st) (cG st) (.ref T) kV doc pm an cdv ct /\ K.lookup f = some ⟨oc, od, .func fd, osl⟩ /\ N1 K cdv x = true /\ K.lookup T = some o /\ o.data = .seq items n
 kp : ME K (.ref f) = true
 m : mg x = some (.ref f)
theorem xH{K:Kl}{H:Hp}:∀(ns:JP Int),iU K H (ns.map V.int) (ns.map PyData.int)
 |[]=> .nil
 |n::ns=> .cons (.int n) (xH ns)
theorem lay_ints:∀(ns:JP Int),(PyData.list (ns.map PyData.int)).canLay0=true:=by
 intro ns;induction ns with
 |nil=>rfl
 |cons n ns J=>exact J
theorem Paired.imp2 {α β:Type}{F G:α->β->Prop}:∀{l:JP α} {m:JP β},Lo F l m->(∀ a b,F a b->G a b)->Lo G l m
 |_,_,.nil,_=> .nil
 |_,_,.cons r t,f=> .cons (f _ _ r) (Paired.imp2 t f)
theorem Paired.app {α β:Type}{F:α->β->Prop}{a:α}{b:β}:∀{l:JP α} {m:JP β},Lo F l m->F a b->Lo F (l++[a]) (m++[b])
 |_,_,.nil,h=> .cons h .nil
 |_,_,.cons r t,h=> .cons r (Paired.app t h)
theorem Paired.len {α β:Type}{F:α->β->Prop}:∀{l:JP α} {m:JP β},Lo F l m->l.length=m.length
 |_,_,.nil=>rfl
 |_,_,.cons _ t=>by simp[Paired.len t]
theorem Ha{H0 H:Hp}{a t:JR}{o o':HO}(s:bY H0 H)(ha:H0 a=none)(ht:H t=none):bY H0 (upd (upd H t o) a o'):=λb u e=>by
 rw[cF (dI e ha),cF (dI (s b u e) ht)];exact s b u e
theorem mj{r n:Int}(hn:0<n):∃ j:Nat,(j:Int)=r%n/\(j:Int)<n:=by
 have h1:=LR r (show n≠0 by omega)
 have h2:=Ly r hn;exact⟨(r%n).toNat,by omega,by omega⟩
noncomputable def D2(c:TT)(t u:TS):TS:=λD σ H=>∃ J:L2.St->Hp->Prop,(c σ H λb H1=>if b=true then t {D with nx:=J} σ H1 else u {D with nx:=J} σ H1)/\∀ U H',J U H'->D.nx U H'
theorem uh{X:Cx}{c:KI}{a b:JP K0}{tc:TT}{t u:TS}{pos:Pos}(hc:PT X c tc)(ha:cH X a t)(hb:cH X b u):PS X (.If c a b pos) (D2 tc t u):=by
 intro pins s σ H D I h;obtain⟨J,h1,h2⟩:=h;refine cv (cM hc ha hb pins s σ H {D with nx:=J} I h1) λf s1 q=>?_
 cases f with
 |next=>obtain⟨U,H',I',q⟩:=q;exact⟨U,H',I',h2 _ _ q⟩
 |brk=>exact q
 |cont=>exact q
 |ret u=>exact q
theorem PE.imp {X:Cx}{e:KI}{t t':TE}(h:PE X e t)(i:∀ σ H Q,t' σ H Q->t σ H Q):PE X e t':=λpins s σ H Q I q=>h pins s σ H Q I (i σ H Q q)
theorem vS{d:Kf}(h:d.canLay0=true):Nx d d=true:=SeqAt.eqv_refl d h
theorem Gk{X:Cx}{K:Kl}(h:X.K=K):qy X (zi K):=by subst h;exact fO
theorem Fl{K:Kl}{a:JR}{xs:JP V}{g:TG}{tc:TT}{te:TE}{σ0:L2.St}{H:Hp}{Q:VK}(Pv:Nat->JP V->Hp->Prop)(hz:xs.length<sizeLine)(hl:∀ i ys H,Pv i ys H->cu K H a xs)(h0:Pv 0 [] H)
  (hs:∀ i x ys H (N:JP V->Hp->Prop),xs[i]? =some x->Pv i ys H->(∀ ys' H2,Pv (i+1) ys' H2->N ys' H2)->
   g x σ0 H λσ2 H2=>tc σ2 H2 λb H3=>if b=true then te σ2 H3 λy H4=>N (ys++[y]) H4 else N ys H3)
  (hd:∀ ys H,Pv xs.length ys H->ys.length<=xs.length->∀ p,H p=none->Q (.ref p) (upd H p (.lst ys))):nQ (oF K a) g tc te σ0 Q H:=sW xs.length Pv hz
 (λi ys H hi p=>⟨xs,xs[i],hl i ys H p,by simp[hi]⟩) (λys H p=>⟨xs,hl _ ys H p,JY _⟩) h0
 (λi ys H v H' N hi p y J=>by
  obtain⟨e,y⟩:=y;subst e;exact hs i v ys _ N (y xs (hl i ys _ p)) p J) hd
theorem EL{P:Ka}{w:Ku}{X:Cx}:Passes (dD P w) X E0:=λ_ _ _ _ _ _ _ h=>(dD.no h).elim
theorem dR{x:Str}{st:K0}{f:JR}{oc kV doc pm cd ct:JT}{od an:JW JR}{sl:MM (JW JT)}(X:K.In h)(G:h.Ns Kc mg)(a:Lx K Kc x=some (some (.ref f)))
  (l:K.lookup f=some ⟨oc,od,.func (Nk x x (i3 st) (iB st) (cG st) .none kV doc pm an cd ct),sl⟩)(c:N1 K cd x=true)(k:ME K (.ref f)=true):∃ f fd,Df K mg x st f fd:=
 ⟨f,_,uQ l c k,LF X G a⟩
end
open PySem PySem.W PySem.Calls PyProof.Rows
theorem AU:∀(ns:JP Int) (m:Nat),WData.weightAll (ns.map Ou)<=m->∀ n∈ns,Mj n<=m
 |[],_,_,_,h=>nomatch h
 |i::ns,m,hw,n,h=>by
  have J:Mj i+1+WData.weightAll (ns.map Ou)<=m:=hw;rcases List.mem_cons.mp h with rfl|h
  ·omega
  ·exact AU ns m (by omega) n h
theorem Iz{ns:JP Int}(h:WData.layableAll [WData.list (ns.map Ou)]=true):∀ n∈ns,Mj n<=2 ^ 20:=by
 have h1:(WData.layable (WData.list (ns.map Ou))&&true)=true:=h;rw[Bool.and_true] at h1;have h2:=(Bool.and_eq_true_iff.mp h1).2;exact AU ns _ (LZ h2)
theorem F2{l:OpenLaw}{n:Nat}{q:Ka}{loose:JP Str}{XP:(Str->JW JT)->KP->Prop}{YP:Ku->KP->Prop}{d:DefRec}
  (hn:l.most=some n)(hdf:d.params.defaults=[])
  (call:∀(w:Ku) (s₀ s₁:JZ) (mg mb:Str->JW JT) (fa:JR) (a:JR) (vs:JP JT) (ns:JP Int),
   Ground q loose [] XP w s₀ mg mb s₁.heap->YP w s₁.heap->mg d.name=some (.ref fa)->
   s₁.heap.get? a=some {cls:= .type "list",data:= .seq vs.toArray}->IntsAre vs ns->ns.length<=n->(∀ i∈ns,Mj i<=2 ^ 20)->s₁.gens=#[]->
   Nz (Ko l.prog w) O2 (.call (.ref fa) ⟨[.ref a],[]⟩) (λr s'=>r= .ok (.ret (.bool true))/\OldK s₁.heap s'.heap/\s'.os=s₁.os/\NQ s'.gens) s₁):
  WalkO q loose XP YP l.row.toRowW d [] (λf vs=>PySem.call f vs):=by
 intro w s₀ s₁ mg mb G Y fa o pm cd doc dV kV ho hd ae hD aa hg args vals as J U af ab ag;obtain rfl:dV= .none:=Dflts.none hD hdf;obtain rfl:kV= .none:=Dflts.noKw hD;obtain⟨a,vs,ns,rfl,rfl,I,hints,hlen⟩:=Att.IA hn J ab;refine enter_call (Nj (call w s₀ s₁ mg mb fa a vs ns G Y aa I hints hlen (Iz U) hg) λr s' hq=>?_);obtain⟨rfl,h2,h3,h4⟩:=hq;exact⟨.inl ⟨.bool true,.bool true,[],rfl,λ_=>rfl,.bool true,Att.IT l _,λ_=>⟨List.Pairwise.nil,λ_ hm=>(nomatch hm)⟩⟩,h2,h3,h4⟩
theorem D0{l:W.OpenLaw}{n k:Nat}{q:Ka}{loose:JP Str}{XP:(Str->JW JT)->KP->Prop}{YP:Ku->KP->Prop}{d:DefRec}{K:Params->Kl}{sp:Kl->Sp}{x:Str}
  (hn:l.most=some n)(hn2:n<=sizeLine)(hdf:d.params.defaults=[])(hr:eG k O2)
  (hY:∀(w:Ku) (h:KP),YP w h->(K w.params).In h)
  (F:∀(w:Ku) (mg:Str->JW JT) (fa:JR) (h:KP),(K w.params).In h->h.Ns Kc mg->mg d.name=some (.ref fa)->
   ∃ fd:J2,(∀(s:JZ) (u:JT),O1 s fd ⟨[u],[]⟩ [(x,u)])/\
    ∀ base:KP,(K w.params).In base->base.Ns Kc mg->bX l.prog w (K w.params) mg base b7 k fa fd [x] (sp (K w.params)))
  (hsp:∀(K:Kl) (H:Hp) (a:JR) (ns:JP Int),ns.length<=n->(∀ i∈ns,Mj i<=2 ^ 20)->ck K H a (ns.map V.int)->sp K [.ref a] H (λv _=>v= .bl true) λ_ _ _=>LG):
  W.WalkO q loose XP YP l.row.toRowW d [] (λf vs=>PySem.call f vs):=by
 refine F2 hn hdf λw s₀ aa mg mb fa a vs ns G Y I U hints hlen J hg=>?_
 have KX:=hY w _ Y;obtain⟨fd,hb,hF⟩:=F w mg fa _ KX G.T.g I;exact Hi KX G.T.g G.T.b G.T.builtins G.T.nolimit hg U hints (Kj hlen hn2) hr hF hb (λH hO hS=>hsp _ H a ns hlen J hS) λH e s' z=>z
end Gn
namespace K01
noncomputable def lo(c:Nat):Nat:=if 65<=c/\c<=90 then c+32 else c
noncomputable def dA(c:Nat):KS:=(decide (97<=c)&&decide (c<=122))||(decide (48<=c)&&decide (c<=57))
noncomputable def iC(c:Nat):KS:=decide (c=10)||(decide (32<=c)&&decide (c<=126) && !decide (c=37))
theorem ur{c:Nat}(h:iC c=true):c<128:=by
 unfold iC at h;simp only[OJ,Lc,MR,MQ,decide_eq_false_iff_not] at h;omega
theorem DU{c:Nat}(h:dA c=true):iC c=true:=by
 unfold dA at h;unfold iC;simp only[OJ,Lc,MR,MQ,decide_eq_false_iff_not] at *;omega
theorem Ga{c:Nat}(h:dA c=true):c<128:=ur (DU h)
open PySem L2
noncomputable def iT(most:Nat):V->KS
 |.str z=>decide (1<=z.length)&&decide (z.length<=most)&&z.cps.toList.all dA
 |_=>false
noncomputable def sP(x:V):Prop:=∀ z,x= .str z->z.length<=5000
end K01
namespace K04
end K04
namespace BK
open K04
section
variable {α : Type} [LY α]
end
end BK
namespace Gn
open PySem L2 PyProof.Rows PySem.Spec
section
variable {X : Cx}
end
end Gn
namespace BK
open PySem L2 PyProof.Rows PySem.Spec Gn K04
end BK
namespace K13
open PySem L2 PyProof.Rows PySem.Spec Gn K01
noncomputable def top(i:Nat):K0:=PySem.Challenge.pw_findhall_k13_asks_written.main.body.getD i (.Pass ⟨0,0,0,0⟩)
noncomputable abbrev pE:K0:=top 10
noncomputable abbrev qf:K0:=top 11
noncomputable abbrev nU:K0:=top 12
noncomputable abbrev nS:K0:=top 13
noncomputable abbrev qO:K0:=top 14
noncomputable abbrev pL:K0:=top 17
noncomputable abbrev iD:K0:=top 26
noncomputable abbrev tM:K0:=top 27
noncomputable abbrev cW:K0:=top 28
noncomputable abbrev cS:K0:=top 29
noncomputable abbrev cR:K0:=top 30
noncomputable abbrev cN:K0:=top 31
noncomputable abbrev cB:K0:=top 32
noncomputable abbrev cE:K0:=top 33
noncomputable abbrev cO:K0:=top 34
noncomputable abbrev qu:K0:=top 35
noncomputable abbrev nP:K0:=top 36
noncomputable abbrev oY:K0:=top 37
noncomputable abbrev qg:K0:=top 38
noncomputable abbrev pS:K0:=top 39
noncomputable abbrev lO:K0:=top 40
noncomputable abbrev nz:K0:=top 41
noncomputable abbrev lL:K0:=top 45
noncomputable abbrev mz:K0:=top 46
noncomputable abbrev pN:K0:=top 47
noncomputable abbrev p5:K0:=top 48
noncomputable abbrev nC:K0:=top 49
noncomputable abbrev qE:K0:=top 50
noncomputable abbrev qP:K0:=top 51
noncomputable abbrev gu:K0:=top 52
noncomputable abbrev fJ:K0:=top 53
noncomputable abbrev nV:K0:=top 54
noncomputable abbrev ju:K0:=top 56
noncomputable abbrev lX:K0:=top 57
noncomputable abbrev lT:K0:=top 58
noncomputable abbrev kX:K0:=top 59
noncomputable abbrev nL:K0:=top 60
noncomputable abbrev kT:K0:=top 61
noncomputable abbrev oE:K0:=top 62
noncomputable abbrev nN:K0:=top 63
noncomputable abbrev md:K0:=top 64
noncomputable abbrev ph:K0:=top 65
noncomputable abbrev mY:K0:=top 66
noncomputable abbrev nF:K0:=top 67
noncomputable abbrev qH:K0:=top 68
noncomputable abbrev pT:K0:=top 69
noncomputable abbrev pJ:K0:=top 70
noncomputable abbrev qa:K0:=top 71
noncomputable abbrev ng:K0:=top 72
noncomputable abbrev qx:K0:=top 73
noncomputable abbrev qN:K0:=top 74
noncomputable abbrev js:K0:=top 75
structure Txt (mg : Str -> JW JT) : Prop where
 isi : mg "isinstance" = none
 int : mg "int" = none
 bool : mg "bool" = none
 str : mg "str" = none
 list : mg "list" = none
 tuple : mg "tuple" = none
 len : mg "len" = none
 all : mg "all" = none
 range : mg "range" = none
 zip : mg "zip" = none
 sum : mg "sum" = none
 ord : mg "ord" = none
 cText : ∃ t, mg "MOST_TEXT_SIGNS" = some (.int 2000 t)
 cPer : ∃ t, mg "PERCENT_NUMBER" = some (.int 37 t)
 cBrk : ∃ t, mg "MOST_BRACKETS" = some (.int 12 t)
 cSmall : ∃ t, mg "SMALL_SIGNS" = some (.str "abcdefghijklmnopqrstuvwxyz0123456789" t)
 cWord : ∃ t, mg "MOST_WORD_SIGNS" = some (.int 2000 t)
 cLR : ∃ t, mg "LEAST_IN_ROW" = some (.int 2 t)
 cMR : ∃ t, mg "MOST_IN_ROW" = some (.int 8 t)
 cFar : ∃ t, mg "MOST_FAR" = some (.int 20 t)
 cDeep : ∃ t, mg "MOST_DEEP" = some (.int 8 t)
 cAll : ∃ t, mg "MOST_IN_ALL" = some (.int 40 t)
section
variable {P : Ka} {w : Ku} {K : J7} {mg : Str -> JW JT} {base : KP}
noncomputable def xU(K:Kl):Sp:=λvs H Q _=>∃ x,vs=[x]/\Known K H x/\Q (.bl (vV x && !zZ x)) H
theorem GU:da ["thing"] ["thing"] (cG pE):=⟨rfl,rfl,rfl,dkq,rfl,dkq,dkq⟩
seal cH PS PE PT PA PG PI cT cP in
theorem F5{f:JR}{fd:J2}(D:Df K mg "is_whole" pE f fd)(T:Txt mg):bX P w K mg base b7 1 f fd ["thing"] (xU K):=by
 refine D.F.ok GU (λvs H Q E h=>?_) (λcdv A outer s H vs Q E U h=>?_)
 ·obtain⟨x,rfl,_⟩:=h;rfl
 ·obtain⟨x,rfl,⟨n,J⟩,k⟩:=h;refine⟨_,b5 (cy (zQ (dF jE rfl T.isi iP (bU (pv 0) (bU (lx (v:= .ty "int") rfl T.int jF rfl) bV)))
   (sx (xJ (dF jE rfl T.isi iP (bU (pv 0) (bU (lx (v:= .ty "bool") rfl T.bool Ih rfl) bV))))))),?_⟩;refine⟨_,rfl,x,.ty "int",_,_,rfl,J,.inl ⟨_,rfl,Bs J⟩,_,rfl,?_⟩;cases hi:vV x with
  |false=>
   rw[hi] at k;exact cj k
  |true=>
   rw[hi] at k;refine cg ?_;exact⟨_,rfl,x,.ty "bool",_,_,rfl,J,.inl ⟨_,rfl,CK J⟩,_,rfl,k⟩
theorem str_len(z:Str):z.cps.toList.length=z.length:=by simp[N3]
theorem Dy{z:Str}{i c:Nat}(h:z.cps[i]? =some c):z.cps.toList[i]? =some c:=by simpa using h
theorem uy:(["sign"]:JP Str).Nodup:=dkq
theorem EN{x:V}{m:Nat}(h:qR x=false):iT m x=false:=by cases x<;>first|rfl|cases h
theorem isStr{x:V}(h:qR x=true):∃ z,x= .str z:=by cases x<;>first|exact⟨_,rfl⟩|cases h
noncomputable def yl(K:Kl):Sp:=λvs H Q _=>∃(x:V) (m:Nat),vs=[x,.int m]/\Known K H x/\sP x/\∀ H',bY H H'->Q (.bl (iT m x)) H'
theorem IC:da ["thing","most"] ["thing","most"] (cG nS):=⟨rfl,rfl,rfl,dkq,rfl,dkq,dkq⟩
theorem ET{f g:Nat->KS}(h:∀ c,c<128->f c=g c)(hf:∀ c,f c=true->c<128)(hg:∀ c,g c=true->c<128)(c:Nat):f c=g c:=by
 by_cases J:c<128
 ·exact h c J
 ·cases ef:f c with
  |true=>exact absurd (hf c ef) J
  |false=>
   cases eg:g c with
   |true=>exact absurd (hg c eg) J
   |false=>rfl
theorem ER{l:JP Nat}(h:l.all (λx=>decide (x<128))=true)(c:Nat)(e:decide (c∈l)=true):c<128:=LZ (List.all_eq_true.mp h c (LZ e))
noncomputable abbrev Gz:Str:=JO "abcdefghijklmnopqrstuvwxyz0123456789"
theorem Ew:∀ c:Nat,decide (c∈Gz.cps.toList)=dA c:=ET dkq (ER dkq) λc h=>Ga h
theorem qY(c:Nat):(!(K7 (JO "abcdefghijklmnopqrstuvwxyz0123456789") ⟨#[c]⟩ 0 (JO "abcdefghijklmnopqrstuvwxyz0123456789").length 1).isEmpty)=dA c:=by
 rw[Ng];exact Ew c
seal cH PS PE PT PA PG PI cT cP in
theorem Gi{f:JR}{fd:J2}(D:Df K mg "is_small_row" nS f fd)(T:Txt mg):bX P w K mg base b7 1 f fd ["thing","most"] (yl K):=by
 obtain⟨tc,U⟩:=T.cSmall;refine D.F.ok IC (λvs H Q E h=>?_) (λcdv A outer s H vs Q E hr h=>?_)
 ·obtain⟨x,m,rfl,_⟩:=h;rfl
 ·obtain⟨x,m,rfl,⟨n,aa⟩,ab,k⟩:=h;refine⟨_,b9 (cM (PW.pt (gn (gF (fZ (dF jE rfl T.isi iP (bU (pv 0) (bU (lx (v:= .ty "str") rfl T.str mm rfl) bV)))))
    (gn (cx iQ (dF ip rfl T.len e8 (bU (pv 0) bV)) bZ (cC _))
    (ia (cx iJ (dF ip rfl T.len e8 (bU (pv 0) bV)) (pv 1) (cC _)))))) (b5 (cy iq)) cY)
   (b5 (cy (dF (vt rfl) rfl T.all uM (bU (jA (own:=1) (caps:=[]) (N:=["sign"]) (N0:=["thing","most"]) (sc0:=cG nS) rfl (ug (pv 0))
    (λ_ _ _=>eX (i:=0) uy rfl (Kh rfl)) (λ_ _ _=>jj)
    (λ_ _ _=>ik qK (pv 0) (fH (v:= .str (JO "abcdefghijklmnopqrstuvwxyz0123456789")) rfl U ⟨_,rfl⟩) rfl) (iV (by decide)) rfl rfl
    dkq rfl dkq dkq rfl dkq) bV)))),?_⟩;refine⟨_,rfl,x,.ty "str",_,_,rfl,aa,.inl ⟨_,rfl,uq aa⟩,_,rfl,?_⟩;have I:=k H (bY.refl H);cases hx:qR x with
  |false=>
   rw[EN hx] at I;exact cg (cg I)
  |true=>
   obtain⟨z,rfl⟩:=isStr hx;have hz:=ab z rfl;have hl:(sizeLine:Nat)=16777216:=Kv;have J:iT m (.str z)=(decide (1<=z.length)&&decide (z.length<=m)&&z.cps.toList.all dA):=rfl;refine cj ?_;refine⟨_,rfl,z,rfl,by(clear J hx U;omega),_,_,rfl,rfl,_,rfl,?_⟩;by_cases h1:(z.length:Int)<1
   ·rw[JS h1];rw[J,JQ (by(clear J hl hz hx U;omega)),NZ,NZ] at I;exact cg (cg I)
   ·rw[JQ h1];refine cj ⟨_,rfl,z,rfl,by(clear h1 J hx U;omega),_,rfl,_,_,rfl,rfl,_,rfl,?_⟩;by_cases hlen:(m:Int)<(z.length:Int)
    ·rw[JS hlen];rw[J,JQ (show ¬ z.length<=m by(clear h1 J hl hz hx U;omega)),MZ,NZ] at I;exact cg I
    ·rw[JQ hlen];refine cj ?_;have sz:z.cps.size=z.length:=rfl;refine⟨_,rfl,z,rfl,v9 (x:=z) (λi ys H'=>bY H H'/\ys=((z.cps.toList.take i).map λc=>V.bl (dA c))) (by(clear hlen h1 J hx U;omega)) ⟨bY.refl H,rfl⟩ ?_ ?_⟩
     ·rintro i c ys H' N hc ⟨sm,rfl⟩ hN;refine g1 ?_;refine⟨_,rfl,_,_,rfl,rfl,hN _ _ ⟨sm,?_⟩⟩;rw[qY,Lk,Dy hc,J5];rfl
     ·rintro ys H' ⟨sm,rfl⟩ _ p hp;refine⟨p,z.cps.toList.map dA,rfl,ck.of (by rw[b6,Lq (by simp)];simp),?_⟩;have:=k (upd H' p (.lst ((z.cps.toList.take z.cps.size).map λc=>V.bl (dA c)))) (bY.upd sm hp);have e:iT m (.str z)=(z.cps.toList.map dA).all id:=by
       rw[J,JS (by(clear hp sz hlen J hl hz hx U;omega)),JS (by(clear hp sz h1 J hl hz hx U;omega)),Bool.true_and,Bool.true_and,OE];rfl
      rw[e] at this;exact this
noncomputable def xA(K:Kl)(m:Nat):Sp:=λvs H Q _=>∃ x,vs=[x]/\Known K H x/\sP x/\∀ H',bY H H'->Q (.bl (iT m x)) H'
theorem HK:da ["thing"] ["thing"] (cG pL):=⟨rfl,rfl,rfl,dkq,rfl,dkq,dkq⟩
seal cH PS PE PT PA PG PI cT cP in
theorem FX{f fr:JR}{fd fdr:J2}(D:Df K mg "is_word" pL f fd)(DR:Df K mg "is_small_row" nS fr fdr)(T:Txt mg):bX P w K mg base b7 2 f fd ["thing"] (xA K 2000):=by
 obtain⟨tc,U⟩:=T.cWord;have I:bX P w K mg base b7 1 fr fdr ["thing","most"] (yl K):=Gi DR T;have bR:=DR.F.binds (ps:=["thing","most"]) λ_ _ _ _ _ _ us hl=>iX (λ_ _=>rfl) us hl
 refine D.F.ok HK (λvs H Q E h=>?_) (λcdv A outer s H vs Q E hr h=>?_)
 ·obtain⟨x,rfl,_⟩:=h;rfl
 ·obtain⟨x,rfl,hk,J,k⟩:=h;refine⟨_,b5 (cy (cQ I hr rfl DR.m DR.F.kp bR .nil cz (bU (pv 0) (bU (fH (v:= .int 2000) rfl U ⟨_,rfl⟩) bV)))),?_⟩;exact⟨_,rfl,x,2000,rfl,hk,J,k⟩
noncomputable def pM:Sp:=λvs H Q _=>∃ n k:Int,vs=[.int n,.int k]/\0<=k/\k<=1000000/\∀ r:Int,0<=r->r<2147483629->Q (.int r) H
theorem yg:da ["_law_number_here","_law_k"] ["_law_number_here","_law_k"] (cG ju):=⟨rfl,rfl,rfl,dkq,rfl,dkq,dkq⟩
seal cH PS PE PT PA PG PI cT cP in
theorem qX{f:JR}{fd:J2}(D:Df K mg "_law_mixed" ju f fd):bX P w K mg base b7 1 f fd ["_law_number_here","_law_k"] pM:=by
 refine D.F.ok yg (λvs H Q E h=>?_) (λcdv A outer s H vs Q E I h=>?_)
 ·obtain⟨n,k,rfl,_⟩:=h;rfl
 ·obtain⟨n,k,rfl,h0,h1,U⟩:=h;refine⟨_,b9 (cZ (i:=0) yg.nd rfl (Kh rfl) (cA fI (cA mV (cA eD (cA eD (cA fI (pv 0) bZ) (cA mV (cA mV bZ (pv 1)) (pv 1))) (cA mV bZ (pv 1))) bZ) bZ))
   (b5 (cy (cA fI (cA mV (pv 0) (cA eD bZ (cA mV bZ (pv 1)))) bZ))),?_⟩;refine⟨_,rfl,_,_,rfl,rfl,(by show(0:Int)<2147483647;decide),_,rfl,_,_,rfl,rfl,.inl ⟨by decide,by decide⟩,_,rfl,_,_,rfl,rfl,.inr ⟨by(clear h1;omega),by(clear h0;omega)⟩,_,_,rfl,rfl,_,rfl,_,_,rfl,rfl,.inl ⟨by decide,by decide⟩,_,_,rfl,rfl,
   _,_,rfl,rfl,.inr ⟨by decide,by decide⟩,_,_,rfl,rfl,(by show(0:Int)<2147483647;decide),?_⟩;have b1:=LR ((n%2147483647+7919*k*k+31*k)*48271) (show(2147483647:Int)≠0 by decide);have J:=Ly ((n%2147483647+7919*k*k+31*k)*48271) (show(0:Int)<2147483647 by decide);refine⟨_,rfl,_,rfl,_,_,rfl,rfl,.inl ⟨by decide,by decide⟩,_,_,rfl,rfl,_,_,rfl,rfl,.inl ⟨by(clear J b1 h1 h0;omega),by(clear J b1 h1 h0;omega)⟩,_,_,rfl,rfl,(by show(0:Int)<2147483629;decide),?_⟩;exact U _ (LR _ (by decide)) (Ly _ (by decide))
noncomputable def v5(K:Kl):Sp:=λvs H Q _=>∃(a:JR) (ns:JP Int) (k:Nat),vs=[.ref a,.int k]/\ck K H a (ns.map V.int)/\ns.length<=63/\k<=1000/\∀(r:Int) H',0<=r->r<2147483629->bY H H'->Q (.int r) H'
theorem G5:da ["_law_script","_law_k"] ["_law_script","_law_k"] (cG lX):=⟨rfl,rfl,rfl,dkq,rfl,dkq,dkq⟩
seal cH PS PE PT PA PG PI cT cP in
theorem Ak{f fm:JR}{fd fdm:J2}(D:Df K mg "_law_number" lX f fd)(DM:Df K mg "_law_mixed" ju fm fdm)(T:Txt mg):bX P w K mg base b7 2 f fd ["_law_script","_law_k"] (v5 K):=by
 have GM:bX P w K mg base b7 1 fm fdm ["_law_number_here","_law_k"] pM:=qX DM
 have bM:=DM.F.binds (ps:=["_law_number_here","_law_k"]) λ_ _ _ _ _ _ us U=>iX (λ_ _=>rfl) us U
 refine D.F.ok G5 (λvs H Q E h=>?_) (λcdv A outer s H vs Q E I h=>?_)
 ·obtain⟨a,ns,k,rfl,_⟩:=h;rfl
 ·obtain⟨a,ns,k,rfl,hS,U,hk,kk⟩:=h;refine⟨_,b9 (cM (cx (wA I.units100) (pv 0) (eZ bV) (cC _)) (b5 (cy (cQ GM I rfl DM.m DM.F.kp bM .nil cz (bU bZ (bU (pv 1) bV))))) cY)
   (b5 (cy (cQ GM I rfl DM.m DM.F.kp bM .nil cz (bU (cK fO (pv 0) (cA fI (pv 1) (dF iF rfl T.len e8 (bU (pv 0) bV))) (λ_ _=>rfl)) (bU (pv 1) bV))))),?_⟩;refine⟨_,rfl,Ks _,λp hp=>?_⟩;have sm:bY H (upd H p (.lst [])):=cq hp;refine⟨.list (ns.map .int),.list [],.lst (sm.seq hS) (xH ns),.lst (ck.of b6) .nil,lay_ints ns,rfl,Kj (LV _ _) (by decide),_,rfl,?_⟩;cases ns with
  |nil=>
   refine cg ?_;exact⟨_,rfl,17,k,rfl,by(clear U hp hk;omega),by(clear U hp;omega),λr r0 r1=>kk r _ r0 r1 sm⟩
  |cons n ns=>
   refine cj ?_;have hn:(0:Int)<(((n::ns).map V.int).length:Nat):=by simp
   refine⟨_,rfl,_,rfl,_,rfl,_,_,rfl,.inl (sm.seq hS),_,_,rfl,rfl,hn,?_⟩;have J:k%(n::ns).length<(n::ns).length:=Nat.mod_lt _ (by simp);have ei:((k:Nat):Int)%((((n::ns).map V.int).length:Nat):Int)=((k%(n::ns).length:Nat):Int):=by rw[JX];(clear J hn U hp hk;omega)
   refine⟨a,_,_,.int ((n::ns)[k%(n::ns).length]),rfl,rfl,sm.seq hS,?_,_,rfl,_,k,rfl,by(clear ei J hn U hp hk;omega),by(clear ei J hn U hp;omega),λr r0 r1=>kk r _ r0 r1 sm⟩;rw[ei];exact cJ (by rw[List.getElem?_map,List.getElem?_eq_getElem J];rfl)
noncomputable def codes(x:Str):JP Nat:=x.cps.toList
theorem toStr(x:Str):(⟨(codes x).toArray⟩:Str)=x:=by unfold codes;simp
theorem fN(a b:JP Nat):(⟨a.toArray⟩:Str)++⟨b.toArray⟩=⟨(a++b).toArray⟩:=by
 show(⟨a.toArray++b.toArray⟩:Str)=_;simp
theorem du(a:JP Nat):(⟨a.toArray⟩:Str).length=a.length:=by simp[N3]
theorem Jc:JO ""=⟨([]:JP Nat).toArray⟩:=rfl
theorem yz:∀ cs:JP Nat,PySem.Str.join (JO "") (cs.map λc=>(⟨#[c]⟩:Str))=⟨cs.toArray⟩
 |[]=>rfl
 |[c]=>rfl
 |c::d::r=>by
  show(⟨[c].toArray⟩:Str)++JO ""++PySem.Str.join (JO "") ((d::r).map λc=>(⟨#[c]⟩:Str))=_;rw[yz (d::r),Jc,fN,fN];rfl
theorem join_eq(cs:JP Nat):Txt.join (JO "") (cs.map λc=>(⟨#[c]⟩:Str))=⟨cs.toArray⟩:=by
 show Od _ _=_;rw[Nt];exact yz cs
theorem Cf(cs:JP Nat):((cs.map λc=>(⟨#[c]⟩:Str)).map (·.length)).sum=cs.length:=by
 induction cs with
 |nil=>rfl
 |cons c r J=>rw[KU,KU,NC,J,JV];show 1+_=_;(clear J;omega)
theorem Bu{z:Str}{l u:JW Int}{c:Nat}(h:c∈(Txt.slice z l u).cps.toList):c∈z.cps.toList:=by
 unfold Txt.slice at h;split at h
 ·exact h
 ·have h':c∈(Lh l u 1 z.length).filterMap (z.cps[·]?):=by simpa using h
  obtain⟨i,_,e⟩:=List.mem_filterMap.mp h';have:=Array.mem_of_getElem? e;simpa using this
theorem qQ{p:Nat->KS}{z:Str}(l u:JW Int)(h:z.cps.toList.all p=true):(Txt.slice z l u).cps.toList.all p=true:=
 List.all_eq_true.mpr λc J=>List.all_eq_true.mp h c (Bu J)
theorem xp{p:Nat->KS}{a b:Str}(ha:a.cps.toList.all p=true)(hb:b.cps.toList.all p=true):(a++b).cps.toList.all p=true:=by
 rw[PySem.Str.cps_append,Array.toList_append,OK,ha,hb];rfl
theorem z7{p:Nat->KS}{l:JP Nat}(h:l.all p=true){i:Nat}(hi:i<l.length):p l[i]=true:=List.all_eq_true.mp h _ (M5 hi)
theorem Jg{R:Str}{k:Int}(h0:0<=k)(h1:k<=R.length):(Txt.slice R none (some k)).length<=k.toNat:=by
 have U:(R.cps.toList.length:Int)=R.length:=by simp[N3]
 have J:Txt.slice R none (some k)=_:=L7 ⟨by omega,by omega⟩;rw[J,du,Lr,KH];omega
theorem HM{R:Str}{a b:Int}(h0:0<=a)(h1:a<=b)(h2:b<=R.length):(Txt.slice R (some a) (some b)).length<=(b-a).toNat:=by
 have h:=NT R (a:=a.toNat) (b:=b.toNat) (by omega) (by omega);rw[Ml h0,Ml (by omega)] at h;have h':Txt.slice R (some a) (some b)=_:=h;rw[h',du,Lr];omega
noncomputable def Wm(z:Str):Prop:=z.length<=6/\z.cps.toList.all dA=true/\1<=z.length
noncomputable def yN:Sp:=λvs H Q _=>∃ n:Int,vs=[.int n]/\∀ a H' (ws:JP Str),bY H H'->H' a=some (.lst (ws.map V.str))->ws.length=5->(∀ z∈ws,Wm z)->Q (.ref a) H'
theorem jG:da ["_law_number_here","_law_signs","_law_rest","_law_k","_law_size","_law_at","_law_found","_law_sign"] ["_law_number_here"] (cG lT):=⟨rfl,rfl,rfl,dkq,rfl,dkq,dkq⟩
theorem CO:(["_law_j","_law_signs","_law_number_here"]:JP Str).Nodup:=dkq
theorem Bi:(["_law_k","_law_rest"]:JP Str).Nodup:=dkq
seal cH PS PE PT PA PG PI cT cP in
theorem E7{f fm:JR}{fd fdm:J2}(D:Df K mg "_law_menu" lT f fd)(DM:Df K mg "_law_mixed" ju fm fdm)(T:Txt mg):bX P w K mg base b7 2 f fd ["_law_number_here"] yN:=by
 have GM:bX P w K mg base b7 1 fm fdm ["_law_number_here","_law_k"] pM:=qX DM
 have bM:=DM.F.binds (ps:=["_law_number_here","_law_k"]) λ_ _ _ _ _ _ us hl=>iX (λ_ _=>rfl) us hl
 refine D.F.ok jG (λvs H Q E h=>?_) (λcdv A outer s H vs Q E hr h=>?_)
 ·obtain⟨n,rfl,_⟩:=h;rfl
 ·obtain⟨n,rfl,kk⟩:=h;have hl:(sizeLine:Nat)=16777216:=Kv;refine⟨_,b9 (cZ (i:=1) jG.nd rfl (Pb rfl) b8)
   (b9 (uh (cx cU (cA fI (pv 0) bZ) bZ (cC _)) (b5 (cZ (i:=1) jG.nd rfl (Pb rfl) b8)) cY)
   (b9 (cZ (i:=2) jG.nd rfl (Pb rfl) (fS LA OL OM AJ b8 (bU (jA (own:=1) (caps:=[1,0]) (N:=["_law_j","_law_signs","_law_number_here"])
     (N0:=["_law_number_here","_law_signs","_law_rest","_law_k","_law_size","_law_at","_law_found","_law_sign"]) (sc0:=cG lT) rfl
    (kZ rfl T.range (bU bZ bV)) (λ_ _ _=>eX (i:=0) CO rfl (Kh rfl)) (λ_ _ _=>jj)
    (λ_ _ _=>cK gE (pv 1) (cA fI (cQ GM hr rfl DM.m DM.F.kp bM .nil cz (bU (pv 2) (bU (cA eD bZ (pv 0)) bV))) bZ) (λ_ _=>rfl)) (iV (by decide)) rfl rfl
    dkq rfl dkq dkq rfl dkq) bV)))
   (b9 (cM (cx cU (cA fI (cA iu (pv 0) bZ) bZ) bZ (cC _))
    (b5 (cy (jA (own:=1) (caps:=[2]) (N:=["_law_k","_law_rest"])
     (N0:=["_law_number_here","_law_signs","_law_rest","_law_k","_law_size","_law_at","_law_found","_law_sign"]) (sc0:=cG lT) rfl
     (kZ rfl T.range (bU bZ bV)) (λ_ _ _=>eX (i:=0) Bi rfl (Kh rfl)) (λ_ _ _=>jj)
     (λ_ _ _=>gS gJ (pv 1) lZ (fh (cA eD (pv 0) bZ))) (iV (by decide)) rfl rfl
     dkq rfl dkq dkq rfl dkq))) cY)
   (b9 (cZ (i:=4) jG.nd rfl (Kh rfl) (cA fI (cA iu (pv 0) bZ) bZ))
   (b9 (cZ (i:=5) jG.nd rfl (Kh rfl) (cA fI (cA iu (pv 0) bZ) (cA eD (pv 4) bZ)))
   (b9 (cZ (i:=6) jG.nd rfl (Kh rfl) (eZ bV))
   (b9 (lF KZ rfl (kZ rfl T.range (bU bZ bV)) (eX (i:=3) jG.nd rfl (Kh rfl))
    (b9 (cZ (i:=7) jG.nd rfl (Kh rfl) (cK gE (pv 1) (cA fI (cA eD (cA iu (pv 0) bZ) (cA mV bZ (pv 3))) bZ) (λ_ _=>rfl)))
    (b5 (e7 (fS Kp KO K6 iO (pv 6)
     (bU (cA gf (cA gf (gS gJ (pv 2) lZ (fh (pv 5))) (pv 7)) (gS gJ (pv 2) (fh (pv 5)) (fh (pv 4)))) bV))))))
   (b5 (cy (pv 6)))))))))),?_⟩;refine⟨λak H'=>H'=H/\∃ S:Str,S.cps.toList.all dA=true/\S.length=26/\ak=[some (.int n),some (.str S),none,none,none,none,none,none],?_,?_⟩
  ·refine⟨_,rfl,_,_,rfl,rfl,(by show(0:Int)<3;decide),rfl,_,rfl,?_⟩;refine i4 (λ_=>?_) (λ_=>?_)
   ·exact⟨rfl,JO "0a1b2c3d4e5f6g7h8i9jklmnop",dkq,dkq,rfl⟩
   ·exact⟨rfl,JO "abcdefghijklmnopqrstuvwxyz",dkq,dkq,rfl⟩
  ·rintro ak H' ⟨rfl,S,hS,J,rfl⟩;have U:(codes S).length=26:=by unfold codes;rw[str_len];exact J
   refine⟨rfl,6,rfl,by decide,by decide,sd (λi ys H1=>H1=H'/\∃ cs:JP Nat,cs.length=i/\cs.all dA=true/\ys=cs.map λc=>V.str ⟨#[c]⟩) (by rw[hl];decide) ⟨rfl,[],rfl,rfl,rfl⟩ ?_ ?_⟩
   ·rintro i ys H1 N hi ⟨rfl,cs,hc,hok,rfl⟩ hN;have ai:i<6:=hi;refine g1 ?_;refine⟨_,rfl,_,rfl,_,rfl,_,_,rfl,rfl,_,_,rfl,by(clear ai hok hc hi U J hS hl;omega),by(clear ai hok hc U J hS hl;omega),λr r0 r1=>?_⟩;refine⟨_,_,rfl,rfl,(by show(0:Int)<26;decide),?_⟩;obtain⟨j,hj,aa⟩:=mj (r:=r) (n:=26) (by decide);have ae:j<(codes S).length:=by(clear aa r1 r0 ai hok hc hi J hS hl;omega)
    refine⟨S,_,(codes S)[j],rfl,rfl,by(clear ae aa hj r1 r0 ai hok hc hi U hS;omega),?_,hN _ _ ⟨rfl,cs++[(codes S)[j]],by simp[hc],by rw[OK,hok];simp[z7 (p:=dA) (l:=codes S) hS ae],by rw[J5];rfl⟩⟩;rw[<-hj];exact cJ (List.getElem?_eq_getElem ae)
   ·rintro ys H1 ⟨rfl,cs,hc,hok,rfl⟩ _ p hp;have I:cs.length=6:=hc;refine⟨_,p,cs.map λc=>(⟨#[c]⟩:Str),rfl,rfl,ck.of (by rw[b6,LB];rfl),?_,?_⟩
    ·rw[Cf,JX];show cs.length+cs.length*0<=_
     (clear I hp hok U J hS hl;omega)
    rw[join_eq];have sm:bY H1 (upd H1 p (.lst (cs.map λc=>V.str ⟨#[c]⟩))):=cq hp;generalize hG:upd H1 p (.lst (cs.map λc=>V.str ⟨#[c]⟩))=H2 at sm;have hR:(⟨cs.toArray⟩:Str).cps.toList.all dA=true:=by simpa using hok
    have ag:(⟨cs.toArray⟩:Str).length=6:=by rw[du];exact I
    generalize (⟨cs.toArray⟩:Str)=R at hR ag;refine⟨_,rfl,_,_,rfl,rfl,⟨by decide,by decide⟩,_,_,rfl,rfl,(by show(0:Int)<3;decide),rfl,_,rfl,?_⟩;refine i4 (λ_=>?_) (λ_=>?_)
    ·refine⟨5,rfl,by decide,by decide,sd (λi ys H3=>H3=H2/\∃ ws:JP Str,ws.length=i/\(∀ z∈ws,Wm z)/\ys=ws.map V.str) (by rw[hl];decide) ⟨rfl,[],rfl,λz hz=>by simp at hz,rfl⟩ ?_ ?_⟩
     ·rintro i ys H3 N hi ⟨rfl,ws,hw,ab,rfl⟩ hN;refine g1 ?_;refine⟨_,rfl,_,rfl,_,_,rfl,rfl,_,rfl,R,rfl,by(clear hw hG hi hR I hp hok hc U J hS;omega),hN _ _ ⟨rfl,ws++[Txt.slice R none (some ((0:Int)+i+1))],by simp[hw],λz hz=>?_,by rw[J5];rfl⟩⟩;rcases List.mem_append.mp hz with q|q
      ·exact ab z q
      ·have e:z=Txt.slice R none (some ((0:Int)+i+1)):=by simpa using q
       rw[e];have:=Txt.slice_le R none (some ((0:Int)+i+1));exact⟨by(clear e hw hG hi hR I hp hok hc U J hS hl;omega),qQ _ _ hR,by
        have af:i<5:=hi
        have l6:(R.cps.toList.length:Int)=R.length:=by simp[N3]
        have e1:Txt.slice R none (some ((0:Int)+i+1))=_:=L7 ⟨by omega,by omega⟩
        have l7:R.cps.toList.length=6:=by omega
        rw[e1,du,Lr,KH,l7];omega⟩
     ·rintro ys H3 ⟨rfl,ws,hw,ab,rfl⟩ _ q hq;exact kk q _ ws (sm.trans (cq hq)) b6 hw ab
    ·refine⟨_,rfl,_,_,rfl,rfl,⟨by decide,by decide⟩,_,_,rfl,rfl,(by show(0:Int)<5;decide),?_⟩;have s0:=LR (n/9) (show(5:Int)≠0 by decide);refine⟨_,rfl,_,_,rfl,rfl,⟨by decide,by decide⟩,_,rfl,_,_,rfl,rfl,_,_,rfl,rfl,(by show(0:Int)<n/9%5+1;(clear s0 ag hR hG I hp hok hc U J hS hl;omega)),?_⟩;refine⟨Ks _,λa ha=>?_⟩;refine⟨5,rfl,by decide,by decide,rA (λi σ H3=>∃(ws:JP Str) (v3 v7:JW V),σ=[some (.int n),some (.str S),some (.str R),v3,some (.int (n/9%5)),some (.int (n/45%(n/9%5+1))),some (.ref a),v7]/\bY H1 H3/\H3 a=some (.lst (ws.map V.str))/\ws.length=i/\∀ z∈ws,Wm z) ?_ ?_ ?_⟩
     ·exact⟨[],none,none,rfl,sm.trans (cq ha),b6,rfl,λz hz=>by simp at hz⟩
     ·rintro i σ H3 hi ⟨ws,v3,v7,rfl,aj,hA,hw,ab⟩;have af:i<5:=hi;refine⟨_,rfl,_,rfl,_,_,rfl,rfl,⟨by decide,by decide⟩,_,rfl,_,_,rfl,rfl,.inl ⟨by decide,by decide⟩,_,_,rfl,rfl,_,_,rfl,rfl,(by show(0:Int)<26;decide),?_⟩;obtain⟨j,hj,aa⟩:=mj (r:=n/225+5*(0+(i:Int))) (n:=26) (by decide);have ae:j<(codes S).length:=by(clear aa af hw hA hi ha s0 ag hR hG I hp hok hc J hS hl;omega)
      refine⟨S,_,(codes S)[j],rfl,rfl,by(clear ae aa hj af hw hA hi ha s0 ag hR hG I hp hok hc U hS;omega),by rw[<-hj];exact cJ (List.getElem?_eq_getElem ae),?_⟩;have l1:=Txt.slice_le R none (some (n/45%(n/9%5+1)));have l2:=Txt.slice_le R (some (n/45%(n/9%5+1))) (some (n/9%5));have ah:(⟨#[(codes S)[j]]⟩:Str).length=1:=rfl;refine⟨_,rfl,.inl ⟨rfl,_,ck.of hA⟩,_,rfl,_,rfl,_,rfl,R,rfl,by(clear ah l2 l1 ae aa hj af hw hA hi ha s0 hR hG I hp hok hc U J hS;omega),_,rfl,_,_,rfl,rfl,by(clear l2 aa hj af hw hA hi ha s0 hR hG I hp hok hc U J hS;omega),_,rfl,_,rfl,_,rfl,_,rfl,_,rfl,R,rfl,by(clear ah l2 l1 ae aa hj af hw hA hi ha s0 hR hG I hp hok hc U J hS;omega),_,_,rfl,rfl,by rw[L3];(clear aa hj af hw hA hi ha s0 hR hG I hp hok hc U J hS;omega),?_⟩;have ao:a≠a->LG:=λz=>z rfl
      refine⟨a,_,_,rfl,rfl,hA,by simp;(clear ah l2 l1 ae aa hj af hA ha s0 ag hR hG I hp hok hc U J hS;omega),?_⟩;refine⟨ws++[Txt.slice R none (some (n/45%(n/9%5+1)))++⟨#[(codes S)[j]]⟩++Txt.slice R (some (n/45%(n/9%5+1))) (some (n/9%5))],_,_,rfl,λb u e=>?_,by rw[b6,J5];rfl,by simp[hw],λz hz=>?_⟩
      ·have hb:b≠a:=λz=>by subst z;rw[sm.free ha] at e;cases e
       rw[cF hb];exact aj b u e
      ·rcases List.mem_append.mp hz with q|q
       ·exact ab z q
       ·have e:z=Txt.slice R none (some (n/45%(n/9%5+1)))++⟨#[(codes S)[j]]⟩++Txt.slice R (some (n/45%(n/9%5+1))) (some (n/9%5)):=by simpa using q
        rw[e];have a0:=LR (n/45) (show n/9%5+1≠0 by omega);have a1:=Ly (n/45) (show 0<n/9%5+1 by omega);have a2:=Ly (n/9) (show(0:Int)<5 by decide);have m1:=Jg (R:=R) (k:=n/45%(n/9%5+1)) a0 (by omega);have m2:=HM (R:=R) (a:=n/45%(n/9%5+1)) (b:=n/9%5) a0 (by omega) (by omega);refine⟨by rw[L3,L3];(clear e aa hj af hw hA hi ha hR hG I hp hok hc U J hS hl;omega),xp (xp (qQ _ _ hR) ?_) (qQ _ _ hR),by rw[L3,L3];omega⟩;simp[z7 (p:=dA) (l:=codes S) hS ae]
     ·rintro σ H3 ⟨ws,v3,v7,rfl,aj,hA,hw,ab⟩;exact⟨_,rfl,kk a H3 ws aj hA hw ab⟩
end
inductive At where
 |word (z : Str)|start (z : Str)|row (zs : JP Str)|near (a b : At) (n : Int)|both (a b : At)|either (a b : At)|no (a : At)
inductive Kn where
 |w|s|r|n|b|e|o
 deriving LY
noncomputable def At.kn:At->Kn
 |.word _=> .w|.start _=> .s|.row _=> .r|.near _ _ _=> .n|.both _ _=> .b|.either _ _=> .e|.no _=> .o
noncomputable def At.dep:At->Nat
 |.near a b _=>max a.dep b.dep+1|.both a b=>max a.dep b.dep+1|.either a b=>max a.dep b.dep+1|.no a=>a.dep+1|_=>0
noncomputable def At.told:At->Kf
 |.word z=> .tuple [.str "word",.str z]
 |.start z=> .tuple [.str "start",.str z]
 |.row zs=> .tuple [.str "row",.tuple (zs.map .str)]
 |.near a b n=> .tuple [.str "near",a.told,b.told,.int n]
 |.both a b=> .tuple [.str "both",a.told,b.told]
 |.either a b=> .tuple [.str "either",a.told,b.told]
 |.no a=> .tuple [.str "not",a.told]
noncomputable def At.kids:At->JP At
 |.near a b _=>[a,b]|.both a b=>[a,b]|.either a b=>[a,b]|.no a=>[a]|_=>[]
noncomputable def At.many:At->Nat
 |.near a b _=>1+(a.many+b.many)|.both a b=>1+(a.many+b.many)|.either a b=>1+(a.many+b.many)|.no a=>1+a.many|_=>1
mutual
inductive cD (l : KS) (H : Hp) : V -> Kf -> Prop
 |non : cD l H .non .none
 |bl (b : KS) : cD l H (.bl b) (.bool b)
 |int (i : Int) : cD l H (.int i) (.int i)
 |str (x : Str) : cD l H (.str x) (.str x)
 |lst {a : JR} {xs : JP V} {ds : JP Kf} : l = true -> H a = some (.lst xs) -> cV l H xs ds -> cD l H (.ref a) (.list ds)
 |tup {a : JR} {xs : JP V} {ds : JP Kf} : H a = some (.tup xs) -> cV l H xs ds -> cD l H (.ref a) (.tuple ds)
inductive cV (l : KS) (H : Hp) : JP V -> JP Kf -> Prop
 |nil : cV l H [] []
 |cons {x : V} {xs : JP V} {d : Kf} {ds : JP Kf} : cD l H x d -> cV l H xs ds -> cV l H (x :: xs) (d :: ds)
end
noncomputable def g6(H H':Hp):Prop:=(∀ b C dx fs,H b=some (.ins C dx fs)->H' b=some (.ins C dx fs))/\∀ b xs,H b=some (.tup xs)->H' b=some (.tup xs)
theorem g6.of {H H':Hp}(s:bY H H'):g6 H H':=⟨λ_ _ _ _ e=>s _ _ e,λ_ _ e=>s _ _ e⟩
theorem g6.lst {H:Hp}{a:JR}{xs:JP V}{o:HO}(h:H a=some (.lst xs)):g6 H (upd H a o):=
 ⟨λb C dx fs e=>by rw[cF (rZ e h (by intro z;cases z))];exact e,λb ys e=>by rw[cF (rZ e h (by intro z;cases z))];exact e⟩
mutual
theorem cD.same {l : KS} {H H' : Hp} (s : bY H H') : ∀ {x : V} {d : Kf}, cD l H x d -> cD l H' x d
 | _, _, .non => .non
 | _, _, .bl b => .bl b
 | _, _, .int i => .int i
 | _, _, .str x => .str x
 | _, _, .lst e h r => .lst e (s _ _ h) (cV.same s r)
 | _, _, .tup h r => .tup (s _ _ h) (cV.same s r)
theorem cV.same {l : KS} {H H' : Hp} (s : bY H H') : ∀ {xs : JP V} {ds : JP Kf}, cV l H xs ds -> cV l H' xs ds
 | _, _, .nil => .nil
 | _, _, .cons h r => .cons (cD.same s h) (cV.same s r)
end
mutual
theorem cD.keep {H H' : Hp} (s : g6 H H') : ∀ {x : V} {d : Kf}, cD false H x d -> cD false H' x d
 | _, _, .non => .non
 | _, _, .bl b => .bl b
 | _, _, .int i => .int i
 | _, _, .str x => .str x
 | _, _, .lst e h r => by cases e
 | _, _, .tup h r => .tup (s.2 _ _ h) (cV.keep s r)
theorem cV.keep {H H' : Hp} (s : g6 H H') : ∀ {xs : JP V} {ds : JP Kf}, cV false H xs ds -> cV false H' xs ds
 | _, _, .nil => .nil
 | _, _, .cons h r => .cons (cD.keep s h) (cV.keep s r)
end
mutual
theorem cD.any {l : KS} {H : Hp} : ∀ {x : V} {d : Kf}, cD false H x d -> cD l H x d
 | _, _, .non => .non
 | _, _, .bl b => .bl b
 | _, _, .int i => .int i
 | _, _, .str x => .str x
 | _, _, .lst e h r => by cases e
 | _, _, .tup h r => .tup h (cV.any r)
theorem cV.any {l : KS} {H : Hp} : ∀ {xs : JP V} {ds : JP Kf}, cV false H xs ds -> cV l H xs ds
 | _, _, .nil => .nil
 | _, _, .cons h r => .cons (cD.any h) (cV.any r)
end
mutual
theorem cD.dt {l : KS} {K : J7} {H : Hp} : ∀ {x : V} {d : Kf}, cD l H x d -> ig K H x d
 | _, _, .non => .non
 | _, _, .bl b => .bl b
 | _, _, .int i => .int i
 | _, _, .str x => .str x
 | _, _, .lst e h r => .lst (ck.of h) (cV.dt r)
 | _, _, .tup h r => .tup (cu.of h) (cV.dt r)
theorem cV.dt {l : KS} {K : J7} {H : Hp} : ∀ {xs : JP V} {ds : JP Kf}, cV l H xs ds -> iU K H xs ds
 | _, _, .nil => .nil
 | _, _, .cons h r => .cons (cD.dt h) (cV.dt r)
end
theorem cV.len {l:KS}{H:Hp}:∀{xs:JP V} {ds:JP Kf},cV l H xs ds->xs.length=ds.length
 |_,_,.nil=>rfl
 |_,_,.cons _ r=>by simp[cV.len r]
theorem cV.strs {l:KS}{H:Hp}:∀(zs:JP Str),cV l H (zs.map V.str) (zs.map MC)
 |[]=> .nil
 |z::zs=> .cons (.str z) (cV.strs zs)
noncomputable def tY:Kf->Mx
 |.none=>"NoneType" |.bool _=>"bool" |.int _=>"int" |.str _=>"str" |.list _=>"list" |.tuple _=>"tuple" |.dict _=>"dict"
theorem cD.ty {l:KS}{K:Kl}{H:Hp}{x:V}{d:Kf}(h:cD l H x d):gA K H x (.type (tY d)):=by
 cases h with
 |non=>exact .non
 |bl b=>exact .bl b
 |int i=>exact .int i
 |str z=>exact .str z
 |lst e h r=>exact .lst h
 |tup h r=>exact .tup h
theorem cD.known {l:KS}{K:Kl}{H:Hp}{x:V}{d:Kf}(h:cD l H x d):Known K H x:=⟨_,h.ty⟩
noncomputable abbrev tO(z:Str):JP (Str×V):=dh "word" (.str z) []
noncomputable abbrev vW(p:JR):JP (Str×V):=dh "side_by_side" (.ref p) []
noncomputable abbrev f1(p:JR):JP (Str×V):=dh "one" (.ref p) []
noncomputable abbrev f2(p q:JR):JP (Str×V):=dh "other" (.ref q) (f1 p)
noncomputable abbrev f3(p q:JR)(n:Int):JP (Str×V):=dh "far" (.int n) (f2 p q)
noncomputable def dZ(C:Kn->JR)(H:Hp):JR->At->Prop
 |a,.word z=>∃ dx,H a=some (.ins (C .w) dx (tO z))
 |a,.start z=>∃ dx,H a=some (.ins (C .s) dx (tO z))
 |a,.row zs=>∃ dx p,H a=some (.ins (C .r) dx (vW p))/\H p=some (.tup (zs.map V.str))
 |a,.near x y n=>∃ dx p q,H a=some (.ins (C .n) dx (f3 p q n))/\dZ C H p x/\dZ C H q y
 |a,.both x y=>∃ dx p q,H a=some (.ins (C .b) dx (f2 p q))/\dZ C H p x/\dZ C H q y
 |a,.either x y=>∃ dx p q,H a=some (.ins (C .e) dx (f2 p q))/\dZ C H p x/\dZ C H q y
 |a,.no x=>∃ dx p,H a=some (.ins (C .o) dx (f1 p))/\dZ C H p x
theorem dZ.keep {C:Kn->JR}{H H':Hp}(s:g6 H H'):∀{t:At} {a:JR},dZ C H a t->dZ C H' a t
 |.word _,_,⟨dx,h⟩=>⟨dx,s.1 _ _ _ _ h⟩
 |.start _,_,⟨dx,h⟩=>⟨dx,s.1 _ _ _ _ h⟩
 |.row _,_,⟨dx,p,h,hp⟩=>⟨dx,p,s.1 _ _ _ _ h,s.2 _ _ hp⟩
 |.near _ _ _,_,⟨dx,p,q,h,hp,J⟩=>⟨dx,p,q,s.1 _ _ _ _ h,dZ.keep s hp,dZ.keep s J⟩
 |.both _ _,_,⟨dx,p,q,h,hp,J⟩=>⟨dx,p,q,s.1 _ _ _ _ h,dZ.keep s hp,dZ.keep s J⟩
 |.either _ _,_,⟨dx,p,q,h,hp,J⟩=>⟨dx,p,q,s.1 _ _ _ _ h,dZ.keep s hp,dZ.keep s J⟩
 |.no _,_,⟨dx,p,h,hp⟩=>⟨dx,p,s.1 _ _ _ _ h,dZ.keep s hp⟩
theorem dZ.same {C:Kn->JR}{H H':Hp}(s:bY H H'){t:At}{a:JR}(h:dZ C H a t):dZ C H' a t:=h.keep (g6.of s)
noncomputable def mr(m:Str):Prop:=m≠"word"/\m≠"side_by_side"/\m≠"one"/\m≠"other"/\m≠"far"
theorem jH:mr "told":=by unfold mr;decide +kernel
theorem xi:mr "kids":=by unfold mr;decide +kernel
theorem dZ.ob {C:Kn->JR}{H:Hp}:∀{t:At} {a:JR},dZ C H a t->∃ dx fs,H a=some (.ins (C t.kn) dx fs)/\∀ m,mr m->fs.lookup m=none
 |.word _,_,⟨dx,h⟩=>⟨dx,_,h,λm n=>by rw[dO,if_neg n.1];rfl⟩
 |.start _,_,⟨dx,h⟩=>⟨dx,_,h,λm n=>by rw[dO,if_neg n.1];rfl⟩
 |.row _,_,⟨dx,p,h,hp⟩=>⟨dx,_,h,λm n=>by rw[dO,if_neg n.2.1];rfl⟩
 |.near _ _ _,_,⟨dx,p,q,h,_⟩=>⟨dx,_,h,λm n=>by rw[dO,if_neg n.2.2.2.2,dO,if_neg n.2.2.2.1,dO,if_neg n.2.2.1];rfl⟩
 |.both _ _,_,⟨dx,p,q,h,_⟩=>⟨dx,_,h,λm n=>by rw[dO,if_neg n.2.2.2.1,dO,if_neg n.2.2.1];rfl⟩
 |.either _ _,_,⟨dx,p,q,h,_⟩=>⟨dx,_,h,λm n=>by rw[dO,if_neg n.2.2.2.1,dO,if_neg n.2.2.1];rfl⟩
 |.no _,_,⟨dx,p,h,_⟩=>⟨dx,_,h,λm n=>by rw[dO,if_neg n.2.2.1];rfl⟩
theorem oV(z:Str):(tO z).lookup ("word":Str)=some (.str z):=by rw[dO,J1 rfl]
theorem A6(p:JR):(vW p).lookup ("side_by_side":Str)=some (.ref p):=by rw[dO,J1 rfl]
theorem wK(p:JR):(f1 p).lookup ("one":Str)=some (.ref p):=by rw[dO,J1 rfl]
theorem HV:¬ ("one":Str)="other":=dkq
theorem JI:¬ ("one":Str)="far":=dkq
theorem Dv:¬ ("other":Str)="far":=dkq
theorem nu(p q:JR):(f2 p q).lookup ("one":Str)=some (.ref p):=by rw[dO,if_neg HV,dO,J1 rfl]
theorem lW(p q:JR):(f2 p q).lookup ("other":Str)=some (.ref q):=by rw[dO,J1 rfl]
theorem wG(p q:JR)(n:Int):(f3 p q n).lookup ("one":Str)=some (.ref p):=by rw[dO,if_neg JI];exact nu p q
theorem vA(p q:JR)(n:Int):(f3 p q n).lookup ("other":Str)=some (.ref q):=by rw[dO,if_neg Dv];exact lW p q
theorem yr(p q:JR)(n:Int):(f3 p q n).lookup ("far":Str)=some (.int n):=by rw[dO,J1 rfl]
noncomputable def vD:Kn->K0
 |.w=>cW|.s=>cS|.r=>cR|.n=>cN|.b=>cB|.e=>cE|.o=>cO
noncomputable def AL(i:Kn):K0:=inClass (vD i) 0
noncomputable def lQ(i:Kn):K0:=inClass (vD i) 1
noncomputable def mf:Kn->K0
 |.n=>inClass cN 3|.b=>inClass cB 3|.e=>inClass cE 3|.o=>inClass cO 3|_=>inClass tM 0
noncomputable def D6:Kn->Str
 |.w=>"Word.__init__" |.s=>"Start.__init__" |.r=>"Row.__init__" |.n=>"Near.__init__" |.b=>"Both.__init__" |.e=>"Either.__init__" |.o=>"Not.__init__"
noncomputable def oQ:Kn->Str
 |.w=>"Word.told" |.s=>"Start.told" |.r=>"Row.told" |.n=>"Near.told" |.b=>"Both.told" |.e=>"Either.told" |.o=>"Not.told"
noncomputable def oG:Kn->Str
 |.n=>"Near.kids" |.b=>"Both.kids" |.e=>"Either.kids" |.o=>"Not.kids" |_=>"Ask.kids"
noncomputable def um:Kn->JP Str
 |.w=>["self","word"]|.s=>["self","word"]|.r=>["self","words"]|.n=>["self","one","other","far"]|.b=>["self","one","other"]|.e=>["self","one","other"]|.o=>["self","one"]
structure Cs (K : Kl) (C : Kn -> JR) : Prop where
 ic : ∀ i, sQ K (C i)
 nW : ∀ i, gg K (C i) "word"
 nR : ∀ i, gg K (C i) "side_by_side"
 n1 : ∀ i, gg K (C i) "one"
 n2 : ∀ i, gg K (C i) "other"
 n3 : ∀ i, gg K (C i) "far"
theorem Cs.cl {K:Kl}{C:Kn->JR}(c:Cs K C)(i:Kn):gB K (C i):=(c.ic i).cl
structure Mt (K : Kl) (C : Kn -> JR) (m : Str) (q : Kn -> Str) (st : Kn -> K0) (f : Kn -> JR) (fd : Kn -> J2) : Prop where
 F : ∀ i, ej K m (q i) (st i) (f i) (fd i)
 M : ∀ i, Meth K (C i) m (f i)
section
variable {P : Ka} {w : Ku} {K : J7} {mg : Str -> JW JT} {base : KP} {C f : Kn -> JR} {fd : Kn -> J2}
noncomputable def pR(C:Kn->JR)(n:Nat)(i:Kn):Sp:=λvs H Q _=>∃(a:JR) (t:At),vs=[.ref a]/\dZ C H a t/\t.dep<=n/\t.kn=i/\∀ x H',bY H H'->cD false H' x t.told->Q x H'
theorem Hs(i:Kn):da ["self"] ["self"] (cG (lQ i)):=by
 cases i<;>exact⟨rfl,rfl,rfl,dkq,rfl,dkq,dkq⟩
theorem jU(M:Mt K C "told" oQ lQ f fd)(i:Kn):Binds K (fd i) ["self"] []:=by
 cases i<;>exact(M.F _).binds (ps:=["self"]) λ_ _ _ _ _ _ us J=>match us,J with|[_],_=>rfl
theorem eJ:2<=sizeLine:=by rw[Kv];decide
theorem fG:3<=sizeLine:=by rw[Kv];decide
theorem ie:4<=sizeLine:=by rw[Kv];decide
seal cH PS PE PT PA PG PI cT cP in
theorem xN(Cl:Cs K C)(M:Mt K C "told" oQ lQ f fd)(n:Nat)(IH:0<n->∀ i,bX P w K mg base b7 n (f i) (fd i) ["self"] (pR C (n-1) i))(i:Kn):
  bX P w K mg base b7 (n+1) (f i) (fd i) ["self"] (pR C n i):=by
 refine(M.F i).ok (Hs i) (λvs H Q E h=>?_) (λcdv A outer s H vs Q E hr h=>?_)
 ·obtain⟨a,t,rfl,_⟩:=h;rfl
 ·obtain⟨a,t,rfl,hA,hd,rfl,k⟩:=h;cases t with
  |word z=>
   obtain⟨dx,U⟩:=hA;refine⟨_,b5 (cy (dv (bU b8 (bU (df (pv 0) rfl) bV)))),?_⟩;exact⟨_,rfl,a,C .w,dx,_,_,rfl,U,Cl.cl _,Cl.nW _,oV z,eJ,λp hp=>k _ _ (cq hp) (.tup b6 (.cons (.str _) (.cons (.str _) .nil)))⟩
  |start z=>
   obtain⟨dx,U⟩:=hA;refine⟨_,b5 (cy (dv (bU b8 (bU (df (pv 0) rfl) bV)))),?_⟩;exact⟨_,rfl,a,C .s,dx,_,_,rfl,U,Cl.cl _,Cl.nW _,oV z,eJ,λp hp=>k _ _ (cq hp) (.tup b6 (.cons (.str _) (.cons (.str _) .nil)))⟩
  |row zs=>
   obtain⟨dx,q,U,hq⟩:=hA;refine⟨_,b5 (cy (dv (bU b8 (bU (df (pv 0) rfl) bV)))),?_⟩;exact⟨_,rfl,a,C .r,dx,_,_,rfl,U,Cl.cl _,Cl.nR _,A6 q,eJ,λp hp=>k _ _ (cq hp) (.tup b6 (.cons (.str _) (.cons (.tup (cq hp _ _ hq) (cV.strs zs)) .nil)))⟩
  |near x y m=>
   obtain⟨dx,p,q,U,hp,hq⟩:=hA;have aa:max x.dep y.dep+1<=n:=hd;have hn:0<n:=by omega
   refine⟨_,b5 (cy (dv (bU b8 (bU (gc (df (pv 0) rfl) Cl.cl M.M (IH hn) hr (jU M) cz) (bU (gc (df (pv 0) rfl) Cl.cl M.M (IH hn) hr (jU M) cz) (bU (df (pv 0) rfl) bV)))))),?_⟩;obtain⟨dp,fp,ep,lp⟩:=hp.ob;refine⟨_,rfl,a,C .n,dx,_,_,rfl,U,Cl.cl _,Cl.n1 _,wG p q m,x.kn,p,dp,fp,rfl,ep,lp _ jH,p,x,rfl,hp,by omega,rfl,λu H1 s1 hu=>?_⟩;obtain⟨dq,fq,eq,lq⟩:=(hq.same s1).ob;refine⟨_,rfl,a,C .n,dx,_,_,rfl,s1 _ _ U,Cl.cl _,Cl.n2 _,vA p q m,y.kn,q,dq,fq,rfl,eq,lq _ jH,q,y,rfl,hq.same s1,by omega,rfl,λu2 H2 s2 I=>?_⟩;refine⟨_,rfl,a,C .n,dx,_,_,rfl,s2 _ _ (s1 _ _ U),Cl.cl _,Cl.n3 _,yr p q m,ie,λr J=>?_⟩;exact k _ _ ((s1.trans s2).trans (cq J)) (.tup b6 (.cons (.str _) (.cons ((hu.same s2).same (cq J)) (.cons (I.same (cq J)) (.cons (.int _) .nil)))))
  |both x y=>
   obtain⟨dx,p,q,U,hp,hq⟩:=hA;have aa:max x.dep y.dep+1<=n:=hd;have hn:0<n:=by omega
   refine⟨_,b5 (cy (dv (bU b8 (bU (gc (df (pv 0) rfl) Cl.cl M.M (IH hn) hr (jU M) cz) (bU (gc (df (pv 0) rfl) Cl.cl M.M (IH hn) hr (jU M) cz) bV))))),?_⟩;obtain⟨dp,fp,ep,lp⟩:=hp.ob;refine⟨_,rfl,a,C .b,dx,_,_,rfl,U,Cl.cl _,Cl.n1 _,nu p q,x.kn,p,dp,fp,rfl,ep,lp _ jH,p,x,rfl,hp,by omega,rfl,λu H1 s1 hu=>?_⟩;obtain⟨dq,fq,eq,lq⟩:=(hq.same s1).ob;refine⟨_,rfl,a,C .b,dx,_,_,rfl,s1 _ _ U,Cl.cl _,Cl.n2 _,lW p q,y.kn,q,dq,fq,rfl,eq,lq _ jH,q,y,rfl,hq.same s1,by omega,rfl,λu2 H2 s2 I=>?_⟩;refine⟨fG,λr J=>?_⟩;exact k _ _ ((s1.trans s2).trans (cq J)) (.tup b6 (.cons (.str _) (.cons ((hu.same s2).same (cq J)) (.cons (I.same (cq J)) .nil))))
  |either x y=>
   obtain⟨dx,p,q,U,hp,hq⟩:=hA;have aa:max x.dep y.dep+1<=n:=hd;have hn:0<n:=by omega
   refine⟨_,b5 (cy (dv (bU b8 (bU (gc (df (pv 0) rfl) Cl.cl M.M (IH hn) hr (jU M) cz) (bU (gc (df (pv 0) rfl) Cl.cl M.M (IH hn) hr (jU M) cz) bV))))),?_⟩;obtain⟨dp,fp,ep,lp⟩:=hp.ob;refine⟨_,rfl,a,C .e,dx,_,_,rfl,U,Cl.cl _,Cl.n1 _,nu p q,x.kn,p,dp,fp,rfl,ep,lp _ jH,p,x,rfl,hp,by omega,rfl,λu H1 s1 hu=>?_⟩;obtain⟨dq,fq,eq,lq⟩:=(hq.same s1).ob;refine⟨_,rfl,a,C .e,dx,_,_,rfl,s1 _ _ U,Cl.cl _,Cl.n2 _,lW p q,y.kn,q,dq,fq,rfl,eq,lq _ jH,q,y,rfl,hq.same s1,by omega,rfl,λu2 H2 s2 I=>?_⟩;refine⟨fG,λr J=>?_⟩;exact k _ _ ((s1.trans s2).trans (cq J)) (.tup b6 (.cons (.str _) (.cons ((hu.same s2).same (cq J)) (.cons (I.same (cq J)) .nil))))
  |no x=>
   obtain⟨dx,p,U,hp⟩:=hA;have aa:x.dep+1<=n:=hd;have hn:0<n:=by omega
   refine⟨_,b5 (cy (dv (bU b8 (bU (gc (df (pv 0) rfl) Cl.cl M.M (IH hn) hr (jU M) cz) bV)))),?_⟩;obtain⟨dp,fp,ep,lp⟩:=hp.ob;refine⟨_,rfl,a,C .o,dx,_,_,rfl,U,Cl.cl _,Cl.n1 _,wK p,x.kn,p,dp,fp,rfl,ep,lp _ jH,p,x,rfl,hp,by omega,rfl,λu H1 s1 hu=>?_⟩;refine⟨eJ,λr J=>?_⟩;exact k _ _ (s1.trans (cq J)) (.tup b6 (.cons (.str _) (.cons (hu.same (cq J)) .nil)))
theorem wN(Cl:Cs K C)(M:Mt K C "told" oQ lQ f fd):∀(n:Nat) (i:Kn),bX P w K mg base b7 (n+1) (f i) (fd i) ["self"] (pR C n i)
 |0=>xN Cl M 0 λh=>absurd h (Kw _)
 |n+1=>xN Cl M (n+1) λ_=>wN Cl M n
noncomputable def pA(Ci:JR)(fl:Str):Sp:=λvs H Q _=>∃(x dx:JR) (v:V),vs=[.ref x,v]/\H x=some (.ins Ci dx [])/\Q .non (upd H x (.ins Ci dx (dh fl v [])))
noncomputable def y8(Ci:JR):Sp:=λvs H Q _=>∃(x dx l:JR) (xs:JP V),vs=[.ref x,.ref l]/\H x=some (.ins Ci dx [])/\H l=some (.lst xs)/\∀ p,H p=none->Q .non (upd (upd H p (.tup xs)) x (.ins Ci dx (vW p)))
noncomputable def sM(Ci:JR):Sp:=λvs H Q _=>∃(x dx p q:JR),vs=[.ref x,.ref p,.ref q]/\H x=some (.ins Ci dx [])/\Q .non (upd H x (.ins Ci dx (f2 p q)))
noncomputable def Ag(Ci:JR):Sp:=λvs H Q _=>∃(x dx p q:JR) (n:Int),vs=[.ref x,.ref p,.ref q,.int n]/\H x=some (.ins Ci dx [])/\Q .non (upd H x (.ins Ci dx (f3 p q n)))
theorem lR(i:Kn):da (um i) (um i) (cG (AL i)):=by
 cases i<;>exact⟨rfl,rfl,rfl,dkq,rfl,dkq,dkq⟩
structure In (K : Kl) (C : Kn -> JR) (f : Kn -> JR) (fd : Kn -> J2) : Prop where
 F : ∀ i, ej K "__init__" (D6 i) (AL i) (f i) (fd i)
 M : ∀ i, L2.Mk K (C i) (f i)
theorem In.bi (I:In K C f fd)(i:Kn):Binds K (fd i) (um i) []:=by
 cases i with
 |w=>exact(I.F _).binds (ps:=["self","word"]) λ_ _ _ _ _ _ us J=>match us,J with|[_,_],_=>rfl
 |s=>exact(I.F _).binds (ps:=["self","word"]) λ_ _ _ _ _ _ us J=>match us,J with|[_,_],_=>rfl
 |r=>exact(I.F _).binds (ps:=["self","words"]) λ_ _ _ _ _ _ us J=>match us,J with|[_,_],_=>rfl
 |n=>exact(I.F _).binds (ps:=["self","one","other","far"]) λ_ _ _ _ _ _ us J=>match us,J with|[_,_,_,_],_=>rfl
 |b=>exact(I.F _).binds (ps:=["self","one","other"]) λ_ _ _ _ _ _ us J=>match us,J with|[_,_,_],_=>rfl
 |e=>exact(I.F _).binds (ps:=["self","one","other"]) λ_ _ _ _ _ _ us J=>match us,J with|[_,_,_],_=>rfl
 |o=>exact(I.F _).binds (ps:=["self","one"]) λ_ _ _ _ _ _ us J=>match us,J with|[_,_],_=>rfl
theorem lY:(0:Nat)<1000:=by decide
theorem tQ{v:V}{g:Str}:(dh g v []).length<1000:=by show 1<1000;decide
seal cH PS PE PT PA PG PI cT cP in
theorem EK(Cl:Cs K C)(I:In K C f fd):bX P w K mg base b7 1 (f .w) (fd .w) ["self","word"] (pA (C .w) "word"):=by
 refine(I.F .w).ok (lR .w) (λvs H Q E h=>?_) (λcdv A outer s H vs Q E U h=>?_)
 ·obtain⟨x,dx,v,rfl,_⟩:=h;rfl
 ·obtain⟨x,dx,v,rfl,J,k⟩:=h;exact⟨_,b5 (fF (pv 0) (pv 1) rfl),_,rfl,_,rfl,x,C .w,dx,[],rfl,J,Cl.cl _,Cl.nW _,lY,k⟩
seal cH PS PE PT PA PG PI cT cP in
theorem Je(Cl:Cs K C)(I:In K C f fd):bX P w K mg base b7 1 (f .s) (fd .s) ["self","word"] (pA (C .s) "word"):=by
 refine(I.F .s).ok (lR .s) (λvs H Q E h=>?_) (λcdv A outer s H vs Q E U h=>?_)
 ·obtain⟨x,dx,v,rfl,_⟩:=h;rfl
 ·obtain⟨x,dx,v,rfl,J,k⟩:=h;exact⟨_,b5 (fF (pv 0) (pv 1) rfl),_,rfl,_,rfl,x,C .s,dx,[],rfl,J,Cl.cl _,Cl.nW _,lY,k⟩
seal cH PS PE PT PA PG PI cT cP in
theorem B1(Cl:Cs K C)(I:In K C f fd):bX P w K mg base b7 1 (f .o) (fd .o) ["self","one"] (pA (C .o) "one"):=by
 refine(I.F .o).ok (lR .o) (λvs H Q E h=>?_) (λcdv A outer s H vs Q E U h=>?_)
 ·obtain⟨x,dx,v,rfl,_⟩:=h;rfl
 ·obtain⟨x,dx,v,rfl,J,k⟩:=h;exact⟨_,b5 (fF (pv 0) (pv 1) rfl),_,rfl,_,rfl,x,C .o,dx,[],rfl,J,Cl.cl _,Cl.n1 _,lY,k⟩
seal cH PS PE PT PA PG PI cT cP in
theorem G6(Cl:Cs K C)(I:In K C f fd)(T:Txt mg):bX P w K mg base b7 1 (f .r) (fd .r) ["self","words"] (y8 (C .r)):=by
 refine(I.F .r).ok (lR .r) (λvs H Q E h=>?_) (λcdv A outer s H vs Q E hr h=>?_)
 ·obtain⟨x,dx,l,xs,rfl,_⟩:=h;rfl
 ·obtain⟨x,dx,l,xs,rfl,J,U,k⟩:=h;refine⟨_,b5 (fF (pv 0) (il sF rfl T.tuple oU (bU (pv 1) bV)) rfl),?_⟩;refine⟨_,rfl,l,xs,rfl,.inl ⟨ck.of U,λp hp=>?_⟩⟩;exact⟨_,rfl,x,C .r,dx,[],rfl,cq hp _ _ J,Cl.cl _,Cl.nR _,lY,k p hp⟩
seal cH PS PE PT PA PG PI cT cP in
theorem Hr(Cl:Cs K C)(I:In K C f fd):bX P w K mg base b7 1 (f .b) (fd .b) ["self","one","other"] (sM (C .b)):=by
 refine(I.F .b).ok (lR .b) (λvs H Q E h=>?_) (λcdv A outer s H vs Q E U h=>?_)
 ·obtain⟨x,dx,p,q,rfl,_⟩:=h;rfl
 ·obtain⟨x,dx,p,q,rfl,J,k⟩:=h;refine⟨_,b9 (fF (pv 0) (pv 1) rfl) (b5 (fF (pv 0) (pv 2) rfl)),_,rfl,_,rfl,x,C .b,dx,[],rfl,J,Cl.cl _,Cl.n1 _,lY,_,rfl,_,rfl,x,C .b,dx,_,rfl,b6,Cl.cl _,Cl.n2 _,tQ,?_⟩;show Q .non (upd (upd H x _) x _);rw[qJ];exact k
seal cH PS PE PT PA PG PI cT cP in
theorem F3(Cl:Cs K C)(I:In K C f fd):bX P w K mg base b7 1 (f .e) (fd .e) ["self","one","other"] (sM (C .e)):=by
 refine(I.F .e).ok (lR .e) (λvs H Q E h=>?_) (λcdv A outer s H vs Q E U h=>?_)
 ·obtain⟨x,dx,p,q,rfl,_⟩:=h;rfl
 ·obtain⟨x,dx,p,q,rfl,J,k⟩:=h;refine⟨_,b9 (fF (pv 0) (pv 1) rfl) (b5 (fF (pv 0) (pv 2) rfl)),_,rfl,_,rfl,x,C .e,dx,[],rfl,J,Cl.cl _,Cl.n1 _,lY,_,rfl,_,rfl,x,C .e,dx,_,rfl,b6,Cl.cl _,Cl.n2 _,tQ,?_⟩;show Q .non (upd (upd H x _) x _);rw[qJ];exact k
theorem Jl{p q:JR}:(f2 p q).length<1000:=by
 have:=ke "other" (.ref q) (f1 p)
 show(dh "other" (.ref q) (f1 p)).length<1000
 have h:(f1 p).length=1:=rfl;omega
seal cH PS PE PT PA PG PI cT cP in
theorem C4(Cl:Cs K C)(I:In K C f fd):bX P w K mg base b7 1 (f .n) (fd .n) ["self","one","other","far"] (Ag (C .n)):=by
 refine(I.F .n).ok (lR .n) (λvs H Q E h=>?_) (λcdv A outer s H vs Q E U h=>?_)
 ·obtain⟨x,dx,p,q,n,rfl,_⟩:=h;rfl
 ·obtain⟨x,dx,p,q,n,rfl,J,k⟩:=h;refine⟨_,b9 (fF (pv 0) (pv 1) rfl) (b9 (fF (pv 0) (pv 2) rfl) (b5 (fF (pv 0) (pv 3) rfl))),_,rfl,_,rfl,x,C .n,dx,[],rfl,J,Cl.cl _,Cl.n1 _,lY,
   _,rfl,_,rfl,x,C .n,dx,_,rfl,b6,Cl.cl _,Cl.n2 _,tQ,_,rfl,_,rfl,x,C .n,dx,_,rfl,b6,Cl.cl _,Cl.n3 _,Jl,?_⟩;show Q .non (upd (upd (upd H x _) x _) x _);rw[qJ,qJ];exact k
noncomputable abbrev kG(C:Kn->JR)(H:Hp)(xs:JP V)(ts:JP At):Prop:=Lo (λ(v:V) (t:At)=>∃ p,v= .ref p/\dZ C H p t) xs ts
theorem kG.keep {H H':Hp}(s:g6 H H'){xs:JP V}{ts:JP At}(h:kG C H xs ts):kG C H' xs ts:=Gn.Paired.imp2 h λ_ _ ⟨p,e,a⟩=>⟨p,e,a.keep s⟩
theorem kG.same {H H':Hp}(s:bY H H'){xs:JP V}{ts:JP At}(h:kG C H xs ts):kG C H' xs ts:=h.keep (g6.of s)
noncomputable def xf(C:Kn->JR)(i:Kn):Sp:=λvs H Q _=>∃(a:JR) (t:At),vs=[.ref a]/\dZ C H a t/\t.kn=i/\∀ l xs,H l=none->kG C H xs t.kids->Q (.ref l) (upd H l (.lst xs))
theorem C1(i:Kn):da ["self"] ["self"] (cG (mf i)):=by
 cases i<;>exact⟨rfl,rfl,rfl,dkq,rfl,dkq,dkq⟩
theorem y3(M:Mt K C "kids" oG mf f fd)(i:Kn):Binds K (fd i) ["self"] []:=by
 cases i<;>exact(M.F _).binds (ps:=["self"]) λ_ _ _ _ _ _ us J=>match us,J with|[_],_=>rfl
theorem oX:0<=sizeLine:=Ks _
theorem eh:1<=sizeLine:=by rw[Kv];decide
seal cH PS PE PT PA PG PI cT cP in
theorem xq(Cl:Cs K C)(M:Mt K C "kids" oG mf f fd)(i:Kn):bX P w K mg base b7 1 (f i) (fd i) ["self"] (xf C i):=by
 refine(M.F i).ok (C1 i) (λvs H Q E h=>?_) (λcdv A outer s H vs Q E hr h=>?_)
 ·obtain⟨a,t,rfl,_⟩:=h;rfl
 ·obtain⟨a,t,rfl,hA,rfl,k⟩:=h;cases t with
  |word z=>exact⟨_,b5 (cy (eZ bV)),oX,λl J=>k l [] J .nil⟩
  |start z=>exact⟨_,b5 (cy (eZ bV)),oX,λl J=>k l [] J .nil⟩
  |row zs=>exact⟨_,b5 (cy (eZ bV)),oX,λl J=>k l [] J .nil⟩
  |near x y m=>
   obtain⟨dx,p,q,U,hp,I⟩:=hA;exact⟨_,b5 (cy (eZ (bU (df (pv 0) rfl) (bU (df (pv 0) rfl) bV)))),_,rfl,a,C .n,dx,_,_,rfl,U,Cl.cl _,Cl.n1 _,wG p q m,_,rfl,a,C .n,dx,_,_,rfl,U,Cl.cl _,Cl.n2 _,vA p q m,eJ,
    λl J=>k l [.ref p,.ref q] J (.cons ⟨p,rfl,hp⟩ (.cons ⟨q,rfl,I⟩ .nil))⟩
  |both x y=>
   obtain⟨dx,p,q,U,hp,I⟩:=hA;exact⟨_,b5 (cy (eZ (bU (df (pv 0) rfl) (bU (df (pv 0) rfl) bV)))),_,rfl,a,C .b,dx,_,_,rfl,U,Cl.cl _,Cl.n1 _,nu p q,_,rfl,a,C .b,dx,_,_,rfl,U,Cl.cl _,Cl.n2 _,lW p q,eJ,
    λl J=>k l [.ref p,.ref q] J (.cons ⟨p,rfl,hp⟩ (.cons ⟨q,rfl,I⟩ .nil))⟩
  |either x y=>
   obtain⟨dx,p,q,U,hp,I⟩:=hA;exact⟨_,b5 (cy (eZ (bU (df (pv 0) rfl) (bU (df (pv 0) rfl) bV)))),_,rfl,a,C .e,dx,_,_,rfl,U,Cl.cl _,Cl.n1 _,nu p q,_,rfl,a,C .e,dx,_,_,rfl,U,Cl.cl _,Cl.n2 _,lW p q,eJ,
    λl J=>k l [.ref p,.ref q] J (.cons ⟨p,rfl,hp⟩ (.cons ⟨q,rfl,I⟩ .nil))⟩
  |no x=>
   obtain⟨dx,p,U,hp⟩:=hA;exact⟨_,b5 (cy (eZ (bU (df (pv 0) rfl) bV))),_,rfl,a,C .o,dx,_,_,rfl,U,Cl.cl _,Cl.n1 _,wK p,eh,λl J=>k l [.ref p] J (.cons ⟨p,rfl,hp⟩ .nil)⟩
end
end K13
namespace PySem
section
variable {M : Model} {A : K4} {E : JT -> JZ -> Prop} {s : JZ}
theorem Ij{e:JT}{env env':Env}(h:env.frame=env'.frame):L0 e env=L0 e env':=by
 unfold L0 frameOf;rw[h]
theorem CP{base:KP}{env:Env}{outer:JP Env}{L e:JR}{cls a0 fl:JT}{Q:Unit->JZ->Prop}(hfr:A.frames=some (env::outer))(hl:s.heap.FunFrames base (env::outer))(hf:env.frame=some L)
  (ht:s.heap.TracedAtW base e cls a0 fl)(hkb:base.StaysIn s.heap)(hen:base.get? e=none)(h:∀ h',Heap.HeldW base (env::outer) e cls a0 L h'->s.heap.UpToSlots h'->Q () {s with heap:=h'}):
  Kq M A (L0 (.ref e) env) Q E s:=by
 by_cases q:fl=rawInt L
 ·subst q;exact wpAny_noteFrame_againW hf ht (h s.heap ⟨hkb,hen,hl,ht⟩ λb o hb _=>⟨o.slots,hb⟩)
 ·obtain⟨oe,vs,T,oT,ts,he,⟨U,h0⟩,hd,h1,aa,ab,hT,J,h3⟩:=ht;subst U;unfold L0;simp only[hf];refine J8 (OU he hd h1 ?_);rw[J1 (show(Ky T != My)=true from rfl)];refine J8 (OU hT J h3 ?_);rw[if_neg (λz=>q (by simpa using z))];refine J8 (wpAny_setField hT J (Array.getElem?_eq_some_iff.mp h3).1 ?_);have I:∀ b,b≠T->(s.heap.update T (Lg (·.setIfInBounds 3 My))).get? b=s.heap.get? b:=λb hb=>Heap.get?_update_other _ _ (K5 hb)
  have nr:∀ b o,s.heap.get? b=some o->(∀ vs,o.data≠ .fields vs)->b≠T:=λb o hb nf z=>by
   rw[z,hT] at hb;cases hb;exact nf ts J
  exact wpAny_entryW hfr (hl.of_keeps λb o hb nf=>⟨o,(I b (nr b o hb nf)).trans hb,rfl⟩) hf ((I e (K5 ab)).trans he) (λb o hb=>(I b λz=>by rw[z,aa] at hb;cases hb).trans (hkb b o hb)) hen hd
   (Array.getElem?_eq_some_iff.mp h1).1 h0 λh' ⟨x1,x2,x3,x4⟩=>h h' ⟨x1,hen,x2,x3⟩ λb o hb nf=>x4 b o ((I b (nr b o hb nf)).trans hb) nf
end
end PySem
namespace L2
open PySem PySem.Spec PyProof.Rows
noncomputable def su(X:Cx)(E:XK):Prop:=∀(pins:JP (JR×Obj)) (σ:St) (H:Hp) (s:JZ) (J T:JR) (U I:Obj) (vs ts:MM JT) (a0 fl:JT),Inv X pins σ H s->s.heap.get? J=some U->U.data= .fields vs->vs[0]? =some a0->
 vs[1]? =some (.ref T)->T≠J->s.heap.get? T=some I->I.data= .fields ts->ts[3]? =some fl->H J=none->H T=none->X.s₀.heap.get? J=none->X.s₀.heap.get? T=none->E U.cls none H->X.xe (.ref J) s
section
variable {P : Ka} {w : Ku} {K : J7} {mg : Str -> JW JT} {base : KP} {N : JP Str} {qual : Str} {scope : MS} {f : JR} {cdv : JT} {A : K4} {outer : JP Env} {s₀ : JZ} {H₀ : Hp} {E : XK}
theorem EJ:su (eO (dD P w) P w K mg base N qual scope f cdv A outer s₀ H₀ E) E:=by
 intro pins σ H s U T oe oT vs ts a0 fl I he hd h0 h1 aa hT ab h3 nE nT sE sT hE;generalize hB:NV s.heap (U::T::dz (eO (dD P w) P w K mg base N qual scope f cdv A outer s₀ H₀ E).stack)=B;have ff:s.heap.FunFrames B (eO (dD P w) P w K mg base N qual scope f cdv A outer s₀ H₀ E).stack:=by
  rw[<-hB];exact W.funFrames_hide I.stack λenv he b hb=> .tail _ (.tail _ (List.mem_filterMap.mpr ⟨env,he,hb⟩))
 have st:B.StaysIn s.heap:=λb o q=>by rw[<-hB] at q;exact Oz _ q
 have bn:B.get? U=none:=by rw[<-hB];exact OP _ (.head _)
 have tn:B.get? T=none:=by rw[<-hB];exact OP _ (.tail _ (.head _))
 have J:∀{b:JR} {o:Obj},s.heap.get? b=some o->b≠U->b≠T->b∉dz (eO (dD P w) P w K mg base N qual scope f cdv A outer s₀ H₀ E).stack->B.get? b=some o:=λ{b o} e z1 z2 z3=>by
  rw[<-hB];refine W.hideAll_get _ e λz=>?_
  rcases List.mem_cons.mp z with q|q
  ·exact z1 q
  rcases List.mem_cons.mp q with q|q
  ·exact z2 q
  ·exact z3 q
 have hL:∀{b:JR} {o:Obj},s₀.heap.get? b=some o->b∉dz outer->b∉dz (eO (dD P w) P w K mg base N qual scope f cdv A outer s₀ H₀ E).stack:=λ{b o} e hb z=>by
  rcases List.mem_cons.mp (I.stkSub b z) with q|q
  ·have h1:=Kb e
   have h2:s₀.heap.objs.size<=(eO (dD P w) P w K mg base N qual scope f cdv A outer s₀ H₀ E).env.locals:=I.ok.above;rw[q] at h1;exact Kw _ (Km h1 h2)
  ·exact hb q
 have n0:∀{b:JR} {o:Obj},s₀.heap.get? b=some o->b≠U/\b≠T:=λ{b o} e=>
  ⟨λz=>by rw[z] at e;exact absurd (e.symm.trans sE) (by simp),λz=>by rw[z] at e;exact absurd (e.symm.trans sT) (by simp)⟩
 have u0:Un (dz outer) [] H₀ H s₀.heap s.heap:=I.base
 have k1:∀ b o,s₀.heap.get? b=some o->H₀ b=none->b∉dz outer->B.get? b=some o:=λb o e n hb=>J (u0.keep b o e n hb (by simp)) (n0 e).1 (n0 e).2 (hL e hb)
 have k3:∀ b o,s₀.heap.get? b=some o->b∉dz outer->∃ o',B.get? b=some o':=λb o e hb=>by
  obtain⟨o',e'⟩:=u0.there b o e (by simp);exact⟨o',J e' (n0 e).1 (n0 e).2 (hL e hb)⟩
 have k2:∀ b u,H b=some u->∃ o,B.get? b=some o:=λb u e=>by
  obtain⟨o,eo⟩:=(I.hok b u e).at;exact⟨o,J eo (λz=>by rw[z,nE] at e;cases e) (λz=>by rw[z,nT] at e;cases e) λz=>by rw[I.stkFree b z] at e;cases e⟩
 show Kq (Ko P w) (A.deeper (Mz qual scope s₀.heap.objs.size f cdv)) (leaving (Mz qual scope s₀.heap.objs.size f cdv) (.ref U)) _ _ _;unfold leaving;refine J8 (CP I.ok.frames ff rfl ⟨oe,vs,T,oT,ts,he,⟨rfl,h0⟩,hd,h1,tn,aa,hT,ab,h3⟩ st bn λh4 held ae=>?_);refine wpAny_landsW held λh5 af ag=>?_
 obtain⟨c1,c2,⟨_,_,c3⟩,c4⟩:=af;exact⟨U,oe.cls,a0,B,H,rfl,I.os,I.bare,oR rfl u0 k1 k3 I.funs c1 (ae.trans ag),ou I.hok k2 st c1,⟨c1,c2,c3,c4⟩,k1,k3,k2,hE⟩
end
section
variable {X : Cx} {E : XK}
theorem Gr{scope:MS}{N:JP Str}{pins pl:JP (JR×Obj)}{σ σ':St}{H2 He:Hp}{s2 s1:JZ}{hp h':KP}{fp:JP JR}{lo:Obj}
  (I2:Inv X pins σ H2 s2)(f2:∀ b∈fp,iy X pins H2 b)(ehp:hp=s2.heap.push lo)(J:Inv (dH X scope N {s2 with heap:=hp} H2 (s2.heap.objs.size::fp)) pl σ' He s1)
  (hsb:Md hp.objs.size s1.heap h'):Inv X pins σ He {s1 with heap:=h'}:=by
 have hC:hp.objs.size=s2.heap.objs.size+1:=by rw[ehp,Mo]
 have below:∀{b:JR} {o:Obj},s2.heap.get? b=some o->b≠hp.objs.size/\b≠s2.heap.objs.size:=λ{b o} e=>by
  have q:=Kb e;exact⟨by rw[hC];exact Kr (MP q),Kr q⟩
 have up:∀{b:JR} {o:Obj},s2.heap.get? b=some o->hp.get? b=some o:=λe=>by rw[ehp];exact Heap.get?_push_of_some _ e
 have un:Un (dz X.stack) (s2.heap.objs.size::fp) H2 He hp s1.heap:=J.base
 have nD:∀{b:JR} {o:Obj},s2.heap.get? b=some o->b∉fp->b∉s2.heap.objs.size::fp:=λe I z=>(List.mem_cons.mp z).elim (below e).2 I
 have U:He hp.objs.size=none:=J.free
 have u2:Un (dz X.stack) fp H2 He s2.heap h':=by
  refine⟨λb o e n hb I=>?_,λb o e n hb I=>?_,λb o e n I=>?_,λb o e I=>?_,un.tups,un.frzs,un.tbls⟩
  ·exact(hsb.2 b (below e).1).trans (un.keep b o (up e) n hb (nD e I))
  ·obtain⟨sl,q⟩:=un.slot b o (up e) n hb (nD e I);exact⟨sl,(hsb.2 b (below e).1).trans q⟩
  ·exact un.free b o (up e) n (nD e I)
  ·obtain⟨o',q⟩:=un.there b o (up e) (nD e I);exact⟨o',(hsb.2 b (below e).1).trans q⟩
 have hok:eK X.prog X.w He h':=λb u e=>by
  refine(J.hok b u e).stay (λc v hc q=>(hsb.2 c ?_).trans q) (λ_ q=>q) λ_ _ q=>q
  rintro rfl;rcases hc with z|z
  ·rw[<-z,U] at e;cases e
  ·rw[U] at z;cases z
 exact I2.call' (s':={s1 with heap:=h'}) (ch:=fp) J.os u2 hok J.bare λb hb=>by
  obtain⟨f0,f1,f3,f4,f5,f6⟩:=f2 b hb;exact⟨f4,f1,f5,f6⟩
noncomputable abbrev rh(X:Cx)(scope:MS)(C:JR)(use:JW (JT->Sem Unit))(Qf:JT->JZ->Prop)(acc:JT):JT->JZ->Prop:=
 notedBy (Ko X.prog X.w) X.A (OT scope (gP X.env scope.names []) C X.env) λx s'=>O8 (Ko X.prog X.w) X.A X.xe use Qf acc C (.error x) s'
theorem Br{scope:MS}{N:JP Str}{pins:JP (JR×Obj)}{σ:St}{H2:Hp}{s2:JZ}{hp:KP}{fp:JP JR}{lo:Obj}{use:JW (JT->Sem Unit)}{Qf:JT->JZ->Prop}{acc:JT}
  (hex:X.ex=[])(hstk:X.stack=X.env::X.outer)(hfr:X.env.frame=some X.env.locals)(hR:su X E)(I2:Inv X pins σ H2 s2)(f2:∀ b∈fp,iy X pins H2 b)(ehp:hp=s2.heap.push lo):
  Passes (dD X.prog X.w) ((dH X scope N {s2 with heap:=hp} H2 (s2.heap.objs.size::fp)).wish (rh X scope hp.objs.size use Qf acc)) E:=by
 intro aa ai Hc sc e s' J h;obtain⟨I,cls,a0,B,H',rfl,os,bare,un,hok,fl,k1,k3,k2,hE⟩:=h;show Kq (Ko X.prog X.w) X.A (L0 (.ref I) (OT scope (gP X.env scope.names []) hp.objs.size X.env)) _ _ s';have az:L0 (.ref I) (OT scope (gP X.env scope.names []) hp.objs.size X.env)=L0 (.ref I) X.env:=Ij rfl;rw[az];have aj:Un (dz X.stack) [] Hc H' sc.heap s'.heap:=un;have ab:NS B X.stack I cls a0 s'.heap:=fl;have aA:NS B (X.env::X.outer) I cls a0 s'.heap:=hstk ▸ ab;have aB:X.A.frames=some (X.env::X.outer):=hstk ▸ I2.ok.frames;refine wpAny_looks_onW aB hfr aA λU held ak=>?_
 obtain⟨b1,b2,b3,oe,vs,T,oT,ts,he,⟨ao,h0⟩,hd,h1,af,aq,hT,ae,h3⟩:=held;subst ao;have up:∀{b:JR} {o:Obj},s2.heap.get? b=some o->hp.get? b=some o:=λe=>by rw[ehp];exact Heap.get?_push_of_some _ e
 have J4:Inv ((dH X scope N {s2 with heap:=hp} H2 (s2.heap.objs.size::fp)).wish (rh X scope hp.objs.size use Qf acc)) aa ai H' {s' with heap:=U}:=
  J.call' (s':={s' with heap:=U}) (ch:=[]) os (oR rfl aj k1 k3 ab.2.2.1 b1 ak) (ou hok k2 ab.1 b1) bare λb z=>absurd z (by simp)
 obtain⟨m,hn,_⟩:=J4.loc;refine⟨m,hn,λh' ag ar aC=>?_⟩;have fld:∀{b:JR} {o:Obj} {us:MM JT},U.get? b=some o->o.data= .fields us->b∉dz X.stack:=λ{b o us} e d z=>by
  obtain⟨_,o',au,nf⟩:=(hstk ▸ b3:U.FunFrames B X.stack).mem z;rw[e] at au;cases au;exact nf us d
 have av:∃ o,B.get? hp.objs.size=some o:=by
  obtain⟨mC,aD,_⟩:=J.loc;obtain⟨oC,eC⟩:∃ o,sc.heap.get? hp.objs.size=some o:=by
   obtain⟨o,_,_,e,_⟩:=aD;exact⟨o,e⟩
  refine k3 _ oC eC λz=>?_
  obtain⟨_,o,ho,_⟩:=I2.stack.mem z;have:=Kb ho;rw[ehp,Mo] at this;exact Kw _ (Nat.lt_trans (LJ _) this)
 have aE:T≠hp.objs.size:=λz=>by obtain⟨o,e⟩:=av;rw[<-z,af] at e;cases e
 have aF:I≠hp.objs.size:=λz=>by obtain⟨o,e⟩:=av;rw[<-z,b2] at e;cases e
 have ah:h'.get? I=some oe:=(ag.2 I aF).trans he
 have aw:h'.get? T=some oT:=(ag.2 T aE).trans hT
 have z3:3<ts.size:=(Array.getElem?_eq_some_iff.mp h3).1;unfold PySem.passOn;refine J8 (OU ah hd h1 ?_);rw[if_neg (show ¬ ((Ky T==My)=true) from by simp)];unfold Ov;refine J8 (J8 (OU ah hd h1 ?_));rw[J1 (show(Ky T != My)=true from rfl)];refine wpAny_setField aw ae z3 (wpAny_throw ?_);generalize hv:(ar.frame.elim My λf=>rawInt f)=v;have o4:∀ b,b≠T->(U.update T (Lg (·.setIfInBounds 3 v))).get? b=U.get? b:=λb hb=>Heap.get?_update_other _ _ (K5 hb)
 have o':∀ b,b≠T->(h'.update T (Lg (·.setIfInBounds 3 v))).get? b=h'.get? b:=λb hb=>Heap.get?_update_other _ _ (K5 hb)
 have fz:(Lg (·.setIfInBounds 3 v) oT).isFreed=false:=Obj.isFreed_of_fields (Obj.data_mapFields ae _)
 have s4:(U.update T (Lg (·.setIfInBounds 3 v))).get? T=some (Lg (·.setIfInBounds 3 v) oT):=Heap.get?_update_self _ hT fz
 have s6:(h'.update T (Lg (·.setIfInBounds 3 v))).get? T=some (Lg (·.setIfInBounds 3 v) oT):=Heap.get?_update_self _ aw fz
 have ax:B.StaysIn (U.update T (Lg (·.setIfInBounds 3 v))):=λb o q=>(o4 b λz=>by rw[z,af] at q;cases q).trans (b1 b o q)
 have aG:s'.heap.UpToSlots (U.update T (Lg (·.setIfInBounds 3 v))):=λb o q nf=>by
  obtain⟨sl,e⟩:=ak b o q nf;refine⟨sl,(o4 b λz=>?_).trans e⟩;rw[z,hT] at e;cases e;exact nf ts ae
 have J6:Inv ((dH X scope N {s2 with heap:=hp} H2 (s2.heap.objs.size::fp)).wish (rh X scope hp.objs.size use Qf acc)) aa ai H' {s' with heap:=U.update T (Lg (·.setIfInBounds 3 v))}:=
  J.call' (s':={s' with heap:=U.update T (Lg (·.setIfInBounds 3 v))}) (ch:=[]) os (oR rfl aj k1 k3 ab.2.2.1 ax aG) (ou hok k2 ab.1 ax) bare λb z=>absurd z (by simp)
 have ay:Md hp.objs.size (U.update T (Lg (·.setIfInBounds 3 v))) (h'.update T (Lg (·.setIfInBounds 3 v))):=by
  refine⟨?_,λb hb=>?_⟩
  ·rw[Heap.size_update,Heap.size_update];exact ag.1
  ·by_cases z:b=T
   ·rw[z,s4,s6]
   ·rw[o4 b z,o' b z];exact ag.2 b hb
 have IX:Inv X pins σ H' {s' with heap:=h'.update T (Lg (·.setIfInBounds 3 v))}:=Gr (s1:={s' with heap:=U.update T (Lg (·.setIfInBounds 3 v))}) I2 f2 ehp J6.unwish ay
 have gone:∀{b:JR} {o:Obj} {us:MM JT},U.get? b=some o->o.data= .fields us->B.get? b=none->X.s₀.heap.get? b=none:=λ{b o us} e d n=>by
  cases q:X.s₀.heap.get? b with
  |none=>rfl
  |some ob=>
   obtain⟨o2,e2⟩:=I2.base.there b ob q (by rw[hex];simp);have nx:b∉s2.heap.objs.size::fp:=λz=>by
    rcases List.mem_cons.mp z with z|z
    ·exact absurd (Kb e2) (by rw[z];exact Kw _)
    ·rcases(f2 b z).2.2.2.1 with z2|z2
     ·rw[hex] at z2;simp at z2
     ·exact absurd (Kb q) (Nat.not_lt.mpr z2)
   obtain⟨o3,e3⟩:=J.base.there b o2 (up e2) nx;obtain⟨o5,e5⟩:=k3 b o3 e3 (fld e d);rw[n] at e5;cases e5
 have nE:H' I=none:=by
  cases q:H' I with
  |none=>rfl
  |some u=>obtain⟨o,e⟩:=k2 I u q;rw[b2] at e;cases e
 have nT:H' T=none:=by
  cases q:H' T with
  |none=>rfl
  |some u=>obtain⟨o,e⟩:=k2 T u q;rw[af] at e;cases e
 exact hR pins σ H' _ I T oe _ vs _ a0 v IX ((o' I (K5 aq)).trans ah) hd h0 h1 aq s6 (Obj.data_mapFields ae _) (by simp[z3]) nE nT (gone he hd b2) (gone hT ae af) hE
end
section
variable {prog : Ka} {w : Ku} {A : K4} {R : Result -> JZ -> Prop} {s : JZ}
theorem CZ{elt target iter:KI}{ifs:JP KI}{scope:MS}{pos:Pos}{it acc:JT}{env:Env}(I:Nat->JZ->Prop)
  (turn:∀ n s,I n s->Kq (Ko prog w) A (pyNext it) (λr s₁=>match r with
   |none=>R (.ok .next) s₁
   |some v=>Kq (Ko prog w) A (Nc target it v) (λ_ s₀=>Kq (Ko prog w) A (assign target env v) (λ_ s₂=>
     Kq (Ko prog w) A (forIn ifs true λc r=>if r=true then do let ok<-isTrue c env (eval c env);pure (LQ ok) else pure (LQ r)) (λok s₃=>
      if ok=true then Kq (Ko prog w) A (eval elt env) (λx s₄=>
       Kq (Ko prog w) A (call (.builtin "list.append") [acc,x]) (λ_ s₅=>∃ m,m<n/\I m s₅) (λ_ _=>LG) s₄) (notedBy (Ko prog w) A env λx s'=>R (.error x) s') s₃
      else ∃ m,m<n/\I m s₃) (λ_ _=>LG) s₂) (λ_ _=>LG) s₀) (λ_ _=>LG) s₁) (λ_ _=>LG) s)
  (n:Nat)(h:I n s):
  Nz (Ko prog w) A (.compLoop (.ListComp elt [⟨target,iter,ifs,0⟩] scope pos) 0 it acc env) R s:=by
 refine codeAny_loop rfl I (λn s hI=>?_) n h;show Kq _ A ((compTurn (.ListComp elt [⟨target,iter,ifs,0⟩] scope pos) 0 it acc env).onRaise (λx=>do L0 x env;theTreesLotGoes x)) _ _ s;refine wpAny_noted ?_;rw[compTurn_list];refine J8 (MH (J8 (KY (turn n s hI) (λr s₁ J=>?_) λ_ _ h'=>h'.elim)));cases r with
 |none=>exact KN J
 |some v=>
  refine J8 (KY J (λ_ s₀ h₀=>?_) λ_ _ h'=>h'.elim);refine J8 (KY h₀ (λ_ s₂ aa=>J8 (KY aa (λok s₃ U=>?_) λ_ _ h'=>h'.elim)) λ_ _ h'=>h'.elim);cases ok with
  |false=>exact KN ⟨rfl,U⟩
  |true=>
   exact J8 (J8 (KY U (λx s₄ ab=>J8 (KY ab (λ_ s₅ ae=>KN (KN ⟨rfl,ae⟩)) λ_ _ h'=>h'.elim)) λ_ _ h'=>h'))
end
section
variable {X : Cx}
theorem Hl{elt target iter:KI}{ifs:JP KI}{scope sc0:MS}{pos:Pos}{N N0:JP Str}{own:Nat}{caps:JP Nat}{wi:TI}{g:TG}{tc:TT}{te:TE}
  (hcalm:X.calm=true)(hi:PI X target iter wi)
  (hg:∀ s₀ H₀ ex,PG (dH X scope N s₀ H₀ ex) target g)(hc:∀ s₀ H₀ ex,cP (dH X scope N s₀ H₀ ex) ifs tc){E:XK}(hex:X.ex=[])(hstk:X.stack=X.env::X.outer)(hfr:X.env.frame=some X.env.locals)(hRT:su X E)(he:∀ s₀ H₀ ex xe,Passes (dD X.prog X.w) ((dH X scope N s₀ H₀ ex).wish xe) E->PE ((dH X scope N s₀ H₀ ex).wish xe) elt te)(hk:oB own g)
  (hX:X.N=N0)(hsc:X.env.scope=sc0)
  (hcell:∀ y∈scope.names,y.2≠ .cell)(hkind:scope.kind= .function)(hnames:∀ y∈scope.names,y.2= .local->scope.names.lookup y.1=some .local)
  (hfree:∀ y∈scope.names,y.2= .free->sc0.names.lookup y.1=some .cell)(hN:N.length=own+caps.length)
  (hcap:∀ p∈caps.zip (N.drop own),N0[p.1]? =some p.2/\scope.names.lookup p.2=some .free)
  (hs:∀ x,Me iter X.env x=pure x)
  {use:JW (JT->Sem Unit)}{Qf:JT->JZ->Prop}{pins:JP (JR×Obj)}{s:JZ}{σ:St}{H:Hp}{Q:VK}{cpos:Pos}(I:Inv X pins σ H s)(h:pO own caps wi g tc te σ H Q)
  (hR:∀(D C:JR) (s':JZ) (He:Hp) (ys:JP V) (m:Str->JW JT) (f:Flow),s'.heap.Ns C m->(∀ h',Md C s'.heap h'->Inv X pins σ (upd He D (.lst ys)) {s' with heap:=h'})->
   iy X pins (upd He D (.lst ys)) C->Q (.ref D) (upd He D (.lst ys))->O8 (Ko X.prog X.w) X.A X.xe use Qf (.ref D) C (.ok f) s'):
  Kq (Ko X.prog X.w) X.A (comprehension (.ListComp elt [⟨target,iter,ifs,0⟩] scope pos) scope X.env cpos (newList []) false (eval iter X.env) use) Qf X.xe s:=by
 have ab:∀ y∈scope.names,y.2= .free->X.env.kindOf y.1=some .cell:=λy hy e=>by
  show X.env.scope.names.lookup y.1=some .cell;rw[hsc];exact hfree y hy e
 refine wpAny_comprehension_free (use:=use) rfl hs (zN λy hy e=>I.ok.has y.1 (.inl (ab y hy e))) hkind hnames ?_;refine cv (hi pins s σ H _ I h) λv s1 h1=>cv h1 λaZ s2 h2=>?_
 obtain⟨it,fp,tn,J,H2,e,I2,T,aC,f2,W,⟨m0,w0⟩,turn⟩:=h2;subst e;refine MN (wpAny_newFunctionEnv hcell (by intro y hy;simp at hy) (λak af ag=>?_) hkind);dsimp only at af ag ⊢;generalize ah:s2.heap.push {cls:= .type "list",dict:=none,data:= .seq ([]:JP JT).toArray}=hp at af ag ⊢;have hC:hp.objs.size=s2.heap.objs.size+1:=by rw[<-ah,Mo]
 have ai:s2.heap.objs.size≠hp.objs.size:=by rw[hC];exact Kr (LJ _)
 have av:hp.get? s2.heap.objs.size=some {cls:= .type "list",data:= .seq ([]:JP JT).toArray}:=by rw[<-ah];exact Heap.get?_push_size _ rfl
 have up:∀{b:JR} {o:Obj},s2.heap.get? b=some o->hp.get? b=some o:=λe=>by rw[<-ah];exact Heap.get?_push_of_some _ e
 have up1:∀{b:JR} {o:Obj},hp.get? b=some o->ak.get? b=some o:=λ{b o} e=>ag.extBut b o (Kr (Kb e)) (Heap.get?_push_of_some _ e)
 have aB:∀{b:JR} {o:Obj},s2.heap.get? b=some o->b<s2.heap.objs.size:=λe=>Kb e
 have aQ:∀ b∈fp,∃ o,s2.heap.get? b=some o:=λb hb=>by obtain⟨o,e,_⟩:=T.obj 0 _ aC b hb;exact⟨o,e⟩
 have aw:∀ b∈fp,b≠hp.objs.size/\b≠s2.heap.objs.size:=λb hb=>by
  obtain⟨o,e⟩:=aQ b hb;have q:=aB e;exact⟨by rw[hC];exact Kr (MP q),Kr q⟩
 have aa:∀{x:Str} {c:JR},(gP X.env scope.names []).lookup x=some c->X.env.cells.lookup x=some c/\X.env.kindOf x=some .cell:=λ{x c} q=>by
  rcases uN q with z|⟨z,e⟩
  ·cases z
  ·have k:=ab _ z rfl;obtain⟨c',ao⟩:=I2.ok.has x (.inl k);rw[ao] at e;have e':c=c':=e;subst e';exact⟨ao,k⟩
 have aj:∀{x:Str} {c:JR},(gP X.env scope.names []).lookup x=some c->c<s2.heap.objs.size:=λq=>by
  obtain⟨v,z⟩:=I2.cell _ _ (aa q).1;exact z.lt
 have aq:∀ b∈dz X.stack,b<s2.heap.objs.size:=λb hb=>by
  obtain⟨_,o,ho,_⟩:=I2.stack.mem hb;exact Kb ho
 have aR:(dH X scope N {s2 with heap:=hp} H2 (s2.heap.objs.size::fp)).Ok:=by
  refine⟨I2.ok.mod,hkind,I2.ok.glob,I2.ok.blt,JY _,λx y c q1 q2=>I2.ok.inj x y c (aa q1).1 (aa q2).1,λx hx=>?_,(λx c z=>by cases z),I2.ok.hd,I2.ok.frames,.inl rfl,λb hb=>?_,λb o q=>⟨up (I2.bs b o q).1,(I2.bs b o q).2⟩,?_,λb o q hb=>?_,λb hb=>?_,?_,λb hb=>I2.stkFree b hb⟩
  ·rcases hx with hx|hx
   ·exact mH (.inl (pF (env:=X.env) hcell (.inl rfl) hx))
   ·exact mH (.inl (pF (env:=X.env) hcell (.inr rfl) hx))
  ·rcases List.mem_cons.mp hb with rfl|hb
   ·exact⟨by show s2.heap.objs.size≠hp.objs.size;exact ai,λx c q=>Kr (aj q)⟩
   ·exact⟨(aw b hb).1,λx c q=>(f2 b hb).2.2.2.2.1 x c (aa q).1⟩
  ·show X.base.objs.size<=hp.objs.size;rw[hC];exact Kz (Kj I2.ok.bsz I2.sz)
  ·rcases List.mem_cons.mp hb with rfl|hb
   ·exact Kw _ (aB (I2.bs _ o q).1)
   ·rcases(f2 b hb).2.2.2.1 with z|z
    ·exact I2.ok.noex b o q z
    ·exact Kw _ (Km (Kb (I2.ok.bs b o q).1) z)
  ·intro z;rcases List.mem_cons.mp hb with rfl|hb
   ·exact Kw _ (aq _ z)
   ·rcases List.mem_cons.mp (I2.stkSub b z) with q|q
    ·exact(f2 b hb).2.1 q
    ·exact(f2 b hb).2.2.1 q
  ·show hp.FunFrames X.base X.stack;exact I2.stack.of_keeps λb o q _=>⟨o,up q,rfl⟩
 have len0:(gX own caps σ).length=N.length:=by unfold gX;rw[JU,Ma,JX,hN]
 have I0:Inv (dH X scope N {s2 with heap:=hp} H2 (s2.heap.objs.size::fp)) [] (gX own caps σ) H2 {s2 with heap:=ak,toks:=s2.toks+([]:JP (Str×JT)).length}:=by
  refine⟨aR,rfl,I2.bare,Un.kept λb o q=>up1 q,⟨_,af,λi x v e1 e2 e3=>?_⟩,λx c q=>?_,I2.hok.fresh (by show s2.heap.objs.size<=hp.objs.size;rw[hC];exact MU _),λx c q=>I2.freeC x c (aa q).1,λp ae=>absurd (show p∈([]:JP (JR×Obj)) from ae) (by simp),I2.hok.kept λb o q=>up1 (up q),len0⟩
  ·
   unfold gX at e2;by_cases aJ:i<own
   ·rw[List.getElem?_append_left (by simpa using aJ),List.getElem?_replicate] at e2;split at e2<;>cases e2
   ·rw[List.getElem?_append_right (by simpa using aJ),Ma,List.getElem?_map] at e2;cases ec:caps[i-own]? with
    |none=>rw[ec] at e2;cases e2
    |some j=>
     rw[ec] at e2;have ar:(σ[j]?).join=some v:=Kg e2;have aK:σ[j]? =some (some v):=by
      cases q:σ[j]? with
      |none=>rw[q] at ar;cases ar
      |some z=>rw[q] at ar;exact K9 some ar
     have hx:(N.drop own)[i-own]? =some x:=by
      rw[List.getElem?_drop];have:own+(i-own)=i:=by(clear aK ar ec e2 e1 len0 av ai hC ah hN hkind hsc hX hcalm;omega)
      rw[this];exact e1
     have hz:(caps.zip (N.drop own))[i-own]? =some (j,x):=by
      rw[List.getElem?_zip_eq_some];exact⟨ec,hx⟩
     obtain⟨hj,hf⟩:=hcap _ (List.mem_of_getElem? hz);rw[<-hX] at hj;have aL:(x,K2)∈scope.names:=LO hf;have aD:=ab _ aL rfl;obtain⟨m,hn,hl⟩:=I2.loc;obtain⟨u,ru,lk⟩:=hl j x v hj aK (.inr (.inl aD));refine⟨u,ru,.inr ⟨.inl (wa I2.ok.kind hf aD),?_⟩⟩;obtain⟨c,ao⟩:=mH (env:=X.env) (cs:=[]) (.inl aL);have aS:=(aa ao).1;rcases lk with ⟨z,_⟩|⟨_,c2,aM,ax⟩
     ·rw[aD] at z;cases z
     ·rw[aS] at aM;cases aM;obtain⟨oc,aE,aF⟩:=ax;exact⟨c,ao,oc,up1 (up aE),aF⟩
  ·obtain⟨v,oc,aE,aF⟩:=I2.cell x c (aa q).1;exact⟨v,oc,up1 (up aE),aF⟩
 have aN:∀{ay:St} {H':Hp} {s':JZ} {U:JP JT} {na:Nat},Inv (dH X scope N {s2 with heap:=hp} H2 (s2.heap.objs.size::fp)) [] ay H' s'->H' s2.heap.objs.size=none->
   s'.heap.get? s2.heap.objs.size=some {cls:= .type "list",data:= .seq U.toArray na}->
   Inv (dH X scope N {s2 with heap:=hp} H2 (s2.heap.objs.size::fp)) [(s2.heap.objs.size,{cls:= .type "list",data:= .seq U.toArray na})] ay H' s':=λ{ay H' s' U na} I' hn hd=>I'.pins_of λp ae=>by
  have e:p=(s2.heap.objs.size,{cls:= .type "list",data:= .seq U.toArray na}):=by simpa using ae
  subst e;exact⟨hd,hn,ai,λz=>Kw _ (aq _ z),λv z=>nomatch z⟩
 have aO:∀{H':Hp} {pl:JP (JR×Obj)},(∀ b∈fp,H' b=none)->(∀ p∈pl,p.1=s2.heap.objs.size)->∀ b∈fp,iy (dH X scope N {s2 with heap:=hp} H2 (s2.heap.objs.size::fp)) pl H' b:=λhn aT b hb=>by
  refine⟨hn b hb,(aw b hb).1,λz=>?_,.inl (J0 _ hb),λx c q=>(f2 b hb).2.2.2.2.1 x c (aa q).1,λp ae z=>?_⟩
  ·rcases List.mem_cons.mp (I2.stkSub b z) with q|q
   ·exact(f2 b hb).2.1 q
   ·exact(f2 b hb).2.2.1 q
  ·exact(aw b hb).2 (z.symm.trans (aT p ae))
 have loop:∀ au:JZ,au={s2 with heap:=ak,toks:=s2.toks+([]:JP (Str×JT)).length}->
   Nz (Ko X.prog X.w) X.A (.compLoop (.ListComp elt [⟨target,iter,ifs,0⟩] scope pos) 0 (.ref it) (.ref s2.heap.objs.size) (OT scope (gP X.env scope.names []) hp.objs.size X.env))
    (O8 (Ko X.prog X.w) X.A X.xe use Qf (.ref s2.heap.objs.size) hp.objs.size) au:=by
  rintro au rfl;refine CZ (λn s'=>∃ i ys U na H',Inv (dH X scope N {s2 with heap:=hp} H2 (s2.heap.objs.size::fp)) [] (gX own caps σ) H' s'/\tn i s'.heap/\(∀ b∈fp,H' b=none)/\H' s2.heap.objs.size=none/\
   Vals ys U/\s'.heap.get? s2.heap.objs.size=some {cls:= .type "list",data:= .seq U.toArray na}/\W i n ys H') ?_ m0
   ⟨0,[],[],0,H2,I0,T.keep _ _ _ aC λb _ o q=>up1 (up q),λb hb=>(f2 b hb).1,I2.hok.fresh (JY _),.nil,up1 av,w0⟩;rintro n s3 ⟨i,ys,U,na,H3,I3,aP,aU,aG,az,aH,w3⟩;have Ip:=aN I3 aG aH;have f3:=aO (H':=H3) (pl:=[(s2.heap.objs.size,{cls:= .type "list",data:= .seq U.toArray na})]) aU rG;rcases turn i n ys H3 w3 with ⟨stop,hz,fin⟩|⟨go,hz,step⟩
  ·refine cv (T.done (dH X scope N {s2 with heap:=hp} H2 (s2.heap.objs.size::fp)) rfl rfl rfl hcalm i _ s3 _ H3 _ Ip f3 aP stop) λr s4 ⟨hr,I4⟩=>?_
   subst hr;obtain⟨m,hn,_⟩:=I4.loc;exact hR _ _ _ _ ys m _ hn (λh' aV=>zu I2 f2 ah.symm I4 aV az hz) (I2.fpOk (by rw[hC];exact MU _) (by rw[cF (K5 ai)];exact I4.free)) (fin _ (I4.pin _ (Ki _ KG)).2.1)
  ·refine cv (T.item (dH X scope N {s2 with heap:=hp} H2 (s2.heap.objs.size::fp)) rfl rfl rfl hcalm i _ s3 _ H3 _ Ip f3 aP go) λr s4 ⟨u,hr,h4⟩=>?_
   subst hr;refine cv h4 λ_ s5 ⟨x,H5,I5,r5,y5,aI,aW⟩=>?_
   have aX:=I5.pinned (aO (H':=H5) (pl:=[(s2.heap.objs.size,{cls:= .type "list",data:= .seq U.toArray na})]) aW rG) (T.obj _ _ aI);refine cv (hg _ _ _ _ s5 _ H5 x u _ aX r5 (hk x _ H5 _ _ (step x H5 y5) λay H' q l k=>(⟨q,l,k⟩:_/\_/\_))) λ_ s6 ⟨aA,H6,I6,q6,l6,k6⟩=>?_
   refine cv (hc _ _ _ _ s6 aA H6 _ I6 q6) λok s7 ⟨H7,I7,q7⟩=>?_
   have weak:∀{H':Hp} {s':JZ} {pl:JP (JR×Obj)},Inv (dH X scope N {s2 with heap:=hp} H2 (s2.heap.objs.size::fp)) pl aA H' s'->Inv (dH X scope N {s2 with heap:=hp} H2 (s2.heap.objs.size::fp)) pl (gX own caps σ) H' s':=λI'=>
    I'.weak l6.symm λj v e=>k6 j v (by
     by_cases hj:j<own
     ·unfold gX at e;rw[List.getElem?_append_left (by simpa using hj),List.getElem?_replicate] at e;split at e<;>cases e
     ·(clear e l6 hz aH aG len0 av ai hC ah hN hkind hsc hX hcalm;omega)) e
   have after:∀{H':Hp} {s':JZ},Inv (dH X scope N {s2 with heap:=hp} H2 (s2.heap.objs.size::fp)) ([(s2.heap.objs.size,{cls:= .type "list",data:= .seq U.toArray na})]++nA fp s5.heap) aA H' s'->
     tn (i+1) s'.heap/\(∀ b∈fp,H' b=none)/\H' s2.heap.objs.size=none/\s'.heap.get? s2.heap.objs.size=some {cls:= .type "list",data:= .seq U.toArray na}:=λI'=>by
    refine⟨T.keep _ _ _ aI λb hb o e=>(I'.pin (b,o) (Ki _ (Ki _ (oJ hb e)))).1,λb hb=>?_,?_,?_⟩
    ·obtain⟨o,e,d⟩:=T.obj _ _ aI b hb;exact(I'.pin (b,o) (Ki _ (Ki _ (oJ hb e)))).2.1
    ·exact(I'.pin _ (Ki _ (Ll _ KG))).2.1
    ·exact(I'.pin _ (Ki _ (Ll _ KG))).1
   cases ok with
   |false=>
    rw[if_neg J3];obtain⟨m',hm,w7⟩:=(show ∃ m',m'<n/\W (i+1) m' ys H7 by rw[if_neg J3] at q7;exact q7);obtain⟨a1,a2,a3,a4⟩:=after I7;exact⟨m',hm,i+1,ys,U,na,H7,(weak I7).pins_of (λp ae=>absurd ae (by simp)),a1,a2,a3,az,a4,w7⟩
   |true=>
    rw[J1 rfl];rw[J1 rfl] at q7;refine cv (he _ _ _ (rh X scope hp.objs.size use Qf (.ref s2.heap.objs.size)) (Br hex hstk hfr hRT I2 f2 ah.symm) _ s7 aA H7 _ (I7.wish _) q7) λyv s8 ⟨y,H8,aY,r8,m',hm,w8⟩=>?_
    have I8:=aY.unwish;obtain⟨a1,a2,a3,a4⟩:=after I8;have hl:=az.length;refine MY KO ⟨_,a4,rfl⟩ NP (ND _ _) (Oc s2.heap.objs.size U.toArray na yv (by rw[Kk];(clear a4 a3 hm l6 aH aG len0 av ai hC ah hN hkind hsc hX hcalm;omega))) ⟨a4,?_⟩;have I9:Inv (dH X scope N {s2 with heap:=hp} H2 (s2.heap.objs.size::fp)) [] (gX own caps σ) H8 s8:=(weak I8).pins_of (λp ae=>absurd ae (by simp));have q:(s8.heap.update s2.heap.objs.size (Nw (·.push yv))).get? s2.heap.objs.size=some {cls:= .type "list",data:= .seq (U++[yv]).toArray (na+1)}:=by
     have q:=Ot a4 (·.push yv);simpa using q
    refine⟨m',hm,i+1,ys++[y],U++[yv],na+1,H8,I9.turned (it:=s2.heap.objs.size) (t':=s8.toks) (λb o hb e=>?_) a3 (ai) (.inl KG) (λx c z=>Kr (aj z)) (λp ae=>absurd (show p∈([]:JP (JR×Obj)) from ae) (by simp)),?_,a2,a3,az.append (.cons r8 .nil),q,w8⟩
    ·rw[Heap.get?_update_other _ _ (K5 hb)];exact e
    ·exact T.keep _ _ _ a1 λb hb o e=>by rw[Heap.get?_update_other _ _ (K5 (aw b hb).2)];exact e
 exact codeAny_compStart_list (loop _ rfl) (T.self _ 0 _ _ _ (T.keep _ _ _ aC λb _ o q=>up1 (up q)) (loop _ rfl))
theorem BE{elt target iter:KI}{ifs:JP KI}{scope sc0:MS}{pos:Pos}{N N0:JP Str}{own:Nat}{caps:JP Nat}{wi:TI}{g:TG}{tc:TT}{te:TE}
  (hcalm:X.calm=true)(hi:PI X target iter wi)
  (hg:∀ s₀ H₀ ex,PG (dH X scope N s₀ H₀ ex) target g)(hc:∀ s₀ H₀ ex,cP (dH X scope N s₀ H₀ ex) ifs tc){E:XK}(hex:X.ex=[])(hstk:X.stack=X.env::X.outer)(hfr:X.env.frame=some X.env.locals)(hRT:su X E)(he:∀ s₀ H₀ ex xe,Passes (dD X.prog X.w) ((dH X scope N s₀ H₀ ex).wish xe) E->PE ((dH X scope N s₀ H₀ ex).wish xe) elt te)(hk:oB own g)
  (hX:X.N=N0)(hsc:X.env.scope=sc0)
  (hcell:∀ y∈scope.names,y.2≠ .cell)(hkind:scope.kind= .function)(hnames:∀ y∈scope.names,y.2= .local->scope.names.lookup y.1=some .local)
  (hfree:∀ y∈scope.names,y.2= .free->sc0.names.lookup y.1=some .cell)(hN:N.length=own+caps.length)
  (hcap:∀ p∈caps.zip (N.drop own),N0[p.1]? =some p.2/\scope.names.lookup p.2=some .free)
  (hs:∀ x,Me iter X.env x=pure x:=by intro _;rfl):
  PE X (.ListComp elt [⟨target,iter,ifs,0⟩] scope pos) (pO own caps wi g tc te):=by
 intro pins s σ H Q I h;rw[eval_ListComp];exact Hl hcalm hi hg hc hex hstk hfr hRT he hk hX hsc hcell hkind hnames hfree hN hcap hs I h λD C s' He ys m f hn U _ q=>⟨m,hn,λh' J=>⟨.ref D,_,U h' J,rfl,q⟩⟩
end
end L2
namespace K13
open PySem L2 PyProof.Rows PySem.Spec Gn K01
section
variable {P : Ka} {w : Ku} {K : J7} {mg : Str -> JW JT} {base : KP} {C : Kn -> JR} {CB d : JR}
noncomputable def uv(K:Kl)(CB:JR):Sp:=λvs H Q E=>∃ x,vs=[x]/\Known K H x/\sP x/\(iT 2000 x=true->∀ H',bY H H'->Q x H')/\(iT 2000 x=false->∀ H',bY H H'->E (.ref CB) none H')
theorem D9:da ["thing"] ["thing"] (cG nP):=⟨rfl,rfl,rfl,dkq,rfl,dkq,dkq⟩
seal cH PS PE PT PA PG PI cT cP in
theorem IJ{f ft:JR}{fd fdt:J2}(D:Df K mg "asked_word" nP f fd)(DT:Df K mg "is_word" pL ft fdt)(X:Ex K mg "BadAsk" CB)(GT:bX P w K mg base b7 2 ft fdt ["thing"] (xA K 2000)):
  bX P w K mg base (dD P w) 3 f fd ["thing"] (uv K CB):=by
 have U:=dY (p:="thing") DT.F λ_ _ _ _ _ _ _=>rfl
 refine D.F.ok1 D9 (λvs H Q E h=>?_) (λcdv A outer s H vs Q E I h=>?_)
 ·obtain⟨x,rfl,_⟩:=h;rfl
 ·obtain⟨x,rfl,hk,J,k1,k2⟩:=h;refine⟨_,b9 (cM (gF (fZ (cQ GT I rfl DT.m DT.F.kp U .nil cz (bU (pv 0) bV)))) (b5 (kW rfl X.q Kx dkq Kx rfl X.m (bU b8 bV) kU)) cY)
   (b5 (cy (pv 0))),?_⟩;refine⟨_,rfl,x,rfl,hk,J,λH' sm=>⟨_,rfl,?_⟩⟩;cases hx:iT 2000 x with
  |false=>exact cg ⟨eh,k2 hx H' sm⟩
  |true=>exact cj ⟨_,rfl,k1 hx H' sm⟩
noncomputable def gb:JP (Key×V):=[(.inr "word",.int 2),(.inr "start",.int 2),(.inr "row",.int 2),(.inr "near",.int 4),(.inr "both",.int 3),(.inr "either",.int 3),(.inr "not",.int 2)]
noncomputable def gN:Kf->JW Str
 |.tuple (.str z::ds)=>if eM gb (.inr z)=some (.int ((ds.length+1:Nat):Int)) then some z else none
 |_=>none
theorem FH(k:Key):eM gb k=none\/∃ i,eM gb k=some (.int i):=by
 cases h:eM gb k with
 |none=>exact .inl rfl
 |some v=>
  refine .inr ?_;unfold eM gb at h;simp only[List.find?_cons,List.find?_nil] at h
  repeat' split at h
  all_goals first|(simp at h;exact⟨_,by rw[<-h]⟩)|(simp at h)
noncomputable def Fx:Kf->KS
 |.tuple _=>true
 |_=>false
noncomputable def JB:Kf->KS
 |.str _=>true
 |_=>false
theorem yn(d:Kf):Lw K (.type (tY d)) (.type "tuple")=some (Fx d):=by
 cases d<;>kernel_rfl
theorem Es(d:Kf):Lw K (.type (tY d)) (.type "str")=some (JB d):=by
 cases d<;>kernel_rfl
end
section
variable {P : Ka} {w : Ku} {K : J7} {mg : Str -> JW JT} {base : KP} {CB d : JR}
noncomputable def zU(CB:JR):Sp:=λvs H Q E=>∃ x dd,vs=[x]/\cD true H x dd/\(∀ z,gN dd=some z->Q (.str z) H)/\(gN dd=none->E (.ref CB) none H)
theorem E2:da ["told"] ["told"] (cG qu):=⟨rfl,rfl,rfl,dkq,rfl,dkq,dkq⟩
seal cH PS PE PT PA PG PI cT cP in
theorem E3{f:JR}{fd:J2}(D:Df K mg "need_name" qu f fd)(T:Txt mg)(X:Ex K mg "BadAsk" CB)(hd:mg "TOLD_LENGTHS"=some (.ref d))(KD':KD P w K d gb):bX P w K mg base (dD P w) 1 f fd ["told"] (zU CB):=by
 refine D.F.ok1 E2 (λvs H Q E h=>?_) (λcdv A outer s H vs Q E hr h=>?_)
 ·obtain⟨x,dd,rfl,_⟩:=h;rfl
 ·obtain⟨x,dd,rfl,hp,k1,k2⟩:=h;refine⟨_,b9 (cM (PW.pt (gn (gF (fZ (dF jE rfl T.isi iP (bU (pv 0) (bU (lx (v:= .ty "tuple") rfl T.tuple oU rfl) bV)))))
    (gn (cx cU (dF iF rfl T.len e8 (bU (pv 0) bV)) bZ (cC _))
    (ia (gF (fZ (dF jE rfl T.isi iP (bU (cK dS (pv 0) bZ (λ_ _=>rfl)) (bU (lx (v:= .ty "str") rfl T.str mm rfl) bV)))))))))
    (b5 (kW rfl X.q Kx dkq Kx rfl X.m (bU b8 bV) kU)) cY)
   (b9 (cM (cx kN (JD rfl hd KD' (cK dS (pv 0) bZ (λ_ _=>rfl)) ⟨rfl,rfl,rfl,rfl⟩) (dF iF rfl T.len e8 (bU (pv 0) bV)) (cC _))
    (b5 (kW rfl X.q Kx dkq Kx rfl X.m (bU b8 bV) kU)) cY)
   (b5 (cy (cK dS (pv 0) bZ (λ_ _=>rfl))))),?_⟩;refine⟨_,rfl,x,.ty "tuple",_,_,rfl,hp.ty,.inl ⟨_,rfl,yn dd⟩,_,rfl,?_⟩;cases hp with
  |tup ha hs=>
   rename_i a xs ds;have hl:=hs.len;refine cj ⟨_,rfl,a,xs,rfl,.inr (cu.of ha),rfl,_,rfl,?_⟩;cases hs with
   |nil=>exact cg (cg ⟨eh,k2 rfl⟩)
   |cons h0 I=>
    rename_i y ys e es;have aa:decide (V.int ((y::ys).length:Nat)=V.int 0)=false:=JQ (λz=>by simp at z;omega);rw[aa];refine cj ⟨_,rfl,a,_,0,y,rfl,rfl,cu.of ha,cJ (j:=0) rfl,y,.ty "str",_,_,rfl,h0.ty,.inl ⟨_,rfl,Es e⟩,_,rfl,?_⟩;cases h0 with
    |str z=>
     refine cj ⟨_,rfl,a,_,0,.str z,rfl,rfl,cu.of ha,cJ (j:=0) rfl,.inr z,rfl,_,rfl,a,_,rfl,.inr (cu.of ha),?_⟩;have nm:gN (.tuple (.str z::es))=if eM gb (.inr z)=some (.int ((es.length+1:Nat):Int)) then some z else none:=rfl
     have U:ys.length=es.length:=I.len
     have fin:∀ v:V,(eM gb (.inr z)).getD .non=v->(wj v (.int ((V.str z::ys).length:Nat))=true)->(eM gb (.inr z)=some (.int ((es.length+1:Nat):Int))↔v= .int ((V.str z::ys).length:Nat))->O3:=λ_ _ _ _=>trivial
     rcases FH (.inr z) with q|⟨i,q⟩
     ·rw[q];refine⟨rfl,_,rfl,cg ⟨eh,k2 ?_⟩⟩;rw[nm,if_neg (by rw[q];intro J;cases J)]
     ·rw[q];refine⟨rfl,_,rfl,?_⟩;by_cases hi:i=((es.length+1:Nat):Int)
      ·have e1:(!decide (V.int i=V.int (((V.str z::ys).length:Nat):Int)))=false:=by
        rw[JS (by rw[hi,JV,U])];rfl
       show if (!decide (V.int i=V.int (((V.str z::ys).length:Nat):Int)))=true then _ else _
       rw[e1];exact cj ⟨_,rfl,a,_,0,.str z,rfl,rfl,cu.of ha,cJ (j:=0) rfl,k1 z (by rw[nm,J1 (by rw[q,hi])])⟩
      ·have e1:(!decide (V.int i=V.int (((V.str z::ys).length:Nat):Int)))=true:=by
        rw[JQ (λJ=>hi (by have:=V.int.inj J;rw[this,JV,U]))];rfl
       show if (!decide (V.int i=V.int (((V.str z::ys).length:Nat):Int)))=true then _ else _
       rw[e1];exact cg ⟨eh,k2 (by rw[nm,if_neg (λJ=>hi (by rw[q] at J;exact V.int.inj (Kg J)))])⟩
    |non=>exact cg ⟨eh,k2 rfl⟩
    |bl b=>exact cg ⟨eh,k2 rfl⟩
    |int i=>exact cg ⟨eh,k2 rfl⟩
    |lst _ _ _=>exact cg ⟨eh,k2 rfl⟩
    |tup _ _=>exact cg ⟨eh,k2 rfl⟩
  |non=>exact cg (cg ⟨eh,k2 rfl⟩)
  |bl b=>exact cg (cg ⟨eh,k2 rfl⟩)
  |int i=>exact cg (cg ⟨eh,k2 rfl⟩)
  |str z=>exact cg (cg ⟨eh,k2 rfl⟩)
  |lst _ _ _=>exact cg (cg ⟨eh,k2 rfl⟩)
end
end K13
namespace L2
theorem bY.upf {H H':Hp}{a:PySem.Addr}{o:HO}(s:bY H H')(h:H' a=none):bY H (upd H' a o):=Gn.bY.upd s h
end L2
namespace K13
open PySem L2 PyProof.Rows PySem.Spec Gn K01
mutual
noncomputable def mX : Kf -> Prop
 |.str z => z.length<=5000
 |.tuple ds => qo ds
 |.list ds => qo ds
 |_ => O3
noncomputable def qo : JP Kf -> Prop
 |[] => O3
 |d :: ds => mX d /\ qo ds
end
theorem AX:∀{ds:JP Kf} {i:Nat} {d:Kf},qo ds->ds[i]? =some d->mX d
 |_::_,0,_,h,e=>by
  simp at e;rw[<-e];exact h.1
 |_::ds,i+1,_,h,e=>AX (ds:=ds) (i:=i) h.2 (by simpa using e)
theorem cD.fit {l:KS}{H:Hp}{x:V}{d:Kf}(h:cD l H x d)(f:mX d):sP x:=by
 intro z e;subst e;cases h with
 |str _=>exact f
theorem cV.get {l:KS}{H:Hp}:∀{xs:JP V} {ds:JP Kf} {i:Nat} {x:V},cV l H xs ds->xs[i]? =some x->∃ d,ds[i]? =some d/\cD l H x d
 |_,_,0,_,.cons h _,e=>by
  simp at e;exact⟨_,rfl,e ▸ h⟩
 |_,_,i+1,_,.cons _ r,e=>by
  obtain⟨d,J,U⟩:=cV.get (i:=i) r (by simpa using e);exact⟨d,by simpa using J,U⟩
 |_,_,0,_,.nil,e=>by simp at e
 |_,_,i+1,_,.nil,e=>by simp at e
noncomputable def wd:Kf->JW Str
 |.str z=>if iT 2000 (.str z)=true then some z else none
 |_=>none
theorem wF{l:KS}{H:Hp}{x:V}{d:Kf}(h:cD l H x d):(iT 2000 x=true->∃ z,x= .str z/\wd d=some z)/\(iT 2000 x=false->wd d=none):=by
 cases h with
 |str z=>exact⟨λe=>⟨z,rfl,J1 e⟩,λe=>if_neg (by rw[e];decide)⟩
 |non=>exact⟨λe=>(by cases e),λ_=>rfl⟩
 |bl b=>exact⟨λe=>(by cases e),λ_=>rfl⟩
 |int i=>exact⟨λe=>(by cases e),λ_=>rfl⟩
 |lst _ _ _=>exact⟨λe=>(by cases e),λ_=>rfl⟩
 |tup _ _=>exact⟨λe=>(by cases e),λ_=>rfl⟩
noncomputable def gU:JP Kf->JW (JP Str)
 |[]=>some []
 |d::ds=>match wd d with
  |none=>none
  |some z=>(gU ds).map (z:: ·)
theorem zx:∀{ds:JP Kf} {zs:JP Str} {d:Kf} {z:Str},gU ds=some zs->wd d=some z->gU (ds++[d])=some (zs++[z])
 |[],zs,d,z,h,e=>by
  cases h;show(match wd d with|none=>none|some z=>(gU []).map (z:: ·))=_;rw[e];rfl
 |a::ds,zs,d,z,h,e=>by
  have h':(match wd a with|none=>none|some z=>(gU ds).map (z:: ·))=some zs:=h
  show(match wd a with|none=>none|some z=>(gU (ds++[d])).map (z:: ·))=_;cases ha:wd a with
  |none=>rw[ha] at h';cases h'
  |some y=>
   rw[ha] at h';cases hz:gU ds with
   |none=>rw[hz] at h';cases h'
   |some ys=>
    rw[hz] at h';have J:y::ys=zs:=by simpa using h'
    subst J;show(gU (ds++[d])).map (y:: ·)=_;rw[zx hz e];rfl
theorem yk:∀{ds:JP Kf} {i:Nat} {d:Kf},ds[i]? =some d->wd d=none->gU ds=none
 |a::ds,0,d,h,e=>by
  have:a=d:=by simpa using h
  subst this;show(match wd a with|none=>none|some z=>(gU ds).map (z:: ·))=_;rw[e]
 |a::ds,i+1,d,h,e=>by
  show(match wd a with|none=>none|some z=>(gU ds).map (z:: ·))=_;rw[yk (ds:=ds) (i:=i) (by simpa using h) e];cases wd a<;>rfl
noncomputable def rowOf:Kf->JW (JP Str)
 |.tuple ds=>if 2<=ds.length/\ds.length<=8 then gU ds else none
 |_=>none
noncomputable def gp:Kn->KS
 |.w=>true|.s=>true|.r=>true|_=>false
noncomputable def sq:Kf->JW Int
 |.int n=>if 0<=n/\n<=20 then some n else none
 |_=>none
noncomputable def iW(a b:At)(d:Kf):JW Int:=if (gp a.kn&&gp b.kn)=true then sq d else none
section
variable {P : Ka} {w : Ku} {K : J7} {mg : Str -> JW JT} {base : KP} {C fi : Kn -> JR} {fdi : Kn -> J2} {CB : JR}
noncomputable def xw(C:Kn->JR)(CB:JR):Sp:=λvs H Q E=>∃ x dd,vs=[x]/\cD true H x dd/\mX dd/\(∀ zs,rowOf dd=some zs->∀ a H',bY H H'->dZ C H' a (.row zs)->Q (.ref a) H')/\(rowOf dd=none->∀ H',bY H H'->E (.ref CB) none H')
theorem G8:da ["thing"] ["thing"] (cG oY):=⟨rfl,rfl,rfl,dkq,rfl,dkq,dkq⟩
theorem Ez:(["word"]:JP Str).Nodup:=dkq
seal cH PS PE PT PA PG PI cT cP in
theorem Hj{f fa:JR}{fd fda:J2}(D:Df K mg "asked_row" oY f fd)(DA:Df K mg "asked_word" nP fa fda)(T:Txt mg)(Cl:Cs K C)(I:In K C fi fdi)(hR:mg "Row"=some (.ref (C .r)))(X:Ex K mg "BadAsk" CB)
  (GA:bX P w K mg base (dD P w) 3 fa fda ["thing"] (uv K CB)):bX P w K mg base (dD P w) 4 f fd ["thing"] (xw C CB):=by
 obtain⟨t1,c1⟩:=T.cLR;obtain⟨t2,c2⟩:=T.cMR;have bA:=dY (p:="thing") DA.F λ_ _ _ _ _ _ _=>rfl
 have GI:bX P w K mg base b7 2 (fi .r) (fdi .r) ["self","words"] (y8 (C .r)):=(G6 Cl I T).mono (by decide);refine D.F.ok1 G8 (λvs H Q E h=>?_) (λcdv A outer s H vs Q E hr h=>?_)
 ·obtain⟨x,dd,rfl,_⟩:=h;rfl
 ·obtain⟨x,dd,rfl,hp,hf,k1,k2⟩:=h;have hz:(sizeLine:Nat)=16777216:=Kv;refine⟨_,b9 (cM (PW.pt (gn (gF (fZ (dF jE rfl T.isi iP (bU (pv 0) (bU (lx (v:= .ty "tuple") rfl T.tuple oU rfl) bV)))))
    (gn (cx iQ (dF iF rfl T.len e8 (bU (pv 0) bV)) (fH (v:= .int 2) rfl c1 ⟨_,rfl⟩) (cC _))
    (ia (cx iJ (dF iF rfl T.len e8 (bU (pv 0) bV)) (fH (v:= .int 8) rfl c2 ⟨_,rfl⟩) (cC _))))))
    (b5 (kW rfl X.q Kx dkq Kx rfl X.m (bU b8 bV) kU)) cY)
   (b5 (cy (my (I.M .r) GI hr rfl hR (I.bi .r) .nil cz (bU (BE (own:=1) (caps:=[]) (N:=["word"]) (N0:=["thing"]) (sc0:=cG oY) rfl (Ah (pv 0))
    (λ_ _ _=>eX (i:=0) Ez rfl (Kh rfl)) (λ_ _ _=>jj) rfl rfl rfl EJ
    (λ_ _ _ _ hp=>cQ GA hr rfl DA.m DA.F.kp bA .nil hp (bU (pv 0) bV)) (iV (by decide)) rfl rfl
    dkq rfl dkq dkq rfl dkq) bV)))),?_⟩;refine⟨_,rfl,x,.ty "tuple",_,_,rfl,hp.ty,.inl ⟨_,rfl,yn dd⟩,_,rfl,?_⟩;cases hp with
  |tup ha hs=>
   rename_i a xs ds;have hl:=hs.len;refine cj ⟨_,rfl,a,xs,rfl,.inr (cu.of ha),_,_,rfl,rfl,_,rfl,?_⟩;have rv:rowOf (.tuple ds)=if 2<=ds.length/\ds.length<=8 then gU ds else none:=rfl
   by_cases h1:((xs.length:Nat):Int)<2
   ·rw[JS h1];exact cg (cg ⟨eh,k2 (by rw[rv,if_neg (by omega)]) H (bY.refl H)⟩)
   ·rw[JQ h1];refine cj ⟨_,rfl,a,xs,rfl,.inr (cu.of ha),_,_,rfl,rfl,_,rfl,?_⟩;by_cases h2:(8:Int)<((xs.length:Nat):Int)
    ·rw[JS h2];exact cg ⟨eh,k2 (by rw[rv,if_neg (by omega)]) H (bY.refl H)⟩
    ·rw[JQ h2];rw[J1 (by omega)] at rv;refine cj ⟨_,rfl,a,rfl,⟨_,cu.of ha⟩,?_⟩;refine Fl (xs:=xs) (λi ys H'=>bY H H'/\∃ zs,gU (ds.take i)=some zs/\ys=zs.map V.str) (by omega) (λi ys H' ⟨sm,_⟩=>cu.of (sm _ _ ha)) ⟨bY.refl H,[],rfl,rfl⟩ ?_ ?_
     ·rintro i y ys H' N hy ⟨sm,zs,J,rfl⟩ hN;obtain⟨d,hd,U⟩:=hs.get hy;have hw:=wF U;refine g1 ?_;refine⟨_,rfl,y,rfl,(U.same sm).known,U.fit (AX hf hd),λe H2 s2=>?_,λe H2 s2=>k2 (by rw[rv];exact yk hd (hw.2 e)) H2 (sm.trans s2)⟩;obtain⟨z,rfl,e2⟩:=hw.1 e;refine hN _ _ ⟨sm.trans s2,zs++[z],?_,by rw[J5];rfl⟩;rw[Lk,hd];exact zx J e2
     ·rintro ys H' ⟨sm,zs,J,rfl⟩ _ p hp b dx hb aa ag;rw[hl,Mq] at J;have s1:bY H (upd H' p (.lst (zs.map V.str))):=sm.upf hp;generalize af:upd H' p (.lst (zs.map V.str))=H1 at s1 hb aa;have ab:H1 p=some (.lst (zs.map V.str)):=by rw[<-af];exact b6
      have pb:p≠b:=dI ab hb
      have pd:p≠dx:=dI ab aa;refine⟨b,dx,p,_,rfl,b6,by rw[cF pb,cF pd];exact ab,λq hq=>⟨rfl,k1 zs (by rw[rv,J]) b _ ?_ ?_⟩⟩
      ·intro c u hc;have ae:=s1 _ _ hc;have cb:c≠b:=dI ae hb;have cd:c≠dx:=dI ae aa;have e2:(upd (upd H1 dx (.own b)) b (.ins (C .r) dx [])) c=some u:=by rw[cF cb,cF cd];exact ae
       rw[cF cb,cF (dI e2 hq)];exact e2
      ·have qb:q≠b:=λz=>by rw[z,b6] at hq;cases hq
       exact⟨dx,q,b6,by rw[cF qb];exact b6⟩
  |non=>exact cg (cg ⟨eh,k2 rfl H (bY.refl H)⟩)
  |bl b=>exact cg (cg ⟨eh,k2 rfl H (bY.refl H)⟩)
  |int i=>exact cg (cg ⟨eh,k2 rfl H (bY.refl H)⟩)
  |str z=>exact cg (cg ⟨eh,k2 rfl H (bY.refl H)⟩)
  |lst _ _ _=>exact cg (cg ⟨eh,k2 rfl H (bY.refl H)⟩)
noncomputable def Ar(C:Kn->JR)(CB:JR):Sp:=λvs H Q E=>∃(p q:JR) (x:V) (J U:At) (d:Kf),vs=[.ref p,.ref q,x]/\dZ C H p J/\dZ C H q U/\cD true H x d/\
 (∀ n,iW J U d=some n->∀ a H',bY H H'->dZ C H' a (.near J U n)->Q (.ref a) H')/\(iW J U d=none->∀ H',bY H H'->E (.ref CB) none H')
theorem Ax:da ["one","other","far","ask"] ["one","other","far"] (cG qg):=⟨rfl,rfl,rfl,dkq,rfl,dkq,dkq⟩
theorem oP{H1:Hp}{b dx:JR}{o o' o'':HO}(hb:H1 b=none)(hdx:H1 dx=none):bY H1 (upd (upd (upd H1 dx o) b o') b o''):=by
 rw[qJ];exact Ha (bY.refl _) hb hdx
seal cH PS PE PT PA PG PI cT cP in
theorem CV{f ft:JR}{fd fdt:J2}(D:Df K mg "asked_near" qg f fd)(DT:Df K mg "is_whole" pE ft fdt)(T:Txt mg)(Cl:Cs K C)(I:In K C fi fdi)(hW:mg "Word"=some (.ref (C .w)))(hS:mg "Start"=some (.ref (C .s)))(hR:mg "Row"=some (.ref (C .r)))(hN:mg "Near"=some (.ref (C .n)))(X:Ex K mg "BadAsk" CB)
  (hK:∀ i,Lm K (.ref (C i)) ([C .w,C .s,C .r].map Ky)=some (gp i)):bX P w K mg base (dD P w) 3 f fd ["one","other","far"] (Ar C CB):=by
 obtain⟨t1,c1⟩:=T.cFar;have GT:bX P w K mg base b7 2 ft fdt ["thing"] (xU K):=(F5 DT T).mono (by decide);have bT:=dY (p:="thing") DT.F λ_ _ _ _ _ _ _=>rfl
 have GI:bX P w K mg base b7 1 (fi .n) (fdi .n) ["self","one","other","far"] (Ag (C .n)):=C4 Cl I;refine D.F.ok1 Ax (λvs H Q E h=>?_) (λcdv A outer s H vs Q E hr h=>?_)
 ·obtain⟨p,q,x,tp,tq,d,rfl,_⟩:=h;rfl
 ·obtain⟨p,q,x,tp,tq,d,rfl,hp,hq,hx,k1,k2⟩:=h;have nv:iW tp tq d=if (gp tp.kn&&gp tq.kn)=true then sq d else none:=rfl
  refine⟨_,b9 (lF PassesOwn.leaving rfl (Ah (dv (bU (pv 0) (bU (pv 1) bV)))) (eX (i:=3) Ax.nd rfl (Kh rfl))
    (b5 (cM (gF (fZ (dF wQ rfl T.isi iP (bU (pv 3) (bU (dv (bU (fH (v:= .ref (C .w)) rfl hW rfl) (bU (fH (v:= .ref (C .s)) rfl hS rfl) (bU (fH (v:= .ref (C .r)) rfl hR rfl) bV)))) bV)))))
     (b5 (kW rfl X.q Kx dkq Kx rfl X.m (bU b8 bV) kU)) cY)))
   (b9 (cM (PW.pt (gn (gF (fZ (cQ GT hr rfl DT.m DT.F.kp bT .nil cz (bU (pv 2) bV))))
    (gn (cx iQ (pv 2) bZ (cC _))
    (ia (cx iJ (pv 2) (fH (v:= .int 20) rfl c1 ⟨_,rfl⟩) (cC _))))))
    (b5 (kW rfl X.q Kx dkq Kx rfl X.m (bU b8 bV) kU)) cY)
   (b5 (cy (my (I.M .n) GI hr rfl hN (I.bi .n) .nil cz (bU (pv 0) (bU (pv 1) (bU (pv 2) bV))))))),?_⟩;refine⟨_,rfl,_,rfl,eJ,λtt aa=>?_⟩;refine⟨tt,rfl,⟨_,cu.of b6⟩,?_⟩;refine Hg (xs:=[.ref p,.ref q]) (λi σ H'=>∃ o3,σ=[some (.ref p),some (.ref q),some x,o3]/\bY H H'/\H' tt=some (.tup [.ref p,.ref q])/\(0<i->gp tp.kn=true)/\(1<i->gp tq.kn=true)) ?_ ?_ ?_ ?_
  ·exact⟨none,rfl,cq aa,b6,λz=>absurd z (by decide),λz=>absurd z (by decide)⟩
  ·rintro i σ H' _ ⟨o3,rfl,_,e,_⟩;exact cu.of e
  ·rintro i y σ H' hy ⟨o3,rfl,sm,e,l1,l2⟩
   match i,hy with
   |0,hy=>
    have ey:V.ref p=y:=by simpa using hy
    subst ey;obtain⟨dp,fp,ep,_⟩:=(hp.same sm).ob;refine⟨_,rfl,fG,λc U=>⟨p,C tp.kn,dp,fp,c,[C .w,C .s,C .r],_,rfl,by rw[cF (dI ep U)];exact ep,Cl.ic _,b6,hK _,_,rfl,?_⟩⟩;cases hl:gp tp.kn with
    |false=>exact cg ⟨eh,k2 (by rw[nv,hl];rfl) _ (sm.upf U)⟩
    |true=>exact cj ⟨_,rfl,sm.upf U,by rw[cF (dI e U)];exact e,λ_=>rfl,λz=>absurd z (by decide)⟩
   |1,hy=>
    have ey:V.ref q=y:=by simpa using hy
    subst ey;obtain⟨dp,fp,ep,_⟩:=(hq.same sm).ob;refine⟨_,rfl,fG,λc U=>⟨q,C tq.kn,dp,fp,c,[C .w,C .s,C .r],_,rfl,by rw[cF (dI ep U)];exact ep,Cl.ic _,b6,hK _,_,rfl,?_⟩⟩;cases hl:gp tq.kn with
    |false=>exact cg ⟨eh,k2 (by rw[nv,hl,MZ];rfl) _ (sm.upf U)⟩
    |true=>exact cj ⟨_,rfl,sm.upf U,by rw[cF (dI e U)];exact e,λ_=>l1 (by decide),λ_=>rfl⟩
   |i+2,hy=>simp at hy
  ·rintro σ H' ⟨o3,rfl,sm,e,l1,l2⟩;have L1:=l1 (by show 0<2;decide);have L2:=l2 (by show 1<2;decide);rw[L1,L2] at nv;have J:iW tp tq d=sq d:=nv;refine⟨_,rfl,x,rfl,(hx.same sm).known,_,rfl,?_⟩;cases hx with
   |int n=>
    refine cj ⟨_,rfl,_,_,rfl,rfl,_,rfl,?_⟩;have fv:sq (.int n)=if 0<=n/\n<=20 then some n else none:=rfl
    by_cases h1:n<0
    ·rw[JS h1];exact cg (cg ⟨eh,k2 (by rw[J,fv,if_neg (by omega)]) H' sm⟩)
    ·rw[JQ h1];refine cj ⟨_,rfl,_,_,rfl,rfl,_,rfl,?_⟩;by_cases h2:20<n
     ·rw[JS h2];exact cg ⟨eh,k2 (by rw[J,fv,if_neg (by omega)]) H' sm⟩
     ·rw[JQ h2];refine cj ⟨_,rfl,_,rfl,_,rfl,λb dx hb ab ae=>⟨b,dx,p,q,n,rfl,b6,rfl,?_⟩⟩;have s2:=oP (o:= .own b) (o':= .ins (C .n) dx []) (o'':= .ins (C .n) dx (f3 p q n)) hb ab;exact k1 n (by rw[J,fv,J1 (by omega)]) b _ (sm.trans s2) ⟨dx,p,q,b6,hp.same (sm.trans s2),hq.same (sm.trans s2)⟩
   |non=>exact cg (cg ⟨eh,k2 J H' sm⟩)
   |bl b=>exact cg (cg ⟨eh,k2 J H' sm⟩)
   |str z=>exact cg (cg ⟨eh,k2 J H' sm⟩)
   |lst _ _ _=>exact cg (cg ⟨eh,k2 J H' sm⟩)
   |tup _ _=>exact cg (cg ⟨eh,k2 J H' sm⟩)
end
noncomputable def arg(d:Kf)(i:Nat):Kf:=match d with
 |.tuple ds=>ds.getD i .none
 |_=> .none
noncomputable def dm:Nat->Kf->JW At
 |0,_=>none
 |n+1,d=>match gN d with
  |none=>none
  |some z=>
   if z="word" then (wd (arg d 1)).map .word
   else if z="start" then (wd (arg d 1)).map .start
   else if z="row" then (rowOf (arg d 1)).map .row
   else match dm n (arg d 1) with
    |none=>none
    |some a=>
     if z="not" then some (.no a)
     else match dm n (arg d 2) with
      |none=>none
      |some b=>if z="near" then (iW a b (arg d 3)).map (.near a b) else if z="both" then some (.both a b) else some (.either a b)
theorem EB{kvs:JP (Key×V)}{k:Key}{v:V}(h:eM kvs k=some v):(k,v)∈kvs:=by
 unfold eM at h;obtain⟨J,e,q⟩:=Option.map_eq_some_iff.mp h;have h1:=List.mem_of_find?_eq_some e;have h2:J.1=k:=LZ (by simpa using List.find?_some e);rw[<-h2,<-q];exact h1
theorem y9{d:Kf}{z:Str}(h:gN d=some z):∃ ds,d= .tuple (.str z::ds)/\
  ((z="word"/\ds.length=1)\/(z="start"/\ds.length=1)\/(z="row"/\ds.length=1)\/(z="near"/\ds.length=3)\/(z="both"/\ds.length=2)\/(z="either"/\ds.length=2)\/(z="not"/\ds.length=1)):=by
 unfold gN at h;split at h
 ·rename_i y ds;split at h
  ·rename_i q;have ez:y=z:=by simpa using h
   subst ez;refine⟨ds,rfl,?_⟩;have m:=EB q;unfold gb at m;simp only[L5,LW,N4,Prod.mk.injEq] at m;rcases m with ⟨U,I⟩|⟨U,I⟩|⟨U,I⟩|⟨U,I⟩|⟨U,I⟩|⟨U,I⟩|⟨U,I⟩
   all_goals
    have J:=Sum.inr.inj U
    have aa:=V.int.inj I
   ·exact .inl ⟨J,by omega⟩
   ·exact .inr (.inl ⟨J,by omega⟩)
   ·exact .inr (.inr (.inl ⟨J,by omega⟩))
   ·exact .inr (.inr (.inr (.inl ⟨J,by omega⟩)))
   ·exact .inr (.inr (.inr (.inr (.inl ⟨J,by omega⟩))))
   ·exact .inr (.inr (.inr (.inr (.inr (.inl ⟨J,by omega⟩)))))
   ·exact .inr (.inr (.inr (.inr (.inr (.inr ⟨J,by omega⟩)))))
  ·cases h
 ·cases h
section
variable {n : Nat} {d : Kf}
theorem yd(h:gN d=none):dm (n+1) d=none:=by
 unfold dm;rw[h]
theorem xa(h:gN d=some "word"):dm (n+1) d=(wd (arg d 1)).map .word:=by
 rw[dm,h];show(if _ then _ else _)=_;rw[J1 rfl]
theorem wW(h:gN d=some "start"):dm (n+1) d=(wd (arg d 1)).map .start:=by
 rw[dm,h];show(if _ then _ else _)=_;rw[if_neg dkq,J1 rfl]
theorem uF(h:gN d=some "row"):dm (n+1) d=(rowOf (arg d 1)).map .row:=by
 rw[dm,h];show(if _ then _ else _)=_;rw[if_neg dkq,if_neg dkq,J1 rfl]
theorem wR(h:gN d=some "not"):dm (n+1) d=(dm n (arg d 1)).map .no:=by
 rw[dm,h];show(if _ then _ else _)=_;rw[if_neg dkq,if_neg dkq,if_neg dkq];cases dm n (arg d 1) with
 |none=>rfl
 |some a=>
  show(if _ then _ else _)=_;rw[J1 rfl];rfl
noncomputable def two(n:Nat)(d:Kf)(k:At->At->JW At):JW At:=(dm n (arg d 1)).bind λa=>(dm n (arg d 2)).bind λb=>k a b
theorem tP(h:gN d=some "near"):dm (n+1) d=two n d λa b=>(iW a b (arg d 3)).map (.near a b):=by
 rw[dm,h];show(if _ then _ else _)=_;unfold two;rw[if_neg dkq,if_neg dkq,if_neg dkq];cases dm n (arg d 1) with
 |none=>rfl
 |some a=>
  show(if _ then _ else _)=_;rw[if_neg dkq];cases dm n (arg d 2) with
  |none=>rfl
  |some b=>
   show(if _ then _ else _)=_;rw[J1 rfl];rfl
theorem vh(h:gN d=some "both"):dm (n+1) d=two n d λa b=>some (.both a b):=by
 rw[dm,h];show(if _ then _ else _)=_;unfold two;rw[if_neg dkq,if_neg dkq,if_neg dkq];cases dm n (arg d 1) with
 |none=>rfl
 |some a=>
  show(if _ then _ else _)=_;rw[if_neg dkq];cases dm n (arg d 2) with
  |none=>rfl
  |some b=>
   show(if _ then _ else _)=_;rw[if_neg dkq,J1 rfl];rfl
theorem vb(h:gN d=some "either"):dm (n+1) d=two n d λa b=>some (.either a b):=by
 rw[dm,h];show(if _ then _ else _)=_;unfold two;rw[if_neg dkq,if_neg dkq,if_neg dkq];cases dm n (arg d 1) with
 |none=>rfl
 |some a=>
  show(if _ then _ else _)=_;rw[if_neg dkq];cases dm n (arg d 2) with
  |none=>rfl
  |some b=>
   show(if _ then _ else _)=_;rw[if_neg dkq,if_neg dkq];rfl
theorem vN{k:At->At->JW At}(h:dm n (arg d 1)=none):two n d k=none:=by unfold two;rw[h];rfl
theorem wC{k:At->At->JW At}{a:At}(h:dm n (arg d 1)=some a)(h2:dm n (arg d 2)=none):two n d k=none:=by unfold two;rw[h];show(dm n (arg d 2)).bind _=_;rw[h2];rfl
theorem tU{k:At->At->JW At}{a b:At}(h:dm n (arg d 1)=some a)(h2:dm n (arg d 2)=some b):two n d k=k a b:=by unfold two;rw[h];show(dm n (arg d 2)).bind _=_;rw[h2];rfl
end
theorem mw{a b:Str}{A B:Prop}(h:a=b)(k:A):if decide (V.str a=V.str b)=true then A else B:=by rw[h,JS rfl];exact cg k
theorem fM{a b:Str}{A B:Prop}(h:¬ a=b)(k:B):if decide (V.str a=V.str b)=true then A else B:=by rw[JQ (λe=>h (V.str.inj e))];exact cj k
section
variable {l : KS} {H : Hp} {x : V}
theorem cD.t2 {a b:Kf}(h:cD l H x (.tuple [a,b])):∃ p x0 x1,x= .ref p/\H p=some (.tup [x0,x1])/\cD l H x0 a/\cD l H x1 b:=by
 cases h with
 |tup ha J=>
  cases J with
  |cons h0 J=>cases J with
   |cons h1 J=>cases J with
    |nil=>exact⟨_,_,_,rfl,ha,h0,h1⟩
theorem cD.t3 {a b c:Kf}(h:cD l H x (.tuple [a,b,c])):∃ p x0 x1 x2,x= .ref p/\H p=some (.tup [x0,x1,x2])/\cD l H x0 a/\cD l H x1 b/\cD l H x2 c:=by
 cases h with
 |tup ha J=>
  cases J with
  |cons h0 J=>cases J with
   |cons h1 J=>cases J with
    |cons h2 J=>cases J with
     |nil=>exact⟨_,_,_,_,rfl,ha,h0,h1,h2⟩
theorem cD.t4 {a b c d:Kf}(h:cD l H x (.tuple [a,b,c,d])):∃ p x0 x1 x2 x3,x= .ref p/\H p=some (.tup [x0,x1,x2,x3])/\cD l H x0 a/\cD l H x1 b/\cD l H x2 c/\cD l H x3 d:=by
 cases h with
 |tup ha J=>
  cases J with
  |cons h0 J=>cases J with
   |cons h1 J=>cases J with
    |cons h2 J=>cases J with
     |cons U J=>cases J with
      |nil=>exact⟨_,_,_,_,_,rfl,ha,h0,h1,h2,U⟩
end
structure Nm (mg : Str -> JW JT) (C : Kn -> JR) : Prop where
 w : mg "Word" = some (.ref (C .w))
 s : mg "Start" = some (.ref (C .s))
 r : mg "Row" = some (.ref (C .r))
 n : mg "Near" = some (.ref (C .n))
 b : mg "Both" = some (.ref (C .b))
 e : mg "Either" = some (.ref (C .e))
 o : mg "Not" = some (.ref (C .o))
section
variable {P : Ka} {w : Ku} {K : J7} {mg : Str -> JW JT} {base : KP} {C fi : Kn -> JR} {fdi : Kn -> J2} {CB : JR}
noncomputable def tE(C:Kn->JR)(CB:JR)(n:Nat):Sp:=λvs H Q E=>∃(x:V) (k:Int) (dd:Kf),vs=[x,.int k]/\k=(n:Int)/\cD true H x dd/\mX dd/\
 (∀ t,dm n dd=some t->∀ a H',bY H H'->dZ C H' a t->Q (.ref a) H')/\(dm n dd=none->∀ H',bY H H'->E (.ref CB) none H')
noncomputable def De(C:Kn->JR)(CB:JR):Nat->Sp
 |0=>λ_ _ _ _=>LG
 |n+1=>tE C CB n
theorem rO{CX:gv}{k:Nat}{f:JR}{fd:J2}{ps:JP Str}:bX P w K mg base CX k f fd ps (λ_ _ _ _=>LG):=⟨λ_ _ _ _ h=>h.elim,λ_ _ _ _ _ _ _ _ _ _ _ _ _ h=>h.elim⟩
theorem sj:da ["told","deep","name","one","other"] ["told","deep"] (cG pS):=⟨rfl,rfl,rfl,dkq,rfl,dkq,dkq⟩
seal cH PS PE PT PA PG PI cT cP in
theorem xT{f fn fa fr fe:JR}{fd fdn fda fdr fde:J2}(D:Df K mg "ask_within" pS f fd)(DN:Df K mg "need_name" qu fn fdn)(DA:Df K mg "asked_word" nP fa fda)(DR:Df K mg "asked_row" oY fr fdr)(DE:Df K mg "asked_near" qg fe fde)
  (Cl:Cs K C)(I:In K C fi fdi)(NM:Nm mg C)(X:Ex K mg "BadAsk" CB)
  (GN:bX P w K mg base (dD P w) 1 fn fdn ["told"] (zU CB))(GA:bX P w K mg base (dD P w) 3 fa fda ["thing"] (uv K CB))(GR:bX P w K mg base (dD P w) 4 fr fdr ["thing"] (xw C CB))
  (GE:bX P w K mg base (dD P w) 3 fe fde ["one","other","far"] (Ar C CB))(n:Nat)(GW:bX P w K mg base (dD P w) (n+4) f fd ["told","deep"] (De C CB n)):
  bX P w K mg base (dD P w) (n+5) f fd ["told","deep"] (tE C CB n):=by
 have bN:=dY (p:="told") DN.F λ_ _ _ _ _ _ _=>rfl
 have bA:=dY (p:="thing") DA.F λ_ _ _ _ _ _ _=>rfl
 have bR:=dY (p:="thing") DR.F λ_ _ _ _ _ _ _=>rfl
 have bE:=DE.F.binds (ps:=["one","other","far"]) λ_ _ _ _ _ _ us hl=>match us,hl with|[_,_,_],_=>rfl
 have bW:=D.F.binds (ps:=["told","deep"]) λ_ _ _ _ _ _ us hl=>iX (λ_ _=>rfl) us hl
 have ai:=GN.mono (show 1<=n+4 by omega)
 have ag:=GA.mono (show 3<=n+4 by omega)
 have aj:=GR.mono (show 4<=n+4 by omega)
 have ak:=GE.mono (show 3<=n+4 by omega)
 have Gw:bX P w K mg base b7 (n+3) (fi .w) (fdi .w) ["self","word"] (pA (C .w) "word"):=(EK Cl I).mono (by omega)
 have Gs:bX P w K mg base b7 (n+3) (fi .s) (fdi .s) ["self","word"] (pA (C .s) "word"):=(Je Cl I).mono (by omega)
 have Go:bX P w K mg base b7 (n+3) (fi .o) (fdi .o) ["self","one"] (pA (C .o) "one"):=(B1 Cl I).mono (by omega)
 have Gb:bX P w K mg base b7 (n+3) (fi .b) (fdi .b) ["self","one","other"] (sM (C .b)):=(Hr Cl I).mono (by omega)
 have Ge:bX P w K mg base b7 (n+3) (fi .e) (fdi .e) ["self","one","other"] (sM (C .e)):=(F3 Cl I).mono (by omega);refine D.F.ok1 sj (λvs H Q E h=>?_) (λcdv A outer s H vs Q E hr h=>?_)
 ·obtain⟨x,k,dd,rfl,_⟩:=h;rfl
 ·obtain⟨x,k,dd,rfl,rfl,hp,hf,k1,k2⟩:=h;refine⟨_,b9 (cM (cx cU (pv 1) bZ (cC _)) (b5 (kW rfl X.q Kx dkq Kx rfl X.m (bU b8 bV) kU)) cY)
   (b9 (cZ (i:=2) sj.nd rfl (Kh rfl) (cQ ai hr rfl DN.m DN.F.kp bN .nil (kE (E':=E) (λ_ _ _ h=>h)) (bU (pv 0) bV)))
   (b9 (cM (cx cU (pv 2) b8 (cC _)) (b5 (cy (my (I.M .w) Gw hr rfl NM.w (I.bi .w) .nil cz (bU (cQ ag hr rfl DA.m DA.F.kp bA .nil (kE (E':=E) (λ_ _ _ h=>h)) (bU (cK dS (pv 0) bZ (λ_ _=>rfl)) bV)) bV)))) cY)
   (b9 (cM (cx cU (pv 2) b8 (cC _)) (b5 (cy (my (I.M .s) Gs hr rfl NM.s (I.bi .s) .nil cz (bU (cQ ag hr rfl DA.m DA.F.kp bA .nil (kE (E':=E) (λ_ _ _ h=>h)) (bU (cK dS (pv 0) bZ (λ_ _=>rfl)) bV)) bV)))) cY)
   (b9 (cM (cx cU (pv 2) b8 (cC _)) (b5 (cy (cQ aj hr rfl DR.m DR.F.kp bR .nil (kE (E':=E) (λ_ _ _ h=>h)) (bU (cK dS (pv 0) bZ (λ_ _=>rfl)) bV)))) cY)
   (b9 (cZ (i:=3) sj.nd rfl (Kh rfl) (cQ GW hr rfl D.m D.F.kp bW .nil (kE (E':=E) (λ_ _ _ h=>h)) (bU (cK dS (pv 0) bZ (λ_ _=>rfl)) (bU (cA pD (pv 1) bZ) bV))))
   (b9 (cM (cx cU (pv 2) b8 (cC _)) (b5 (cy (my (I.M .o) Go hr rfl NM.o (I.bi .o) .nil cz (bU (pv 3) bV)))) cY)
   (b9 (cZ (i:=4) sj.nd rfl (Kh rfl) (cQ GW hr rfl D.m D.F.kp bW .nil (kE (E':=E) (λ_ _ _ h=>h)) (bU (cK dS (pv 0) bZ (λ_ _=>rfl)) (bU (cA pD (pv 1) bZ) bV))))
   (b9 (cM (cx cU (pv 2) b8 (cC _)) (b5 (cy (cQ ak hr rfl DE.m DE.F.kp bE .nil (kE (E':=E) (λ_ _ _ h=>h)) (bU (pv 3) (bU (pv 4) (bU (cK dS (pv 0) bZ (λ_ _=>rfl)) bV)))))) cY)
   (b5 (cy (ji (cx cU (pv 2) b8 (cC _)) (my (I.M .b) Gb hr rfl NM.b (I.bi .b) .nil cz (bU (pv 3) (bU (pv 4) bV))) (my (I.M .e) Ge hr rfl NM.e (I.bi .e) .nil cz (bU (pv 3) (bU (pv 4) bV)))))))))))))),?_⟩;refine⟨_,rfl,rfl,_,rfl,?_⟩;cases n with
  |zero=>exact cg ⟨eh,k2 rfl H (bY.refl H)⟩
  |succ n=>
   have ae:decide (V.int ((n+1:Nat):Int)=V.int 0)=false:=JQ (λz=>by have:=V.int.inj z;omega);rw[ae];refine cj ⟨_,rfl,x,dd,rfl,hp,λz hz=>?_,λe=>k2 (yd e) H (bY.refl H)⟩;obtain⟨ds,rfl,hc⟩:=y9 hz;rcases hc with ⟨rfl,hd⟩|⟨rfl,hd⟩|⟨rfl,hd⟩|⟨rfl,hd⟩|⟨rfl,hd⟩|⟨rfl,hd⟩|⟨rfl,hd⟩
   ·match ds,hd with
    |[d1],_=>
     obtain⟨p,x0,U,rfl,ha,_,h1⟩:=hp.t2;have hw:=wF h1;have J:dm (n+1) (.tuple [.str "word",d1])=(wd d1).map .word:=xa hz;refine⟨_,rfl,rfl,_,rfl,mw rfl ⟨_,rfl,p,_,1,U,rfl,rfl,cu.of ha,cJ (j:=1) rfl,U,rfl,h1.known,h1.fit hf.2.1,λe H2 s2=>?_,λe H2 s2=>k2 (by rw[J,hw.2 e];rfl) H2 s2⟩⟩;obtain⟨zz,rfl,e2⟩:=hw.1 e;intro b dx hb aa ae;exact⟨b,dx,_,rfl,b6,rfl,k1 (.word zz) (by rw[J,e2];rfl) b _ (s2.trans (oP hb aa)) ⟨dx,b6⟩⟩
   ·match ds,hd with
    |[d1],_=>
     obtain⟨p,x0,U,rfl,ha,_,h1⟩:=hp.t2;have hw:=wF h1;have J:dm (n+1) (.tuple [.str "start",d1])=(wd d1).map .start:=wW hz;refine⟨_,rfl,rfl,_,rfl,fM dkq ⟨_,rfl,rfl,_,rfl,mw rfl ⟨_,rfl,p,_,1,U,rfl,rfl,cu.of ha,cJ (j:=1) rfl,U,rfl,h1.known,h1.fit hf.2.1,λe H2 s2=>?_,λe H2 s2=>k2 (by rw[J,hw.2 e];rfl) H2 s2⟩⟩⟩;obtain⟨zz,rfl,e2⟩:=hw.1 e;intro b dx hb aa ae;exact⟨b,dx,_,rfl,b6,rfl,k1 (.start zz) (by rw[J,e2];rfl) b _ (s2.trans (oP hb aa)) ⟨dx,b6⟩⟩
   ·match ds,hd with
    |[d1],_=>
     obtain⟨p,x0,U,rfl,ha,_,h1⟩:=hp.t2;have J:dm (n+1) (.tuple [.str "row",d1])=(rowOf d1).map .row:=uF hz;exact⟨_,rfl,rfl,_,rfl,fM dkq ⟨_,rfl,rfl,_,rfl,fM dkq ⟨_,rfl,rfl,_,rfl,mw rfl ⟨_,rfl,p,_,1,U,rfl,rfl,cu.of ha,cJ (j:=1) rfl,U,d1,rfl,h1,hf.2.1,
      λzs e a H2 s2 hA=>k1 (.row zs) (by rw[J,e];rfl) a H2 s2 hA,λe H2 s2=>k2 (by rw[J,e];rfl) H2 s2⟩⟩⟩⟩
   ·match ds,hd with
    |[d1,d2,d3],_=>
     obtain⟨p,x0,U,x2,x3,rfl,ha,_,h1,h2,h3⟩:=hp.t4;have J:=tP (n:=n) hz;refine⟨_,rfl,rfl,_,rfl,fM dkq ⟨_,rfl,rfl,_,rfl,fM dkq ⟨_,rfl,rfl,_,rfl,fM dkq ⟨_,rfl,p,_,1,U,rfl,rfl,cu.of ha,cJ (j:=1) rfl,_,rfl,_,_,rfl,rfl,
      U,_,d1,rfl,by omega,h1,hf.2.1,λt1 e1 a1 H1 s1 ab=>?_,λe1 H1 s1=>k2 (by rw[J];exact vN e1) H1 s1⟩⟩⟩⟩;refine⟨_,rfl,rfl,_,rfl,fM dkq ⟨_,rfl,p,_,2,x2,rfl,rfl,cu.of (s1 _ _ ha),cJ (j:=2) rfl,_,rfl,_,_,rfl,rfl,
      x2,_,d2,rfl,by omega,h2.same s1,hf.2.2.1,λt2 e2 a2 H2 s2 af=>?_,λe2 H2 s2=>k2 (by rw[J];exact wC e1 e2) H2 (s1.trans s2)⟩⟩;have ah:=J.trans (tU e1 e2);exact⟨_,rfl,rfl,_,rfl,mw rfl ⟨_,rfl,_,rfl,_,rfl,p,_,3,x3,rfl,rfl,cu.of (s2 _ _ (s1 _ _ ha)),cJ (j:=3) rfl,a1,a2,x3,t1,t2,d3,rfl,ab.same s2,af,(h3.same s1).same s2,
      λm e a H3 s3 hA=>k1 (.near t1 t2 m) (by rw[ah];show(iW t1 t2 d3).map _=_;rw[e];rfl) a H3 ((s1.trans s2).trans s3) hA,λe H3 s3=>k2 (by rw[ah];show(iW t1 t2 d3).map _=_;rw[e];rfl) H3 ((s1.trans s2).trans s3)⟩⟩
   ·match ds,hd with
    |[d1,d2],_=>
     obtain⟨p,x0,U,x2,rfl,ha,_,h1,h2⟩:=hp.t3;have J:=vh (n:=n) hz;refine⟨_,rfl,rfl,_,rfl,fM dkq ⟨_,rfl,rfl,_,rfl,fM dkq ⟨_,rfl,rfl,_,rfl,fM dkq ⟨_,rfl,p,_,1,U,rfl,rfl,cu.of ha,cJ (j:=1) rfl,_,rfl,_,_,rfl,rfl,
      U,_,d1,rfl,by omega,h1,hf.2.1,λt1 e1 a1 H1 s1 ab=>?_,λe1 H1 s1=>k2 (by rw[J];exact vN e1) H1 s1⟩⟩⟩⟩;refine⟨_,rfl,rfl,_,rfl,fM dkq ⟨_,rfl,p,_,2,x2,rfl,rfl,cu.of (s1 _ _ ha),cJ (j:=2) rfl,_,rfl,_,_,rfl,rfl,
      x2,_,d2,rfl,by omega,h2.same s1,hf.2.2.1,λt2 e2 a2 H2 s2 af=>?_,λe2 H2 s2=>k2 (by rw[J];exact wC e1 e2) H2 (s1.trans s2)⟩⟩;refine⟨_,rfl,rfl,_,rfl,fM dkq ⟨_,rfl,rfl,_,rfl,mw rfl ⟨_,rfl,_,rfl,λb dx hb aa ae=>⟨b,dx,a1,a2,rfl,b6,rfl,?_⟩⟩⟩⟩;have s3:=oP (o:= .own b) (o':= .ins (C .b) dx []) (o'':= .ins (C .b) dx (f2 a1 a2)) hb aa;exact k1 (.both t1 t2) (J.trans (tU e1 e2)) b _ ((s1.trans s2).trans s3) ⟨dx,a1,a2,b6,ab.same (s2.trans s3),af.same s3⟩
   ·match ds,hd with
    |[d1,d2],_=>
     obtain⟨p,x0,U,x2,rfl,ha,_,h1,h2⟩:=hp.t3;have J:=vb (n:=n) hz;refine⟨_,rfl,rfl,_,rfl,fM dkq ⟨_,rfl,rfl,_,rfl,fM dkq ⟨_,rfl,rfl,_,rfl,fM dkq ⟨_,rfl,p,_,1,U,rfl,rfl,cu.of ha,cJ (j:=1) rfl,_,rfl,_,_,rfl,rfl,
      U,_,d1,rfl,by omega,h1,hf.2.1,λt1 e1 a1 H1 s1 ab=>?_,λe1 H1 s1=>k2 (by rw[J];exact vN e1) H1 s1⟩⟩⟩⟩;refine⟨_,rfl,rfl,_,rfl,fM dkq ⟨_,rfl,p,_,2,x2,rfl,rfl,cu.of (s1 _ _ ha),cJ (j:=2) rfl,_,rfl,_,_,rfl,rfl,
      x2,_,d2,rfl,by omega,h2.same s1,hf.2.2.1,λt2 e2 a2 H2 s2 af=>?_,λe2 H2 s2=>k2 (by rw[J];exact wC e1 e2) H2 (s1.trans s2)⟩⟩;refine⟨_,rfl,rfl,_,rfl,fM dkq ⟨_,rfl,rfl,_,rfl,fM dkq ⟨_,rfl,_,rfl,λb dx hb aa ae=>⟨b,dx,a1,a2,rfl,b6,rfl,?_⟩⟩⟩⟩;have s3:=oP (o:= .own b) (o':= .ins (C .e) dx []) (o'':= .ins (C .e) dx (f2 a1 a2)) hb aa;exact k1 (.either t1 t2) (J.trans (tU e1 e2)) b _ ((s1.trans s2).trans s3) ⟨dx,a1,a2,b6,ab.same (s2.trans s3),af.same s3⟩
   ·match ds,hd with
    |[d1],_=>
     obtain⟨p,x0,U,rfl,ha,_,h1⟩:=hp.t2;have J:dm (n+1) (.tuple [.str "not",d1])=(dm n d1).map .no:=wR hz;refine⟨_,rfl,rfl,_,rfl,fM dkq ⟨_,rfl,rfl,_,rfl,fM dkq ⟨_,rfl,rfl,_,rfl,fM dkq ⟨_,rfl,p,_,1,U,rfl,rfl,cu.of ha,cJ (j:=1) rfl,_,rfl,_,_,rfl,rfl,
      U,_,d1,rfl,by omega,h1,hf.2.1,λt1 e1 a1 H1 s1 ab=>?_,λe1 H1 s1=>k2 (by rw[J,e1];rfl) H1 s1⟩⟩⟩⟩;refine⟨_,rfl,rfl,_,rfl,mw rfl ⟨_,rfl,λb dx hb aa ae=>⟨b,dx,.ref a1,rfl,b6,rfl,?_⟩⟩⟩;have s3:=oP (o:= .own b) (o':= .ins (C .o) dx []) (o'':= .ins (C .o) dx (f1 a1)) hb aa;exact k1 (.no t1) (by rw[J,e1];rfl) b _ (s1.trans s3) ⟨dx,a1,b6,ab.same s3⟩
end
theorem At.kids_dep:∀{t k:At},k∈t.kids->k.dep+1<=t.dep
 |.near a b _,k,h=>by
  show k.dep+1<=max a.dep b.dep+1
  have h':k=a\/k=b:=by simpa[At.kids] using h
  rcases h' with rfl|rfl<;>omega
 |.both a b,k,h=>by
  show k.dep+1<=max a.dep b.dep+1
  have h':k=a\/k=b:=by simpa[At.kids] using h
  rcases h' with rfl|rfl<;>omega
 |.either a b,k,h=>by
  show k.dep+1<=max a.dep b.dep+1
  have h':k=a\/k=b:=by simpa[At.kids] using h
  rcases h' with rfl|rfl<;>omega
 |.no a,k,h=>by
  show k.dep+1<=a.dep+1
  have h':k=a:=by simpa[At.kids] using h
  rw[h'];omega
 |.word _,k,h=>by simp[At.kids] at h
 |.start _,k,h=>by simp[At.kids] at h
 |.row _,k,h=>by simp[At.kids] at h
theorem At.many_kids:∀ t:At,t.many=1+(t.kids.map At.many).sum
 |.near a b _=>by show 1+(a.many+b.many)=1+(a.many+(b.many+0));omega
 |.both a b=>by show 1+(a.many+b.many)=1+(a.many+(b.many+0));omega
 |.either a b=>by show 1+(a.many+b.many)=1+(a.many+(b.many+0));omega
 |.no a=>by show 1+a.many=1+(a.many+0);omega
 |.word _=>rfl
 |.start _=>rfl
 |.row _=>rfl
theorem zc{x:Nat}:∀{l:JP Nat},x∈l->x<=l.sum
 |y::l,h=>by
  rw[NC];rcases List.mem_cons.mp h with rfl|h
  ·omega
  ·have:=zc h;omega
theorem At.kids_many {t k:At}(h:k∈t.kids):k.many<=t.many:=by
 have:=zc (List.mem_map.mpr ⟨k,h,rfl⟩:k.many∈t.kids.map At.many);rw[At.many_kids t];omega
theorem At.kids_len (t:At):t.kids.length<=2:=by cases t<;>simp[At.kids]
theorem vQ{a b x y:Nat}(h1:x+1<=2 ^ (a+1))(h2:y+1<=2 ^ (b+1)):1+(x+y)+1<=2 ^ (max a b+1+1):=by
 rw[Nat.pow_succ];have J:2 ^ (a+1)<=2 ^ (max a b+1):=LK (by decide) (by omega);have U:2 ^ (b+1)<=2 ^ (max a b+1):=LK (by decide) (by omega);omega
theorem At.many_pow:∀ t:At,t.many+1<=2 ^ (t.dep+1)
 |.near a b _=>vQ (At.many_pow a) (At.many_pow b)
 |.both a b=>vQ (At.many_pow a) (At.many_pow b)
 |.either a b=>vQ (At.many_pow a) (At.many_pow b)
 |.no a=>by
  have:=At.many_pow a
  show 1+a.many+1<=2 ^ (a.dep+1+1);rw[Nat.pow_succ];have h1:=Nat.one_le_two_pow (n:=a.dep+1);omega
 |.word _=>JY _
 |.start _=>JY _
 |.row _=>JY _
theorem uW{n:Nat}{d:Kf}{k:At->At->JW At}{t:At}(h:two n d k=some t):∃ a b,dm n (arg d 1)=some a/\dm n (arg d 2)=some b/\k a b=some t:=by
 unfold two at h;cases ha:dm n (arg d 1) with
 |none=>rw[ha] at h;cases h
 |some a=>
  rw[ha] at h;have h':(dm n (arg d 2)).bind (λb=>k a b)=some t:=h;cases hb:dm n (arg d 2) with
  |none=>rw[hb] at h';cases h'
  |some b=>
   rw[hb] at h';exact⟨a,b,rfl,rfl,h'⟩
theorem ly:∀{n:Nat} {d:Kf} {t:At},dm n d=some t->t.dep+1<=n
 |0,_,_,h=>by cases h
 |n+1,d,t,h=>by
  cases hz:gN d with
  |none=>rw[yd hz] at h;cases h
  |some z=>
   obtain⟨ds,_,hc⟩:=y9 hz;rcases hc with ⟨rfl,_⟩|⟨rfl,_⟩|⟨rfl,_⟩|⟨rfl,_⟩|⟨rfl,_⟩|⟨rfl,_⟩|⟨rfl,_⟩
   ·rw[xa hz] at h;obtain⟨y,_,rfl⟩:=Option.map_eq_some_iff.mp h;exact M6 (Ks _)
   ·rw[wW hz] at h;obtain⟨y,_,rfl⟩:=Option.map_eq_some_iff.mp h;exact M6 (Ks _)
   ·rw[uF hz] at h;obtain⟨y,_,rfl⟩:=Option.map_eq_some_iff.mp h;exact M6 (Ks _)
   ·rw[tP hz] at h;obtain⟨a,b,h1,h2,J⟩:=uW h;obtain⟨y,_,rfl⟩:=Option.map_eq_some_iff.mp J;have U:=ly h1;have I:=ly h2;show max a.dep b.dep+1+1<=n+1;omega
   ·rw[vh hz] at h;obtain⟨a,b,h1,h2,J⟩:=uW h;cases J;have U:=ly h1;have I:=ly h2;show max a.dep b.dep+1+1<=n+1;omega
   ·rw[vb hz] at h;obtain⟨a,b,h1,h2,J⟩:=uW h;cases J;have U:=ly h1;have I:=ly h2;show max a.dep b.dep+1+1<=n+1;omega
   ·rw[wR hz] at h;obtain⟨a,h1,rfl⟩:=Option.map_eq_some_iff.mp h;have U:=ly h1;show a.dep+1+1<=n+1;omega
noncomputable def ofD(d:Kf):JW At:=(dm 8 d).bind λt=>if t.many<=40 then some t else none
section
variable {P : Ka} {w : Ku} {K : J7} {mg : Str -> JW JT} {base : KP} {C fi fk : Kn -> JR} {fdi fdk : Kn -> J2} {CB : JR}
theorem xR:Lp "sum"=some (.builtin "sum"):=dkq
noncomputable def rS(C:Kn->JR)(n:Nat):Sp:=λvs H Q _=>∃(a:JR) (t:At),vs=[.ref a]/\dZ C H a t/\t.dep<=n/\t.many<=100000/\∀ H',bY H H'->Q (.int ((t.many:Nat):Int)) H'
noncomputable def Ir(C:Kn->JR):Nat->Sp
 |0=>λ_ _ _ _=>LG
 |n+1=>rS C n
theorem Bo:da ["ask"] ["ask"] (cG lO):=⟨rfl,rfl,rfl,dkq,rfl,dkq,dkq⟩
theorem BZ:(["kid"]:JP Str).Nodup:=dkq
theorem vI{α β:Type}{F:α->β->Prop}:∀{l:JP α} {m:JP β},Lo F l m->∀{i:Nat} {a:α},l[i]? =some a->∃ b,m[i]? =some b/\F a b
 |_,_,.cons r t,0,a,e=>by
  simp at e;exact⟨_,rfl,e ▸ r⟩
 |_,_,.cons r t,i+1,a,e=>by
  obtain⟨b,J,U⟩:=vI t (i:=i) (by simpa using e);exact⟨b,by simpa using J,U⟩
 |_,_,.nil,0,a,e=>by simp at e
 |_,_,.nil,i+1,a,e=>by simp at e
seal cH PS PE PT PA PG PI cT cP in
theorem zt{f:JR}{fd:J2}(D:Df K mg "many_in" lO f fd)(T:Txt mg)(Cl:Cs K C)(M:Mt K C "kids" oG mf fk fdk)(n:Nat)(GM:bX P w K mg base b7 (n+1) f fd ["ask"] (Ir C n)):bX P w K mg base b7 (n+2) f fd ["ask"] (rS C n):=by
 have bM:=dY (p:="ask") D.F λ_ _ _ _ _ _ _=>rfl
 have GK:∀ i,bX P w K mg base b7 (n+1) (fk i) (fdk i) ["self"] (xf C i):=λi=>(xq Cl M i).mono (by omega)
 have hz:(sizeLine:Nat)=16777216:=Kv;refine D.F.ok Bo (λvs H Q E h=>?_) (λcdv A outer s H vs Q E I h=>?_)
 ·obtain⟨a,t,rfl,_⟩:=h;rfl
 ·obtain⟨a,t,rfl,hA,hd,hm,k⟩:=h;refine⟨_,b5 (cy (cA eD bZ (dF (xO rfl) rfl T.sum xR (bU (jA (own:=1) (caps:=[]) (N:=["kid"]) (N0:=["ask"]) (sc0:=cG lO) rfl
    (oz (gc (pv 0) Cl.cl M.M GK I (y3 M) cz)) (λ_ _ _=>eX (i:=0) BZ rfl (Kh rfl)) (λ_ _ _=>jj)
    (λ_ _ _=>cQ GM I rfl D.m D.F.kp bM .nil cz (bU (pv 0) bV)) (iV (by decide)) rfl rfl
    dkq rfl dkq dkq rfl dkq) bV)))),?_⟩;obtain⟨dp,fp,ep,lp⟩:=hA.ob;refine⟨_,rfl,t.kn,a,dp,fp,rfl,ep,lp _ xi,a,t,rfl,hA,rfl,λl xs hl hK=>?_⟩;have kl:=t.kids_len;have xl:=Gn.Paired.len hK;refine⟨l,rfl,⟨_,ck.of b6⟩,tJ (xs:=xs) (λi ys H'=>bY H H'/\H' l=some (.lst xs)/\ys=(t.kids.take i).map λk=>V.int ((k.many:Nat):Int)) (by omega) (λi ys H' ⟨_,e,_⟩=>ck.of e) ⟨cq hl,b6,rfl⟩ ?_ ?_⟩
  ·rintro i y ys H' N hy ⟨sm,el,rfl⟩ hN;obtain⟨kd,J,p,rfl,hp⟩:=vI hK hy;have U:=List.mem_of_getElem? J;have d1:=At.kids_dep U;have m1:=At.kids_many U;refine g1 ?_
   match n,GM,hd with
   |0,_,hd=>omega
   |n+1,_,hd=>
    refine⟨_,rfl,p,kd,rfl,hp.same sm,by omega,by omega,λH2 s2=>hN _ _ ⟨sm.trans s2,s2 _ _ el,?_⟩⟩;rw[Lk,J,J5];rfl
  ·rintro ys H' ⟨sm,el,rfl⟩ _ p hp;have mk:=t.many_kids;have e1:(t.kids.take xs.length).map (λk=>V.int ((k.many:Nat):Int))=(t.kids.map At.many).map λ(n:Nat)=>V.int (n:Int):=by
    rw[xl,Mq,LB];rfl
   refine⟨p,t.kids.map At.many,rfl,ck.of (by rw[b6,e1]),by omega,_,_,rfl,rfl,?_⟩;have:=k _ (sm.upf (o:= .lst ((t.kids.take xs.length).map λk=>V.int ((k.many:Nat):Int))) hp);rw[mk] at this;exact this
theorem yS{f:JR}{fd:J2}(D:Df K mg "many_in" lO f fd)(T:Txt mg)(Cl:Cs K C)(M:Mt K C "kids" oG mf fk fdk):∀ n:Nat,bX P w K mg base b7 (n+2) f fd ["ask"] (rS C n)
 |0=>zt D T Cl M 0 rO
 |n+1=>zt D T Cl M (n+1) (yS D T Cl M n)
noncomputable def vB(C:Kn->JR)(CB:JR):Sp:=λvs H Q E=>∃(x:V) (dd:Kf),vs=[x]/\cD true H x dd/\mX dd/\
 (∀ t,ofD dd=some t->∀ a H',bY H H'->dZ C H' a t->Q (.ref a) H')/\(ofD dd=none->∀ H',bY H H'->E (.ref CB) none H')
theorem zH:da ["told","ask"] ["told"] (cG nz):=⟨rfl,rfl,rfl,dkq,rfl,dkq,dkq⟩
seal cH PS PE PT PA PG PI cT cP in
theorem By{f fw fm:JR}{fd fdw fdm:J2}(D:Df K mg "ask_of" nz f fd)(DW:Df K mg "ask_within" pS fw fdw)(DM:Df K mg "many_in" lO fm fdm)(T:Txt mg)(X:Ex K mg "BadAsk" CB)
  (GW:bX P w K mg base (dD P w) 13 fw fdw ["told","deep"] (tE C CB 8))(GM:bX P w K mg base b7 9 fm fdm ["ask"] (rS C 7)):bX P w K mg base (dD P w) 14 f fd ["told"] (vB C CB):=by
 obtain⟨t1,c1⟩:=T.cDeep;obtain⟨t2,c2⟩:=T.cAll;have bW:=DW.F.binds (ps:=["told","deep"]) λ_ _ _ _ _ _ us hl=>iX (λ_ _=>rfl) us hl
 have bM:=dY (p:="ask") DM.F λ_ _ _ _ _ _ _=>rfl
 have J:=GM.mono (show 9<=13 by decide);refine D.F.ok1 zH (λvs H Q E h=>?_) (λcdv A outer s H vs Q E U h=>?_)
 ·obtain⟨x,dd,rfl,_⟩:=h;rfl
 ·obtain⟨x,dd,rfl,hp,hf,k1,k2⟩:=h;refine⟨_,b9 (cZ (i:=1) zH.nd rfl (Kh rfl) (cQ GW U rfl DW.m DW.F.kp bW .nil (kE (E':=E) (λ_ _ _ h=>h)) (bU (pv 0) (bU (fH (v:= .int 8) rfl c1 ⟨_,rfl⟩) bV))))
   (b9 (cM (cx iJ (cQ J U rfl DM.m DM.F.kp bM .nil cz (bU (pv 1) bV)) (fH (v:= .int 40) rfl c2 ⟨_,rfl⟩) (cC _)) (b5 (kW rfl X.q Kx dkq Kx rfl X.m (bU b8 bV) kU)) cY)
   (b5 (cy (pv 1)))),?_⟩;refine⟨_,rfl,x,8,dd,rfl,rfl,hp,hf,λt ht a H1 s1 I=>?_,λe H1 s1=>k2 (by unfold ofD;rw[e];rfl) H1 s1⟩;have dp:=ly ht;have mp:=t.many_pow;have aa:(2:Nat) ^ (t.dep+1)<=2 ^ 8:=LK (by decide) (by omega);have m8:(2:Nat) ^ 8=256:=rfl;have ov:ofD dd=if t.many<=40 then some t else none:=by unfold ofD;rw[ht];rfl
  refine⟨_,rfl,a,t,rfl,I,by omega,by omega,λH2 s2=>⟨_,_,rfl,rfl,_,rfl,?_⟩⟩;by_cases hm:(40:Int)<((t.many:Nat):Int)
  ·rw[JS hm];exact cg ⟨eh,k2 (by rw[ov,if_neg (by omega)]) H2 (s1.trans s2)⟩
  ·rw[JQ hm];exact cj ⟨_,rfl,k1 t (by rw[ov,J1 (by omega)]) a H2 (s1.trans s2) (I.same s2)⟩
end
noncomputable abbrev Wd(z:Str):Prop:=iT 2000 (.str z)=true
theorem oA{z:Str}(h:Wm z):Wd z:=by
 show(decide (1<=z.length)&&decide (z.length<=2000)&&z.cps.toList.all dA)=true;rw[JS h.2.2,JS (by have:=h.1;omega),h.2.1];rfl
noncomputable def Gd:At->Prop
 |.word z=>Wm z
 |.start z=>Wm z
 |.row zs=>2<=zs.length/\zs.length<=8/\∀ z∈zs,Wm z
 |.near a b n=>(gp a.kn=true/\gp b.kn=true)/\(0<=n/\n<=20)/\Gd a/\Gd b
 |.both a b=>Gd a/\Gd b
 |.either a b=>Gd a/\Gd b
 |.no a=>Gd a
theorem At.lf_dep {t:At}(h:gp t.kn=true):t.dep=0:=by cases t<;>first|rfl|cases h
noncomputable def At.nm:At->Str
 |.word _=>"word" |.start _=>"start" |.row _=>"row" |.near _ _ _=>"near" |.both _ _=>"both" |.either _ _=>"either" |.no _=>"not"
theorem Gj:eM gb (.inr "word")=some (.int 2):=dkq
theorem Cd:eM gb (.inr "start")=some (.int 2):=dkq
theorem Ej:eM gb (.inr "row")=some (.int 2):=dkq
theorem Hk:eM gb (.inr "near")=some (.int 4):=dkq
theorem Ho:eM gb (.inr "both")=some (.int 3):=dkq
theorem JH:eM gb (.inr "either")=some (.int 3):=dkq
theorem Jp:eM gb (.inr "not")=some (.int 2):=dkq
theorem nh{z:Str}{ds:JP Kf}(h:eM gb (.inr z)=some (.int ((ds.length+1:Nat):Int))):gN (.tuple (.str z::ds))=some z:=by
 show(if eM gb (.inr z)=some (.int ((ds.length+1:Nat):Int)) then some z else none)=_;rw[J1 h]
theorem mh:∀ t:At,gN t.told=some t.nm
 |.word z=>nh Gj
 |.start z=>nh Cd
 |.row zs=>nh Ej
 |.near a b n=>nh Hk
 |.both a b=>nh Ho
 |.either a b=>nh JH
 |.no a=>nh Jp
theorem wO{z:Str}(h:Wd z):wd (.str z)=some z:=J1 h
theorem Av:∀{zs:JP Str},(∀ z∈zs,Wd z)->gU (zs.map .str)=some zs
 |[],_=>rfl
 |z::zs,h=>by
  show(match wd (.str z) with|none=>none|some z=>(gU (zs.map .str)).map (z:: ·))=_;rw[wO (h z (by simp)),Av λy J=>h y (by simp[J])];rfl
theorem kD:∀(n:Nat) (t:At),Gd t->dm n t.told=if t.dep<n then some t else none
 |0,t,_=>by rw[if_neg (by omega)];rfl
 |n+1,.word z,h=>by
  rw[xa (mh (.word z)),J1 (show(At.word z).dep<n+1 from Nat.succ_pos n)];show(wd (.str z)).map _=_;rw[wO (oA h)];rfl
 |n+1,.start z,h=>by
  rw[wW (mh (.start z)),J1 (show(At.start z).dep<n+1 from Nat.succ_pos n)];show(wd (.str z)).map _=_;rw[wO (oA h)];rfl
 |n+1,.row zs,h=>by
  rw[uF (mh (.row zs)),J1 (show(At.row zs).dep<n+1 from Nat.succ_pos n)];show(if 2<=(zs.map MC).length/\(zs.map MC).length<=8 then gU (zs.map .str) else none).map _=_;rw[JX,J1 ⟨h.1,h.2.1⟩,Av (λz m=>oA (h.2.2 z m))];rfl
 |n+1,.no a,h=>by
  rw[wR (mh (.no a))];show(dm n a.told).map _=_;rw[kD n a h];by_cases q:a.dep<n
  ·rw[J1 q,J1 (show(At.no a).dep<n+1 by show a.dep+1<n+1;omega)];rfl
  ·rw[if_neg q,if_neg (show ¬ (At.no a).dep<n+1 by show ¬ a.dep+1<n+1;omega)];rfl
 |n+1,.both a b,h=>by
  rw[vh (mh (.both a b))];show((dm n a.told).bind λa=>(dm n b.told).bind λb=>some (At.both a b))=_;rw[kD n a h.1,kD n b h.2];by_cases q:a.dep<n
  ·by_cases J:b.dep<n
   ·rw[J1 q,J1 J,J1 (show(At.both a b).dep<n+1 by show max a.dep b.dep+1<n+1;omega)];rfl
   ·rw[J1 q,if_neg J,if_neg (show ¬ (At.both a b).dep<n+1 by show ¬ max a.dep b.dep+1<n+1;omega)];rfl
  ·rw[if_neg q,if_neg (show ¬ (At.both a b).dep<n+1 by show ¬ max a.dep b.dep+1<n+1;omega)];rfl
 |n+1,.either a b,h=>by
  rw[vb (mh (.either a b))];show((dm n a.told).bind λa=>(dm n b.told).bind λb=>some (At.either a b))=_;rw[kD n a h.1,kD n b h.2];by_cases q:a.dep<n
  ·by_cases J:b.dep<n
   ·rw[J1 q,J1 J,J1 (show(At.either a b).dep<n+1 by show max a.dep b.dep+1<n+1;omega)];rfl
   ·rw[J1 q,if_neg J,if_neg (show ¬ (At.either a b).dep<n+1 by show ¬ max a.dep b.dep+1<n+1;omega)];rfl
  ·rw[if_neg q,if_neg (show ¬ (At.either a b).dep<n+1 by show ¬ max a.dep b.dep+1<n+1;omega)];rfl
 |n+1,.near a b m,h=>by
  obtain⟨⟨U,I⟩,hm,g1,g2⟩:=h;rw[tP (mh (.near a b m))];show((dm n a.told).bind λa=>(dm n b.told).bind λb=>(iW a b (.int m)).map (At.near a b))=_;rw[kD n a g1,kD n b g2];have d1:=At.lf_dep U;have d2:=At.lf_dep I;by_cases q:0<n
  ·rw[J1 (by omega),J1 (by omega),J1 (show(At.near a b m).dep<n+1 by show max a.dep b.dep+1<n+1;omega)];show(iW a b (.int m)).map _=_;have e:iW a b (.int m)=some m:=by
    unfold iW;rw[U,I,J1 (show(true&&true)=true from rfl)];show(if 0<=m/\m<=20 then some m else none)=_;rw[J1 hm]
   rw[e];rfl
  ·rw[if_neg (by omega),if_neg (show ¬ (At.near a b m).dep<n+1 by show ¬ max a.dep b.dep+1<n+1;omega)];rfl
theorem wm{t:At}(h:Gd t):ofD t.told=if t.dep<=7/\t.many<=40 then some t else none:=by
 unfold ofD;rw[kD 8 t h];by_cases q:t.dep<8
 ·rw[J1 q];show(if t.many<=40 then some t else none)=_;by_cases J:t.many<=40
  ·rw[J1 J,J1 ⟨by omega,J⟩]
  ·rw[if_neg J,if_neg (λz=>J z.2)]
 ·rw[if_neg q,if_neg (λz=>q (by omega))];rfl
theorem we{z:Str}(h:Wd z):z.length<=5000:=by
 have h':(decide (1<=z.length)&&decide (z.length<=2000)&&z.cps.toList.all dA)=true:=h;simp at h';omega
theorem xC:∀{zs:JP Str},(∀ z∈zs,Wd z)->qo (zs.map .str)
 |[],_=>trivial
 |z::zs,h=>⟨we (h z (by simp)),xC λy J=>h y (by simp[J])⟩
theorem jP:∀{t:At},Gd t->mX t.told
 |.word z,h=>⟨by show(4:Nat)<=5000;decide,we (oA h),trivial⟩
 |.start z,h=>⟨by show(5:Nat)<=5000;decide,we (oA h),trivial⟩
 |.row zs,h=>⟨by show(3:Nat)<=5000;decide,xC (λz m=>oA (h.2.2 z m)),trivial⟩
 |.near a b n,h=>⟨by show(4:Nat)<=5000;decide,jP h.2.2.1,jP h.2.2.2,trivial,trivial⟩
 |.both a b,h=>⟨by show(4:Nat)<=5000;decide,jP h.1,jP h.2,trivial⟩
 |.either a b,h=>⟨by show(6:Nat)<=5000;decide,jP h.1,jP h.2,trivial⟩
 |.no a,h=>⟨by show(3:Nat)<=5000;decide,jP h,trivial⟩
theorem Jh{z:Str}{k:Int}(h:Wm z)(h1:1<=k)(h2:k<=z.length):Wm (Txt.slice z none (some k)):=by
 have U:(z.cps.toList.length:Int)=z.length:=by simp[N3]
 have J:Txt.slice z none (some k)=_:=L7 ⟨by omega,by omega⟩
 have l:=Txt.slice_le z none (some k);refine⟨by have:=h.1;omega,qQ _ _ h.2.1,?_⟩;rw[J,du,Lr,KH];omega
theorem C8:Wm "and":=⟨dkq,dkq,dkq⟩
theorem IK:Wm "or":=⟨dkq,dkq,dkq⟩
theorem EO:Wm "not":=⟨dkq,dkq,dkq⟩
section
variable {P : Ka} {w : Ku} {K : J7} {mg : Str -> JW JT} {base : KP}
noncomputable def lC(H:Hp)(a:JR)(ws:JP Str):Prop:=H a=some (.lst (ws.map V.str))/\ws.length=5/\∀ z∈ws,Wm z
noncomputable def Az:TE:=λσ H Q=>∃(n:Int) (a:JR) (ws:JP Str) (o:JW V) (m:Nat),σ=[some (.int n),some (.ref a),o,some (.int ((m:Nat):Int))]/\lC H a ws/\2<=m/\m<=8/\
 ∀ x (zs:JP Str) H',bY H H'->zs.length=m->(∀ z∈zs,Wm z)->cD false H' x (.tuple [.str "row",.tuple (zs.map .str)])->Q x H'
noncomputable def Be:Sp:=λvs H Q _=>∃(n:Int) (a:JR) (ws:JP Str),vs=[.int n,.ref a]/\lC H a ws/\∀ x t H',bY H H'->cD false H' x t.told->gp t.kn=true->Gd t->Q x H'
theorem rH:da ["_law_number_here","_law_menu_here","_law_word","_law_size"] ["_law_number_here","_law_menu_here"] (cG kX):=⟨rfl,rfl,rfl,dkq,rfl,dkq,dkq⟩
theorem Ey:(["_law_k","_law_menu_here","_law_number_here"]:JP Str).Nodup:=dkq
theorem lC.at {H:Hp}{a:JR}{ws:JP Str}(h:lC H a ws){j:Nat}(hj:j<5):∃ z,Wm z/\(ws.map V.str)[j]? =some (.str z):=by
 have J:j<ws.length:=by rw[h.2.1];exact hj
 exact⟨ws[j],h.2.2 _ (M5 J),by rw[List.getElem?_map,List.getElem?_eq_getElem J];rfl⟩
seal cH PS PE PT PA PG PI cT cP in
theorem BB{f fm:JR}{fd fdm:J2}(D:Df K mg "_law_plain" kX f fd)(DM:Df K mg "_law_mixed" ju fm fdm)(T:Txt mg):bX P w K mg base b7 2 f fd ["_law_number_here","_law_menu_here"] Be:=by
 have GM:bX P w K mg base b7 1 fm fdm ["_law_number_here","_law_k"] pM:=qX DM
 have bM:=DM.F.binds (ps:=["_law_number_here","_law_k"]) λ_ _ _ _ _ _ us hl=>iX (λ_ _=>rfl) us hl
 refine D.F.ok rH (λvs H Q E h=>?_) (λcdv A outer s H vs Q E hr h=>?_)
 ·obtain⟨n,a,ws,rfl,_⟩:=h;rfl
 ·obtain⟨n,a,ws,rfl,I,kk⟩:=h;have hl:(sizeLine:Nat)=16777216:=Kv;refine⟨_,b9 (cZ (i:=2) rH.nd rfl (Kh rfl) (cK fO (pv 1) (cA fI (cA iu (pv 0) bZ) bZ) (λ_ _=>rfl)))
   (b9 (uh (cx cU (cA fI (cA iu (pv 0) bZ) bZ) bZ (cC _)) (b5 (cZ (i:=2) rH.nd rfl (Kh rfl) (cK fO (eZ (bU b8 (bU b8 (bU b8 bV)))) (cA fI (cA iu (pv 0) bZ) bZ) (λ_ _=>rfl)))) cY)
   (b9 (cM (cx cU (cA fI (pv 0) bZ) bZ (cC _)) (b5 (cy (dv (bU b8 (bU (pv 2) bV))))) cY)
   (b9 (cM (cx cU (cA fI (pv 0) bZ) bZ (cC _)) (b5 (cy (dv (bU b8 (bU (gS gJ (pv 2) lZ (fh (cA eD bZ (cA fI (cA iu (pv 0) bZ) (dF ip rfl T.len e8 (bU (pv 2) bV)))))) bV))))) cY)
   (b9 (cZ (i:=3) rH.nd rfl (Kh rfl) (cA eD bZ (cA fI (cA iu (pv 0) bZ) (cK fO (eZ (bU bZ (bU bZ bV))) (il mK rfl T.int jF (bU (ik cU (cA fI (cA iu (pv 0) bZ) bZ) bZ rfl) bV)) (λ_ _=>rfl)))))
   (b5 (cy (PE.imp (t':=Az) (dv (bU b8 (bU (il sF rfl T.tuple oU (bU (jA (own:=1) (caps:=[1,0]) (N:=["_law_k","_law_menu_here","_law_number_here"])
     (N0:=["_law_number_here","_law_menu_here","_law_word","_law_size"]) (sc0:=cG kX) rfl (kZ rfl T.range (bU (pv 3) bV)) (λ_ _ _=>eX (i:=0) Ey rfl (Kh rfl)) (λ_ _ _=>jj)
     (λ_ _ _=>cK (Gk (K:=K) rfl) (pv 1) (cA fI (cQ GM hr rfl DM.m DM.F.kp bM .nil cz (bU (pv 2) (bU (cA eD bZ (pv 0)) bV))) bZ) (λ_ _=>rfl)) (iV (by decide)) rfl rfl
     dkq rfl dkq dkq rfl dkq) bV)) bV))) ?mR))))))),?_⟩
  rotate_left
  refine⟨_,rfl,_,rfl,_,_,rfl,rfl,⟨by decide,by decide⟩,_,_,rfl,rfl,(by show(0:Int)<5;decide),?_⟩;obtain⟨j,hj,ah⟩:=mj (r:=n/3) (n:=5) (by decide);obtain⟨z0,aa,ab⟩:=I.at (j:=j) (by omega);refine⟨a,_,_,.str z0,rfl,rfl,ck.of I.1,by rw[<-hj];exact cJ ab,?_⟩;refine⟨λaf H'=>bY H H'/\∃ z:Str,Wm z/\af=[some (.int n),some (.ref a),some (.str z),none],?_,?_⟩
  ·refine⟨_,rfl,_,_,rfl,rfl,⟨by decide,by decide⟩,_,_,rfl,rfl,(by show(0:Int)<6;decide),rfl,_,rfl,?_⟩;refine i4 (λ_=>?_) (λ_=>⟨bY.refl H,z0,aa,rfl⟩);refine⟨fG,λp hp=>⟨_,rfl,_,_,rfl,rfl,⟨by decide,by decide⟩,_,_,rfl,rfl,(by show(0:Int)<3;decide),?_⟩⟩;obtain⟨i,hi,ai⟩:=mj (r:=n/90) (n:=3) (by decide);have sm:bY H (upd H p (.lst [.str "and",.str "or",.str "not"])):=cq hp
   match i,ai,hi with
   |0,_,hi=>exact⟨p,_,_,.str "and",rfl,rfl,ck.of b6,by rw[<-hi];exact cJ rfl,sm,"and",C8,rfl⟩
   |1,_,hi=>exact⟨p,_,_,.str "or",rfl,rfl,ck.of b6,by rw[<-hi];exact cJ rfl,sm,"or",IK,rfl⟩
   |2,_,hi=>exact⟨p,_,_,.str "not",rfl,rfl,ck.of b6,by rw[<-hi];exact cJ rfl,sm,"not",EO,rfl⟩
   |i+3,h,_=>omega
  ·rintro af H1 ⟨s1,z,U,rfl⟩;have ag:lC H1 a ws:=⟨s1 _ _ I.1,I.2⟩;refine⟨_,rfl,_,_,rfl,rfl,(by show(0:Int)<3;decide),rfl,_,rfl,?_⟩;refine i4 (λ_=>?_) (λ_=>?_)
   ·exact⟨_,rfl,eJ,λp hp=>kk _ (.word z) _ (s1.upf hp) (.tup b6 (.cons (.str _) (.cons (.str _) .nil))) rfl U⟩
   refine⟨_,rfl,_,_,rfl,rfl,(by show(0:Int)<3;decide),rfl,_,rfl,?_⟩;refine i4 (λ_=>?_) (λ_=>?_)
   ·have z1:=U.2.2
    have aj:=U.1;refine⟨_,rfl,_,rfl,_,_,rfl,rfl,⟨by decide,by decide⟩,_,rfl,z,rfl,by omega,_,_,rfl,rfl,(by show(0:Int)<((z.length:Nat):Int);omega),_,_,rfl,rfl,_,rfl,z,rfl,by omega,eJ,λp hp=>?_⟩;have e0:=LR (n/15) (show((z.length:Nat):Int)≠0 by omega);have e1:=Ly (n/15) (show(0:Int)<((z.length:Nat):Int) by omega);exact kk _ (.start _) _ (s1.upf hp) (.tup b6 (.cons (.str _) (.cons (.str _) .nil))) rfl (Jh U (by omega) (by omega))
   refine⟨_,rfl,_,_,rfl,rfl,⟨by decide,by decide⟩,eJ,λp hp=>?_⟩;have s2:bY H1 (upd H1 p (.lst [.int 2,.int 7])):=cq hp;refine⟨_,rfl,_,_,rfl,rfl,⟨by decide,by decide⟩,_,_,rfl,rfl,(by show(0:Int)<4;decide),rfl,.inr ⟨_,rfl,?_⟩⟩;have fin:∀ k:Int,0<k->k<=7->∀ H2,bY H1 H2->Az [some (.int n),some (.ref a),some (.str z),some (.int (2+n/15%k))] H2 Q:=λk k0 k7 H2 s3=>by
    have e0:=LR (n/15) (show k≠0 by omega)
    have e1:=Ly (n/15) k0;obtain⟨m,hm⟩:=Int.eq_ofNat_of_zero_le (show 0<=2+n/15%k by omega);rw[hm];refine⟨n,a,ws,_,m,rfl,⟨s3 _ _ ag.1,ag.2⟩,by omega,by omega,λx zs H' s4 ae J hx=>?_⟩;exact kk x (.row zs) H' ((s1.trans s3).trans s4) hx rfl ⟨by omega,by omega,J⟩
   generalize decide (V.int (n/105%4)=V.int 1)=b;cases b with
   |false=>exact⟨p,_,0,.int 2,rfl,rfl,ck.of b6,cJ (j:=0) rfl,_,_,rfl,rfl,(by show(0:Int)<2;decide),_,_,rfl,rfl,fin 2 (by decide) (by decide) _ s2⟩
   |true=>exact⟨p,_,1,.int 7,rfl,rfl,ck.of b6,cJ (j:=1) rfl,_,_,rfl,rfl,(by show(0:Int)<7;decide),_,_,rfl,rfl,fin 7 (by decide) (by decide) _ s2⟩
  case mR=>
   rintro σ H Q ⟨n,a,ws,o,m,rfl,I,m2,m8,k⟩;refine⟨_,rfl,m,rfl,by omega,by omega,?_⟩;refine sd (λi ys H'=>H'=H/\∃ zs:JP Str,zs.length=i/\(∀ z∈zs,Wm z)/\ys=zs.map V.str) (by rw[hl];omega) ⟨rfl,[],rfl,λz U=>by simp at U,rfl⟩ ?_ ?_
   ·rintro i ys H' N hi ⟨rfl,zs,ae,J,rfl⟩ hN;have ak:i<m:=by omega
    refine g1 ?_;refine⟨_,rfl,_,rfl,_,rfl,_,_,rfl,rfl,_,_,rfl,by omega,by omega,λr r0 r1=>?_⟩;obtain⟨j,hj,ah⟩:=mj (r:=r) (n:=5) (by decide);obtain⟨z0,aa,ab⟩:=I.at (j:=j) (by omega);refine⟨_,_,rfl,rfl,(by show(0:Int)<5;decide),a,_,_,.str z0,rfl,rfl,ck.of I.1,by rw[<-hj];exact cJ ab,hN _ _ ⟨rfl,zs++[z0],by simp[ae],λz U=>?_,by rw[J5];rfl⟩⟩;rcases List.mem_append.mp U with q|q
    ·exact J z q
    ·have e:z=z0:=by simpa using q
     rw[e];exact aa
   ·rintro ys H' ⟨rfl,zs,ae,J,rfl⟩ _ p hp;refine⟨p,_,rfl,.inl ⟨ck.of b6,λq hq=>?_⟩⟩;refine⟨eJ,λt ht=>?_⟩;exact k _ zs _ (((cq hp).upf hq).upf ht) (by omega) J (.tup b6 (.cons (.str _) (.cons (.tup (cq ht _ _ b6) (cV.strs zs)) .nil)))
end
noncomputable def SX(c:JR)(H H':Hp):Prop:=∀ b o,b≠c->H b=some o->H' b=some o
theorem F6{H:Hp}{c:JR}{o:HO}:SX c H (upd H c o):=λb u hb e=>by rw[cF hb];exact e
theorem SX.same {c:JR}{H H1 H2:Hp}(s:SX c H H1)(t:bY H1 H2):SX c H H2:=λb o hb e=>t _ _ (s b o hb e)
theorem SX.trans {c:JR}{H H1 H2:Hp}(s:SX c H H1)(t:SX c H1 H2):SX c H H2:=λb o hb e=>t _ _ hb (s b o hb e)
theorem SX.base {c:JR}{B H H1:Hp}(s:SX c H H1)(t:bY B H)(n:B c=none):bY B H1:=λb o e=>s b o (dI e n) (t _ _ e)
theorem SX.keep {c:JR}{H H1:Hp}{xs:JP V}(s:SX c H H1)(h:H c=some (.lst xs)):g6 H H1:=
 ⟨λb C dx fs e=>s b _ (rZ e h (by intro z;cases z)) e,λb ys e=>s b _ (rZ e h (by intro z;cases z)) e⟩
theorem PT.imp {X:Cx}{e:KI}{t t':TT}(h:PT X e t)(i:∀ σ H Q,t' σ H Q->t σ H Q):PT X e t':=λpins s σ H Q I q=>h pins s σ H Q I (i σ H Q q)
theorem At.lf_many {t:At}(h:gp t.kn=true):t.many=1:=by cases t<;>first|rfl|cases h
section
variable {P : Ka} {w : Ku} {K : J7} {mg : Str -> JW JT} {base : KP}
noncomputable def sv(K:Kl)(n:Nat):Sp:=λvs H Q _=>∃(sc c U:JR) (ns:JP Int) (ws:JP Str) (a:Nat) (k:Int) (B:Hp),vs=[.ref sc,.ref c,.int k,.ref U]/\k=(n:Int)/\1<=n/\bY B H/\B c=none/\ck K B sc (ns.map V.int)/\ns.length<=63/\lC B U ws/\
 H c=some (.lst [.int ((a:Nat):Int)])/\a+2 ^ n<=900/\
 ∀ x t (J:Nat) H',SX c H H'->H' c=some (.lst [.int ((J:Nat):Int)])->cD false H' x t.told->Gd t->t.dep+1<=n->J+1<=a+2 ^ n->t.many+2*min a 16<=1+2*min J 16->Q x H'
noncomputable def spT(K:Kl):Nat->Sp
 |0=>λ_ _ _ _=>LG
 |n+1=>sv K n
noncomputable def C6:TT:=λσ H Q=>∃(c:JR) (k a r:Int),σ[1]? =some (some (.ref c))/\σ[2]? =some (some (.int k))/\σ[4]? =some (some (.int r))/\H c=some (.lst [.int a])/\Q (decide (k<2\/16<a\/r%9<2)) H
theorem tu:da ["_law_script","_law_at","_law_deep","_law_menu_here","_law_number_here","_law_far","_law_one"] ["_law_script","_law_at","_law_deep","_law_menu_here"] (cG nL):=⟨rfl,rfl,rfl,dkq,rfl,dkq,dkq⟩
seal cH PS PE PT PA PG PI cT cP in
theorem yE{f fm fn fp:JR}{fd fdm fdn fdp:J2}(D:Df K mg "_law_tree" nL f fd)(DM:Df K mg "_law_mixed" ju fm fdm)(DN:Df K mg "_law_number" lX fn fdn)(DP:Df K mg "_law_plain" kX fp fdp)(T:Txt mg)(n:Nat)
  (GT:bX P w K mg base b7 (n+2) f fd ["_law_script","_law_at","_law_deep","_law_menu_here"] (spT K n)):bX P w K mg base b7 (n+3) f fd ["_law_script","_law_at","_law_deep","_law_menu_here"] (sv K n):=by
 have GM:bX P w K mg base b7 (n+2) fm fdm ["_law_number_here","_law_k"] pM:=(qX DM).mono (by omega)
 have bM:=DM.F.binds (ps:=["_law_number_here","_law_k"]) λ_ _ _ _ _ _ us hl=>iX (λ_ _=>rfl) us hl
 have GN:bX P w K mg base b7 (n+2) fn fdn ["_law_script","_law_k"] (v5 K):=(Ak DN DM T).mono (by omega)
 have bN:=DN.F.binds (ps:=["_law_script","_law_k"]) λ_ _ _ _ _ _ us hl=>iX (λ_ _=>rfl) us hl
 have GP:bX P w K mg base b7 (n+2) fp fdp ["_law_number_here","_law_menu_here"] Be:=(BB DP DM T).mono (by omega)
 have bP:=DP.F.binds (ps:=["_law_number_here","_law_menu_here"]) λ_ _ _ _ _ _ us hl=>iX (λ_ _=>rfl) us hl
 have bT:=D.F.binds (ps:=["_law_script","_law_at","_law_deep","_law_menu_here"]) λ_ _ _ _ _ _ us hl=>match us,hl with|[_,_,_,_],_=>rfl
 refine D.F.ok tu (λvs H Q E h=>?_) (λcdv A outer s H vs Q E hr h=>?_)
 ·obtain⟨sc,c,me,ns,ws,a,k,B,rfl,_⟩:=h;rfl
 ·obtain⟨sc,c,me,ns,ws,a,k,B,rfl,rfl,hn,sB,nB,hS,hlen,hM,hc,ha,kk⟩:=h;refine⟨_,b9 (vq (cA eD (cK fO (pv 1) bZ (λ_ _=>rfl)) bZ) (Fo (pv 1) bZ set_list))
   (b9 (cZ (i:=4) tu.nd rfl (Kh rfl) (cQ GN hr rfl DN.m DN.F.kp bN .nil cz (bU (pv 0) (bU (cK fO (pv 1) bZ (λ_ _=>rfl)) bV))))
   (b9 (cM (PT.imp (t':=C6) (PW.pt (gn (cx iQ (pv 2) bZ (cC _)) (gn (cx iJ (cK fO (pv 1) bZ (λ_ _=>rfl)) bZ (cC _)) (ia (cx iQ (cA fI (pv 4) bZ) bZ (cC _)))))) ?mC)
    (b5 (cy (cQ GP hr rfl DP.m DP.F.kp bP .nil cz (bU (cA iu (pv 4) bZ) (bU (pv 3) bV))))) cY)
   (b9 (cM (cx cU (cA fI (pv 4) bZ) bZ (cC _))
    (b9 (cZ (i:=5) tu.nd rfl (Kh rfl) (cA fI (cA iu (pv 4) bZ) (cK fO (eZ (bU bZ (bU bZ bV))) (cA fI (cA iu (pv 4) bZ) bZ) (λ_ _=>rfl))))
    (b5 (cy (dv (bU b8 (bU (cQ GP hr rfl DP.m DP.F.kp bP .nil cz (bU (cA iu (pv 4) bZ) (bU (pv 3) bV)))
     (bU (cQ GP hr rfl DP.m DP.F.kp bP .nil cz (bU (cQ GM hr rfl DM.m DM.F.kp bM .nil cz (bU (pv 4) (bU bZ bV))) (bU (pv 3) bV))) (bU (pv 5) bV)))))))) cY)
   (b9 (cM (cx cU (cA fI (pv 4) bZ) bZ (cC _))
    (b5 (cy (dv (bU b8 (bU (cQ GT hr rfl D.m D.F.kp bT .nil cz (bU (pv 0) (bU (pv 1) (bU (cA pD (pv 2) bZ) (bU (pv 3) bV))))) bV))))) cY)
   (b9 (cZ (i:=6) tu.nd rfl (Kh rfl) (cQ GT hr rfl D.m D.F.kp bT .nil cz (bU (pv 0) (bU (pv 1) (bU (cA pD (pv 2) bZ) (bU (pv 3) bV))))))
   (b5 (cy (dv (bU (cK fO (eZ (bU b8 (bU b8 bV))) (cA fI (pv 4) bZ) (λ_ _=>rfl)) (bU (pv 6)
    (bU (cQ GT hr rfl D.m D.F.kp bT .nil cz (bU (pv 0) (bU (pv 1) (bU (cA pD (pv 2) bZ) (bU (pv 3) bV))))) bV))))))))))),?_⟩
  rotate_left
  ·have p2:1<=2 ^ n:=Nat.one_le_two_pow;refine⟨_,rfl,c,_,0,_,rfl,rfl,ck.of hc,cJ (j:=0) rfl,_,_,rfl,rfl,?_⟩;refine⟨_,rfl,c,_,_,0,rfl,rfl,hc,rfl,?_⟩;have x1:SX c H (upd H c (.lst [.int (((a+1:Nat)):Int)])):=F6;have b1:=x1.base sB nB;refine⟨_,rfl,_,rfl,c,_,0,_,rfl,rfl,ck.of b6,cJ (j:=0) rfl,sc,ns,a+1,rfl,b1.seq hS,hlen,by omega,λr H2 r0 r1 s2=>?_⟩;have U:H2 c=some (.lst [.int (((a+1:Nat)):Int)]):=s2 _ _ b6;have x2:=x1.same s2;have b2:=x2.base sB nB;have menu:∀{H3:Hp},bY B H3->lC H3 me ws:=λs=>⟨s _ _ hM.1,hM.2⟩
   refine⟨c,_,_,r,rfl,rfl,rfl,U,?_⟩;by_cases cut:((n:Nat):Int)<2\/(16:Int)<((a+1:Nat):Int)\/r%9<2
   ·rw[JS cut];refine cg ⟨_,rfl,_,_,rfl,rfl,⟨by decide,by decide⟩,_,rfl,_,me,ws,rfl,menu b2,λx t H3 s3 hx lk gd=>?_⟩;have hd:=At.lf_dep lk;have hm:=At.lf_many lk;have pn:2<=2 ^ n:=by
     have:2 ^ 1<=2 ^ n:=LK (by decide) hn;simpa using this
    exact kk x t (a+1) H3 (x2.same s3) (s3 _ _ U) hx gd (by omega) (by omega) (by omega)
   rw[JQ cut];obtain⟨m,rfl⟩:∃ m,n=m+1:=⟨n-1,by omega⟩;have I:1<=m:=by omega
   have pe:2 ^ (m+1)=2 ^ m+2 ^ m:=by rw[Nat.pow_succ];omega
   have pm:2<=2 ^ m:=by
    have:2 ^ 1<=2 ^ m:=LK (by decide) I;simpa using this
   refine cj ⟨_,rfl,_,_,rfl,rfl,(by show(0:Int)<9;decide),rfl,_,rfl,?_⟩;refine i4 (λ_=>?_) (λ_=>?_)
   ·refine⟨_,rfl,_,_,rfl,rfl,⟨by decide,by decide⟩,eJ,λp hp=>⟨_,rfl,_,_,rfl,rfl,⟨by decide,by decide⟩,_,_,rfl,rfl,(by show(0:Int)<2;decide),?_⟩⟩;have s3:bY H2 (upd H2 p (.lst [.int 3,.int 21])):=cq hp;obtain⟨i,hi,ab⟩:=mj (r:=r/9) (n:=2) (by decide);obtain⟨q,hq,ai,eq⟩:∃ q:Int,0<q/\q<=21/\([V.int 3,V.int 21])[i]? =some (V.int q):=by
     match i,ab with
     |0,_=>exact⟨3,by decide,by decide,rfl⟩
     |1,_=>exact⟨21,by decide,by decide,rfl⟩
     |i+2,h=>omega
    refine⟨p,_,_,.int q,rfl,rfl,ck.of b6,by rw[<-hi];exact cJ eq,_,_,rfl,rfl,hq,?_⟩;have f0:=LR (r/18) (show q≠0 by omega);have f1:=Ly (r/18) hq;refine⟨_,rfl,_,_,rfl,rfl,⟨by decide,by decide⟩,_,rfl,_,me,ws,rfl,menu (b2.trans s3),λx1 t1 H4 s4 ae l1 g1=>?_⟩;refine⟨_,rfl,_,5,rfl,by decide,by decide,λr2 _ _=>⟨_,rfl,_,me,ws,rfl,menu ((b2.trans s3).trans s4),λaj t2 H5 s5 af l2 g2=>?_⟩⟩;refine⟨_,rfl,ie,λu J=>?_⟩;have d1:=At.lf_dep l1;have d2:=At.lf_dep l2;have m1:=At.lf_many l1;have m2:=At.lf_many l2;refine kk _ (.near t1 t2 (r/18%q)) (a+1) _ ((((x2.same s3).same s4).same s5).same (cq J)) (cq J _ _ (s5 _ _ (s4 _ _ (s3 _ _ U)))) ?_ ⟨⟨l1,l2⟩,⟨f0,by omega⟩,g1,g2⟩ (by show max t1.dep t2.dep+1+1<=m+1;omega) (by omega) (by show 1+(t1.many+t2.many)+2*min a 16<=1+2*min (a+1) 16;omega);exact .tup b6 (.cons (.str _) (.cons ((ae.same s5).same (cq J)) (.cons (af.same (cq J)) (.cons (.int _) .nil))))
   refine⟨_,rfl,_,_,rfl,rfl,(by show(0:Int)<9;decide),rfl,_,rfl,?_⟩;refine i4 (λ_=>?_) (λ_=>?_)
   ·refine⟨_,rfl,_,rfl,_,rfl,_,_,rfl,rfl,_,rfl,sc,c,me,ns,ws,a+1,_,B,rfl,by omega,I,b2,nB,hS,hlen,hM,U,by omega,λx t a' H3 x3 aa hx gd hd h1 h2=>?_⟩;refine⟨eJ,λu J=>?_⟩;exact kk _ (.no t) a' _ ((x2.trans x3).same (cq J)) (cq J _ _ aa) (.tup b6 (.cons (.str _) (.cons (hx.same (cq J)) .nil))) gd (by show t.dep+1+1<=m+1;omega) (by omega) (by show 1+t.many+2*min a 16<=1+2*min a' 16;omega)
   refine⟨_,rfl,_,rfl,_,rfl,_,_,rfl,rfl,_,rfl,sc,c,me,ns,ws,a+1,_,B,rfl,by omega,I,b2,nB,hS,hlen,hM,U,by omega,λx t a' H3 x3 aa hx gd hd h1 h2=>?_⟩;have b3:=x3.base b2 nB;refine⟨eJ,λp hp=>⟨_,rfl,_,_,rfl,rfl,(by show(0:Int)<2;decide),?_⟩⟩;obtain⟨i,hi,ab⟩:=mj (r:=r) (n:=2) (by decide);obtain⟨nm,cc,c1,c2,c3,c4,eq⟩:∃(nm:Str) (cc:At->At->At),(∀ a b,(cc a b).told= .tuple [.str nm,a.told,b.told])/\(∀ a b,(cc a b).dep=max a.dep b.dep+1)/\(∀ a b,(cc a b).many=1+(a.many+b.many))/\(∀ a b,Gd a->Gd b->Gd (cc a b))/\([V.str "both",V.str "either"])[i]? =some (V.str nm):=by
    match i,ab with
    |0,_=>exact⟨"both",.both,λ_ _=>rfl,λ_ _=>rfl,λ_ _=>rfl,λ_ _ h1 h2=>⟨h1,h2⟩,rfl⟩
    |1,_=>exact⟨"either",.either,λ_ _=>rfl,λ_ _=>rfl,λ_ _=>rfl,λ_ _ h1 h2=>⟨h1,h2⟩,rfl⟩
    |i+2,h=>omega
   have s4:bY H3 (upd H3 p (.lst [.str "both",.str "either"])):=cq hp;refine⟨p,_,_,.str nm,rfl,rfl,ck.of b6,by rw[<-hi];exact cJ eq,_,rfl,?_⟩;refine⟨_,rfl,_,rfl,_,rfl,_,_,rfl,rfl,_,rfl,sc,c,me,ns,ws,a',_,B,rfl,by omega,I,b3.trans s4,nB,hS,hlen,hM,s4 _ _ aa,by omega,λy t2 a2 H5 x5 ag hy ah hd2 h3 h4=>?_⟩;refine⟨fG,λu J=>?_⟩;have ky:cD false (upd H5 u (.tup [.str nm,x,y])) x t.told:=((hx.same s4).keep (x5.keep (s4 _ _ aa))).same (cq J);exact kk _ (cc t t2) a2 _ ((((x2.trans x3).same s4).trans x5).same (cq J)) (cq J _ _ ag) (by rw[c1];exact .tup b6 (.cons (.str _) (.cons ky (.cons (hy.same (cq J)) .nil)))) (c4 _ _ gd ah) (by rw[c2];omega) (by omega) (by rw[c3];omega)
  case mC=>
   rintro σ H Q ⟨c,k,a,r,e1,e2,e4,hc,q⟩;refine⟨_,e2,_,_,rfl,rfl,_,rfl,?_⟩;by_cases h1:k<2
   ·rw[JS h1];rw[JS (.inl h1)] at q;exact cg q
   ·rw[JQ h1];refine cj ⟨_,e1,c,_,0,_,rfl,rfl,ck.of hc,cJ (j:=0) rfl,_,_,rfl,rfl,_,rfl,?_⟩;by_cases h2:16<a
    ·rw[JS h2];rw[JS (.inr (.inl h2))] at q;exact cg q
    ·rw[JQ h2];refine cj ⟨_,e4,_,_,rfl,rfl,(by show(0:Int)<9;decide),_,_,rfl,rfl,_,rfl,?_⟩;have:decide (k<2\/16<a\/r%9<2)=decide (r%9<2):=by simp[h1,h2]
     rw[this] at q;exact q
theorem yI{f fm fn fp:JR}{fd fdm fdn fdp:J2}(D:Df K mg "_law_tree" nL f fd)(DM:Df K mg "_law_mixed" ju fm fdm)(DN:Df K mg "_law_number" lX fn fdn)(DP:Df K mg "_law_plain" kX fp fdp)(T:Txt mg):
  ∀ n:Nat,bX P w K mg base b7 (n+3) f fd ["_law_script","_law_at","_law_deep","_law_menu_here"] (sv K n)
 |0=>yE D DM DN DP T 0 rO
 |n+1=>yE D DM DN DP T (n+1) (yI D DM DN DP T n)
end
noncomputable def At.rest:At->JP Kf
 |.word z=>[.str z]|.start z=>[.str z]|.row zs=>[.tuple (zs.map .str)]|.near a b n=>[a.told,b.told,.int n]|.both a b=>[a.told,b.told]|.either a b=>[a.told,b.told]|.no a=>[a.told]
theorem At.told_eq (t:At):t.told= .tuple (.str t.nm::t.rest):=by cases t<;>rfl
theorem cD.t0 {l:KS}{H:Hp}{x:V}{z:Str}{ds:JP Kf}(h:cD l H x (.tuple (.str z::ds))):∃ p xs,x= .ref p/\H p=some (.tup (.str z::xs))/\cV l H xs ds:=by
 cases h with
 |tup ha J=>cases J with
  |cons h0 J=>cases h0 with
   |str _=>exact⟨_,_,rfl,ha,J⟩
theorem Cv{b:KS}{A B:Prop}(h:b=false)(q:B):if b=true then A else B:=by rw[h];exact cj q
theorem Bq{b:KS}{A B:Prop}(h:b=true)(q:A):if b=true then A else B:=by rw[h];exact cg q
theorem cV.one {l:KS}{H:Hp}{xs:JP V}{a:Kf}(h:cV l H xs [a]):∃ x,xs=[x]/\cD l H x a:=by
 cases h with
 |cons h0 J=>cases J with
  |nil=>exact⟨_,rfl,h0⟩
noncomputable def At.isTwo:At->KS
 |.near _ _ _=>true|.both _ _=>true|.either _ _=>true|_=>false
theorem Fm(t:At):e9 (.str t.nm) [.str "both",.str "either",.str "near"]=t.isTwo:=by
 cases t with
 |word z=>exact(show e9 (V.str "word") [.str "both",.str "either",.str "near"]=false from dkq)
 |start z=>exact(show e9 (V.str "start") [.str "both",.str "either",.str "near"]=false from dkq)
 |row z=>exact(show e9 (V.str "row") [.str "both",.str "either",.str "near"]=false from dkq)
 |near a b n=>exact(show e9 (V.str "near") [.str "both",.str "either",.str "near"]=true from dkq)
 |both a b=>exact(show e9 (V.str "both") [.str "both",.str "either",.str "near"]=true from dkq)
 |either a b=>exact(show e9 (V.str "either") [.str "both",.str "either",.str "near"]=true from dkq)
 |no a=>exact(show e9 (V.str "not") [.str "both",.str "either",.str "near"]=false from dkq)
section
variable {P : Ka} {w : Ku} {K : J7} {mg : Str -> JW JT} {base : KP}
noncomputable def rj:Sp:=λvs H Q _=>∃(x:V) (t:At),vs=[x]/\cD false H x t.told/\∀ l xs H',bY H H'->H l=none->H' l=some (.lst xs)->cV false H' xs (t.kids.map At.told)->Q (.ref l) H'
theorem Cg:da ["_law_told"] ["_law_told"] (cG kT):=⟨rfl,rfl,rfl,dkq,rfl,dkq,dkq⟩
seal cH PS PE PT PA PG PI cT cP in
theorem uu{f:JR}{fd:J2}(D:Df K mg "_law_kids" kT f fd):bX P w K mg base b7 1 f fd ["_law_told"] rj:=by
 refine D.F.ok Cg (λvs H Q E h=>?_) (λcdv A outer s H vs Q E hr h=>?_)
 ·obtain⟨x,t,rfl,_⟩:=h;rfl
 ·obtain⟨x,t,rfl,hp,k⟩:=h;refine⟨_,b9 (cM (cx kC (cK dS (pv 0) bZ (λ_ _=>rfl)) (dv (bU b8 (bU b8 (bU b8 bV)))) (by with_unfolding_all rfl)) (b5 (cy (eZ (bU (cK dS (pv 0) bZ (λ_ _=>rfl)) (bU (cK dS (pv 0) bZ (λ_ _=>rfl)) bV))))) cY)
   (b5 (cy (ji (cx cU (cK dS (pv 0) bZ (λ_ _=>rfl)) b8 (cC _)) (eZ (bU (cK dS (pv 0) bZ (λ_ _=>rfl)) bV)) (eZ bV)))),?_⟩;obtain⟨p,xs,rfl,ha,hs⟩:=(t.told_eq ▸ hp).t0;refine⟨_,rfl,p,_,0,_,rfl,rfl,cu.of ha,cJ (j:=0) rfl,fG,λq hq=>⟨q,_,rfl,.inr (cu.of b6),rfl,rfl,_,rfl,?_⟩⟩;have s1:bY H (upd H q (.tup [.str "both",.str "either",.str "near"])):=cq hq;have e:=Fm t;have U:=s1 _ _ ha;have two:∀ a b,t.rest.take 2=[a,b]->t.kids.map At.told=[a,b]->∃ I x2,xs[0]? =some I/\xs[1]? =some x2/\cV false H [I,x2] (t.kids.map At.told):=λa b e1 e2=>by
   have h2:∀{xs:JP V} {ds:JP Kf},cV false H xs ds->ds.take 2=[a,b]->∃ I x2,xs[0]? =some I/\xs[1]? =some x2/\cV false H [I,x2] [a,b]:=λhs e=>by
    cases hs with
    |nil=>simp at e
    |cons h0 hs=>cases hs with
     |nil=>simp at e
     |cons h1 hs=>
      simp at e;obtain⟨rfl,rfl⟩:=e;exact⟨_,_,rfl,rfl,.cons h0 (.cons h1 .nil)⟩
   rw[e2];exact h2 hs e1
  have ht:t.isTwo=true->∃ a b,t.rest.take 2=[a,b]/\t.kids.map At.told=[a,b]:=λh=>by
   cases t with
   |near a b n=>exact⟨_,_,rfl,rfl⟩
   |both a b=>exact⟨_,_,rfl,rfl⟩
   |either a b=>exact⟨_,_,rfl,rfl⟩
   |word z=>cases h
   |start z=>cases h
   |row z=>cases h
   |no a=>cases h
  cases hq2:t.isTwo with
  |true=>
   obtain⟨a,b,e1,e2⟩:=ht hq2;obtain⟨I,x2,g1,g2,hk⟩:=two a b e1 e2;exact Bq (b:=e9 (.str t.nm) [.str "both",.str "either",.str "near"]) (e.trans hq2)
    ⟨_,rfl,p,_,1,I,rfl,rfl,cu.of U,cJ (j:=1) (by simpa using g1),_,rfl,p,_,2,x2,rfl,rfl,cu.of U,cJ (j:=2) (by simpa using g2),eJ,λl J=>k l _ _ (s1.upf J) (bY.free s1 J) b6 (cV.same (s1.upf J) hk)⟩
  |false=>
  refine Cv (b:=e9 (.str t.nm) [.str "both",.str "either",.str "near"]) (e.trans hq2) ?_;cases t with
  |near a b n=>cases hq2
  |both a b=>cases hq2
  |either a b=>cases hq2
  |no a=>
   obtain⟨I,rfl,h1⟩:=cV.one hs;exact⟨_,rfl,p,_,0,_,rfl,rfl,cu.of U,cJ (j:=0) rfl,rfl,_,rfl,mw rfl ⟨_,rfl,p,_,1,I,rfl,rfl,cu.of U,cJ (j:=1) rfl,eh,λl J=>k l _ _ (s1.upf J) (bY.free s1 J) b6 (cV.same (s1.upf J) (.cons h1 .nil))⟩⟩
  |word z=>exact⟨_,rfl,p,_,0,_,rfl,rfl,cu.of U,cJ (j:=0) rfl,rfl,_,rfl,fM (a:="word") dkq ⟨oX,λl J=>k l _ _ (s1.upf J) (bY.free s1 J) b6 .nil⟩⟩
  |start z=>exact⟨_,rfl,p,_,0,_,rfl,rfl,cu.of U,cJ (j:=0) rfl,rfl,_,rfl,fM (a:="start") dkq ⟨oX,λl J=>k l _ _ (s1.upf J) (bY.free s1 J) b6 .nil⟩⟩
  |row z=>exact⟨_,rfl,p,_,0,_,rfl,rfl,cu.of U,cJ (j:=0) rfl,rfl,_,rfl,fM (a:="row") dkq ⟨oX,λl J=>k l _ _ (s1.upf J) (bY.free s1 J) b6 .nil⟩⟩
end
end K13
namespace L2
open PySem PySem.Spec PyProof.Rows
theorem Ii{X:Cx}:jC X "str.join" (λx xs H Q=>∃ z p ys,x= .str z/\xs=[.ref p]/\cu X.K H p (ys.map V.str)/\(ys.map (·.length)).sum+ys.length*z.length<=16777216/\Q (.str (Txt.join z ys)) H):=by
 intro pins s σ H x xs v us Q I J rs h;obtain⟨z,p,ys,rfl,rfl,U,hz,q⟩:=h;obtain⟨t,rfl⟩:=J;obtain⟨u,rfl,r1⟩:=vals1 rs;cases r1;obtain⟨aa,r,pl,_⟩:=I.tuple U;exact join_tuple pl (by simpa using tL r) hz λt' k=>⟨.str _,H,I.tok _,⟨_,rfl⟩,q⟩
end L2
namespace K13
open PySem L2 PyProof.Rows PySem.Spec Gn K01
noncomputable def f9(i:Kn):K0:=inClass (vD i) 2
noncomputable def iw:Kn->Str
 |.w=>"Word.written" |.s=>"Start.written" |.r=>"Row.written" |.n=>"Near.written" |.b=>"Both.written" |.e=>"Either.written" |.o=>"Not.written"
noncomputable def gR:JP V:=[.str "and",.str "or",.str "not"]
noncomputable def isJ(z:Str):KS:=e9 (.str z) gR
noncomputable def eL(c:KS)(l:JP Nat):JP Nat:=if c then 40::(l++[41]) else l
noncomputable def eI:Kn->KS
 |.e=>true|_=>false
noncomputable def eF:Kn->KS
 |.e=>true|.b=>true|_=>false
noncomputable def dE(n:Int):JP Nat:=codes (JO (toString n))
noncomputable def At.lin:At->JP Nat
 |.word z=>if isJ z then 34::(codes z++[34]) else codes z
 |.start z=>codes z++[42]
 |.row zs=>34::(codes (Txt.join " " zs)++[34])
 |.near a b n=>a.lin++([32,126]++(dE n++(32::b.lin)))
 |.both a b=>eL (eI a.kn) a.lin++([32,97,110,100,32]++eL (eF b.kn) b.lin)
 |.either a b=>a.lin++([32,111,114,32]++eL (eI b.kn) b.lin)
 |.no a=>[110,111,116,32]++eL (eF a.kn) a.lin
theorem lh(c:KS)(l:JP Nat):l.length<=(eL c l).length/\(eL c l).length<=l.length+2:=by
 cases c with
 |false=>exact⟨JY _,Nat.le_add_right _ _⟩
 |true=>show _<=(40::(l++[41])).length/\(40::(l++[41])).length<=_;rw[JV,JU];exact⟨by omega,by show _+1+1<=_;omega⟩
noncomputable def Fits:At->Prop
 |.row zs=>(zs.map (·.length)).sum+zs.length*1<=16777216
 |.near a b n=>Fits a/\Fits b/\n.natAbs.log2<1920
 |.both a b=>Fits a/\Fits b
 |.either a b=>Fits a/\Fits b
 |.no a=>Fits a
 |_=>O3
theorem i6:mr "written":=by unfold mr;decide +kernel
section
variable {P : Ka} {w : Ku} {K : J7} {mg : Str -> JW JT} {base : KP} {C f : Kn -> JR} {fd : Kn -> J2}
noncomputable def gm(C:Kn->JR)(n:Nat)(i:Kn):Sp:=λvs H Q _=>∃(a:JR) (t:At),vs=[.ref a]/\dZ C H a t/\t.dep<=n/\t.kn=i/\Fits t/\t.lin.length<=10000/\∀ H',bY H H'->Q (.str ⟨t.lin.toArray⟩) H'
noncomputable def ki(C:Kn->JR)(n:Nat):Sp:=λvs H Q _=>∃(a:JR) (t:At),vs=[.ref a]/\dZ C H a t/\t.dep<=n/\Fits t/\t.lin.length<=10000/\∀ H',bY H H'->Q (.str ⟨(40::(t.lin++[41])).toArray⟩) H'
theorem je(M:Mt K C "written" iw f9 f fd)(i:Kn):Binds K (fd i) ["self"] []:=by
 cases i<;>exact(M.F _).binds (ps:=["self"]) λ_ _ _ _ _ _ us J=>match us,J with|[_],_=>rfl
theorem tI(i:Kn)(h:i≠ .b)(h2:i≠ .e)(h3:i≠ .o):da ["self"] ["self"] (cG (f9 i)):=by
 cases i<;>first|exact absurd rfl h|exact absurd rfl h2|exact absurd rfl h3|exact⟨rfl,rfl,rfl,dkq,rfl,dkq,dkq⟩
theorem vc:da ["self","one","other"] ["self"] (cG (f9 .b)):=⟨rfl,rfl,rfl,dkq,rfl,dkq,dkq⟩
theorem xK:da ["self","other"] ["self"] (cG (f9 .e)):=⟨rfl,rfl,rfl,dkq,rfl,dkq,dkq⟩
theorem xZ:da ["self","one"] ["self"] (cG (f9 .o)):=⟨rfl,rfl,rfl,dkq,rfl,dkq,dkq⟩
theorem Bj:da ["ask"] ["ask"] (cG iD):=⟨rfl,rfl,rfl,dkq,rfl,dkq,dkq⟩
theorem dC{n:Nat}(h:n<=30000):n<=sizeLine:=by rw[Kv];omega
seal cH PS PE PT PA PG PI cT cP in
theorem BF{g:JR}{gd:J2}{n L:Nat}(D:Df K mg "in_brackets" iD g gd)(Cl:Cs K C)(M:Mt K C "written" iw f9 f fd)(IH:∀ i,bX P w K mg base b7 L (f i) (fd i) ["self"] (gm C n i)):bX P w K mg base b7 (L+1) g gd ["ask"] (ki C n):=by
 refine D.F.ok Bj (λvs H Q E h=>?_) (λcdv A outer s H vs Q E I h=>?_)
 ·obtain⟨a,t,rfl,_⟩:=h;rfl
 ·obtain⟨a,t,rfl,J,hd,hf,hl,k⟩:=h;refine⟨_,b5 (cy (cA gf (cA gf b8 (gc (pv 0) Cl.cl M.M IH I (je M) cz)) b8)),?_⟩;obtain⟨dp,fp,ep,lp⟩:=J.ob;refine⟨_,rfl,t.kn,a,dp,fp,rfl,ep,lp _ i6,a,t,rfl,J,hd,rfl,hf,hl,λH1 s1=>?_⟩;have U:(JO "("++⟨t.lin.toArray⟩:Str)=⟨(40::t.lin).toArray⟩:=fN [40] t.lin;have e2:(⟨(40::t.lin).toArray⟩++JO ")":Str)=⟨(40::(t.lin++[41])).toArray⟩:=fN (40::t.lin) [41];refine⟨_,_,rfl,rfl,dC (by show 1+(⟨t.lin.toArray⟩:Str).length<=_;rw[du];omega),?_⟩;refine⟨_,_,rfl,rfl,dC (by show(JO "("++⟨t.lin.toArray⟩:Str).length+1<=_;rw[U,du];simp;omega),?_⟩;show Q (V.str (JO "("++⟨t.lin.toArray⟩++JO ")")) H1;rw[U,e2];exact k H1 s1
noncomputable def tW(K:Kl)(C:Kn->JR)(n:Nat)(fld:Str)(kf:Kn->KS):TE:=λσ H Q=>∃(a J p dx:JR) (fs:JP (Str×V)) (t:At),σ[0]? =some (some (.ref a))/\H a=some (.ins J dx fs)/\gB K J/\gg K J fld/\fs.lookup fld=some (.ref p)/\dZ C H p t/\t.dep<=n/\Fits t/\t.lin.length<=10000/\∀ H',bY H H'->Q (.str ⟨(eL (kf t.kn) t.lin).toArray⟩) H'
seal cH PS PE PT PA PG PI cT cP in
theorem Bx{g j:JR}{gd:J2}(Cl:Cs K C)(M:Mt K C "written" iw f9 f fd)(DB:Df K mg "in_brackets" iD g gd)(N:Nm mg C)(hJ:mg "JOINING"=some (.ref j))(kJ:∀ H,cu K H j gR)(hE:∀ i,Lw K (.ref (C i)) (.ref (C .e))=some (eI i))(hBE:∀ i,Lm K (.ref (C i)) ([C .b,C .e].map Ky)=some (eF i))(T:Txt mg)
  (n:Nat)(IH:0<n->∀ i,bX P w K mg base b7 (2*n) (f i) (fd i) ["self"] (gm C (n-1) i))(IB:0<n->bX P w K mg base b7 (2*n) g gd ["ask"] (ki C (n-1))):
  bX P w K mg base b7 (2*n+1) (f .w) (fd .w) ["self"] (gm C n .w):=by
 have bB:=dY (p:="ask") DB.F λ_ _ _ _ _ _ _=>rfl
 refine(M.F .w).ok (tI .w (by decide) (by decide) (by decide)) (λvs H Q E h=>?_) (λcdv A outer s H vs Q E hr h=>?_)
 ·obtain⟨a,t,rfl,_⟩:=h;rfl
 ·obtain⟨a,t,rfl,hA,hd,hk,hf,hl,k⟩:=h;cases t with
  |word z=>
   obtain⟨dx,I⟩:=hA;refine⟨_,b5 (cy (ji (cx kC (df (pv 0) rfl) (fH (v:= .ref j) rfl hJ rfl) rfl) (cA gf (cA gf b8 (df (pv 0) rfl)) b8) (df (pv 0) rfl))),?_⟩;refine⟨_,rfl,a,C .w,dx,_,_,rfl,I,Cl.cl _,Cl.nW _,oV z,j,gR,rfl,.inr (kJ _),rfl,rfl,_,rfl,?_⟩;have J:(if isJ z=true then 34::(codes z++[34]) else codes z).length<=10000:=hl;have U:∀ H',bY H H'->Q (.str ⟨(if isJ z=true then 34::(codes z++[34]) else codes z).toArray⟩) H':=k;refine i4 (λhb=>?_) (λhb=>?_)
   ·have hj:isJ z=true:=hb;rw[hj] at J U;have hz:(codes z).length<=10000:=by
     have:(34::(codes z++[34])).length<=10000:=J;rw[JV,JU] at this;omega
    have zl:z.length=(codes z).length:=(str_len z).symm
    have e1:(JO "\""++z:Str)=⟨(34::codes z).toArray⟩:=by
     have:=fN [34] (codes z);rw[toStr] at this;exact this
    have e2:(⟨(34::codes z).toArray⟩++JO "\"":Str)=⟨(34::(codes z++[34])).toArray⟩:=fN (34::codes z) [34];refine⟨_,rfl,a,C .w,dx,_,_,rfl,I,Cl.cl _,Cl.nW _,oV z,_,_,rfl,rfl,dC (by show 1+z.length<=_;omega),_,_,rfl,rfl,dC (by show(JO "\""++z:Str).length+1<=_;rw[e1,du];show _+1+1<=_;omega),?_⟩;show Q (V.str (JO "\""++z++JO "\"")) H;rw[e1,e2];exact U H (bY.refl _)
   ·have hj:isJ z=false:=Bool.eq_false_iff.mpr hb;rw[hj] at U;have k2:=U H (bY.refl _);have k3:Q (.str ⟨(codes z).toArray⟩) H:=k2;rw[toStr] at k3;exact⟨_,rfl,a,C .w,dx,_,_,rfl,I,Cl.cl _,Cl.nW _,oV z,k3⟩
  |_=>cases hk
seal cH PS PE PT PA PG PI cT cP in
theorem Ib{g j:JR}{gd:J2}(Cl:Cs K C)(M:Mt K C "written" iw f9 f fd)(DB:Df K mg "in_brackets" iD g gd)(N:Nm mg C)(hJ:mg "JOINING"=some (.ref j))(kJ:∀ H,cu K H j gR)(hE:∀ i,Lw K (.ref (C i)) (.ref (C .e))=some (eI i))(hBE:∀ i,Lm K (.ref (C i)) ([C .b,C .e].map Ky)=some (eF i))(T:Txt mg)
  (n:Nat)(IH:0<n->∀ i,bX P w K mg base b7 (2*n) (f i) (fd i) ["self"] (gm C (n-1) i))(IB:0<n->bX P w K mg base b7 (2*n) g gd ["ask"] (ki C (n-1))):
  bX P w K mg base b7 (2*n+1) (f .s) (fd .s) ["self"] (gm C n .s):=by
 have bB:=dY (p:="ask") DB.F λ_ _ _ _ _ _ _=>rfl
 refine(M.F .s).ok (tI .s (by decide) (by decide) (by decide)) (λvs H Q E h=>?_) (λcdv A outer s H vs Q E hr h=>?_)
 ·obtain⟨a,t,rfl,_⟩:=h;rfl
 ·obtain⟨a,t,rfl,U,hd,hk,hf,I,k⟩:=h;cases t with
  |start z=>
   obtain⟨dx,hx⟩:=U;refine⟨_,b5 (cy (cA gf (df (pv 0) rfl) b8)),?_⟩;have J:(codes z++[42]).length<=10000:=I;rw[JU] at J;have zl:z.length=(codes z).length:=(str_len z).symm;have e1:(z++JO "*":Str)=⟨(codes z++[42]).toArray⟩:=by
    have:=fN (codes z) [42];rw[toStr] at this;exact this
   refine⟨_,rfl,a,C .s,dx,_,_,rfl,hx,Cl.cl _,Cl.nW _,oV z,_,_,rfl,rfl,dC (by show z.length+1<=_;omega),?_⟩;show Q (V.str (z++JO "*")) H;rw[e1];exact k H (bY.refl _)
  |_=>cases hk
seal cH PS PE PT PA PG PI cT cP in
theorem DV{g j:JR}{gd:J2}(Cl:Cs K C)(M:Mt K C "written" iw f9 f fd)(DB:Df K mg "in_brackets" iD g gd)(N:Nm mg C)(hJ:mg "JOINING"=some (.ref j))(kJ:∀ H,cu K H j gR)(hE:∀ i,Lw K (.ref (C i)) (.ref (C .e))=some (eI i))(hBE:∀ i,Lm K (.ref (C i)) ([C .b,C .e].map Ky)=some (eF i))(T:Txt mg)
  (n:Nat)(IH:0<n->∀ i,bX P w K mg base b7 (2*n) (f i) (fd i) ["self"] (gm C (n-1) i))(IB:0<n->bX P w K mg base b7 (2*n) g gd ["ask"] (ki C (n-1))):
  bX P w K mg base b7 (2*n+1) (f .r) (fd .r) ["self"] (gm C n .r):=by
 have bB:=dY (p:="ask") DB.F λ_ _ _ _ _ _ _=>rfl
 refine(M.F .r).ok (tI .r (by decide) (by decide) (by decide)) (λvs H Q E h=>?_) (λcdv A outer s H vs Q E hr h=>?_)
 ·obtain⟨a,t,rfl,_⟩:=h;rfl
 ·obtain⟨a,t,rfl,I,hd,hk,hf,hl,k⟩:=h;cases t with
  |row zs=>
   obtain⟨dx,q,hx,hq⟩:=I;refine⟨_,b5 (cy (cA gf (cA gf b8 (fS LA OL OM Ii b8 (bU (df (pv 0) rfl) bV))) b8)),?_⟩;have J:(34::(codes (Txt.join " " zs)++[34])).length<=10000:=hl;rw[JV,JU] at J;have zl:(Txt.join " " zs).length=(codes (Txt.join " " zs)).length:=(str_len _).symm;have U:(JO "\""++Txt.join " " zs:Str)=⟨(34::codes (Txt.join " " zs)).toArray⟩:=by
    have:=fN [34] (codes (Txt.join " " zs));rw[toStr] at this;exact this
   have e2:(⟨(34::codes (Txt.join " " zs)).toArray⟩++JO "\"":Str)=⟨(34::(codes (Txt.join " " zs)++[34])).toArray⟩:=fN (34::codes (Txt.join " " zs)) [34];refine⟨rfl,_,rfl,a,C .r,dx,_,_,rfl,hx,Cl.cl _,Cl.nR _,A6 q,_,q,zs,rfl,rfl,cu.of hq,hf,_,_,rfl,rfl,dC (by show 1+(Txt.join " " zs).length<=_;omega),_,_,rfl,rfl,dC (by show(JO "\""++Txt.join " " zs:Str).length+1<=_;rw[U,du];show _+1+1<=_;omega),?_⟩;show Q (V.str (JO "\""++Txt.join " " zs++JO "\"")) H;rw[U,e2];exact k H (bY.refl _)
  |_=>cases hk
seal cH PS PE PT PA PG PI cT cP in
theorem G0{g j:JR}{gd:J2}(Cl:Cs K C)(M:Mt K C "written" iw f9 f fd)(DB:Df K mg "in_brackets" iD g gd)(N:Nm mg C)(hJ:mg "JOINING"=some (.ref j))(kJ:∀ H,cu K H j gR)(hE:∀ i,Lw K (.ref (C i)) (.ref (C .e))=some (eI i))(hBE:∀ i,Lm K (.ref (C i)) ([C .b,C .e].map Ky)=some (eF i))(T:Txt mg)
  (n:Nat)(IH:0<n->∀ i,bX P w K mg base b7 (2*n) (f i) (fd i) ["self"] (gm C (n-1) i))(IB:0<n->bX P w K mg base b7 (2*n) g gd ["ask"] (ki C (n-1))):
  bX P w K mg base b7 (2*n+1) (f .n) (fd .n) ["self"] (gm C n .n):=by
 have bB:=dY (p:="ask") DB.F λ_ _ _ _ _ _ _=>rfl
 refine(M.F .n).ok (tI .n (by decide) (by decide) (by decide)) (λvs H Q E h=>?_) (λcdv A outer s H vs Q E hr h=>?_)
 ·obtain⟨a,t,rfl,_⟩:=h;rfl
 ·obtain⟨a,t,rfl,hA,hd,hk,hf,hl,k⟩:=h;cases t with
  |near x y m=>
   obtain⟨dx,p,q,U,hp,hq⟩:=hA;obtain⟨fx,fy,fm⟩:=hf;have aa:max x.dep y.dep+1<=n:=hd;have hn:0<n:=by omega
   have I:(x.lin++([32,126]++(dE m++(32::y.lin)))).length<=10000:=hl;simp only[JU,JV,Mc] at I;have l2:([32,126]:JP Nat).length=2:=rfl;refine⟨_,b5 (cy (cA gf (cA gf (cA gf (cA gf (gc (df (pv 0) rfl) Cl.cl M.M (IH hn) hr (je M) cz) b8) (il tT rfl T.str mm (bU (df (pv 0) rfl) bV))) b8) (gc (df (pv 0) rfl) Cl.cl M.M (IH hn) hr (je M) cz))),?_⟩;obtain⟨dp,fp,ep,lp⟩:=hp.ob;have J:(⟨x.lin.toArray⟩++JO " ~":Str)=⟨(x.lin++[32,126]).toArray⟩:=fN x.lin [32,126];have e2:(⟨(x.lin++[32,126]).toArray⟩++JO (toString m):Str)=⟨(x.lin++[32,126]++dE m).toArray⟩:=by
    have:=fN (x.lin++[32,126]) (dE m);rw[show(⟨(dE m).toArray⟩:Str)=JO (toString m) from toStr _] at this;exact this
   have e3:(⟨(x.lin++[32,126]++dE m).toArray⟩++JO " ":Str)=⟨(x.lin++[32,126]++dE m++[32]).toArray⟩:=fN _ [32]
   have e4:(⟨(x.lin++[32,126]++dE m++[32]).toArray⟩++⟨y.lin.toArray⟩:Str)=⟨(x.lin++([32,126]++(dE m++(32::y.lin)))).toArray⟩:=by
    rw[fN];simp
   have ml:(JO (toString m)).length=(dE m).length:=(str_len _).symm;refine⟨_,rfl,a,C .n,dx,_,_,rfl,U,Cl.cl _,Cl.n1 _,wG p q m,x.kn,p,dp,fp,rfl,ep,lp _ i6,p,x,rfl,hp,by omega,rfl,fx,by omega,λH1 s1=>?_⟩;refine⟨_,_,rfl,rfl,dC (by show(⟨x.lin.toArray⟩:Str).length+2<=_;rw[du];omega),_,rfl,a,C .n,dx,_,_,rfl,s1 _ _ U,Cl.cl _,Cl.n3 _,yr p q m,m,rfl,fm,_,_,rfl,rfl,dC (by show(⟨x.lin.toArray⟩++JO " ~":Str).length+(JO (toString m)).length<=_;rw[J,du,ml,JU];omega),_,_,rfl,rfl,dC (by show(⟨x.lin.toArray⟩++JO " ~"++JO (toString m):Str).length+1<=_;rw[J,e2,du,JU,JU];omega),?_⟩;obtain⟨dq,fq,eq,lq⟩:=(hq.same s1).ob;refine⟨_,rfl,a,C .n,dx,_,_,rfl,s1 _ _ U,Cl.cl _,Cl.n2 _,vA p q m,y.kn,q,dq,fq,rfl,eq,lq _ i6,q,y,rfl,hq.same s1,by omega,rfl,fy,by omega,λH2 s2=>?_⟩;refine⟨_,_,rfl,rfl,dC (by show(⟨x.lin.toArray⟩++JO " ~"++JO (toString m)++JO " ":Str).length+(⟨y.lin.toArray⟩:Str).length<=_;rw[J,e2,e3,du,du,JU,JU,JU];show _+1+_<=_;omega),?_⟩;show Q (V.str ((⟨x.lin.toArray⟩:Str)++JO " ~"++JO (toString m)++JO " "++(⟨y.lin.toArray⟩:Str))) H2;rw[J,e2,e3,e4];exact k H2 (s1.trans s2)
  |_=>cases hk
seal cH PS PE PT PA PG PI cT cP in
theorem DG{g j:JR}{gd:J2}(Cl:Cs K C)(M:Mt K C "written" iw f9 f fd)(DB:Df K mg "in_brackets" iD g gd)(N:Nm mg C)(hJ:mg "JOINING"=some (.ref j))(kJ:∀ H,cu K H j gR)(hE:∀ i,Lw K (.ref (C i)) (.ref (C .e))=some (eI i))(hBE:∀ i,Lm K (.ref (C i)) ([C .b,C .e].map Ky)=some (eF i))(T:Txt mg)
  (n:Nat)(IH:0<n->∀ i,bX P w K mg base b7 (2*n) (f i) (fd i) ["self"] (gm C (n-1) i))(IB:0<n->bX P w K mg base b7 (2*n) g gd ["ask"] (ki C (n-1))):
  bX P w K mg base b7 (2*n+1) (f .b) (fd .b) ["self"] (gm C n .b):=by
 have bB:=dY (p:="ask") DB.F λ_ _ _ _ _ _ _=>rfl
 refine(M.F .b).ok vc (λvs H Q E h=>?_) (λcdv A outer s H vs Q E hr h=>?_)
 ·obtain⟨a,t,rfl,_⟩:=h;rfl
 ·obtain⟨a,t,rfl,I,hd,hk,hf,hl,k⟩:=h;cases t with
  |both x y=>
   obtain⟨dx,p,q,hx,hp,hq⟩:=I;obtain⟨fx,fy⟩:=hf;have ae:max x.dep y.dep+1<=n:=hd;have hn:0<n:=by omega
   have aa:(eL (eI x.kn) x.lin++([32,97,110,100,32]++eL (eF y.kn) y.lin)).length<=10000:=hl;rw[JU,JU] at aa;have b1:=lh (eI x.kn) x.lin;have b2:=lh (eF y.kn) y.lin;have l2:([32,97,110,100,32]:JP Nat).length=5:=rfl;refine⟨_,b9 (cZ (i:=1) vc.nd rfl (Kh rfl) (PE.imp (t':=tW K C (n-1) "one" eI) (ji (fZ (dF jE rfl T.isi iP (bU (df (pv 0) rfl) (bU (fH (v:= .ref (C .e)) rfl N.e rfl) bV)))) (cQ (IB hn) hr rfl DB.m DB.F.kp bB .nil cz (bU (df (pv 0) rfl) bV)) (gc (df (pv 0) rfl) Cl.cl M.M (IH hn) hr (je M) cz)) ?mA)) (b9 (cZ (i:=2) vc.nd rfl (Kh rfl) (PE.imp (t':=tW K C (n-1) "other" eF) (ji (fZ (dF wQ rfl T.isi iP (bU (df (pv 0) rfl) (bU (dv (bU (fH (v:= .ref (C .b)) rfl N.b rfl) (bU (fH (v:= .ref (C .e)) rfl N.e rfl) bV))) bV)))) (cQ (IB hn) hr rfl DB.m DB.F.kp bB .nil cz (bU (df (pv 0) rfl) bV)) (gc (df (pv 0) rfl) Cl.cl M.M (IH hn) hr (je M) cz)) ?mB)) (b5 (cy (cA gf (cA gf (pv 1) b8) (pv 2))))),?_⟩
   rotate_left
   case mA=>
    rintro σ H Q ⟨a,cc,p,dx,fs,t,e0,ha,hc,J,U,I,hd,hf,hl,k⟩;obtain⟨dp,fp,ep,lp⟩:=I.ob;refine⟨_,e0,a,cc,dx,fs,_,rfl,ha,hc,J,U,.ref p,.ref (C .e),.ref (C t.kn),_,rfl,(Cl.ic _).ty ep,.inr ⟨_,rfl,hE _⟩,_,rfl,?_⟩;cases hk:eI t.kn with
    |true=>
     rw[hk] at k;exact cg ⟨_,e0,a,cc,dx,fs,_,rfl,ha,hc,J,U,p,t,rfl,I,hd,hf,hl,k⟩
    |false=>
     rw[hk] at k;exact cj ⟨_,e0,a,cc,dx,fs,_,rfl,ha,hc,J,U,t.kn,p,dp,fp,rfl,ep,lp _ i6,p,t,rfl,I,hd,rfl,hf,hl,k⟩
   case mB=>
    rintro σ H Q ⟨a,cc,p,dx,fs,t,e0,ha,hc,J,U,I,hd,hf,hl,k⟩;obtain⟨dp,fp,ep,lp⟩:=I.ob;refine⟨_,e0,a,cc,dx,fs,_,rfl,ha,hc,J,U,eJ,λc ab=>?_⟩;have s0:bY H (upd H c (.tup [.ref (C .b),.ref (C .e)])):=cq ab;refine⟨p,C t.kn,dp,fp,c,[C .b,C .e],_,rfl,s0 _ _ ep,Cl.ic _,b6,hBE _,_,rfl,?_⟩;change (if eF t.kn=true then _ else _);generalize upd H c (.tup [.ref (C .b),.ref (C .e)])=H0 at s0 ⊢;have ha:=s0 _ _ ha;have I:=I.same s0;have ep:=s0 _ _ ep;have k:=λH' (s:bY H0 H')=>k H' (s0.trans s)
    cases hk:eF t.kn with
    |true=>
     rw[hk] at k;exact cg ⟨_,e0,a,cc,dx,fs,_,rfl,ha,hc,J,U,p,t,rfl,I,hd,hf,hl,k⟩
    |false=>
     rw[hk] at k;exact cj ⟨_,e0,a,cc,dx,fs,_,rfl,ha,hc,J,U,t.kn,p,dp,fp,rfl,ep,lp _ i6,p,t,rfl,I,hd,rfl,hf,hl,k⟩
   refine⟨a,C .b,p,dx,_,x,rfl,hx,Cl.cl _,Cl.n1 _,nu p q,hp,by omega,fx,by omega,λH1 s1=>?_⟩;refine⟨a,C .b,q,dx,_,y,rfl,s1 _ _ hx,Cl.cl _,Cl.n2 _,lW p q,hq.same s1,by omega,fy,by omega,λH2 s2=>?_⟩;have e1:(⟨(eL (eI x.kn) x.lin).toArray⟩++JO " and ":Str)=⟨(eL (eI x.kn) x.lin++[32,97,110,100,32]).toArray⟩:=fN _ [32,97,110,100,32];refine⟨_,rfl,_,_,rfl,rfl,dC (by show(⟨(eL (eI x.kn) x.lin).toArray⟩:Str).length+5<=_;rw[du];omega),_,rfl,_,_,rfl,rfl,dC (by show(⟨(eL (eI x.kn) x.lin).toArray⟩++JO " and ":Str).length+(⟨(eL (eF y.kn) y.lin).toArray⟩:Str).length<=_;rw[e1,du,du,JU];omega),?_⟩;show Q (V.str ((⟨(eL (eI x.kn) x.lin).toArray⟩:Str)++JO " and "++(⟨(eL (eF y.kn) y.lin).toArray⟩:Str))) H2;rw[e1,fN,Kt];exact k H2 (s1.trans s2)
  |_=>cases hk
seal cH PS PE PT PA PG PI cT cP in
theorem Dl{g j:JR}{gd:J2}(Cl:Cs K C)(M:Mt K C "written" iw f9 f fd)(DB:Df K mg "in_brackets" iD g gd)(N:Nm mg C)(hJ:mg "JOINING"=some (.ref j))(kJ:∀ H,cu K H j gR)(hE:∀ i,Lw K (.ref (C i)) (.ref (C .e))=some (eI i))(hBE:∀ i,Lm K (.ref (C i)) ([C .b,C .e].map Ky)=some (eF i))(T:Txt mg)
  (n:Nat)(IH:0<n->∀ i,bX P w K mg base b7 (2*n) (f i) (fd i) ["self"] (gm C (n-1) i))(IB:0<n->bX P w K mg base b7 (2*n) g gd ["ask"] (ki C (n-1))):
  bX P w K mg base b7 (2*n+1) (f .e) (fd .e) ["self"] (gm C n .e):=by
 have bB:=dY (p:="ask") DB.F λ_ _ _ _ _ _ _=>rfl
 refine(M.F .e).ok xK (λvs H Q E h=>?_) (λcdv A outer s H vs Q E hr h=>?_)
 ·obtain⟨a,t,rfl,_⟩:=h;rfl
 ·obtain⟨a,t,rfl,I,hd,hk,hf,hl,k⟩:=h;cases t with
  |either x y=>
   obtain⟨dx,p,q,hx,hp,hq⟩:=I;obtain⟨fx,fy⟩:=hf;have ab:max x.dep y.dep+1<=n:=hd;have hn:0<n:=by omega
   have aa:(x.lin++([32,111,114,32]++eL (eI y.kn) y.lin)).length<=10000:=hl;rw[JU,JU] at aa;have b2:=lh (eI y.kn) y.lin;have l2:([32,111,114,32]:JP Nat).length=4:=rfl;refine⟨_,b9 (cZ (i:=1) xK.nd rfl (Kh rfl) (PE.imp (t':=tW K C (n-1) "other" eI) (ji (fZ (dF jE rfl T.isi iP (bU (df (pv 0) rfl) (bU (fH (v:= .ref (C .e)) rfl N.e rfl) bV)))) (cQ (IB hn) hr rfl DB.m DB.F.kp bB .nil cz (bU (df (pv 0) rfl) bV)) (gc (df (pv 0) rfl) Cl.cl M.M (IH hn) hr (je M) cz)) ?mA)) (b5 (cy (cA gf (cA gf (gc (df (pv 0) rfl) Cl.cl M.M (IH hn) hr (je M) cz) b8) (pv 1)))),?_⟩
   rotate_left
   case mA=>
    rintro σ H Q ⟨a,cc,p,dx,fs,t,e0,ha,hc,J,U,I,hd,hf,hl,k⟩;obtain⟨dp,fp,ep,lp⟩:=I.ob;refine⟨_,e0,a,cc,dx,fs,_,rfl,ha,hc,J,U,.ref p,.ref (C .e),.ref (C t.kn),_,rfl,(Cl.ic _).ty ep,.inr ⟨_,rfl,hE _⟩,_,rfl,?_⟩;cases hk:eI t.kn with
    |true=>
     rw[hk] at k;exact cg ⟨_,e0,a,cc,dx,fs,_,rfl,ha,hc,J,U,p,t,rfl,I,hd,hf,hl,k⟩
    |false=>
     rw[hk] at k;exact cj ⟨_,e0,a,cc,dx,fs,_,rfl,ha,hc,J,U,t.kn,p,dp,fp,rfl,ep,lp _ i6,p,t,rfl,I,hd,rfl,hf,hl,k⟩
   refine⟨a,C .e,q,dx,_,y,rfl,hx,Cl.cl _,Cl.n2 _,lW p q,hq,by omega,fy,by omega,λH1 s1=>?_⟩;obtain⟨dp,fp,ep,lp⟩:=(hp.same s1).ob;refine⟨_,rfl,a,C .e,dx,_,_,rfl,s1 _ _ hx,Cl.cl _,Cl.n1 _,nu p q,x.kn,p,dp,fp,rfl,ep,lp _ i6,p,x,rfl,hp.same s1,by omega,rfl,fx,by omega,λH2 s2=>?_⟩;have e1:(⟨x.lin.toArray⟩++JO " or ":Str)=⟨(x.lin++[32,111,114,32]).toArray⟩:=fN _ [32,111,114,32];refine⟨_,_,rfl,rfl,dC (by show(⟨x.lin.toArray⟩:Str).length+4<=_;rw[du];omega),_,rfl,_,_,rfl,rfl,dC (by show(⟨x.lin.toArray⟩++JO " or ":Str).length+(⟨(eL (eI y.kn) y.lin).toArray⟩:Str).length<=_;rw[e1,du,du,JU];omega),?_⟩;show Q (V.str ((⟨x.lin.toArray⟩:Str)++JO " or "++(⟨(eL (eI y.kn) y.lin).toArray⟩:Str))) H2;rw[e1,fN,Kt];exact k H2 (s1.trans s2)
  |_=>cases hk
seal cH PS PE PT PA PG PI cT cP in
theorem Em{g j:JR}{gd:J2}(Cl:Cs K C)(M:Mt K C "written" iw f9 f fd)(DB:Df K mg "in_brackets" iD g gd)(N:Nm mg C)(hJ:mg "JOINING"=some (.ref j))(kJ:∀ H,cu K H j gR)(hE:∀ i,Lw K (.ref (C i)) (.ref (C .e))=some (eI i))(hBE:∀ i,Lm K (.ref (C i)) ([C .b,C .e].map Ky)=some (eF i))(T:Txt mg)
  (n:Nat)(IH:0<n->∀ i,bX P w K mg base b7 (2*n) (f i) (fd i) ["self"] (gm C (n-1) i))(IB:0<n->bX P w K mg base b7 (2*n) g gd ["ask"] (ki C (n-1))):
  bX P w K mg base b7 (2*n+1) (f .o) (fd .o) ["self"] (gm C n .o):=by
 have bB:=dY (p:="ask") DB.F λ_ _ _ _ _ _ _=>rfl
 refine(M.F .o).ok xZ (λvs H Q E h=>?_) (λcdv A outer s H vs Q E hr h=>?_)
 ·obtain⟨a,t,rfl,_⟩:=h;rfl
 ·obtain⟨a,t,rfl,J,hd,hk,hf,hl,k⟩:=h;cases t with
  |no x=>
   obtain⟨dx,p,hx,hp⟩:=J;have ae:x.dep+1<=n:=hd;have hn:0<n:=by omega
   have aa:([110,111,116,32]++eL (eF x.kn) x.lin).length<=10000:=hl;rw[JU] at aa;have b2:=lh (eF x.kn) x.lin;have l2:([110,111,116,32]:JP Nat).length=4:=rfl;refine⟨_,b9 (cZ (i:=1) xZ.nd rfl (Kh rfl) (PE.imp (t':=tW K C (n-1) "one" eF) (ji (fZ (dF wQ rfl T.isi iP (bU (df (pv 0) rfl) (bU (dv (bU (fH (v:= .ref (C .b)) rfl N.b rfl) (bU (fH (v:= .ref (C .e)) rfl N.e rfl) bV))) bV)))) (cQ (IB hn) hr rfl DB.m DB.F.kp bB .nil cz (bU (df (pv 0) rfl) bV)) (gc (df (pv 0) rfl) Cl.cl M.M (IH hn) hr (je M) cz)) ?mA)) (b5 (cy (cA gf b8 (pv 1)))),?_⟩
   rotate_left
   case mA=>
    rintro σ H Q ⟨a,cc,p,dx,fs,t,e0,ha,hc,U,I,J,hd,hf,hl,k⟩;obtain⟨dp,fp,ep,lp⟩:=J.ob;refine⟨_,e0,a,cc,dx,fs,_,rfl,ha,hc,U,I,eJ,λc ab=>?_⟩;have s0:bY H (upd H c (.tup [.ref (C .b),.ref (C .e)])):=cq ab;refine⟨p,C t.kn,dp,fp,c,[C .b,C .e],_,rfl,s0 _ _ ep,Cl.ic _,b6,hBE _,_,rfl,?_⟩;change (if eF t.kn=true then _ else _);generalize upd H c (.tup [.ref (C .b),.ref (C .e)])=H0 at s0 ⊢;have ha:=s0 _ _ ha;have J:=J.same s0;have ep:=s0 _ _ ep;have k:=λH' (s:bY H0 H')=>k H' (s0.trans s)
    cases hk:eF t.kn with
    |true=>
     rw[hk] at k;exact cg ⟨_,e0,a,cc,dx,fs,_,rfl,ha,hc,U,I,p,t,rfl,J,hd,hf,hl,k⟩
    |false=>
     rw[hk] at k;exact cj ⟨_,e0,a,cc,dx,fs,_,rfl,ha,hc,U,I,t.kn,p,dp,fp,rfl,ep,lp _ i6,p,t,rfl,J,hd,rfl,hf,hl,k⟩
   refine⟨a,C .o,p,dx,_,x,rfl,hx,Cl.cl _,Cl.n1 _,wK p,hp,by omega,hf,by omega,λH1 s1=>?_⟩;have e1:(JO "not "++⟨(eL (eF x.kn) x.lin).toArray⟩:Str)=⟨([110,111,116,32]++eL (eF x.kn) x.lin).toArray⟩:=fN [110,111,116,32] _;refine⟨_,rfl,_,_,rfl,rfl,dC (by show 4+(⟨(eL (eF x.kn) x.lin).toArray⟩:Str).length<=_;rw[du];omega),?_⟩;show Q (V.str (JO "not "++⟨(eL (eF x.kn) x.lin).toArray⟩)) H1;rw[e1];exact k H1 s1
  |_=>cases hk
theorem yL{g j:JR}{gd:J2}(Cl:Cs K C)(M:Mt K C "written" iw f9 f fd)(DB:Df K mg "in_brackets" iD g gd)(N:Nm mg C)(hJ:mg "JOINING"=some (.ref j))(kJ:∀ H,cu K H j gR)(hE:∀ i,Lw K (.ref (C i)) (.ref (C .e))=some (eI i))(hBE:∀ i,Lm K (.ref (C i)) ([C .b,C .e].map Ky)=some (eF i))(T:Txt mg)
  (n:Nat)(IH:0<n->∀ i,bX P w K mg base b7 (2*n) (f i) (fd i) ["self"] (gm C (n-1) i))(IB:0<n->bX P w K mg base b7 (2*n) g gd ["ask"] (ki C (n-1)))(i:Kn):
  bX P w K mg base b7 (2*n+1) (f i) (fd i) ["self"] (gm C n i):=by
 cases i with
 |w=>exact Bx Cl M DB N hJ kJ hE hBE T n IH IB
 |s=>exact Ib Cl M DB N hJ kJ hE hBE T n IH IB
 |r=>exact DV Cl M DB N hJ kJ hE hBE T n IH IB
 |n=>exact G0 Cl M DB N hJ kJ hE hBE T n IH IB
 |b=>exact DG Cl M DB N hJ kJ hE hBE T n IH IB
 |e=>exact Dl Cl M DB N hJ kJ hE hBE T n IH IB
 |o=>exact Em Cl M DB N hJ kJ hE hBE T n IH IB
theorem ud{g j:JR}{gd:J2}(Cl:Cs K C)(M:Mt K C "written" iw f9 f fd)(DB:Df K mg "in_brackets" iD g gd)(N:Nm mg C)(hJ:mg "JOINING"=some (.ref j))(kJ:∀ H,cu K H j gR)(hE:∀ i,Lw K (.ref (C i)) (.ref (C .e))=some (eI i))(hBE:∀ i,Lm K (.ref (C i)) ([C .b,C .e].map Ky)=some (eF i))(T:Txt mg):
  ∀(n:Nat) (i:Kn),bX P w K mg base b7 (2*n+1) (f i) (fd i) ["self"] (gm C n i)
 |0=>yL Cl M DB N hJ kJ hE hBE T 0 (λh=>absurd h (Kw _)) (λh=>absurd h (Kw _))
 |n+1=>yL Cl M DB N hJ kJ hE hBE T (n+1) (λ_ i=>(ud Cl M DB N hJ kJ hE hBE T n i).mono (by omega)) (λ_=>(BF DB Cl M (ud Cl M DB N hJ kJ hE hBE T n)).mono (by omega))
end
end K13
namespace RA
inductive Lf where|word (w : JP Nat)|start (w : JP Nat)|row (ws : JP (JP Nat))
 deriving LY
inductive Tr where|leaf (l : Lf)|near (a b : Lf) (n : Nat)|both (a b : Tr)|either (a b : Tr)|no (a : Tr)
 deriving LY
inductive Tk where|leaf (l : Lf)|near (n : Nat)|no|and|or|lp|rp
 deriving LY
noncomputable def Tr.isE:Tr->KS
 |.either _ _=>true|_=>false
noncomputable def Tr.isBE:Tr->KS
 |.either _ _=>true|.both _ _=>true|_=>false
noncomputable def Tr.dep:Tr->Nat
 |.leaf _=>0|.near _ _ _=>1|.both a b=>max a.dep b.dep+1|.either a b=>max a.dep b.dep+1|.no a=>a.dep+1
noncomputable def brk(b:KS)(l:JP Tk):JP Tk:=if b then .lp::(l++[.rp]) else l
noncomputable def wr:Tr->JP Tk
 |.leaf l=>[.leaf l]
 |.near a b n=>[.leaf a,.near n,.leaf b]
 |.both a b=>brk a.isE (wr a)++ .and::brk b.isBE (wr b)
 |.either a b=>wr a++ .or::brk b.isE (wr b)
 |.no a=> .no::brk a.isBE (wr a)
inductive Kd where|lp|no|and|or|tilde|leaf|near|rp|stop
 deriving LY
structure Bk where
 nots : Nat
 a : JW Tr
 o : JW Tr
 deriving LY
noncomputable def nots:Nat->Tr->Tr
 |0,t=>t
 |n+1,t=>nots n (.no t)
noncomputable def takeIn(t:Tr)(b:Bk):Bk:=⟨0,some (match b.a with|none=>nots b.nots t|some x=> .both x (nots b.nots t)),b.o⟩
noncomputable def choose(b:Bk):Bk:=⟨b.nots,none,match b.o with|none=>b.a|some x=>match b.a with|none=>none|some y=>some (.either x y)⟩
noncomputable def whole(b:Bk):JW Tr:=(choose b).o
structure Rs where
 bs : JP Bk
 last : Kd
 leaf : JW Lf
 far : Nat
noncomputable def ir(f:Bk->Bk):JP Bk->JP Bk
 |[]=>[]|b::r=>f b::r
noncomputable def fl(s:Rs):Rs:=if s.last= .leaf then (match s.leaf with|some l=>{s with bs:=ir (takeIn (.leaf l)) s.bs} | none=>s) else s
noncomputable def kd:Tk->Kd
 |.leaf _=> .leaf|.near _=> .tilde|.no=> .no|.and=> .and|.or=> .or|.lp=> .lp|.rp=> .rp
noncomputable def behind:Kd->JP Kd
 |.lp=>[.leaf,.no,.lp]|.no=>[.leaf,.no,.lp]|.and=>[.leaf,.no,.lp]|.or=>[.leaf,.no,.lp]
 |.tilde=>[.leaf]
 |.leaf=>[.leaf,.no,.lp,.and,.or,.rp,.stop,.tilde]
 |.near=>[.leaf,.no,.lp,.and,.or,.rp,.stop]
 |.rp=>[.leaf,.no,.lp,.and,.or,.rp,.stop]
 |.stop=>[]
noncomputable def lets(s:Rs)(k:Kd):KS:= !(k == .lp&&decide (12<s.bs.length)) && !(k == .rp&&decide (s.bs.length=1)) && !(k == .stop&&decide (1<s.bs.length))&&decide (k∈behind s.last)
noncomputable def fA(s:Rs):Tk->Rs
 |.leaf l=>if s.last= .tilde then {s with bs:=ir (takeIn (.near (s.leaf.getD (.word [])) l s.far)) s.bs,last:= .near} else {fl s with leaf:=some l,last:= .leaf}
 |.near n=>{s with far:=n,last:= .tilde}
 |.no=>{fl s with bs:=ir (λb=>{b with nots:=b.nots+1}) (fl s).bs,last:= .no}
 |.and=>{fl s with last:= .and}
 |.or=>{fl s with bs:=ir choose (fl s).bs,last:= .or}
 |.lp=>{fl s with bs:=⟨0,none,none⟩::(fl s).bs,last:= .lp}
 |.rp=>{fl s with bs:=(match (fl s).bs with|b::r=>ir (takeIn ((whole b).getD (.leaf (.word [])))) r|[]=>[]),last:= .rp}
noncomputable def rn:Rs->JP Tk->JW Rs
 |s,[]=>some s
 |s,k::r=>if lets s (kd k) then rn (fA s k) r else none
theorem rW:∀(l r:JP Tk) (s:Rs),rn s (l++r)=(rn s l).bind λs'=>rn s' r
 |[],r,s=>rfl
 |k::l,r,s=>by
  show(if lets s (kd k) then rn (fA s k) (l++r) else none)=_;by_cases h:lets s (kd k)=true
  ·rw[J1 h,rW l r];show _=((if lets s (kd k) then rn (fA s k) l else none)).bind _;rw[J1 h]
  ·rw[if_neg h];show _=((if lets s (kd k) then rn (fA s k) l else none)).bind _;rw[if_neg h];rfl
noncomputable def wU(k:Kd):Prop:=k= .lp\/k= .no\/k= .and\/k= .or
noncomputable def cls(k:Kd):Prop:=k= .leaf\/k= .near\/k= .rp
noncomputable def R(t:Tr)(b:Bk):Bk:=match t with
 |.either x y=>⟨0,some y,some x⟩
 |_=>takeIn t b
noncomputable def pre(t:Tr)(b:Bk):Prop:=match t with
 |.either _ _=>b=⟨0,none,none⟩
 |.both _ _=>b.nots=0/\b.a=none
 |_=>O3
theorem yh(t:Tr):whole (R t ⟨0,none,none⟩)=some t:=by cases t<;>rfl
theorem Ju{t:Tr}(h:t.isE=false)(b:Bk):R t b=takeIn t b:=by cases t<;>first|rfl|cases h
theorem kR{s:Rs}(h:s.last≠ .leaf):fl s=s:=by unfold fl;rw[if_neg h]
theorem rQ{k:Kd}(h:wU k):k≠ .leaf/\k≠ .tilde:=by rcases h with rfl|rfl|rfl|rfl<;>exact⟨by decide,by decide⟩
theorem se{k:Kd}(h:wU k): .leaf∈behind k/\ .no∈behind k/\ .lp∈behind k:=by rcases h with rfl|rfl|rfl|rfl<;>decide
theorem qZ{k:Kd}(h:cls k): .and∈behind k/\ .or∈behind k/\ .rp∈behind k/\ .stop∈behind k:=by rcases h with rfl|rfl|rfl<;>decide
theorem jD{s:Rs}{k:Kd}(h1:k≠ .lp\/s.bs.length<=12)(h2:k≠ .rp\/s.bs.length≠1)(h3:k≠ .stop\/s.bs.length<=1)(h:k∈behind s.last):lets s k=true:=by
 unfold lets;rw[JS h,Bool.and_true];have J:(k == .lp&&decide (12<s.bs.length))=false:=by
  rcases h1 with z|z
  ·rw[beq_eq_false_iff_ne.mpr z];rfl
  ·rw[JQ (by omega),MZ]
 have U:(k == .rp&&decide (s.bs.length=1))=false:=by
  rcases h2 with z|z
  ·rw[beq_eq_false_iff_ne.mpr z];rfl
  ·rw[JQ z,MZ]
 have I:(k == .stop&&decide (1<s.bs.length))=false:=by
  rcases h3 with z|z
  ·rw[beq_eq_false_iff_ne.mpr z];rfl
  ·rw[JQ (by omega),MZ]
 rw[J,U,I];rfl
noncomputable def wq(n:Nat)(l:JP Tk)(b b':Bk):Prop:=∀(r:JP Bk) (k:Kd) (lf:JW Lf) (fr:Nat),r.length+1+n<=12->wU k->∃ s',rn ⟨b::r,k,lf,fr⟩ l=some s'/\cls s'.last/\(fl s').bs=b'::r
theorem pZ(s:Rs):(fl s).bs.length=s.bs.length:=by
 unfold fl;split
 ·split
  ·cases s.bs<;>rfl
  ·rfl
 ·rfl
theorem km{s:Rs}{k:Tk}{l:JP Tk}(h:lets s (kd k)=true):rn s (k::l)=rn (fA s k) l:=by
 show(if lets s (kd k) then rn (fA s k) l else none)=_;rw[J1 h]
theorem sD{a:Tr}{c:KS}{b:Bk}(ih:∀ b,pre a b->wq a.dep (wr a) b (R a b))(h:c=false->pre a b/\a.isE=false):wq (a.dep+1) (brk c (wr a)) b (takeIn a b):=by
 cases c with
 |false=>
  obtain⟨h1,h2⟩:=h rfl;rw[<-Ju h2];intro r k lf fr I J;exact ih b h1 r k lf fr (by omega) J
 |true=>
  intro r k lf fr I J;have hn:=rQ J;have e1:lets ⟨b::r,k,lf,fr⟩ (kd .lp)=true:=jD (.inr (by show r.length+1<=12;omega)) (.inl (by decide)) (.inl (by decide)) (se J).2.2;have hp:pre a ⟨0,none,none⟩:=by cases a<;>first|trivial|exact⟨rfl,rfl⟩|rfl
  obtain⟨s',h1,h2,U⟩:=ih ⟨0,none,none⟩ hp (b::r) .lp lf fr (by show r.length+1+1+_<=12;omega) (.inl rfl);have hs:fA ⟨b::r,k,lf,fr⟩ .lp=⟨⟨0,none,none⟩::b::r,.lp,lf,fr⟩:=by
   show({fl ⟨b::r,k,lf,fr⟩ with bs:=_,last:=_}:Rs)=_;rw[kR hn.1]
  refine⟨fA s' .rp,?_,.inr (.inr rfl),?_⟩
  ·show rn _ (.lp::(wr a++[.rp]))=_;rw[km e1,hs,rW,h1];show rn s' [.rp]=_;have e2:lets s' (kd .rp)=true:=jD (.inl (by decide)) (.inr (by rw[<-pZ,U];simp)) (.inl (by decide)) (qZ h2).2.2.1;rw[km e2];rfl
  ·rw[kR (by show Kd.rp≠Kd.leaf;decide)];show(match (fl s').bs with|b::r=>ir (takeIn ((whole b).getD (.leaf (.word [])))) r|[]=>[])=_;rw[U];show ir (takeIn ((whole (R a ⟨0,none,none⟩)).getD (.leaf (.word [])))) (b::r)=_;rw[yh];rfl
theorem FZ(a:Tr):choose (R a ⟨0,none,none⟩)=⟨0,none,some a⟩:=by cases a<;>rfl
theorem oI:∀(t:Tr) (b:Bk),pre t b->wq t.dep (wr t) b (R t b)
 |.leaf l,b,_=>by
  intro r k lf fr hl J;have hn:=rQ J;have U:lets ⟨b::r,k,lf,fr⟩ (kd (.leaf l))=true:=jD (.inl (by show Kd.leaf≠_;decide)) (.inl (by show Kd.leaf≠_;decide)) (.inl (by show Kd.leaf≠_;decide)) (se J).1;refine⟨⟨b::r,.leaf,some l,fr⟩,?_,.inl rfl,rfl⟩;show rn _ [.leaf l]=_;rw[km U];show some (if k= .tilde then _ else {fl ⟨b::r,k,lf,fr⟩ with leaf:=some l,last:= .leaf})=_;rw[if_neg hn.2,kR hn.1]
 |.near x y n,b,_=>by
  intro r k lf fr hl J;have hn:=rQ J;have U:lets ⟨b::r,k,lf,fr⟩ (kd (.leaf x))=true:=jD (.inl (by show Kd.leaf≠_;decide)) (.inl (by show Kd.leaf≠_;decide)) (.inl (by show Kd.leaf≠_;decide)) (se J).1;refine⟨⟨takeIn (.near x y n) b::r,.near,some x,n⟩,?_,.inr (.inl rfl),rfl⟩;show rn _ [.leaf x,.near n,.leaf y]=_;rw[km U];have e2:fA ⟨b::r,k,lf,fr⟩ (.leaf x)=⟨b::r,.leaf,some x,fr⟩:=by
   show(if k= .tilde then _ else {fl ⟨b::r,k,lf,fr⟩ with leaf:=some x,last:= .leaf})=_;rw[if_neg hn.2,kR hn.1]
  have l2:lets ⟨b::r,.leaf,some x,fr⟩ (kd (.near n))=true:=jD (.inl (by show Kd.tilde≠_;decide)) (.inl (by show Kd.tilde≠_;decide)) (.inl (by show Kd.tilde≠_;decide)) (by show Kd.tilde∈behind .leaf;decide);rw[e2,km l2];have l3:lets ⟨b::r,.tilde,some x,n⟩ (kd (.leaf y))=true:=jD (.inl (by show Kd.leaf≠_;decide)) (.inl (by show Kd.leaf≠_;decide)) (.inl (by show Kd.leaf≠_;decide)) (by show Kd.leaf∈behind .tilde;decide);show rn ⟨b::r,.tilde,some x,n⟩ [.leaf y]=_;rw[km l3];rfl
 |.no a,b,_=>by
  intro r k lf fr hl J;have hn:=rQ J;have U:lets ⟨b::r,k,lf,fr⟩ (kd .no)=true:=jD (.inl (by decide)) (.inl (by decide)) (.inl (by decide)) (se J).2.1;have I:fA ⟨b::r,k,lf,fr⟩ .no=⟨{b with nots:=b.nots+1}::r,.no,lf,fr⟩:=by
   show({fl ⟨b::r,k,lf,fr⟩ with bs:=_,last:=_}:Rs)=_;rw[kR hn.1];rfl
  obtain⟨s',h1,h2,h3⟩:=sD (a:=a) (c:=a.isBE) (b:={b with nots:=b.nots+1}) (λb h=>oI a b h) (λh=>by cases a<;>first|exact⟨trivial,rfl⟩|cases h) r .no lf fr (by have:(Tr.no a).dep=a.dep+1:=rfl;omega) (.inr (.inl rfl));refine⟨s',?_,h2,h3⟩;show rn _ (.no::brk a.isBE (wr a))=_;rw[km U,I,h1]
 |.both x y,b,hp=>by
  intro r k lf fr hl J;obtain⟨p1,p2⟩:=hp;have hd:(Tr.both x y).dep=max x.dep y.dep+1:=rfl;obtain⟨s',h1,h2,h3⟩:=sD (a:=x) (c:=x.isE) (b:=b) (λb h=>oI x b h) (λh=>⟨(by cases x<;>first|trivial|exact⟨p1,p2⟩|cases h),h⟩) r k lf fr (by omega) J;have U:lets s' (kd .and)=true:=jD (.inl (by decide)) (.inl (by decide)) (.inl (by decide)) (qZ h2).1;have I:fA s' .and=⟨takeIn x b::r,.and,(fl s').leaf,(fl s').far⟩:=by
   show({fl s' with last:= .and}:Rs)=_;rw[<-h3]
  obtain⟨s2,h4,h5,h6⟩:=sD (a:=y) (c:=y.isBE) (b:=takeIn x b) (λb h=>oI y b h) (λh=>by cases y<;>first|exact⟨trivial,rfl⟩|cases h) r .and (fl s').leaf (fl s').far (by omega) (.inr (.inr (.inl rfl)));refine⟨s2,?_,h5,?_⟩
  ·show rn _ (brk x.isE (wr x)++ .and::brk y.isBE (wr y))=_;rw[rW,h1];show rn s' (.and::brk y.isBE (wr y))=_;rw[km U,I,h4]
  ·rw[h6];obtain⟨n,a,o⟩:=b;have aa:n=0:=p1;have ab:a=none:=p2;subst aa ab;rfl
 |.either x y,b,hp=>by
  intro r k lf fr hl J;have hd:(Tr.either x y).dep=max x.dep y.dep+1:=rfl;have ae:b=⟨0,none,none⟩:=hp;subst ae;obtain⟨s',h1,h2,h3⟩:=oI x ⟨0,none,none⟩ (by cases x<;>first|trivial|exact⟨rfl,rfl⟩|rfl) r k lf fr (by omega) J;have U:lets s' (kd .or)=true:=jD (.inl (by decide)) (.inl (by decide)) (.inl (by decide)) (qZ h2).2.1;have I:fA s' .or=⟨⟨0,none,some x⟩::r,.or,(fl s').leaf,(fl s').far⟩:=by
   show({fl s' with bs:=ir choose (fl s').bs,last:= .or}:Rs)=_;rw[h3];show Rs.mk (choose (R x ⟨0,none,none⟩)::r) _ _ _=_;rw[FZ]
  obtain⟨s2,h4,h5,h6⟩:=sD (a:=y) (c:=y.isE) (b:=⟨0,none,some x⟩) (λb h=>oI y b h) (λh=>⟨(by cases y<;>first|trivial|exact⟨rfl,rfl⟩|cases h),h⟩) r .or (fl s').leaf (fl s').far (by omega) (.inr (.inr (.inr rfl)));refine⟨s2,?_,h5,?_⟩
  ·show rn _ (wr x++ .or::brk y.isE (wr y))=_;rw[rW,h1];show rn s' (.or::brk y.isE (wr y))=_;rw[km U,I,h4]
  ·rw[h6];rfl
theorem Cz{t:Tr}(h:t.dep<=11):∃ s',rn ⟨[⟨0,none,none⟩],.lp,none,0⟩ (wr t)=some s'/\lets s' .stop=true/\∃ b,(fl s').bs=[b]/\whole b=some t:=by
 obtain⟨s',h1,h2,J⟩:=oI t ⟨0,none,none⟩ (by cases t<;>first|trivial|exact⟨rfl,rfl⟩|rfl) [] .lp none 0 (by show 0+1+_<=12;omega) (.inl rfl);refine⟨s',h1,jD (.inl (by decide)) (.inl (by decide)) (.inr (by rw[<-pZ,J];simp)) (qZ h2).2.2.2,_,J,yh t⟩
inductive Sg where|either|both|no|lp
 deriving LY
noncomputable def bd:Sg->Nat
 |.lp=>0|.either=>1|.both=>2|.no=>3
noncomputable def iK:Sg->JP Tr->JW (JP Tr)
 |.no,a::r=>some (.no a::r)
 |.both,y::x::r=>some (.both x y::r)
 |.either,y::x::r=>some (.either x y::r)
 |_,_=>none
noncomputable def putAll(least:Nat):JP Tr->JP Sg->JW (JP Tr×JP Sg)
 |A,[]=>some (A,[])
 |A,g::S=>if least<=bd g then (iK g A).bind λA'=>putAll least A' S else some (A,g::S)
inductive Sm where|first|plain|more|near (n : Nat)
 deriving LY
structure Ls where
 A : JP Tr
 S : JP Sg
 st : Sm
noncomputable def cnt(S:JP Sg):Nat:=S.count .lp
noncomputable def lI(A:JP Tr)(S:JP Sg):Tk->JW Ls
 |.leaf l=>some ⟨.leaf l::A,S,.plain⟩
 |.lp=>if cnt S<12 then some ⟨A,.lp::S,.first⟩ else none
 |.no=>some ⟨A,.no::S,.first⟩
 |_=>none
noncomputable def kP(A:JP Tr)(S:JP Sg):Tk->JW Ls
 |.near _=>none
 |.rp=>if 0<cnt S then (putAll 1 A S).bind λq=>match q.2 with|_::J=>some ⟨q.1,J,.more⟩|[]=>none else none
 |.and=>(putAll 2 A S).bind λq=>some ⟨q.1,.both::q.2,.first⟩
 |.or=>(putAll 1 A S).bind λq=>some ⟨q.1,.either::q.2,.first⟩
 |k=>(putAll 2 A S).bind λq=>lI q.1 (.both::q.2) k
noncomputable def qV(n:Nat)(A:JP Tr)(S:JP Sg):Tk->JW Ls
 |.leaf b=>(match A with|.leaf a::r=>some ⟨.near a b n::r,S,.more⟩|_=>none)
 |_=>none
noncomputable def dP(s:Ls)(k:Tk):JW Ls:=match s.st with
 |.first=>lI s.A s.S k
 |.near n=>qV n s.A s.S k
 |.plain=>match k with|.near n=>some {s with st:= .near n} | k=>kP s.A s.S k
 |.more=>kP s.A s.S k
noncomputable def eN:Ls->JP Tk->JW Ls
 |s,[]=>some s
 |s,k::r=>(dP s k).bind λs'=>eN s' r
noncomputable def fK(s:Ls):JW Tr:=if (s.st= .plain\/s.st= .more)/\cnt s.S=0 then (putAll 1 s.A s.S).bind λq=>q.1.getLast? else none
theorem rf:∀(l r:JP Tk) (s:Ls),eN s (l++r)=(eN s l).bind λs'=>eN s' r
 |[],r,s=>rfl
 |k::l,r,s=>by
  show(dP s k).bind (λs'=>eN s' (l++r))=((dP s k).bind λs'=>eN s' l).bind _;cases dP s k with
  |none=>rfl
  |some s'=>exact rf l r s'
noncomputable def lvl:Tr->Nat
 |.either _ _=>1|.both _ _=>2|_=>3
noncomputable def jX(S:JP Sg):Nat:=match S with|[]=>0|g::_=>bd g
noncomputable def tD(t:Tr)(S:JP Sg):Prop:=match t with
 |.either _ _=>jX S=0
 |.both _ _=>jX S<=1
 |_=>O3
noncomputable def yB(m:Sm):Prop:=m= .plain\/m= .more
noncomputable def uZ(n lv:Nat)(l:JP Tk)(t:Tr)(A:JP Tr)(S:JP Sg):Prop:=cnt S+n<=12->∃ s',eN ⟨A,S,.first⟩ l=some s'/\yB s'.st/\cnt s'.S=cnt S/\∀ least,1<=least->least<=lv->putAll least s'.A s'.S=putAll least (t::A) S
theorem qh{least:Nat}{A:JP Tr}:∀{S:JP Sg},jX S<least->putAll least A S=some (A,S)
 |[],_=>rfl
 |g::S,h=>by
  show(if least<=bd g then _ else _)=_;rw[if_neg (by have:bd g<least:=h;omega)]
theorem pj{least:Nat}{A A':JP Tr}{g:Sg}{S:JP Sg}(h:least<=bd g)(e:iK g A=some A'):putAll least A (g::S)=putAll least A' S:=by
 show(if least<=bd g then _ else _)=_;rw[J1 h,e];rfl
theorem rV{s:Ls}(h:yB s.st){k:Tk}(hk:∀ n,k≠ .near n):dP s k=kP s.A s.S k:=by
 unfold dP;rcases h with h|h<;>rw[h];cases k<;>first|rfl|exact absurd rfl (hk _)
theorem oh(S:JP Sg):cnt (.lp::S)=cnt S+1:=by unfold cnt;rw[Mf]
theorem iM{g:Sg}(h:g≠ .lp)(S:JP Sg):cnt (g::S)=cnt S:=by unfold cnt;rw[Lv h]
theorem wo(t:Tr):1<=lvl t/\lvl t<=3:=by cases t<;>exact⟨J9 rfl,J9 rfl⟩
theorem rP{a:Tr}{c:KS}{A:JP Tr}{S:JP Sg}(ih:∀ A S,tD a S->uZ a.dep (lvl a) (wr a) a A S)(h:c=false->tD a S):uZ (a.dep+1) (if c then 3 else lvl a) (brk c (wr a)) a A S:=by
 cases c with
 |false=>exact λhn=>ih A S (h rfl) (by omega)
 |true=>
  intro hn;have hp:tD a (.lp::S):=by cases a<;>first|trivial|exact Ks _|rfl
  obtain⟨s',h1,h2,J,U⟩:=ih A (.lp::S) hp (by rw[oh];omega);refine⟨⟨a::A,S,.more⟩,?_,.inr rfl,rfl,λ_ _ _=>rfl⟩;show(dP ⟨A,S,.first⟩ .lp).bind (λs'=>eN s' (wr a++[.rp]))=_;have I:dP ⟨A,S,.first⟩ .lp=some ⟨A,.lp::S,.first⟩:=by
   show(if cnt S<12 then _ else _)=_;rw[J1 (by omega)]
  rw[I];show eN ⟨A,.lp::S,.first⟩ (wr a++[.rp])=_;rw[rf,h1];show(dP s' .rp).bind (λs'=>eN s' [])=_;rw[rV h2 (λn z=>by cases z)];show(if 0<cnt s'.S then (putAll 1 s'.A s'.S).bind _ else none).bind _=_;rw[J1 (by rw[J,oh];omega),U 1 (by omega) (wo a).1,qh (by show 0<1;decide)];rfl
theorem o8:∀(t:Tr) (A:JP Tr) (S:JP Sg),tD t S->uZ t.dep (lvl t) (wr t) t A S
 |.leaf l,A,S,_=>λ_=>⟨⟨.leaf l::A,S,.plain⟩,rfl,.inl rfl,rfl,λ_ _ _=>rfl⟩
 |.near x y n,A,S,_=>λ_=>⟨⟨.near x y n::A,S,.more⟩,rfl,.inr rfl,rfl,λ_ _ _=>rfl⟩
 |.no a,A,S,_=>by
  intro hn;have hd:(Tr.no a).dep=a.dep+1:=rfl;obtain⟨s',h1,h2,h3,I⟩:=rP (a:=a) (c:=a.isBE) (A:=A) (S:= .no::S) (λA S h=>o8 a A S h) (λh=>by cases a<;>first|trivial|cases h) (by rw[iM (by decide)];omega);refine⟨s',h1,h2,by rw[h3,iM (by decide)],λleast l1 l2=>?_⟩;have U:least<=3:=l2;rw[I least l1 (by
   have:(if a.isBE=true then 3 else lvl a)=3:=by cases a<;>rfl
   rw[this];exact U),pj U rfl]
 |.both x y,A,S,hp=>by
  intro hn;have hd:(Tr.both x y).dep=max x.dep y.dep+1:=rfl;have J:jX S<=1:=hp;obtain⟨s',h1,h2,h3,I⟩:=rP (a:=x) (c:=x.isE) (A:=A) (S:=S) (λA S h=>o8 x A S h) (λh=>by cases x<;>first|trivial|exact J|cases h) (by omega);have e1:kP s'.A s'.S .and=some ⟨x::A,.both::S,.first⟩:=by
   show(putAll 2 s'.A s'.S).bind _=_;rw[I 2 (by omega) (by cases x<;>exact J9 rfl),qh (by omega)];rfl
  obtain⟨s2,h5,h6,h7,h8⟩:=rP (a:=y) (c:=y.isBE) (A:=x::A) (S:= .both::S) (λA S h=>o8 y A S h) (λh=>by cases y<;>first|trivial|cases h) (by rw[iM (by decide)];omega);refine⟨s2,?_,h6,by rw[h7,iM (by decide)],λleast l1 l2=>?_⟩
  ·show eN _ (brk x.isE (wr x)++ .and::brk y.isBE (wr y))=_;rw[rf,h1];show(dP s' .and).bind (λs'=>eN s' (brk y.isBE (wr y)))=_;rw[rV h2 (λn z=>by cases z),e1];exact h5
  ·have U:least<=2:=l2;rw[h8 least l1 (by
    have:(if y.isBE=true then 3 else lvl y)=3:=by cases y<;>rfl
    rw[this];omega),pj U rfl]
 |.either x y,A,S,hp=>by
  intro hn;have hd:(Tr.either x y).dep=max x.dep y.dep+1:=rfl;have J:jX S=0:=hp;obtain⟨s',h1,h2,h3,I⟩:=o8 x A S (by cases x<;>first|trivial|exact J|(show jX S<=1;omega)) (by omega);have e1:kP s'.A s'.S .or=some ⟨x::A,.either::S,.first⟩:=by
   show(putAll 1 s'.A s'.S).bind _=_;rw[I 1 (by omega) (wo x).1,qh (by omega)];rfl
  obtain⟨s2,h5,h6,h7,h8⟩:=rP (a:=y) (c:=y.isE) (A:=x::A) (S:= .either::S) (λA S h=>o8 y A S h) (λh=>by cases y<;>first|trivial|exact JY 1|cases h) (by rw[iM (by decide)];omega);refine⟨s2,?_,h6,by rw[h7,iM (by decide)],λleast l1 l2=>?_⟩
  ·show eN _ (wr x++ .or::brk y.isE (wr y))=_;rw[rf,h1];show(dP s' .or).bind (λs'=>eN s' (brk y.isE (wr y)))=_;rw[rV h2 (λn z=>by cases z),e1];exact h5
  ·have U:least<=1:=l2;rw[h8 least l1 (by
    have:2<=(if y.isE=true then 3 else lvl y):=by cases y<;>exact J9 rfl
    omega),pj U rfl]
theorem EC{t:Tr}(h:t.dep<=12):∃ s',eN ⟨[],[],.first⟩ (wr t)=some s'/\fK s'=some t:=by
 obtain⟨s',h1,h2,J,U⟩:=o8 t [] [] (by cases t<;>first|trivial|exact Ks _|rfl) (by show 0+_<=12;omega);refine⟨s',h1,?_⟩;unfold fK;rw[J1 ⟨h2,J⟩,U 1 (by omega) (wo t).1];rfl
noncomputable def nb(l:JP Tk):Nat:=l.count .lp
noncomputable def need(t:Tr):Nat:=nb (wr t)
theorem mv(a b:JP Tk):nb (a++b)=nb a+nb b:=Nl ..
theorem pC{k:Tk}(h:k≠ .lp)(l:JP Tk):nb (k::l)=nb l:=Lv h
theorem uX(l:JP Tk):nb (.lp::l)=nb l+1:=Mf
noncomputable def b1(b:KS):Nat:=if b then 1 else 0
theorem rN(c:KS)(l:JP Tk):nb (brk c l)=nb l+b1 c:=by
 cases c with
 |false=>rfl
 |true=>
  show nb (.lp::(l++[.rp]))=nb l+1;rw[uX,mv];rfl
theorem HB(a:Tr):need (.no a)=need a+b1 a.isBE:=by
 show nb (.no::brk a.isBE (wr a))=_;rw[pC (by decide),rN];rfl
theorem Fz(x y:Tr):need (.both x y)=need x+b1 x.isE+(need y+b1 y.isBE):=by
 show nb (brk x.isE (wr x)++ .and::brk y.isBE (wr y))=_;rw[mv,pC (by decide),rN,rN];rfl
theorem EG(x y:Tr):need (.either x y)=need x+(need y+b1 y.isE):=by
 show nb (wr x++ .or::brk y.isE (wr y))=_;rw[mv,pC (by decide),rN];rfl
noncomputable abbrev Fq:=Tr×KS
noncomputable def hZ(q:Fq):Nat:=if q.2 then 3 else lvl q.1
noncomputable def rq(S:JP Sg):Nat:=match S with|[]=>1|.lp::_=>1|.either::_=>2|_=>3
inductive Op : JP Fq -> JP Sg -> Prop
 |nil : Op [] []
 |lp {F : JP Fq} {S : JP Sg} : Op F S -> Op F (.lp :: S)
 |no {F : JP Fq} {S : JP Sg} : Op F S -> Op F (.no :: S)
 |both {q : Fq} {F : JP Fq} {S : JP Sg} : Op F S -> 2<=hZ q -> jX S<=1 -> Op (q :: F) (.both :: S)
 |either {q : Fq} {F : JP Fq} {S : JP Sg} : Op F S -> jX S = 0 -> Op (q :: F) (.either :: S)
noncomputable def cost(F:JP Fq):Nat:=(F.map λq=>need q.1+b1 q.2).sum
theorem iZ(q:Fq)(F:JP Fq):cost (q::F)=need q.1+b1 q.2+cost F:=rfl
noncomputable def tr(F:JP Fq):JP Tr:=F.map (·.1)
theorem xW{q:Fq}(h:3<=hZ q):b1 q.1.isBE<=b1 q.2/\b1 q.1.isE<=b1 q.2:=by
 obtain⟨t,f⟩:=q;cases f with
 |true=>cases t<;>exact⟨J9 rfl,J9 rfl⟩
 |false=>cases t<;>first|exact⟨J9 rfl,J9 rfl⟩|exact absurd (LS h) J3
theorem xD{q:Fq}(h:2<=hZ q):b1 q.1.isE<=b1 q.2:=by
 obtain⟨t,f⟩:=q;cases f with
 |true=>cases t<;>exact J9 rfl
 |false=>cases t<;>first|exact J9 rfl|exact absurd (LS h) J3
theorem jq{least:Nat}(hl:1<=least)(hl2:least<=2):∀(S:JP Sg) (q:Fq) (F:JP Fq),Op F S->rq S<=hZ q->least<=hZ q->
  ∃ q' F' S',putAll least (tr (q::F)) S=some (tr (q'::F'),S')/\Op F' S'/\jX S'<least/\least<=hZ q'/\cnt S'=cnt S/\cost (q'::F')<=cost (q::F)
 |[],q,F,J,_,h2=>⟨q,F,[],rfl,J,by show 0<_;omega,h2,rfl,JY _⟩
 |.lp::S,q,F,J,_,h2=>⟨q,F,.lp::S,qh (by show 0<_;omega),J,by show 0<_;omega,h2,rfl,JY _⟩
 |.no::S,q,F,J,h1,h2=>by
  cases J with
  |no J=>
   have I:3<=hZ q:=h1;obtain⟨q',F',S',a1,a2,a3,a4,ac,U⟩:=jq hl hl2 S (.no q.1,false) F J (by show rq S<=3;cases S with|nil=>decide|cons g S=>cases g<;>exact J9 rfl) (by show least<=3;omega);refine⟨q',F',S',?_,a2,a3,a4,ac.trans (iM (by decide) S).symm,?_⟩
   ·rw[pj (A':=tr ((.no q.1,false)::F)) (show least<=3 by omega) rfl];exact a1
   ·have e:=HB q.1
    have:=(xW I).1;rw[iZ q];rw[iZ (Tr.no q.1,false)] at U;have b0:b1 false=0:=rfl;simp only[b0] at U;omega
 |.both::S,q,F,J,h1,h2=>by
  cases J with
  | @both x F _ J hx ht=>
   have I:3<=hZ q:=h1;obtain⟨q',F',S',a1,a2,a3,a4,ac,U⟩:=jq hl hl2 S (.both x.1 q.1,false) F J (by show rq S<=2;cases S with|nil=>decide|cons g S=>cases g<;>first|exact J9 rfl|exact absurd (LS ht) J3) (by show least<=2;exact hl2);refine⟨q',F',S',?_,a2,a3,a4,ac.trans (iM (by decide) S).symm,?_⟩
   ·rw[pj (A':=tr ((.both x.1 q.1,false)::F)) (show least<=2 from hl2) rfl];exact a1
   ·have e:=Fz x.1 q.1
    have:=(xW I).1
    have:=xD hx;rw[iZ q,iZ x];rw[iZ (Tr.both x.1 q.1,false)] at U;have b0:b1 false=0:=rfl;simp only[b0] at U;omega
 |.either::S,q,F,J,h1,h2=>by
  by_cases hle:least=1
  ·cases J with
   | @either x F _ J ht=>
    have I:2<=hZ q:=h1;subst hle;obtain⟨q',F',S',a1,a2,a3,a4,ac,U⟩:=jq hl hl2 S (.either x.1 q.1,false) F J (by show rq S<=1;cases S with|nil=>decide|cons g S=>cases g<;>first|exact J9 rfl|(cases (show _=0 from ht))) (by show 1<=1;decide);refine⟨q',F',S',?_,a2,a3,a4,ac.trans (iM (by decide) S).symm,?_⟩
    ·rw[pj (A':=tr ((.either x.1 q.1,false)::F)) (show 1<=1 by decide) rfl];exact a1
    ·have e:=EG x.1 q.1
     have:=xD I;rw[iZ q,iZ x];rw[iZ (Tr.either x.1 q.1,false)] at U;have b0:b1 false=0:=rfl;simp only[b0] at U;omega
  ·have:least=2:=by omega
   subst this;exact⟨q,F,.either::S,qh (by show 1<2;decide),J,by show 1<2;decide,h2,rfl,JY _⟩
noncomputable def RI(s:Ls)(c:Nat):Prop:=match s.st with
 |.first=>∃ F,s.A=tr F/\Op F s.S/\cost F+cnt s.S<=c
 |_=>∃ q F,s.A=tr (q::F)/\Op F s.S/\3<=hZ q/\cost (q::F)+cnt s.S<=c
noncomputable def nk(k:Tk):Nat:=if k= .lp then 1 else 0
theorem mP(S:JP Sg):rq S<=3:=by cases S with|nil=>decide|cons g S=>cases g<;>exact J9 rfl
theorem zR{F:JP Fq}{S:JP Sg}{c:Nat}{k:Tk}{s':Ls}(ho:Op F S)(hc:cost F+cnt S<=c)(h:lI (tr F) S k=some s'):RI s' (c+nk k):=by
 cases k with
 |leaf l=>
  cases h;exact⟨(.leaf l,false),F,rfl,ho,by show 3<=3;decide,by rw[iZ];have e:need (Tr.leaf l)=0:=rfl;have J:b1 false=0:=rfl;have U:nk (.leaf l)=0:=rfl;simp only[e,J,U];omega⟩
 |lp=>
  have h':(if cnt S<12 then some (Ls.mk (tr F) (.lp::S) .first) else none)=some s':=h;split at h'
  ·cases h';exact⟨F,rfl,ho.lp,by rw[oh];have n1:nk .lp=1:=rfl;omega⟩
  ·cases h'
 |no=>
  cases h;exact⟨F,rfl,ho.no,by rw[iM (by decide)];have n1:nk .no=0:=rfl;omega⟩
 |near _=>cases h
 |and=>cases h
 |or=>cases h
 |rp=>cases h
theorem lP{q:Fq}{F:JP Fq}{S:JP Sg}{c:Nat}{k:Tk}{s':Ls}(ho:Op F S)(hq:3<=hZ q)(hc:cost (q::F)+cnt S<=c)(h:kP (tr (q::F)) S k=some s'):RI s' (c+nk k):=by
 have both:∀ k,(putAll 2 (tr (q::F)) S).bind (λq=>lI q.1 (.both::q.2) k)=some s'->RI s' (c+nk k):=λk h=>by
  obtain⟨U,I,J,a1,a2,a3,a4,ac,a5⟩:=jq (least:=2) (by decide) (by decide) S q F ho (Kj (mP S) hq) (by omega);rw[a1] at h;exact zR (F:=U::I) (S:= .both::J) (.both a2 a4 (by omega)) (by rw[iM (by decide)];omega) h
 cases k with
 |near n=>cases h
 |leaf l=>exact both _ h
 |lp=>exact both _ h
 |no=>exact both _ h
 |and=>
  obtain⟨U,I,J,a1,a2,a3,a4,ac,a5⟩:=jq (least:=2) (by decide) (by decide) S q F ho (Kj (mP S) hq) (by omega);have h':(putAll 2 (tr (q::F)) S).bind (λq=>some (Ls.mk q.1 (.both::q.2) .first))=some s':=h;rw[a1] at h';cases h';exact⟨U::I,rfl,.both a2 a4 (Nat.le_of_lt_succ a3),by show cost _+cnt (.both::J)<=_;rw[iM (by decide)];omega⟩
 |or=>
  obtain⟨U,I,J,a1,a2,a3,a4,ac,a5⟩:=jq (least:=1) (by decide) (by decide) S q F ho (Kj (mP S) hq) (by omega);have h':(putAll 1 (tr (q::F)) S).bind (λq=>some (Ls.mk q.1 (.either::q.2) .first))=some s':=h;rw[a1] at h';cases h';exact⟨U::I,rfl,.either a2 (Nat.lt_one_iff.mp a3),by show cost _+cnt (.either::J)<=_;rw[iM (by decide)];omega⟩
 |rp=>
  obtain⟨U,I,J,a1,a2,a3,a4,ac,a5⟩:=jq (least:=1) (by decide) (by decide) S q F ho (Kj (mP S) hq) (by omega);have h':(if 0<cnt S then (putAll 1 (tr (q::F)) S).bind (λq=>match q.2 with|_::J=>some (Ls.mk q.1 J .more)|[]=>none) else none)=some s':=h;split at h'
  ·rw[a1] at h';cases J with
   |nil=>cases h'
   |cons g J=>
    cases h';have hg:g= .lp:=by cases g<;>first|rfl|exact absurd (LS a3) J3
    subst hg;cases a2 with
    |lp a2=>
     refine⟨(U.1,true),I,rfl,a2,JY 3,?_⟩;rw[iZ] at a5 ⊢;rw[oh] at ac;have bt:b1 true=1:=rfl;simp only[bt];show need U.1+1+cost I+cnt J<=c+nk .rp;omega
  ·cases h'
theorem qi{s s':Ls}{c:Nat}{k:Tk}(hi:RI s c)(h:dP s k=some s'):RI s' (c+nk k):=by
 obtain⟨A,S,st⟩:=s;cases st with
 |first=>
  obtain⟨F,rfl,U,J⟩:=hi;exact zR U J h
 |more=>
  obtain⟨q,F,rfl,U,I,J⟩:=hi;exact lP U I J h
 |plain=>
  obtain⟨q,F,rfl,U,I,J⟩:=hi;cases k with
  |near n=>
   cases h;exact⟨q,F,rfl,U,I,J⟩
  |leaf l=>exact lP U I J h
  |lp=>exact lP U I J h
  |no=>exact lP U I J h
  |and=>exact lP U I J h
  |or=>exact lP U I J h
  |rp=>exact lP U I J h
 |near n=>
  obtain⟨q,F,e,U,I,J⟩:=hi;have h':qV n A S k=some s':=h;cases k with
  |leaf b=>
   cases A with
   |nil=>cases h'
   |cons x r=>
    cases x with
    |leaf a=>
     cases h';have e':Tr.leaf a::r=q.1::tr F:=e;injection e' with e1 e2;refine⟨(.near a b n,q.2),F,by rw[e2];rfl,U,by show 3<=hZ _;unfold hZ;split<;>exact JY 3,?_⟩;rw[iZ] at J ⊢;have n1:need (Tr.near a b n)=0:=rfl;have n2:need (Tr.leaf a)=0:=rfl;rw[<-e1,n2] at J;simp only[n1];show 0+b1 q.2+cost F+cnt S<=_;have aa:0+b1 q.2+cost F+cnt S<=c:=J;omega
    |near _ _ _=>cases h'
    |both _ _=>cases h'
    |either _ _=>cases h'
    |no _=>cases h'
  |near _=>cases h'
  |no=>cases h'
  |and=>cases h'
  |or=>cases h'
  |lp=>cases h'
  |rp=>cases h'
theorem zI:∀(l:JP Tk) {s s':Ls} {c:Nat},RI s c->eN s l=some s'->RI s' (c+nb l)
 |[],s,s',c,hi,h=>by cases h;exact hi
 |k::l,s,s',c,hi,h=>by
  have h':(dP s k).bind (λs'=>eN s' l)=some s':=h;cases e:dP s k with
  |none=>rw[e] at h';cases h'
  |some s1=>
   rw[e] at h';have r:=zI l (qi hi e) h';have:c+nk k+nb l=c+nb (k::l):=by
    unfold nk;split
    ·rename_i z;rw[z,uX];omega
    ·rename_i z;rw[pC z];omega
   rw[this] at r;exact r
theorem few{l:JP Tk}{s:Ls}{t:Tr}(h:eN ⟨[],[],.first⟩ l=some s)(hf:fK s=some t):need t<=nb l:=by
 have r:=zI l (c:=0) (s:=⟨[],[],.first⟩) ⟨[],rfl,.nil,JY _⟩ h;rw[Nat.zero_add] at r;unfold fK at hf;split at hf
 ·rename_i hw;obtain⟨hw,U⟩:=hw;have r':∃ q F,s.A=tr (q::F)/\Op F s.S/\3<=hZ q/\cost (q::F)+cnt s.S<=nb l:=by
   unfold RI at r;rcases hw with hw|hw<;>(rw[hw] at r;exact r)
  obtain⟨q,F,e,ho,hq,hc⟩:=r';obtain⟨I,F',S',a1,a2,a3,a4,ac,a5⟩:=jq (least:=1) (by decide) (by decide) s.S q F ho (Kj (mP _) hq) (by omega);rw[e,a1] at hf;cases S' with
  |cons g S'=>
   have hg:g= .lp:=by cases g<;>first|rfl|exact absurd (LS a3) J3
   subst hg;rw[oh] at ac;omega
  |nil=>
   cases a2;have J:some I.1=some t:=hf;have e3:I.1=t:=Kg J;rw[iZ] at a5;rw[<-e3];omega
 ·cases hf
open K01 (dA)
noncomputable def sl(s:JP Nat)(p q:Nat):JP Nat:=(s.drop p).take (q-p)
noncomputable def dj(L:JP Nat)(e:Nat):Nat:=e+((L.drop e).takeWhile dA).length
theorem rl{L:JP Nat}{e:Nat}(h:e<=L.length):e<=dj L e/\dj L e<=L.length:=by
 unfold dj;have h1:=List.takeWhile_sublist (l:=L.drop e) dA;have:=h1.length_le;rw[KH] at this;omega
theorem An{L:JP Nat}{e c:Nat}(h:L[e]? =some c)(hs:dA c=true):dj L (e+1)=dj L e:=by
 unfold dj;obtain⟨J,U⟩:=List.getElem?_eq_some_iff.mp h;rw[Lb J,U,LC,J1 hs,JV];omega
theorem CC{L:JP Nat}{e c:Nat}(h:L[e]? =some c)(hs:dA c=false):dj L e=e:=by
 unfold dj;obtain⟨J,U⟩:=List.getElem?_eq_some_iff.mp h;rw[Lb J,U,LC,if_neg (by rw[hs];exact J3)];rfl
theorem Ck{L:JP Nat}{e:Nat}(h:L.length<=e):dj L e=e:=by
 unfold dj;rw[MD h];rfl
noncomputable def fq(L:JP Nat)(b:Nat):Nat:=b+((L.drop b).takeWhile λc=>decide (c≠34)).length
theorem FP{L:JP Nat}{e c:Nat}(h:L[e]? =some c)(hs:c≠34):fq L e=fq L (e+1):=by
 unfold fq;obtain⟨J,U⟩:=List.getElem?_eq_some_iff.mp h;rw[Lb J,U,LC,J1 (JS hs),JV];omega
theorem Gu{L:JP Nat}{e:Nat}(h:L[e]? =some 34):fq L e=e:=by
 unfold fq;obtain⟨J,U⟩:=List.getElem?_eq_some_iff.mp h;rw[Lb J,U,LC,if_neg (by decide)];rfl
theorem JE{L:JP Nat}{e:Nat}(h:L.length<=e):fq L e=e:=by
 unfold fq;rw[MD h];rfl
theorem ve{L:JP Nat}:∀(n:Nat) {b k:Nat},k-b=n->b<=k->k<=L.length->(∀ v,b<=v->v<k->∀ c,L[v]? =some c->c≠34)->fq L b=fq L k
 |0,b,k,hn,hb,_,_=>by rw[show b=k by omega]
 |n+1,b,k,hn,hb,hk,h=>by
  have U:b<L.length:=by omega
  have J:L[b]? =some L[b]:=List.getElem?_eq_getElem U;rw[FP J (h b (JY _) (by omega) _ J)];exact ve n (by omega) (by omega) hk λv h1 h2=>h v (by omega) h2
theorem zE{L:JP Nat}{b:Nat}(h:b<=L.length):b<=fq L b/\fq L b<=L.length:=by
 unfold fq;have h1:=List.takeWhile_sublist (l:=L.drop b) λc=>decide (c≠34)
 have:=h1.length_le;rw[KH] at this;omega
end RA
namespace K13
open PySem L2 PyProof.Rows PySem.Spec Gn K01
open RA (sl dj)
theorem gQ(c d:Nat):decide (V.str ⟨#[c]⟩=V.str ⟨#[d]⟩)=decide (c=d):=by
 by_cases h:c=d
 ·subst h;simp
 ·rw[JQ h];exact JQ λz=>h (by injection z with z;injection z with z;simpa using z)
theorem xh(a b:JP Nat):decide (V.str ⟨a.toArray⟩=V.str ⟨b.toArray⟩)=decide (a=b):=by
 by_cases h:a=b
 ·subst h;simp
 ·rw[JQ h];exact JQ λz=>h (by injection z with z;injection z with z;simpa using z)
theorem Ai(l:JP Nat){a b:Nat}(hab:a<=b)(hb:b<=l.length):Txt.slice ⟨l.toArray⟩ (some (a:Int)) (some (b:Int))=⟨((l.drop a).take (b-a)).toArray⟩:=by
 have h:=NT (⟨l.toArray⟩:Str) hab (by rw[du];exact hb)
 have e:(⟨l.toArray⟩:Str).cps.toList=l:=by simp
 rw[e] at h;exact h
theorem Ee(x:Str)(l:JW Int){b:Int}(h:(x.length:Int)<=b):Txt.slice x l (some b)=Txt.slice x l (some (x.length:Int)):=by
 have e:Lh l (some b) 1 x.length=Lh l (some (x.length:Int)) 1 x.length:=by
  unfold Lh;have h0:¬ b<0:=by omega
  have h1:¬ (x.length:Int)<0:=by omega
  have h2:min b (x.length:Int)=min (x.length:Int) (x.length:Int):=by omega
  have p:(1:Int)>0:=by decide
  simp only[if_neg h0,if_neg h1,h2,J1 p]
 unfold Txt.slice;rw[e]
theorem jh(l:JP Nat){a b:Nat}(hab:a<=b)(ha:a<=l.length):Txt.slice ⟨l.toArray⟩ (some (a:Int)) (some (b:Int))=⟨(RA.sl l a b).toArray⟩:=by
 by_cases hb:b<=l.length
 ·exact Ai l hab hb
 ·rw[Ee _ _ (by rw[du];omega),du,Ai l ha (JY _)];unfold RA.sl;rw[Lq (by rw[KH];omega),Lq (by rw[KH];omega)]
theorem FF{a b:Prop}(h:if true=true then a else b):a:=by rwa [J1 rfl] at h
theorem HP{a b:Prop}(h:if false=true then a else b):b:=by rwa [if_neg J3] at h
noncomputable abbrev Pq:=Str×Kf×Nat
noncomputable def kx(H:Hp)(p:JR)(q:Pq):Prop:=∃ v,H p=some (.tup [.str q.1,v,.int (q.2.2:Nat)])/\cD false H v q.2.1
theorem kx.same {H H':Hp}{p:JR}{q:Pq}(h:kx H p q)(s:bY H H'):kx H' p q:=by
 obtain⟨v,h1,h2⟩:=h;exact⟨v,s _ _ h1,h2.same s⟩
noncomputable abbrev sT(l:JP Nat):Str:=⟨l.toArray⟩
noncomputable def jz(L:JP Nat):Pq:=("none",.none,L.length)
noncomputable def ku(L:JP Nat)(b:Nat):Pq:=if sl L (dj L b) (dj L b+1)=[42] then ("leaf",.tuple [.str "start",.str (sT (sl L b (dj L b)))],dj L b+1) else if isJ (sT (sl L b (dj L b))) then (sT (sl L b (dj L b)),.none,dj L b) else ("leaf",.tuple [.str "word",.str (sT (sl L b (dj L b)))],dj L b)
section
variable {P : Ka} {w : Ku} {K : J7} {mg : Str -> JW JT} {base : KP}
noncomputable def oq(H:Hp)(q:Pq)(Q:VK):Prop:=∀ p H',bY H H'->kx H' p q->Q (.ref p) H'
noncomputable def sR:Sp:=λvs H Q _=>∃ L:JP Nat,vs=[.str (sT L)]/\L.length<=20000/\oq H (jz L) Q
theorem EA:da ["line"] ["line"] (cG lL):=⟨rfl,rfl,rfl,dkq,rfl,dkq,dkq⟩
seal cH PS PE PT PA PG PI cT cP in
theorem w6{f:JR}{fd:J2}(D:Df K mg "no_piece" lL f fd)(T:Txt mg):bX P w K mg base b7 1 f fd ["line"] sR:=by
 refine D.F.ok EA (λvs H Q E h=>?_) (λcdv A outer s H vs Q E J h=>?_)
 ·obtain⟨L,rfl,_⟩:=h;rfl
 ·obtain⟨L,rfl,U,k⟩:=h;refine⟨_,b5 (cy (dv (bU b8 (bU ib (bU (dF ip rfl T.len e8 (bU (pv 0) bV)) bV))))),?_⟩;refine⟨_,rfl,_,rfl,dC (by rw[du];omega),fG,λp hp=>k p _ (cq hp) ⟨.non,?_,.non⟩⟩;rw[b6,du];rfl
noncomputable def tX:Sp:=λvs H Q _=>∃(L:JP Nat) (b:Nat),vs=[.str (sT L),.int b]/\L.length<=20000/\b<=L.length/\Q (.int (dj L b:Nat)) H
theorem wg:da ["line","begin","end"] ["line","begin"] (cG mz):=⟨rfl,rfl,rfl,dkq,rfl,dkq,dkq⟩
seal cH PS PE PT PA PG PI cT cP in
theorem AN{f:JR}{fd:J2}(D:Df K mg "end_of_row" mz f fd)(T:Txt mg):bX P w K mg base b7 1 f fd ["line","begin"] tX:=by
 obtain⟨tc,cc⟩:=T.cSmall;refine D.F.ok wg (λvs H Q E h=>?_) (λcdv A outer s H vs Q E hr h=>?_)
 ·obtain⟨L,b,rfl,_⟩:=h;rfl
 ·obtain⟨L,b,rfl,hl,hb,k⟩:=h;refine⟨_,b9 (cZ (i:=2) wg.nd rfl (Kh rfl) (pv 1))
   (b9 (jZ KZ (PW.pt (g8 (cx iQ (pv 2) (dF ip rfl T.len e8 (bU (pv 0) bV)) (cC _)) (gZ (cx qK (cK gE (pv 0) (pv 2) (λ_ _=>rfl)) (fH (v:= .str (JO "abcdefghijklmnopqrstuvwxyz0123456789")) rfl cc ⟨_,rfl⟩) rfl))))
    (b5 (zA (i:=2) wg.nd rfl (Kh rfl) bZ yX)))
   (b5 (cy (pv 2)))),?_⟩;refine⟨_,rfl,?_⟩;have al:(sT L).length=L.length:=du L;refine jT (λσ H'=>∃ e:Nat,σ=[some (.str (sT L)),some (.int b),some (.int e)]/\H'=H/\e<=L.length/\dj L e=dj L b) (λσ _=>match σ with|[_,_,some (.int r)]=>L.length-r.toNat|_=>0) ⟨b,rfl,rfl,hb,rfl⟩ ?_ ?_
  ·rintro σ H' ⟨e,rfl,rfl,he,hE⟩;refine⟨_,rfl,_,rfl,_,rfl,dC (by rw[al];omega),_,_,rfl,rfl,_,rfl,?_⟩;rw[al];by_cases J:e<L.length
   ·rw[JS (show(e:Int)<(L.length:Int) by omega)];have U:L[e]? =some (L[e]):=List.getElem?_eq_getElem J;refine cg ⟨_,rfl,_,rfl,_,_,L[e],rfl,rfl,dC (by rw[al];omega),cJ (j:=e) (by simpa using U),_,_,rfl,rfl,_,rfl,?_⟩;rw[qY];cases hs:dA L[e] with
    |true=>
     refine cg ⟨_,rfl,_,_,rfl,rfl,⟨e+1,rfl,rfl,by omega,by rw[RA.An U hs];exact hE⟩,?_⟩;show L.length-((e:Int)+1).toNat<L.length-((e:Int)).toNat;omega
    |false=>
     refine cj ⟨_,rfl,?_⟩;rw[RA.CC U hs] at hE;rw[hE];exact k
   ·rw[JQ (show ¬ (e:Int)<(L.length:Int) by omega)];refine cj (cj ⟨_,rfl,?_⟩);rw[RA.Ck (by omega)] at hE;rw[hE];exact k
  ·intro σ H' Q1 Q2 I h;obtain⟨x,h1,y,h2,z,h3,h4,i,j,e1,e2,b,e3,q⟩:=h;refine⟨x,h1,y,h2,z,h3,h4,i,j,e1,e2,b,e3,?_⟩;cases b with
   |true=>
    have q':=FF q;obtain⟨v,g1,u,g2,S,i2,c,f1,f2,f3,f4,a,d,k1,k2,bb,k3,q2⟩:=q';exact cg ⟨v,g1,u,g2,S,i2,c,f1,f2,f3,f4,a,d,k1,k2,bb,k3,I _ _ q2⟩
   |false=>exact cj (I _ _ (HP q))
noncomputable def xv:Sp:=λvs H Q _=>∃(L:JP Nat) (b:Nat),vs=[.str (sT L),.int b]/\L.length<=20000/\b<=L.length/\oq H (ku L b) Q
theorem tS:da ["line","begin","end","word"] ["line","begin"] (cG pN):=⟨rfl,rfl,rfl,dkq,rfl,dkq,dkq⟩
seal cH PS PE PT PA PG PI cT cP in
theorem DZ{f fe j:JR}{fd fde:J2}(D:Df K mg "word_piece" pN f fd)(DE:Df K mg "end_of_row" mz fe fde)(hJ:mg "JOINING"=some (.ref j))(kJ:∀ H,cu K H j gR)(T:Txt mg):bX P w K mg base b7 2 f fd ["line","begin"] xv:=by
 have GE:bX P w K mg base b7 1 fe fde ["line","begin"] tX:=AN DE T
 have bE:=DE.F.binds (ps:=["line","begin"]) λ_ _ _ _ _ _ us I=>match us,I with|[_,_],_=>rfl
 refine D.F.ok tS (λvs H Q E h=>?_) (λcdv A outer s H vs Q E hr h=>?_)
 ·obtain⟨L,b,rfl,_⟩:=h;rfl
 ·obtain⟨L,b,rfl,I,hb,k⟩:=h;have al:(sT L).length=L.length:=du L;obtain⟨r1,r2⟩:=RA.rl hb;refine⟨_,b9 (cZ (i:=2) tS.nd rfl (Kh rfl) (cQ GE hr rfl DE.m DE.F.kp bE .nil cz (bU (pv 0) (bU (pv 1) bV))))
   (b9 (cZ (i:=3) tS.nd rfl (Kh rfl) (gS gJ (pv 0) (fh (pv 1)) (fh (pv 2))))
   (b9 (cM (cx cU (gS gJ (pv 0) (fh (pv 2)) (fh (cA eD (pv 2) bZ))) b8 (cC _)) (b5 (cy (dv (bU b8 (bU (dv (bU b8 (bU (pv 3) bV))) (bU (cA eD (pv 2) bZ) bV)))))) cY)
   (b9 (cM (cx kC (pv 3) (fH (v:= .ref j) rfl hJ rfl) rfl) (b5 (cy (dv (bU (pv 3) (bU ib (bU (pv 2) bV)))))) cY)
   (b5 (cy (dv (bU b8 (bU (dv (bU b8 (bU (pv 3) bV))) (bU (pv 2) bV))))))))),?_⟩;refine⟨_,rfl,_,rfl,L,b,rfl,I,hb,?_⟩;refine⟨_,rfl,_,rfl,_,rfl,_,rfl,_,rfl,_,rfl,dC (by rw[al];omega),?_⟩;rw[jh L r1 hb];refine⟨_,rfl,_,rfl,_,rfl,_,rfl,_,_,rfl,rfl,((dj L b+1:Nat):Int),rfl,_,rfl,dC (by rw[al];omega),rfl,_,rfl,?_⟩;rw[jh L (by omega) r2,show decide (V.str ⟨(sl L (dj L b) (dj L b+1)).toArray⟩=V.str (JO "*"))=decide (sl L (dj L b) (dj L b+1)=[42]) from xh _ [42]];unfold ku at k;by_cases h1:sl L (dj L b) (dj L b+1)=[42]
  ·rw[J1 h1] at k;rw[JS h1];refine cg ⟨_,rfl,eJ,λp1 J=>⟨_,rfl,_,_,rfl,rfl,fG,λp hp=>?_⟩⟩;have s1:bY H (upd H p1 (.tup [.str (JO "start"),.str (sT (sl L b (dj L b)))])):=cq J;refine k p _ (bY.upf s1 hp) ⟨.ref p1,by rw[b6];rfl,.tup (by rw[cF (λz=>by rw[<-z,b6] at hp;cases hp)];exact b6) (.cons (.str _) (.cons (.str _) .nil))⟩
  ·rw[if_neg h1] at k;rw[JQ h1];refine cj ⟨_,rfl,j,gR,rfl,.inr (kJ _),rfl,rfl,_,rfl,i4 (λU=>?_) (λU=>?_)⟩
   ·have hj:isJ (sT (sl L b (dj L b)))=true:=U;rw[J1 hj] at k;exact⟨_,rfl,_,rfl,fG,λp hp=>k p _ (cq hp) ⟨.non,b6,.non⟩⟩
   ·have hj:¬ isJ (sT (sl L b (dj L b)))=true:=U;rw[if_neg hj] at k;refine⟨_,rfl,eJ,λp1 J=>⟨_,rfl,fG,λp hp=>?_⟩⟩;have s1:bY H (upd H p1 (.tup [.str (JO "word"),.str (sT (sl L b (dj L b)))])):=cq J;refine k p _ (bY.upf s1 hp) ⟨.ref p1,b6,.tup (by rw[cF (λz=>by rw[<-z,b6] at hp;cases hp)];exact b6) (.cons (.str _) (.cons (.str _) .nil))⟩
end
noncomputable def qS(w:JP Nat):JW Nat:=(LL 21).find? λn=>decide (w=dE (n:Int))
noncomputable def jL(L:JP Nat)(b:Nat):Pq:=match qS (sl L (b+1) (dj L (b+1))) with|some n=>("~",.int n,dj L (b+1))|none=>jz L
theorem find_none{p:Nat->KS}:∀{n:Nat},(∀ m,m<n->p m=false)->(LL n).find? p=none:=λh=>List.find?_eq_none.mpr λx J=>by
 rw[h x (List.mem_range.mp J)];exact J3
theorem Bt{p:Nat->KS}{n k:Nat}(hk:k<n)(h:∀ m,m<k->p m=false)(hp:p k=true):(LL n).find? p=some k:=by
 have e:LL n=LL k++(LL (n-k)).map (k + ·):=by
  rw[<-List.range_add,Nat.add_sub_cancel' (M3 hk)]
 rw[e,List.find?_append,find_none h];obtain⟨d,hd⟩:∃ d,n-k=d+1:=⟨n-k-1,by omega⟩;rw[hd,List.range_succ_eq_map];simp[hp]
section
variable {P : Ka} {w : Ku} {K : J7} {mg : Str -> JW JT} {base : KP}
noncomputable def yo:Sp:=λvs H Q _=>∃(L:JP Nat) (b:Nat),vs=[.str (sT L),.int b]/\L.length<=20000/\b<L.length/\oq H (jL L b) Q
theorem uA:da ["line","begin","end","far"] ["line","begin"] (cG p5):=⟨rfl,rfl,rfl,dkq,rfl,dkq,dkq⟩
seal cH PS PE PT PA PG PI cT cP in
theorem Js{f fe fn:JR}{fd fde fdn:J2}(D:Df K mg "far_piece" p5 f fd)(DE:Df K mg "end_of_row" mz fe fde)(DN:Df K mg "no_piece" lL fn fdn)(T:Txt mg):bX P w K mg base b7 2 f fd ["line","begin"] yo:=by
 have GE:bX P w K mg base b7 1 fe fde ["line","begin"] tX:=AN DE T
 have bE:=DE.F.binds (ps:=["line","begin"]) λ_ _ _ _ _ _ us U=>match us,U with|[_,_],_=>rfl
 have GN:bX P w K mg base b7 1 fn fdn ["line"] sR:=w6 DN T
 have bN:=dY (p:="line") DN.F λ_ _ _ _ _ _ _=>rfl
 obtain⟨tf,cf⟩:=T.cFar;refine D.F.ok uA (λvs H Q E h=>?_) (λcdv A outer s H vs Q E hr h=>?_)
 ·obtain⟨L,b,rfl,_⟩:=h;rfl
 ·obtain⟨L,b,rfl,U,hb,k⟩:=h;have al:(sT L).length=L.length:=du L;obtain⟨r1,r2⟩:=RA.rl (L:=L) (e:=b+1) (by omega);refine⟨_,b9 (cZ (i:=2) uA.nd rfl (Kh rfl) (cQ GE hr rfl DE.m DE.F.kp bE .nil cz (bU (pv 0) (bU (cA eD (pv 1) bZ) bV))))
   (b9 (lF KZ rfl (kZ rfl T.range (bU (cA eD (fH (v:= .int 20) rfl cf ⟨_,rfl⟩) bZ) bV)) (eX (i:=3) uA.nd rfl (Kh rfl))
    (b5 (cM (cx cU (gS gJ (pv 0) (fh (cA eD (pv 1) bZ)) (fh (pv 2))) (il tT rfl T.str mm (bU (pv 3) bV)) (cC _)) (b5 (cy (dv (bU b8 (bU (pv 3) (bU (pv 2) bV)))))) cY)))
   (b5 (cy (cQ GN hr rfl DN.m DN.F.kp bN .nil cz (bU (pv 0) bV))))),?_⟩;refine⟨_,rfl,_,rfl,_,_,rfl,rfl,L,b+1,rfl,U,by omega,?_⟩;refine⟨_,_,rfl,rfl,(21:Int),rfl,by decide,by decide,?_⟩;refine rA (λi σ H'=>∃ I,σ=[some (.str (sT L)),some (.int b),some (.int (dj L (b+1):Nat)),I]/\H'=H/\∀ m,m<i->decide (sl L (b+1) (dj L (b+1))=dE (m:Int))=false) ?_ ?_ ?_
  ·exact⟨none,rfl,rfl,λm hm=>absurd hm (Nat.not_lt_zero m)⟩
  ·rintro i σ H' hi ⟨I,rfl,rfl,J⟩;have aa:i<21:=hi;rw[show(0:Int)+(i:Nat)=(i:Int) by omega];refine⟨_,rfl,_,rfl,_,_,rfl,rfl,((b+1:Nat):Int),rfl,_,rfl,_,rfl,_,rfl,dC (by rw[al];omega),_,rfl,(i:Int),rfl,?_,rfl,_,rfl,?_⟩
   ·rw[Int.natAbs_natCast];exact N5 (Nat.log2_le_self i) (by omega)
   rw[jh L r1 (by omega),show decide (V.str ⟨(sl L (b+1) (dj L (b+1))).toArray⟩=V.str (JO (toString (i:Int))))=decide (sl L (b+1) (dj L (b+1))=dE (i:Int)) from by
    have:=xh (sl L (b+1) (dj L (b+1))) (dE (i:Int));rw[show(⟨(dE (i:Int)).toArray⟩:Str)=JO (toString (i:Int)) from toStr _] at this;exact this];cases hd:decide (sl L (b+1) (dj L (b+1))=dE (i:Int)) with
   |true=>
    refine cg ⟨_,rfl,_,rfl,fG,λp hp=>k p _ (cq hp) ?_⟩;unfold jL qS;rw[Bt (p:=λn=>decide (sl L (b+1) (dj L (b+1))=dE (n:Int))) aa J hd];exact⟨.int i,b6,.int _⟩
   |false=>
    refine cj ⟨_,rfl,rfl,λm hm=>?_⟩;by_cases q:m<i
    ·exact J m q
    ·have:m=i:=by omega
     rw[this];exact hd
  ·rintro σ H' ⟨I,rfl,rfl,J⟩;refine⟨_,rfl,L,rfl,U,?_⟩;have e:jL L b=jz L:=by
    unfold jL qS;rw[find_none (n:=21) (p:=λn=>decide (sl L (b+1) (dj L (b+1))=dE (n:Int))) J]
   rw[e] at k;exact k
end
end K13
namespace L2
open PySem PySem.Spec PyProof.Rows
section
variable {X : Cx}
theorem FN:jC X "str.find" (λx xs H Q=>∃ z y i,x= .str z/\xs=[.str y,.int i]/\Q (.int (Txt.find3 z y i)) H):=by
 intro pins s σ H x xs v us Q I J rs h;obtain⟨z,y,i,rfl,rfl,q⟩:=h;obtain⟨t,rfl⟩:=J;obtain⟨U,u2,rfl,⟨t1,rfl⟩,⟨t2,rfl⟩⟩:=vals2 rs;exact SC.find3 ⟨.int _,H,I.tok _,⟨_,rfl⟩,q⟩
theorem Al(z:Str):(Txt.words z).length<=z.length+1:=by
 have:=len_le_of_words (l:=(Txt.words z).map λy=>(y,(0:Tok))) (x:=z) (by rw[LB];exact OF _)
 rwa [JX] at this
theorem E9(z:Str):(Nn z (z.length+1)).length<=z.length+1:=by
 have h:=Al z;unfold Txt.words at h;by_cases c:(Nn z (z.length+1) == [(0,z.length)])=true
 ·have e:=eq_of_beq c;rw[e];exact ON 1 _
 ·rw[if_neg c] at h;unfold wordsOf at h
  rwa [JX] at h
theorem vj:∀(n:Nat) (ys:JP Str),Vals (ys.map V.str) (strsFrom n ys)
 |_,[]=> .nil
 |n,y::ys=> .cons ⟨_,rfl⟩ (vj (n+1) ys)
theorem Gf:jC X "str.split" (λx xs H Q=>∃ z,x= .str z/\xs=[]/\z.length<=100000/\∀ p,H p=none->Q (.ref p) (upd H p (.lst ((Txt.words z).map V.str)))):=by
 intro pins s σ H x xs v us Q I U rs h;obtain⟨z,rfl,rfl,hz,q⟩:=h;obtain⟨t,rfl⟩:=U;have J:=rs.zero;subst J;have hl:(sizeLine:Nat)=16777216:=Kv;have b1:=E9 z;have b2:=Al z;have hf:H s.heap.objs.size=none:=I.hok.fresh (JY _);refine MY Mr (Nf s z t) Np (F.args_str_split_1 _) (meets_str_split_space z t (by omega) (by omega)) ?_;by_cases c:(Nn z (z.length+1) == [(0,z.length)])=true
 ·rw[J1 c];have e:Txt.words z=[z]:=by unfold Txt.words;rw[J1 c]
  rw[e] at q;exact⟨.ref s.heap.objs.size,_,I.laid (t':=s.toks) (o:= .lst [.str z]) (λb u e=>Heap.get?_push_of_some _ e) (JY _) ⟨by show 1<=_;omega,[.str z t],0,.cons ⟨_,rfl⟩ .nil,Heap.get?_push_size _ rfl⟩,rfl,q _ hf⟩
 ·rw[if_neg c];have e:Txt.words z=wordsOf z:=by unfold Txt.words;rw[if_neg c]
  rw[e] at q b2;exact⟨.ref s.heap.objs.size,_,I.laid (o:= .lst ((wordsOf z).map V.str)) (λb u e=>Heap.get?_push_of_some _ e) (JY _) ⟨by rw[JX];omega,_,0,vj s.toks (wordsOf z),Heap.get?_push_size _ rfl⟩,rfl,q _ hf⟩
end
end L2
namespace K13
open PySem L2 PyProof.Rows PySem.Spec Gn K01
open RA (sl dj fq)
theorem GG{L:JP Nat}{b:Nat}(hb:b<=L.length):Txt.find3 (sT L) (JO "\"") (b:Int)=if fq L b<L.length then ((fq L b:Nat):Int) else -1:=by
 have hf:fromIndex (sT L).length (b:Int)=b:=by
  unfold fromIndex;rw[if_neg (by omega)];omega
 have J:∀ v,(sT L).cps.getD v 0=L.getD v 0:=λv=>by
  show L.toArray.getD v 0=_;simp
 have U:=StrLaws.find3_spec (sT L) 34 (b:Int);rw[hf] at U;have al:(sT L).length=L.length:=du L;rw[al] at U;rcases U with ⟨e,h⟩|⟨k,e,h1,h2,h3,h4⟩
 ·have:fq L b=L.length:=by
   rw[RA.ve (L.length-b) rfl hb (JY _) λv v1 v2 c I=>?_,RA.JE (JY _)];have:=h v v1 v2;rw[J,List.getD_eq_getElem?_getD,I] at this;exact this
  rw[this,if_neg (Kw _)];exact e
 ·have hg:L[k]? =some 34:=by
   rw[J,List.getD_eq_getElem?_getD,List.getElem?_eq_getElem h2] at h3;rw[List.getElem?_eq_getElem h2];exact K9 some h3
  have:fq L b=k:=by
   rw[RA.ve (k-b) rfl h1 (M3 h2) λv v1 v2 c I=>?_,RA.Gu hg];have:=h4 v v1 v2;rw[J,List.getD_eq_getElem?_getD,I] at this;exact this
  rw[this,J1 h2];exact e
noncomputable def fU(c:Nat):KS:=decide (c=32)||dA c
noncomputable def pI(L:JP Nat)(b:Nat):JP Str:=Txt.words (sT (sl L (b+1) (fq L (b+1))))
noncomputable def hU(ws:JP Str):Kf:=if ws.length=1 then .tuple [.str "word",.str (ws.getD 0 "")] else .tuple [.str "row",.tuple (ws.map .str)]
noncomputable def ja(L:JP Nat)(b:Nat):Pq:=if fq L (b+1)<L.length/\(sl L (b+1) (fq L (b+1))).all fU=true/\1<=(pI L b).length/\(pI L b).length<=8 then ("leaf",hU (pI L b),fq L (b+1)+1) else jz L
section
variable {P : Ka} {w : Ku} {K : J7} {mg : Str -> JW JT} {base : KP}
noncomputable def xQ:Sp:=λvs H Q _=>∃(L:JP Nat) (b:Nat),vs=[.str (sT L),.int b]/\L.length<=20000/\b<L.length/\oq H (ja L b) Q
noncomputable abbrev yP:JP Str:=["line","begin","end","signs","words","leaf"]
theorem p7:da yP ["line","begin"] (cG nC):=⟨rfl,rfl,rfl,dkq,rfl,dkq,dkq⟩
noncomputable def Bv:TE:=λσ H Q=>∃(a:JR) (ws:JP Str),σ[4]? =some (some (.ref a))/\H a=some (.lst (ws.map V.str))/\1<=ws.length/\ws.length<=8/\∀ v H',bY H H'->cD false H' v (hU ws)->Q v H'
seal cH PS PE PT PA PG PI cT cP in
theorem Hd{f fn:JR}{fd fdn:J2}(D:Df K mg "marked_piece" nC f fd)(DN:Df K mg "no_piece" lL fn fdn)(T:Txt mg):bX P w K mg base b7 2 f fd ["line","begin"] xQ:=by
 have GN:bX P w K mg base b7 1 fn fdn ["line"] sR:=w6 DN T
 have bN:=dY (p:="line") DN.F λ_ _ _ _ _ _ _=>rfl
 obtain⟨tc,cc⟩:=T.cSmall;obtain⟨tm,cm⟩:=T.cMR;refine D.F.ok p7 (λvs H Q E h=>?_) (λcdv A outer s H vs Q E hr h=>?_)
 ·obtain⟨L,b,rfl,_⟩:=h;rfl
 ·obtain⟨L,b,rfl,hl,hb,k⟩:=h;have al:(sT L).length=L.length:=du L;obtain⟨r1,r2⟩:=RA.zE (L:=L) (b:=b+1) (by omega);refine⟨_,b9 (cZ (i:=2) p7.nd rfl (Kh rfl) (fS LA F.slot_str_find F.type_str_find FN (pv 0) (bU b8 (bU (cA eD (pv 1) bZ) bV))))
   (b9 (cM (cx iQ (pv 2) bZ (cC _)) (b5 (cy (cQ GN hr rfl DN.m DN.F.kp bN .nil cz (bU (pv 0) bV)))) cY)
   (b9 (cZ (i:=3) p7.nd rfl (Kh rfl) (gS gJ (pv 0) (fh (cA eD (pv 1) bZ)) (fh (pv 2))))
   (b9 (cM (gF (fZ (dF (vt rfl) rfl T.all uM (bU (jA (own:=1) (caps:=[]) (N:=["sign"]) (N0:=yP) (sc0:=cG nC) rfl (ug (pv 3))
     (λ_ _ _=>eX (i:=0) uy rfl (Kh rfl)) (λ_ _ _=>jj)
     (λ_ _ _=>zK (ik cU (pv 0) b8 (cC _)) (sx (ik qK (pv 0) (fH (v:= .str (JO "abcdefghijklmnopqrstuvwxyz0123456789")) rfl cc ⟨_,rfl⟩) rfl))) (iV (by decide)) rfl rfl
     dkq rfl dkq dkq rfl dkq) bV)))) (b5 (cy (cQ GN hr rfl DN.m DN.F.kp bN .nil cz (bU (pv 0) bV)))) cY)
   (b9 (cZ (i:=4) p7.nd rfl (Kh rfl) (iL LA Mr F.type_str_split Gf (pv 3)))
   (b9 (cM (PW.pt (gn (cx cU (dF iF rfl T.len e8 (bU (pv 4) bV)) bZ (cC _)) (ia (cx iJ (dF iF rfl T.len e8 (bU (pv 4) bV)) (fH (v:= .int 8) rfl cm ⟨_,rfl⟩) (cC _))))) (b5 (cy (cQ GN hr rfl DN.m DN.F.kp bN .nil cz (bU (pv 0) bV)))) cY)
   (b9 (cZ (i:=5) p7.nd rfl (Kh rfl) (PE.imp (t':=Bv) (ji (cx cU (dF iF rfl T.len e8 (bU (pv 4) bV)) bZ (cC _)) (dv (bU b8 (bU (cK fO (pv 4) bZ (λ_ _=>rfl)) bV))) (dv (bU b8 (bU (il sF rfl T.tuple oU (bU (pv 4) bV)) bV)))) ?mA))
   (b5 (cy (dv (bU b8 (bU (pv 5) (bU (cA eD (pv 2) bZ) bV)))))))))))),?_⟩
  rotate_left
  case mA=>
   rintro σ H Q ⟨a,ws,e4,ha,w1,w2,q⟩;refine⟨_,e4,a,_,rfl,.inl (ck.of ha),rfl,_,rfl,i4 (λhb=>?_) (λhb=>?_)⟩
   ·have h1:ws.length=1:=by
     have h1:V.int ((ws.map V.str).length:Int)=V.int 1:=LZ hb;injection h1 with h1;rw[JX] at h1;omega
    match ws,h1 with
    |[x],_=>
     exact⟨_,e4,a,_,_,_,rfl,rfl,ck.of ha,cJ (j:=0) rfl,eJ,λp hp=>q _ _ (cq hp) (.tup b6 (.cons (.str _) (.cons (.str _) .nil)))⟩
   ·have h1:¬ ws.length=1:=λz=>hb (JS (by rw[JX,z];rfl))
    have e:hU ws= .tuple [.str "row",.tuple (ws.map .str)]:=by unfold hU;rw[if_neg h1]
    rw[e] at q;refine⟨_,e4,a,_,rfl,.inl ⟨ck.of ha,λt ht=>⟨eJ,λp hp=>?_⟩⟩⟩;have s1:bY H (upd H t (.tup (ws.map V.str))):=cq ht;exact q _ _ (bY.upf s1 hp) (.tup b6 (.cons (.str _) (.cons (.tup (cq hp _ _ b6) (cV.strs ws)) .nil)))
  refine⟨_,rfl,rfl,_,rfl,_,_,rfl,rfl,_,_,_,rfl,rfl,?_⟩;show hV 2 (V.int (Txt.find3 (sT L) (JO "\"") ((b+1:Nat):Int))) _ _ _;rw[GG (by omega)];have J:∀{H':Hp},bY H H'->ja L b=jz L->oq H' (jz L) Q:=λ{H'} s0 e p H2 s2 af=>k p H2 (s0.trans s2) (by rw[e];exact af);by_cases hq:fq L (b+1)<L.length
  ·rw[J1 hq];refine⟨_,rfl,_,_,rfl,rfl,_,rfl,?_⟩;rw[JQ (show ¬ ((fq L (b+1):Nat):Int)<0 by omega)];refine cj ⟨_,rfl,_,rfl,_,_,rfl,rfl,((b+1:Nat):Int),rfl,_,rfl,_,rfl,_,rfl,dC (by rw[al];omega),?_⟩;rw[jh L r1 (by omega)];generalize hS:sl L (b+1) (fq L (b+1))=S;have Sl:S.length<=20000:=by
    rw[<-hS];unfold RA.sl;rw[Lr,KH];omega
   have mk:ja L b=if S.all fU=true/\1<=(Txt.words (sT S)).length/\(Txt.words (sT S)).length<=8 then ((("leaf":Str),hU (Txt.words (sT S)),fq L (b+1)+1):Pq) else jz L:=by
    unfold ja pI;rw[hS];by_cases c:S.all fU=true/\1<=(Txt.words (sT S)).length/\(Txt.words (sT S)).length<=8
    ·rw[J1 c,J1 ⟨hq,c⟩]
    ·rw[if_neg c,if_neg λz=>c z.2]
   have ag:(sT S).length=S.length:=du S;refine⟨_,rfl,sT S,rfl,v9 (x:=sT S) (λi ys H'=>H'=H/\ys=((S.take i).map λc=>V.bl (fU c))) (by show S.toArray.size<_;rw[Kk,Kv];omega) ⟨rfl,rfl⟩ ?_ ?_⟩
   ·rintro i c ys H' N hc ⟨rfl,rfl⟩ hN;have aa:S[i]? =some c:=by simpa using hc
    refine g1 ?_;refine⟨_,rfl,rfl,_,rfl,?_⟩;rw[show decide (V.str ⟨#[c]⟩=V.str (JO " "))=decide (c=32) from gQ c 32];by_cases U:c=32
    ·rw[JS U];refine cg (hN _ _ ⟨rfl,?_⟩);rw[Lk,aa,J5];show _=_++[V.bl (fU c)];rw[show fU c=true from by unfold fU;rw[JS U];rfl]
    ·rw[JQ U];refine cj ⟨_,rfl,_,_,rfl,rfl,hN _ _ ⟨rfl,?_⟩⟩;rw[qY,Lk,aa,J5];show _=_++[V.bl (fU c)];rw[show fU c=dA c from by unfold fU;rw[JQ U];rfl]
   rintro ys H' ⟨rfl,rfl⟩ _ p hp;have tk:S.take (sT S).cps.size=S:=Lq (by show S.length<=S.toArray.size;rw[Kk];exact JY _);have s1:bY H' (upd H' p (.lst ((S.take (sT S).cps.size).map λc=>V.bl (fU c)))):=cq hp;refine⟨p,S.map fU,rfl,ck.of (by rw[b6,tk,LB];rfl),_,rfl,?_⟩;have ab:(S.map fU).all id=S.all fU:=by rw[OE];rfl
   rw[ab];generalize upd H' p (.lst ((S.take (sT S).cps.size).map λc=>V.bl (fU c)))=H1 at s1 ⊢;cases ha:S.all fU with
   |false=>exact cg ⟨_,rfl,L,rfl,hl,J s1 (by rw[mk,if_neg λz=>by rw[ha] at z;cases z.1])⟩
   |true=>
    refine cj ⟨_,rfl,rfl,sT S,rfl,rfl,by rw[ag];omega,λwl ah=>?_⟩;have s2:bY H1 (upd H1 wl (.lst ((Txt.words (sT S)).map V.str))):=cq ah;have ew:upd H1 wl (.lst ((Txt.words (sT S)).map V.str)) wl=some (.lst ((Txt.words (sT S)).map V.str)):=b6;generalize upd H1 wl (.lst ((Txt.words (sT S)).map V.str))=H2 at s2 ew ⊢;have I:=s1.trans s2;refine⟨_,rfl,wl,_,rfl,.inl (ck.of ew),rfl,_,rfl,i4 (λhz=>?_) (λhz=>?_)⟩
    ·have z0:(Txt.words (sT S)).length=0:=by
      have h1:V.int (((Txt.words (sT S)).map V.str).length:Int)=V.int 0:=LZ hz;injection h1 with h1;rw[JX] at h1;omega
     exact cg ⟨_,rfl,L,rfl,hl,J I (by rw[mk,if_neg λz=>by have:=z.2.1;omega])⟩
    ·have z0:(Txt.words (sT S)).length≠0:=λz=>hz (JS (by rw[JX,z];rfl))
     refine⟨_,rfl,wl,_,rfl,.inl (ck.of ew),_,_,rfl,rfl,_,rfl,?_⟩;rw[JX];by_cases h8:8<(Txt.words (sT S)).length
     ·rw[JS (show(8:Int)<((Txt.words (sT S)).length:Int) by omega)];exact cg ⟨_,rfl,L,rfl,hl,J I (by rw[mk,if_neg λz=>by have:=z.2.2;omega])⟩
     ·rw[JQ (show ¬ (8:Int)<((Txt.words (sT S)).length:Int) by omega)];refine cj ⟨wl,Txt.words (sT S),rfl,ew,by omega,by omega,λv H3 s3 pd=>⟨_,rfl,_,rfl,_,_,rfl,rfl,fG,λq ae=>?_⟩⟩;refine k q _ (bY.upf (I.trans s3) ae) ?_;rw[mk,J1 ⟨ha,by omega,by omega⟩];exact⟨v,by rw[b6];rfl,pd.same (cq ae)⟩
  ·rw[if_neg hq];refine⟨_,rfl,_,_,rfl,rfl,_,rfl,cg ⟨_,rfl,L,rfl,hl,J (bY.refl _) ?_⟩⟩;unfold ja;rw[if_neg λz=>hq z.1]
end
noncomputable def fg(L:JP Nat)(b:Nat):Pq:=if dA (L.getD b 0) then ku L b else if L.getD b 0=40\/L.getD b 0=41 then (sT [L.getD b 0],.none,b+1) else if L.getD b 0=126 then jL L b else if L.getD b 0=34 then ja L b else jz L
theorem Dg{L:JP Nat}{b:Nat}(h:b<L.length)(hs:dA (L.getD b 0)=true):b<(ku L b).2.2/\(ku L b).2.2<=L.length:=by
 have U:L[b]? =some (L.getD b 0):=by rw[List.getD_eq_getElem?_getD,List.getElem?_eq_getElem h];rfl
 have I:=RA.An U hs
 have J:=RA.rl (L:=L) (e:=b+1) h;rw[I] at J;unfold ku;by_cases c:sl L (dj L b) (dj L b+1)=[42]
 ·rw[J1 c];have:dj L b<L.length:=by
   rcases Nat.lt_or_ge (dj L b) L.length with q|q
   ·exact q
   ·unfold RA.sl at c;rw[MD q,List.take_nil] at c;cases c
  exact⟨by show b<dj L b+1;omega,this⟩
 ·rw[if_neg c];split<;>exact⟨by show b<dj L b;omega,J.2⟩
theorem wX{L:JP Nat}{b:Nat}(h:b<L.length):b<(jz L).2.2/\(jz L).2.2<=L.length:=⟨h,JY _⟩
theorem B7{L:JP Nat}{b:Nat}(h:b<L.length):b<(jL L b).2.2/\(jL L b).2.2<=L.length:=by
 have J:=RA.rl (L:=L) (e:=b+1) h;unfold jL;split
 ·exact⟨by show b<dj L (b+1);omega,J.2⟩
 ·exact wX h
theorem D4{L:JP Nat}{b:Nat}(h:b<L.length):b<(ja L b).2.2/\(ja L b).2.2<=L.length:=by
 have J:=RA.zE (L:=L) (b:=b+1) h;unfold ja;split
 ·rename_i z;exact⟨by show b<fq L (b+1)+1;omega,z.1⟩
 ·exact wX h
theorem uC{L:JP Nat}{b:Nat}(h:b<L.length):b<(fg L b).2.2/\(fg L b).2.2<=L.length:=by
 unfold fg;by_cases J:dA (L.getD b 0)=true
 ·rw[J1 J];exact Dg h J
 rw[if_neg J];by_cases U:L.getD b 0=40\/L.getD b 0=41
 ·rw[J1 U];exact⟨LJ b,h⟩
 rw[if_neg U];by_cases I:L.getD b 0=126
 ·rw[J1 I];exact B7 h
 rw[if_neg I];by_cases c4:L.getD b 0=34
 ·rw[J1 c4];exact D4 h
 rw[if_neg c4];exact wX h
noncomputable def tF(L:JP Nat):Pq:=("end",.none,L.length)
noncomputable def oN(L:JP Nat):Nat->Nat->JP Pq
 |0,_=>[tF L]
 |n+1,b=>if b<L.length then (if L.getD b 0=32 then oN L n (b+1) else ((fg L b).1,(fg L b).2.1,b)::oN L n (fg L b).2.2) else [tF L]
theorem nY{L:JP Nat}{b:Nat}(h:L.length<=b):∀ n,oN L n b=[tF L]
 |0=>rfl
 |n+1=>by
  show(if b<L.length then _ else _)=_;rw[if_neg (by omega)]
theorem nX{L:JP Nat}:∀(n m:Nat) {b:Nat},L.length-b<=n->L.length-b<=m->oN L n b=oN L m b
 |0,m,b,h,_=>by rw[nY (by omega),nY (by omega)]
 |n+1,0,b,_,h=>by rw[nY (by omega),nY (by omega)]
 |n+1,m+1,b,h1,h2=>by
  show(if b<L.length then _ else _)=(if b<L.length then _ else _);by_cases c:b<L.length
  ·rw[J1 c,J1 c];have nx:=uC c;by_cases J:L.getD b 0=32
   ·rw[J1 J,J1 J,nX n m (by omega) (by omega)]
   ·rw[if_neg J,if_neg J,nX n m (by omega) (by omega)]
  ·rw[if_neg c,if_neg c]
noncomputable def parts(L:JP Nat)(b:Nat):JP Pq:=oN L L.length b
theorem A9{L:JP Nat}{b:Nat}(h:b<L.length)(hb:L.getD b 0=32):parts L b=parts L (b+1):=by
 unfold parts;rw[nX L.length (L.length-b-1+1) (by omega) (by omega)];show(if b<L.length then _ else _)=_;rw[J1 h,J1 hb];exact nX _ _ (by omega) (by omega)
theorem Ay{L:JP Nat}{b:Nat}(h:b<L.length)(hb:L.getD b 0≠32):parts L b=((fg L b).1,(fg L b).2.1,b)::parts L (fg L b).2.2:=by
 have nx:=uC h;unfold parts;rw[nX L.length (L.length-b-1+1) (by omega) (by omega)];show(if b<L.length then _ else _)=_;rw[J1 h,if_neg hb];rw[nX (L.length-b-1) L.length (by omega) (by omega)]
theorem kx.keep {H H':Hp}{p:JR}{q:Pq}(h:kx H p q)(s:g6 H H'):kx H' p q:=by
 obtain⟨v,h1,h2⟩:=h;exact⟨v,s.2 _ _ h1,h2.keep s⟩
noncomputable def pW(H:Hp)(a:JR)(ps:JP Pq):Prop:=∃ qs:JP JR,H a=some (.lst (qs.map V.ref))/\Lo (λu q=>kx H u q) qs ps
section
variable {P : Ka} {w : Ku} {K : J7} {mg : Str -> JW JT} {base : KP}
noncomputable def Au:Sp:=λvs H Q _=>∃(L:JP Nat) (b:Nat),vs=[.str (sT L),.int b]/\L.length<=20000/\b<L.length/\oq H (fg L b) Q
theorem Ap:da ["line","begin","sign"] ["line","begin"] (cG qE):=⟨rfl,rfl,rfl,dkq,rfl,dkq,dkq⟩
seal cH PS PE PT PA PG PI cT cP in
theorem Jn{f fw fe ff fm fn j:JR}{fd fdw fde fdf fdm fdn:J2}(D:Df K mg "piece_at" qE f fd)(DW:Df K mg "word_piece" pN fw fdw)(DE:Df K mg "end_of_row" mz fe fde)(DF:Df K mg "far_piece" p5 ff fdf)(DM:Df K mg "marked_piece" nC fm fdm)(DN:Df K mg "no_piece" lL fn fdn)
  (hJ:mg "JOINING"=some (.ref j))(kJ:∀ H,cu K H j gR)(T:Txt mg):bX P w K mg base b7 3 f fd ["line","begin"] Au:=by
 have GW:bX P w K mg base b7 2 fw fdw ["line","begin"] xv:=DZ DW DE hJ kJ T
 have GF:bX P w K mg base b7 2 ff fdf ["line","begin"] yo:=Js DF DE DN T
 have GM:bX P w K mg base b7 2 fm fdm ["line","begin"] xQ:=Hd DM DN T
 have GN:bX P w K mg base b7 2 fn fdn ["line"] sR:=(w6 DN T).mono (by decide)
 have bW:=DW.F.binds (ps:=["line","begin"]) λ_ _ _ _ _ _ us U=>match us,U with|[_,_],_=>rfl
 have bF:=DF.F.binds (ps:=["line","begin"]) λ_ _ _ _ _ _ us U=>match us,U with|[_,_],_=>rfl
 have bM:=DM.F.binds (ps:=["line","begin"]) λ_ _ _ _ _ _ us U=>match us,U with|[_,_],_=>rfl
 have bN:=dY (p:="line") DN.F λ_ _ _ _ _ _ _=>rfl
 obtain⟨tc,cc⟩:=T.cSmall;refine D.F.ok Ap (λvs H Q E h=>?_) (λcdv A outer s H vs Q E hr h=>?_)
 ·obtain⟨L,b,rfl,_⟩:=h;rfl
 ·obtain⟨L,b,rfl,U,hb,k⟩:=h;have al:(sT L).length=L.length:=du L;refine⟨_,b9 (cZ (i:=2) Ap.nd rfl (Kh rfl) (cK gE (pv 0) (pv 1) (λ_ _=>rfl)))
   (b9 (cM (cx qK (pv 2) (fH (v:= .str (JO "abcdefghijklmnopqrstuvwxyz0123456789")) rfl cc ⟨_,rfl⟩) rfl) (b5 (cy (cQ GW hr rfl DW.m DW.F.kp bW .nil cz (bU (pv 0) (bU (pv 1) bV))))) cY)
   (b9 (cM (PW.pt (gn (cx cU (pv 2) b8 (cC _)) (ia (cx cU (pv 2) b8 (cC _))))) (b5 (cy (dv (bU (pv 2) (bU ib (bU (cA eD (pv 1) bZ) bV)))))) cY)
   (b9 (cM (cx cU (pv 2) b8 (cC _)) (b5 (cy (cQ GF hr rfl DF.m DF.F.kp bF .nil cz (bU (pv 0) (bU (pv 1) bV))))) cY)
   (b9 (cM (cx cU (pv 2) b8 (cC _)) (b5 (cy (cQ GM hr rfl DM.m DM.F.kp bM .nil cz (bU (pv 0) (bU (pv 1) bV))))) cY)
   (b5 (cy (cQ GN hr rfl DN.m DN.F.kp bN .nil cz (bU (pv 0) bV)))))))),?_⟩;have hg:L[b]? =some (L.getD b 0):=by rw[List.getD_eq_getElem?_getD,List.getElem?_eq_getElem hb];rfl
  unfold fg at k;generalize hc:L.getD b 0=c at hg k;refine⟨_,rfl,_,rfl,_,_,c,rfl,rfl,dC (by rw[al];omega),cJ (j:=b) (by simpa using hg),?_⟩;refine⟨_,rfl,_,_,rfl,rfl,_,rfl,?_⟩;rw[qY];cases hs:dA c with
  |true=>
   rw[hs,J1 rfl] at k;exact cg ⟨_,rfl,_,rfl,L,b,rfl,U,M3 hb,k⟩
  |false=>
   rw[hs,if_neg J3] at k;refine cj ⟨_,rfl,rfl,_,rfl,?_⟩;rw[show decide (V.str ⟨#[c]⟩=V.str (JO "("))=decide (c=40) from gQ c 40];have br:c=40\/c=41->∀ p,H p=none->Q (.ref p) (upd H p (.tup [.str ⟨#[c]⟩,.non,.int ((b:Int)+1)])):=λh p hp=>by
    rw[J1 h] at k;exact k p _ (cq hp) ⟨.non,by rw[b6];rfl,.non⟩
   by_cases I:c=40
   ·rw[JS I];exact cg (cg ⟨_,rfl,_,rfl,_,_,rfl,rfl,fG,br (.inl I)⟩)
   ·rw[JQ I];refine cj ⟨_,rfl,rfl,_,rfl,?_⟩;rw[show decide (V.str ⟨#[c]⟩=V.str (JO ")"))=decide (c=41) from gQ c 41];by_cases aa:c=41
    ·rw[JS aa];exact cg ⟨_,rfl,_,rfl,_,_,rfl,rfl,fG,br (.inr aa)⟩
    ·rw[JQ aa];rw[if_neg (λz=>z.elim I aa)] at k;refine cj ⟨_,rfl,rfl,_,rfl,?_⟩;rw[show decide (V.str ⟨#[c]⟩=V.str (JO "~"))=decide (c=126) from gQ c 126];by_cases J:c=126
     ·rw[JS J];rw[J1 J] at k;exact cg ⟨_,rfl,_,rfl,L,b,rfl,U,hb,k⟩
     ·rw[JQ J];rw[if_neg J] at k;refine cj ⟨_,rfl,rfl,_,rfl,?_⟩;rw[show decide (V.str ⟨#[c]⟩=V.str (JO "\""))=decide (c=34) from gQ c 34];by_cases ab:c=34
      ·rw[JS ab];rw[J1 ab] at k;exact cg ⟨_,rfl,_,rfl,L,b,rfl,U,hb,k⟩
      ·rw[JQ ab];rw[if_neg ab] at k;exact cj ⟨_,rfl,L,rfl,U,k⟩
noncomputable def yF:Sp:=λvs H Q _=>∃ L:JP Nat,vs=[.str (sT L)]/\L.length<=20000/\∀ a H',bY H H'->H a=none->pW H' a (parts L 0)->Q (.ref a) H'
theorem pw:da ["line","found","place","piece"] ["line"] (cG qP):=⟨rfl,rfl,rfl,dkq,rfl,dkq,dkq⟩
theorem lD{H H':Hp}{a:JR}{o:HO}(s:bY H H')(h:H a=none):bY H (upd H' a o):=λb u e=>by rw[cF (dI e h)];exact s b u e
seal cH PS PE PT PA PG PI cT cP in
theorem Eo{f fp:JR}{fd fdp:J2}(D:Df K mg "parted" qP f fd)(DP:Df K mg "piece_at" qE fp fdp)(GP:bX P w K mg base b7 3 fp fdp ["line","begin"] Au)(T:Txt mg):bX P w K mg base b7 4 f fd ["line"] yF:=by
 have bP:=DP.F.binds (ps:=["line","begin"]) λ_ _ _ _ _ _ us hl=>match us,hl with|[_,_],_=>rfl
 refine D.F.ok pw (λvs H Q E h=>?_) (λcdv A outer s H vs Q E hr h=>?_)
 ·obtain⟨L,rfl,_⟩:=h;rfl
 ·obtain⟨L,rfl,hl,k⟩:=h;have al:(sT L).length=L.length:=du L;refine⟨_,b9 (cZ (i:=1) pw.nd rfl (Kh rfl) (eZ bV)) (b9 (cZ (i:=2) pw.nd rfl (Kh rfl) bZ)
   (b9 (jZ KZ (cx iQ (pv 2) (dF ip rfl T.len e8 (bU (pv 0) bV)) (cC _))
    (b5 (cM (cx cU (cK gE (pv 0) (pv 2) (λ_ _=>rfl)) b8 (cC _)) (b5 (zA (i:=2) pw.nd rfl (Kh rfl) bZ yX))
     (b9 (cZ (i:=3) pw.nd rfl (Kh rfl) (cQ GP hr rfl DP.m DP.F.kp bP .nil cz (bU (pv 0) (bU (pv 2) bV))))
     (b9 (e7 (fS Kp KO K6 iO (pv 1) (bU (dv (bU (cK dS (pv 3) bZ (λ_ _=>rfl)) (bU (cK dS (pv 3) bZ (λ_ _=>rfl)) (bU (pv 2) bV)))) bV)))
     (b5 (cZ (i:=2) pw.nd rfl (Kh rfl) (cK dS (pv 3) bZ (λ_ _=>rfl)))))))))
   (b9 (e7 (fS Kp KO K6 iO (pv 1) (bU (dv (bU b8 (bU ib (bU (dF ip rfl T.len e8 (bU (pv 0) bV)) bV)))) bV)))
   (b5 (cy (pv 1)))))),?_⟩;refine⟨Ks _,λa ha=>?_⟩;refine jT (λσ H'=>∃(pl:Nat) (qs:JP JR) (ds:JP Pq) (o:JW V),σ=[some (.str (sT L)),some (.ref a),some (.int pl),o]/\bY H H'/\H' a=some (.lst (qs.map V.ref))/\Lo (λu q=>kx H' u q) qs ds/\qs.length<=pl/\pl<=L.length/\parts L 0=ds++parts L pl) (λσ _=>match σ with|[_,_,some (.int r),_]=>L.length-r.toNat|_=>0) ⟨0,[],[],none,rfl,cq ha,b6,.nil,JY _,Ks _,rfl⟩ ?_ ?_
  ·rintro σ H' ⟨pl,qs,ds,o,rfl,sm,hA,hP,hq,hp,he⟩;refine⟨_,rfl,_,rfl,_,rfl,dC (by rw[al];omega),_,_,rfl,rfl,_,rfl,?_⟩;rw[al];by_cases U:pl<L.length
   ·rw[JS (show(pl:Int)<(L.length:Int) by omega)];have hg:L[pl]? =some (L.getD pl 0):=by rw[List.getD_eq_getElem?_getD,List.getElem?_eq_getElem U];rfl
    refine cg ⟨_,rfl,_,rfl,_,_,L.getD pl 0,rfl,rfl,dC (by rw[al];omega),cJ (j:=pl) (by simpa using hg),rfl,_,rfl,?_⟩;rw[show decide (V.str ⟨#[L.getD pl 0]⟩=V.str (JO " "))=decide (L.getD pl 0=32) from gQ _ 32];by_cases I:L.getD pl 0=32
    ·rw[JS I];refine cg ⟨_,rfl,_,_,rfl,rfl,⟨pl+1,qs,ds,_,rfl,sm,hA,hP,by omega,by omega,by rw[he,A9 U I]⟩,?_⟩;show L.length-((pl:Int)+1).toNat<L.length-((pl:Int)).toNat;omega
    ·rw[JQ I];have nx:=uC U;refine cj ⟨_,rfl,_,rfl,L,pl,rfl,hl,U,λp H1 s1 af=>?_⟩;obtain⟨v,ep,pd⟩:=af;have aa:=s1 _ _ hA;refine⟨_,rfl,.inl ⟨rfl,_,ck.of aa⟩,_,rfl,p,_,_,_,rfl,rfl,cu.of ep,cJ (j:=0) rfl,_,rfl,p,_,_,_,rfl,rfl,cu.of ep,cJ (j:=1) rfl,_,rfl,fG,λu hu=>?_⟩;have s2:bY H1 (upd H1 u (.tup [.str (fg L pl).1,v,.int pl])):=cq hu;have eu:upd H1 u (.tup [.str (fg L pl).1,v,.int pl]) u=some (.tup [.str (fg L pl).1,v,.int pl]):=b6;have J:=s2 _ _ aa;have ab:=s2 _ _ ep;generalize upd H1 u (.tup [.str (fg L pl).1,v,.int pl])=H2 at s2 eu J ab ⊢;refine⟨a,_,_,rfl,rfl,J,by rw[JX,Kv];omega,?_⟩;have kp:g6 H2 (upd H2 a (.lst (qs.map V.ref++[.ref u]))):=g6.lst J;have ae:=s1.trans s2;refine⟨_,rfl,p,_,_,_,rfl,rfl,cu.of (kp.2 _ _ ab),cJ (j:=2) rfl,⟨(fg L pl).2.2,qs++[u],ds++[((fg L pl).1,(fg L pl).2.1,pl)],_,rfl,lD (sm.trans ae) ha,by rw[b6,J5];rfl,?_,by rw[JU];show _+1<=_;omega,nx.2,by rw[he,Ay U I,Kt];rfl⟩,?_⟩
     ·refine Gn.Paired.app (Gn.Paired.imp2 hP λ_ _ h=>(h.same ae).keep kp) ?_;exact⟨v,kp.2 _ _ eu,(pd.same s2).keep kp⟩
     ·show L.length-(((fg L pl).2.2:Nat):Int).toNat<L.length-((pl:Int)).toNat;omega
   ·rw[JQ (show ¬ (pl:Int)<(L.length:Int) by omega)];refine cj ⟨_,rfl,.inl ⟨rfl,_,ck.of hA⟩,_,rfl,_,rfl,dC (by rw[al];omega),fG,λu hu=>?_⟩;have s2:bY H' (upd H' u (.tup [.str (JO "end"),.non,.int ((sT L).length:Nat)])):=cq hu;have eu:upd H' u (.tup [.str (JO "end"),.non,.int ((sT L).length:Nat)]) u=some (.tup [.str (JO "end"),.non,.int ((sT L).length:Nat)]):=b6;have J:=s2 _ _ hA;generalize upd H' u (.tup [.str (JO "end"),.non,.int ((sT L).length:Nat)])=H2 at s2 eu J ⊢;refine⟨a,_,_,rfl,rfl,J,by rw[JX,Kv];omega,?_⟩;have kp:g6 H2 (upd H2 a (.lst (qs.map V.ref++[.ref u]))):=g6.lst J;refine⟨_,rfl,k a _ (lD (sm.trans s2) ha) ha ⟨qs++[u],by rw[b6,J5];rfl,?_⟩⟩;rw[he,show parts L pl=[tF L] from nY (by omega) _];refine Gn.Paired.app (Gn.Paired.imp2 hP λ_ _ h=>(h.same s2).keep kp) ⟨.non,?_,.non⟩;rw[al] at eu;exact kp.2 _ _ eu
  ·intro σ H' Q1 Q2 hq h;obtain⟨x,h1,y,h2,z,h3,h4,i,j,e1,e2,b,e3,q⟩:=h;exact⟨x,h1,y,h2,z,h3,h4,i,j,e1,e2,b,e3,hq _ _ q⟩
end
mutual
theorem cD.tups {H H' : Hp} (s : ∀ b xs, H b = some (.tup xs) -> H' b = some (.tup xs)) : ∀ {x : V} {d : Kf}, cD false H x d -> cD false H' x d
 | _, _, .non => .non
 | _, _, .bl b => .bl b
 | _, _, .int i => .int i
 | _, _, .str x => .str x
 | _, _, .lst e h r => by cases e
 | _, _, .tup h r => .tup (s _ _ h) (cV.tups s r)
theorem cV.tups {H H' : Hp} (s : ∀ b xs, H b = some (.tup xs) -> H' b = some (.tup xs)) : ∀ {xs : JP V} {ds : JP Kf}, cV false H xs ds -> cV false H' xs ds
 | _, _, .nil => .nil
 | _, _, .cons h r => .cons (cD.tups s h) (cV.tups s r)
end
noncomputable def dJ(p:JR)(H H':Hp):Prop:=∀ b u,b≠p->H b=some u->H' b=some u
theorem dJ.trans {p:JR}{H H1 H2:Hp}(a:dJ p H H1)(b:dJ p H1 H2):dJ p H H2:=λc u n e=>b c u n (a c u n e)
theorem dJ.of {p:JR}{H H':Hp}(s:bY H H'):dJ p H H':=λ_ _ _ e=>s _ _ e
theorem dJ.upd {p:JR}{H:Hp}{o:HO}:dJ p H (upd H p o):=λb u n e=>by rw[cF n];exact e
theorem dJ.tup {p C dx:JR}{fs:JP (Str×V)}{H H':Hp}(s:dJ p H H')(h:H p=some (.ins C dx fs)):∀ b xs,H b=some (.tup xs)->H' b=some (.tup xs):=λb xs e=>s b _ (λz=>by rw[z,h] at e;cases e) e
structure gh where
 nots : Nat
 a : Kf
 o : Kf
noncomputable def jQ:Nat->Kf->Kf
 |0,d=>d
 |n+1,d=>jQ n (.tuple [.str "not",d])
theorem AA:∀(n:Nat) (d:Kf),jQ (n+1) d= .tuple [.str "not",jQ n d]
 |0,_=>rfl
 |n+1,d=>AA n (.tuple [.str "not",d])
noncomputable def iE:Kf->KS
 |.none=>true|_=>false
noncomputable def uG(d:Kf)(b:gh):gh:=⟨0,if iE b.a then jQ b.nots d else .tuple [.str "both",b.a,jQ b.nots d],b.o⟩
noncomputable def qG(b:gh):gh:=⟨b.nots,.none,if iE b.o then b.a else .tuple [.str "either",b.o,b.a]⟩
noncomputable abbrev fB(n va vo:V):JP (Str×V):=dh "by_or" vo (dh "by_and" va (dh "nots" n []))
theorem vC:("nots":Str)≠"by_and":=dkq
theorem uJ:("nots":Str)≠"by_or":=dkq
theorem wk:("by_and":Str)≠"by_or":=dkq
theorem k4(n va vo:V):fB n va vo=[(("nots":Str),n),(("by_and":Str),va),(("by_or":Str),vo)]:=by
 show dh "by_or" vo (dh "by_and" va [("nots",n)])=_
 have J:dh "by_and" va [(("nots":Str),n)]=[(("nots":Str),n),(("by_and":Str),va)]:=by show(if ("nots":Str)="by_and" then _ else _)=_;rw[if_neg vC];rfl
 rw[J];show(if ("nots":Str)="by_or" then _ else _)=_;rw[if_neg uJ];show(("nots":Str),n)::(if ("by_and":Str)="by_or" then _ else _)=_;rw[if_neg wk];rfl
theorem xk(m n va vo:V):dh "nots" m (fB n va vo)=fB m va vo:=by
 rw[k4,k4];show(if ("nots":Str)="nots" then _ else _)=_;rw[J1 rfl]
theorem vX(m n va vo:V):dh "by_and" m (fB n va vo)=fB n m vo:=by
 rw[k4,k4];show(if ("nots":Str)="by_and" then _ else (("nots":Str),n)::(if ("by_and":Str)="by_and" then _ else _))=_;rw[if_neg vC,J1 rfl]
theorem sZ(m n va vo:V):dh "by_or" m (fB n va vo)=fB n va m:=by
 rw[k4,k4];show(if ("nots":Str)="by_or" then _ else (("nots":Str),n)::(if ("by_and":Str)="by_or" then _ else (("by_and":Str),va)::(if ("by_or":Str)="by_or" then _ else _)))=_;rw[if_neg uJ,if_neg wk,J1 rfl]
theorem zj(n va vo:V):(fB n va vo).lookup ("nots":Str)=some n:=by rw[dO,if_neg uJ,dO,if_neg vC,dO,J1 rfl]
theorem sN(n va vo:V):(fB n va vo).lookup ("by_and":Str)=some va:=by rw[dO,if_neg wk,dO,J1 rfl]
theorem vU(n va vo:V):(fB n va vo).lookup ("by_or":Str)=some vo:=by rw[dO,J1 rfl]
theorem nj(n va vo:V):(fB n va vo).length<1000:=by rw[k4];show 3<1000;decide
noncomputable def f7(C:JR)(H:Hp)(p:JR)(b:gh):Prop:=∃ dx J U,H p=some (.ins C dx (fB (.int b.nots) J U))/\cD false H J b.a/\cD false H U b.o
theorem f7.same {C:JR}{H H':Hp}{p:JR}{b:gh}(h:f7 C H p b)(s:bY H H'):f7 C H' p b:=by
 obtain⟨dx,J,U,h1,h2,I⟩:=h;exact⟨dx,J,U,s _ _ h1,h2.same s,I.same s⟩
structure p9 (K : Kl) (C : JR) : Prop where
 cl : gB K C
 nn : gg K C "nots"
 na : gg K C "by_and"
 no : gg K C "by_or"
theorem AW{H:Hp}{v:V}{d:Kf}(h:cD false H v d):decide (v= .non)=iE d:=by
 cases h<;>first|rfl|exact JQ (λz=>by cases z)
section
variable {P : Ka} {w : Ku} {K : J7} {mg : Str -> JW JT} {base : KP} {C : JR}
noncomputable def vJ(C:JR):Sp:=λvs H Q _=>∃(p dx:JR),vs=[.ref p]/\H p=some (.ins C dx [])/\∀ H',dJ p H H'->f7 C H' p ⟨0,.none,.none⟩->Q .non H'
theorem Bm:da ["self"] ["self"] (cG (inClass gu 0)):=⟨rfl,rfl,rfl,dkq,rfl,dkq,dkq⟩
seal cH PS PE PT PA PG PI cT cP in
theorem y7{f:JR}{fd:J2}(F:ej K "__init__" "Bracket.__init__" (inClass gu 0) f fd)(B:p9 K C):bX P w K mg base b7 1 f fd ["self"] (vJ C):=by
 refine F.ok Bm (λvs H Q E h=>?_) (λcdv A outer s H vs Q E J h=>?_)
 ·obtain⟨p,dx,rfl,_⟩:=h;rfl
 ·obtain⟨p,dx,rfl,hp,k⟩:=h;refine⟨_,b9 (fF (pv 0) bZ rfl) (b9 (fF (pv 0) ib rfl) (b5 (fF (pv 0) ib rfl))),?_⟩;refine⟨_,rfl,p,C,dx,[],rfl,hp,B.cl,B.nn,by decide,_,rfl,p,C,dx,_,rfl,b6,B.cl,B.na,by decide,_,rfl,p,C,dx,_,rfl,b6,B.cl,B.no,by rw[show(dh "by_and" V.non (dh "nots" (.int 0) [])).length=2 from by decide +kernel];decide,?_⟩;exact k _ ((dJ.upd.trans dJ.upd).trans dJ.upd) ⟨dx,.non,.non,b6,.non,.non⟩
noncomputable def A7(C:JR):Sp:=λvs H Q _=>∃(p:JR) (b:gh),vs=[.ref p]/\f7 C H p b/\∀ H',dJ p H H'->f7 C H' p {b with nots:=b.nots+1}->Q .non H'
theorem BI:da ["self"] ["self"] (cG (inClass gu 1)):=⟨rfl,rfl,rfl,dkq,rfl,dkq,dkq⟩
seal cH PS PE PT PA PG PI cT cP in
theorem Dr{f:JR}{fd:J2}(F:ej K "deny" "Bracket.deny" (inClass gu 1) f fd)(B:p9 K C):bX P w K mg base b7 1 f fd ["self"] (A7 C):=by
 refine F.ok BI (λvs H Q E h=>?_) (λcdv A outer s H vs Q E hr h=>?_)
 ·obtain⟨p,b,rfl,_⟩:=h;rfl
 ·obtain⟨p,b,rfl,⟨dx,J,U,h1,h2,I⟩,k⟩:=h;refine⟨_,b5 (Fi (pv 0) bZ Iw),?_⟩;refine⟨_,rfl,p,C,dx,_,_,rfl,h1,B.cl,B.nn,zj _ _ _,_,_,rfl,rfl,dx,_,h1,nj _ _ _,?_⟩;rw[xk];have s1:dJ p H (upd H p (.ins C dx (fB (.int ((b.nots:Int)+1)) J U))):=dJ.upd;exact k _ s1 ⟨dx,J,U,b6,h2.tups (s1.tup h1),I.tups (s1.tup h1)⟩
noncomputable def rX(C:JR):Sp:=λvs H Q _=>∃(p:JR) (b:gh) (v:V) (d:Kf),vs=[.ref p,v]/\f7 C H p b/\b.nots<=100000/\cD false H v d/\∀ H',dJ p H H'->f7 C H' p (uG d b)->Q .non H'
theorem xg:da ["self","told","turn"] ["self","told"] (cG (inClass gu 2)):=⟨rfl,rfl,rfl,dkq,rfl,dkq,dkq⟩
seal cH PS PE PT PA PG PI cT cP in
theorem xc{f:JR}{fd:J2}(F:ej K "take_in" "Bracket.take_in" (inClass gu 2) f fd)(B:p9 K C)(T:Txt mg):bX P w K mg base b7 1 f fd ["self","told"] (rX C):=by
 refine F.ok xg (λvs H Q E h=>?_) (λcdv A outer s H vs Q E hr h=>?_)
 ·obtain⟨p,b,v,d,rfl,_⟩:=h;rfl
 ·obtain⟨p,b,v,d,rfl,⟨dx,va,U,h1,h2,h3⟩,hn,hv,k⟩:=h;refine⟨_,b9 (lF KZ rfl (kZ rfl T.range (bU (df (pv 0) rfl) bV)) (eX (i:=2) xg.nd rfl (Kh rfl)) (b5 (cZ (i:=1) xg.nd rfl (Kh rfl) (dv (bU b8 (bU (pv 1) bV))))))
   (b9 (fF (pv 0) bZ rfl)
   (b5 (fF (pv 0) (ji (cx AD (df (pv 0) rfl) ib (cC _)) (pv 1) (dv (bU b8 (bU (df (pv 0) rfl) (bU (pv 1) bV))))) rfl))),?_⟩;refine⟨_,rfl,p,C,dx,_,_,rfl,h1,B.cl,B.nn,zj _ _ _,_,rfl,by omega,by omega,?_⟩;rw[Oe];refine rA (λi σ H'=>∃(u:V) (o:JW V),σ=[some (.ref p),some u,o]/\bY H H'/\cD false H' u (jQ i d)) ⟨v,none,rfl,bY.refl _,hv⟩ ?_ ?_
  ·rintro i σ H' hi ⟨u,o,rfl,sm,pu⟩;refine⟨_,rfl,eJ,λq hq=>⟨.ref q,_,rfl,bY.upf sm hq,?_⟩⟩;rw[AA];exact .tup b6 (.cons (.str _) (.cons (pu.same (cq hq)) .nil))
  ·rintro σ H1 ⟨u,o,rfl,sm,pu⟩;have e1:=sm _ _ h1;refine⟨_,rfl,p,C,dx,_,rfl,e1,B.cl,B.nn,nj _ _ _,?_⟩;rw[xk];have s1:dJ p H1 (upd H1 p (.ins C dx (fB (.int 0) va U))):=dJ.upd;have e2:upd H1 p (.ins C dx (fB (.int 0) va U)) p=some (.ins C dx (fB (.int 0) va U)):=b6;have tt:=s1.tup e1;generalize upd H1 p (.ins C dx (fB (.int 0) va U))=H2 at s1 e2 tt ⊢;have pa:=(h2.same sm).tups tt;have po:=(h3.same sm).tups tt;have aa:=pu.tups tt;have ae:dJ p H H2:=(dJ.of sm).trans s1;refine⟨_,rfl,p,C,dx,_,_,rfl,e2,B.cl,B.na,sN _ _ _,rfl,_,rfl,?_⟩;rw[AW pa];have fin:∀(x:V) (J:Hp),bY H2 J->cD false J x (uG d b).a->∃ I,(some (.ref p):JW V)=some I/\∃ a' C' ab fs',I= .ref a'/\J a'=some (.ins C' ab fs')/\gB K C'/\gg K C' "by_and"/\fs'.length<1000/\Q .non (upd J a' (.ins C' ab (dh "by_and" x fs'))):=λx J s3 px=>by
    have e3:=s3 _ _ e2;refine⟨_,rfl,p,C,dx,_,rfl,e3,B.cl,B.na,nj _ _ _,?_⟩;rw[vX];have s4:dJ p J (upd J p (.ins C dx (fB (.int 0) x U))):=dJ.upd;have t4:=s4.tup e3;exact k _ (ae.trans ((dJ.of s3).trans s4)) ⟨dx,x,U,b6,px.tups t4,(po.same s3).tups t4⟩
   cases hno:iE b.a with
   |true=>
    refine cg ⟨_,rfl,?_⟩;obtain⟨I,ex,r⟩:=fin u H2 (bY.refl _) (by show cD false H2 u (if iE b.a then _ else _);rw[hno];exact aa);exact⟨I,by simpa using ex,r⟩
   |false=>
    refine cj ⟨_,rfl,p,C,dx,_,_,rfl,e2,B.cl,B.na,sN _ _ _,_,rfl,fG,λq hq=>?_⟩;have s5:bY H2 (upd H2 q (.tup [.str (JO "both"),va,u])):=cq hq;obtain⟨I,ex,r⟩:=fin (.ref q) _ s5 (by show cD false _ _ (if iE b.a then _ else _);rw[hno];exact .tup b6 (.cons (.str _) (.cons (pa.same s5) (.cons (aa.same s5) .nil))));exact⟨I,by simpa using ex,r⟩
noncomputable def uc(C:JR):Sp:=λvs H Q _=>∃(p:JR) (b:gh),vs=[.ref p]/\f7 C H p b/\∀ H',dJ p H H'->f7 C H' p (qG b)->Q .non H'
theorem JA:da ["self"] ["self"] (cG (inClass gu 3)):=⟨rfl,rfl,rfl,dkq,rfl,dkq,dkq⟩
seal cH PS PE PT PA PG PI cT cP in
theorem yW{f:JR}{fd:J2}(F:ej K "choose" "Bracket.choose" (inClass gu 3) f fd)(B:p9 K C):bX P w K mg base b7 1 f fd ["self"] (uc C):=by
 refine F.ok JA (λvs H Q E h=>?_) (λcdv A outer s H vs Q E hr h=>?_)
 ·obtain⟨p,b,rfl,_⟩:=h;rfl
 ·obtain⟨p,b,rfl,⟨dx,U,vo,h1,h2,I⟩,k⟩:=h;refine⟨_,b9 (fF (pv 0) (ji (cx AD (df (pv 0) rfl) ib (cC _)) (df (pv 0) rfl) (dv (bU b8 (bU (df (pv 0) rfl) (bU (df (pv 0) rfl) bV))))) rfl) (b5 (fF (pv 0) ib rfl)),?_⟩;refine⟨_,rfl,p,C,dx,_,_,rfl,h1,B.cl,B.no,vU _ _ _,rfl,_,rfl,?_⟩;rw[AW I];have fin:∀(x:V) (J:Hp),bY H J->cD false J x (qG b).o->Q .non (upd (upd J p (.ins C dx (fB (.int b.nots) U x))) p (.ins C dx (fB (.int b.nots) .non x))):=λx J s3 px=>by
   have e3:=s3 _ _ h1
   have s4:dJ p J (upd (upd J p (.ins C dx (fB (.int b.nots) U x))) p (.ins C dx (fB (.int b.nots) .non x))):=dJ.upd.trans dJ.upd;exact k _ ((dJ.of s3).trans s4) ⟨dx,.non,x,b6,.non,px.tups (s4.tup e3)⟩
  cases hno:iE b.o with
  |true=>
   refine cg ⟨_,rfl,p,C,dx,_,_,rfl,h1,B.cl,B.na,sN _ _ _,_,rfl,p,C,dx,_,rfl,h1,B.cl,B.no,nj _ _ _,_,rfl,p,C,dx,_,rfl,b6,B.cl,B.na,by rw[sZ];exact nj _ _ _,?_⟩;rw[sZ,vX];exact fin U H (bY.refl _) (by show cD false H U (if iE b.o then _ else _);rw[hno];exact h2)
  |false=>
   refine cj ⟨_,rfl,p,C,dx,_,_,rfl,h1,B.cl,B.no,vU _ _ _,_,rfl,p,C,dx,_,_,rfl,h1,B.cl,B.na,sN _ _ _,fG,λq hq=>?_⟩;have s5:bY H (upd H q (.tup [.str (JO "either"),vo,U])):=cq hq;refine⟨_,rfl,p,C,dx,_,rfl,s5 _ _ h1,B.cl,B.no,nj _ _ _,_,rfl,p,C,dx,_,rfl,b6,B.cl,B.na,by rw[sZ];exact nj _ _ _,?_⟩;rw[sZ,vX];exact fin (.ref q) _ s5 (by show cD false _ _ (if iE b.o then _ else _);rw[hno];exact .tup b6 (.cons (.str _) (.cons (I.same s5) (.cons (h2.same s5) .nil))))
end
noncomputable def kb(m:Str):Prop:=m≠"nots"/\m≠"by_and"/\m≠"by_or"
theorem lg{m:Str}(h:kb m)(n va vo:V):(fB n va vo).lookup m=none:=by
 rw[dO,if_neg h.2.2,dO,if_neg h.2.1,dO,if_neg h.1];rfl
theorem zX:kb "choose":=by unfold kb;decide +kernel
theorem Jb:kb "deny":=by unfold kb;decide +kernel
theorem wV:kb "take_in":=by unfold kb;decide +kernel
theorem Ab:kb "whole":=by unfold kb;decide +kernel
structure lr (K : J7) (C fi fd ft fc fw : JR) (di dd dt dc dw : J2) : Prop where
 c : p9 K C
 I : ej K "__init__" "Bracket.__init__" (inClass gu 0) fi di
 mI : L2.Mk K C fi
 D : ej K "deny" "Bracket.deny" (inClass gu 1) fd dd
 mD : Meth K C "deny" fd
 T : ej K "take_in" "Bracket.take_in" (inClass gu 2) ft dt
 mT : Meth K C "take_in" ft
 Ch : ej K "choose" "Bracket.choose" (inClass gu 3) fc dc
 mC : Meth K C "choose" fc
 W : ej K "whole" "Bracket.whole" (inClass gu 4) fw dw
 mW : Meth K C "whole" fw
section
variable {P : Ka} {w : Ku} {K : J7} {mg : Str -> JW JT} {base : KP} {C fi fd ft fc fw : JR} {di dd dt dc dw : J2}
noncomputable def uL(C:JR):Sp:=λvs H Q _=>∃(p:JR) (b:gh),vs=[.ref p]/\f7 C H p b/\∀ v H',dJ p H H'->f7 C H' p (qG b)->cD false H' v (qG b).o->Q v H'
theorem HS:da ["self"] ["self"] (cG (inClass gu 4)):=⟨rfl,rfl,rfl,dkq,rfl,dkq,dkq⟩
seal cH PS PE PT PA PG PI cT cP in
theorem AY(B:lr K C fi fd ft fc fw di dd dt dc dw):bX P w K mg base b7 2 fw dw ["self"] (uL C):=by
 have GC:bX P w K mg base b7 1 fc dc ["self"] (uc C):=yW B.Ch B.c
 have bC:=B.Ch.binds (ps:=["self"]) λ_ _ _ _ _ _ us hl=>match us,hl with|[_],_=>rfl
 refine B.W.ok HS (λvs H Q E h=>?_) (λcdv A outer s H vs Q E hr h=>?_)
 ·obtain⟨p,b,rfl,_⟩:=h;rfl
 ·obtain⟨p,b,rfl,hb,k⟩:=h;refine⟨_,b9 (e7 (nO (pv 0) B.c.cl B.mC GC hr bC .nil cz)) (b5 (cy (df (pv 0) rfl))),?_⟩;obtain⟨dx,va,vo,h1,h2,h3⟩:=id hb;refine⟨_,rfl,p,dx,_,rfl,h1,lg zX _ _ _,p,b,rfl,hb,λH1 b1 J=>?_⟩;obtain⟨U,aa,I,g1,g2,g3⟩:=id J;exact⟨_,rfl,p,C,U,_,_,rfl,g1,B.c.cl,B.c.no,vU _ _ _,k I H1 b1 J g3⟩
end
noncomputable def IG:JP Nat:=codes (JO "abcdefghijklmnopqrstuvwxyzABCDEFGHIJKLMNOPQRSTUVWXYZ0123456789")
noncomputable def gI(c:Nat):KS:=decide (c∈IG)
section
variable {P : Ka} {w : Ku} {K : J7} {mg : Str -> JW JT} {base : KP}
noncomputable def vG:Sp:=λvs H Q _=>∃ c:Nat,vs=[.str ⟨#[c]⟩]/\Q (.str (if gI c then JO "letter" else ⟨#[c]⟩)) H
theorem Ek:da ["_law_sign"] ["_law_sign"] (cG oE):=⟨rfl,rfl,rfl,dkq,rfl,dkq,dkq⟩
seal cH PS PE PT PA PG PI cT cP in
theorem yC{f:JR}{fd:J2}(D:Df K mg "_law_sign_kind" oE f fd):bX P w K mg base b7 1 f fd ["_law_sign"] vG:=by
 refine D.F.ok Ek (λvs H Q E h=>?_) (λcdv A outer s H vs Q E J h=>?_)
 ·obtain⟨c,rfl,_⟩:=h;rfl
 ·obtain⟨c,rfl,k⟩:=h;refine⟨_,b9 (cM (cx qK (pv 0) b8 rfl) (b5 (cy b8)) cY) (b5 (cy (pv 0))),?_⟩;refine⟨_,rfl,_,_,rfl,rfl,_,rfl,?_⟩;rw[show(!(K7 (JO "abcdefghijklmnopqrstuvwxyzABCDEFGHIJKLMNOPQRSTUVWXYZ0123456789") ⟨#[c]⟩ 0 (JO "abcdefghijklmnopqrstuvwxyzABCDEFGHIJKLMNOPQRSTUVWXYZ0123456789").length 1).isEmpty)=gI c from Ng _ _];cases hl:gI c with
  |true=>
   rw[hl] at k;exact cg k
  |false=>
   rw[hl] at k;exact cj ⟨_,rfl,k⟩
noncomputable def lJ(H:Hp)(a:JR)(ds:JP Kf):Prop:=∃ vs,H a=some (.lst vs)/\cV false H vs ds
end
theorem cV.snoc {H:Hp}:∀{vs:JP V} {ds:JP Kf} {v:V} {d:Kf},cV false H vs ds->cD false H v d->cV false H (vs++[v]) (ds++[d])
 |_,_,_,_,.nil,h=> .cons h .nil
 |_,_,_,_,.cons a r,h=> .cons a (cV.snoc r h)
theorem cV.unsnoc {H:Hp}:∀{vs:JP V} {ds:JP Kf} {d:Kf},cV false H vs (ds++[d])->∃ ws v,vs=ws++[v]/\cV false H ws ds/\cD false H v d
 |_,[],d,.cons h .nil=>⟨[],_,rfl,.nil,h⟩
 |_,e::ds,d,.cons h r=>by
  obtain⟨ws,v,rfl,r1,r2⟩:=cV.unsnoc (ds:=ds) r;exact⟨_::ws,v,rfl,.cons h r1,r2⟩
noncomputable def eV(p q:JR)(H H':Hp):Prop:=∀ b u,b≠p->b≠q->H b=some u->H' b=some u
theorem eV.tup {p q:JR}{xs ys:JP V}{H H':Hp}(s:eV p q H H')(hp:H p=some (.lst xs))(hq:H q=some (.lst ys)):∀ b zs,H b=some (.tup zs)->H' b=some (.tup zs):=λb zs e=>s b _ (λz=>by rw[z,hp] at e;cases e) (λz=>by rw[z,hq] at e;cases e) e
theorem jW{xs:JP V}{y:V}:(xs++[y])[(xs++[y]).length-1]? =some y:=by simp
section
variable {P : Ka} {w : Ku} {K : J7} {mg : Str -> JW JT} {base : KP}
noncomputable def xm:Sp:=λvs H Q _=>∃(a g:JR) (J ds:JP Kf) (ss:JP Str) (U:Str) (r:Kf),vs=[.ref a,.ref g]/\a≠g/\H g=some (.lst ((ss++[U]).map V.str))/\lJ H a ds/\ds.length<=10000/\
 ((U="not"/\∃ x,ds=J++[x]/\r= .tuple [.str "not",x])\/(U≠"not"/\∃ x y,ds=J++[x]++[y]/\r= .tuple [.str U,x,y]))/\
 ∀ H',eV a g H H'->H' g=some (.lst (ss.map V.str))->lJ H' a (J++[r])->Q .non H'
theorem vP:da ["_law_asks","_law_signs","_law_sign","_law_other"] ["_law_asks","_law_signs"] (cG ph):=⟨rfl,rfl,rfl,dkq,rfl,dkq,dkq⟩
seal cH PS PE PT PA PG PI cT cP in
theorem Ht{f:JR}{fd:J2}(D:Df K mg "_law_put" ph f fd):bX P w K mg base b7 1 f fd ["_law_asks","_law_signs"] xm:=by
 refine D.F.ok vP (λvs H Q E h=>?_) (λcdv A outer s H vs Q E hr h=>?_)
 ·obtain⟨a,g,_,_,_,_,_,rfl,_⟩:=h;rfl
 ·obtain⟨a,g,ae,ds,ss,sg,r,rfl,ab,hg,⟨us,ha,hu⟩,hl,hc,k⟩:=h;refine⟨_,b9 (cZ (i:=2) vP.nd rfl (Kh rfl) (iL Kp LP L4 jM (pv 1)))
   (b5 (cM (cx cU (pv 2) b8 (cC _))
    (b5 (e7 (fS Kp KO K6 iO (pv 0) (bU (dv (bU b8 (bU (iL Kp LP L4 jM (pv 0)) bV))) bV))))
    (b9 (cZ (i:=3) vP.nd rfl (Kh rfl) (iL Kp LP L4 jM (pv 0)))
    (b5 (e7 (fS Kp KO K6 iO (pv 0) (bU (dv (bU (pv 2) (bU (iL Kp LP L4 jM (pv 0)) (bU (pv 3) bV)))) bV))))))),?_⟩;rw[J5] at hg;refine⟨_,rfl,.inl ⟨rfl,_,ck.of hg⟩,g,_,_,rfl,rfl,hg,jW,?_⟩;have dl:(ss.map V.str++[sg].map V.str).dropLast=ss.map V.str:=Ln;rw[dl];have b1:eV a g H (upd H g (.lst (ss.map V.str))):=λb u _ n e=>by rw[cF n];exact e
  have g1:upd H g (.lst (ss.map V.str)) g=some (.lst (ss.map V.str)):=b6
  have a1:upd H g (.lst (ss.map V.str)) a=some (.lst us):=by rw[cF ab];exact ha
  have I:=hu.tups (b1.tup ha hg);generalize upd H g (.lst (ss.map V.str))=H1 at b1 g1 a1 I ⊢;have fin:∀(ws tp:JP V) (d:Kf) (H2:Hp) (q:JR),H2 a=some (.lst ws)->(∀ b,b≠a->H2 b=H1 b)->H2 q=none->cV false H1 ws ae->(∀ H4:Hp,(∀ b zs,H1 b=some (.tup zs)->H4 b=some (.tup zs))->H4 q=some (.tup tp)->cD false H4 (.ref q) d)->r=d->
    Q .non (upd (upd H2 q (.tup tp)) a (.lst (ws++[.ref q]))):=λws tp d H2 q h2 hB J r1 hd er=>by
   have U:q≠a:=λz=>by rw[z,h2] at J;cases J
   have aa:H1 q=none:=by rw[<-hB q U];exact J
   have ot:∀ b,b≠a->b≠q->upd (upd H2 q (.tup tp)) a (.lst (ws++[.ref q])) b=H1 b:=λb n1 n2=>by rw[cF n1,cF n2];exact hB b n1
   have tt:∀ b zs,H1 b=some (.tup zs)->upd (upd H2 q (.tup tp)) a (.lst (ws++[.ref q])) b=some (.tup zs):=λb zs e=>by
    rw[ot b (λz=>by rw[z,a1] at e;cases e) (dI e aa)];exact e
   refine k _ (λb u n1 n2 e=>?_) ?_ ⟨ws++[.ref q],b6,?_⟩
   ·have e1:=b1 b u n1 n2 e;rw[ot b n1 (dI e1 aa)];exact e1
   ·rw[ot g (K5 ab) (dI g1 aa)];exact g1
   ·rw[er];exact(r1.tups tt).snoc (hd _ tt (by rw[cF U,b6]))
  have sz:sizeLine=16777216:=Kv;refine⟨_,rfl,rfl,_,rfl,?_⟩;rcases hc with ⟨rfl,x,rfl,er⟩|⟨af,x,y,rfl,er⟩
  ·rw[JS rfl];obtain⟨ws,v,rfl,r1,r2⟩:=I.unsnoc;have ln:=r1.len;rw[JU] at hl;refine cg ⟨_,rfl,.inl ⟨rfl,_,ck.of a1⟩,_,rfl,.inl ⟨rfl,_,ck.of a1⟩,a,_,_,rfl,rfl,a1,jW,eJ,λq J=>?_⟩;rw[Ln] at J ⊢;have U:a≠q:=λz=>by rw[<-z,b6] at J;cases J
   refine⟨a,_,_,rfl,rfl,by rw[cF U,b6],by rw[sz];omega,?_⟩;exact fin ws _ _ _ q b6 (λb n=>cF n) J r1 (λH4 tt e=> .tup e (.cons (.str _) (.cons (r2.tups tt) .nil))) er
  ·rw[JQ (λz=>af (by injection z))];obtain⟨ah,vy,rfl,ag,r2⟩:=I.unsnoc;obtain⟨ws,vx,rfl,r1,r3⟩:=ag.unsnoc;have ln:=r1.len;rw[JU,JU] at hl;refine cj ⟨_,rfl,.inl ⟨rfl,_,ck.of a1⟩,a,_,_,rfl,rfl,a1,jW,?_⟩;rw[Ln];have a2:upd H1 a (.lst (ws++[vx])) a=some (.lst (ws++[vx])):=b6;refine⟨_,rfl,.inl ⟨rfl,_,ck.of a2⟩,_,rfl,_,rfl,.inl ⟨rfl,_,ck.of a2⟩,a,_,_,rfl,rfl,a2,jW,_,rfl,fG,λq J=>?_⟩;rw[Ln] at J ⊢;have U:a≠q:=λz=>by rw[<-z,b6] at J;cases J
   refine⟨a,_,_,rfl,rfl,by rw[cF U,b6],by rw[sz];omega,?_⟩;exact fin ws _ _ _ q b6 (λb n=>by rw[cF n,cF n]) J r1 (λH4 tt e=> .tup e (.cons (.str _) (.cons (r3.tups tt) (.cons (r2.tups tt) .nil)))) er
end
open RA (sl dj fq Lf Tr Tk wr brk)
noncomputable def jn:JP (JP Nat)->JP Nat
 |[]=>[]
 |[x]=>x
 |x::y::r=>x++32::jn (y::r)
theorem vw:∀ ls:JP (JP Nat),Txt.join (JO " ") (ls.map sT)=sT (jn ls):=by
 intro ls;show Od _ _=_;rw[Nt];induction ls with
 |nil=>rfl
 |cons x r J=>
  cases r with
  |nil=>rfl
  |cons y r=>
   show sT x++JO " "++Pa (JO " ") ((y::r).map sT)=_;rw[J,show(sT x++JO " ":Str)=sT (x++[32]) from fN x [32],fN];show(⟨(x++[32]++jn (y::r)).toArray⟩:Str)=⟨(x++32::jn (y::r)).toArray⟩;rw[Kt];rfl
noncomputable def gW(w:JP Nat):Prop:=w≠[]/\w.all dA=true
theorem mq{c:Nat}(h:dA c=true):Unicode.isSpace c=false/\c≠32/\c≠34/\c≠40/\c≠41/\c≠42/\c≠126:=by
 have hm:c<128:=by
  unfold dA at h;simp at h;omega
 have:∀ c<128,dA c=true->Unicode.isSpace c=false/\c≠32/\c≠34/\c≠40/\c≠41/\c≠42/\c≠126:=dkq;exact this c hm h
theorem wz(acc:JP Str):∀(w p:JP Nat),w.all dA=true->w.foldl N6 (acc,sT p)=(acc,sT (p++w))
 |[],p,_=>by rw[KR];rfl
 |c::w,p,h=>by
  rw[M9,Lc] at h;have e:N6 (acc,sT p) c=(acc,sT (p++[c])):=by
   unfold N6;rw[if_neg (by rw[(mq h.1).1];exact J3)];show(acc,sT p++sT [c])=_;rw[fN]
  rw[List.foldl_cons,e,wz acc w (p++[c]) h.2,Kt];rfl
theorem wy{w:JP Nat}(h:w≠[]):(sT w).length≠0:=by
 rw[du];cases w with
 |nil=>exact absurd rfl h
 |cons c w=>exact Nat.succ_ne_zero _
theorem Ac:∀(ls:JP (JP Nat)) (acc:JP Str),(∀ w∈ls,gW w)->KWd.fin ((jn ls).foldl N6 (acc,sT []))=acc++ls.map sT
 |[],acc,_=>by rw[OC,KR];rfl
 |[w],acc,h=>by
  have g:=h w (by simp)
  show KWd.fin (w.foldl N6 (acc,sT []))=_;rw[wz acc w [] g.2];show(if (sT w).length=0 then acc else acc++[sT w])=_;rw[if_neg (wy g.1)];rfl
 |w::y::r,acc,h=>by
  have g:=h w (by simp)
  show KWd.fin ((w++32::jn (y::r)).foldl N6 (acc,sT []))=_;rw[List.foldl_append,wz acc w [] g.2,List.foldl_cons];have e:N6 (acc,sT ([]++w)) 32=(acc++[sT w],sT []):=by
   unfold N6;rw[J1 dkq];show(if (sT w).length=0 then _ else _)=_;rw[if_neg (wy g.1)];rfl
  rw[e,Ac (y::r) _ λz J=>h z (J0 _ J),Kt];rfl
theorem BL{ls:JP (JP Nat)}(h:∀ w∈ls,gW w):Txt.words (sT (jn ls))=ls.map sT:=by
 rw[KWd.words_scan];have:=Ac ls [] h;rw[NL] at this;rw[<-this];unfold KWd.scan;simp[sT,Str.empty]
theorem zg:∀(a b:JP (JP Nat)),a≠[]->b≠[]->(∀ w∈a,32∉w)->(∀ w∈b,32∉w)->jn a=jn b->a=b
 |[],_,h,_,_,_,_=>absurd rfl h
 |_,[],_,h,_,_,_=>absurd rfl h
 |[x],[y],_,_,_,_,e=>by
  have J:x=y:=e;rw[J]
 |[x],y::z::r,_,_,h1,_,e=>by
  have J:x=y++32::jn (z::r):=e;exact absurd (by rw[J];simp) (h1 x (by simp))
 |y::z::r,[x],_,_,_,h1,e=>by
  have J:y++32::jn (z::r)=x:=e;exact absurd (by rw[<-J];simp) (h1 x (by simp))
 |x::y::r,U::I::r',_,_,h1,h2,e=>by
  have J:x++32::jn (y::r)=U++32::jn (I::r'):=e
  have tw:∀(w z:JP Nat),32∉w->(w++32::z).takeWhile (λc=>decide (c≠32))=w:=λw z hw=>by
   have hp:∀ c∈w,decide (c≠32)=true:=λc hc=>JS λec=>hw (by rw[<-ec];exact hc)
   rw[NN hp];simp
  have ex:x=U:=by
   have:=K9 (List.takeWhile λc=>decide (c≠32)) J
   rwa [tw _ _ (h1 x (by simp)),tw _ _ (h2 U (by simp))] at this
  subst ex;have e2:=List.append_cancel_left J;injection e2 with _ e3;rw[zg (y::r) (I::r') (by simp) (by simp) (λw hw=>h1 w (J0 _ hw)) (λw hw=>h2 w (J0 _ hw)) e3]
theorem FC(x:Str):Txt.split x ⟨#[32]⟩≠[]:=by
 intro h;unfold Txt.split at h;split at h
 ·cases h
 ·split at h
  ·cases h
  ·rw[StrLaws.partsBetween_eq] at h;obtain⟨p,r,e⟩:=StrLaws.partsFrom_ne x (⟨#[32]⟩:Str).length 0 (K7 x ⟨#[32]⟩ 0 x.length (x.length+1));rw[e] at h;cases h
theorem IU{ls:JP (JP Nat)}(hn:ls≠[])(h:∀ w∈ls,gW w):Txt.split (sT (jn ls)) (JO " ")=ls.map sT:=by
 have j:=StrLaws.join_split (sT (jn ls)) ⟨#[32]⟩
 have fr:=StrLaws.split_free (sT (jn ls)) 32
 have ne:=FC (sT (jn ls))
 show Txt.split (sT (jn ls)) ⟨#[32]⟩=_;generalize Txt.split (sT (jn ls)) ⟨#[32]⟩=S at j fr ne;have J:S=(S.map codes).map sT:=by
  rw[LB];exact(OF S).symm.trans (M7 λz _=>(toStr z).symm)
 have j2:sT (jn (S.map codes))=sT (jn ls):=by
  rw[<-vw,<-J];show Od _ _=_;rw[Nt];exact j
 have U:jn (S.map codes)=jn ls:=by
  have:=K9 codes j2;simpa[codes] using this
 have:=zg (S.map codes) ls (by simpa using ne) hn (λw hw=>by
  obtain⟨z,I,rfl⟩:=List.mem_map.mp hw;exact fr z I) (λw hw hm=>(mq (List.all_eq_true.mp (h w hw).2 _ hm)).2.1 rfl) U;rw[<-this,<-J]
noncomputable def gL:Lf->Prop
 |.word w=>gW w
 |.start w=>gW w
 |.row ws=>2<=ws.length/\ws.length<=8/\∀ w∈ws,gW w
noncomputable def gK:Tk->Prop
 |.leaf l=>gL l
 |.near n=>n<=20
 |_=>O3
noncomputable def mF:Lf->JP Nat
 |.word w=>if isJ (sT w) then 34::(w++[34]) else w
 |.start w=>w++[42]
 |.row ws=>34::(jn ws++[34])
noncomputable def txt:Tk->JP Nat
 |.leaf l=>mF l
 |.near n=>126::dE (n:Int)
 |.no=>[110,111,116]
 |.and=>[97,110,100]
 |.or=>[111,114]
 |.lp=>[40]
 |.rp=>[41]
noncomputable def dL:Lf->Kf
 |.word w=> .tuple [.str "word",.str (sT w)]
 |.start w=> .tuple [.str "start",.str (sT w)]
 |.row ws=> .tuple [.str "row",.tuple (ws.map λw=> .str (sT w))]
noncomputable def kS:Tk->Str
 |.leaf _=>"leaf" |.near _=>"~" |.no=>"not" |.and=>"and" |.or=>"or" |.lp=>"(" |.rp=>")"
noncomputable def mD:Tk->Kf
 |.leaf l=>dL l|.near n=> .int n|_=> .none
noncomputable def cL(k k':Tk):JP Nat:=if k= .lp\/k'= .rp then [] else [32]
noncomputable def tl:Tk->JP Tk->JP Nat
 |_,[]=>[]
 |k,J::r=>cL k J++(txt J++tl J r)
noncomputable def p3(y:JP Nat):Prop:=y=[]\/∃ c r,y=c::r/\(c=32\/c=41)
theorem ni{k:Tk}(h:k≠ .lp):∀ r,p3 (tl k r)
 |[]=> .inl rfl
 |k'::r=>by
  refine .inr ?_;unfold tl cL;by_cases e:k'= .rp
  ·rw[J1 (.inr e),e];exact⟨41,tl .rp r,rfl,.inr rfl⟩
  ·rw[if_neg (λz=>z.elim h e)];exact⟨32,_,rfl,.inl rfl⟩
theorem ka{y:JP Nat}(h:p3 y):y.takeWhile dA=[]/\y.take 1≠[42]:=by
 rcases h with rfl|⟨c,r,rfl,rfl|rfl⟩
 ·exact⟨rfl,by decide⟩
 ·exact⟨by rw[LC,if_neg dkq],by show [32]≠[42];decide⟩
 ·exact⟨by rw[LC,if_neg dkq],by show [41]≠[42];decide⟩
theorem uz{w y:JP Nat}{p:Nat->KS}(hw:w.all p=true)(hy:y.takeWhile p=[]):(w++y).takeWhile p=w:=by
 rw[NN (λc J=>List.all_eq_true.mp hw c J),hy,KR]
theorem iA{L x y:JP Nat}{b:Nat}(h:L.drop b=x++y):L.drop (b+x.length)=y:=by
 rw[<-M0,h,OV]
theorem gH{L:JP Nat}{b c:Nat}{y:JP Nat}(h:L.drop b=c::y):L.getD b 0=c/\b<L.length:=by
 have e:L[b]? =some c:=by
  have:=K9 (λl=>l[0]?) h;simpa using this
 refine⟨by rw[List.getD_eq_getElem?_getD,e];rfl,?_⟩;exact(List.getElem?_eq_some_iff.mp e).1
theorem qe{L:JP Nat}{b:Nat}{w z:JP Nat}(h:L.drop b=w++z)(hw:w.all dA=true)(hz:z.takeWhile dA=[]):
  ku L b=(if z.take 1=[42] then ("leaf",.tuple [.str "start",.str (sT w)],b+w.length+1) else if isJ (sT w) then (sT w,.none,b+w.length) else ("leaf",.tuple [.str "word",.str (sT w)],b+w.length):Pq):=by
 have J:dj L b=b+w.length:=by unfold RA.dj;rw[h,uz hw hz]
 have U:sl L b (b+w.length)=w:=by
  unfold RA.sl;rw[h,Lj,L8]
 have I:sl L (b+w.length) (b+w.length+1)=z.take 1:=by
  unfold RA.sl;rw[iA h,Lj]
 unfold ku;rw[J,U,I]
theorem oS:∀{ls:JP (JP Nat)},(∀ w∈ls,gW w)->(jn ls).all fU=true/\(∀ c∈jn ls,c≠34/\c≠40/\c≠41)
 |[],_=>⟨rfl,λc J=>nomatch J⟩
 |[w],h=>by
  have g:=(h w (by simp)).2;refine⟨List.all_eq_true.mpr λc J=>?_,λc J=>?_⟩
  ·unfold fU;rw[List.all_eq_true.mp g c J,Bool.or_true]
  ·have:=mq (List.all_eq_true.mp g c J);exact⟨this.2.2.1,this.2.2.2.1,this.2.2.2.2.1⟩
 |w::y::r,h=>by
  have g:=(h w (by simp)).2
  have U:=oS (ls:=y::r) λz I=>h z (J0 _ I)
  refine⟨?_,λc J=>?_⟩
  ·show(w++32::jn (y::r)).all fU=true;rw[OK,M9,U.1,List.all_eq_true.mpr λc J=>by unfold fU;rw[List.all_eq_true.mp g c J,Bool.or_true]];rfl
  ·rcases List.mem_append.mp (show c∈w++32::jn (y::r) from J) with q|q
   ·have:=mq (List.all_eq_true.mp g c q);exact⟨this.2.2.1,this.2.2.2.1,this.2.2.2.2.1⟩
   ·rcases List.mem_cons.mp q with rfl|q
    ·decide
    ·exact U.2 c q
theorem II{L:JP Nat}{b:Nat}{ls:JP (JP Nat)}{y:JP Nat}(h:L.drop b=34::(jn ls++34::y))(hg:∀ w∈ls,gW w)(h1:1<=ls.length)(h8:ls.length<=8):
  ja L b=(("leaf",hU (ls.map sT),b+((jn ls).length+2)):Pq):=by
 have ok:=oS hg
 have J:L.drop (b+1)=jn ls++34::y:=iA (x:=[34]) h
 have U:fq L (b+1)=b+1+(jn ls).length:=by
  unfold RA.fq;rw[J,uz (List.all_eq_true.mpr λc I=>JS (ok.2 c I).1) (by rw[LC,if_neg (by decide)])]
 have e2:sl L (b+1) (b+1+(jn ls).length)=jn ls:=by
  unfold RA.sl;rw[J,Lj,L8]
 have e3:b+1+(jn ls).length<L.length:=(gH (iA J)).2;unfold ja pI;rw[U,e2,BL hg,JX,J1 ⟨e3,ok.1,h1,h8⟩];show(_,_,b+1+(jn ls).length+1)=(_,_,b+((jn ls).length+2));rw[show b+1+(jn ls).length+1=b+((jn ls).length+2) by omega]
theorem qB:∀ n:Nat,n<21->(dE (n:Int)).all dA=true/\qS (dE (n:Int))=some n:=dkq
theorem zy{ls:JP (JP Nat)}(h:2<=ls.length):hU (ls.map sT)=dL (.row ls):=by
 unfold hU;rw[JX,if_neg (by omega),LB];rfl
theorem F8{L:JP Nat}{b:Nat}{k:Tk}{y:JP Nat}(h:L.drop b=txt k++y)(hg:gK k)(hy:k≠ .lp->k≠ .rp->p3 y):fg L b=(kS k,mD k,b+(txt k).length)/\b<L.length/\L.getD b 0≠32:=by
 have aa:∀(w z:JP Nat),L.drop b=w++z->gW w->fg L b=ku L b/\b<L.length/\L.getD b 0≠32:=λw z e g=>by
  cases w with
  |nil=>exact absurd rfl g.1
  |cons c w=>
   have hc:=g.2;rw[M9,Lc] at hc;have J:=gH (c:=c) (y:=w++z) e;refine⟨?_,J.2,by rw[J.1];exact(mq hc.1).2.1⟩;unfold fg;rw[J.1,J1 hc.1]
 have ab:∀ ls:JP (JP Nat),L.drop b=34::(jn ls++34::y)->(∀ w∈ls,gW w)->1<=ls.length->ls.length<=8->fg L b=(("leaf",hU (ls.map sT),b+((jn ls).length+2)):Pq)/\b<L.length/\L.getD b 0≠32:=λls e g h1 h8=>by
  have J:=gH e;refine⟨?_,J.2,by rw[J.1];decide⟩;rw[<-II e g h1 h8];unfold fg;rw[J.1,if_neg dkq,if_neg (by decide),if_neg (by decide),J1 rfl]
 cases k with
 |leaf l=>
  have U:=ka (hy (by intro z;cases z) (by intro z;cases z));cases l with
  |word w=>
   have g:gW w:=hg;by_cases hj:isJ (sT w)=true
   ·have e:txt (.leaf (.word w))=34::(w++[34]):=J1 hj;rw[e] at h ⊢;have h':L.drop b=34::(jn [w]++34::y):=by rw[h];show 34::(w++[34]++y)=_;rw[Kt];rfl
    obtain⟨a1,a2,I⟩:=ab [w] h' (λz hz=>by rw[List.mem_singleton.mp hz];exact g) (JY 1) (J9 rfl);refine⟨?_,a2,I⟩;rw[a1];show(_,_,b+(w.length+2))=(_,_,b+(34::(w++[34])).length);rw[JV,JU];rfl
   ·have e:txt (.leaf (.word w))=w:=if_neg hj;rw[e] at h ⊢;obtain⟨a1,a2,I⟩:=aa w y h g;refine⟨?_,a2,I⟩;rw[a1,qe h g.2 U.1,if_neg U.2,if_neg hj];rfl
  |start w=>
   have g:gW w:=hg
   have h':L.drop b=w++42::y:=by rw[h];show w++[42]++y=_;rw[Kt];rfl
   obtain⟨a1,a2,I⟩:=aa w _ h' g;refine⟨?_,a2,I⟩;rw[a1,qe h' g.2 (by rw[LC,if_neg dkq]),J1 (show(42::y).take 1=[42] from rfl)];show(_,_,b+w.length+1)=(_,_,b+(w++[42]).length);rw[JU];rfl
  |row ws=>
   have g:2<=ws.length/\ws.length<=8/\∀ w∈ws,gW w:=hg
   have h':L.drop b=34::(jn ws++34::y):=by rw[h];show 34::(jn ws++[34]++y)=_;rw[Kt];rfl
   obtain⟨a1,a2,I⟩:=ab ws h' g.2.2 (by omega) g.2.1;refine⟨?_,a2,I⟩;rw[a1,zy g.1];show(_,_,b+((jn ws).length+2))=(_,_,b+(34::(jn ws++[34])).length);rw[JV,JU];rfl
 |near n=>
  have hn:n<=20:=hg
  have U:=ka (hy (by intro z;cases z) (by intro z;cases z))
  have od:=qB n (by omega)
  have h':L.drop b=126::(dE (n:Int)++y):=h
  have J:=gH h'
  have d1:L.drop (b+1)=dE (n:Int)++y:=iA (x:=[126]) h'
  have e1:dj L (b+1)=b+1+(dE (n:Int)).length:=by unfold RA.dj;rw[d1,uz od.1 U.1]
  have e2:sl L (b+1) (b+1+(dE (n:Int)).length)=dE (n:Int):=by
   unfold RA.sl;rw[d1,Lj,L8]
  refine⟨?_,J.2,by rw[J.1];decide⟩;unfold fg;rw[J.1,if_neg dkq,if_neg (by decide),J1 rfl];unfold jL;rw[e1,e2,od.2];show(_,_,b+1+(dE (n:Int)).length)=(_,_,b+(126::dE (n:Int)).length);rw[JV,show b+1+(dE (n:Int)).length=b+((dE (n:Int)).length+1) by omega];rfl
 |no=>
  have U:=ka (hy (by intro z;cases z) (by intro z;cases z));obtain⟨a1,a2,I⟩:=aa [110,111,116] y h ⟨by decide,dkq⟩;exact⟨by rw[a1,qe h dkq U.1,if_neg U.2,J1 dkq];rfl,a2,I⟩
 |and=>
  have U:=ka (hy (by intro z;cases z) (by intro z;cases z));obtain⟨a1,a2,I⟩:=aa [97,110,100] y h ⟨by decide,dkq⟩;exact⟨by rw[a1,qe h dkq U.1,if_neg U.2,J1 dkq];rfl,a2,I⟩
 |or=>
  have U:=ka (hy (by intro z;cases z) (by intro z;cases z));obtain⟨a1,a2,I⟩:=aa [111,114] y h ⟨by decide,dkq⟩;exact⟨by rw[a1,qe h dkq U.1,if_neg U.2,J1 dkq];rfl,a2,I⟩
 |lp=>
  have J:=gH (show L.drop b=40::y from h);refine⟨?_,J.2,by rw[J.1];decide⟩;unfold fg;rw[J.1,if_neg dkq,J1 (.inl rfl)];rfl
 |rp=>
  have J:=gH (show L.drop b=41::y from h);refine⟨?_,J.2,by rw[J.1];decide⟩;unfold fg;rw[J.1,if_neg dkq,J1 (.inr rfl)];rfl
theorem AI{L:JP Nat}:∀(r:JP Tk) (k:Tk) (b:Nat),L.drop b=tl k r->(∀ k∈r,gK k)->(parts L b).map (λq=>(q.1,q.2.1))=r.map (λk=>(kS k,mD k))++[((("end":Str),PyData.none))]
 |[],k,b,h,_=>by
  have h':L.drop b=[]:=h
  have:L.length<=b:=List.drop_eq_nil_iff.mp h';unfold parts;rw[nY this];rfl
 |k'::r,k,b,h,J=>by
  have go:∀ b,L.drop b=txt k'++tl k' r->(parts L b).map (λq=>(q.1,q.2.1))=(k'::r).map (λk=>(kS k,mD k))++[((("end":Str),PyData.none))]:=λb h=>by
   have y:=ni (k:=k');obtain⟨a1,a2,I⟩:=F8 h (J k' (by simp)) (λn _=>y n r);rw[Ay a2 I,a1,KU,AI r k' (b+(txt k').length) (iA h) λk hk=>J k (J0 _ hk)];rfl
  have h':L.drop b=cL k k'++(txt k'++tl k' r):=h;unfold cL at h';split at h'
  ·exact go b h'
  ·have U:=gH (show L.drop b=32::_ from h');rw[A9 U.2 U.1];exact go (b+1) (iA (x:=[32]) h')
noncomputable def At.lf:At->Lf
 |.word z=> .word (codes z)|.start z=> .start (codes z)|.row zs=> .row (zs.map codes)|_=> .word []
noncomputable def At.tr:At->Tr
 |.word z=> .leaf (.word (codes z))|.start z=> .leaf (.start (codes z))|.row zs=> .leaf (.row (zs.map codes))
 |.near a b n=> .near a.lf b.lf n.toNat
 |.both a b=> .both a.tr b.tr|.either a b=> .either a.tr b.tr|.no a=> .no a.tr
noncomputable def dT:Tr->Kf
 |.leaf l=>dL l
 |.near a b n=> .tuple [.str "near",dL a,dL b,.int n]
 |.both a b=> .tuple [.str "both",dT a,dT b]
 |.either a b=> .tuple [.str "either",dT a,dT b]
 |.no a=> .tuple [.str "not",dT a]
theorem rL(z:Str):sT (codes z)=z:=toStr z
theorem qM{a:At}(h:gp a.kn=true):dL a.lf=a.told:=by
 cases a with
 |word z=>show Ld [_,.str (sT (codes z))]=_;rw[rL];rfl
 |start z=>show Ld [_,.str (sT (codes z))]=_;rw[rL];rfl
 |row zs=>
  show Ld [_,.tuple ((zs.map codes).map λw=> .str (sT w))]=Ld [_,.tuple (zs.map .str)];rw[LB];have e:((λw=>MC (sT w)) ∘ codes)=MC:=by
   funext z
   show MC (sT (codes z))=_;rw[rL]
  rw[e]
 |near _ _ _=>cases h
 |both _ _=>cases h
 |either _ _=>cases h
 |no _=>cases h
theorem jd:∀{t:At},Gd t->dT t.tr=t.told
 |.word z,_=>qM (a:= .word z) rfl
 |.start z,_=>qM (a:= .start z) rfl
 |.row zs,_=>qM (a:= .row zs) rfl
 |.near a b n,h=>by
  show Ld [_,dL a.lf,dL b.lf,.int (n.toNat:Int)]=Ld [_,a.told,b.told,.int n];rw[qM h.1.1,qM h.1.2,Ml h.2.1.1]
 |.both a b,h=>by
  show Ld [_,dT a.tr,dT b.tr]=Ld [_,a.told,b.told];rw[jd h.1,jd h.2]
 |.either a b,h=>by
  show Ld [_,dT a.tr,dT b.tr]=Ld [_,a.told,b.told];rw[jd h.1,jd h.2]
 |.no a,h=>by
  show Ld [_,dT a.tr]=Ld [_,a.told];rw[jd (t:=a) h]
theorem lE:∀{t:At},Gd t->t.tr.dep=t.dep
 |.word z,_=>rfl
 |.start z,_=>rfl
 |.row zs,_=>rfl
 |.near a b n,h=>by
  show 1=max a.dep b.dep+1;rw[At.lf_dep h.1.1,At.lf_dep h.1.2];rfl
 |.both a b,h=>by show max a.tr.dep b.tr.dep+1=max a.dep b.dep+1;rw[lE h.1,lE h.2]
 |.either a b,h=>by show max a.tr.dep b.tr.dep+1=max a.dep b.dep+1;rw[lE h.1,lE h.2]
 |.no a,h=>by show a.tr.dep+1=a.dep+1;rw[lE (t:=a) h]
theorem wI{z:Str}(h:Wm z):gW (codes z):=⟨λe=>by
 have:=h.2.2
 have l:z.length=(codes z).length:=(str_len z).symm;rw[l,e] at this;exact absurd this (by decide),h.2.1⟩
theorem jy{a:At}(h:gp a.kn=true)(g:Gd a):gL a.lf:=by
 cases a with
 |word z=>exact wI g
 |start z=>exact wI g
 |row zs=>
  obtain⟨g1,g2,g3⟩:=g;refine⟨by rw[JX];exact g1,by rw[JX];exact g2,λw hw=>?_⟩;obtain⟨z,J,rfl⟩:=List.mem_map.mp hw;exact wI (g3 z J)
 |near _ _ _=>cases h
 |both _ _=>cases h
 |either _ _=>cases h
 |no _=>cases h
theorem sU{c:KS}{l:JP Tk}(h:∀ k∈l,gK k):∀ k∈brk c l,gK k:=by
 cases c with
 |false=>exact h
 |true=>
  intro k hk;rcases List.mem_cons.mp (show k∈Tk.lp::(l++[.rp]) from hk) with rfl|q
  ·trivial
  ·rcases List.mem_append.mp q with q|q
   ·exact h k q
   ·rw[List.mem_singleton.mp q];trivial
theorem jJ:∀{t:At},Gd t->∀ k∈wr t.tr,gK k
 |.word z,h,k,hk=>by rw[List.mem_singleton.mp (show k∈[Tk.leaf (.word (codes z))] from hk)];exact jy (a:= .word z) rfl h
 |.start z,h,k,hk=>by rw[List.mem_singleton.mp (show k∈[Tk.leaf (.start (codes z))] from hk)];exact jy (a:= .start z) rfl h
 |.row zs,h,k,hk=>by rw[List.mem_singleton.mp (show k∈[Tk.leaf (.row (zs.map codes))] from hk)];exact jy (a:= .row zs) rfl h
 |.near a b n,h,k,hk=>by
  have J:k∈[Tk.leaf a.lf,.near n.toNat,.leaf b.lf]:=hk;simp only[L5,LW,N4] at J;rcases J with rfl|rfl|rfl
  ·exact jy h.1.1 h.2.2.1
  ·show n.toNat<=20;have:=h.2.1.2;omega
  ·exact jy h.1.2 h.2.2.2
 |.both a b,h,k,hk=>by
  rcases List.mem_append.mp (show k∈brk a.tr.isE (wr a.tr)++ .and::brk b.tr.isBE (wr b.tr) from hk) with q|q
  ·exact sU (jJ h.1) k q
  ·rcases List.mem_cons.mp q with rfl|q
   ·trivial
   ·exact sU (jJ h.2) k q
 |.either a b,h,k,hk=>by
  rcases List.mem_append.mp (show k∈wr a.tr++ .or::brk b.tr.isE (wr b.tr) from hk) with q|q
  ·exact jJ h.1 k q
  ·rcases List.mem_cons.mp q with rfl|q
   ·trivial
   ·exact sU (jJ h.2) k q
 |.no a,h,k,hk=>by
  rcases List.mem_cons.mp (show k∈Tk.no::brk a.tr.isBE (wr a.tr) from hk) with rfl|q
  ·trivial
  ·exact sU (jJ (t:=a) h) k q
noncomputable def fD:Tk->JP Tk->Tk
 |k,[]=>k
 |_,k::r=>fD k r
theorem jg:∀(a:JP Tk) (k:Tk) (b:JP Tk),tl k (a++b)=tl k a++tl (fD k a) b
 |[],_,_=>rfl
 |k'::a,k,b=>by
  show cL k k'++(txt k'++tl k' (a++b))=cL k k'++(txt k'++tl k' a)++_;rw[jg a k' b,Kt,Kt];rfl
theorem pY:∀(a:JP Tk) (k:Tk) (b:JP Tk),fD k (a++b)=fD (fD k a) b
 |[],_,_=>rfl
 |k'::a,k,b=>pY a k' b
noncomputable def Wl(l:JP Tk):Prop:=(∃ k r,l=k::r/\k≠ .rp)/\∀ k,fD k l≠ .lp
theorem Wl.brk {c:KS}{l:JP Tk}(h:Wl l):Wl (brk c l):=by
 cases c with
 |false=>exact h
 |true=>
  refine⟨⟨.lp,l++[.rp],rfl,by intro z;cases z⟩,λk=>?_⟩;show fD k (.lp::(l++[.rp]))≠_;show fD .lp (l++[.rp])≠_;rw[pY];intro z;cases z
theorem Wl.mid {a b:JP Tk}{m:Tk}(ha:Wl a)(hb:Wl b):Wl (a++m::b):=by
 obtain⟨⟨k,r,rfl,hk⟩,_⟩:=ha;refine⟨⟨k,r++m::b,rfl,hk⟩,λk=>?_⟩;rw[pY];exact hb.2 m
theorem fE:∀ t:Tr,Wl (wr t)
 |.leaf l=>⟨⟨_,_,rfl,by intro z;cases z⟩,λk=>by intro z;cases z⟩
 |.near a b n=>⟨⟨_,_,rfl,by intro z;cases z⟩,λk=>by intro z;cases z⟩
 |.both a b=>(fE a).brk.mid (fE b).brk
 |.either a b=>(fE a).mid (fE b).brk
 |.no a=>⟨⟨.no,_,rfl,by intro z;cases z⟩,λk=>(fE a).brk.2 .no⟩
theorem vg{k:Tk}{l:JP Tk}(h:Wl l)(hk:k≠ .lp):tl k l=32::tl .lp l:=by
 obtain⟨⟨J,r,rfl,U⟩,_⟩:=h;show cL k J++_=32::(cL .lp J++_);unfold cL;rw[if_neg (λz=>z.elim hk U),J1 (.inl rfl)];rfl
theorem lj{c:KS}{l:JP Tk}(h:Wl l):tl .lp (brk c l)=eL c (tl .lp l):=by
 cases c with
 |false=>rfl
 |true=>
  show cL .lp .lp++(txt .lp++tl .lp (l++[.rp]))=40::(tl .lp l++[41]);rw[jg];show cL .lp .lp++(txt .lp++(tl .lp l++(cL (fD .lp l) .rp++(txt .rp++[]))))=_;unfold cL;rw[J1 (.inl rfl),J1 (.inr rfl)];rfl
theorem tH{a b:JP Tk}{m:Tk}(ha:Wl a)(hb:Wl b)(hm:m≠ .lp)(hm2:m≠ .rp):tl .lp (a++m::b)=tl .lp a++(32::(txt m++32::tl .lp b)):=by
 rw[jg];show _++(cL (fD .lp a) m++(txt m++tl m b))=_;unfold cL;rw[if_neg (λz=>z.elim (ha.2 _) hm2),vg hb hm];rfl
theorem z8(t:At):t.tr.isE=eI t.kn:=by cases t<;>rfl
theorem Aq(t:At):t.tr.isBE=eF t.kn:=by cases t<;>rfl
theorem oa{a:At}(h:gp a.kn=true):mF a.lf=a.lin:=by
 cases a with
 |word z=>show(if isJ (sT (codes z)) then _ else _)=_;rw[rL];rfl
 |start z=>rfl
 |row zs=>
  show 34::(jn (zs.map codes)++[34])=34::(codes (Txt.join " " zs)++[34])
  have e:zs=(zs.map codes).map sT:=by
   rw[LB];exact(OF zs).symm.trans (M7 λz _=>(toStr z).symm)
  have j:=vw (zs.map codes);rw[<-e] at j;have j2:codes (Txt.join (JO " ") zs)=jn (zs.map codes):=by rw[j];simp[codes]
  rw[<-j2]
 |near _ _ _=>cases h
 |both _ _=>cases h
 |either _ _=>cases h
 |no _=>cases h
theorem kg:∀{t:At},Gd t->t.lin=tl .lp (wr t.tr)
 |.word z,_=>by
  show _=cL .lp _++(mF (At.word z).lf++[]);rw[oa (a:= .word z) rfl,KR];rfl
 |.start z,_=>by
  show _=cL .lp _++(mF (At.start z).lf++[]);rw[oa (a:= .start z) rfl,KR];rfl
 |.row zs,_=>by
  show _=cL .lp _++(mF (At.row zs).lf++[]);rw[oa (a:= .row zs) rfl,KR];rfl
 |.near a b n,h=>by
  show _=cL .lp _++(mF a.lf++(cL (.leaf a.lf) (.near n.toNat)++(txt (.near n.toNat)++(cL (.near n.toNat) (.leaf b.lf)++(mF b.lf++[])))));rw[oa h.1.1,oa h.1.2,KR];show a.lin++([32,126]++(dE n++(32::b.lin)))=a.lin++([32]++(126::dE (n.toNat:Int)++(32::b.lin)));rw[Ml h.2.1.1];rfl
 |.both a b,h=>by
  show eL (eI a.kn) a.lin++([32,97,110,100,32]++eL (eF b.kn) b.lin)=tl .lp (brk a.tr.isE (wr a.tr)++ .and::brk b.tr.isBE (wr b.tr));rw[tH (fE _).brk (fE _).brk (by intro z;cases z) (by intro z;cases z),lj (fE _),lj (fE _),<-kg h.1,<-kg h.2,z8,Aq];rfl
 |.either a b,h=>by
  show a.lin++([32,111,114,32]++eL (eI b.kn) b.lin)=tl .lp (wr a.tr++ .or::brk b.tr.isE (wr b.tr));rw[tH (fE _) (fE _).brk (by intro z;cases z) (by intro z;cases z),lj (fE _),<-kg h.1,<-kg h.2,z8];rfl
 |.no a,h=>by
  show [110,111,116,32]++eL (eF a.kn) a.lin=cL .lp .no++(txt .no++tl .no (brk a.tr.isBE (wr a.tr)));rw[vg (fE _).brk (by intro z;cases z),lj (fE _),<-kg (t:=a) h,Aq];rfl
open RA (sl dj fq Lf Tr Tk wr brk nb)
noncomputable abbrev kr:=JP (Nat×Nat)×JP Nat×KS
noncomputable def fY(c i:Nat)(s:kr):JW kr:=
 if c=34 then some (s.1,s.2.1,!s.2.2) else if c=40/\s.2.2=false then some (s.1,i::s.2.1,s.2.2) else if c=41/\s.2.2=false then (match s.2.1 with|[]=>none|b::g=>some (s.1++[(b,i)],g,s.2.2)) else some s
noncomputable def e6:JP Nat->Nat->kr->JW kr
 |[],_,s=>some s
 |c::l,i,s=>(fY c i s).bind (e6 l (i+1))
theorem ma:∀(a b:JP Nat) (i:Nat) (s:kr),e6 (a++b) i s=(e6 a i s).bind (e6 b (i+a.length))
 |[],b,i,s=>rfl
 |c::a,b,i,s=>by
  show(fY c i s).bind (e6 (a++b) (i+1))=((fY c i s).bind (e6 a (i+1))).bind _;cases fY c i s with
  |none=>rfl
  |some s'=>
   show e6 (a++b) (i+1) s'=(e6 a (i+1) s').bind _;rw[ma a b (i+1) s',JV,show i+1+a.length=i+(a.length+1) by omega]
theorem jY:∀(l:JP Nat) (i:Nat) (s:kr),(∀ c∈l,c≠34/\c≠40/\c≠41)->e6 l i s=some s
 |[],i,s,_=>rfl
 |c::l,i,s,h=>by
  have J:=h c (by simp)
  show(fY c i s).bind (e6 l (i+1))=_
  have e:fY c i s=some s:=by
   unfold fY;rw[if_neg J.1,if_neg (λz=>J.2.1 z.1),if_neg (λz=>J.2.2 z.1)]
  rw[e];exact jY l (i+1) s λc J=>h c (J0 _ J)
theorem zW{l:JP Nat}(h:∀ c∈l,c≠34/\c≠40/\c≠41)(i:Nat)(f:JP (Nat×Nat))(g:JP Nat):e6 (34::(l++[34])) i (f,g,false)=some (f,g,false):=by
 show(fY 34 i (f,g,false)).bind (e6 (l++[34]) (i+1))=_
 show e6 (l++[34]) (i+1) (f,g,true)=_;rw[ma,jY l _ _ h];rfl
theorem qF{w:JP Nat}(h:w.all dA=true):∀ c∈w,c≠34/\c≠40/\c≠41:=λc J=>by
 have:=mq (List.all_eq_true.mp h c J);exact⟨this.2.2.1,this.2.2.2.1,this.2.2.2.2.1⟩
theorem B8{k:Tk}(hk:gK k)(h1:k≠ .lp)(h2:k≠ .rp)(i:Nat)(f:JP (Nat×Nat))(g:JP Nat):e6 (txt k) i (f,g,false)=some (f,g,false):=by
 cases k with
 |leaf l=>
  cases l with
  |word w=>
   show e6 (if isJ (sT w) then 34::(w++[34]) else w) i _=_;split
   ·exact zW (qF (show gW w from hk).2) _ _ _
   ·exact jY _ _ _ (qF (show gW w from hk).2)
  |start w=>
   refine jY _ _ _ λc J=>?_
   rcases List.mem_append.mp (show c∈w++[42] from J) with q|q
   ·exact qF (show gW w from hk).2 c q
   ·rw[List.mem_singleton.mp q];decide
  |row ws=>exact zW (oS (show _/\_/\∀ w∈ws,gW w from hk).2.2).2 _ _ _
 |near n=>
  refine jY _ _ _ λc J=>?_
  rcases List.mem_cons.mp (show c∈126::dE (n:Int) from J) with rfl|q
  ·decide
  ·exact qF (qB n (by have:n<=20:=hk;omega)).1 c q
 |no=>exact jY _ _ _ (by show ∀ c∈[110,111,116],_;decide)
 |and=>exact jY _ _ _ (by show ∀ c∈[97,110,100],_;decide)
 |or=>exact jY _ _ _ (by show ∀ c∈[111,114],_;decide)
 |lp=>exact absurd rfl h1
 |rp=>exact absurd rfl h2
theorem uj(k k':Tk)(i:Nat)(s:kr):e6 (cL k k') i s=some s:=jY _ _ _ λc J=>by
 unfold cL at J;split at J
 ·cases J
 ·rw[List.mem_singleton.mp J];decide
noncomputable def xP(L:JP Nat)(p:Nat×Nat):JP Nat:=L.take p.1++sl L (p.1+1) p.2++L.drop (p.2+1)
noncomputable def Cut(ts:JP Tk)(p:Nat×Nat):Prop:=p.1<p.2/\p.2<(tl .lp ts).length/\∃ J,xP (tl .lp ts) p=tl .lp J/\nb J<nb ts/\∀ k∈J,k∈ts
theorem CF{k k':Tk}(h:k≠ .lp)(h':k'≠ .lp):∀ r,tl k r=tl k' r
 |[]=>rfl
 |q::r=>by
  show cL k q++_=cL k' q++_;unfold cL;by_cases e:q= .rp
  ·rw[J1 (.inr e),J1 (.inr e)]
  ·rw[if_neg (λz=>z.elim h e),if_neg (λz=>z.elim h' e)]
theorem Bg{pre l suf:JP Tk}(h:Wl l):Cut (pre++ .lp::(l++ .rp::suf)) ((tl .lp pre).length+(cL (fD .lp pre) .lp).length,(tl .lp pre).length+(cL (fD .lp pre) .lp).length+1+(tl .lp l).length):=by
 generalize hk:fD .lp pre=k;have I:tl .lp (pre++ .lp::(l++ .rp::suf))=(tl .lp pre++cL k .lp)++(40::(tl .lp l++(41::tl .rp suf))):=by
  rw[jg,hk];show _++(cL k .lp++(txt .lp++tl .lp (l++ .rp::suf)))=_;rw[jg];show _++(cL k .lp++(txt .lp++(tl .lp l++(cL (fD .lp l) .rp++(txt .rp++tl .rp suf)))))=_;rw[show cL (fD .lp l) .rp=[] from J1 (.inr rfl),Kt];rfl
 have la:(tl .lp pre).length+(cL k .lp).length=(tl .lp pre++cL k .lp).length:=by rw[JU]
 rw[la];have eR:tl .lp (pre++(l++suf))=(tl .lp pre++cL k .lp)++(tl .lp l++tl .rp suf):=by
  rw[jg,hk,jg,CF (h.2 k) (show Tk.rp≠ .lp by intro z;cases z) suf];obtain⟨⟨q,r,rfl,hq⟩,_⟩:=h;show _++(cL k q++(txt q++tl q r)++_)=_++cL k .lp++(cL .lp q++(txt q++tl q r)++_);have e1:cL k q=cL k .lp:=by
   unfold cL;by_cases e:k= .lp
   ·rw[J1 (.inl e),J1 (.inl e)]
   ·rw[if_neg (λz=>z.elim e hq),if_neg (λz=>z.elim e (by intro w;cases w))]
  rw[e1,show cL .lp q=[] from J1 (.inl rfl)];simp only[Kt,NL]
 unfold Cut;rw[I];generalize tl .lp pre++cL k .lp=A at *;generalize hM:tl .lp l=M at *;generalize tl .rp suf=B at *;refine⟨by show A.length<A.length+1+M.length;omega,by show A.length+1+M.length<_;simp;omega,pre++(l++suf),?_,?_,λx J=>?_⟩
 ·rw[eR];unfold xP RA.sl;show List.take A.length _++((List.drop (A.length+1) _).take (A.length+1+M.length-(A.length+1)))++List.drop (A.length+1+M.length+1) _=_;have U:(A++(40::(M++(41::B)))).drop (A.length+1)=M++41::B:=by rw[<-M0,OV];rfl
  have d2:(A++(40::(M++(41::B)))).drop (A.length+1+M.length+1)=B:=by
   rw[<-M0,<-M0,U,OV];rfl
  rw[L8,U,d2,Lj,L8,Kt]
 ·rw[RA.mv,RA.mv,RA.mv,RA.uX,RA.mv,RA.pC (by intro z;cases z)];omega
 ·simp only[List.mem_append,L5] at J ⊢;rcases J with h|h|h
  ·exact .inl h
  ·exact .inr (.inr (.inl h))
  ·exact .inr (.inr (.inr (.inr h)))
noncomputable def g9(l:JP Tk):Prop:=∀(pre suf:JP Tk) (f:JP (Nat×Nat)) (g:JP Nat),∃ new,e6 (tl (fD .lp pre) l) (tl .lp pre).length (f,g,false)=some (f++new,g,false)/\∀ p∈new,Cut (pre++l++suf) p
theorem g9.one {k:Tk}(hk:gK k)(h1:k≠ .lp)(h2:k≠ .rp):g9 [k]:=λpre suf f g=>by
 refine⟨[],?_,λp hp=>nomatch hp⟩;show e6 (cL _ k++(txt k++[])) _ _=_;rw[ma,uj,KR,KR];exact B8 hk h1 h2 _ f g
theorem g9.app {a b:JP Tk}(ha:g9 a)(hb:g9 b):g9 (a++b):=λpre suf f g=>by
 obtain⟨n1,U,I⟩:=ha pre (b++suf) f g;obtain⟨n2,J,c2⟩:=hb (pre++a) suf (f++n1) g;refine⟨n1++n2,?_,λp hp=>?_⟩
 ·rw[jg,ma,U,<-pY];show e6 _ _ (f++n1,g,false)=_;rw[jg,JU] at J;rw[J,Kt]
 ·rcases List.mem_append.mp hp with q|q
  ·have:=I p q
   rwa [show pre++a++(b++suf)=pre++(a++b)++suf by simp] at this
  ·have:=c2 p q
   rwa [show pre++a++b++suf=pre++(a++b)++suf by simp] at this
theorem g9.brk {c:KS}{l:JP Tk}(h:g9 l)(w:Wl l):g9 (brk c l):=by
 cases c with
 |false=>exact h
 |true=>
  intro pre suf f g;obtain⟨n,e,J⟩:=h (pre++[.lp]) (.rp::suf) f (((tl .lp pre).length+(cL (fD .lp pre) .lp).length)::g);refine⟨n++[((tl .lp pre).length+(cL (fD .lp pre) .lp).length,(tl .lp pre).length+(cL (fD .lp pre) .lp).length+1+(tl .lp l).length)],?_,λp hp=>?_⟩
  ·show e6 (cL _ .lp++(txt .lp++tl .lp (l++[.rp]))) _ _=_;rw[ma,uj];show e6 (40::tl .lp (l++[.rp])) _ (f,g,false)=_;show e6 (tl .lp (l++[.rp])) _ (f,_::g,false)=_;rw[jg,ma];rw[pY,jg,JU] at e;have U:e6 (tl .lp l) ((tl .lp pre).length+(cL (fD .lp pre) .lp).length+1) (f,((tl .lp pre).length+(cL (fD .lp pre) .lp).length)::g,false)=some (f++n,((tl .lp pre).length+(cL (fD .lp pre) .lp).length)::g,false):=by
    have el:(tl (fD .lp pre) [.lp]).length=(cL (fD .lp pre) .lp).length+1:=by
     show(cL (fD .lp pre) .lp++(txt .lp++[])).length=_;rw[JU];rfl
    rw[el,<-Nat.add_assoc] at e;exact e
   rw[U];show e6 (cL (fD .lp l) .rp++(txt .rp++[])) _ (f++n,_::g,false)=_;rw[ma,uj,show cL (fD .lp l) .rp=[] from J1 (.inr rfl)];show some ((f++n)++[(_,_)],g,false)=_;rw[Kt];rfl
  ·rcases List.mem_append.mp hp with q|q
   ·have:=J p q
    rwa [show pre++[.lp]++l++ .rp::suf=pre++(Tk.lp::(l++[.rp]))++suf by simp] at this
   ·rw[List.mem_singleton.mp q];have:=Bg (pre:=pre) (suf:=suf) w
    rwa [show pre++ .lp::(l++ .rp::suf)=pre++(Tk.lp::(l++[.rp]))++suf by simp] at this
theorem pB:∀(t:Tr),(∀ k∈wr t,gK k)->g9 (wr t)
 |.leaf l,h=> .one (h _ (by show _∈[_];simp)) (by intro z;cases z) (by intro z;cases z)
 |.near a b n,h=>by
  have e:wr (.near a b n)=[.leaf a]++([.near n]++[.leaf b]):=rfl;rw[e] at h ⊢;exact(g9.one (h _ (by simp)) (by intro z;cases z) (by intro z;cases z)).app ((g9.one (h _ (by simp)) (by intro z;cases z) (by intro z;cases z)).app (g9.one (h _ (by simp)) (by intro z;cases z) (by intro z;cases z)))
 |.both a b,h=>by
  have e:wr (.both a b)=brk a.isE (wr a)++([.and]++brk b.isBE (wr b)):=rfl;rw[e] at h ⊢;have sub:∀{c:KS} {l:JP Tk} {k:Tk},k∈l->k∈brk c l:=λ{c l k} hk=>by cases c with|false=>exact hk|true=>show k∈Tk.lp::(l++[.rp]);simp[hk]
  exact((pB a λk hk=>h k (by simp[sub hk])).brk (fE a)).app ((g9.one (k:= .and) trivial (by intro z;cases z) (by intro z;cases z)).app ((pB b λk hk=>h k (by simp[sub hk])).brk (fE b)))
 |.either a b,h=>by
  have e:wr (.either a b)=wr a++([.or]++brk b.isE (wr b)):=rfl;rw[e] at h ⊢;have sub:∀{c:KS} {l:JP Tk} {k:Tk},k∈l->k∈brk c l:=λ{c l k} hk=>by cases c with|false=>exact hk|true=>show k∈Tk.lp::(l++[.rp]);simp[hk]
  exact(pB a λk hk=>h k (by simp[hk])).app ((g9.one (k:= .or) trivial (by intro z;cases z) (by intro z;cases z)).app ((pB b λk hk=>h k (by simp[sub hk])).brk (fE b)))
 |.no a,h=>by
  have e:wr (.no a)=[.no]++brk a.isBE (wr a):=rfl;rw[e] at h ⊢;have sub:∀{c:KS} {l:JP Tk} {k:Tk},k∈l->k∈brk c l:=λ{c l k} hk=>by cases c with|false=>exact hk|true=>show k∈Tk.lp::(l++[.rp]);simp[hk]
  exact(g9.one (k:= .no) trivial (by intro z;cases z) (by intro z;cases z)).app ((pB a λk hk=>h k (by simp[sub hk])).brk (fE a))
theorem IL{t:Tr}(h:∀ k∈wr t,gK k):∃ new,e6 (tl .lp (wr t)) 0 ([],[],false)=some (new,[],false)/\∀ p∈new,Cut (wr t) p:=by
 obtain⟨n,e,c⟩:=pB t h [] [] [] [];refine⟨n,e,λp hp=>?_⟩;have:=c p hp
 rwa [NL,KR] at this
noncomputable def kO:Tk->KS
 |.lp=>true|.rp=>true|_=>false
noncomputable def dM(l:JP Tk):JP (JP Nat):=(l.filter λk=> !kO k).map txt
theorem rY(a b:JP Tk):dM (a++b)=dM a++dM b:=by unfold dM;rw[L9,J5]
theorem jO{k:Tk}(h:kO k=false)(l:JP Tk):dM (k::l)=txt k::dM l:=by unfold dM;rw[LX,h];rfl
theorem sf(c:KS)(l:JP Tk):dM (brk c l)=dM l:=by
 cases c with
 |false=>rfl
 |true=>
  show dM (.lp::(l++[.rp]))=_;unfold dM;rw[LX,if_neg (by decide),L9];show List.map txt (_++[])=_;rw[KR]
theorem p6:∀ t:Tr,dM (wr t)≠[]
 |.leaf l=>by intro z;cases z
 |.near a b n=>by intro z;cases z
 |.both a b=>by
  show dM (brk a.isE (wr a)++ .and::brk b.isBE (wr b))≠_;rw[rY,jO rfl];simp
 |.either a b=>by
  show dM (wr a++ .or::brk b.isE (wr b))≠_;rw[rY,jO rfl];simp
 |.no a=>by
  show dM (.no::brk a.isBE (wr a))≠_;rw[jO rfl];simp
theorem sX:∀(a b:JP (JP Nat)),a≠[]->b≠[]->jn (a++b)=jn a++32::jn b
 |[],_,h,_=>absurd rfl h
 |[x],y::r,_,_=>rfl
 |[x],[],_,h=>absurd rfl h
 |x::y::r,b,_,hb=>by
  show x++32::jn ((y::r)++b)=(x++32::jn (y::r))++_;rw[sX (y::r) b (by simp) hb,Kt];rfl
theorem y1{a b:JP (JP Nat)}{m:JP Nat}(ha:a≠[])(hb:b≠[]):jn (a++m::b)=jn a++32::(m++32::jn b):=by
 rw[sX a (m::b) ha (by simp),show m::b=[m]++b from rfl,sX [m] b (by simp) hb];rfl
noncomputable def fu(l:JP Nat):JP Nat:=(l.filter λc=>decide (c≠40)).filter λc=>decide (c≠41)
theorem iS(a b:JP Nat):fu (a++b)=fu a++fu b:=by unfold fu;rw[L9,L9]
theorem nM{c:Nat}(h:c≠40)(h':c≠41)(l:JP Nat):fu (c::l)=c::fu l:=by
 unfold fu;rw[LX,J1 (JS h),LX,J1 (JS h')]
theorem AF:∀{l:JP Nat},(∀ c∈l,c≠40/\c≠41)->fu l=l
 |[],_=>rfl
 |c::l,h=>by
  rw[nM (h c (by simp)).1 (h c (by simp)).2,AF λc J=>h c (J0 _ J)]
theorem q0(c:KS)(l:JP Nat):fu (eL c l)=fu l:=by
 cases c with
 |false=>rfl
 |true=>
  show fu (40::(l++[41]))=_
  have J:∀ x,fu (40::x)=fu x:=λx=>by unfold fu;rw[LX,if_neg (by decide)]
  rw[J,iS];show fu l++[]=_;rw[KR]
theorem r9{k:Tk}(hk:gK k)(hb:kO k=false):fu (txt k)=txt k:=by
 refine AF ?_;have q:∀{w:JP Nat},w.all dA=true->∀ c∈w,c≠40/\c≠41:=λh c hc=>(qF h c hc).2
 have mk:∀{l:JP Nat},(∀ c∈l,c≠40/\c≠41)->∀ c∈34::(l++[34]),c≠40/\c≠41:=λ{l} h c hc=>by
  rcases List.mem_cons.mp hc with rfl|hc
  ·decide
  ·rcases List.mem_append.mp hc with hc|hc
   ·exact h c hc
   ·rw[List.mem_singleton.mp hc];decide
 cases k with
 |leaf l=>
  cases l with
  |word w=>
   have g:gW w:=hk
   show ∀ c∈(if isJ (sT w) then 34::(w++[34]) else w),_;split
   ·exact mk (q g.2)
   ·exact q g.2
  |start w=>
   have g:gW w:=hk;intro c hc;rcases List.mem_append.mp (show c∈w++[42] from hc) with hc|hc
   ·exact q g.2 c hc
   ·rw[List.mem_singleton.mp hc];decide
  |row ws=>
   have g:_/\_/\∀ w∈ws,gW w:=hk;exact mk λc hc=>((oS g.2.2).2 c hc).2
 |near n=>
  intro c hc;rcases List.mem_cons.mp (show c∈126::dE (n:Int) from hc) with rfl|hc
  ·decide
  ·exact q (qB n (by have:n<=20:=hk;omega)).1 c hc
 |no=>show ∀ c∈[110,111,116],_;decide
 |and=>show ∀ c∈[97,110,100],_;decide
 |or=>show ∀ c∈[111,114],_;decide
 |lp=>cases hb
 |rp=>cases hb
theorem rT{c:KS}{l:JP Tk}{k:Tk}(hk:k∈l):k∈brk c l:=by cases c with|false=>exact hk|true=>show k∈Tk.lp::(l++[.rp]);simp[hk]
theorem om:∀(t:Tr),(∀ k∈wr t,gK k)->fu (tl .lp (wr t))=jn (dM (wr t))
 |.leaf l,h=>by
  show fu (cL .lp _++(txt (.leaf l)++[]))=txt (.leaf l);rw[show cL .lp (.leaf l)=[] from J1 (.inl rfl),KR];exact r9 (h (.leaf l) (by show Tk.leaf l∈[Tk.leaf l];simp)) rfl
 |.near a b n,h=>by
  have h':∀ k∈[Tk.leaf a,.near n,.leaf b],gK k:=h
  show fu (cL .lp (.leaf a)++(txt (.leaf a)++(cL (.leaf a) (.near n)++(txt (.near n)++(cL (.near n) (.leaf b)++(txt (.leaf b)++[]))))))=txt (.leaf a)++32::(txt (.near n)++32::txt (.leaf b));rw[KR,iS,iS,iS,iS,iS,r9 (h' _ (by simp)) rfl,r9 (h' _ (by simp)) rfl,r9 (h' _ (by simp)) rfl];rfl
 |.both a b,h=>by
  have h':∀ k∈brk a.isE (wr a)++ .and::brk b.isBE (wr b),gK k:=h
  show fu (tl .lp (brk a.isE (wr a)++ .and::brk b.isBE (wr b)))=jn (dM (brk a.isE (wr a)++ .and::brk b.isBE (wr b)));rw[tH (fE _).brk (fE _).brk (by intro z;cases z) (by intro z;cases z),lj (fE _),lj (fE _),rY,jO rfl,sf,sf,y1 (p6 a) (p6 b),
   iS,nM (by decide) (by decide),iS,nM (by decide) (by decide),q0,q0,om a λk hk=>h' k (by simp[rT hk]),om b λk hk=>h' k (by simp[rT hk])];rfl
 |.either a b,h=>by
  have h':∀ k∈wr a++ .or::brk b.isE (wr b),gK k:=h
  show fu (tl .lp (wr a++ .or::brk b.isE (wr b)))=jn (dM (wr a++ .or::brk b.isE (wr b)));rw[tH (fE _) (fE _).brk (by intro z;cases z) (by intro z;cases z),lj (fE _),rY,jO rfl,sf,y1 (p6 a) (p6 b),
   iS,nM (by decide) (by decide),iS,nM (by decide) (by decide),q0,om a λk hk=>h' k (by simp[hk]),om b λk hk=>h' k (by simp[rT hk])];rfl
 |.no a,h=>by
  have h':∀ k∈Tk.no::brk a.isBE (wr a),gK k:=h
  show fu (cL .lp .no++(txt .no++tl .no (brk a.isBE (wr a))))=jn (dM (.no::brk a.isBE (wr a)));rw[vg (fE _).brk (by intro z;cases z),lj (fE _),jO rfl,sf,show txt .no::dM (wr a)=[txt .no]++dM (wr a) from rfl,sX _ _ (by simp) (p6 a),
   iS,iS,nM (by decide) (by decide),q0,om a λk hk=>h' k (by simp[rT hk])];rfl
noncomputable def gT:Tr->Nat
 |.both a b=>1+(gT a+gT b)|.either a b=>gT a+gT b|.no a=>gT a|_=>0
theorem HN{k:Tk}(hk:gK k)(hb:kO k=false):(txt k=[97,110,100])↔k= .and:=by
 refine⟨λe=>?_,λe=>by rw[e];rfl⟩;cases k with
 |leaf l=>
  cases l with
  |word w=>
   have J:(if isJ (sT w) then 34::(w++[34]) else w)=[97,110,100]:=e;split at J
   ·injection J with e1;cases e1
   ·rename_i U;rw[J] at U;exact absurd dkq U
  |start w=>
   have J:w++[42]=[97,110,100]:=e
   have:=K9 List.getLast? J;rw[List.getLast?_concat] at this;cases this
  |row ws=>injection (show 34::(jn ws++[34])=[97,110,100] from e) with e1;cases e1
 |near n=>injection (show 126::dE (n:Int)=[97,110,100] from e) with e1;cases e1
 |no=>cases e
 |and=>rfl
 |or=>cases e
 |lp=>cases hb
 |rp=>cases hb
theorem AV:∀{l:JP Tk},(∀ k∈l,gK k)->(dM l).count [97,110,100]=l.count .and
 |[],_=>rfl
 |k::l,h=>by
  have J:=AV (l:=l) λk hk=>h k (J0 _ hk)
  cases hb:kO k with
  |true=>
   have e:dM (k::l)=dM l:=by unfold dM;rw[LX,hb];rfl
   rw[e,J,Lv (by intro z;rw[z] at hb;cases hb)]
  |false=>
   rw[jO hb];by_cases e:k= .and
   ·subst e;show([97,110,100]::dM l).count _=_;rw[Mf,Mf,J]
   ·rw[Lv (λz=>e ((HN (h k (by simp)) hb).mp z)),Lv e,J]
theorem sI(c:KS)(l:JP Tk):(brk c l).count .and=l.count .and:=by
 cases c with
 |false=>rfl
 |true=>
  show(Tk.lp::(l++[.rp])).count .and=_;rw[Lv (by intro z;cases z),Nl];rfl
theorem oK:∀ t:Tr,(wr t).count .and=gT t
 |.leaf _=>rfl
 |.near _ _ _=>rfl
 |.both a b=>by
  show(brk a.isE (wr a)++ .and::brk b.isBE (wr b)).count _=1+(gT a+gT b);rw[Nl,Mf,sI,sI,oK a,oK b];omega
 |.either a b=>by
  show(wr a++ .or::brk b.isE (wr b)).count _=gT a+gT b;rw[Nl,Lv (by intro z;cases z),sI,oK a,oK b]
 |.no a=>by
  show(Tk.no::brk a.isBE (wr a)).count _=gT a;rw[Lv (by intro z;cases z),sI,oK a]
theorem ue{a b:JP Nat}(h:sT a=sT b):a=b:=by
 have:=K9 codes h;simpa[codes] using this
theorem uE{a b:Lf}(h:dL a=dL b):a=b:=by
 have tags:∀{x y:Str} {d e:JP Kf},Ld (.str x::d)= .tuple (.str y::e)->x=y/\d=e:=λh=>by
  injection h with h;injection h with h1 h2;injection h1 with h1;exact⟨h1,h2⟩
 have one:∀{a b:JP Nat},[MC (sT a)]=[.str (sT b)]->a=b:=λh=>by
  injection h with h _;injection h with h;exact ue h
 cases a with
 |word w=>cases b with
  |word v=>rw[one (tags h).2]
  |start v=>exact absurd (tags h).1 dkq
  |row v=>exact absurd (tags h).1 dkq
 |start w=>cases b with
  |word v=>exact absurd (tags h).1 dkq
  |start v=>rw[one (tags h).2]
  |row v=>exact absurd (tags h).1 dkq
 |row w=>cases b with
  |word v=>exact absurd (tags h).1 dkq
  |start v=>exact absurd (tags h).1 dkq
  |row v=>
   have:=(tags h).2;injection this with h1 _;injection h1 with h1;have:∀(x y:JP (JP Nat)),(x.map λw=>MC (sT w))=(y.map λw=> .str (sT w))->x=y:=λx=>by
    induction x with
    |nil=>intro y e;cases y with|nil=>rfl|cons _ _=>cases e
    |cons a x J=>
     intro y e;cases y with
     |nil=>cases e
     |cons b y=>
      rw[KU,KU] at e;injection e with e1 e2;injection e1 with e1;rw[ue e1,J y e2]
   rw[this w v h1]
noncomputable def rK:Tr->Str
 |.leaf (.word _)=>"word" |.leaf (.start _)=>"start" |.leaf (.row _)=>"row" |.near _ _ _=>"near" |.both _ _=>"both" |.either _ _=>"either" |.no _=>"not"
noncomputable def DD:Tr->JP Kf
 |.leaf (.word w)=>[.str (sT w)]|.leaf (.start w)=>[.str (sT w)]|.leaf (.row ws)=>[.tuple (ws.map λw=> .str (sT w))]|.near a b n=>[dL a,dL b,.int n]|.both a b=>[dT a,dT b]|.either a b=>[dT a,dT b]|.no a=>[dT a]
theorem gG(t:Tr):dT t= .tuple (.str (rK t)::DD t):=by
 cases t with
 |leaf l=>cases l<;>rfl
 |near _ _ _=>rfl
 |both _ _=>rfl
 |either _ _=>rfl
 |no _=>rfl
noncomputable def fQ:Tr->Nat
 |.leaf (.word _)=>0|.leaf (.start _)=>1|.leaf (.row _)=>2|.near _ _ _=>3|.both _ _=>4|.either _ _=>5|.no _=>6
noncomputable def tg(n:Nat):Str:=(["word","start","row","near","both","either","not"]:JP Str).getD n "x"
theorem Jm:∀ i<7,∀ j<7,tg i=tg j->i=j:=dkq
theorem rE(t:Tr):rK t=tg (fQ t)/\fQ t<7:=by
 cases t with
 |leaf l=>cases l<;>exact⟨rfl,J9 rfl⟩
 |near _ _ _=>exact⟨rfl,J9 rfl⟩
 |both _ _=>exact⟨rfl,J9 rfl⟩
 |either _ _=>exact⟨rfl,J9 rfl⟩
 |no _=>exact⟨rfl,J9 rfl⟩
theorem gs{a b:Tr}(h:rK a=rK b)(n:fQ a≠fQ b):LG:=n (Jm _ (rE a).2 _ (rE b).2 (by rw[<-(rE a).1,<-(rE b).1,h]))
theorem EM:∀(a b:Tr),dT a=dT b->a=b:=by
 intro a;induction a with
 |leaf l=>
  intro b h;cases b with
  |leaf m=>rw[uE (show dL l=dL m from h)]
  |near _ _ _=>rw[gG,gG] at h;injection h with h;injection h with h _;injection h with h;cases l<;>exact(gs h (by simp[fQ])).elim
  |both _ _=>rw[gG,gG] at h;injection h with h;injection h with h _;injection h with h;cases l<;>exact(gs h (by simp[fQ])).elim
  |either _ _=>rw[gG,gG] at h;injection h with h;injection h with h _;injection h with h;cases l<;>exact(gs h (by simp[fQ])).elim
  |no _=>rw[gG,gG] at h;injection h with h;injection h with h _;injection h with h;cases l<;>exact(gs h (by simp[fQ])).elim
 |near x y n=>
  intro b h;rw[gG,gG] at h;injection h with h;injection h with h1 h2;injection h1 with h1
  cases b with
  |near U y' n'=>
   injection h2 with a1 h2;injection h2 with a2 h2;injection h2 with a3 _;injection a3 with a3;rw[uE a1,uE a2,Int.ofNat.inj a3]
  |leaf l=>cases l<;>exact(gs h1 (by simp[fQ])).elim
  |both _ _=>exact(gs h1 (by simp[fQ])).elim
  |either _ _=>exact(gs h1 (by simp[fQ])).elim
  |no _=>exact(gs h1 (by simp[fQ])).elim
 |both x y J I=>
  intro b h;rw[gG,gG] at h;injection h with h;injection h with h1 h2;injection h1 with h1
  cases b with
  |both U y'=>
   injection h2 with a1 h2;injection h2 with a2 _;rw[J _ a1,I _ a2]
  |leaf l=>cases l<;>exact(gs h1 (by simp[fQ])).elim
  |near _ _ _=>exact(gs h1 (by simp[fQ])).elim
  |either _ _=>exact(gs h1 (by simp[fQ])).elim
  |no _=>exact(gs h1 (by simp[fQ])).elim
 |either x y J I=>
  intro b h;rw[gG,gG] at h;injection h with h;injection h with h1 h2;injection h1 with h1
  cases b with
  |either U y'=>
   injection h2 with a1 h2;injection h2 with a2 _;rw[J _ a1,I _ a2]
  |leaf l=>cases l<;>exact(gs h1 (by simp[fQ])).elim
  |near _ _ _=>exact(gs h1 (by simp[fQ])).elim
  |both _ _=>exact(gs h1 (by simp[fQ])).elim
  |no _=>exact(gs h1 (by simp[fQ])).elim
 |no x J=>
  intro b h;rw[gG,gG] at h;injection h with h;injection h with h1 h2;injection h1 with h1
  cases b with
  |no U=>
   injection h2 with a1 _;rw[J _ a1]
  |leaf l=>cases l<;>exact(gs h1 (by simp[fQ])).elim
  |near _ _ _=>exact(gs h1 (by simp[fQ])).elim
  |both _ _=>exact(gs h1 (by simp[fQ])).elim
  |either _ _=>exact(gs h1 (by simp[fQ])).elim
end K13
namespace L2
open PySem PySem.Spec PyProof.Rows
noncomputable def El(kvs:JP (Key×V))(ty:TE):TE:=λσ H Q=>ty σ H λy H2=>∃ k v,y=kV k/\eM kvs k=some v/\Q v H2
theorem Bl{X:Cx}{x:Str}{d:JR}{kvs:JP (Key×V)}{e:KI}{p pos:Pos}{ty:TE}(hg:Gl X x)(hm:X.mg x=some (.ref d))(D:KD X.prog X.w X.K d kvs)(he:PE X e ty)(hs:vR e)(hdb:(x==("__debug__":Str))=false:=by decide):
  PE X (.Subscript (.Name x p) e pos) (El kvs ty):=by
 intro pins s σ H Q I h;refine y4 F.slot_dict_getitem.lookup hs (jw I hg hm ?_ hdb);refine cv (he pins s σ H _ I h) λiv s2 ⟨y,H2,U,ry,k,v,ey,l,q2⟩=>?_
 subst ey;obtain⟨vs,rel,dd⟩:=D.at_ s2.heap U.kIn;obtain⟨w',hw,J⟩:=gY.some_of (v:=v) (o:=OD vs k) (by rw[<-l];exact rel.val k);exact⟨dd.typeIs,wpAny_getItem_of (qv ry) dd.mapOf hw ⟨v,H2,U.tok _,J,q2⟩⟩
end L2
namespace K13
open PySem L2 PyProof.Rows PySem.Spec Gn K01
open RA (Lf Tr Tk wr brk Kd Bk takeIn choose)
noncomputable def oD:JW Tr->Kf
 |none=> .none|some t=>dT t
noncomputable def gD(b:Bk):gh:=⟨b.nots,oD b.a,oD b.o⟩
theorem zP(t:Tr):iE (dT t)=false:=by rw[gG];rfl
theorem wb:∀(n:Nat) (t:Tr),jQ n (dT t)=dT (RA.nots n t)
 |0,_=>rfl
 |n+1,t=>wb n (.no t)
theorem xb(t:Tr)(b:Bk):uG (dT t) (gD b)=gD (takeIn t b):=by
 obtain⟨n,a,o⟩:=b;cases a with
 |none=>
  show gh.mk 0 (if iE .none then jQ n (dT t) else _) (oD o)=gh.mk 0 (dT (RA.nots n t)) (oD o);rw[wb];rfl
 |some x=>
  show gh.mk 0 (if iE (dT x) then _ else .tuple [.str "both",dT x,jQ n (dT t)]) (oD o)=gh.mk 0 (dT (.both x (RA.nots n t))) (oD o);rw[zP,wb n t];rfl
theorem wc{b:Bk}(h:b.a≠none):qG (gD b)=gD (choose b):=by
 obtain⟨n,a,o⟩:=b;cases a with
 |none=>exact absurd rfl h
 |some y=>
  cases o with
  |none=>rfl
  |some x=>
   show gh.mk n .none (if iE (dT x) then _ else .tuple [.str "either",dT x,dT y])=gh.mk n .none (dT (.either x y));rw[zP];rfl
noncomputable abbrev fR(b l e f:V):JP (Str×V):=dh "far" f (dh "leaf" e (dh "last" l (dh "brackets" b [])))
theorem r1:("brackets":Str)≠"last":=dkq
theorem r2:("brackets":Str)≠"leaf":=dkq
theorem r3:("brackets":Str)≠"far":=dkq
theorem r4:("last":Str)≠"leaf":=dkq
theorem r5:("last":Str)≠"far":=dkq
theorem r6:("leaf":Str)≠"far":=dkq
theorem kY(b l e f:V):fR b l e f=[(("brackets":Str),b),(("last":Str),l),(("leaf":Str),e),(("far":Str),f)]:=by
 have J:dh "last" l [(("brackets":Str),b)]=[(("brackets":Str),b),(("last":Str),l)]:=by show(if ("brackets":Str)="last" then _ else _)=_;rw[if_neg r1];rfl
 have U:dh "leaf" e [(("brackets":Str),b),(("last":Str),l)]=[(("brackets":Str),b),(("last":Str),l),(("leaf":Str),e)]:=by
  show(if ("brackets":Str)="leaf" then _ else (("brackets":Str),b)::(if ("last":Str)="leaf" then _ else _))=_;rw[if_neg r2,if_neg r4];rfl
 show dh "far" f (dh "leaf" e (dh "last" l [("brackets",b)]))=_;rw[J,U];show(if ("brackets":Str)="far" then _ else (("brackets":Str),b)::(if ("last":Str)="far" then _ else (("last":Str),l)::(if ("leaf":Str)="far" then _ else _)))=_;rw[if_neg r3,if_neg r5,if_neg r6];rfl
theorem vY(x b l e f:V):dh "last" x (fR b l e f)=fR b x e f:=by
 rw[kY,kY];show(if ("brackets":Str)="last" then _ else (("brackets":Str),b)::(if ("last":Str)="last" then _ else _))=_;rw[if_neg r1,J1 rfl]
theorem BY(x b l e f:V):dh "leaf" x (fR b l e f)=fR b l x f:=by
 rw[kY,kY];show(if ("brackets":Str)="leaf" then _ else (("brackets":Str),b)::(if ("last":Str)="leaf" then _ else (("last":Str),l)::(if ("leaf":Str)="leaf" then _ else _)))=_;rw[if_neg r2,if_neg r4,J1 rfl]
theorem Dz(x b l e f:V):dh "far" x (fR b l e f)=fR b l e x:=by
 rw[kY,kY];show(if ("brackets":Str)="far" then _ else (("brackets":Str),b)::(if ("last":Str)="far" then _ else (("last":Str),l)::(if ("leaf":Str)="far" then _ else (("leaf":Str),e)::(if ("far":Str)="far" then _ else _))))=_;rw[if_neg r3,if_neg r5,if_neg r6,J1 rfl]
theorem C5(b l e f:V):(fR b l e f).lookup ("far":Str)=some f:=by rw[dO,J1 rfl]
theorem xM(b l e f:V):(fR b l e f).lookup ("leaf":Str)=some e:=by rw[dO,if_neg r6,dO,J1 rfl]
theorem uw(b l e f:V):(fR b l e f).lookup ("last":Str)=some l:=by rw[dO,if_neg r5,dO,if_neg r4,dO,J1 rfl]
theorem jb(b l e f:V):(fR b l e f).lookup ("brackets":Str)=some b:=by rw[dO,if_neg r3,dO,if_neg r2,dO,if_neg r1,dO,J1 rfl]
theorem i9(b l e f:V):(fR b l e f).length<1000:=by rw[kY];show 4<1000;decide
noncomputable def i5(m:Str):Prop:=m≠"brackets"/\m≠"last"/\m≠"leaf"/\m≠"far"
theorem jm{m:Str}(h:i5 m)(b l e f:V):(fR b l e f).lookup m=none:=by
 rw[dO,if_neg h.2.2.2,dO,if_neg h.2.2.1,dO,if_neg h.2.1,dO,if_neg h.1];rfl
theorem B5:i5 "lets":=by unfold i5;decide +kernel
theorem DX:i5 "read_leaf":=by unfold i5;decide +kernel
theorem lV:i5 "read_other":=by unfold i5;decide +kernel
theorem Ea:i5 "read":=by unfold i5;decide +kernel
theorem Hw:i5 "whole":=by unfold i5;decide +kernel
noncomputable def TT(H H':Hp):Prop:=∀ b xs,H b=some (.tup xs)->H' b=some (.tup xs)
theorem TT.trans {H H1 H2:Hp}(a:TT H H1)(b:TT H1 H2):TT H H2:=λc xs e=>b c xs (a c xs e)
theorem TT.refl {H:Hp}:TT H H:=λ_ _ e=>e
theorem TT.of {H H':Hp}(s:bY H H'):TT H H':=λ_ _ e=>s _ _ e
theorem f7.but {C:JR}{H H':Hp}{p q:JR}{b:gh}(h:f7 C H q b)(s:dJ p H H')(n:q≠p)(t:TT H H'):f7 C H' q b:=by
 obtain⟨dx,J,U,h1,h2,I⟩:=h;exact⟨dx,J,U,s _ _ n h1,h2.tups t,I.tups t⟩
structure fV (B : Hp) (C CB : JR) (H : Hp) (p dx a : JR) (qs : JP JR) (bs : JP Bk) (ls vl vf : V) : Prop where
 sB : bY B H
 np : B p = none
 na : B a = none
 hp : H p = some (.ins C dx (fR (.ref a) ls vl vf))
 ha : H a = some (.lst (qs.map V.ref))
 nd : qs.Nodup
 pr : Lo (λq b => f7 CB H q (gD b) /\ B q = none) qs bs
section
variable {B : Hp} {C CB : JR} {H H' : Hp} {p dx a q : JR} {qs : JP JR} {bs : JP Bk} {b b' : Bk} {ls vl vf ls' vl' vf' : V}
theorem sL{R:JR->Bk->Prop}:∀{qs:JP JR} {bs:JP Bk},Lo R qs bs->∀ q∈qs,∃ b,R q b
 |_,_,.nil,q,h=>nomatch h
 |_,_,.cons h r,q,hq=>by
  rcases List.mem_cons.mp hq with rfl|hq
  ·exact⟨_,h⟩
  ·exact sL r q hq
theorem kH{R S:JR->Bk->Prop}:∀{qs:JP JR} {bs:JP Bk},Lo R qs bs->(∀ q∈qs,∀ b,R q b->S q b)->Lo S qs bs
 |_,_,.nil,_=> .nil
 |_,_,.cons h r,f=> .cons (f _ (by simp) _ h) (kH r λq J=>f q (J0 _ J))
theorem wL{R:JR->Bk->Prop}:∀{qs:JP JR} {bs:JP Bk} {q:JR} {b:Bk},Lo R qs bs->R q b->Lo R (qs++[q]) (bs++[b])
 |_,_,_,_,.nil,h=> .cons h .nil
 |_,_,_,_,.cons h r,g=> .cons h (wL r g)
theorem rF{R:JR->Bk->Prop}:∀{bs:JP Bk} {qs:JP JR} {b:Bk},Lo R qs (bs++[b])->∃ qr q,qs=qr++[q]/\Lo R qr bs/\R q b
 |[],_,_,.cons h .nil=>⟨[],_,rfl,.nil,h⟩
 |_::bs,_,_,.cons h r=>by
  obtain⟨qr,q,rfl,r1,r2⟩:=rF (bs:=bs) r;exact⟨_::qr,q,rfl,.cons h r1,r2⟩
theorem fV.pa (r:fV B C CB H p dx a qs bs ls vl vf):p≠a:=λe=>by have:=r.hp;rw[e,r.ha] at this;cases this
theorem uR{x y:JR}{d:gh}{dx:JR}{b l e f:V}(h:f7 CB H x d)(hp:H y=some (.ins C dx (fR b l e f))):x≠y:=λz=>by
 obtain⟨J,U,I,h1,_,_⟩:=h;rw[z,hp] at h1;injection h1 with h1;injection h1 with _ _ h1;have:=K9 Mw h1;rw[kY,k4] at this;exact absurd this (by show ¬ 4=3;decide)
theorem pf{x y:JR}{d:gh}{xs:JP V}(h:f7 CB H x d)(ha:H y=some (.lst xs)):x≠y:=λz=>by
 obtain⟨J,U,I,h1,_,_⟩:=h;rw[z,ha] at h1;cases h1
theorem fV.same (r:fV B C CB H p dx a qs bs ls vl vf)(s:bY H H'):fV B C CB H' p dx a qs bs ls vl vf:=
 ⟨r.sB.trans s,r.np,r.na,s _ _ r.hp,s _ _ r.ha,r.nd,kH r.pr λ_ _ _ h=>⟨h.1.same s,h.2⟩⟩
theorem fV.setp (r:fV B C CB H p dx a qs bs ls vl vf)(ls' vl' vf':V):fV B C CB (upd H p (.ins C dx (fR (.ref a) ls' vl' vf'))) p dx a qs bs ls' vl' vf'/\TT H (upd H p (.ins C dx (fR (.ref a) ls' vl' vf'))):=by
 have J:dJ p H (upd H p (.ins C dx (fR (.ref a) ls' vl' vf'))):=dJ.upd
 have t:TT H (upd H p (.ins C dx (fR (.ref a) ls' vl' vf'))):=J.tup r.hp;refine⟨⟨λb u e=>?_,r.np,r.na,b6,by rw[cF (K5 r.pa)];exact r.ha,r.nd,kH r.pr λq U b h=>⟨h.1.but J (uR h.1 r.hp) t,h.2⟩⟩,t⟩;rw[cF (dI e r.np)];exact r.sB _ _ e
theorem fV.top (r:fV B C CB H p dx a (qs++[q]) (bs++[b]) ls vl vf)(s:dJ q H H')(t:TT H H')(h:f7 CB H' q (gD b')):fV B C CB H' p dx a (qs++[q]) (bs++[b']) ls vl vf:=by
 obtain⟨qr,J,e,r1,r2⟩:=rF r.pr;obtain⟨rfl,U⟩:=List.append_inj' e rfl;have I:q=J:=by injection U
 subst I;have nq:q∉qs:=λhm=>by
  have:=(List.nodup_append.mp r.nd).2.2 q hm q (by simp);exact this rfl
 refine⟨λb u e=>s b u (dI e r2.2) (r.sB _ _ e),r.np,r.na,s _ _ (K5 (uR r2.1 r.hp)) r.hp,s _ _ (K5 (pf r2.1 r.ha)) r.ha,r.nd,wL (kH r1 λx hx b hb=>⟨hb.1.but s (λz=>nq (z ▸ hx)) t,hb.2⟩) ⟨h,r2.2⟩⟩
theorem fV.push (r:fV B C CB H p dx a qs bs ls vl vf)(h:f7 CB H q (gD b))(hB:B q=none)(nq:q∉qs):fV B C CB (upd H a (.lst (qs.map V.ref++[.ref q]))) p dx a (qs++[q]) (bs++[b]) ls vl vf/\TT H (upd H a (.lst (qs.map V.ref++[.ref q]))):=by
 have J:dJ a H (upd H a (.lst (qs.map V.ref++[.ref q]))):=dJ.upd
 have t:TT H (upd H a (.lst (qs.map V.ref++[.ref q]))):=λb xs e=>J b _ (λz=>by rw[z,r.ha] at e;cases e) e
 refine⟨⟨λb u e=>?_,r.np,r.na,by rw[cF r.pa];exact r.hp,by rw[b6,J5];rfl,?_,wL (kH r.pr λx U b hb=>⟨hb.1.but J (pf hb.1 r.ha) t,hb.2⟩) ⟨h.but J (pf h r.ha) t,hB⟩⟩,t⟩
 ·rw[cF (dI e r.na)];exact r.sB _ _ e
 ·refine List.nodup_append.mpr ⟨r.nd,by simp,λx U y I e=>?_⟩;rw[List.mem_singleton.mp I] at e;exact nq (e ▸ U)
theorem fV.pop (r:fV B C CB H p dx a (qs++[q]) (bs++[b]) ls vl vf):fV B C CB (upd H a (.lst (qs.map V.ref))) p dx a qs bs ls vl vf/\TT H (upd H a (.lst (qs.map V.ref)))/\f7 CB (upd H a (.lst (qs.map V.ref))) q (gD b)/\B q=none/\q∉qs:=by
 obtain⟨qr,U,e,r1,r2⟩:=rF r.pr;obtain⟨rfl,I⟩:=List.append_inj' e rfl;have e3:q=U:=by injection I
 subst e3;have nq:q∉qs:=λhm=>by
  have:=(List.nodup_append.mp r.nd).2.2 q hm q (by simp);exact this rfl
 have J:dJ a H (upd H a (.lst (qs.map V.ref))):=dJ.upd
 have t:TT H (upd H a (.lst (qs.map V.ref))):=λb xs e=>J b _ (λz=>by rw[z,r.ha] at e;cases e) e
 refine⟨⟨λb u e=>?_,r.np,r.na,by rw[cF r.pa];exact r.hp,b6,(List.nodup_append.mp r.nd).1,kH r1 λx hx b hb=>⟨hb.1.but J (pf hb.1 r.ha) t,hb.2⟩⟩,t,r2.1.but J (pf r2.1 r.ha) t,r2.2,nq⟩;rw[cF (dI e r.na)];exact r.sB _ _ e
end
noncomputable def Rd(B:Hp)(C CB:JR)(H:Hp)(p:JR)(bs:JP Bk)(ls vl vf:V):Prop:=∃ dx a qs,fV B C CB H p dx a qs bs ls vl vf
noncomputable def dQ:Kd->Str
 |.lp=>"(" |.no=>"not" |.and=>"and" |.or=>"or" |.tilde=>"~" |.leaf=>"leaf" |.near=>"near" |.rp=>")" |.stop=>"end"
theorem AB{a b:Kd}(h:dQ a=dQ b):a=b:=by
 have:∀ a b:Kd,dQ a=dQ b->a=b:=by
  intro a b;cases a<;>cases b<;>first|(intro _;rfl)|(intro z;exact absurd z dkq)
 exact this a b h
theorem eP(a b:Kd):decide (V.str (dQ a)=V.str (dQ b))=decide (a=b):=by
 by_cases h:a=b
 ·subst h;simp
 ·rw[JQ h];exact JQ λz=>h (AB (by injection z))
noncomputable abbrev xG:JP Kd:=[.lp,.no,.and,.or,.tilde,.leaf,.near,.rp]
noncomputable def nJ(j:Kd->JR):JP (Key×V):=xG.map λk=>(.inr (dQ k),.ref (j k))
theorem IP(j:Kd->JR){k:Kd}(h:k≠ .stop):eM (nJ j) (.inr (dQ k))=some (.ref (j k)):=by
 have go:∀ l:JP Kd,k∈l->eM (l.map λk=>((.inr (dQ k):Key),V.ref (j k))) (.inr (dQ k))=some (.ref (j k)):=λl=>by
  induction l with
  |nil=>intro h;cases h
  |cons x l J=>
   intro hk;rw[KU];by_cases e:x=k
   ·subst e;exact vp rfl
   ·rw[uK (λz=>e (AB (by injection z)))];rcases List.mem_cons.mp hk with z|z
    ·exact absurd z.symm e
    ·exact J z
 exact go xG (by cases k<;>first|exact absurd rfl h|decide)
noncomputable def jN(k:Kd):JP V:=(RA.behind k).map λq=> .str (dQ q)
theorem Ep{k q:Kd}(h:q∈RA.behind k):e9 (.str (dQ q)) (jN k)=true:=by
 unfold e9 jN;rw[List.any_map,List.any_eq_true];exact⟨q,h,by show jt (.str (dQ q)) (.str (dQ q))=true;unfold jt;simp⟩
structure mi (K : Kl) (C : JR) : Prop where
 cl : gB K C
 nb : gg K C "brackets"
 nl : gg K C "last"
 ne : gg K C "leaf"
 nf : gg K C "far"
section
variable {P : Ka} {w : Ku} {K : J7} {mg : Str -> JW JT} {base : KP} {C CB fi fd ft fc fw : JR} {di dd dt dc dw : J2}
noncomputable def xF(C CB:JR):Sp:=λvs H Q _=>∃(p dx:JR) (B:Hp),vs=[.ref p]/\H p=some (.ins C dx [])/\bY B H/\B p=none/\∀ vl vf H',Rd B C CB H' p [⟨0,none,none⟩] (.str (dQ .lp)) vl vf->TT H H'->Q .non H'
theorem D8:da ["self"] ["self"] (cG (inClass fJ 0)):=⟨rfl,rfl,rfl,dkq,rfl,dkq,dkq⟩
seal cH PS PE PT PA PG PI cT cP in
theorem EY{f:JR}{gd:J2}(F:ej K "__init__" "Reader.__init__" (inClass fJ 0) f gd)(R:mi K C)(BM:lr K CB fi fd ft fc fw di dd dt dc dw)(hB:mg "Bracket"=some (.ref CB)):bX P w K mg base b7 3 f gd ["self"] (xF C CB):=by
 have GI:bX P w K mg base b7 1 fi di ["self"] (vJ CB):=y7 BM.I BM.c
 have bI:=BM.I.binds (ps:=["self"]) λ_ _ _ _ _ _ us hl=>match us,hl with|[_],_=>rfl
 refine F.ok D8 (λvs H Q E h=>?_) (λcdv A outer s H vs Q E hr h=>?_)
 ·obtain⟨p,dx,B,rfl,_⟩:=h;rfl
 ·obtain⟨p,dx,B,rfl,hp,sB,nB,k⟩:=h;refine⟨_,b9 (fF (pv 0) (eZ (bU (wJ BM.mI GI hr rfl hB bI .nil cz) bV)) rfl) (b9 (fF (pv 0) b8 rfl) (b9 (fF (pv 0) ib rfl) (b5 (fF (pv 0) ib rfl)))),?_⟩;refine λq dq hq J af=>⟨q,dq,rfl,b6,λH1 b1 hb=>⟨rfl,?_⟩⟩
  have aa:q≠p:=λz=>by rw[z,hp] at hq;cases hq
  have ag:dq≠p:=λz=>by rw[z,hp] at J;cases J
  have c1:∀ b u,H b=some u->H1 b=some u:=λb u e=>by
   refine b1 b u (dI e hq) ?_;rw[cF (dI e hq),cF (dI e J)];exact e
  refine⟨eh,λa ha=>?_⟩;have s2:bY H1 (upd H1 a (.lst [.ref q])):=cq ha;have ea:upd H1 a (.lst [.ref q]) a=some (.lst [.ref q]):=b6;have U:=hb.same s2;generalize upd H1 a (.lst [.ref q])=H2 at s2 ea U ⊢;have c2:∀ b u,H b=some u->H2 b=some u:=λb u e=>s2 _ _ (c1 b u e)
  have h2:=c2 _ _ hp
  have ap:a≠p:=λz=>by rw[z,c1 _ _ hp] at ha;cases ha
  have ab:B a=none:=by
   cases e:B a with
   |none=>rfl
   |some u=>rw[c1 _ _ (sB _ _ e)] at ha;cases ha
  have ae:B q=none:=by
   cases e:B q with
   |none=>rfl
   |some u=>rw[sB _ _ e] at hq;cases hq
  refine⟨_,rfl,p,C,dx,[],rfl,h2,R.cl,R.nb,by decide,_,rfl,p,C,dx,_,rfl,b6,R.cl,R.nl,by have:=ke "brackets" (.ref a) [];exact N5 this (by decide),_,rfl,p,C,dx,_,rfl,b6,R.cl,R.ne,by have e1:=ke "brackets" (.ref a) [];have e2:=ke "last" (V.str (JO "(")) (dh "brackets" (.ref a) []);have e0:([]:JP (Str×V)).length=0:=rfl;omega,_,rfl,p,C,dx,_,rfl,b6,R.cl,R.nf,by have e1:=ke "brackets" (.ref a) [];have e2:=ke "last" (V.str (JO "(")) (dh "brackets" (.ref a) []);have e3:=ke "leaf" V.non (dh "last" (V.str (JO "(")) (dh "brackets" (.ref a) []));have e0:([]:JP (Str×V)).length=0:=rfl;omega,?_⟩;have bu:dJ p H2 (upd (upd (upd (upd H2 p (.ins C dx (dh "brackets" (.ref a) []))) p (.ins C dx (dh "last" (.str (JO "(")) (dh "brackets" (.ref a) [])))) p (.ins C dx (dh "leaf" .non (dh "last" (.str (JO "(")) (dh "brackets" (.ref a) []))))) p (.ins C dx (fR (.ref a) (.str (JO "(")) .non .non))):=((dJ.upd.trans dJ.upd).trans dJ.upd).trans dJ.upd;have t:TT H2 _:=bu.tup h2;refine k .non .non _ ⟨dx,a,[q],λb u e=>bu b u (dI e nB) (c2 b u (sB _ _ e)),nB,ab,b6,bu _ _ ap ea,by simp,.cons ⟨U.but bu (λz=>by
   obtain⟨_,_,_,e1,_⟩:=U;exact aa z) t,ae⟩ .nil⟩ (λb xs e=>t b xs (c2 b _ e))
noncomputable def yA(C CB:JR):Sp:=λvs H Q _=>∃(p:JR) (B:Hp) (bs:JP Bk) (l k:Kd) (vl vf:V),vs=[.ref p,.str (dQ k)]/\Rd B C CB H p bs (.str (dQ l)) vl vf/\RA.lets ⟨bs.reverse,l,none,0⟩ k=true/\l≠ .stop/\Q (.bl true) H
theorem CD:da ["self","kind"] ["self","kind"] (cG (inClass fJ 1)):=⟨rfl,rfl,rfl,dkq,rfl,dkq,dkq⟩
theorem uV{a:Prop} [Decidable a] {A B R:Prop}(hR:R)(h1:a->R->A)(h2:R->B):if decide a=true then A else B:=by
 by_cases h:a
 ·rw[J1 (JS h)];exact h1 h hR
 ·rw[if_neg (by rw[JQ h];exact J3)];exact h2 hR
theorem eE{b:KS}{A B:Prop}(h:b=false)(q:B):if b=true then A else B:=by rw[h];exact cj q
theorem sr{R:JR->Bk->Prop}:∀{qs:JP JR} {bs:JP Bk},Lo R qs bs->qs.length=bs.length
 |_,_,.nil=>rfl
 |_,_,.cons _ r=>by rw[JV,JV,sr r]
seal cH PS PE PT PA PG PI cT cP in
theorem ur{f d:JR}{gd:J2}{j:Kd->JR}(F:ej K "lets" "Reader.lets" (inClass fJ 1) f gd)(R:mi K C)(T:Txt mg)(hD:mg "BEHIND"=some (.ref d))(D:KD P w K d (nJ j))(kB:∀ k,k≠ .stop->∀ H,cu K H (j k) (jN k)):bX P w K mg base b7 1 f gd ["self","kind"] (yA C CB):=by
 obtain⟨tb,cb⟩:=T.cBrk;refine F.ok CD (λvs H Q E h=>?_) (λcdv A outer s H vs Q E hr h=>?_)
 ·obtain⟨p,B,bs,l,k,vl,vf,rfl,_⟩:=h;rfl
 ·obtain⟨p,B,bs,l,k,vl,vf,rfl,⟨dx,a,qs,r⟩,U,I,q⟩:=h;have ln:(qs.map V.ref).length=bs.length:=by rw[JX,sr r.pr]
  unfold RA.lets at U;simp only[Lc,MQ,K8,MR] at U;obtain⟨⟨⟨l1,l2⟩,l3⟩,l4⟩:=U;refine⟨_,b9 (cM (PW.pt (g8 (cx cU (pv 1) b8 (cC _)) (gZ (cx iJ (dF iF rfl T.len e8 (bU (df (pv 0) rfl) bV)) (fH (v:= .int 12) rfl cb ⟨_,rfl⟩) (cC _))))) (b5 (cy iq)) cY)
   (b9 (cM (PW.pt (g8 (cx cU (pv 1) b8 (cC _)) (gZ (cx cU (dF iF rfl T.len e8 (bU (df (pv 0) rfl) bV)) bZ (cC _))))) (b5 (cy iq)) cY)
   (b9 (cM (PW.pt (g8 (cx cU (pv 1) b8 (cC _)) (gZ (cx iJ (dF iF rfl T.len e8 (bU (df (pv 0) rfl) bV)) bZ (cC _))))) (b5 (cy iq)) cY)
   (b5 (cy (ik kC (pv 1) (Bl rfl hD D (df (pv 0) rfl) (λ_ _=>rfl)) rfl))))),?_⟩;have e1:decide (V.str (dQ k)=V.str (JO "("))=decide (k= .lp):=eP k .lp;have e2:decide (V.str (dQ k)=V.str (JO ")"))=decide (k= .rp):=eP k .rp;have e3:decide (V.str (dQ k)=V.str (JO "end"))=decide (k= .stop):=eP k .stop;refine⟨_,rfl,rfl,_,rfl,?_⟩;rw[e1];refine uV ?_ (λhk J=>⟨_,rfl,p,C,dx,_,_,rfl,r.hp,R.cl,R.nb,jb _ _ _ _,a,_,rfl,.inl (ck.of r.ha),_,_,rfl,rfl,_,rfl,eE (by
   rw[hk] at l1;simp at l1;rw[ln];exact JQ (by omega)) J⟩) (λJ=>cj J);refine⟨_,rfl,rfl,_,rfl,?_⟩;rw[e2];refine uV ?_ (λhk J=>⟨_,rfl,p,C,dx,_,_,rfl,r.hp,R.cl,R.nb,jb _ _ _ _,a,_,rfl,.inl (ck.of r.ha),rfl,_,rfl,eE (by
   rw[hk] at l2;simp at l2;rw[ln];exact JQ (by intro z;injection z with z;omega)) J⟩) (λJ=>cj J);refine⟨_,rfl,rfl,_,rfl,?_⟩;rw[e3];refine uV ?_ (λhk J=>⟨_,rfl,p,C,dx,_,_,rfl,r.hp,R.cl,R.nb,jb _ _ _ _,a,_,rfl,.inl (ck.of r.ha),_,_,rfl,rfl,_,rfl,eE (by
   rw[hk] at l3;simp at l3;rw[ln];exact JQ (by omega)) J⟩) (λJ=>cj J);refine⟨_,rfl,_,rfl,p,C,dx,_,_,rfl,r.hp,R.cl,R.nl,uw _ _ _ _,.inr (dQ l),.ref (j l),rfl,IP j I,j l,jN l,rfl,.inr (kB l I H),rfl,by unfold jN;rw[OE,List.all_eq_true];intro _ _;rfl,?_⟩;rw[Ep l4];exact q
end
theorem dJ.tb {C p:JR}{H H':Hp}{b:gh}(s:dJ p H H')(h:f7 C H p b):TT H H':=by
 obtain⟨dx,J,U,h1,_,_⟩:=h;exact s.tup h1
section
variable {P : Ka} {w : Ku} {K : J7} {mg : Str -> JW JT} {base : KP} {C CB fi fd ft fc fw : JR} {di dd dt dc dw : J2}
theorem fV.last {B:Hp}{H:Hp}{p dx a:JR}{qs:JP JR}{bs:JP Bk}{b:Bk}{ls vl vf:V}(r:fV B C CB H p dx a qs (bs++[b]) ls vl vf):∃ qr q,qs=qr++[q]/\f7 CB H q (gD b)/\B q=none:=by
 obtain⟨qr,q,e,_,r2⟩:=rF r.pr;exact⟨qr,q,e,r2⟩
theorem p4{qr:JP JR}{q:JR}:iz ((qr++[q]).map V.ref) (-1)=some (.ref q):=by rw[J5];exact Bc _ _
noncomputable def zG(C CB:JR):Sp:=λvs H Q _=>∃(p:JR) (B:Hp) (bs:JP Bk) (b:Bk) (k:Kd) (v vl vf:V) (l:Lf),vs=[.ref p,v]/\Rd B C CB H p (bs++[b]) (.str (dQ k)) vl vf/\b.nots<=10000/\cD false H v (dL l)/\
 (k= .tilde->∃ J n,cD false H vl (dL J)/\vf= .int ((n:Nat):Int)/\∀ H',TT H H'->Rd B C CB H' p (bs++[takeIn (.near J l n) b]) (.str (dQ .near)) vl vf->Q .non H')/\
 (k≠ .tilde->∀ H',TT H H'->Rd B C CB H' p (bs++[b]) (.str (dQ .leaf)) v vf->Q .non H')
theorem Eh:da ["self","leaf"] ["self","leaf"] (cG (inClass fJ 2)):=⟨rfl,rfl,rfl,dkq,rfl,dkq,dkq⟩
seal cH PS PE PT PA PG PI cT cP in
theorem DY{f:JR}{gd:J2}(F:ej K "read_leaf" "Reader.read_leaf" (inClass fJ 2) f gd)(R:mi K C)(BM:lr K CB fi fd ft fc fw di dd dt dc dw)(T:Txt mg):bX P w K mg base b7 2 f gd ["self","leaf"] (zG C CB):=by
 have GT:bX P w K mg base b7 1 ft dt ["self","told"] (rX CB):=xc BM.T BM.c T
 have bT:=BM.T.binds (ps:=["self","told"]) λ_ _ _ _ _ _ us hl=>match us,hl with|[_,_],_=>rfl
 refine F.ok Eh (λvs H Q E h=>?_) (λcdv A outer s H vs Q E hr h=>?_)
 ·obtain⟨p,B,bs,b,k,v,vl,vf,l,rfl,_⟩:=h;rfl
 ·obtain⟨p,B,bs,b,k,v,vl,vf,l,rfl,⟨dx,a,qs,r⟩,hn,hv,h1,h2⟩:=h;refine⟨_,b5 (cM (cx cU (df (pv 0) rfl) b8 (cC _))
   (b9 (e7 (mx (cK fO (df (pv 0) rfl) (mS lK bZ) (λ_ _=>rfl)) BM.c.cl BM.mT GT hr bT .nil cz (bU (dv (bU b8 (bU (df (pv 0) rfl) (bU (pv 1) (bU (df (pv 0) rfl) bV))))) bV))) (b5 (fF (pv 0) b8 rfl)))
   (b9 (fF (pv 0) (pv 1) rfl) (b5 (fF (pv 0) b8 rfl)))),?_⟩;refine⟨_,rfl,p,C,dx,_,_,rfl,r.hp,R.cl,R.nl,uw _ _ _ _,rfl,_,rfl,?_⟩;rw[show decide (V.str (dQ k)=V.str (JO "~"))=decide (k= .tilde) from eP k .tilde];by_cases hk:k= .tilde
  ·rw[JS hk];obtain⟨l0,n,pl,rfl,q⟩:=h1 hk;obtain⟨qr,x,rfl,U,nx⟩:=r.last;obtain⟨dq,va,vo,I,_,_⟩:=id U;refine cg ⟨_,rfl,p,C,dx,_,_,rfl,r.hp,R.cl,R.nb,jb _ _ _ _,_,rfl,a,_,_,_,rfl,rfl,ck.of r.ha,p4,x,dq,_,rfl,I,lg wV _ _ _,_,rfl,p,C,dx,_,_,rfl,r.hp,R.cl,R.ne,xM _ _ _ _,_,rfl,_,rfl,p,C,dx,_,_,rfl,r.hp,R.cl,R.nf,C5 _ _ _ _,ie,λu hu=>?_⟩;have s1:bY H (upd H u (.tup [.str (JO "near"),vl,v,.int ((n:Nat):Int)])):=cq hu;have eu:upd H u (.tup [.str (JO "near"),vl,v,.int ((n:Nat):Int)]) u=some (.tup [.str (JO "near"),vl,v,.int ((n:Nat):Int)]):=b6;generalize upd H u (.tup [.str (JO "near"),vl,v,.int ((n:Nat):Int)])=H1 at s1 eu ⊢;refine⟨x,gD b,.ref u,dT (.near l0 l n),rfl,U.same s1,Kj hn (by decide),.tup eu (.cons (.str _) (.cons (pl.same s1) (.cons (hv.same s1) (.cons (.int _) .nil)))),λH2 b2 J=>?_⟩;rw[xb] at J;have t2:TT H1 H2:=b2.tb (U.same s1);have r2:=(r.same s1).top b2 t2 J;have r3:=r2.setp (.str (JO "near")) vl (.int ((n:Nat):Int));refine⟨_,rfl,p,C,dx,_,rfl,r2.hp,R.cl,R.nl,i9 _ _ _ _,?_⟩;rw[vY];exact q _ (((TT.of s1).trans t2).trans r3.2) ⟨dx,a,_,r3.1⟩
  ·rw[JQ hk];have r1:=r.setp (.str (dQ k)) v vf;have r2:=r1.1.setp (.str (JO "leaf")) v vf;refine cj ⟨_,rfl,_,rfl,p,C,dx,_,rfl,r.hp,R.cl,R.ne,i9 _ _ _ _,?_⟩;rw[BY];refine⟨_,rfl,p,C,dx,_,rfl,r1.1.hp,R.cl,R.nl,i9 _ _ _ _,?_⟩;rw[vY];exact h2 hk _ (r1.2.trans r2.2) ⟨dx,a,_,r2.1⟩
end
open RA (Lf Tr Tk wr brk Kd Bk takeIn)
noncomputable def ko:JW Tk->Kd
 |none=> .stop|some k=>RA.kd k
noncomputable def y2:JW Tk->JP Bk->JP Bk->Prop
 |some (.leaf _),_,_=>LG
 |some .no,bs,J=>∃ r b,bs=r++[b]/\J=r++[({b with nots:=b.nots+1}:Bk)]
 |some .or,bs,J=>∃ r b,bs=r++[b]/\b.a≠none/\J=r++[RA.choose b]
 |some .lp,bs,J=>J=bs++[(⟨0,none,none⟩:Bk)]/\bs.length<=20000
 |some .rp,bs,J=>∃ r b' b t,bs=r++[b']++[b]/\b.a≠none/\b'.nots<=10000/\RA.whole b=some t/\J=r++[takeIn t b']
 |_,bs,J=>J=bs
theorem oj{b:KS}{A B:Prop}(h:b=true)(q:A):if b=true then A else B:=by rw[h];exact cg q
section
variable {P : Ka} {w : Ku} {K : J7} {mg : Str -> JW JT} {base : KP} {C CB fi fd ft fc fw : JR} {di dd dt dc dw : J2}
noncomputable def wu(C CB:JR):Sp:=λvs H Q _=>∃(p:JR) (B:Hp) (k:JW Tk) (bs J:JP Bk) (U ls vl vf:V),vs=[.ref p,.str (dQ (ko k)),U]/\Rd B C CB H p bs ls vl vf/\y2 k bs J/\∀ H',TT H H'->Rd B C CB H' p J (.str (dQ (ko k))) vl (if ko k= .tilde then U else vf)->Q .non H'
theorem zk:da ["self","kind","meant","within"] ["self","kind","meant"] (cG (inClass fJ 3)):=⟨rfl,rfl,rfl,dkq,rfl,dkq,dkq⟩
seal cH PS PE PT PA PG PI cT cP in
theorem Et{f:JR}{gd:J2}(F:ej K "read_other" "Reader.read_other" (inClass fJ 3) f gd)(R:mi K C)(BM:lr K CB fi fd ft fc fw di dd dt dc dw)(hB:mg "Bracket"=some (.ref CB))(T:Txt mg):bX P w K mg base b7 3 f gd ["self","kind","meant"] (wu C CB):=by
 have GI:bX P w K mg base b7 1 fi di ["self"] (vJ CB):=y7 BM.I BM.c
 have bI:=BM.I.binds (ps:=["self"]) λ_ _ _ _ _ _ us hl=>match us,hl with|[_],_=>rfl
 have GD:bX P w K mg base b7 2 fd dd ["self"] (A7 CB):=(Dr BM.D BM.c).mono (by decide)
 have bD:=BM.D.binds (ps:=["self"]) λ_ _ _ _ _ _ us hl=>match us,hl with|[_],_=>rfl
 have GC:bX P w K mg base b7 2 fc dc ["self"] (uc CB):=(yW BM.Ch BM.c).mono (by decide)
 have bC:=BM.Ch.binds (ps:=["self"]) λ_ _ _ _ _ _ us hl=>match us,hl with|[_],_=>rfl
 have GW:bX P w K mg base b7 2 fw dw ["self"] (uL CB):=AY BM
 have bW:=BM.W.binds (ps:=["self"]) λ_ _ _ _ _ _ us hl=>match us,hl with|[_],_=>rfl
 have GT:bX P w K mg base b7 2 ft dt ["self","told"] (rX CB):=(xc BM.T BM.c T).mono (by decide)
 have bT:=BM.T.binds (ps:=["self","told"]) λ_ _ _ _ _ _ us hl=>match us,hl with|[_,_],_=>rfl
 refine F.ok zk (λvs H Q E h=>?_) (λcdv A outer s H vs Q E hr h=>?_)
 ·obtain⟨p,B,k,bs,ab,vm,ls,vl,vf,rfl,_⟩:=h;rfl
 ·obtain⟨p,B,k,bs,ab,vm,ls,vl,vf,rfl,⟨dx,a,qs,r⟩,ho,q⟩:=h;refine⟨_,b9 (cM (cx cU (pv 1) b8 (cC _)) (b5 (fF (pv 0) (pv 2) rfl))
   (b5 (cM (cx cU (pv 1) b8 (cC _)) (b5 (e7 (nO (cK fO (df (pv 0) rfl) (mS lK bZ) (λ_ _=>rfl)) BM.c.cl BM.mD GD hr bD .nil cz)))
   (b5 (cM (cx cU (pv 1) b8 (cC _)) (b5 (e7 (nO (cK fO (df (pv 0) rfl) (mS lK bZ) (λ_ _=>rfl)) BM.c.cl BM.mC GC hr bC .nil cz)))
   (b5 (cM (cx cU (pv 1) b8 (cC _)) (b5 (e7 (fS PySem.F.plainAttrs_list PySem.F.slot_list_append PySem.F.type_list_append iO (df (pv 0) rfl) (bU (wJ BM.mI GI hr rfl hB bI .nil cz) bV))))
   (b5 (cM (cx cU (pv 1) b8 (cC _)) (b9 (cZ (i:=3) zk.nd rfl (Kh rfl) (nO (iL PySem.F.plainAttrs_list PySem.F.slot_list_pop PySem.F.type_list_pop jM (df (pv 0) rfl)) BM.c.cl BM.mW GW hr bW .nil cz))
    (b5 (e7 (mx (cK fO (df (pv 0) rfl) (mS lK bZ) (λ_ _=>rfl)) BM.c.cl BM.mT GT hr bT .nil cz (bU (pv 3) bV))))) cY)))))))))
   (b5 (fF (pv 0) (pv 1) rfl)),?_⟩;have fin:∀(H1:Hp) (a:JR) (qs:JP JR) (ls vf':V),TT H H1->fV B C CB H1 p dx a qs ab ls vl vf'->(vf'=if ko k= .tilde then vm else vf)->Q .non (upd H1 p (.ins C dx (dh "last" (.str (dQ (ko k))) (fR (.ref a) ls vl vf')))):=λH1 a qs ls vf' t r1 ev=>by
   rw[vY];have r2:=r1.setp (.str (dQ (ko k))) vl vf';rw[<-ev] at q;exact q _ (t.trans r2.2) ⟨dx,a,qs,r2.1⟩
  cases k with
  |none=>
   have ae:ab=bs:=ho;subst ae;refine⟨_,rfl,rfl,_,rfl,eE ((eP .stop .tilde).trans rfl) ⟨_,rfl,rfl,_,rfl,eE ((eP .stop .no).trans rfl) ⟨_,rfl,rfl,_,rfl,eE ((eP .stop .or).trans rfl) ⟨_,rfl,rfl,_,rfl,eE ((eP .stop .lp).trans rfl) ⟨_,rfl,rfl,_,rfl,eE ((eP .stop .rp).trans rfl) ?_⟩⟩⟩⟩⟩;exact⟨_,rfl,_,rfl,p,C,dx,_,rfl,r.hp,R.cl,R.nl,i9 _ _ _ _,fin H a qs ls vf TT.refl r rfl⟩
  |some k=>
   cases k with
   |leaf l=>exact ho.elim
   |near n=>
    have ae:ab=bs:=ho;subst ae;refine⟨_,rfl,rfl,_,rfl,oj ((eP .tilde .tilde).trans rfl) ⟨_,rfl,_,rfl,p,C,dx,_,rfl,r.hp,R.cl,R.nf,i9 _ _ _ _,?_⟩⟩;rw[Dz];have r1:=r.setp ls vl vm;exact⟨_,rfl,_,rfl,p,C,dx,_,rfl,r1.1.hp,R.cl,R.nl,i9 _ _ _ _,fin _ a qs ls vm r1.2 r1.1 rfl⟩
   |and=>
    have ae:ab=bs:=ho;subst ae;refine⟨_,rfl,rfl,_,rfl,eE ((eP .and .tilde).trans rfl) ⟨_,rfl,rfl,_,rfl,eE ((eP .and .no).trans rfl) ⟨_,rfl,rfl,_,rfl,eE ((eP .and .or).trans rfl) ⟨_,rfl,rfl,_,rfl,eE ((eP .and .lp).trans rfl) ⟨_,rfl,rfl,_,rfl,eE ((eP .and .rp).trans rfl) ?_⟩⟩⟩⟩⟩;exact⟨_,rfl,_,rfl,p,C,dx,_,rfl,r.hp,R.cl,R.nl,i9 _ _ _ _,fin H a qs ls vf TT.refl r rfl⟩
   |no=>
    obtain⟨rs,b,rfl,rfl⟩:=ho;obtain⟨qr,x,rfl,U,nx⟩:=r.last;obtain⟨dq,va,vo,aa,_,_⟩:=id U;refine⟨_,rfl,rfl,_,rfl,eE ((eP .no .tilde).trans rfl) ⟨_,rfl,rfl,_,rfl,oj ((eP .no .no).trans rfl) ⟨_,rfl,p,C,dx,_,_,rfl,r.hp,R.cl,R.nb,jb _ _ _ _,_,rfl,a,_,_,_,rfl,rfl,ck.of r.ha,p4,x,dq,_,rfl,aa,lg Jb _ _ _,x,gD b,rfl,U,λH2 b2 af=>?_⟩⟩⟩;have r2:=r.top (b':={b with nots:=b.nots+1}) b2 (b2.tb U) af;exact⟨_,rfl,_,rfl,p,C,dx,_,rfl,r2.hp,R.cl,R.nl,i9 _ _ _ _,fin _ a _ ls vf (b2.tb U) r2 rfl⟩
   |or=>
    obtain⟨rs,b,rfl,hb,rfl⟩:=ho;obtain⟨qr,x,rfl,U,nx⟩:=r.last;obtain⟨dq,va,vo,aa,_,_⟩:=id U;refine⟨_,rfl,rfl,_,rfl,eE ((eP .or .tilde).trans rfl) ⟨_,rfl,rfl,_,rfl,eE ((eP .or .no).trans rfl) ⟨_,rfl,rfl,_,rfl,oj ((eP .or .or).trans rfl) ⟨_,rfl,p,C,dx,_,_,rfl,r.hp,R.cl,R.nb,jb _ _ _ _,_,rfl,a,_,_,_,rfl,rfl,ck.of r.ha,p4,x,dq,_,rfl,aa,lg zX _ _ _,x,gD b,rfl,U,λH2 b2 af=>?_⟩⟩⟩⟩;rw[wc hb] at af;have r2:=r.top b2 (b2.tb U) af;exact⟨_,rfl,_,rfl,p,C,dx,_,rfl,r2.hp,R.cl,R.nl,i9 _ _ _ _,fin _ a _ ls vf (b2.tb U) r2 rfl⟩
   |lp=>
    obtain⟨rfl,hl⟩:=ho;have ln:=sr r.pr;refine⟨_,rfl,rfl,_,rfl,eE ((eP .lp .tilde).trans rfl) ⟨_,rfl,rfl,_,rfl,eE ((eP .lp .no).trans rfl) ⟨_,rfl,rfl,_,rfl,eE ((eP .lp .or).trans rfl) ⟨_,rfl,rfl,_,rfl,oj ((eP .lp .lp).trans rfl) ⟨_,rfl,p,C,dx,_,_,rfl,r.hp,R.cl,R.nb,jb _ _ _ _,.inl ⟨rfl,_,ck.of r.ha⟩,λx dq U aq az=>⟨x,dq,rfl,b6,λH1 b1 hb=>⟨rfl,?_⟩⟩⟩⟩⟩⟩⟩;have s1:bY H H1:=λb u e=>by
     refine b1 b u (dI e U) ?_;rw[cF (dI e U),cF (dI e aq)];exact e
    have r1:=r.same s1
    have ar:B x=none:=by
     cases e:B x with
     |none=>rfl
     |some u=>rw[r.sB _ _ e] at U;cases U
    have nq:x∉qs:=λhm=>by
     obtain⟨b,hb,_⟩:=sL r.pr x hm;obtain⟨_,_,_,e,_⟩:=hb;rw[U] at e;cases e
    have r2:=r1.push (b:=⟨0,none,none⟩) hb ar nq;refine⟨a,_,_,rfl,rfl,r1.ha,by rw[JX,Kv];omega,?_⟩;exact⟨_,rfl,_,rfl,p,C,dx,_,rfl,r2.1.hp,R.cl,R.nl,i9 _ _ _ _,fin _ a _ ls vf ((TT.of s1).trans r2.2) r2.1 rfl⟩
   |rp=>
    obtain⟨rs,b',b,t,rfl,hb,hn,hw,rfl⟩:=ho;obtain⟨aA,x,rfl,U,nx⟩:=r.last;have r1:=r.pop;obtain⟨qr,y,rfl,hy,ny⟩:=r1.1.last;have ha:H a=some (.lst ((qr++[y]).map V.ref++[.ref x])):=by have:=r.ha;rw[J5] at this;exact this
    have dl:((qr++[y]).map V.ref++[V.ref x]).dropLast=(qr++[y]).map V.ref:=Ln;obtain⟨dq,va,vo,aa,_,_⟩:=id r1.2.2.1;refine⟨_,rfl,rfl,_,rfl,eE ((eP .rp .tilde).trans rfl) ⟨_,rfl,rfl,_,rfl,eE ((eP .rp .no).trans rfl) ⟨_,rfl,rfl,_,rfl,eE ((eP .rp .or).trans rfl) ⟨_,rfl,rfl,_,rfl,eE ((eP .rp .lp).trans rfl) ⟨_,rfl,rfl,_,rfl,oj ((eP .rp .rp).trans rfl) ⟨_,rfl,p,C,dx,_,_,rfl,r.hp,R.cl,R.nb,jb _ _ _ _,.inl ⟨rfl,_,ck.of ha⟩,a,_,_,rfl,rfl,ha,jW,?_⟩⟩⟩⟩⟩⟩;rw[dl];obtain⟨J,aj,ag,au,ak⟩:=r1;have av:y≠x:=λz=>ak (by rw[<-z];simp)
    generalize upd H a (.lst ((qr++[y]).map V.ref))=H1 at J aj ag aa hy ⊢;refine⟨x,dq,_,rfl,aa,lg Ab _ _ _,x,gD b,rfl,ag,λv H2 b2 af ah=>?_⟩;rw[wc hb] at ah;have aw:(RA.choose b).o=some t:=hw;have ax:cD false H2 v (dT t):=by
     have:(gD (RA.choose b)).o=dT t:=by show oD (RA.choose b).o=_;rw[aw];rfl
     rw[this] at ah;exact ah
    have t2:TT H1 H2:=b2.tb ag
    have r2:fV B C CB H2 p dx a (qr++[y]) (rs++[b']) ls vl vf:=by
     refine⟨λb u e=>b2 b u (dI e au) (J.sB _ _ e),J.np,J.na,b2 _ _ (K5 (uR ag J.hp)) J.hp,b2 _ _ (K5 (pf ag J.ha)) J.ha,J.nd,kH J.pr λz hz b hb=>⟨hb.1.but b2 (λe=>ak (e ▸ hz)) t2,hb.2⟩⟩
    have ai:=hy.but b2 av t2;obtain⟨dy,aB,aC,ay,_,_⟩:=id ai;refine⟨_,rfl,p,C,dx,_,_,rfl,r2.hp,R.cl,R.nb,jb _ _ _ _,_,rfl,a,_,_,_,rfl,rfl,ck.of r2.ha,p4,y,dy,_,rfl,ay,lg wV _ _ _,_,rfl,y,gD b',v,dT t,rfl,ai,Kj hn (by decide),ax,λH3 b3 ao=>?_⟩;rw[xb] at ao;have t3:TT H2 H3:=b3.tb ai;have r3:=r2.top b3 t3 ao;exact⟨_,rfl,_,rfl,p,C,dx,_,rfl,r3.hp,R.cl,R.nl,i9 _ _ _ _,fin _ a _ ls vf ((aj.trans t2).trans t3) r3 rfl⟩
end
open RA (Lf Tr Tk wr brk Kd Bk takeIn Rs)
noncomputable def nc:JW Tk->Kf
 |none=> .none|some k=>mD k
noncomputable def kh(s:Rs):JW Tk->Rs
 |none=>{RA.fl s with last:= .stop}
 |some k=>RA.fA s k
structure qz (B : Hp) (C CB : JR) (H : Hp) (p : JR) (s : Rs) (n : Nat) (vl vf : V) : Prop where
 rd : Rd B C CB H p s.bs.reverse (.str (dQ s.last)) vl vf
 lf : s.last = .leaf \/ s.last = .tilde -> ∃ l, s.leaf = some l /\ cD false H vl (dL l)
 fr : s.last = .tilde -> vf = .int ((s.far : Nat) : Int)
 sm : s.last = .near \/ s.last = .rp -> ∃ b r, s.bs = b :: r /\ b.a ≠ none
 ne : s.bs ≠ []
 nt : ∀ b ∈ s.bs, b.nots<=n
 ln : s.bs.length<=n+1
theorem uP(t:Tr)(b:Bk):(takeIn t b).nots=0/\(takeIn t b).a≠none:=⟨rfl,by intro z;cases z⟩
theorem AO{s:Rs}(h:s.last= .leaf){l:Lf}(hl:s.leaf=some l):RA.fl s={s with bs:=RA.ir (takeIn (.leaf l)) s.bs}:=by
 unfold RA.fl;rw[J1 h,hl]
section
variable {P : Ka} {w : Ku} {K : J7} {mg : Str -> JW JT} {base : KP} {C CB fi fd ft fc fw : JR} {di dd dt dc dw : J2}
noncomputable def xr(C CB:JR):Sp:=λvs H Q _=>∃(p:JR) (B:Hp) (s:Rs) (n:Nat) (k:JW Tk) (J vl vf:V),vs=[.ref p,.str (dQ (ko k)),J]/\qz B C CB H p s n vl vf/\n<=10000/\cD false H J (nc k)/\RA.lets s (ko k)=true/\
 ∀ vl' vf' H',TT H H'->qz B C CB H' p (kh s k) (n+1) vl' vf'->Q .non H'
theorem FA:da ["self","kind","meant"] ["self","kind","meant"] (cG (inClass fJ 4)):=⟨rfl,rfl,rfl,dkq,rfl,dkq,dkq⟩
theorem yf{s:Rs}{k:Kd}(h:RA.lets s k=true):(k= .lp->s.bs.length<=12)/\(k= .rp->s.bs.length≠1)/\(k= .stop->s.bs.length<=1)/\k∈RA.behind s.last:=by
 unfold RA.lets at h;simp only[Lc,MQ,MR] at h;obtain⟨⟨⟨J,U⟩,I⟩,l4⟩:=h;refine⟨λe=>?_,λe=>?_,λe=>?_,l4⟩
 ·rw[e] at J;simp at J;omega
 ·rw[e] at U;simp at U;omega
 ·rw[e] at I;simp at I;omega
theorem y6{k q:Kd}(h:q∈RA.behind k)(hq:q= .or\/q= .rp):k= .leaf\/k= .near\/k= .rp:=by
 rcases hq with rfl|rfl<;>cases k<;>first|exact .inl rfl|exact .inr (.inl rfl)|exact .inr (.inr rfl)|exact absurd h (by decide)
seal cH PS PE PT PA PG PI cT cP in
theorem BV{f fl fo:JR}{gd gl go:J2}(F:ej K "read" "Reader.read" (inClass fJ 4) f gd)(FL:ej K "read_leaf" "Reader.read_leaf" (inClass fJ 2) fl gl)(mL:Meth K C "read_leaf" fl)(FO:ej K "read_other" "Reader.read_other" (inClass fJ 3) fo go)(mO:Meth K C "read_other" fo)(R:mi K C)(BM:lr K CB fi fd ft fc fw di dd dt dc dw)(hB:mg "Bracket"=some (.ref CB))(T:Txt mg):bX P w K mg base b7 4 f gd ["self","kind","meant"] (xr C CB):=by
 have GL:bX P w K mg base b7 3 fl gl ["self","leaf"] (zG C CB):=(DY FL R BM T).mono (by decide)
 have bL:=FL.binds (ps:=["self","leaf"]) λ_ _ _ _ _ _ us hl=>match us,hl with|[_,_],_=>rfl
 have GO:bX P w K mg base b7 3 fo go ["self","kind","meant"] (wu C CB):=Et FO R BM hB T
 have bO:=FO.binds (ps:=["self","kind","meant"]) λ_ _ _ _ _ _ us hl=>match us,hl with|[_,_,_],_=>rfl
 have GT:bX P w K mg base b7 3 ft dt ["self","told"] (rX CB):=(xc BM.T BM.c T).mono (by decide)
 have bT:=BM.T.binds (ps:=["self","told"]) λ_ _ _ _ _ _ us hl=>match us,hl with|[_,_],_=>rfl
 refine F.ok FA (λvs H Q E h=>?_) (λcdv A outer s0 H vs Q E hr h=>?_)
 ·obtain⟨p,B,s,n,k,vm,vl,vf,rfl,_⟩:=h;rfl
 ·obtain⟨p,B,s,n,k,vm,vl,vf,rfl,ok,hn,hm,ar,q⟩:=h;obtain⟨l1,l2,l3,l4⟩:=yf ar;refine⟨_,b9 (uh (PW.pt (g8 (cx cU (df (pv 0) rfl) b8 (cC _)) (gZ (cx kN (pv 1) b8 (cC _))))) (b5 (e7 (mx (cK fO (df (pv 0) rfl) (mS lK bZ) (λ_ _=>rfl)) BM.c.cl BM.mT GT hr bT .nil cz (bU (df (pv 0) rfl) bV)))) cY)
   (b5 (cM (cx cU (pv 1) b8 (cC _)) (b5 (e7 (mx (pv 0) R.cl mL GL hr bL .nil cz (bU (pv 2) bV)))) (b5 (e7 (mx (pv 0) R.cl mO GO hr bO .nil cz (bU (pv 1) (bU (pv 2) bV))))))),?_⟩;obtain⟨dx,a,qs,r⟩:=ok.rd;obtain⟨b0,r0,eb⟩:∃ b r,s.bs=b::r:=by
   cases e:s.bs with
   |nil=>exact absurd e ok.ne
   |cons b r=>exact⟨b,r,rfl⟩
  have au:s.bs.reverse=r0.reverse++[b0]:=by rw[eb,Ke]
  refine⟨λaj H'=>aj=[some (.ref p),some (.str (dQ (ko k))),some vm]/\TT H H'/\Rd B C CB H' p (if ko k= .tilde then s else RA.fl s).bs.reverse (.str (dQ s.last)) vl vf,?_,?_⟩
  ·refine⟨_,rfl,p,C,dx,_,_,rfl,r.hp,R.cl,R.nl,uw _ _ _ _,rfl,_,rfl,?_⟩;rw[show decide (V.str (dQ s.last)=V.str (JO "leaf"))=decide (s.last= .leaf) from eP s.last .leaf];by_cases h1:s.last= .leaf
   ·rw[JS h1];refine cg ⟨_,rfl,rfl,_,rfl,?_⟩;rw[show decide (V.str (dQ (ko k))=V.str (JO "~"))=decide (ko k= .tilde) from eP (ko k) .tilde];by_cases h2:ko k= .tilde
    ·rw[JS h2];refine cj ⟨rfl,TT.refl,?_⟩;rw[J1 h2];exact ok.rd
    ·rw[JQ h2];obtain⟨l,el,pl⟩:=ok.lf (.inl h1);rw[au] at r;obtain⟨qr,x,rfl,hx,nx⟩:=r.last;obtain⟨dq,va,vo,av,_,_⟩:=id hx;refine cg ⟨_,rfl,p,C,dx,_,_,rfl,r.hp,R.cl,R.nb,jb _ _ _ _,_,rfl,a,_,_,_,rfl,rfl,ck.of r.ha,p4,x,dq,_,rfl,av,lg wV _ _ _,_,rfl,p,C,dx,_,_,rfl,r.hp,R.cl,R.ne,xM _ _ _ _,x,gD b0,vl,dT (.leaf l),rfl,hx,by have:b0.nots<=n:=ok.nt b0 (by rw[eb];simp);show b0.nots<=100000;omega,pl,λH2 b2 ak=>?_⟩;rw[xb] at ak;have t2:TT H H2:=b2.tb hx;have r2:=r.top b2 t2 ak;refine⟨rfl,t2,?_⟩;rw[if_neg h2,AO h1 el];show Rd B C CB H2 p (RA.ir (takeIn (.leaf l)) s.bs).reverse _ vl vf;rw[eb];show Rd B C CB H2 p (takeIn (.leaf l) b0::r0).reverse _ vl vf;rw[Ke];exact⟨dx,a,_,r2⟩
   ·rw[JQ h1];refine cj (cj ⟨rfl,TT.refl,?_⟩);rw[RA.kR h1,ite_self];exact ok.rd
  ·rintro aj H1 ⟨rfl,t1,ai⟩;obtain⟨ab,a1,ay,r1⟩:=id ai;have ag:cD false H1 vm (nc k):=hm.tups t1;have I:∀ b∈(RA.fl s).bs,b.nots<=n:=λb hb=>by
    unfold RA.fl at hb;split at hb
    ·split at hb
     ·rw[eb] at hb;rcases List.mem_cons.mp (show b∈takeIn _ b0::r0 from hb) with rfl|hb
      ·exact Ks _
      ·exact ok.nt b (by rw[eb];exact J0 _ hb)
     ·exact ok.nt b hb
    ·exact ok.nt b hb
   have aa:(RA.fl s).bs.length<=n+1:=by rw[RA.pZ];exact ok.ln
   obtain⟨b1,U,J⟩:∃ b r,(RA.fl s).bs=b::r:=by
    cases e:(RA.fl s).bs with
    |nil=>have:=RA.pZ s;rw[e,eb] at this;cases this
    |cons b r=>exact⟨b,r,rfl⟩
   have ao:s.last= .leaf\/s.last= .near\/s.last= .rp->b1.a≠none:=λh=>by
    rcases h with h|h
    ·obtain⟨l,el,_⟩:=ok.lf (.inl h);rw[AO h el,eb] at J;have:takeIn (.leaf l) b0=b1:=by injection J
     rw[<-this];exact(uP _ _).2
    ·obtain⟨b,r,e,hb⟩:=ok.sm h;rw[RA.kR (by rcases h with h|h<;>(rw[h];intro z;cases z)),e] at J;have:b=b1:=by injection J
     rw[<-this];exact hb
   refine⟨_,rfl,rfl,_,rfl,?_⟩;rw[show decide (V.str (dQ (ko k))=V.str (JO "leaf"))=decide (ko k= .leaf) from eP (ko k) .leaf];have ae:∀(ah:JP Bk) (s':Rs),ko k≠ .leaf->y2 k (if ko k= .tilde then s else RA.fl s).bs.reverse ah->s'=kh s k->s'.bs.reverse=ah->s'.last=ko k->
     (ko k= .tilde->s'.leaf=s.leaf/\nc k= .int ((s'.far:Nat):Int))->(s'.last= .near\/s'.last= .rp->∃ b r,s'.bs=b::r/\b.a≠none)->s'.bs≠[]->(∀ b∈s'.bs,b.nots<=n+1)->s'.bs.length<=n+2->
     wu C CB [.ref p,.str (dQ (ko k)),vm] H1 (λ_ H'=>Q .non H') E:=λah s' hk ho es aw el ef sm ne nt ln=>by
    refine⟨p,B,k,_,ah,vm,_,vl,vf,rfl,ai,ho,λH2 t2 af=>?_⟩;refine q vl (if ko k= .tilde then vm else vf) H2 (t1.trans t2) ?_;rw[<-es];refine⟨by rw[aw,el];exact af,λh=>?_,λh=>?_,sm,ne,nt,ln⟩
    ·rw[el] at h;rcases h with h|h
     ·exact absurd h hk
     ·have lt:=ok.lf (.inl (by
       rw[h] at l4;revert l4;cases s.last<;>first|(intro _;rfl)|(intro z;exact absurd z (by decide))));obtain⟨l,e1,e2⟩:=lt;exact⟨l,by rw[(ef h).1];exact e1,(e2.tups t1).tups t2⟩
    ·rw[el] at h;rw[J1 h];have:=(ef h).2;rw[this] at ag;cases ag;rfl
   cases k with
   |none=>
    rw[JQ (by intro z;cases z)];exact cj ⟨_,rfl,p,ab,_,rfl,r1.hp,jm lV _ _ _ _,_,rfl,_,rfl,ae (RA.fl s).bs.reverse {RA.fl s with last:= .stop} (by intro z;cases z) rfl rfl rfl rfl (λz=>by cases z) (λz=>by rcases z with z|z<;>cases z) (by show(RA.fl s).bs≠[];rw[J];intro z;cases z) (λb hb=>Kz (I b hb)) (Kz aa)⟩
   |some k=>
    cases k with
    |leaf l=>
     rw[JS (show ko (some (.leaf l))= .leaf from rfl)];have aq:Rd B C CB H1 p (U.reverse++[b1]) (.str (dQ s.last)) vl vf:=by
      have:(if ko (some (.leaf l))= .tilde then s else RA.fl s).bs.reverse=U.reverse++[b1]:=by
       rw[if_neg (by intro z;cases z),J,Ke]
      rw[<-this];exact ai
     refine cg ⟨_,rfl,p,ab,_,rfl,r1.hp,jm DX _ _ _ _,_,rfl,p,B,U.reverse,b1,s.last,vm,vl,vf,l,rfl,aq,Kj (I b1 (by rw[J];simp)) hn,ag,λhk=>?_,λhk H2 t2 af=>?_⟩
     ·obtain⟨l0,e0,p0⟩:=ok.lf (.inr hk);refine⟨l0,s.far,p0.tups t1,ok.fr hk,λH2 t2 af=>q vl vf H2 (t1.trans t2) ?_⟩;have fe:RA.fl s=s:=RA.kR (by rw[hk];intro z;cases z);rw[fe] at J;have es:RA.fA s (.leaf l)={s with bs:=takeIn (.near l0 l s.far) b1::U,last:= .near}:=by
       show(if s.last= .tilde then _ else _)=_;rw[J1 hk,e0,J];rfl
      show qz B C CB H2 p (RA.fA s (.leaf l)) (n+1) vl vf;rw[es];refine⟨by show Rd _ _ _ _ _ (takeIn _ b1::U).reverse _ _ _;rw[Ke];exact af,(λz=>by rcases z with z|z<;>cases z),(λz=>by cases z),λ_=>⟨_,_,rfl,(uP _ _).2⟩,(by intro z;cases z),λb hb=>?_,?_⟩
      ·rcases List.mem_cons.mp hb with rfl|hb
       ·exact Ks _
       ·exact Kz (ok.nt b (by rw[J];exact J0 _ hb))
      ·have:=ok.ln;rw[J] at this;show(_::U).length<=_;rw[JV] at this ⊢;omega
     ·refine q vm vf H2 (t1.trans t2) ?_;have es:RA.fA s (.leaf l)={RA.fl s with leaf:=some l,last:= .leaf}:=by
       show(if s.last= .tilde then _ else _)=_;rw[if_neg hk]
      show qz B C CB H2 p (RA.fA s (.leaf l)) (n+1) vm vf;rw[es];refine⟨by show Rd _ _ _ _ _ (RA.fl s).bs.reverse _ _ _;rw[J,Ke];exact af,λ_=>⟨l,rfl,ag.tups t2⟩,(λz=>by cases z),(λz=>by rcases z with z|z<;>cases z),by show(RA.fl s).bs≠[];rw[J];exact List.cons_ne_nil _ _,λb hb=>Kz (I b hb),Kz aa⟩
    |near m=>
     rw[JQ (by intro z;cases z)];exact cj ⟨_,rfl,p,ab,_,rfl,r1.hp,jm lV _ _ _ _,_,rfl,_,rfl,ae s.bs.reverse (RA.fA s (.near m)) (by intro z;cases z) rfl rfl rfl rfl (λ_=>⟨rfl,rfl⟩) (λz=>by rcases z with z|z<;>cases z) ok.ne (λb hb=>Kz (ok.nt b hb)) (Kz ok.ln)⟩
    |no=>
     have es:RA.fA s .no={RA.fl s with bs:={b1 with nots:=b1.nots+1}::U,last:= .no}:=by
      show({RA.fl s with bs:=RA.ir _ (RA.fl s).bs,last:= .no}:Rs)=_;rw[J];rfl
     rw[JQ (by intro z;cases z)];refine cj ⟨_,rfl,p,ab,_,rfl,r1.hp,jm lV _ _ _ _,_,rfl,_,rfl,ae (U.reverse++[{b1 with nots:=b1.nots+1}]) (RA.fA s .no) (by intro z;cases z) ⟨U.reverse,b1,by rw[if_neg (by intro z;cases z),J,Ke],rfl⟩ rfl (by rw[es];exact Ke) rfl (λz=>by cases z) (λz=>by rcases z with z|z<;>cases z) (by rw[es];intro z;cases z) (λb hb=>?_) (by rw[es];show(_::U).length<=_;rw[J] at aa;rw[JV] at aa ⊢;omega)⟩;rw[es] at hb;rcases List.mem_cons.mp hb with rfl|hb
     ·have:=I b1 (by rw[J];simp)
      show b1.nots+1<=n+1;omega
     ·exact Kz (I b (by rw[J];exact J0 _ hb))
    |and=>
     rw[JQ (by intro z;cases z)];exact cj ⟨_,rfl,p,ab,_,rfl,r1.hp,jm lV _ _ _ _,_,rfl,_,rfl,ae (RA.fl s).bs.reverse (RA.fA s .and) (by intro z;cases z) rfl rfl rfl rfl (λz=>by cases z) (λz=>by rcases z with z|z<;>cases z) (by show(RA.fl s).bs≠[];rw[J];intro z;cases z) (λb hb=>Kz (I b hb)) (Kz aa)⟩
    |or=>
     have es:RA.fA s .or={RA.fl s with bs:=RA.choose b1::U,last:= .or}:=by
      show({RA.fl s with bs:=RA.ir _ (RA.fl s).bs,last:= .or}:Rs)=_;rw[J];rfl
     rw[JQ (by intro z;cases z)];refine cj ⟨_,rfl,p,ab,_,rfl,r1.hp,jm lV _ _ _ _,_,rfl,_,rfl,ae (U.reverse++[RA.choose b1]) (RA.fA s .or) (by intro z;cases z) ⟨U.reverse,b1,by rw[if_neg (by intro z;cases z),J,Ke],ao (y6 l4 (.inl rfl)),rfl⟩ rfl (by rw[es];exact Ke) rfl (λz=>by cases z) (λz=>by rcases z with z|z<;>cases z) (by rw[es];intro z;cases z) (λb hb=>?_) (by rw[es];show(_::U).length<=_;rw[J] at aa;rw[JV] at aa ⊢;omega)⟩;rw[es] at hb;rcases List.mem_cons.mp hb with rfl|hb
     ·have:=I b1 (by rw[J];simp)
      show b1.nots<=n+1;omega
     ·exact Kz (I b (by rw[J];exact J0 _ hb))
    |lp=>
     rw[JQ (by intro z;cases z)];refine cj ⟨_,rfl,p,ab,_,rfl,r1.hp,jm lV _ _ _ _,_,rfl,_,rfl,ae ((RA.fl s).bs.reverse++[⟨0,none,none⟩]) (RA.fA s .lp) (by intro z;cases z) ⟨rfl,by rw[if_neg (by intro z;cases z),K8];omega⟩ rfl (show((⟨0,none,none⟩:Bk)::(RA.fl s).bs).reverse=_ from Ke) rfl (λz=>by cases z) (λz=>by rcases z with z|z<;>cases z) (by intro z;cases z) (λb hb=>?_) (by show(_::(RA.fl s).bs).length<=_;rw[JV];omega)⟩;rcases List.mem_cons.mp (show b∈(⟨0,none,none⟩:Bk)::(RA.fl s).bs from hb) with rfl|hb
     ·exact Ks _
     ·exact Kz (I b hb)
    |rp=>
     have a1:=ao (y6 l4 (.inr rfl));obtain⟨b2,r2,ax⟩:∃ b r,U=b::r:=by
      cases e:U with
      |nil=>have h:=l2 rfl;rw[<-RA.pZ,J,e] at h;exact absurd rfl h
      |cons b r=>exact⟨b,r,rfl⟩
     subst ax;obtain⟨t,ht⟩:∃ t,RA.whole b1=some t:=by
      obtain⟨n1,x1,o1⟩:=b1;cases x1 with
      |none=>exact absurd rfl a1
      |some y=>
       cases o1 with
       |none=>exact⟨y,rfl⟩
       |some z=>exact⟨.either z y,rfl⟩
     have es:RA.fA s .rp={RA.fl s with bs:=takeIn t b2::r2,last:= .rp}:=by
      show({RA.fl s with bs:=(match (RA.fl s).bs with|b::r=>RA.ir (takeIn ((RA.whole b).getD (.leaf (.word [])))) r|[]=>[]),last:= .rp}:Rs)=_;rw[J];show({RA.fl s with bs:=RA.ir (takeIn ((RA.whole b1).getD (.leaf (.word [])))) (b2::r2),last:= .rp}:Rs)=_;rw[ht];rfl
     rw[JQ (by intro z;cases z)];refine cj ⟨_,rfl,p,ab,_,rfl,r1.hp,jm lV _ _ _ _,_,rfl,_,rfl,ae (r2.reverse++[takeIn t b2]) (RA.fA s .rp) (by intro z;cases z) ⟨r2.reverse,b2,b1,t,by rw[if_neg (by intro z;cases z),J,Ke,Ke],a1,Kj (I b2 (by rw[J];simp)) hn,ht,rfl⟩ rfl (by rw[es];exact Ke) rfl (λz=>by cases z) (λ_=>⟨takeIn t b2,r2,by rw[es],(uP _ _).2⟩) (by rw[es];intro z;cases z) (λb hb=>?_) (by rw[es];show(_::r2).length<=_;rw[J] at aa;rw[JV,JV] at aa;rw[JV];omega)⟩;rw[es] at hb;rcases List.mem_cons.mp hb with rfl|hb
     ·exact Ks _
     ·exact Kz (I b (by rw[J];simp[hb]))
noncomputable def yR(C CB:JR):Sp:=λvs H Q _=>∃(p:JR) (B:Hp) (b:Bk) (ls vl vf:V) (t:Tr),vs=[.ref p]/\Rd B C CB H p [b] ls vl vf/\b.a≠none/\RA.whole b=some t/\∀ v H',bY B H'->cD false H' v (dT t)->Q v H'
theorem Iy:da ["self"] ["self"] (cG (inClass fJ 5)):=⟨rfl,rfl,rfl,dkq,rfl,dkq,dkq⟩
seal cH PS PE PT PA PG PI cT cP in
theorem BN{f:JR}{gd:J2}(F:ej K "whole" "Reader.whole" (inClass fJ 5) f gd)(R:mi K C)(BM:lr K CB fi fd ft fc fw di dd dt dc dw):bX P w K mg base b7 3 f gd ["self"] (yR C CB):=by
 have GW:bX P w K mg base b7 2 fw dw ["self"] (uL CB):=AY BM
 have bW:=BM.W.binds (ps:=["self"]) λ_ _ _ _ _ _ us hl=>match us,hl with|[_],_=>rfl
 refine F.ok Iy (λvs H Q E h=>?_) (λcdv A outer s0 H vs Q E hr h=>?_)
 ·obtain⟨p,B,b,ls,vl,vf,t,rfl,_⟩:=h;rfl
 ·obtain⟨p,B,b,ls,vl,vf,t,rfl,⟨dx,a,qs,r⟩,ha,hw,q⟩:=h;obtain⟨qr,x,rfl,hx,nx⟩:=fV.last (bs:=[]) r;have:qr=[]:=by
   have:=sr r.pr;rw[JU] at this;simpa using this
  subst this;obtain⟨dq,va,vo,U,_,_⟩:=id hx;refine⟨_,b5 (cy (nO (cK fO (df (pv 0) rfl) bZ (λ_ _=>rfl)) BM.c.cl BM.mW GW hr bW .nil cz)),?_⟩;refine⟨_,rfl,p,C,dx,_,_,rfl,r.hp,R.cl,R.nb,jb _ _ _ _,a,_,_,_,rfl,rfl,ck.of r.ha,cJ (j:=0) rfl,x,dq,_,rfl,U,lg Ab _ _ _,x,gD b,rfl,hx,λv H2 b2 aa J=>?_⟩;rw[wc ha] at J;have I:(RA.choose b).o=some t:=hw;have:(gD (RA.choose b)).o=dT t:=by show oD (RA.choose b).o=_;rw[I];rfl
  rw[this] at J;exact q v H2 (λc u e=>b2 c u (dI e nx) (r.sB _ _ e)) J
end
open RA (sl dj fq Lf Tr Tk wr brk nb)
noncomputable def gC(c:Nat):KS:=dA c||decide (c∈[32,34,40,41,42,126])
theorem mM{w:JP Nat}(h:w.all dA=true):∀ c∈w,gC c=true:=λc J=>by unfold gC;rw[List.all_eq_true.mp h c J];rfl
theorem Hv:∀{ls:JP (JP Nat)},(∀ w∈ls,gW w)->∀ c∈jn ls,gC c=true:=λh c J=>by
 have:=List.all_eq_true.mp (oS h).1 c J;unfold fU at this;rw[OJ,MR] at this;rcases this with rfl|h
 ·decide +kernel
 ·unfold gC;rw[h];rfl
theorem Cm{k:Tk}(hk:gK k):∀ c∈txt k,gC c=true:=by
 have mk:∀{l:JP Nat},(∀ c∈l,gC c=true)->∀ c∈34::(l++[34]),gC c=true:=λ{l} h c hc=>by
  rcases List.mem_cons.mp hc with rfl|hc
  ·decide +kernel
  ·rcases List.mem_append.mp hc with hc|hc
   ·exact h c hc
   ·rw[List.mem_singleton.mp hc];decide +kernel
 cases k with
 |leaf l=>
  cases l with
  |word w=>
   have g:gW w:=hk
   show ∀ c∈(if isJ (sT w) then 34::(w++[34]) else w),_;split
   ·exact mk (mM g.2)
   ·exact mM g.2
  |start w=>
   have g:gW w:=hk;intro c hc;rcases List.mem_append.mp (show c∈w++[42] from hc) with hc|hc
   ·exact mM g.2 c hc
   ·rw[List.mem_singleton.mp hc];decide +kernel
  |row ws=>
   have g:_/\_/\∀ w∈ws,gW w:=hk;exact mk (Hv g.2.2)
 |near n=>
  intro c hc;rcases List.mem_cons.mp (show c∈126::dE (n:Int) from hc) with rfl|hc
  ·decide +kernel
  ·exact mM (qB n (by have:n<=20:=hk;omega)).1 c hc
 |no=>show ∀ c∈[110,111,116],_;decide +kernel
 |and=>show ∀ c∈[97,110,100],_;decide +kernel
 |or=>show ∀ c∈[111,114],_;decide +kernel
 |lp=>show ∀ c∈[40],_;decide +kernel
 |rp=>show ∀ c∈[41],_;decide +kernel
theorem yT:∀(r:JP Tk) (k:Tk),(∀ k∈r,gK k)->∀ c∈tl k r,gC c=true
 |[],_,_,c,J=>nomatch J
 |k'::r,k,h,c,J=>by
  rcases List.mem_append.mp (show c∈cL k k'++(txt k'++tl k' r) from J) with q|q
  ·unfold cL at q;split at q
   ·cases q
   ·rw[List.mem_singleton.mp q];decide +kernel
  ·rcases List.mem_append.mp q with q|q
   ·exact Cm (h k' (by simp)) c q
   ·exact yT r k' (λk hk=>h k (J0 _ hk)) c q
theorem sO{c:Nat}(h:gC c=true):c<128/\iC c=true/\K01.lo c=c:=by
 have J:c<128:=by
  unfold gC dA at h;simp at h;omega
 have:∀ c<128,gC c=true->iC c=true/\K01.lo c=c:=dkq;exact⟨J,this c J h⟩
theorem ua{L:JP Nat}(h:∀ c∈L,gC c=true):Txt.lower (sT L)=sT L:=by
 rw[lower_ascii λc J=>(sO (h c (by simpa using J))).1];show(⟨L.toArray.map K01.lo⟩:Str)=_
 congr 1
 apply Array.toList_inj.mp;rw[Array.toList_map];exact(M7 λc J=>(sO (h c (by simpa using J))).2.2).trans (OF _)
theorem BO{L:JP Nat}(h:∀ c∈L,gC c=true):L.all iC=true:=List.all_eq_true.mpr λc J=>(sO (h c J)).2.1
theorem zB:∀{ls:JP (JP Nat)},(∀ w∈ls,w.length<=6)->(jn ls).length<=7*ls.length
 |[],_=>JY _
 |[w],h=>by have:=h w (by simp);show w.length<=7*1;omega
 |w::y::r,h=>by
  have h1:=h w (by simp)
  have h2:=zB (ls:=y::r) λz J=>h z (J0 _ J)
  show(w++32::jn (y::r)).length<=7*((y::r).length+1);rw[JU,JV];omega
theorem wY{z:Str}(h:Wm z):(codes z).length<=6:=by
 have l:z.length=(codes z).length:=(str_len z).symm;rw[<-l];exact h.1
theorem xt:∀ n:Nat,n<21->(dE (n:Int)).length<=2:=dkq
theorem pH{a:At}(h:gp a.kn=true)(g:Gd a):a.lin.length<=58:=by
 cases a with
 |word z=>
  have:=wY (show Wm z from g)
  show(if isJ z then 34::(codes z++[34]) else codes z).length<=58;split
  ·rw[JV,JU];show _+1+1<=58;omega
  ·omega
 |start z=>
  have:=wY (show Wm z from g)
  show(codes z++[42]).length<=58;rw[JU];show _+1<=58;omega
 |row zs=>
  rw[<-oa (a:= .row zs) rfl];have:=zB (ls:=zs.map codes) λw hw=>by
   obtain⟨z,J,rfl⟩:=List.mem_map.mp hw;exact wY (g.2.2 z J)
  rw[JX] at this;show(34::(jn (zs.map codes)++[34])).length<=58;rw[JV,JU];show _+1+1<=58;have:=g.2.1;omega
 |near _ _ _=>cases h
 |both _ _=>cases h
 |either _ _=>cases h
 |no _=>cases h
theorem lH:∀{t:At},Gd t->t.lin.length<=60*t.many
 |.word z,h=>Kj (pH (a:= .word z) rfl h) (J9 rfl)
 |.start z,h=>Kj (pH (a:= .start z) rfl h) (J9 rfl)
 |.row z,h=>Kj (pH (a:= .row z) rfl h) (J9 rfl)
 |.near a b n,h=>by
  have h1:=pH h.1.1 h.2.2.1
  have h2:=pH h.1.2 h.2.2.2
  have U:=xt n.toNat (by have:=h.2.1;omega);rw[Ml h.2.1.1] at U;show(a.lin++([32,126]++(dE n++(32::b.lin)))).length<=60*(1+(a.many+b.many));rw[At.lf_many h.1.1,At.lf_many h.1.2];simp only[JU,JV,Mc];omega
 |.both a b,h=>by
  have h1:=lH h.1
  have h2:=lH h.2
  have b1:=(lh (eI a.kn) a.lin).2
  have J:=(lh (eF b.kn) b.lin).2
  show(eL (eI a.kn) a.lin++([32,97,110,100,32]++eL (eF b.kn) b.lin)).length<=60*(1+(a.many+b.many));simp only[JU,JV,Mc];omega
 |.either a b,h=>by
  have h1:=lH h.1
  have h2:=lH h.2
  have J:=(lh (eI b.kn) b.lin).2
  show(a.lin++([32,111,114,32]++eL (eI b.kn) b.lin)).length<=60*(1+(a.many+b.many));simp only[JU,JV,Mc];omega
 |.no a,h=>by
  have h1:=lH (t:=a) h
  have J:=(lh (eF a.kn) a.lin).2
  show([110,111,116,32]++eL (eF a.kn) a.lin).length<=60*(1+a.many);simp only[JU,JV,Mc];omega
theorem j8:∀{t:At},Gd t->Fits t
 |.word _,_=>trivial
 |.start _,_=>trivial
 |.row zs,h=>by
  show(zs.map (·.length)).sum+zs.length*1<=16777216
  have:∀ l:JP Str,(∀ z∈l,Wm z)->(l.map (·.length)).sum<=6*l.length:=λl=>by
   induction l with
   |nil=>intro _;exact JY _
   |cons z l J=>
    intro h;have h1:=(h z (by simp)).1;have h2:=J λy U=>h y (J0 _ U)
    rw[KU,NC,JV];omega
  have:=this zs h.2.2
  have:=h.2.1;omega
 |.near a b n,h=>⟨j8 h.2.2.1,j8 h.2.2.2,by
   have h1:n.natAbs<=20:=by have:=h.2.1;omega
   have h2:n.natAbs<2 ^ 1920:=N5 h1 (Km (show 20<2 ^ 5 by decide) (LK (by decide) (by decide)));by_cases e:n.natAbs=0
   ·rw[e];show Nat.log2 0<1920;rw[Nat.log2_zero];decide
   ·exact(Nat.log2_lt e).mpr h2⟩
 |.both a b,h=>⟨j8 h.1,j8 h.2⟩
 |.either a b,h=>⟨j8 h.1,j8 h.2⟩
 |.no a,h=>j8 (t:=a) h
theorem Gx{t:At}(h:Gd t):∀ c∈t.lin,gC c=true:=by
 rw[kg h];exact yT _ _ (jJ h)
section
variable {P : Ka} {w : Ku} {K : J7} {mg : Str -> JW JT} {base : KP}
theorem E5:Lp "ord"=some (.builtin "ord"):=dkq
noncomputable def zS:Sp:=λvs H Q _=>∃ c:Nat,vs=[.str ⟨#[c]⟩]/\Q (.bl (iC c)) H
theorem Jv:da ["sign"] ["sign"] (cG qf):=⟨rfl,rfl,rfl,dkq,rfl,dkq,dkq⟩
theorem Bd(c d:Nat):decide (([c]:JP Nat) < [d])=decide (c<d):=by
 by_cases h:c<d
 ·rw[JS h];exact JS (List.Lex.rel h)
 ·rw[JQ h];exact JQ λz=>by
   cases z with
   |rel q=>exact h q
   |cons q=>cases q
seal cH PS PE PT PA PG PI cT cP in
theorem Hf{f:JR}{fd:J2}(D:Df K mg "is_text_sign" qf f fd)(T:Txt mg):bX P w K mg base b7 1 f fd ["sign"] zS:=by
 obtain⟨tp,cp⟩:=T.cPer;refine D.F.ok Jv (λvs H Q E h=>?_) (λcdv A outer s H vs Q E hr h=>?_)
 ·obtain⟨c,rfl,_⟩:=h;rfl
 ·obtain⟨c,rfl,k⟩:=h;refine⟨_,b5 (cy (zK (ik cU (pv 0) b8 (cC _)) (sx (zQ (Dh zC zC b8 (pv 0) b8)
   (sx (ik kN (dF HU rfl T.ord E5 (bU (pv 0) bV)) (fH (v:= .int 37) rfl cp ⟨_,rfl⟩) (cC _))))))),?_⟩;refine⟨_,rfl,rfl,_,rfl,?_⟩;have U:decide (V.str ⟨#[c]⟩=V.str (JO "\n"))=decide (c=10):=gQ c 10;rw[U];unfold iC at k;by_cases J:c=10
  ·rw[JS J] at k ⊢;exact cg k
  ·rw[JQ J] at k ⊢;refine cj ?_;refine⟨_,rfl,_,_,rfl,rfl,_,rfl,?_⟩;have ab:(!decide ((⟨#[c]⟩:Str).cps.toList<(JO " ").cps.toList))=decide (32<=c):=by
    show(!decide (([c]:JP Nat) < [32]))=_;rw[Bd];by_cases h:c<32
    ·rw[JS h,JQ (by(clear J U cp;omega))];rfl
    ·rw[JQ h,JS (by(clear J U cp;omega))];rfl
   rw[ab];by_cases I:32<=c
   ·rw[JS I] at k ⊢;refine cg ⟨_,_,rfl,rfl,_,rfl,?_⟩;have ae:(!decide ((JO "~").cps.toList<(⟨#[c]⟩:Str).cps.toList))=decide (c<=126):=by
     show(!decide (([126]:JP Nat) < [c]))=_;rw[Bd];by_cases h:126<c
     ·rw[JS h,JQ (by(clear I ab J U cp;omega))];rfl
     ·rw[JQ h,JS (by(clear I ab J U cp;omega))];rfl
    rw[ae];by_cases aa:c<=126
    ·rw[JS aa] at k ⊢;refine cg ⟨_,rfl,_,rfl,rfl,rfl,?_⟩;have af:decide (V.int (((⟨#[c]⟩:Str).cps.getD 0 0:Nat):Int)=V.int 37)=decide (c=37):=by
      rw[vL];by_cases h:c=37
      ·subst h;rfl
      ·rw[JQ h];exact beq_eq_false_iff_ne.mpr λz=>h (by have z':((c:Nat):Int)=37:=z;(clear z h aa ae I ab J U cp;omega))
     rw[af];exact k
    ·rw[JQ aa] at k ⊢;exact cj k
   ·rw[JQ I] at k ⊢;exact cj ⟨_,rfl,cj k⟩
noncomputable def xn:Sp:=λvs H Q _=>∃ L:JP Nat,vs=[.str (sT L)]/\L.length<=2000/\L.all iC=true/\∀ H',bY H H'->Q (.bl true) H'
theorem EV:da ["thing"] ["thing"] (cG nU):=⟨rfl,rfl,rfl,dkq,rfl,dkq,dkq⟩
seal cH PS PE PT PA PG PI cT cP in
theorem BX{f fs:JR}{fd fds:J2}(D:Df K mg "is_text" nU f fd)(DS:Df K mg "is_text_sign" qf fs fds)(T:Txt mg):bX P w K mg base b7 2 f fd ["thing"] xn:=by
 obtain⟨tc,U⟩:=T.cText;have I:bX P w K mg base b7 1 fs fds ["sign"] zS:=Hf DS T;have bS:=dY (p:="sign") DS.F λ_ _ _ _ _ _ _=>rfl
 refine D.F.ok EV (λvs H Q E h=>?_) (λcdv A outer s H vs Q E hr h=>?_)
 ·obtain⟨L,rfl,_⟩:=h;rfl
 ·obtain⟨L,rfl,hlen,hok,k⟩:=h;have al:(sT L).length=L.length:=du L;refine⟨_,b9 (cM (PW.pt (gn (gF (fZ (dF jE rfl T.isi iP (bU (pv 0) (bU (lx (v:= .ty "str") rfl T.str mm rfl) bV)))))
    (ia (cx iJ (dF ip rfl T.len e8 (bU (pv 0) bV)) (fH (v:= .int 2000) rfl U ⟨_,rfl⟩) (cC _))))) (b5 (cy iq)) cY)
   (b5 (cy (dF (vt rfl) rfl T.all uM (bU (jA (own:=1) (caps:=[]) (N:=["sign"]) (N0:=["thing"]) (sc0:=cG nU) rfl (ug (pv 0))
    (λ_ _ _=>eX (i:=0) uy rfl (Kh rfl)) (λ_ _ _=>jj)
    (λ_ _ _=>cQ I hr rfl DS.m DS.F.kp bS .nil cz (bU (pv 0) bV)) (iV (by decide)) rfl rfl
    dkq rfl dkq dkq rfl dkq) bV)))),?_⟩;refine⟨_,rfl,.str (sT L),.ty "str",_,_,rfl,.str _,.inl ⟨_,rfl,uq (n:="str") (H:=H) (.str (sT L))⟩,_,rfl,?_⟩;refine cj ?_;refine⟨_,rfl,sT L,rfl,dC (by rw[al];omega),_,_,rfl,rfl,_,rfl,?_⟩;rw[JQ (by rw[al];omega)];refine cj ?_;refine⟨_,rfl,sT L,rfl,v9 (x:=sT L) (λi ys H'=>bY H H'/\ys=((L.take i).map λc=>V.bl (iC c))) (by have:(sT L).cps.size=(sT L).length:=rfl;rw[Kv,this,al];omega) ⟨bY.refl H,rfl⟩ ?_ ?_⟩
  ·rintro i c ys H' N hc ⟨sm,rfl⟩ hN;refine g1 ?_;refine⟨_,rfl,c,rfl,hN _ _ ⟨sm,?_⟩⟩;have J:L[i]? =some c:=by simpa using hc
   rw[Lk,J,J5];rfl
  ·rintro ys H' ⟨sm,rfl⟩ _ p hp;refine⟨p,L.map iC,rfl,ck.of (by rw[b6,Lq (by simp)];simp),?_⟩;have e:(L.map iC).all id=true:=by rw[OE];exact hok
   rw[e];exact k _ (bY.upd sm hp)
noncomputable def zo:Sp:=λvs H Q _=>∃ L:JP Nat,vs=[.str (sT L)]/\L.length<=2000/\L.all iC=true/\∀ H',bY H H'->Q (.str (sT L)) H'
theorem BR:da ["thing"] ["thing"] (cG qO):=⟨rfl,rfl,rfl,dkq,rfl,dkq,dkq⟩
seal cH PS PE PT PA PG PI cT cP in
theorem Dt{f ft:JR}{fd fdt:J2}(D:Df K mg "need_text" qO f fd)(DT:Df K mg "is_text" nU ft fdt)(GT:bX P w K mg base b7 2 ft fdt ["thing"] xn):bX P w K mg base b7 3 f fd ["thing"] zo:=by
 have J:=dY (p:="thing") DT.F λ_ _ _ _ _ _ _=>rfl
 refine D.F.ok BR (λvs H Q E h=>?_) (λcdv A outer s H vs Q E U h=>?_)
 ·obtain⟨L,rfl,_⟩:=h;rfl
 ·obtain⟨L,rfl,hlen,hok,k⟩:=h;refine⟨_,b9 (cM (gF (fZ (cQ GT U rfl DT.m DT.F.kp J .nil cz (bU (pv 0) bV)))) pK cY) (b5 (cy (pv 0))),?_⟩;exact⟨_,rfl,L,rfl,hlen,hok,λH1 s1=>⟨_,rfl,cj ⟨_,rfl,k H1 s1⟩⟩⟩
end
theorem yy:∀(l:JP Tk) (s s':Rs),RA.rn s l=some s'->(l.map some).foldl kh s=s'/\∀ i k,l[i]? =some k->RA.lets (((l.take i).map some).foldl kh s) (RA.kd k)=true
 |[],s,s',h=>⟨by injection h,λi k hk=>by cases hk⟩
 |q::l,s,s',h=>by
  have h':(if RA.lets s (RA.kd q) then RA.rn (RA.fA s q) l else none)=some s':=h;split at h'
  ·rename_i U;have J:=yy l _ _ h';refine⟨J.1,λi k hk=>?_⟩;cases i with
   |zero=>
    have:q=k:=by injection hk
    rw[<-this];exact U
   |succ i=>exact J.2 i k hk
  ·cases h'
noncomputable def kinds(l:JP Tk):JP (JW Tk):=l.map some++[none]
noncomputable def uS:Rs:=⟨[⟨0,none,none⟩],.lp,none,0⟩
noncomputable def iY(l:JP Tk)(i:Nat):Rs:=((kinds l).take i).foldl kh uS
theorem Ae{l:JP Tk}{i:Nat}{k:JW Tk}(h:(kinds l)[i]? =some k):iY l (i+1)=kh (iY l i) k:=by
 unfold iY;rw[Lk,h,List.foldl_append];rfl
theorem Ca{l:JP Tk}{s':Rs}(h:RA.rn uS l=some s')(hs:RA.lets s' .stop=true):(∀ i k,(kinds l)[i]? =some k->RA.lets (iY l i) (ko k)=true)/\iY l (l.length+1)=kh s' none:=by
 obtain⟨f1,f2⟩:=yy l _ _ h;have tk:∀ i,i<=l.length->iY l i=((l.take i).map some).foldl kh uS:=λi hi=>by
  unfold iY kinds;rw[List.take_append_of_le_length (by rw[JX];exact hi),List.map_take]
 have te:iY l l.length=s':=by rw[tk _ (JY _),Lq (JY _)];exact f1
 refine⟨λi k hk=>?_,?_⟩
 ·rcases Nat.lt_or_ge i l.length with hi|hi
  ·unfold kinds at hk;rw[List.getElem?_append_left (by rw[JX];exact hi),List.getElem?_map] at hk;cases e:l[i]? with
   |none=>rw[e] at hk;cases hk
   |some q=>
    rw[e] at hk;have:some q=k:=Kg hk;rw[<-this,tk i (M3 hi)];exact f2 i q e
  ·unfold kinds at hk;rw[List.getElem?_append_right (by rw[JX];exact hi),JX] at hk;cases e:i-l.length with
   |zero=>
    rw[e] at hk;have:none=k:=Kg hk;have ei:i=l.length:=by omega
    rw[<-this,ei,te];exact hs
   |succ m=>rw[e] at hk;cases hk
 ·rw[Ae (k:=none) (by unfold kinds;rw[List.getElem?_append_right (by rw[JX];exact JY _),JX,Nat.sub_self];rfl),te]
theorem vH{α β:Type}{F:α->β->Prop}:∀{l:JP α} {m:JP β},Lo F l m->∀{i:Nat} {a:α},l[i]? =some a->∃ b,m[i]? =some b/\F a b
 |_,_,.nil,i,a,h=>by cases h
 |_,_,.cons h r,0,a,e=>⟨_,rfl,by have:_=a:=Kg e;rw[<-this];exact h⟩
 |_,_,.cons h r,i+1,a,e=>vH r e
theorem wZ{k:Tk}(h:gK k):1<=(txt k).length:=by
 cases k with
 |leaf l=>
  cases l with
  |word w=>
   have g:gW w:=h
   show 1<=(if isJ (sT w) then 34::(w++[34]) else w).length;split
   ·rw[JV];omega
   ·exact List.length_pos_iff.mpr g.1
  |start w=>show 1<=(w++[42]).length;rw[JU];exact ON 1 _
  |row ws=>show 1<=(34::(jn ws++[34])).length;rw[JV];omega
 |near n=>show 1<=(126::dE (n:Int)).length;rw[JV];omega
 |no=>decide
 |and=>decide
 |or=>decide
 |lp=>decide
 |rp=>decide
theorem oZ:∀(r:JP Tk) (k:Tk),(∀ k∈r,gK k)->r.length<=(tl k r).length
 |[],_,_=>JY _
 |k'::r,k,h=>by
  have h1:=wZ (h k' (by simp))
  have h2:=oZ r k' λk hk=>h k (J0 _ hk)
  show r.length+1<=(cL k k'++(txt k'++tl k' r)).length;rw[JU,JU];omega
theorem ED{b:Bk}{t:Tr}(h:RA.whole b=some t):b.a≠none:=by
 obtain⟨n,a,o⟩:=b;cases a with
 |some x=>intro z;cases z
 |none=>cases o<;>cases h
section
variable {C CB : JR}
theorem Rd.base {B H1 H2:Hp}{p:JR}{bs:JP Bk}{ls vl vf:V}(r:Rd B C CB H1 p bs ls vl vf)(s:bY H1 H2):∃ B',Rd B' C CB H2 p bs ls vl vf/\bY B B'/\(∀ b u,H1 b=none->H2 b=some u->B' b=some u)/\TT H2 B':=by
 obtain⟨dx,a,qs,r⟩:=r;have r2:=r.same s;have J:∀ b∈qs,∃ fs dx,H1 b=some (.ins CB dx fs):=λb hb=>by
  obtain⟨x,U,_⟩:=sL r.pr b hb;obtain⟨dx,va,vo,e,_⟩:=U;exact⟨_,_,e⟩
 refine⟨λb=>if b=p\/b=a\/b∈qs then none else H2 b,⟨dx,a,qs,?_⟩,?_,?_,?_⟩
 ·refine⟨λb u e=>?_,J1 (.inl rfl),J1 (.inr (.inl rfl)),r2.hp,r2.ha,r2.nd,kH r2.pr λq I b hb=>⟨hb.1,J1 (.inr (.inr I))⟩⟩;split at e
  ·cases e
  ·exact e
 ·intro b u e;have n:¬ (b=p\/b=a\/b∈qs):=λz=>by
   rcases z with z|z|z
   ·rw[z,r.np] at e;cases e
   ·rw[z,r.na] at e;cases e
   ·obtain⟨x,_,U⟩:=sL r.pr b z;rw[U] at e;cases e
  dsimp only;rw[if_neg n];exact s _ _ (r.sB _ _ e)
 ·intro b u h1 h2;have n:¬ (b=p\/b=a\/b∈qs):=λz=>by
   rcases z with z|z|z
   ·rw[z,r.hp] at h1;cases h1
   ·rw[z,r.ha] at h1;cases h1
   ·obtain⟨fs,dx,e⟩:=J b z;rw[e] at h1;cases h1
  dsimp only;rw[if_neg n];exact h2
 ·intro b xs h2;have n:¬ (b=p\/b=a\/b∈qs):=λz=>by
   rcases z with z|z|z
   ·rw[z,r2.hp] at h2;cases h2
   ·rw[z,r2.ha] at h2;cases h2
   ·obtain⟨fs,dx,e⟩:=J b z;rw[s _ _ e] at h2;cases h2
  dsimp only;rw[if_neg n];exact h2
end
structure xS (K : J7) (C fi fl fe fo fr fw : JR) (di dl de do' dr dw : J2) : Prop where
 c : mi K C
 I : ej K "__init__" "Reader.__init__" (inClass fJ 0) fi di
 mI : L2.Mk K C fi
 L : ej K "lets" "Reader.lets" (inClass fJ 1) fl dl
 mL : Meth K C "lets" fl
 E : ej K "read_leaf" "Reader.read_leaf" (inClass fJ 2) fe de
 mE : Meth K C "read_leaf" fe
 O : ej K "read_other" "Reader.read_other" (inClass fJ 3) fo do'
 mO : Meth K C "read_other" fo
 R : ej K "read" "Reader.read" (inClass fJ 4) fr dr
 mR : Meth K C "read" fr
 W : ej K "whole" "Reader.whole" (inClass fJ 5) fw dw
 mW : Meth K C "whole" fw
section
variable {P : Ka} {w : Ku} {K : J7} {mg : Str -> JW JT} {base : KP} {C : Kn -> JR} {CA CR CB fi fd ft fc fw : JR} {di dd dt dc dw : J2} {gi gl ge go gr gw : JR} {ei el ee eo er ew : J2}
noncomputable def vk(C:Kn->JR):Sp:=λvs H Q _=>∃ t:At,vs=[.str (sT t.lin)]/\Gd t/\t.dep<=7/\t.many<=33/\∀ a H',bY H H'->dZ C H' a t->Q (.ref a) H'
noncomputable abbrev C3:JP Str:=["line","reader","kind","meant","place"]
theorem qc:da C3 ["line"] (cG nV):=⟨rfl,rfl,rfl,dkq,rfl,dkq,dkq⟩
theorem pW.of {H H':Hp}{a:JR}{ps:JP Pq}(h:pW H a ps)(t:TT H H')(e:∀ xs,H a=some (.lst xs)->H' a=some (.lst xs)):pW H' a ps:=by
 obtain⟨qs,h1,h2⟩:=h;exact⟨qs,e _ h1,Gn.Paired.imp2 h2 λ_ _ ⟨v,g1,g2⟩=>⟨v,t _ _ g1,g2.tups t⟩⟩
seal cH PS PE PT PA PG PI cT cP in
theorem FU{f fp fn fa:JR}{gd fdp fdn fda:J2}{d:JR}{j:Kd->JR}(D:Df K mg "read_ask" nV f gd)(DP:Df K mg "parted" qP fp fdp)(GP:bX P w K mg base b7 14 fp fdp ["line"] yF)(DN:Df K mg "need_text" qO fn fdn)(GN:bX P w K mg base b7 14 fn fdn ["thing"] zo)
  (DA:Df K mg "ask_of" nz fa fda)(GA:bX P w K mg base (dD P w) 14 fa fda ["told"] (vB C CA))(X:Ex K mg "BadAsk" CA)
  (BM:lr K CB fi fd ft fc fw di dd dt dc dw)(hB:mg "Bracket"=some (.ref CB))(RM:xS K CR gi gl ge go gr gw ei el ee eo er ew)(hR:mg "Reader"=some (.ref CR))(T:Txt mg)(hD:mg "BEHIND"=some (.ref d))(D':KD P w K d (nJ j))(kB:∀ k,k≠ .stop->∀ H,cu K H (j k) (jN k)):bX P w K mg base b7 15 f gd ["line"] (vk C):=by
 have bP:=dY (p:="line") DP.F λ_ _ _ _ _ _ _=>rfl
 have bN:=dY (p:="thing") DN.F λ_ _ _ _ _ _ _=>rfl
 have bA:=dY (p:="told") DA.F λ_ _ _ _ _ _ _=>rfl
 have GI:bX P w K mg base b7 13 gi ei ["self"] (xF CR CB):=(EY RM.I RM.c BM hB).mono (by decide)
 have bI:=RM.I.binds (ps:=["self"]) λ_ _ _ _ _ _ us U=>match us,U with|[_],_=>rfl
 have GL:bX P w K mg base b7 14 gl el ["self","kind"] (yA CR CB):=(ur RM.L RM.c T hD D' kB).mono (by decide)
 have bL:=RM.L.binds (ps:=["self","kind"]) λ_ _ _ _ _ _ us U=>match us,U with|[_,_],_=>rfl
 have GR:bX P w K mg base b7 14 gr er ["self","kind","meant"] (xr CR CB):=(BV RM.R RM.E RM.mE RM.O RM.mO RM.c BM hB T).mono (by decide)
 have bR:=RM.R.binds (ps:=["self","kind","meant"]) λ_ _ _ _ _ _ us U=>match us,U with|[_,_,_],_=>rfl
 have GW:bX P w K mg base b7 14 gw ew ["self"] (yR CR CB):=(BN RM.W RM.c BM).mono (by decide)
 have bW:=RM.W.binds (ps:=["self"]) λ_ _ _ _ _ _ us U=>match us,U with|[_],_=>rfl
 refine D.F.ok qc (λvs H Q E h=>?_) (λcdv A outer s H vs Q E hr h=>?_)
 ·obtain⟨t,rfl,_⟩:=h;rfl
 ·obtain⟨t,rfl,J,hd,hm,q⟩:=h;refine⟨_,b9 (cZ (i:=1) qc.nd rfl (Kh rfl) (wJ RM.mI GI hr rfl hR bI .nil cz))
   (b9 (lF KZ rfl (oz (cQ GP hr rfl DP.m DP.F.kp bP .nil cz (bU (iL LA Ow Ox w5 (cQ GN hr rfl DN.m DN.F.kp bN .nil cz (bU (pv 0) bV))) bV)))
    (qA (n:=3) rfl (iN (eX (i:=2) qc.nd rfl (Kh rfl)) (iN (eX (i:=3) qc.nd rfl (Kh rfl)) (iN (eX (i:=4) qc.nd rfl (Kh rfl)) qm))))
    (b9 (cM (gF (fZ (mx (pv 1) RM.c.cl RM.mL GL hr bL .nil cz (bU (pv 2) bV)))) pK cY)
    (b5 (e7 (mx (pv 1) RM.c.cl RM.mR GR hr bR .nil cz (bU (pv 2) (bU (pv 3) bV)))))))
   (b5 (B0 (CH:=CA) (λ_ _ _ _=>LG) rfl rfl rfl X.m (λp xe hx=>b5 (cy (E4 GA hr rfl DA.m DA.F.kp bA .nil hx (bU (nO (pv 1) RM.c.cl RM.mW GW hr bW .nil cz) bV)))) (λea p=>pK)))),?_⟩;have hlen:t.lin.length<=2000:=by have:=lH J;omega
  have ab:=Gx J;refine λp dx hp av aI=>⟨p,dx,H,rfl,b6,λb u e=>by rw[cF (dI e hp),cF (dI e av)];exact e,hp,λvl vf H1 ae t1=>⟨rfl,?_⟩⟩
  obtain⟨aJ,a1,aK,r1⟩:=id ae;refine⟨_,rfl,t.lin,rfl,hlen,BO ab,λH2 s2=>⟨rfl,sT t.lin,rfl,rfl,by rw[du];omega,?_⟩⟩;rw[ua ab];refine⟨t.lin,rfl,by omega,λa H3 s3 ha aw=>?_⟩;have ax:=s2.trans s3;obtain⟨B,af,sB,ag,tB⟩:=ae.base ax;have ay:H1 a=none:=by
   cases e:H1 a with
   |none=>rfl
   |some u=>rw[s2 _ _ e] at ha;cases ha
  have ah:pW B a (parts t.lin 0):=aw.of tB λxs e=>ag a _ ay e
  obtain⟨ps,ai,aj⟩:=id ah;refine⟨a,rfl,⟨_,ck.of (af.elim λ_ h=>h.elim λ_ h=>h.elim λ_ r=>r.sB _ _ ai)⟩,?_⟩;obtain⟨s',az,aA,b,aB,ak⟩:=RA.Cz (t:=t.tr) (by rw[lE J];omega);obtain⟨lt,fin⟩:=Ca az aA;have aa:=AI (L:=t.lin) (wr t.tr) .lp 0 (by rw[kg J];rfl) (jJ J);have hk:(parts t.lin 0).map (λq=>(q.1,q.2.1))=(kinds (wr t.tr)).map λk=>(dQ (ko k),nc k):=by
   rw[aa];unfold kinds;rw[J5,LB]
   congr 1
   exact M7 λk _=>by cases k<;>rfl
  have U:ps.length=(wr t.tr).length+1:=by
   have h1:=M8 aj
   have h2:=K9 Mw hk;rw[JX,JX] at h2;rw[h1,h2];unfold kinds;rw[JU,JX];rfl
  have aL:(wr t.tr).length<=2000:=by have:=oZ (wr t.tr) .lp (jJ J);rw[<-kg J] at this;omega
  refine xY (xs:=ps.map V.ref) (λi σ H'=>∃(vl vf:V) (o2 o3 o4:JW V),σ=[some (.str (sT t.lin)),some (.ref p),o2,o3,o4]/\qz B CR CB H' p (iY (wr t.tr) i) i vl vf) ?_ ?_ ?_ ?_
  ·exact⟨vl,vf,none,none,none,rfl,af,(λz=>by rcases z with z|z<;>cases z),(λz=>by cases z),(λz=>by rcases z with z|z<;>cases z),(by intro z;cases z),(λb hb=>by rw[List.mem_singleton.mp (show b∈[(⟨0,none,none⟩:Bk)] from hb)];exact JY 0),JY 1⟩
  ·rintro i σ H' _ ⟨vl,vf,_,_,_,_,ok⟩;obtain⟨_,_,_,r⟩:=ok.rd;exact ck.of (r.sB _ _ ai)
  ·rintro i x σ H' hx ⟨vl,vf,o2,o3,o4,rfl,ok⟩;obtain⟨_,_,_,r⟩:=ok.rd;obtain⟨u,hu,rfl⟩:∃ u,ps[i]? =some u/\V.ref u=x:=by
    rw[List.getElem?_map] at hx;cases e:ps[i]? with
    |none=>rw[e] at hx;cases hx
    |some z=>rw[e] at hx;exact⟨z,rfl,Kg hx⟩
   have hi:i<ps.length:=(List.getElem?_eq_some_iff.mp hu).1;obtain⟨pq,aC,v,ao,aq⟩:=vH aj hu;have aD:∃ k,(kinds (wr t.tr))[i]? =some k/\pq.1=dQ (ko k)/\pq.2.1=nc k:=by
    have:=K9 (λl=>l[i]?) hk;simp only[List.getElem?_map,aC] at this;cases e:(kinds (wr t.tr))[i]? with
    |none=>rw[e] at this;cases this
    |some k=>
     rw[e] at this;have:=Kg this;injection this with e1 e2;exact⟨k,rfl,e1,e2⟩
   obtain⟨k,ek,e1,e2⟩:=aD;rw[e1] at ao;rw[e2] at aq;have lk:=lt i k ek;have aE:=r.sB _ _ ao;have ar:cD false H' v (nc k):=aq.tups (TT.of r.sB);have qV:(iY (wr t.tr) i).last≠ .stop:=λz=>by
    have:=(yf lk).2.2.2;rw[z] at this;cases this
   refine⟨u,_,rfl,cu.of aE,rfl,_,_,rfl,_,_,rfl,_,_,rfl,rfl,?_⟩;refine⟨_,rfl,p,_,_,rfl,r.hp,jm B5 _ _ _ _,_,rfl,p,B,_,(iY (wr t.tr) i).last,k |> ko,vl,vf,rfl,ok.rd,?_,qV,_,rfl,?_⟩
   ·rw[List.reverse_reverse];exact lk
   ·refine cj ⟨_,rfl,p,_,_,rfl,r.hp,jm Ea _ _ _ _,_,rfl,_,rfl,p,B,iY (wr t.tr) i,i,k,v,vl,vf,rfl,ok,by omega,ar,lk,λvl' vf' H2 t2 aF=>?_⟩;refine⟨vl',vf',_,_,_,rfl,?_⟩;rw[Ae ek];exact aF
  ·rintro σ H' ⟨vl,vf,o2,o3,o4,rfl,ok⟩;rw[JX,U,fin] at ok;obtain⟨_,_,_,r⟩:=ok.rd;have aG:Rd B CR CB H' p [b] (.str (dQ .stop)) vl vf:=by
    have:=ok.rd
    have e:(kh s' none).bs=[b]:=aB;rw[e] at this;exact this
   refine⟨⟨_,rfl,p,_,_,rfl,r.hp,jm Hw _ _ _ _,p,B,b,_,vl,vf,t.tr,rfl,aG,ED ak,ak,λv H2 aH au=>?_⟩,λ_ _ _ z=>z.elim⟩;rw[jd J] at au;refine⟨v,t.told,rfl,au.any,jP J,λt' ht a' H4 s4 hA=>?_,λz=>?_⟩
   ·rw[wm J,J1 ⟨hd,by omega⟩] at ht;have:t=t':=Kg ht;subst this;exact q a' H4 ((sB.trans aH).trans s4) hA
   ·rw[wm J,J1 ⟨hd,by omega⟩] at z;cases z
end
end K13
namespace L2
open PySem PySem.Spec PyProof.Rows
section
variable {X : Cx}
theorem EH:jC X "str.split" (λx xs H Q=>∃ z y,x= .str z/\xs=[.str y]/\(y.length==0)=false/\z.length<=100000/\∀ p,H p=none->Q (.ref p) (upd H p (.lst ((Txt.split z y).map V.str)))):=by
 intro pins s σ H x xs v us Q I U rs h;obtain⟨z,y,rfl,rfl,J,hz,q⟩:=h;obtain⟨t,rfl⟩:=U;obtain⟨u0,rfl,⟨u,rfl⟩⟩:=vals1 rs;have hl:(sizeLine:Nat)=16777216:=Kv;have hf:H s.heap.objs.size=none:=I.hok.fresh (JY _);have ho:=StrLaws.occ_length_le_len z y 0 z.length (z.length+1);have hp:=len_partsBetween z (K7 z y 0 z.length (z.length+1)) y.length;have one:∀(e:Txt.split z y=[z]),EP X pins σ Q (.ref s.heap.objs.size) {s with heap:=s.heap.push {cls:= .type "list",data:= .seq [NU z t].toArray}}:=λe=>by
  rw[e] at q;exact⟨.ref s.heap.objs.size,_,I.laid (t':=s.toks) (o:= .lst [.str z]) (λb u e=>Heap.get?_push_of_some _ e) (JY _) ⟨by show 1<=_;omega,[.str z t],0,.cons ⟨_,rfl⟩ .nil,Heap.get?_push_size _ rfl⟩,rfl,q _ hf⟩
 cases h1:(decide (z.length<y.length)||decide (Builtin.Str.strKind z<Builtin.Str.strKind y))
 ·cases hf':(K7 z y 0 z.length (z.length+1)).isEmpty
  ·refine MY Mr (Nf s z t) Np (N7 _ _) (meets_str_split_sep z y t u h1 J hf' (by omega) (by omega)) ?_;have e:Txt.split z y=Builtin.Str.partsBetween z (K7 z y 0 z.length (z.length+1)) y.length:=by unfold Txt.split;rw[if_neg (by rw[h1];exact J3),if_neg (by rw[hf'];exact J3)]
   rw[<-e] at hp ⊢;exact⟨.ref s.heap.objs.size,_,I.laid (o:= .lst ((Txt.split z y).map V.str)) (λb u e=>Heap.get?_push_of_some _ e) (JY _) ⟨by rw[JX];omega,_,0,vj s.toks (Txt.split z y),Heap.get?_push_size _ rfl⟩,rfl,q _ hf⟩
  ·refine MY Mr (Nf s z t) Np (N7 _ _) (meets_str_split_not_found z y t u h1 J hf') ?_;exact one (by unfold Txt.split;rw[if_neg (by rw[h1];exact J3),J1 hf'])
 ·refine MY Mr (Nf s z t) Np (N7 _ _) (meets_str_split_cannot_occur z y t u h1) ?_;exact one (by unfold Txt.split;rw[J1 h1])
theorem FV{X:Cx}{o:KI}{name:Str}{T id:Mx}{apos cpos:Pos}{r:V->JP V->Hp->VK->Prop}{to:TE}{K:Kl}(hK:X.K=K)(pa:PlainAttrs T)(slot:Slot T name id)(hty:typeOf (.builtin id)=pure (.type "method_descriptor"))(hm:jC X id r)(ho:PE X o to)
  (hbase:MI o name X.env (eval o X.env)=eval o X.env:=by rfl)(hline:(apos.endLine==cpos.line)=true:=by rfl):PE X (.Call (.Attribute o name apos) [] [] cpos) (Bb K T r to):=by
 subst hK;exact iL pa slot hty hm ho hbase hline
end
end L2
namespace K13
open PySem L2 PyProof.Rows PySem.Spec Gn K01
open RA (Lf Tr Tk wr brk Kd Bk takeIn Rs)
noncomputable def rg(H:Hp)(p:JR)(k:Str)(d:Kf)(b e:Nat):Prop:=∃ v,H p=some (.tup [.str k,v,.int ((b:Nat):Int),.int ((e:Nat):Int)])/\cD false H v d
theorem z6{c:Nat}(h:dA c=true):gI c=true:=by
 have hm:c<128:=by
  unfold dA at h;simp at h;omega
 have:∀ c<128,dA c=true->gI c=true:=dkq;exact this c hm h
theorem ow:gI 34=false/\gI 32=false/\gI 40=false/\gI 41=false/\gI 42=false/\gI 126=false:=dkq
theorem HY{w:JP Nat}(h:w.all dA=true):Txt.lower (sT w)=sT w:=ua (mM h)
theorem uk(c:Nat):decide (V.str (if gI c then JO "letter" else ⟨#[c]⟩)=V.str (JO "letter"))=gI c:=by
 cases h:gI c with
 |true=>rfl
 |false=>
  refine JQ λz=>?_
  have J:V.str ⟨#[c]⟩=V.str (JO "letter"):=z;injection J with z;have:=K9 (λx:Str=>x.length) z;exact absurd this (by show ¬ (1=(JO "letter").length);decide +kernel)
theorem Ad:∀{ls:JP (JP Nat)} {w:JP Nat},w∈ls->w.length<=(jn ls).length
 |[],_,h=>nomatch h
 |[x],w,h=>by rw[List.mem_singleton.mp h];exact JY _
 |x::y::r,w,h=>by
  show _<=(x++32::jn (y::r)).length;rw[JU,JV];rcases List.mem_cons.mp h with rfl|h
  ·omega
  ·have:=Ad h;omega
section
variable {P : Ka} {w : Ku} {K : J7} {mg : Str -> JW JT} {base : KP}
noncomputable def wt:Sp:=λvs H Q _=>∃(L:JP Nat) (b:Nat) (ls:JP (JP Nat)) (y:JP Nat),vs=[.str (sT L),.int ((b:Nat):Int)]/\L.length<=20000/\L.drop b=34::(jn ls++34::y)/\(∀ w∈ls,gW w)/\1<=ls.length/\ls.length<=8/\
 ∀ p H',bY H H'->rg H' p "plain" (hU (ls.map sT)) b (b+((jn ls).length+2))->Q (.ref p) H'
noncomputable abbrev zp:JP Str:=["_law_line","_law_at","_law_body","_law_end","_law_some"]
theorem nI:da zp ["_law_line","_law_at"] (cG nN):=⟨rfl,rfl,rfl,dkq,rfl,dkq,dkq⟩
theorem Du:(["_law_word"]:JP Str).Nodup:=dkq
seal cH PS PE PT PA PG PI cT cP in
theorem Bp{f fs:JR}{fd fds:J2}(D:Df K mg "_law_row_piece" nN f fd)(DS:Df K mg "_law_sign_kind" oE fs fds)(T:Txt mg):bX P w K mg base b7 2 f fd ["_law_line","_law_at"] wt:=by
 have GS:bX P w K mg base b7 1 fs fds ["_law_sign"] vG:=yC DS
 have bS:=dY (p:="_law_sign") DS.F λ_ _ _ _ _ _ _=>rfl
 refine D.F.ok nI (λvs H Q E h=>?_) (λcdv A outer s H vs Q E hr h=>?_)
 ·obtain⟨L,b,ls,y,rfl,_⟩:=h;rfl
 ·obtain⟨L,b,ls,y,rfl,hl,hd,hg,h1,h8,k⟩:=h;have al:(sT L).length=L.length:=du L;have sz:sizeLine=16777216:=Kv;have ok:=oS hg;have d1:L.drop (b+1)=jn ls++34::y:=iA (x:=[34]) hd;have dn:∀ i,i<=(jn ls).length->L.drop (b+1+i)=(jn ls).drop i++34::y:=λi hi=>by
   rw[<-M0,d1,NG hi]
  have lb:b+1+(jn ls).length<L.length:=by
   have:=dn _ (JY _);rw[Ms] at this;exact(gH this).2
  refine⟨_,b9 (cZ (i:=2) nI.nd rfl (Kh rfl) b8) (b9 (cZ (i:=3) nI.nd rfl (Kh rfl) (cA eD (pv 1) bZ))
   (b9 (jZ KZ (PT.imp (t':=λσ H' Q'=>∃(i:Nat) (e:Int) (x:Str),i<=(jn ls).length/\e=(b:Int)+1+(i:Nat)/\x=sT ((jn ls).take i)/\σ=[some (.str (sT L)),some (.int ((b:Nat):Int)),some (.str x),some (.int e),none]/\Q' (decide (i<(jn ls).length)) H') (PW.pt (g8 (cx iQ (pv 3) (dF ip rfl T.len e8 (bU (pv 0) bV)) (cC _)) (gZ (PW.pt (gn (cx cU (cK gE (pv 0) (pv 3) (λ_ _=>rfl)) b8 (cC _)) (ia (cx cU (cQ GS hr rfl DS.m DS.F.kp bS .nil cz (bU (cK gE (pv 0) (pv 3) (λ_ _=>rfl)) bV)) b8 (cC _)))))))) ?mC)
    (b9 (cZ (i:=2) nI.nd rfl (Kh rfl) (cA gf (pv 2) (cK gE (pv 0) (pv 3) (λ_ _=>rfl)))) (b5 (cZ (i:=3) nI.nd rfl (Kh rfl) (cA eD (pv 3) bZ)))))
   (b9 (Ec (i:=4) nI.nd rfl (Kh rfl) (own:=1) (caps:=[]) (N:=["_law_word"]) (N0:=zp) (sc0:=cG nN) rfl (oz (fS LA Mr F.type_str_split EH (pv 2) (bU b8 bV)))
    (λ_ _ _=>eX (i:=0) Du rfl (Kh rfl)) (λ_ _ _=>Im (cx kN (pv 0) b8 (cC _))) (λ_ _ _=>FV (K:=K) rfl LA Ow Ox w5 (pv 0)) (iV (by decide)) rfl rfl
    dkq rfl dkq dkq rfl dkq (λ_ _ _ h=>h))
   (b9 (cM (PW.pt (gn (cx kN (gS gJ (pv 0) (fh (pv 3)) (fh (cA eD (pv 3) bZ))) b8 (cC _)) (ia (gF (Dn yM yM bZ (dF iF rfl T.len e8 (bU (pv 4) bV)) bZ))))) (b5 (cy ib)) cY)
   (b5 (cy (dv (bU b8 (bU (cK fO (eZ (bU (dv (bU b8 (bU (cK fO (pv 4) bZ (λ_ _=>rfl)) bV))) (bU (dv (bU b8 (bU (il sF rfl T.tuple oU (bU (pv 4) bV)) bV))) bV))) (il mK rfl T.int jF (bU (ik iJ (dF iF rfl T.len e8 (bU (pv 4) bV)) bZ rfl) bV)) (λ_ _=>rfl)) (bU (pv 1) (bU (cA eD (pv 3) bZ) bV))))))))))),?_⟩
  rotate_left
  ·refine⟨_,rfl,_,_,rfl,rfl,?_⟩;dsimp only[hV,L2.start,List.set];refine jT (λσ H'=>H'=H/\∃(i:Nat) (e:Int) (x:Str),i<=(jn ls).length/\e=(b:Int)+1+(i:Nat)/\x=sT ((jn ls).take i)/\σ=[some (.str (sT L)),some (.int ((b:Nat):Int)),some (.str x),some (.int e),none]) (λσ _=>match σ with|[_,_,_,some (.int r),_]=>L.length-r.toNat|_=>0) ⟨rfl,0,(b:Int)+1,JO "",Ks _,by omega,by rw[List.take_zero];rfl,rfl⟩ ?_ ?_
   ·rintro σ H' ⟨rfl,i,ee,x,hi,he,U,rfl⟩;refine⟨i,ee,x,hi,he,U,rfl,?_⟩;by_cases J:i<(jn ls).length
    ·rw[JS J];have e:=dn i hi;rw[Lb J] at e;have ec:=gH e;have hc:L[b+1+i]? =some (jn ls)[i]:=by rw[<-ec.1,List.getD_eq_getElem?_getD,List.getElem?_eq_getElem ec.2];rfl
     have cast:ee=((b+1+i:Nat):Int):=by omega
     refine cg ⟨_,rfl,_,rfl,_,rfl,_,_,(jn ls)[i],rfl,rfl,dC (by rw[al];omega),by rw[cast];exact cJ (by simpa using hc),_,_,rfl,rfl,dC (by rw[U,du,Lr];show _+1<=30000;omega),_,rfl,_,_,rfl,rfl,⟨rfl,i+1,_,_,J,by rw[he];omega,?_,rfl⟩,?_⟩
     ·rw[U,show(⟨((jn ls).take i).toArray⟩++⟨#[(jn ls)[i]]⟩:Str)=sT ((jn ls).take i++[(jn ls)[i]]) from fN _ [(jn ls)[i]],List.take_append_getElem J]
     ·show L.length-(ee+1).toNat<L.length-ee.toNat;omega
    ·rw[JQ J];have ei:i=(jn ls).length:=by omega
     subst ei;rw[Mq] at U;subst U;have hn:ls≠[]:=λz=>by rw[z] at h1;exact absurd h1 (by decide)
     have jl:(jn ls).length<=20000:=by omega
     refine cj ⟨_,rfl,rfl,_,_,rfl,rfl,rfl,by rw[du];omega,λa ha=>?_⟩;rw[IU hn hg];have s1:bY H' (upd H' a (.lst ((ls.map sT).map V.str))):=cq ha;have ea:upd H' a (.lst ((ls.map sT).map V.str)) a=some (.lst ((ls.map sT).map V.str)):=b6;generalize upd H' a (.lst ((ls.map sT).map V.str))=H1 at s1 ea ⊢;refine⟨a,rfl,⟨_,ck.of ea⟩,?_⟩;have ll:((ls.map sT).map V.str).length=ls.length:=by rw[JX,JX]
     refine tJ (xs:=(ls.map sT).map V.str) (λi ys G=>G=H1/\ys=(((ls.map sT).map V.str).take i)) (by rw[ll];omega) (λj zs G q=>by rw[q.1];exact ck.of ea) ⟨rfl,rfl⟩ ?_ ?_
     ·rintro i v zs G N hv ⟨rfl,rfl⟩ hN;obtain⟨x,U,ao⟩:∃ x∈ls,v= .str (sT x):=by
       have:=List.mem_of_getElem? hv;obtain⟨z,hz,rfl⟩:=List.mem_map.mp this;obtain⟨x,U,rfl⟩:=List.mem_map.mp hz;exact⟨x,U,rfl⟩
      subst ao;have gx:=hg x U;have xl:(sT x).length<=20000:=by rw[du];have:=Ad U;omega
      refine⟨_,rfl,rfl,_,rfl,?_⟩;rw[JQ (λz=>by
       injection z with z;have:=K9 (λy:Str=>y.length) z;exact wy gx.1 this)];refine cg ⟨_,rfl,rfl,_,rfl,rfl,by omega,hN _ _ ⟨rfl,?_⟩⟩;rw[HY gx.2,Lk,hv];rfl
     ·rintro ys G ⟨rfl,rfl⟩ _ q hq;rw[Mq];have s2:bY G (upd G q (.lst ((ls.map sT).map V.str))):=cq hq;have eq:upd G q (.lst ((ls.map sT).map V.str)) q=some (.lst ((ls.map sT).map V.str)):=b6;generalize upd G q (.lst ((ls.map sT).map V.str))=H2 at s2 eq ⊢;have aq:L.drop (b+1+(jn ls).length)=34::y:=by have:=dn _ (JY _);rwa [Ms] at this
      have ag:RA.sl L (b+1+(jn ls).length) (b+1+(jn ls).length+1)=[34]:=by
       unfold RA.sl;rw[aq,Lj];rfl
      subst he;refine⟨_,rfl,_,rfl,_,rfl,_,rfl,_,_,rfl,rfl,((b+1+(jn ls).length+1:Nat):Int),rfl,_,rfl,dC (by rw[al];omega),rfl,_,rfl,?_⟩;rw[show(b:Int)+1+((jn ls).length:Nat)=((b+1+(jn ls).length:Nat):Int) by omega,jh L (by omega) (by omega),ag];refine cj ⟨_,rfl,q,_,rfl,.inl (ck.of eq),_,_,rfl,rfl,_,rfl,?_⟩;rw[ll,JS (by omega)];refine cg ⟨_,_,rfl,rfl,_,rfl,?_⟩;rw[JS (by omega)];obtain⟨x0,ah⟩:∃ x0,ls[0]? =some x0:=⟨ls[0]'(by omega),List.getElem?_eq_getElem _⟩;have ar:((ls.map sT).map V.str)[0]? =some (.str (sT x0)):=by rw[List.getElem?_map,List.getElem?_map,ah];rfl
      refine cj ⟨_,rfl,q,_,_,_,rfl,rfl,ck.of eq,cJ (j:=0) ar,eJ,λI ab=>⟨_,rfl,q,_,rfl,.inl ⟨ck.of (by rw[cF (λz=>by rw[<-z,eq] at ab;cases ab)];exact eq),λq2 ai=>⟨eJ,λq3 ae=>?_⟩⟩⟩⟩;have s3:bY H2 (upd (upd (upd H2 I (.tup [.str (JO "word"),.str (sT x0)])) q2 (.tup ((ls.map sT).map V.str))) q3 (.tup [.str (JO "row"),.ref q2])):=((cq ab).trans (cq ai)).trans (cq ae);have e1:upd (upd (upd H2 I (.tup [.str (JO "word"),.str (sT x0)])) q2 (.tup ((ls.map sT).map V.str))) q3 (.tup [.str (JO "row"),.ref q2]) I=some (.tup [.str (JO "word"),.str (sT x0)]):=((cq ai).trans (cq ae)) _ _ b6;have e2:upd (upd (upd H2 I (.tup [.str (JO "word"),.str (sT x0)])) q2 (.tup ((ls.map sT).map V.str))) q3 (.tup [.str (JO "row"),.ref q2]) q2=some (.tup ((ls.map sT).map V.str)):=(cq ae) _ _ b6;have e3:upd (upd (upd H2 I (.tup [.str (JO "word"),.str (sT x0)])) q2 (.tup ((ls.map sT).map V.str))) q3 (.tup [.str (JO "row"),.ref q2]) q3=some (.tup [.str (JO "row"),.ref q2]):=b6;generalize upd (upd (upd H2 I (.tup [.str (JO "word"),.str (sT x0)])) q2 (.tup ((ls.map sT).map V.str))) q3 (.tup [.str (JO "row"),.ref q2])=H3 at s3 e1 e2 e3 ⊢;refine⟨eJ,λq4 au=>?_⟩;have s4:bY H3 (upd H3 q4 (.lst [.ref I,.ref q3])):=cq au;have e4:upd H3 q4 (.lst [.ref I,.ref q3]) q4=some (.lst [.ref I,.ref q3]):=b6;generalize upd H3 q4 (.lst [.ref I,.ref q3])=H4 at s4 e4 ⊢;have av:∀(G:Hp) (l:JP Str),cV false G (l.map V.str) (l.map .str):=λG l=>by
       induction l with
       |nil=>exact .nil
       |cons z l ih=>exact .cons (.str z) ih
      have aj:bY H' H4:=((s1.trans s2).trans s3).trans s4;refine⟨_,rfl,q,_,rfl,.inl (ck.of (s4 _ _ (s3 _ _ eq))),_,_,rfl,rfl,.inr ⟨_,rfl,?_⟩⟩;rw[ll];have fin:∀(v:V),cD false H4 v (hU (ls.map sT))->∀ q5,H4 q5=none->Q (.ref q5) (upd H4 q5 (.tup [.str (JO "plain"),v,.int ((b:Nat):Int),.int (((b+1+(jn ls).length:Nat):Int)+1)])):=λv pv q5 ak=>by
       refine k q5 _ (aj.trans (cq ak)) ⟨v,?_,pv.same (cq ak)⟩;rw[b6,show((b+1+(jn ls).length:Nat):Int)+1=((b+((jn ls).length+2):Nat):Int) by omega]
      by_cases aa:ls.length=1
      ·rw[JQ (by omega)];refine⟨q4,_,0,.ref I,rfl,rfl,ck.of e4,cJ (j:=0) rfl,_,rfl,_,rfl,_,_,rfl,rfl,ie,fin (.ref I) ?_⟩;have:hU (ls.map sT)= .tuple [.str "word",.str (sT x0)]:=by
        unfold hU;rw[JX,J1 aa,List.getD_eq_getElem?_getD,List.getElem?_map,ah];rfl
       rw[this];exact .tup (s4 _ _ e1) (.cons (.str _) (.cons (.str _) .nil))
      ·rw[JS (by omega)];refine⟨q4,_,1,.ref q3,rfl,rfl,ck.of e4,cJ (j:=1) rfl,_,rfl,_,rfl,_,_,rfl,rfl,ie,fin (.ref q3) ?_⟩;have:hU (ls.map sT)= .tuple [.str "row",.tuple ((ls.map sT).map .str)]:=by
        unfold hU;rw[JX,if_neg aa]
       rw[this];exact .tup (s4 _ _ e3) (.cons (.str _) (.cons (.tup (s4 _ _ e2) (av _ _)) .nil))
   ·intro σ H' Q1 Q2 hq h;obtain⟨i,ee,x,hi,he,U,e,q⟩:=h;exact⟨i,ee,x,hi,he,U,e,hq _ _ q⟩
  ·rintro σ H' Q' ⟨i,ee,x,hi,he,U,rfl,q⟩;refine⟨_,rfl,_,rfl,_,rfl,dC (by rw[al];omega),_,_,rfl,rfl,_,rfl,?_⟩;rw[al,JS (show ee<(L.length:Int) by omega)];have cast:ee=((b+1+i:Nat):Int):=by omega
   by_cases J:i<(jn ls).length
   ·rw[JS J] at q;have e:=dn i hi;rw[Lb J] at e;have ec:=gH e;have hc:L[b+1+i]? =some (jn ls)[i]:=by rw[<-ec.1,List.getD_eq_getElem?_getD,List.getElem?_eq_getElem ec.2];rfl
    have hok:fU (jn ls)[i]=true:=List.all_eq_true.mp ok.1 _ (M5 J)
    have ix:iz (sT L).cps.toList ee=some (jn ls)[i]:=by rw[cast];exact cJ (by simpa using hc)
    generalize (jn ls)[i]=c at hok ix;refine cg ⟨_,rfl,_,rfl,_,_,c,rfl,rfl,dC (by rw[al];omega),ix,rfl,_,rfl,?_⟩;rw[show decide (V.str ⟨#[c]⟩=V.str (JO " "))=decide (c=32) from gQ c 32];by_cases af:c=32
    ·rw[JS af];exact cg q
    ·rw[JQ af];refine cj ⟨_,rfl,_,rfl,_,_,c,rfl,rfl,dC (by rw[al];omega),ix,c,rfl,rfl,_,rfl,?_⟩;rw[uk];have:gI c=true:=z6 (by unfold fU at hok;rw[JQ af,Bool.false_or] at hok;exact hok);rw[this];exact q
   ·rw[JQ J] at q;have ei:i=(jn ls).length:=by omega
    subst ei;have e:=dn _ (JY _);rw[Ms] at e;have ec:=gH e;have hc:L[b+1+(jn ls).length]? =some 34:=by rw[<-ec.1,List.getD_eq_getElem?_getD,List.getElem?_eq_getElem ec.2];rfl
    have ix:iz (sT L).cps.toList ee=some 34:=by rw[cast];exact cJ (by simpa using hc)
    refine cg ⟨_,rfl,_,rfl,_,_,34,rfl,rfl,dC (by rw[al];omega),ix,rfl,_,rfl,?_⟩;rw[show decide (V.str ⟨#[34]⟩=V.str (JO " "))=decide ((34:Nat)=32) from gQ 34 32];refine cj ⟨_,rfl,_,rfl,_,_,34,rfl,rfl,dC (by rw[al];omega),ix,34,rfl,rfl,_,rfl,?_⟩;rw[uk,ow.1];exact q
end
end K13
namespace L2
open PySem PySem.Spec PyProof.Rows
section
variable {X : Cx} {a b : KI} {rest : JP KI} {ta : TE} {pos : Pos}
noncomputable def BH(K:Kl)(ta:TE):TE:=λσ H Q=>ta σ H λx H1=>∃ p y ys,x= .ref p/\cu K H1 p (y::ys)/\Q x H1
theorem HF(ha:PE X a ta):PE X (.BoolOp .Or (a::b::rest) pos) (BH X.K ta):=by
 intro pins s σ H Q I h;refine BoolOp_or (cv (ha pins s σ H _ I h) λv s1 ⟨x,H1,I1,r1,p,y,ys,ex,hq,q1⟩=>?_);subst ex;obtain rfl:v=Ky p:=r1;obtain⟨J,rv,ht,hz⟩:=I1.tuple hq;have hl:=rv.length;have hs:(sizeLine:Nat)=16777216:=Kv;have U:(!J.toArray.isEmpty)=true:=by
  cases J with
  |nil=>cases rv
  |cons u r=>rfl
 refine truthy_tuple ht (by rw[Kk];omega) ?_;rw[U];exact⟨.ref p,H1,I1.tok _,rfl,q1⟩
theorem Ff:iI X (.type "int") (λxs H Q=>∃ z n,xs=[.str z]/\PySem.intText? z=some n/\z.length<=640/\Q (.int n) H):=by
 intro pins s σ H xs us Q I r h;obtain⟨z,n,rfl,hn,J,q⟩:=h;obtain⟨u,rfl,t,rfl⟩:=vals1 r;exact W.KIN.call_text hn J ⟨.int n,H,I.tok _,⟨_,rfl⟩,q⟩
noncomputable def Dd(i j k:Nat)(ta:TA):TS:=λD σ H=>ta σ H λvs H1=>∃ u v w,vs=[u,v,w]/\D.nx (((σ.set i (some u)).set j (some v)).set k (some w)) H1
theorem Fp{i j k:Nat}{x y z:Str}{a b c:KI}{ta:TA}{px py pz pt:Pos}{kt k2 pt2}(hc:X.calm=true)(hN:X.N.Nodup)(hi:X.N[i]? =some x)(hj:X.N[j]? =some y)(hk:X.N[k]? =some z)(hij:i≠j)(hik:i≠k)(hjk:j≠k)
  (hx:X.env.scope.names.lookup x=some .local)(hy:X.env.scope.names.lookup y=some .local)(hz:X.env.scope.names.lookup z=some .local)(ha:PA X [a,b,c] ta)
  (hw:Og [.Tuple [.Name x px,.Name y py,.Name z pz] kt pt] (.Tuple [a,b,c] k2 pt2) X.env=pure (some [x,y,z]))
  (hs:Of [.Tuple [.Name x px,.Name y py,.Name z pz] kt pt] (.Tuple [a,b,c] k2 pt2) pos.line X.env=pure false:=by rfl):
  PS X (.Assign [.Tuple [.Name x px,.Name y py,.Name z pz] kt pt] (.Tuple [a,b,c] k2 pt2) pos) (Dd i j k ta):=by
 intro pins s σ H D I h;rw[OH];refine J8 (MH ?_);rw[hs];refine J8 (KN ?_);rw[if_neg (by decide)];refine J8 (Tuple_ (cv (ha _ pins s σ H _ I h) λus s1 ⟨vs,H1,I1,r1,q1⟩=>?_));obtain⟨u,v,w,e1,q1⟩:=q1;subst e1;obtain⟨J,U,u3,rfl,ru,rv,aa⟩:∃ J U u3,us=[J,U,u3]/\RelV u J/\RelV v U/\RelV w u3:=by
  cases r1 with
  |cons p q=>
   cases q with
   |cons p' q'=>
    cases q' with
    |cons ab ae=>
     cases ae;exact⟨_,_,_,rfl,p,p',ab⟩
 refine MN ?_ (by show 3<=sizeLine;decide);have I2:Inv X pins σ H1 {s1 with heap:=s1.heap.push {cls:= .type "tuple",data:= .seq [J,U,u3].toArray}}:=I1.kept (t':=s1.toks) λb o e=>Heap.get?_push_of_some _ e
 rw[hw];refine J8 (KN ?_);show Kq (Ko X.prog X.w) X.A (do rule "assign.swapped-stores";let items<-unpackItems (.ref s1.heap.objs.size) 3 none;MG [λv=>Mm X.env z v,λv=>Mm X.env y v,λv=>Mm X.env x v] items.reverse;pure Om) _ _ _;refine J8 (wpAny_rule (J8 (N9 (items:=#[J,U,u3]) (I.ok.hd hc) (IsTup.new s1.heap _) λh' af=>?_)));have I3:=I2.kept (h':=h') (t':=s1.toks) λb o e=>af b o (Kr (Kb e)) e
 show Kq _ _ (MG [λv=>Mm X.env z v,λv=>Mm X.env y v,λv=>Mm X.env x v] [u3,U,J] >>= λ_=>pure Om) _ _ _;refine J8 (LH (Mn (iR I3 hN hk (.inl hz) aa (λs2 I4=>?_) (.inr hz))));refine LH (Mn (iR I4 hN hj (.inl hy) rv (λs3 I5=>?_) (.inr hy)));refine LH (Mn (iR I5 hN hi (.inl hx) ru (λs4 I6=>Nh (KN ?_)) (.inr hx)));rw[Ny _ _ (K5 hjk),Ny _ _ (K5 hik),Ny (i:=j) _ _ (K5 hij)] at I6;exact⟨_,H1,I6,q1⟩
theorem xj(k:Str):∀ ys:JP Str,PySem.Spec.countIn (.str k) (ys.map MC)=((ys.count k:Nat):Int)
 |[]=>rfl
 |y::ys=>by
  rw[KU,PySem.Spec.countIn,xj k ys,Nd];have e:PySem.Spec.same (.str y) (.str k)=(y==k):=rfl;rw[e];cases h:(y==k) with
  |true=>simp[h];omega
  |false=>simp[h]
theorem rR:jC X "list.count" (λx xs H Q=>∃(p:JR) (ys:JP Str) (k:Str),x= .ref p/\xs=[.str k]/\ck X.K H p (ys.map V.str)/\Q (.int ((ys.count k:Nat):Int)) H):=by
 intro pins s σ H x xs v us Q I J rs h;obtain⟨p,ys,k,rfl,rfl,U,q⟩:=h;cases J;obtain⟨u0,rfl,⟨u,rfl⟩⟩:=vals1 rs;obtain⟨aa,r,pl,_⟩:=I.list U;refine count_list_strs pl.isList (by simpa using tL r) ?_;rw[xj];exact⟨.int _,H,I.tok _,⟨_,rfl⟩,q⟩
end
end L2
namespace K13
open PySem L2 PyProof.Rows PySem.Spec Gn K01
open RA (Lf Tr Tk wr brk Kd Bk takeIn Rs)
noncomputable def og:Tk->Str
 |.leaf _=>"plain" |.near _=>"near" |.no=>"not" |.and=>"and" |.or=>"or" |.lp=>"(" |.rp=>")"
noncomputable def lw:Tk->JP Nat
 |.leaf (.word w)=>w|.leaf (.start w)=>w|.near n=>dE (n:Int)|.no=>[110,111,116]|.and=>[97,110,100]|.or=>[111,114]|_=>[]
noncomputable def lz:Tk->JP Nat->JP Nat
 |.leaf (.start _),y=>42::y|.lp,y=>40::y|.rp,y=>41::y|_,y=>y
noncomputable def jx:Tk->KS
 |.near _=>true|_=>false
noncomputable def lu:Tk->KS
 |.leaf (.row _)=>true|.leaf (.word w)=>isJ (sT w)|_=>false
theorem shape{k:Tk}(hg:gK k)(hm:lu k=false)(y:JP Nat)(hy:k≠ .lp->k≠ .rp->p3 y):
  txt k++y=(if jx k then [126] else [])++(lw k++lz k y)/\(lw k).all dA=true/\∀ c z,lz k y=c::z->gI c=false:=by
 have st:∀{y:JP Nat},p3 y->∀ c z,y=c::z->gI c=false:=λh c z e=>by
  rcases h with rfl|⟨d,r,rfl,hd⟩
  ·cases e
  ·injection e with e _;rw[<-e];rcases hd with rfl|rfl
   ·exact ow.2.1
   ·exact ow.2.2.2.1
 cases k with
 |leaf l=>
  cases l with
  |word w=>
   have J:isJ (sT w)=false:=hm;refine⟨?_,(show gW w from hg).2,st (hy (by intro z;cases z) (by intro z;cases z))⟩;show(if isJ (sT w) then _ else w)++y=[]++(w++y);rw[J];rfl
  |start w=>exact⟨by show w++[42]++y=[]++(w++42::y);rw[Kt];rfl,(show gW w from hg).2,λc z e=>by injection e with e _;rw[<-e];exact ow.2.2.2.2.1⟩
  |row ws=>cases hm
 |near n=>exact⟨rfl,(qB n (by have:n<=20:=hg;omega)).1,st (hy (by intro z;cases z) (by intro z;cases z))⟩
 |no=>exact⟨rfl,dkq,st (hy (by intro z;cases z) (by intro z;cases z))⟩
 |and=>exact⟨rfl,dkq,st (hy (by intro z;cases z) (by intro z;cases z))⟩
 |or=>exact⟨rfl,dkq,st (hy (by intro z;cases z) (by intro z;cases z))⟩
 |lp=>exact⟨rfl,rfl,λc z e=>by injection e with e _;rw[<-e];exact ow.2.2.1⟩
 |rp=>exact⟨rfl,rfl,λc z e=>by injection e with e _;rw[<-e];exact ow.2.2.2.1⟩
theorem qd{k:Tk}(hg:gK k):∃ c r,txt k=c::r/\c≠32/\(lu k=true->c=34)/\(lu k=false->c≠34)/\(c=126↔jx k=true):=by
 have J:∀{w:JP Nat},gW w->∃ c r,w=c::r/\c≠32/\c≠34/\c≠126:=λ{w} g=>by
  cases w with
  |nil=>exact absurd rfl g.1
  |cons c w=>
   have h:=g.2;rw[M9,Lc] at h;have:=mq h.1;exact⟨c,w,rfl,this.2.1,this.2.2.1,this.2.2.2.2.2.2⟩
 cases k with
 |leaf l=>
  cases l with
  |word w=>
   cases hj:isJ (sT w) with
   |true=>exact⟨34,w++[34],J1 hj,by decide,λ_=>rfl,(λz=>by rw[show lu (.leaf (.word w))=true from hj] at z;cases z),⟨(λz=>by cases z),(λz=>by cases z)⟩⟩
   |false=>
    obtain⟨c,r,e,h1,h2,U⟩:=J (show gW w from hg);exact⟨c,r,(if_neg (by rw[hj];exact J3)).trans e,h1,(λz=>by rw[show lu (.leaf (.word w))=false from hj] at z;cases z),λ_=>h2,⟨λz=>absurd z U,(λz=>by cases z)⟩⟩
  |start w=>
   obtain⟨c,r,e,h1,h2,U⟩:=J (show gW w from hg);exact⟨c,r++[42],by show w++[42]=_;rw[e];rfl,h1,(λz=>by cases z),λ_=>h2,⟨λz=>absurd z U,(λz=>by cases z)⟩⟩
  |row ws=>exact⟨34,_,rfl,by decide,λ_=>rfl,(λz=>by cases z),⟨(λz=>by cases z),(λz=>by cases z)⟩⟩
 |near n=>exact⟨126,_,rfl,by decide,(λz=>by cases z),λ_=>by decide,⟨λ_=>rfl,λ_=>rfl⟩⟩
 |no=>exact⟨110,_,rfl,by decide,(λz=>by cases z),λ_=>by decide,⟨(λz=>by cases z),(λz=>by cases z)⟩⟩
 |and=>exact⟨97,_,rfl,by decide,(λz=>by cases z),λ_=>by decide,⟨(λz=>by cases z),(λz=>by cases z)⟩⟩
 |or=>exact⟨111,_,rfl,by decide,(λz=>by cases z),λ_=>by decide,⟨(λz=>by cases z),(λz=>by cases z)⟩⟩
 |lp=>exact⟨40,_,rfl,by decide,(λz=>by cases z),λ_=>by decide,⟨(λz=>by cases z),(λz=>by cases z)⟩⟩
 |rp=>exact⟨41,_,rfl,by decide,(λz=>by cases z),λ_=>by decide,⟨(λz=>by cases z),(λz=>by cases z)⟩⟩
theorem Am(l:JP Nat){a:Nat}(ha:a<=l.length):Txt.slice ⟨l.toArray⟩ (some (a:Int)) none=⟨(l.drop a).toArray⟩:=by
 have e:Txt.slice ⟨l.toArray⟩ (some (a:Int)) none=Txt.slice ⟨l.toArray⟩ (some (a:Int)) (some ((⟨l.toArray⟩:Str).length:Int)):=by
  have J:Lh (some (a:Int)) none 1 (⟨l.toArray⟩:Str).length=Lh (some (a:Int)) (some ((⟨l.toArray⟩:Str).length:Int)) 1 (⟨l.toArray⟩:Str).length:=by
   unfold Lh;have h1:¬ ((⟨l.toArray⟩:Str).length:Int)<0:=by omega
   have h2:min ((⟨l.toArray⟩:Str).length:Int) ((⟨l.toArray⟩:Str).length:Int)=(⟨l.toArray⟩:Str).length:=by omega
   have p:(1:Int)>0:=by decide
   simp only[if_neg h1,h2,J1 p];rw[show max (0:Int) ((⟨l.toArray⟩:Str).length:Int)=((⟨l.toArray⟩:Str).length:Int) by omega]
  unfold Txt.slice;rw[J]
 rw[e,du,jh l ha ha];unfold RA.sl;rw[Lq (by rw[KH];omega)]
noncomputable def vT(c:Nat):KS:=decide (c∈(JO "()").cps.toList)
theorem Jd:∀ n:Nat,n<21->e9 (.str (sT (dE (n:Int)))) ((LL 21).map λn:Nat=>V.str (JO (toString (n:Int))))=true/\PySem.intText? (sT (dE (n:Int)))=some (n:Int):=dkq
theorem q8(z:Str):e9 (.str z) [.str (JO "and"),.str (JO "or"),.str (JO "not")]=isJ z:=rfl
section
variable {P : Ka} {w : Ku} {K : J7} {mg : Str -> JW JT} {base : KP}
noncomputable def sk:Sp:=λvs H Q _=>∃(L:JP Nat) (b:Nat) (k:Tk) (r:JP Tk),vs=[.str (sT L),.int ((b:Nat):Int)]/\L.length<=20000/\b<=L.length/\L.drop b=tl k r/\(∀ q∈r,gK q)/\
 (r=[]->∀ p H',bY H H'->rg H' p "end" .none L.length L.length->Q (.ref p) H')/\
 ∀ J U,r=J::U->∀ p H',bY H H'->rg H' p (og J) (mD J) (b+(cL k J).length) (b+(cL k J).length+(txt J).length)->Q (.ref p) H'
noncomputable abbrev yw:JP Str:=["_law_line","_law_at","_law_end","_law_word"]
theorem qD:da yw ["_law_line","_law_at"] (cG md):=⟨rfl,rfl,rfl,dkq,rfl,dkq,dkq⟩
theorem B2:(["_law_number_here"]:JP Str).Nodup:=dkq
seal cH PS PE PT PA PG PI cT cP in
theorem Iv{f fs fr:JR}{fd fds fdr:J2}(D:Df K mg "_law_piece" md f fd)(DR:Df K mg "_law_row_piece" nN fr fdr)(DS:Df K mg "_law_sign_kind" oE fs fds)(T:Txt mg):bX P w K mg base b7 3 f fd ["_law_line","_law_at"] sk:=by
 have GS:bX P w K mg base b7 2 fs fds ["_law_sign"] vG:=(yC DS).mono (by decide)
 have bS:=dY (p:="_law_sign") DS.F λ_ _ _ _ _ _ _=>rfl
 have GR:bX P w K mg base b7 2 fr fdr ["_law_line","_law_at"] wt:=Bp DR DS T
 have bR:=DR.F.binds (ps:=["_law_line","_law_at"]) λ_ _ _ _ _ _ us hl=>match us,hl with|[_,_],_=>rfl
 refine D.F.ok qD (λvs H Q E h=>?_) (λcdv A outer s H vs Q E hr h=>?_)
 ·obtain⟨L,b,k,r,rfl,_⟩:=h;rfl
 ·obtain⟨L,b,k,r,rfl,hl,hb,hd,hg,q1,q2⟩:=h;have al:(sT L).length=L.length:=du L;have sz:sizeLine=16777216:=Kv;obtain⟨b',aN,aO,au,av⟩:∃ b',b<=b'/\b'<=L.length/\(b'=b\/(b'=b+1/\b<L.length/\L.getD b 0=32))/\((r=[]/\b'=L.length)\/∃ J r',r=J::r'/\b'=b+(cL k J).length/\L.drop b'=txt J++tl J r'):=by
   cases r with
   |nil=>
    have:L.length<=b:=List.drop_eq_nil_iff.mp hd;exact⟨b,JY _,hb,.inl rfl,.inl ⟨rfl,by omega⟩⟩
   |cons J r'=>
    have ah:L.drop b=cL k J++(txt J++tl J r'):=hd;obtain⟨c,y,ec,_⟩:=qd (hg J (by simp));by_cases hs:k= .lp\/J= .rp
    ·have es:cL k J=[]:=J1 hs;rw[es] at ah;exact⟨b,JY _,hb,.inl rfl,.inr ⟨J,r',rfl,by rw[es];rfl,ah⟩⟩
    ·have es:cL k J=[32]:=if_neg hs;rw[es] at ah;have g:=gH (show L.drop b=32::(txt J++tl J r') from ah);exact⟨b+1,MU _,g.2,.inr ⟨rfl,g.2,g.1⟩,.inr ⟨J,r',rfl,by rw[es];rfl,iA (x:=[32]) ah⟩⟩
  have aB:b'<L.length->L.getD b' 0≠32:=λaf z=>by
   rcases av with ⟨_,e⟩|⟨J,r',e,_,e2⟩
   ·omega
   ·obtain⟨c,y,ec,hc,_⟩:=qd (hg J (by rw[e];simp));rw[ec] at e2;rw[(gH e2).1] at z;exact hc z
  obtain⟨e0,ww,zz,aP,aC,ai,aw,aD⟩:∃(e0:Nat) (ww zz:JP Nat),e0<=L.length/\(∀ J r',r=J::r'->lu J=false->e0=b'+(if jx J then 1 else 0)/\ww=lw J/\zz=lz J (tl J r'))/\L.drop e0=ww++zz/\ww.all dA=true/\(∀ c z',zz=c::z'->gI c=false):=by
   rcases av with ⟨e,e1⟩|⟨J,r',e,e1,e2⟩
   ·exact⟨L.length,[],[],JY _,(λJ r' z=>by rw[e] at z;cases z),by rw[Ms];rfl,rfl,(λc z' z=>by cases z)⟩
   ·cases hm:lu J with
    |true=>exact⟨L.length,[],[],JY _,(λk2 r2 z hz=>by rw[e] at z;injection z with z1 _;rw[<-z1,hm] at hz;cases hz),by rw[Ms];rfl,rfl,(λc z' z=>by cases z)⟩
    |false=>
     obtain⟨s1,s2,s3⟩:=shape (hg J (by rw[e];simp)) hm (tl J r') (λn _=>ni n r');have af:b'<L.length:=by
      obtain⟨c,y,ec,_⟩:=qd (hg J (by rw[e];simp));rw[ec] at e2;exact(gH e2).2
     refine⟨b'+(if jx J then 1 else 0),lw J,lz J (tl J r'),by split<;>omega,(λk2 r2 z hz=>by rw[e] at z;injection z with z1 z2;rw[<-z1,<-z2];exact⟨rfl,rfl,rfl⟩),?_,s2,s3⟩;rw[s1] at e2;cases hn:jx J with
     |true=>rw[hn] at e2;exact iA (x:=[126]) e2
     |false=>rw[hn] at e2;exact e2
  refine⟨_,b9 (jZ KZ (PT.imp (t':=λσ H' Q'=>∃ i:Nat,(i=b\/i=b')/\σ=[some (.str (sT L)),some (.int ((i:Nat):Int)),none,none]/\Q' (decide (i≠b')) H') (PW.pt (g8 (cx iQ (pv 1) (dF ip rfl T.len e8 (bU (pv 0) bV)) (cC _)) (gZ (cx cU (cK gE (pv 0) (pv 1) (λ_ _=>rfl)) b8 (cC _))))) ?m1) (b5 (cZ (i:=1) qD.nd rfl (Kh rfl) (cA eD (pv 1) bZ))))
   (b9 (cM (cx cU (pv 1) (dF ip rfl T.len e8 (bU (pv 0) bV)) (cC _)) (b5 (cy (dv (bU b8 (bU ib (bU (pv 1) (bU (pv 1) bV))))))) cY)
   (b9 (cM (cx cU (cK gE (pv 0) (pv 1) (λ_ _=>rfl)) b8 (cC _)) (b5 (cy (HF (cQ GR hr rfl DR.m DR.F.kp bR .nil cz (bU (pv 0) (bU (pv 1) bV)))))) cY)
   (b9 (cZ (i:=2) qD.nd rfl (Kh rfl) (cA eD (pv 1) (il mK rfl T.int jF (bU (ik cU (cK gE (pv 0) (pv 1) (λ_ _=>rfl)) b8 rfl) bV))))
   (b9 (jZ KZ (PT.imp (t':=λσ H' Q'=>∃(i:Nat),i<=ww.length/\σ=[some (.str (sT L)),some (.int ((b':Nat):Int)),some (.int ((e0+i:Nat):Int)),none]/\Q' (decide (i<ww.length)) H') (PW.pt (g8 (cx iQ (pv 2) (dF ip rfl T.len e8 (bU (pv 0) bV)) (cC _)) (gZ (cx cU (cQ GS hr rfl DS.m DS.F.kp bS .nil cz (bU (cK gE (pv 0) (pv 2) (λ_ _=>rfl)) bV)) b8 (cC _))))) ?m2) (b5 (cZ (i:=2) qD.nd rfl (Kh rfl) (cA eD (pv 2) bZ))))
   (b9 (cZ (i:=3) qD.nd rfl (Kh rfl) (iL LA Ow Ox w5 (gS gJ (pv 0) (fh (pv 1)) (fh (pv 2)))))
   (b9 (cM (cx cU (cK gE (pv 0) (pv 1) (λ_ _=>rfl)) b8 (cC _))
    (b9 (cM (cx kC (gS gJ (pv 3) (fh bZ) lZ) (jA (own:=1) (caps:=[]) (N:=["_law_number_here"]) (N0:=yw) (sc0:=cG md) rfl (kZ rfl T.range (bU bZ bV)) (λ_ _ _=>eX (i:=0) B2 rfl (Kh rfl)) (λ_ _ _=>jj)
      (λ_ _ _=>il tT rfl T.str mm (bU (pv 0) bV)) (iV (by decide)) rfl rfl dkq rfl dkq dkq rfl dkq) (by with_unfolding_all rfl))
     (b5 (cy (dv (bU b8 (bU (il Ff rfl T.int jF (bU (gS gJ (pv 3) (fh bZ) lZ) bV)) (bU (pv 1) (bU (pv 2) bV))))))) cY)
    pK) cY)
   (b9 (cM (cx cU (pv 2) (pv 1) (cC _)) (b5 (cy (dv (bU (cK fO (eZ (bU (cK gE (pv 0) (pv 1) (λ_ _=>rfl)) (bU b8 bV))) (il mK rfl T.int jF (bU (ik Bz (cK gE (pv 0) (pv 1) (λ_ _=>rfl)) b8 rfl) bV)) (λ_ _=>rfl)) (bU ib (bU (pv 1) (bU (cA eD (pv 1) bZ) bV))))))) cY)
   (b9 (cM (cx cU (gS gJ (pv 0) (fh (pv 2)) (fh (cA eD (pv 2) bZ))) b8 (cC _)) (b5 (cy (dv (bU b8 (bU (dv (bU b8 (bU (pv 3) bV))) (bU (pv 1) (bU (cA eD (pv 2) bZ) bV))))))) cY)
   (b9 (cM (cx kC (pv 3) (dv (bU b8 (bU b8 (bU b8 bV)))) (by with_unfolding_all rfl)) (b5 (cy (dv (bU (pv 3) (bU ib (bU (pv 1) (bU (pv 2) bV))))))) cY)
   (b5 (cy (dv (bU b8 (bU (dv (bU b8 (bU (pv 3) bV))) (bU (pv 1) (bU (pv 2) bV)))))))))))))))),?_⟩
  rotate_left 2
  ·refine jT (λσ H'=>H'=H/\∃ i:Nat,(i=b\/i=b')/\σ=[some (.str (sT L)),some (.int ((i:Nat):Int)),none,none]) (λσ _=>match σ with|[_,some (.int r),_,_]=>L.length-r.toNat|_=>0) ⟨rfl,b,.inl rfl,rfl⟩ ?_ ?_
   ·rintro σ H' ⟨rfl,i,hi,rfl⟩;refine⟨i,hi,rfl,?_⟩;by_cases aa:i=b'
    ·rw[JQ (λz=>z aa)];subst aa;refine cj ⟨_,rfl,_,rfl,_,rfl,dC (by rw[al];omega),rfl,_,rfl,?_⟩;rcases av with ⟨rfl,e⟩|⟨J,r',rfl,e,aj⟩
     ·rw[JS (by rw[al,e])];refine cg ⟨_,rfl,_,rfl,ie,λp hp=>q1 rfl p _ (cq hp) ⟨.non,?_,.non⟩⟩;rw[b6,e]
     ·obtain⟨c,y,ec,aK,aE,aF,ak⟩:=qd (hg J (by simp));have gd:=gH (show L.drop i=c::(y++tl J r') by rw[aj,ec];rfl);have hc:L[i]? =some c:=by rw[<-gd.1,List.getD_eq_getElem?_getD,List.getElem?_eq_getElem gd.2];rfl
      have ix:iz (sT L).cps.toList ((i:Nat):Int)=some c:=cJ (j:=i) (by simpa using hc)
      have l9:(sT L).length<=sizeLine:=dC (by rw[al];omega);rw[JQ (by rw[al];intro z;injection z with z;have:=gd.2;omega)];refine cj ⟨_,rfl,_,rfl,_,_,c,rfl,rfl,l9,ix,rfl,_,rfl,?_⟩;rw[show decide (V.str ⟨#[c]⟩=V.str (JO "\""))=decide (c=34) from gQ c 34];have q3:=q2 J r' rfl;rw[<-e] at q3;cases hm:lu J with
      |true=>
       rw[JS (aE hm)];have go:∀ ls:JP (JP Nat),L.drop i=34::(jn ls++34::tl J r')->(∀ w∈ls,gW w)->1<=ls.length->ls.length<=8->(hU (ls.map sT)=mD J)->(og J="plain")->(jn ls).length+2=(txt J).length->wt [.str (sT L),.int ((i:Nat):Int)] H' (λx H1=>∃ p y ys,x= .ref p/\cu K H1 p (y::ys)/\Q x H1) E:=λls h1 h2 h3 h4 h5 h6 h7=>by
        refine⟨L,i,ls,_,rfl,hl,h1,h2,h3,h4,λp H1 s1 hp=>?_⟩;obtain⟨v,I,ax⟩:=id hp;refine⟨p,_,_,rfl,cu.of I,q3 p H1 s1 ?_⟩;rw[h6,<-h5,<-h7];exact hp
       cases J with
       |leaf l=>
        cases l with
        |word w=>
         have hj:isJ (sT w)=true:=hm
         have et:txt (.leaf (.word w))=34::(w++[34]):=J1 hj;rw[et] at aj;exact cg ⟨_,rfl,_,rfl,go [w] (by rw[aj];show 34::(w++[34]++_)=_;rw[Kt];rfl) (λx hx=>by rw[List.mem_singleton.mp hx];exact hg (.leaf (.word w)) (by simp)) (JY 1) (J9 rfl) rfl rfl (by rw[et,JV,JU];rfl)⟩
        |start w=>cases hm
        |row ws=>
         have g:2<=ws.length/\ws.length<=8/\∀ w∈ws,gW w:=hg (.leaf (.row ws)) (by simp);exact cg ⟨_,rfl,_,rfl,go ws (by rw[aj];show 34::(jn ws++[34]++_)=_;rw[Kt];rfl) g.2.2 (by omega) g.2.1 (zy g.1) rfl (by show _=(34::(jn ws++[34])).length;rw[JV,JU];rfl)⟩
       |near _=>cases hm
       |no=>cases hm
       |and=>cases hm
       |or=>cases hm
       |lp=>cases hm
       |rp=>cases hm
      |false=>
       rw[JQ (aF hm)];obtain⟨t1,t2,t3⟩:=aC J r' rfl hm;refine cj ⟨_,rfl,_,rfl,_,rfl,_,_,c,rfl,rfl,l9,ix,rfl,.inr ⟨_,rfl,_,_,rfl,rfl,?_⟩⟩;rw[show decide (V.str ⟨#[c]⟩=V.str (JO "~"))=decide (c=126) from gQ c 126];have ee:((i:Nat):Int)+(if decide (c=126)=true then 1 else 0)=((e0+0:Nat):Int):=by
        rw[t1];cases hn:jx J with
        |true=>rw[JS (ak.mpr hn)];show(i:Int)+1=((i+1+0:Nat):Int);omega
        |false=>rw[JQ (λz=>by rw[ak.mp z] at hn;cases hn)];show(i:Int)+0=((i+0+0:Nat):Int);omega
       show hV 2 (V.int (((i:Nat):Int)+(if decide (c=126)=true then 1 else 0))) _ _ _;rw[ee];dsimp only[hV,List.set];refine jT (λσ H1=>H1=H'/\∃ j:Nat,j<=ww.length/\σ=[some (.str (sT L)),some (.int ((i:Nat):Int)),some (.int ((e0+j:Nat):Int)),none]) (λσ _=>match σ with|[_,_,some (.int r),_]=>L.length-r.toNat|_=>0) ⟨rfl,0,Ks _,rfl⟩ ?_ ?_
       ·rintro σ H1 ⟨rfl,j,hj,rfl⟩;refine⟨j,hj,rfl,?_⟩;by_cases af:j<ww.length
        ·rw[JS af];refine cg ⟨_,rfl,_,_,rfl,rfl,⟨rfl,j+1,af,rfl⟩,?_⟩;have:e0+ww.length<=L.length:=by
          have:=K9 Mw ai;rw[KH,JU] at this;omega
         show L.length-(((e0+j:Nat):Int)+1).toNat<L.length-(((e0+j:Nat):Int)).toNat;omega
        ·rw[JQ af];have aG:j=ww.length:=by omega
         subst aG;have aQ:e0+ww.length<=L.length:=by
          have:=K9 Mw ai;rw[KH,JU] at this;omega
         have ay:i<=e0+ww.length:=by rw[t1];split<;>omega
         have eW:RA.sl L i (e0+ww.length)=(if jx J then [126] else [])++ww:=by
          obtain⟨sh,_,_⟩:=shape (hg J (by simp)) hm (tl J r') (λn _=>ni n r');unfold RA.sl;rw[aj,sh,<-t2,t1];cases jx J with
          |true=>
           show List.take (i+1+ww.length-i) (126::(ww++_))=126::ww;rw[show i+1+ww.length-i=ww.length+1 by omega,List.take_succ_cons,L8]
          |false=>
           show List.take (i+0+ww.length-i) (ww++_)=ww;rw[show i+0+ww.length-i=ww.length by omega,L8]
         have aH:∀ d∈(if jx J then [126] else [])++ww,gC d=true:=λd hd=>by
          rcases List.mem_append.mp hd with h|h
          ·split at h
           ·rw[List.mem_singleton.mp h];decide +kernel
           ·cases h
          ·exact mM aw d h
         refine cj ⟨_,rfl,_,rfl,_,rfl,_,rfl,_,rfl,_,rfl,l9,rfl,_,rfl,rfl,?_,?_⟩
         ·rw[jh L ay (by omega),eW,du,JU];split
          ·show 1+_<=_;omega
          ·show 0+_<=_;omega
         rw[jh L ay (by omega),eW,ua aH];refine⟨_,rfl,_,rfl,_,_,c,rfl,rfl,l9,ix,rfl,_,rfl,?_⟩;rw[show decide (V.str ⟨#[c]⟩=V.str (JO "~"))=decide (c=126) from gQ c 126];cases hn:jx J with
         |true=>
          rw[JS (ak.mpr hn)];cases J with
          |near n=>
           have aL:n<=20:=hg (.near n) (by simp)
           have dg:=Jd n (by omega)
           have ao:Txt.slice (sT ((if true=true then [126] else [])++ww)) (some (1:Int)) none=sT (dE (n:Int)):=by
            rw[t2];exact Am (126::dE (n:Int)) (a:=1) (by rw[JV];omega)
           have wl:(sT ((if true=true then [126] else [])++ww)).length<=sizeLine:=by
            refine dC ?_;rw[du];show(126::ww).length<=_;rw[JV];omega
           refine cg ⟨_,rfl,_,rfl,_,rfl,wl,?_⟩;rw[ao];refine⟨21,rfl,by decide,by decide,sd (λm ys H3=>H3=H1/\ys=(LL m).map λn:Nat=>V.str (JO (toString (n:Int)))) (by rw[sz];decide) ⟨rfl,rfl⟩ ?_ ?_⟩
           ·rintro m ys H3 N aI ⟨rfl,rfl⟩ hN;refine g1 ?_;have aM:m<21:=aI;refine⟨_,rfl,_,rfl,?_,hN _ _ ⟨rfl,?_⟩⟩
            ·have h2:((0:Int)+(m:Nat)).natAbs<2 ^ 5:=by have:(2:Nat) ^ 5=32:=rfl;omega
             by_cases az:((0:Int)+(m:Nat)).natAbs=0
             ·rw[az];rw[Nat.log2_zero];decide
             ·exact Km ((Nat.log2_lt az).mpr h2) (by decide)
            ·rw[List.range_succ,J5];show _++[V.str (JO (toString ((0:Int)+(m:Nat))))]=_++[V.str (JO (toString ((m:Nat):Int)))];rw[OG]
           ·rintro ys H3 ⟨rfl,rfl⟩ _ p hp;have s1:bY H3 (upd H3 p (.lst ((LL 21).map λn:Nat=>V.str (JO (toString (n:Int)))))):=cq hp;have ep:upd H3 p (.lst ((LL 21).map λn:Nat=>V.str (JO (toString (n:Int))))) p=some (.lst ((LL 21).map λn:Nat=>V.str (JO (toString (n:Int))))):=b6;show vd _ false (.str (sT (dE (n:Int)))) (.ref p) (upd H3 p (.lst ((LL 21).map λn:Nat=>V.str (JO (toString (n:Int)))))) _;generalize upd H3 p (.lst ((LL 21).map λn:Nat=>V.str (JO (toString (n:Int)))))=H4 at s1 ep ⊢;refine⟨p,_,rfl,.inl (ck.of ep),rfl,dkq,_,rfl,?_⟩;show if e9 _ _=true then _ else _
            rw[dg.1];refine cg ⟨_,rfl,_,rfl,_,rfl,wl,?_⟩;rw[ao];refine⟨_,_,rfl,dg.2,by rw[du];have:=xt n (by omega);omega,_,rfl,_,rfl,ie,λu hu=>q3 u _ (s1.trans (cq hu)) ⟨.int n,?_,.int _⟩⟩;rw[b6];have:e0+ww.length=i+(txt (.near n)).length:=by
             rw[t1,t2];show i+1+(dE (n:Int)).length=i+(126::dE (n:Int)).length;rw[JV];omega
            rw[this];rfl
          |leaf _=>cases hn
          |no=>cases hn
          |and=>cases hn
          |or=>cases hn
          |lp=>cases hn
          |rp=>cases hn
         |false=>
          rw[JQ (λz=>by rw[ak.mp z] at hn;cases hn)];refine cj ⟨_,rfl,_,rfl,rfl,_,rfl,?_⟩;rw[hn] at t1;have aJ:e0=i:=t1;subst aJ;have brk:J= .lp\/J= .rp->ww=[]->(og J=⟨#[c]⟩)->(mD J= .none)->((txt J).length=1)->vT c=true->∀ p1,H1 p1=none->∀ H2,H2=upd H1 p1 (.lst [.str ⟨#[c]⟩,.str (JO "none")])->∀ p,H2 p=none->Q (.ref p) (upd H2 p (.tup [.str ⟨#[c]⟩,.non,.int ((e0:Nat):Int),.int (((e0:Nat):Int)+1)])):=λ_ _ h1 h2 h3 _ p1 I H2 eH p hp=>by
           subst eH;refine q3 p _ ((cq I).trans (cq hp)) ⟨.non,?_,by rw[h2];exact .non⟩;rw[b6,h1,h3];rfl
          by_cases ab:ww=[]
          ·have aA:J= .lp\/J= .rp:=by
            rw[t2] at ab;cases J with
            |leaf l=>
             cases l with
             |word w=>exact absurd ab (show gW w from hg (.leaf (.word w)) (by simp)).1
             |start w=>exact absurd ab (show gW w from hg (.leaf (.start w)) (by simp)).1
             |row ws=>cases hm
            |near n=>cases hn
            |no=>cases ab
            |and=>cases ab
            |or=>cases ab
            |lp=>exact .inl rfl
            |rp=>exact .inr rfl
           rw[ab,JS (by simp)];have facts:og J=⟨#[c]⟩/\mD J= .none/\(txt J).length=1/\vT c=true:=by
            rcases aA with h|h
            ·rw[h] at ec ⊢;injection ec with ec _;rw[<-ec];exact⟨rfl,rfl,rfl,dkq⟩
            ·rw[h] at ec ⊢;injection ec with ec _;rw[<-ec];exact⟨rfl,rfl,rfl,dkq⟩
           refine cg ⟨_,rfl,_,rfl,_,_,c,rfl,rfl,l9,ix,eJ,λp1 I=>⟨_,rfl,_,rfl,_,_,c,rfl,rfl,l9,ix,_,_,rfl,rfl,.inr ⟨_,rfl,?_⟩⟩⟩;rw[show(!(!(K7 (JO "()") ⟨#[c]⟩ 0 (JO "()").length 1).isEmpty))= !vT c from K9 (! ·) (Ng _ _),facts.2.2.2];refine⟨p1,_,0,.str ⟨#[c]⟩,rfl,rfl,ck.of b6,cJ (j:=0) rfl,_,rfl,_,rfl,_,_,rfl,rfl,ie,λp hp=>?_⟩;exact brk aA ab facts.1 facts.2.1 facts.2.2.1 facts.2.2.2 p1 I _ rfl p hp
          ·have wp:0<ww.length:=List.length_pos_iff.mpr ab;rw[JQ (by intro z;injection z with z;omega)];have wl:(sT L).length<=sizeLine:=l9;have ao:RA.sl L (e0+ww.length) (e0+ww.length+1)=zz.take 1:=by
            unfold RA.sl;rw[iA ai,Lj]
           refine cj ⟨_,rfl,_,rfl,_,rfl,_,rfl,_,_,rfl,rfl,((e0+ww.length+1:Nat):Int),rfl,_,rfl,l9,rfl,_,rfl,?_⟩;rw[jh L (by omega) (by omega),ao];show if decide (V.str ⟨(zz.take 1).toArray⟩=V.str (JO "*"))=true then _ else _
           rw[show decide (V.str ⟨(zz.take 1).toArray⟩=V.str (JO "*"))=decide (zz.take 1=[42]) from xh _ [42]];have aR:(if false=true then [126] else [])++ww=ww:=rfl;have ag:zz.take 1≠[42]->isJ (sT ww)=true->og J=sT ww->mD J= .none->(txt J).length=ww.length->∀ p1,H1 p1=none->∀ H2,H2=upd H1 p1 (.tup [.str (JO "and"),.str (JO "or"),.str (JO "not")])->∀ p,H2 p=none->Q (.ref p) (upd H2 p (.tup [.str (sT ww),.non,.int ((e0:Nat):Int),.int ((e0+ww.length:Nat):Int)])):=λ_ _ h1 h2 h3 p1 I H2 eH p hp=>by
            subst eH;refine q3 p _ ((cq I).trans (cq hp)) ⟨.non,?_,by rw[h2];exact .non⟩;rw[b6,h1,h3]
           have jc:∀(e1:ww=[110,111,116]\/ww=[97,110,100]\/ww=[111,114]),isJ (sT ww)=true:=λe1=>by rcases e1 with h|h|h<;>(rw[h];decide +kernel)
           cases J with
           |leaf l=>
            cases l with
            |start w=>
             have ez:zz=42::tl (.leaf (.start w)) r':=t3;rw[ez,JS (show(42::tl (.leaf (.start w)) r').take 1=[42] from rfl)];refine cg ⟨_,rfl,eJ,λp1 I=>⟨_,rfl,_,rfl,_,_,rfl,rfl,ie,λp hp=>?_⟩⟩;refine q3 p _ ((cq I).trans (cq hp)) ⟨.ref p1,?_,?_⟩
             ·have:((e0+ww.length:Nat):Int)+1=((e0+(txt (.leaf (.start w))).length:Nat):Int):=by
               have e1:(txt (.leaf (.start w))).length=ww.length+1:=by rw[t2];show(w++[42]).length=_;rw[JU];rfl
               rw[e1];omega
              rw[b6,<-this];rfl
             ·have U:ww=w:=t2;rw[<-U];exact .tup ((cq hp) _ _ b6) (.cons (.str _) (.cons (.str _) .nil))
            |word w=>
             have hj:isJ (sT w)=false:=hm
             have U:ww=w:=t2
             have ae:=(ka (y:=zz) (by rw[t3];exact ni (by intro z;cases z) r')).2;rw[JQ ae];refine cj ⟨_,rfl,fG,λp1 I=>⟨p1,_,rfl,.inr (cu.of b6),rfl,rfl,_,rfl,?_⟩⟩;show if e9 (.str (sT ww)) [.str (JO "and"),.str (JO "or"),.str (JO "not")]=true then _ else _
             rw[q8,U,hj];refine cj ⟨_,rfl,eJ,λp2 ax=>⟨_,rfl,_,rfl,ie,λp hp=>?_⟩⟩;refine q3 p _ (((cq I).trans (cq ax)).trans (cq hp)) ⟨.ref p2,?_,.tup ((cq hp) _ _ b6) (.cons (.str _) (.cons (.str _) .nil))⟩;have et:(txt (.leaf (.word w))).length=w.length:=by show(if isJ (sT w) then _ else w).length=_;rw[hj];rfl
             rw[b6,et];rfl
            |row ws=>cases hm
           |near n=>cases hn
           |no=>
            have U:ww=[110,111,116]:=t2
            have ae:=(ka (y:=zz) (by rw[t3];exact ni (by intro z;cases z) r')).2;rw[JQ ae];refine cj ⟨_,rfl,fG,λp1 I=>⟨p1,_,rfl,.inr (cu.of b6),rfl,rfl,_,rfl,?_⟩⟩;show if e9 (.str (sT ww)) [.str (JO "and"),.str (JO "or"),.str (JO "not")]=true then _ else _
            rw[q8,jc (.inl U)];exact cg ⟨_,rfl,_,rfl,_,rfl,ie,λp hp=>ag ae (jc (.inl U)) (by rw[U];rfl) rfl (by rw[U];rfl) p1 I _ rfl p hp⟩
           |and=>
            have U:ww=[97,110,100]:=t2
            have ae:=(ka (y:=zz) (by rw[t3];exact ni (by intro z;cases z) r')).2;rw[JQ ae];refine cj ⟨_,rfl,fG,λp1 I=>⟨p1,_,rfl,.inr (cu.of b6),rfl,rfl,_,rfl,?_⟩⟩;show if e9 (.str (sT ww)) [.str (JO "and"),.str (JO "or"),.str (JO "not")]=true then _ else _
            rw[q8,jc (.inr (.inl U))];exact cg ⟨_,rfl,_,rfl,_,rfl,ie,λp hp=>ag ae (jc (.inr (.inl U))) (by rw[U];rfl) rfl (by rw[U];rfl) p1 I _ rfl p hp⟩
           |or=>
            have U:ww=[111,114]:=t2
            have ae:=(ka (y:=zz) (by rw[t3];exact ni (by intro z;cases z) r')).2;rw[JQ ae];refine cj ⟨_,rfl,fG,λp1 I=>⟨p1,_,rfl,.inr (cu.of b6),rfl,rfl,_,rfl,?_⟩⟩;show if e9 (.str (sT ww)) [.str (JO "and"),.str (JO "or"),.str (JO "not")]=true then _ else _
            rw[q8,jc (.inr (.inr U))];exact cg ⟨_,rfl,_,rfl,_,rfl,ie,λp hp=>ag ae (jc (.inr (.inr U))) (by rw[U];rfl) rfl (by rw[U];rfl) p1 I _ rfl p hp⟩
           |lp=>exact absurd t2 ab
           |rp=>exact absurd t2 ab
       ·intro σ H' Q1 Q2 hq h;obtain⟨j,hj,e,q⟩:=h;exact⟨j,hj,e,hq _ _ q⟩
    ·rw[JS aa];have aq:i=b:=hi.resolve_right aa;subst aq;obtain⟨e1,e2,_⟩:=au.resolve_left (λz=>aa z.symm);refine cg ⟨_,rfl,_,_,rfl,rfl,⟨rfl,b',.inr rfl,?_⟩,?_⟩
     ·rw[e1];rfl
     ·show L.length-((i:Int)+1).toNat<L.length-((i:Int)).toNat;omega
   ·intro σ H' Q1 Q2 hq h;obtain⟨i,hi,e,q⟩:=h;exact⟨i,hi,e,hq _ _ q⟩
  ·rintro σ H' Q' ⟨i,hi,rfl,q⟩;refine⟨_,rfl,_,rfl,_,rfl,dC (by rw[al];omega),_,_,rfl,rfl,_,rfl,?_⟩;rw[al];by_cases af:i<L.length
   ·rw[JS (show(i:Int)<(L.length:Int) by omega)];have hc:L[i]? =some (L.getD i 0):=by rw[List.getD_eq_getElem?_getD,List.getElem?_eq_getElem af];rfl
    refine cg ⟨_,rfl,_,rfl,_,_,L.getD i 0,rfl,rfl,dC (by rw[al];omega),cJ (j:=i) (by simpa using hc),rfl,_,rfl,?_⟩;rw[show decide (V.str ⟨#[L.getD i 0]⟩=V.str (JO " "))=decide (L.getD i 0=32) from gQ _ 32];by_cases aa:i=b'
    ·rw[JQ (λz=>z aa)] at q;rw[JQ (by rw[aa];exact aB (by omega))];exact q
    ·rw[JS aa] at q;have aq:i=b:=hi.resolve_right aa;obtain⟨e1,e2,e3⟩:=au.resolve_left (λz=>aa (by rw[aq,z]));rw[JS (by rw[aq];exact e3)];exact q
   ·rw[JQ (show ¬ (i:Int)<(L.length:Int) by omega)];have aa:i=b':=by
     rcases hi with h|h
     ·rcases au with h2|⟨_,h2,_⟩
      ·omega
      ·omega
     ·exact h
    rw[JQ (λz=>z aa)] at q;exact cj q
  ·rintro σ H' Q' ⟨i,hi,rfl,q⟩;have he:e0+ww.length<=L.length:=by
    have:=K9 Mw ai;rw[KH,JU] at this;omega
   refine⟨_,rfl,_,rfl,_,rfl,dC (by rw[al];omega),_,_,rfl,rfl,_,rfl,?_⟩;rw[al];by_cases af:e0+i<L.length
   ·rw[JS (show((e0+i:Nat):Int)<(L.length:Int) by omega)];have hc:L[e0+i]? =some (L.getD (e0+i) 0):=by rw[List.getD_eq_getElem?_getD,List.getElem?_eq_getElem af];rfl
    refine cg ⟨_,rfl,_,rfl,_,_,L.getD (e0+i) 0,rfl,rfl,dC (by rw[al];omega),cJ (j:=e0+i) (by simpa using hc),_,rfl,rfl,_,rfl,?_⟩;rw[uk];have ed:L.drop (e0+i)=ww.drop i++zz:=by rw[<-M0,ai,NG hi]
    by_cases ar:i<ww.length
    ·rw[JS ar] at q;rw[Lb ar] at ed;rw[(gH ed).1,z6 (List.all_eq_true.mp aw _ (M5 ar))];exact q
    ·rw[JQ ar] at q;rw[MD (show ww.length<=i by omega),NL] at ed;cases zz with
     |nil=>rw[List.drop_eq_nil_iff] at ed;omega
     |cons d z'=>
      rw[(gH ed).1,aD d z' rfl];exact q
   ·rw[JQ (show ¬ ((e0+i:Nat):Int)<(L.length:Int) by omega)];rw[JQ (by omega)] at q;exact cj q
end
open RA (sl dj fq Lf Tr Tk wr brk nb Sg Ls putAll iK dP eN fK)
mutual
inductive Pl : Kf -> Prop
 |str (x : Str) : Pl (.str x)
 |int (i : Int) : Pl (.int i)
 |tup {ds : JP Kf} : oy ds -> Pl (.tuple ds)
inductive oy : JP Kf -> Prop
 |nil : oy []
 |cons {d : Kf} {ds : JP Kf} : Pl d -> oy ds -> oy (d :: ds)
end
mutual
theorem z4 : ∀ {a b : Kf}, Pl a -> Pl b -> Nx a b = true -> a = b
 |_, _, .str x, .str y, h => by have : x = y := eq_of_beq h; rw[this]
 |_, _, .str x, .int i, h => by cases h
 |_, _, .str x, .tup r, h => by cases h
 |_, _, .int x, .int y, h => by have : x = y := eq_of_beq h; rw[this]
 |_, _, .int x, .str i, h => by cases h
 |_, _, .int x, .tup r, h => by cases h
 |_, _, .tup r, .str y, h => by cases h
 |_, _, .tup r, .int i, h => by cases h
 |_, _, .tup r, .tup s, h => by rw[x6 r s h]
theorem x6 : ∀ {a b : JP Kf}, oy a -> oy b -> PyData.eqvAll a b = true -> a = b
 |_, _, .nil, .nil, _ => rfl
 |_, _, .nil, .cons _ _, h => by cases h
 |_, _, .cons _ _, .nil, h => by cases h
 |_, _, .cons p r, .cons p' r', h => by
  have h' : (Nx _ _&&PyData.eqvAll _ _) = true := h;rw[Lc] at h';rw[z4 p p' h'.1, x6 r r' h'.2]
end
theorem vK:∀ l:Lf,Pl (dL l)
 |.word w=> .tup (.cons (.str _) (.cons (.str _) .nil))
 |.start w=> .tup (.cons (.str _) (.cons (.str _) .nil))
 |.row ws=> .tup (.cons (.str _) (.cons (.tup (by
   induction ws with
   |nil=>exact .nil
   |cons w ws J=>exact .cons (.str _) J)) .nil))
theorem mJ:∀ t:Tr,Pl (dT t)
 |.leaf l=>vK l
 |.near a b n=> .tup (.cons (.str _) (.cons (vK a) (.cons (vK b) (.cons (.int _) .nil))))
 |.both a b=> .tup (.cons (.str _) (.cons (mJ a) (.cons (mJ b) .nil)))
 |.either a b=> .tup (.cons (.str _) (.cons (mJ a) (.cons (mJ b) .nil)))
 |.no a=> .tup (.cons (.str _) (.cons (mJ a) .nil))
theorem C2{a b:Tr}(h:a≠b):Nx (dT a) (dT b)=false:=by
 cases e:Nx (dT a) (dT b) with
 |false=>rfl
 |true=>exact absurd (EM a b (z4 (mJ a) (mJ b) e)) h
theorem CU(i:Int)(t:Tr):Nx (.int i) (dT t)=false:=by rw[gG];rfl
noncomputable def fX:Tr->Prop
 |.leaf l=>gL l|.near a b _=>gL a/\gL b|.both a b=>fX a/\fX b|.either a b=>fX a/\fX b|.no a=>fX a
theorem tZ{w:JP Nat}(h:gW w):KW (sT w)=true:=by
 unfold KW;rw[<-Array.all_toList];refine List.all_eq_true.mpr λc J=>?_
 have:=(sO (mM h.2 c (by simpa using J))).1;exact JS (by omega)
theorem wH:∀{l:Lf},gL l->(dL l).canLay0=true
 |.word w,h=>by
  show(KW "word" && (KW (sT w)&&true))=true;rw[tZ h,show KW "word"=true by decide +kernel];rfl
 |.start w,h=>by
  show(KW "start" && (KW (sT w)&&true))=true;rw[tZ h,show KW "start"=true by decide +kernel];rfl
 |.row ws,h=>by
  have:∀ l:JP (JP Nat),(∀ w∈l,gW w)->LM (l.map λw=> .str (sT w))=true:=λl=>by
   induction l with
   |nil=>intro _;rfl
   |cons w l J=>
    intro h;show(KW (sT w)&&LM (l.map λw=> .str (sT w)))=true;rw[tZ (h w (by simp)),J λy U=>h y (J0 _ U)];rfl
  show(KW "row" && (LM (ws.map λw=> .str (sT w))&&true))=true;rw[this ws h.2.2,show KW "row"=true by decide +kernel];rfl
theorem kc:∀{t:Tr},fX t->(dT t).canLay0=true
 |.leaf l,h=>wH h
 |.near a b n,h=>by
  show(KW "near" && ((dL a).canLay0&&((dL b).canLay0&&(true&&true))))=true;rw[wH h.1,wH h.2,show KW "near"=true by decide +kernel];rfl
 |.both a b,h=>by
  show(KW "both" && ((dT a).canLay0&&((dT b).canLay0&&true)))=true;rw[kc h.1,kc h.2,show KW "both"=true by decide +kernel];rfl
 |.either a b,h=>by
  show(KW "either" && ((dT a).canLay0&&((dT b).canLay0&&true)))=true;rw[kc h.1,kc h.2,show KW "either"=true by decide +kernel];rfl
 |.no a,h=>by
  show(KW "not" && ((dT a).canLay0&&true))=true;rw[kc (t:=a) h,show KW "not"=true by decide +kernel];rfl
theorem lU:∀{t:At},Gd t->fX t.tr
 |.word z,h=>jy (a:= .word z) rfl h
 |.start z,h=>jy (a:= .start z) rfl h
 |.row z,h=>jy (a:= .row z) rfl h
 |.near a b n,h=>⟨jy h.1.1 h.2.2.1,jy h.1.2 h.2.2.2⟩
 |.both a b,h=>⟨lU h.1,lU h.2⟩
 |.either a b,h=>⟨lU h.1,lU h.2⟩
 |.no a,h=>lU (t:=a) h
theorem Jt{g:Sg}{A A':JP Tr}(h:∀ t∈A,fX t)(e:iK g A=some A'):∀ t∈A',fX t:=by
 cases g with
 |no=>
  cases A with
  |nil=>cases e
  |cons a r=>
   cases e;intro t ht;rcases List.mem_cons.mp ht with rfl|ht
   ·exact h a (by simp)
   ·exact h t (J0 _ ht)
 |lp=>cases A<;>cases e
 |both=>
  cases A with
  |nil=>cases e
  |cons y r=>
   cases r with
   |nil=>cases e
   |cons x r=>
    cases e;intro t ht;rcases List.mem_cons.mp ht with rfl|ht
    ·exact⟨h x (by simp),h y (by simp)⟩
    ·exact h t (by simp[ht])
 |either=>
  cases A with
  |nil=>cases e
  |cons y r=>
   cases r with
   |nil=>cases e
   |cons x r=>
    cases e;intro t ht;rcases List.mem_cons.mp ht with rfl|ht
    ·exact⟨h x (by simp),h y (by simp)⟩
    ·exact h t (by simp[ht])
theorem o9{n:Nat}:∀{S:JP Sg} {A A':JP Tr} {S':JP Sg},(∀ t∈A,fX t)->putAll n A S=some (A',S')->∀ t∈A',fX t
 |[],A,A',S',h,e=>by cases e;exact h
 |g::S,A,A',S',h,e=>by
  have J:(if n<=RA.bd g then (iK g A).bind λA'=>putAll n A' S else some (A,g::S))=some (A',S'):=e;split at J
  ·cases e1:iK g A with
   |none=>rw[e1] at J;cases J
   |some U=>rw[e1] at J;exact o9 (Jt h e1) J
  ·cases J;exact h
theorem pV{n:Nat}:∀{S:JP Sg} {A A':JP Tr} {S':JP Sg},putAll n A S=some (A',S')->A'.length<=A.length/\S'.length<=S.length
 |[],A,A',S',e=>by cases e;exact⟨JY _,JY _⟩
 |g::S,A,A',S',e=>by
  have J:(if n<=RA.bd g then (iK g A).bind λA'=>putAll n A' S else some (A,g::S))=some (A',S'):=e;split at J
  ·cases e1:iK g A with
   |none=>rw[e1] at J;cases J
   |some U=>
    rw[e1] at J;have I:=pV (A:=U) J;have:U.length<=A.length:=by
     cases g with
     |no=>cases A with|nil=>cases e1|cons a r=>cases e1;exact JY _
     |lp=>cases A<;>cases e1
     |both=>cases A with|nil=>cases e1|cons y r=>cases r with|nil=>cases e1|cons x r=>cases e1;simp
     |either=>cases A with|nil=>cases e1|cons y r=>cases r with|nil=>cases e1|cons x r=>cases e1;simp
    rw[JV];omega
  ·cases J;exact⟨JY _,JY _⟩
open RA (Lf Tr Tk wr brk Sg Ls putAll iK)
noncomputable def dU:Sg->Str
 |.either=>"either" |.both=>"both" |.no=>"not" |.lp=>"("
noncomputable def pX:Sg->Int
 |.either=>0|.both=>1|.no=>2|.lp=> -1
theorem BS(g:Sg):(RA.bd g:Int)=pX g+1:=by cases g<;>rfl
noncomputable def gz(H:Hp)(g:JR)(S:JP Sg):Prop:=H g=some (.lst ((S.reverse.map dU).map V.str))
noncomputable def gM(H:Hp)(a:JR)(A:JP Tr):Prop:=lJ H a (A.reverse.map dT)
noncomputable def jo:JP (Key×V):=[(.inr "either",.int 0),(.inr "both",.int 1),(.inr "not",.int 2),(.inr "(",.int (-1))]
theorem E1(x:Sg):eM jo (.inr (dU x))=some (.int (pX x)):=by cases x<;>decide +kernel
theorem Ef(x:Sg):KW (dU x)=true:=by cases x<;>exact dkq
theorem zY:∀(S:JP Sg),LM (S.map λx=> .str (dU x))=true
 |[]=>rfl
 |x::S=>by
  show(KW (dU x)&&LM (S.map λx=> .str (dU x)))=true;rw[Ef,zY S];rfl
theorem yK{l:KS}(G:Hp):∀ z:JP Str,cV l G (z.map V.str) (z.map .str)
 |[]=> .nil
 |x::z=> .cons (.str x) (yK G z)
theorem eV.trans {p q:JR}{H H1 H2:Hp}(a:eV p q H H1)(b:eV p q H1 H2):eV p q H H2:=λc u n m e=>b c u n m (a c u n m e)
theorem eV.of {p q:JR}{H H':Hp}(s:bY H H'):eV p q H H':=λ_ _ _ _ e=>s _ _ e
theorem lJ.same {H H':Hp}{a:JR}{ds:JP Kf}(h:lJ H a ds)(s:bY H H'):lJ H' a ds:=by
 obtain⟨vs,h1,h2⟩:=h;exact⟨vs,s _ _ h1,h2.same s⟩
section
variable {P : Ka} {w : Ku} {K : J7} {mg : Str -> JW JT} {base : KP}
noncomputable def uY:Sp:=λvs H Q _=>∃(a g:JR) (i:Int) (n:Nat) (A A':JP Tr) (S J:JP Sg),vs=[.ref a,.ref g,.int i]/\i+1=(n:Int)/\a≠g/\gM H a A/\gz H g S/\A.length<=10000/\S.length<=10000/\putAll n A S=some (A',J)/\
 ∀ H',eV a g H H'->gM H' a A'->gz H' g J->Q .non H'
noncomputable abbrev Eg:JP Str:=["_law_asks","_law_signs","_law_least","_law_binds"]
theorem A4:da Eg ["_law_asks","_law_signs","_law_least"] (cG mY):=⟨rfl,rfl,rfl,dkq,rfl,dkq,dkq⟩
seal cH PS PE PT PA PG PI cT cP in
theorem yD{f fp:JR}{fd fdp:J2}(D:Df K mg "_law_put_all" mY f fd)(DP:Df K mg "_law_put" ph fp fdp):bX P w K mg base b7 2 f fd ["_law_asks","_law_signs","_law_least"] uY:=by
 have GP:bX P w K mg base b7 1 fp fdp ["_law_asks","_law_signs"] xm:=Ht DP
 have bP:=DP.F.binds (ps:=["_law_asks","_law_signs"]) λ_ _ _ _ _ _ us hl=>match us,hl with|[_,_],_=>rfl
 refine D.F.ok A4 (λvs H Q E h=>?_) (λcdv A0 outer s H vs Q E hr h=>?_)
 ·obtain⟨a,g,i,n,A,A',S,S',rfl,_⟩:=h;rfl
 ·obtain⟨a,g,i,n,A,A',S,S',rfl,az,af,hA,hS,lA,lS,hp,q⟩:=h;have hu:(A0.deeper (Mz "_law_put_all" (cG mY) s.heap.objs.size f cdv)).units+1<Pc:=by have:=hr.un;omega
  have sz:sizeLine=16777216:=Kv;refine⟨_,b9 (cZ (i:=3) A4.nd rfl (Kh rfl) (ID (qW b8 bZ (qW b8 bZ (qW b8 bZ (qW b8 (mS lK bZ) B6)))) rfl rfl (by intro z;cases z) (by decide)))
   (b5 (jZ KZ (PT.imp (t':=λσ H' Q'=>∃(d:JR) (S:JP Sg),σ=[some (.ref a),some (.ref g),some (.int i),some (.ref d)]/\H' d=some (.dK jo)/\gz H' g S/\S.length<=10000/\∀ ao,bY H' ao->Q' (match S with|[]=>false|x::_=>decide (i<=pX x)) ao)
     (PW.pt (g8 (cx (sJ hr.units100) (pv 1) (eZ bV) (cC _)) (gZ (cx BA (Gg hu (pv 3) (cK fO (pv 1) (mS lK bZ) (λ_ _=>rfl)) (λ_ _=>rfl)) (pv 2) (cC _))))) ?mC)
    (b5 (e7 (cQ GP hr rfl DP.m DP.F.kp bP .nil cz (bU (pv 0) (bU (pv 1) bV))))))),?_⟩
  rotate_left
  ·refine λd hd=>⟨_,rfl,b6,[(.inr "either",.int 0),(.inr "both",.int 1),(.inr "not",.int 2),(.inr "(",.int (-1))],rfl,by decide,?_⟩
   have em:oH [] [((.inr "either":Key),V.int 0),(.inr "both",.int 1),(.inr "not",.int 2),(.inr "(",.int (-1))]=jo:=by rfl
   rw[em];have s1:bY H (upd (upd H d (.dK [])) d (.dK jo)):=λz u ez=>by rw[cF (dI ez hd),cF (dI ez hd)];exact ez
   have ed:upd (upd H d (.dK [])) d (.dK jo) d=some (.dK jo):=b6;generalize upd (upd H d (.dK [])) d (.dK jo)=H1 at s1 ed ⊢;have aq:d≠a/\d≠g:=by
    obtain⟨us,ha,_⟩:=hA;exact⟨(λz=>by rw[z,ha] at hd;cases hd),(λz=>by rw[z,show H g=_ from hS] at hd;cases hd)⟩
   dsimp only[hV,L2.start,List.set];refine jT (λσ H'=>σ=[some (.ref a),some (.ref g),some (.int i),some (.ref d)]/\H' d=some (.dK jo)/\eV a g H H'/\∃(I:JP Tr) (S1:JP Sg),putAll n I S1=some (A',S')/\gM H' a I/\gz H' g S1/\I.length<=10000/\S1.length<=10000) (λ_ H'=>match H' g with|some (.lst xs)=>xs.length|_=>0) ⟨rfl,ed,eV.of s1,A,S,hp,hA.same s1,s1 _ _ hS,lA,lS⟩ ?_ ?_
   ·rintro σ H' ⟨rfl,ar,hB,I,S1,au,aw,aa,ag,av⟩;refine⟨d,S1,rfl,ar,aa,av,λH2 s2=>?_⟩;have ah:=aw.same s2;have ai:gz H2 g S1:=s2 _ _ aa;cases S1 with
    |nil=>
     cases au;exact cj (q H2 (hB.trans (eV.of s2)) ah ai)
    |cons x U=>
     have ab:(if n<=RA.bd x then (iK x I).bind λA'=>putAll n A' U else some (I,x::U))=some (A',S'):=au
     have aA:=BS x;by_cases hx:n<=RA.bd x
     ·rw[J1 hx] at ab;have ax:decide (i<=pX x)=true:=JS (by omega);cases e1:iK x I with
      |none=>rw[e1] at ab;cases ab
      |some A2=>
       rw[e1] at ab;have ay:putAll n A2 U=some (A',S'):=ab;have eS:((x::U).reverse.map dU)=U.reverse.map dU++[dU x]:=by rw[Ke,J5];rfl
       have aj:H2 g=some (.lst ((U.reverse.map dU++[dU x]).map V.str)):=by rw[<-eS];exact ai
       rw[JV] at av;have fin:∀(B:JP Tr),A2=B->B.length<=10000->∀ H3,eV a g H2 H3->H3 g=some (.lst ((U.reverse.map dU).map V.str))->lJ H3 a (B.reverse.map dT)->
         (([some (.ref a),some (.ref g),some (.int i),some (.ref d)]:L2.St)=[some (.ref a),some (.ref g),some (.int i),some (.ref d)]/\H3 d=some (.dK jo)/\eV a g H H3/\∃(I:JP Tr) (S1:JP Sg),putAll n I S1=some (A',S')/\gM H3 a I/\gz H3 g S1/\I.length<=10000/\S1.length<=10000)/\(match H3 g with|some (.lst xs)=>xs.length|_=>0)<(match H' g with|some (.lst xs)=>xs.length|_=>0):=λB eB lB H3 b3 J ae=>by
        subst eB;refine⟨⟨rfl,b3 _ _ aq.1 aq.2 (s2 _ _ ar),(hB.trans (eV.of s2)).trans b3,A2,U,ay,ae,J,lB,by omega⟩,?_⟩;rw[J,show H' g=_ from aa];simp
       obtain⟨us,ha,ak⟩:=ah;refine oj ax ⟨_,rfl,_,rfl,?_⟩;cases x with
       |lp=>cases I<;>cases e1
       |no=>
        cases I with
        |nil=>cases e1
        |cons y r=>
         cases e1;rw[JV] at ag;exact⟨a,g,r.reverse.map dT,_,U.reverse.map dU,_,_,rfl,af,aj,⟨us,ha,ak⟩,by rw[JX,K8,JV];omega,.inl ⟨rfl,dT y,by rw[Ke,J5];rfl,rfl⟩,λH3 b3 J ae=>fin _ rfl (by rw[JV];omega) H3 b3 J (by rw[Ke,J5];exact ae)⟩
       |both=>
        cases I with
        |nil=>cases e1
        |cons y r=>
         cases r with
         |nil=>cases e1
         |cons z r=>
          cases e1;rw[JV,JV] at ag;exact⟨a,g,r.reverse.map dT,_,U.reverse.map dU,_,_,rfl,af,aj,⟨us,ha,ak⟩,by rw[JX,K8,JV,JV];omega,.inr ⟨dkq,dT z,dT y,by rw[Ke,Ke,J5,J5];rfl,rfl⟩,λH3 b3 J ae=>fin _ rfl (by rw[JV];omega) H3 b3 J (by rw[Ke,J5];exact ae)⟩
       |either=>
        cases I with
        |nil=>cases e1
        |cons y r=>
         cases r with
         |nil=>cases e1
         |cons z r=>
          cases e1;rw[JV,JV] at ag;exact⟨a,g,r.reverse.map dT,_,U.reverse.map dU,_,_,rfl,af,aj,⟨us,ha,ak⟩,by rw[JX,K8,JV,JV];omega,.inr ⟨dkq,dT z,dT y,by rw[Ke,Ke,J5,J5];rfl,rfl⟩,λH3 b3 J ae=>fin _ rfl (by rw[JV];omega) H3 b3 J (by rw[Ke,J5];exact ae)⟩
     ·rw[if_neg hx] at ab;cases ab;exact eE (b:=decide (i<=pX x)) (JQ (by omega)) (q H2 (hB.trans (eV.of s2)) ah ai)
   ·rintro σ H' Q1 Q2 hq ⟨d,S,e1,e2,e3,e4,e5⟩;exact⟨d,S,e1,e2,e3,e4,λH2 s2=>hq _ _ (e5 H2 s2)⟩
  ·rintro σ H' Q' ⟨d,S,rfl,hd,hS,lS,q⟩;refine⟨_,rfl,Ks _,λp hp=>?_⟩;have s1:bY H' (upd H' p (.lst [])):=cq hp;have ep:upd H' p (.lst []) p=some (.lst []):=b6;have q1:=q _ s1;generalize upd H' p (.lst [])=H1 at s1 ep q1 ⊢;have aa:H1 g=_:=s1 _ _ hS;refine⟨.list ((S.reverse.map dU).map .str),.list [],(cD.lst (l:=true) rfl aa (yK _ _)).dt,(cD.lst (l:=true) rfl ep .nil).dt,?_,rfl,?_,_,rfl,?_⟩
   ·show LM ((S.reverse.map dU).map .str)=true;rw[LB];exact zY _
   ·exact Kj (LV _ _) (by decide)
   ·cases S with
    |nil=>exact cj q1
    |cons x U=>
     have eS:(((x::U).reverse.map dU).map V.str)=(U.reverse.map dU).map V.str++[.str (dU x)]:=by rw[Ke,J5,J5];rfl
     have en:(!PyData.eqv (.list (((x::U).reverse.map dU).map .str)) (.list []))=true:=by
      rw[Ke,J5,J5];cases (U.reverse.map dU).map MC<;>rfl
     rw[en];rw[eS] at aa;refine cg ⟨_,rfl,_,rfl,_,rfl,g,_,_,_,rfl,rfl,ck.of aa,Bc _ _,d,_,rfl,.inl ⟨jo,.inr (dU x),.inl (s1 _ _ hd),rfl,(E1 x).symm⟩,_,rfl,_,_,rfl,rfl,_,rfl,?_⟩;exact q1
end
noncomputable def k8:Lf->At
 |.word w=> .word (sT w)|.start w=> .start (sT w)|.row ws=> .row (ws.map sT)
noncomputable def atT:Tr->At
 |.leaf l=>k8 l|.near a b n=> .near (k8 a) (k8 b) n|.both a b=> .both (atT a) (atT b)|.either a b=> .either (atT a) (atT b)|.no a=> .no (atT a)
theorem pQ(l:Lf):(k8 l).told=dL l:=by
 cases l with
 |word w=>rfl
 |start w=>rfl
 |row ws=>show Ld [_,.tuple ((ws.map sT).map .str)]=_;rw[LB];rfl
theorem jk:∀ t:Tr,(atT t).told=dT t
 |.leaf l=>pQ l
 |.near a b n=>by show Ld [_,(k8 a).told,(k8 b).told,_]=_;rw[pQ,pQ];rfl
 |.both a b=>by show Ld [_,(atT a).told,(atT b).told]=_;rw[jk a,jk b];rfl
 |.either a b=>by show Ld [_,(atT a).told,(atT b).told]=_;rw[jk a,jk b];rfl
 |.no a=>by show Ld [_,(atT a).told]=_;rw[jk a];rfl
noncomputable def i7:Tr->JP Tr
 |.leaf _=>[]|.near a b _=>[.leaf a,.leaf b]|.both a b=>[a,b]|.either a b=>[a,b]|.no a=>[a]
noncomputable def d0:Tr->Nat
 |.leaf _=>1|.near _ _ _=>3|.both a b=>1+(d0 a+d0 b)|.either a b=>1+(d0 a+d0 b)|.no a=>1+d0 a
theorem ES(t:Tr):(atT t).kids.map At.told=(i7 t).map dT:=by
 cases t with
 |leaf l=>cases l<;>rfl
 |near a b n=>show [(k8 a).told,(k8 b).told]=[dL a,dL b];rw[pQ,pQ]
 |both a b=>show [(atT a).told,(atT b).told]=[dT a,dT b];rw[jk,jk]
 |either a b=>show [(atT a).told,(atT b).told]=[dT a,dT b];rw[jk,jk]
 |no a=>show [(atT a).told]=[dT a];rw[jk]
theorem kids_many(t:Tr):d0 t=1+((i7 t).map d0).sum:=by
 cases t with
 |leaf l=>rfl
 |near a b n=>rfl
 |both a b=>show 1+(d0 a+d0 b)=1+(d0 a+(d0 b+0));omega
 |either a b=>show 1+(d0 a+d0 b)=1+(d0 a+(d0 b+0));omega
 |no a=>show 1+d0 a=1+(d0 a+0);omega
theorem kids_dep{t k:Tr}(h:k∈i7 t):k.dep+1<=t.dep:=by
 cases t with
 |leaf l=>cases h
 |near a b n=>
  have h':k∈[Tr.leaf a,.leaf b]:=h;simp only[L5,LW,N4] at h';rcases h' with rfl|rfl<;>exact JY 1
 |both a b=>
  have h':k∈[a,b]:=h;simp only[L5,LW,N4] at h';show _<=max a.dep b.dep+1;rcases h' with rfl|rfl<;>omega
 |either a b=>
  have h':k∈[a,b]:=h;simp only[L5,LW,N4] at h';show _<=max a.dep b.dep+1;rcases h' with rfl|rfl<;>omega
 |no a=>rw[List.mem_singleton.mp (show k∈[a] from h)];exact JY _
theorem HX{t k:Tr}(g:fX t)(h:k∈i7 t):fX k:=by
 cases t with
 |leaf l=>cases h
 |near a b n=>
  have h':k∈[Tr.leaf a,.leaf b]:=h;simp only[L5,LW,N4] at h';rcases h' with rfl|rfl
  ·exact g.1
  ·exact g.2
 |both a b=>
  have h':k∈[a,b]:=h;simp only[L5,LW,N4] at h';rcases h' with rfl|rfl
  ·exact g.1
  ·exact g.2
 |either a b=>
  have h':k∈[a,b]:=h;simp only[L5,LW,N4] at h';rcases h' with rfl|rfl
  ·exact g.1
  ·exact g.2
 |no a=>rw[List.mem_singleton.mp (show k∈[a] from h)];exact g
theorem IM(t:Tr):(i7 t).length<=2:=by cases t<;>exact J9 rfl
noncomputable def wD(x:Tr×Nat):Kf:= .tuple [dT x.1,.int (x.2:Nat)]
theorem xX:∀{W:JP (Tr×Nat)},(∀ x∈W,fX x.1)->LM (W.map wD)=true
 |[],_=>rfl
 |x::W,h=>by
  show(((dT x.1).canLay0&&(true&&true))&&LM (W.map wD))=true;rw[kc (h x (by simp)),xX λy J=>h y (J0 _ J)];rfl
noncomputable def WT(H:Hp)(q:JR)(y:Tr×Nat):Prop:=∃ v,H q=some (.tup [v,.int ((y.2:Nat):Int)])/\cD false H v (dT y.1)
theorem WT.tt {H H':Hp}{q:JR}{y:Tr×Nat}(h:WT H q y)(t:TT H H'):WT H' q y:=by
 obtain⟨v,h1,h2⟩:=h;exact⟨v,t _ _ h1,h2.tups t⟩
theorem yQ{H:Hp}:∀{qs:JP JR} {W:JP (Tr×Nat)},Lo (WT H) qs W->cV true H (qs.map V.ref) (W.map wD)
 |_,_,.nil=> .nil
 |_,_,.cons h r=>by
  obtain⟨v,h1,h2⟩:=h;exact .cons (.tup h1 (.cons h2.any (.cons (.int _) .nil))) (yQ r)
theorem zO{α β:Type}{F:α->β->Prop}:∀{m:JP β} {l:JP α} {b:β},Lo F l (m++[b])->∃ l' a,l=l'++[a]/\Lo F l' m/\F a b
 |[],_,_,.cons h .nil=>⟨[],_,rfl,.nil,h⟩
 |_::m,_,_,.cons h r=>by
  obtain⟨l',a,rfl,r1,r2⟩:=zO (m:=m) r;exact⟨_::l',a,rfl,.cons h r1,r2⟩
theorem qU{α β:Type}{F:α->β->Prop}:∀{l l':JP α} {m m':JP β},Lo F l m->Lo F l' m'->Lo F (l++l') (m++m')
 |_,_,_,_,.nil,h=>h
 |_,_,_,_,.cons h r,g=> .cons h (qU r g)
theorem k9{α β:Type}{F G:α->β->Prop}(i:∀ a b,F a b->G a b):∀{l:JP α} {m:JP β},Lo F l m->Lo G l m
 |_,_,.nil=> .nil
 |_,_,.cons h r=> .cons (i _ _ h) (k9 i r)
theorem vF{H:Hp}:∀{xs:JP V} {ds:JP Kf},cV false H xs ds->∀{i:Nat} {x:V},xs[i]? =some x->∃ d,ds[i]? =some d/\cD false H x d
 |_,_,.nil,i,x,h=>by cases h
 |_,_,.cons h r,0,x,e=>⟨_,rfl,by have:=Kg e;rw[<-this];exact h⟩
 |_,_,.cons h r,i+1,x,e=>vF r e
section
variable {P : Ka} {w : Ku} {K : J7} {mg : Str -> JW JT} {base : KP}
noncomputable def Bf:Sp:=λvs H Q _=>∃(x:V) (t:Tr),vs=[x]/\cD false H x (dT t)/\fX t/\∀ b H',bY H H'->(t.dep<=7->d0 t<=40->b=true)->Q (.bl b) H'
noncomputable abbrev xI:JP Str:=["_law_told","_law_waiting","_law_many","_law_one","_law_deep"]
theorem qj:da xI ["_law_told"] (cG nF):=⟨rfl,rfl,rfl,dkq,rfl,dkq,dkq⟩
theorem B3:(["_law_kid","_law_deep"]:JP Str).Nodup:=dkq
seal cH PS PE PT PA PG PI cT cP in
theorem HH{f fk:JR}{fd fdk:J2}(D:Df K mg "_law_fits" nF f fd)(DK:Df K mg "_law_kids" kT fk fdk):bX P w K mg base b7 2 f fd ["_law_told"] Bf:=by
 have GK:bX P w K mg base b7 1 fk fdk ["_law_told"] rj:=uu DK
 have bK:=dY (p:="_law_told") DK.F λ_ _ _ _ _ _ _=>rfl
 refine D.F.ok qj (λvs H Q E h=>?_) (λcdv A0 outer s H vs Q E hr h=>?_)
 ·obtain⟨x,t,rfl,_⟩:=h;rfl
 ·obtain⟨x,t,rfl,hx,hg,q⟩:=h;have sz:sizeLine=16777216:=Kv;refine⟨_,b9 (A3 (i:=1) (j:=2) rfl qj.nd rfl rfl (by decide) rfl rfl (bU (eZ (bU (dv (bU (pv 0) (bU bZ bV))) bV)) (bU bZ bV)) rfl)
   (b9 (jZ KZ (cx (sJ hr.units100) (pv 1) (eZ bV) (cC _))
    (b9 (vq (iL Kp LP L4 jM (pv 1)) (qA (n:=2) rfl (iN (eX (i:=3) qj.nd rfl (Kh rfl)) (iN (eX (i:=4) qj.nd rfl (Pb rfl)) qm))))
    (b9 (cZ (i:=2) qj.nd rfl (Kh rfl) (cA eD (pv 2) bZ))
    (b9 (cM (PW.pt (gn (cx iJ (pv 4) bZ (cC _)) (ia (cx iJ (pv 2) bZ (cC _))))) (b5 (cy iq)) cY)
    (b5 (e7 (fS Kp F.slot_list_extend F.type_list_extend EZ (pv 1) (bU (jA (own:=1) (caps:=[4]) (N:=["_law_kid","_law_deep"]) (N0:=xI) (sc0:=cG nF) rfl (oz (cQ GK hr rfl DK.m DK.F.kp bK .nil cz (bU (pv 3) bV))) (λ_ _ _=>eX (i:=0) B3 rfl (Kh rfl)) (λ_ _ _=>jj)
      (λ_ _ _=>dv (bU (pv 0) (bU (cA eD (pv 1) bZ) bV))) (iV (by decide)) rfl rfl dkq rfl dkq dkq rfl dkq) bV))))))))
   (b5 (cy iq))),?_⟩;refine⟨_,rfl,eJ,λp1 ai=>⟨eh,λl hl=>⟨_,_,rfl,?_⟩⟩⟩;have aj:H l=none:=by
   cases e:H l with
   |none=>rfl
   |some u=>rw[(cq ai) _ _ e] at hl;cases hl
  have s1:bY H (upd (upd H p1 (.tup [x,.int 1])) l (.lst [.ref p1])):=(cq ai).trans (cq hl)
  have e1:upd (upd H p1 (.tup [x,.int 1])) l (.lst [.ref p1]) l=some (.lst [.ref p1]):=b6
  have e2:upd (upd H p1 (.tup [x,.int 1])) l (.lst [.ref p1]) p1=some (.tup [x,.int 1]):=(cq hl) _ _ b6
  show jV _ _ _ [some x,some (.ref l),some (.int 0),none,none] (upd (upd H p1 (.tup [x,.int 1])) l (.lst [.ref p1]));generalize upd (upd H p1 (.tup [x,.int 1])) l (.lst [.ref p1])=H1 at s1 e1 e2 ⊢;refine jT (λσ H'=>∃(W:JP (Tr×Nat)) (qs:JP JR) (m:Nat) (o3 o4:JW V),σ=[some x,some (.ref l),some (.int ((m:Nat):Int)),o3,o4]/\bY H H'/\H' l=some (.lst (qs.map V.ref))/\Lo (WT H') qs W/\(∀ y∈W,fX y.1)/\m<=40/\W.length<=m+1/\
   (t.dep<=7->d0 t<=40->(W.map λy=>d0 y.1).sum+m<=40/\∀ y∈W,y.2+y.1.dep<=8)) (λσ _=>match σ with|[_,_,some (.int r),_,_]=>41-r.toNat|_=>0) ⟨[(t,1)],[p1],0,none,none,rfl,s1,e1,.cons ⟨x,e2,hx.same s1⟩ .nil,(λy hy=>by rw[List.mem_singleton.mp hy];exact hg),by decide,JY 1,λh1 h2=>⟨by show d0 t+0+0<=40;omega,λy hy=>by rw[List.mem_singleton.mp hy];show 1+t.dep<=8;omega⟩⟩ ?_ ?_
  ·rintro σ H' ⟨W,qs,m,o3,o4,rfl,sm,hL,hP,hG,hm,hW,J⟩;refine⟨_,rfl,Ks _,λp hp=>?_⟩;have s2:bY H' (upd H' p (.lst [])):=cq hp;have ep:upd H' p (.lst []) p=some (.lst []):=b6;generalize upd H' p (.lst [])=H2 at s2 ep ⊢;have ak:=s2 _ _ hL;have aa:Lo (WT H2) qs W:=k9 (λ_ _ h=>h.tt (TT.of s2)) hP;have ao:=sm.trans s2;have ql:=M8 aa;refine⟨.list (W.map wD),.list [],(cD.lst (l:=true) rfl ak (yQ aa)).dt,(cD.lst (l:=true) rfl ep .nil).dt,xX hG,rfl,Kj (LV _ _) (by decide),_,rfl,?_⟩;rcases List.eq_nil_or_concat W with rfl|⟨W0,y,rfl⟩
   ·exact cj (q true H2 ao λ_ _=>rfl)
   ·rw[List.concat_eq_append] at aa hG hW J ql ⊢;have en:(!PyData.eqv (.list ((W0++[y]).map wD)) (.list []))=true:=by
     rw[J5];cases W0.map wD<;>rfl
    rw[en];obtain⟨U,u,rfl,ax,v,hu,hv⟩:=zO aa;have ae:H2 l=some (.lst (U.map V.ref++[.ref u])):=by rw[ak,J5];rfl
    have dl:(U.map V.ref++[V.ref u]).dropLast=U.map V.ref:=Ln;refine cg ⟨_,rfl,.inl ⟨rfl,_,ck.of ae⟩,l,_,_,rfl,rfl,ae,jW,?_⟩;rw[dl];have t3:TT H2 (upd H2 l (.lst (U.map V.ref))):=λb xs e=>by rw[cF (λz=>by rw[z,ae] at e;cases e)];exact e
    have ab:bY H (upd H2 l (.lst (U.map V.ref))):=lD ao aj
    have af:upd H2 l (.lst (U.map V.ref)) l=some (.lst (U.map V.ref)):=b6;generalize upd H2 l (.lst (U.map V.ref))=H3 at t3 ab af ⊢;have aq:Lo (WT H3) U W0:=k9 (λ_ _ h=>h.tt t3) ax;have ay:=hv.tups t3;refine⟨u,_,rfl,cu.of (t3 _ _ hu),rfl,_,_,rfl,_,_,rfl,rfl,?_⟩;refine⟨_,rfl,_,_,rfl,rfl,_,rfl,_,_,rfl,rfl,_,rfl,?_⟩;have gy:fX y.1:=hG y (by simp);have good2:t.dep<=7->d0 t<=40->y.2<=8/\m+1<=40:=λh1 h2=>by
     obtain⟨g1,g2⟩:=J h1 h2;have:=g2 y (by simp);rw[J5,NK] at g1;have:d0 y.1=1+_:=kids_many y.1;have g3:(([y].map λy=>d0 y.1)).sum=d0 y.1:=by show d0 y.1+0=_;omega
     omega
    by_cases h8:(8:Int)<((y.2:Nat):Int)
    ·rw[JS h8];exact cg (cg (q false H3 ab λh1 h2=>absurd (good2 h1 h2).1 (by omega)))
    ·rw[JQ h8];refine cj ⟨_,rfl,_,_,rfl,rfl,_,rfl,?_⟩;by_cases ar:(40:Int)<((m:Nat):Int)+1
     ·rw[JS ar];exact cg (q false H3 ab λh1 h2=>absurd (good2 h1 h2).2 (by omega))
     ·rw[JQ ar];refine cj ⟨_,rfl,.inl ⟨rfl,_,ck.of af⟩,_,rfl,v,atT y.1,rfl,by rw[jk];exact ay,λl2 xs H4 s4 aE au ag=>⟨l2,rfl,⟨_,ck.of au⟩,?_⟩⟩;rw[ES] at ag;have xl:xs.length=(i7 y.1).length:=by rw[ag.len,JX]
      have k2:=IM y.1
      have az:=s4 _ _ af;refine tJ (xs:=xs) (λi ys G=>bY H4 G/\∃ us,ys=us.map V.ref/\Lo (WT G) us (((i7 y.1).take i).map λz=>(z,y.2+1))) (by omega) (λj zs G q=>ck.of (q.1 _ _ au)) ⟨bY.refl _,[],rfl,.nil⟩ ?_ ?_
      ·rintro i kv ys G N aA ⟨sg,us,rfl,I⟩ hN;obtain⟨d,ed,pd⟩:=vF ag aA;rw[List.getElem?_map] at ed;cases ek:(i7 y.1)[i]? with
       |none=>rw[ek] at ed;cases ed
       |some kt=>
        rw[ek] at ed;have aB:dT kt=d:=Kg ed;refine g1 ?_;refine⟨_,rfl,_,rfl,_,_,rfl,rfl,eJ,λu2 ah=>hN _ _ ⟨sg.trans (cq ah),us++[u2],by rw[J5];rfl,?_⟩⟩;rw[Lk,ek,J5];refine qU (k9 (λ_ _ h=>h.tt (TT.of (cq ah))) I) (.cons ⟨kv,?_,?_⟩ .nil)
        ·rw[b6];rfl
        ·rw[<-aB] at pd;exact(pd.same sg).same (cq ah)
      ·rintro ys G ⟨sg,us,rfl,I⟩ _ r aC;rw[xl,Mq] at I;have s5:bY G (upd G r (.lst (us.map V.ref))):=cq aC;have er:upd G r (.lst (us.map V.ref)) r=some (.lst (us.map V.ref)):=b6;generalize upd G r (.lst (us.map V.ref))=H5 at s5 er ⊢;have av:=s5 _ _ (sg _ _ az);have ul:=M8 I;rw[JX] at ul;rw[JU] at hW;have aD:=M8 aq;refine⟨l,r,_,_,rfl,rfl,av,er,by rw[JX,JX,sz,aD,ul];show _<=_;simp at hW;omega,?_⟩;have t6:TT H5 (upd H5 l (.lst (U.map V.ref++us.map V.ref))):=λb xs e=>by rw[cF (λz=>by rw[z,av] at e;cases e)];exact e
       have aw:=(s4.trans sg).trans s5;refine⟨⟨W0++(i7 y.1).map λz=>(z,y.2+1),U++us,m+1,_,_,rfl,lD (ab.trans aw) aj,by rw[b6,J5],qU (k9 (λ_ _ h=>h.tt ((TT.of aw).trans t6)) aq) (k9 (λ_ _ h=>h.tt ((TT.of s5).trans t6)) I),?_,by omega,?_,?_⟩,?_⟩
       ·intro z hz;rcases List.mem_append.mp hz with h|h
        ·exact hG z (by simp[h])
        ·obtain⟨kt,hk,rfl⟩:=List.mem_map.mp h;exact HX gy hk
       ·rw[JU,JX];simp at hW;omega
       ·intro h1 h2;obtain⟨g1,g2⟩:=J h1 h2;refine⟨?_,λz hz=>?_⟩
        ·rw[J5,NK] at g1 ⊢;have:=kids_many y.1;have g3:(([y].map λy=>d0 y.1)).sum=d0 y.1:=by show d0 y.1+0=_;omega
         have g4:(((i7 y.1).map λz=>(z,y.2+1)).map λy=>d0 y.1)=(i7 y.1).map d0:=by rw[LB];rfl
         rw[g4];omega
        ·rcases List.mem_append.mp hz with h|h
         ·exact g2 z (by simp[h])
         ·obtain⟨kt,hk,rfl⟩:=List.mem_map.mp h;have:=kids_dep hk;have:=g2 y (by simp);show y.2+1+kt.dep<=8;omega
       ·show 41-(((m:Nat):Int)+1).toNat<41-(((m:Nat):Int)).toNat;omega
  ·intro σ H' Q1 Q2 hq h;obtain⟨x,h1,h2,h3⟩:=h;refine⟨x,h1,h2,λp hp=>?_⟩;obtain⟨a1,a2,a3,a4,a5,a6,a7,b,e,q⟩:=h3 p hp;exact⟨a1,a2,a3,a4,a5,a6,a7,b,e,hq _ _ q⟩
end
open RA (Lf Tr Tk wr brk Sg Ls Sm putAll iK cnt)
noncomputable def gj:JW Tk->Str
 |none=>"end" |some k=>og k
noncomputable def fP:Sm->Str
 |.first=>"first" |.plain=>"plain" |.more=>"more" |.near _=>"near"
noncomputable def cX:JW Tk->Nat
 |none=>0|some (.leaf _)=>1|some (.near _)=>2|some .no=>3|some .and=>4|some .or=>5|some .lp=>6|some .rp=>7
noncomputable def lG(n:Nat):Str:=(["end","plain","near","not","and","or","(",")"]:JP Str).getD n "x"
theorem jv(k:JW Tk):gj k=lG (cX k)/\cX k<8:=by
 cases k with
 |none=>exact⟨rfl,J9 rfl⟩
 |some k=>cases k<;>exact⟨rfl,J9 rfl⟩
theorem Jz:∀ i<8,∀ j<8,decide (V.str (lG i)=V.str (lG j))=decide (i=j):=dkq
theorem jR(k:JW Tk){j:Nat}(hj:j<8):decide (V.str (gj k)=V.str (lG j))=decide (cX k=j):=by rw[(jv k).1];exact Jz _ (jv k).2 _ hj
theorem wB(S:JP Sg):(S.reverse.map dU).count (JO "(")=cnt S:=by
 have:∀ l:JP Sg,(l.map dU).count (JO "(")=l.count .lp:=λl=>by
  induction l with
  |nil=>rfl
  |cons x l J=>
   rw[KU,Nd,Nd,J];cases x<;>first|rfl|(show _+(if (_==_)=true then 1 else 0)=_+(if (_==_)=true then 1 else 0);congr 1)
 rw[this,List.count_reverse];rfl
noncomputable def kI(H:Hp)(p:JR)(k:JW Tk)(b e:Nat):Prop:=rg H p (gj k) (nc k) b e
theorem zq{H:Hp}{a:JR}{A:JP Tr}{v:V}{t:Tr}(h:gM H a A)(hv:cD false H v (dT t)):∃ vs,H a=some (.lst vs)/\vs.length=A.length/\gM (upd H a (.lst (vs++[v]))) a (t::A):=by
 obtain⟨vs,h1,h2⟩:=h;refine⟨vs,h1,by rw[h2.len,JX,K8],vs++[v],b6,?_⟩;have tt:∀ b xs,H b=some (.tup xs)->upd H a (.lst (vs++[v])) b=some (.tup xs):=λb xs e=>by rw[cF (λz=>by rw[z,h1] at e;cases e)];exact e
 rw[Ke,J5];exact(h2.tups tt).snoc (hv.tups tt)
theorem uU{H:Hp}{g:JR}{S:JP Sg}(h:gz H g S)(x:Sg):gz (upd H g (.lst (((S.reverse.map dU).map V.str)++[.str (dU x)]))) g (x::S):=by
 unfold gz;rw[b6,Ke,J5,J5];rfl
theorem gM.but {H H':Hp}{a g:JR}{A:JP Tr}{xs:JP V}(h:gM H a A)(hne:a≠g)(hg:H g=some (.lst xs))(b:∀ c u,c≠g->H c=some u->H' c=some u):gM H' a A:=by
 obtain⟨vs,h1,h2⟩:=h;exact⟨vs,b _ _ hne h1,h2.tups λc ys e=>b _ _ (λz=>by rw[z,hg] at e;cases e) e⟩
section
variable {P : Ka} {w : Ku} {K : J7} {mg : Str -> JW JT} {base : KP}
noncomputable def qt(A:JP Tr)(S:JP Sg):JW Tk->JW Ls
 |none=>none|some k=>RA.lI A S k
noncomputable def yH(a g:JR)(H:Hp)(Q:VK):JW Ls->Prop
 |none=>∀ H',eV a g H H'->Q (.str (JO "")) H'
 |some s=>∀ H',eV a g H H'->gM H' a s.A->gz H' g s.S->Q (.str (fP s.st)) H'
noncomputable def Aj:Sp:=λvs H Q _=>∃(a g p:JR) (A:JP Tr) (S:JP Sg) (k:JW Tk) (b e:Nat),vs=[.ref a,.ref g,.ref p]/\a≠g/\kI H p k b e/\gM H a A/\gz H g S/\A.length<=10000/\S.length<=10000/\yH a g H Q (qt A S k)
noncomputable abbrev j9:JP Str:=["_law_asks","_law_signs","_law_piece_here"]
theorem G1:da j9 j9 (cG qH):=⟨rfl,rfl,rfl,dkq,rfl,dkq,dkq⟩
seal cH PS PE PT PA PG PI cT cP in
theorem Gy{f:JR}{fd:J2}(D:Df K mg "_law_first" qH f fd):bX P w K mg base b7 1 f fd j9 Aj:=by
 refine D.F.ok G1 (λvs H Q E h=>?_) (λcdv A0 outer s H vs Q E hr h=>?_)
 ·obtain⟨a,g,p,A,S,k,b,e,rfl,_⟩:=h;rfl
 ·obtain⟨a,g,p,A,S,k,b,e,rfl,I,⟨v,hp,hv⟩,hA,hS,lA,lS,q⟩:=h;have sz:sizeLine=16777216:=Kv;have J:H g=_:=hS;have sl:((S.reverse.map dU).map V.str).length=S.length:=by rw[JX,JX,K8]
  refine⟨_,b9 (cM (cx cU (cK dS (pv 2) bZ (λ_ _=>rfl)) b8 (cC _)) (b9 (e7 (fS Kp KO K6 iO (pv 0) (bU (cK dS (pv 2) bZ (λ_ _=>rfl)) bV))) (b5 (cy b8))) cY)
   (b9 (cM (PT.imp (t':=λσ H' Q'=>σ=[some (.ref a),some (.ref g),some (.ref p)]/\H'=H/\Q' (decide ((cX k=6/\cnt S<12)\/cX k=3)) H') (PW.pt (gn (PW.pt (g8 (cx cU (cK dS (pv 2) bZ (λ_ _=>rfl)) b8 (cC _)) (gZ (cx iQ (fS Kp Nq Nr rR (pv 1) (bU b8 bV)) bZ (cC _))))) (ia (cx cU (cK dS (pv 2) bZ (λ_ _=>rfl)) b8 (cC _))))) ?mC)
    (b9 (e7 (fS Kp KO K6 iO (pv 1) (bU (cK dS (pv 2) bZ (λ_ _=>rfl)) bV))) (b5 (cy b8))) cY)
   (b5 (cy b8))),?_⟩;have i0:∀ H',H' p=some (.tup [.str (gj k),v,.int ((b:Nat):Int),.int ((e:Nat):Int)])->cu K H' p [.str (gj k),v,.int ((b:Nat):Int),.int ((e:Nat):Int)]:=λ_ h=>cu.of h
  rotate_left
  ·refine⟨_,rfl,p,_,0,_,rfl,rfl,cu.of hp,cJ (j:=0) rfl,rfl,_,rfl,?_⟩;rw[show decide (V.str (gj k)=V.str (JO "plain"))=decide (cX k=1) from jR k (j:=1) (by decide)];have push:∀ x:Sg,gj k=dU x->qt A S k=some ⟨A,x::S,.first⟩->∃ x0,(some (.ref g):JW V)=some x0/\O3:=λ_ _ _=>⟨_,rfl,trivial⟩
   by_cases h1:cX k=1
   ·rw[JS h1];obtain⟨l,rfl⟩:∃ l,k=some (.leaf l):=by
     cases k with
     |none=>cases h1
     |some k=>cases k<;>first|exact⟨_,rfl⟩|cases h1
    obtain⟨vs,ha,vl,hn⟩:=zq (t:= .leaf l) hA hv;refine cg ⟨_,rfl,.inl ⟨rfl,_,ck.of ha⟩,_,rfl,p,_,1,_,rfl,rfl,cu.of hp,cJ (j:=1) rfl,a,_,_,rfl,rfl,ha,by rw[sz];omega,?_⟩;exact q _ (λc u n1 n2 e=>by rw[cF n1];exact e) hn (by show upd H a _ g=_;rw[cF (K5 I)];exact hS)
   ·rw[JQ h1];refine cj ⟨rfl,rfl,?_⟩;have aa:∀ x:Sg,gj k=dU x->qt A S k=some ⟨A,x::S,.first⟩->Q (.str (JO "first")) (upd H g (.lst (((S.reverse.map dU).map V.str)++[.str (gj k)]))):=λx e1 e2=>by
     rw[e2] at q;rw[e1];exact q _ (λc u n1 n2 e=>by rw[cF n2];exact e) (hA.but I J λc u n e=>by rw[cF n];exact e) (uU hS x)
    by_cases h2:(cX k=6/\cnt S<12)\/cX k=3
    ·rw[JS h2];refine cg ⟨_,rfl,.inl ⟨rfl,_,ck.of J⟩,_,rfl,p,_,0,_,rfl,rfl,cu.of hp,cJ (j:=0) rfl,g,_,_,rfl,rfl,J,by rw[sz];omega,?_⟩;rcases h2 with ⟨h2,h3⟩|h2
     ·have ek:k=some .lp:=by
       cases k with
       |none=>cases h2
       |some k=>cases k<;>first|rfl|cases h2
      subst ek;exact aa .lp rfl (by show(if cnt S<12 then _ else _)=_;rw[J1 h3])
     ·have ek:k=some .no:=by
       cases k with
       |none=>cases h2
       |some k=>cases k<;>first|rfl|cases h2
      subst ek;exact aa .no rfl rfl
    ·rw[JQ h2];have en:qt A S k=none:=by
      cases k with
      |none=>rfl
      |some k=>
       cases k with
       |leaf l=>exact absurd rfl h1
       |lp=>show(if cnt S<12 then _ else _)=_;rw[if_neg (λz=>h2 (.inl ⟨rfl,z⟩))]
       |no=>exact absurd (.inr rfl) h2
       |near n=>rfl
       |and=>rfl
       |or=>rfl
       |rp=>rfl
     rw[en] at q;exact cj (q H λc u _ _ e=>e)
  ·rintro σ H' Q' ⟨rfl,rfl,U⟩;refine⟨_,rfl,p,_,0,_,rfl,rfl,cu.of hp,cJ (j:=0) rfl,rfl,_,rfl,?_⟩;rw[show decide (V.str (gj k)=V.str (JO "("))=decide (cX k=6) from jR k (j:=6) (by decide)];have last:cX k≠6\/¬ cnt S<12->∃ x0,([some (.ref a),some (.ref g),some (.ref p)]:L2.St)[2]? =some (some x0)/\O3:=λ_=>⟨_,rfl,trivial⟩
   by_cases h6:cX k=6
   ·rw[JS h6];refine cg ⟨_,rfl,.inl ⟨rfl,_,ck.of J⟩,g,S.reverse.map dU,_,rfl,rfl,ck.of J,_,_,rfl,rfl,_,rfl,?_⟩;rw[wB];by_cases ab:cnt S<12
    ·rw[JS (show((cnt S:Nat):Int)<12 by omega)];rw[JS (.inl ⟨h6,ab⟩)] at U;exact cg U
    ·rw[JQ (show ¬ ((cnt S:Nat):Int)<12 by omega)];refine cj ⟨_,rfl,p,_,0,_,rfl,rfl,cu.of hp,cJ (j:=0) rfl,rfl,_,rfl,?_⟩;rw[show decide (V.str (gj k)=V.str (JO "not"))=decide (cX k=3) from jR k (j:=3) (by decide)];have:decide ((cX k=6/\cnt S<12)\/cX k=3)=decide (cX k=3):=by simp[ab]
     rw[this] at U;exact U
   ·rw[JQ h6];refine cj (cj ⟨_,rfl,p,_,0,_,rfl,rfl,cu.of hp,cJ (j:=0) rfl,rfl,_,rfl,?_⟩);rw[show decide (V.str (gj k)=V.str (JO "not"))=decide (cX k=3) from jR k (j:=3) (by decide)];have:decide ((cX k=6/\cnt S<12)\/cX k=3)=decide (cX k=3):=by simp[h6]
    rw[this] at U;exact U
end
noncomputable def oW(A:JP Tr)(S:JP Sg):JW Tk->JW Ls
 |none=>none
 |some (.near _)=>none
 |some .rp=>if 0<cnt S then (putAll 1 A S).bind λq=>match q.2 with|_::J=>some ⟨q.1,J,.more⟩|[]=>none else none
 |some .or=>(putAll 1 A S).bind λq=>some ⟨q.1,.either::q.2,.first⟩
 |some _=>(putAll 2 A S).bind λq=>some ⟨q.1,.both::q.2,.first⟩
theorem FG:∀ n<8,e9 (.str (lG n)) [.str (JO "plain"),.str (JO "("),.str (JO "not"),.str (JO "and"),.str (JO "or")]=decide (n=1\/n=6\/n=3\/n=4\/n=5):=dkq
section
variable {P : Ka} {w : Ku} {K : J7} {mg : Str -> JW JT} {base : KP}
noncomputable def yO:Sp:=λvs H Q _=>∃(a g p:JR) (A:JP Tr) (S:JP Sg) (k:JW Tk) (b e:Nat) (J U:JP Tr×JP Sg),vs=[.ref a,.ref g,.ref p]/\a≠g/\kI H p k b e/\gM H a A/\gz H g S/\A.length<=9000/\S.length<=9000/\putAll 1 A S=some J/\putAll 2 A S=some U/\(0<cnt S->J.2≠[])/\yH a g H Q (oW A S k)
noncomputable abbrev Dp:JP Str:=["_law_asks","_law_signs","_law_piece_here","_law_sign"]
theorem Ao:da Dp j9 (cG pT):=⟨rfl,rfl,rfl,dkq,rfl,dkq,dkq⟩
seal cH PS PE PT PA PG PI cT cP in
theorem Dx{f fa fp:JR}{fd fda fdp:J2}(D:Df K mg "_law_joined" pT f fd)(DA:Df K mg "_law_put_all" mY fa fda)(DP:Df K mg "_law_put" ph fp fdp)(T:Txt mg):bX P w K mg base b7 3 f fd j9 yO:=by
 have GA:bX P w K mg base b7 2 fa fda ["_law_asks","_law_signs","_law_least"] uY:=yD DA DP
 have bA:=DA.F.binds (ps:=["_law_asks","_law_signs","_law_least"]) λ_ _ _ _ _ _ us hl=>match us,hl with|[_,_,_],_=>rfl
 refine D.F.ok Ao (λvs H Q E h=>?_) (λcdv A0 outer s H vs Q E hr h=>?_)
 ·obtain⟨a,g,p,A,S,k,b,e,q1,q2,rfl,_⟩:=h;rfl
 ·obtain⟨a,g,p,A,S,k,b,e,⟨A1,S1⟩,⟨A2,S2⟩,rfl,U,⟨v,hp,hv⟩,hA,hS,lA,lS,I,aa,aq,q⟩:=h;have sz:sizeLine=16777216:=Kv;have ai:H g=_:=hS;obtain⟨va,ha,_⟩:=id hA;refine⟨_,b9 (cM (PT.imp (t':=λσ H' Q'=>σ=[some (.ref a),some (.ref g),some (.ref p),none]/\H'=H/\Q' (decide (cX k=7/\0<cnt S)) H') (PW.pt (g8 (cx cU (cK dS (pv 2) bZ (λ_ _=>rfl)) b8 (cC _)) (gZ (cx iJ (fS Kp Nq Nr rR (pv 1) (bU b8 bV)) bZ (cC _))))) ?mC)
    (b9 (e7 (cQ GA hr rfl DA.m DA.F.kp bA .nil cz (bU (pv 0) (bU (pv 1) (bU bZ bV))))) (b9 (e7 (iL Kp LP L4 jM (pv 1))) (b5 (cy b8)))) cY)
   (b9 (cM (cx kC (cK dS (pv 2) bZ (λ_ _=>rfl)) (dv (bU b8 (bU b8 (bU b8 (bU b8 (bU b8 bV)))))) (by with_unfolding_all rfl))
    (b9 (cZ (i:=3) Ao.nd rfl (Kh rfl) (cK fO (eZ (bU b8 (bU b8 bV))) (il mK rfl T.int jF (bU (ik cU (cK dS (pv 2) bZ (λ_ _=>rfl)) b8 rfl) bV)) (λ_ _=>rfl)))
    (b9 (e7 (cQ GA hr rfl DA.m DA.F.kp bA .nil cz (bU (pv 0) (bU (pv 1) (bU (il mK rfl T.int jF (bU (ik cU (pv 3) b8 rfl) bV)) bV)))))
    (b9 (e7 (fS Kp KO K6 iO (pv 1) (bU (pv 3) bV))) (b5 (cy b8))))) cY)
   (b5 (cy b8))),?_⟩
  rotate_left
  ·refine⟨rfl,rfl,?_⟩;by_cases h7:cX k=7/\0<cnt S
   ·rw[JS h7];have ek:k=some .rp:=by
     cases k with
     |none=>cases h7.1
     |some k=>cases k<;>first|rfl|cases h7.1
    subst ek;cases hS1:S1 with
    |nil=>exact absurd hS1 (aq h7.2)
    |cons x S3=>
     rw[hS1] at I;have er:oW A S (some .rp)=some ⟨A1,S3,.more⟩:=by show(if 0<cnt S then _ else _)=_;rw[J1 h7.2,I];rfl
     rw[er] at q;refine cg ⟨_,rfl,_,rfl,a,g,0,1,A,A1,S,x::S3,rfl,rfl,U,hA,hS,by omega,by omega,I,λH1 b1 ar aj=>?_⟩;have ab:H1 g=some (.lst ((S3.reverse.map dU).map V.str++[.str (dU x)])):=by rw[show H1 g=_ from aj,Ke,J5,J5];rfl
     have dl:((S3.reverse.map dU).map V.str++[V.str (dU x)]).dropLast=(S3.reverse.map dU).map V.str:=Ln;refine⟨_,rfl,.inl ⟨rfl,_,ck.of ab⟩,g,_,_,rfl,rfl,ab,jW,?_⟩;rw[dl];exact q _ (b1.trans λc u n1 n2 e=>by rw[cF n2];exact e) (ar.but U ab λc u n e=>by rw[cF n];exact e) b6
   ·rw[JQ h7];refine cj ⟨_,rfl,p,_,0,_,rfl,rfl,cu.of hp,cJ (j:=0) rfl,by rw[sz];decide,λu hu=>?_⟩;have s1:bY H (upd H u (.tup [.str (JO "plain"),.str (JO "("),.str (JO "not"),.str (JO "and"),.str (JO "or")])):=cq hu;have eu:upd H u (.tup [.str (JO "plain"),.str (JO "("),.str (JO "not"),.str (JO "and"),.str (JO "or")]) u=some (.tup [.str (JO "plain"),.str (JO "("),.str (JO "not"),.str (JO "and"),.str (JO "or")]):=b6;generalize upd H u (.tup [.str (JO "plain"),.str (JO "("),.str (JO "not"),.str (JO "and"),.str (JO "or")])=H1 at s1 eu ⊢;refine⟨u,_,rfl,.inr (cu.of eu),rfl,rfl,_,rfl,?_⟩;show if e9 (.str (gj k)) _=true then _ else _
    rw[(jv k).1,FG _ (jv k).2];have ak:=s1 _ _ hp;by_cases hj:cX k=1\/cX k=6\/cX k=3\/cX k=4\/cX k=5
    ·rw[JS hj];refine cg ⟨eJ,λu2 au=>?_⟩;have s2:bY H1 (upd H1 u2 (.lst [.str (JO "both"),.str (JO "either")])):=cq au;have ag:upd H1 u2 (.lst [.str (JO "both"),.str (JO "either")]) u2=some (.lst [.str (JO "both"),.str (JO "either")]):=b6;generalize upd H1 u2 (.lst [.str (JO "both"),.str (JO "either")])=H2 at s2 ag ⊢;refine⟨_,rfl,p,_,0,_,rfl,rfl,cu.of (s2 _ _ ak),cJ (j:=0) rfl,rfl,.inr ⟨_,rfl,?_⟩⟩;rw[show decide (V.str (gj k)=V.str (JO "or"))=decide (cX k=5) from jR k (j:=5) (by decide)];have af:=s1.trans s2;have ao:gM H2 a A:=hA.same af;have ab:gz H2 g S:=af _ _ hS;by_cases h5:cX k=5
     ·rw[JS h5];have er:oW A S k=some ⟨A1,.either::S1,.first⟩:=by
       cases k with
       |none=>cases h5
       |some k=>cases k<;>first|(exact absurd h5 (by decide))|(show(putAll 1 A S).bind _=_;rw[I];rfl)|(cases h5;done)
      rw[er] at q;refine⟨u2,_,1,.str (JO "either"),rfl,rfl,ck.of ag,cJ (j:=1) rfl,_,rfl,_,rfl,_,rfl,rfl,.inr ⟨_,rfl,a,g,_,1,A,A1,S,S1,rfl,?_,U,ao,ab,by omega,by omega,I,λH3 b3 ah ae=>?_⟩⟩
      ·rfl
      ·have J:H3 g=_:=ae
       have av:=(pV I).2;refine⟨_,rfl,.inl ⟨rfl,_,ck.of J⟩,_,rfl,g,_,_,rfl,rfl,J,by rw[JX,JX,K8,sz];omega,?_⟩;exact q _ ((eV.of af).trans (b3.trans λc u n1 n2 e=>by rw[cF n2];exact e)) (ah.but U J λc u n e=>by rw[cF n];exact e) (uU ae .either)
     ·rw[JQ h5];have er:oW A S k=some ⟨A2,.both::S2,.first⟩:=by
       cases k with
       |none=>rcases hj with h|h|h|h|h<;>cases h
       |some k=>
        cases k with
        |or=>exact absurd rfl h5
        |near _=>rcases hj with h|h|h|h|h<;>cases h
        |rp=>rcases hj with h|h|h|h|h<;>cases h
        |leaf _=>show(putAll 2 A S).bind _=_;rw[aa];rfl
        |no=>show(putAll 2 A S).bind _=_;rw[aa];rfl
        |and=>show(putAll 2 A S).bind _=_;rw[aa];rfl
        |lp=>show(putAll 2 A S).bind _=_;rw[aa];rfl
      rw[er] at q;refine⟨u2,_,0,.str (JO "both"),rfl,rfl,ck.of ag,cJ (j:=0) rfl,_,rfl,_,rfl,_,rfl,rfl,.inr ⟨_,rfl,a,g,_,2,A,A2,S,S2,rfl,?_,U,ao,ab,by omega,by omega,aa,λH3 b3 ah ae=>?_⟩⟩
      ·rfl
      ·have J:H3 g=_:=ae
       have av:=(pV aa).2;refine⟨_,rfl,.inl ⟨rfl,_,ck.of J⟩,_,rfl,g,_,_,rfl,rfl,J,by rw[JX,JX,K8,sz];omega,?_⟩;exact q _ ((eV.of af).trans (b3.trans λc u n1 n2 e=>by rw[cF n2];exact e)) (ah.but U J λc u n e=>by rw[cF n];exact e) (uU ae .both)
    ·rw[JQ hj];have er:oW A S k=none:=by
      cases k with
      |none=>rfl
      |some k=>
       cases k with
       |near _=>rfl
       |rp=>show(if 0<cnt S then _ else _)=_;rw[if_neg (λz=>h7 ⟨rfl,z⟩)]
       |or=>exact absurd (.inr (.inr (.inr (.inr rfl)))) hj
       |leaf _=>exact absurd (.inl rfl) hj
       |no=>exact absurd (.inr (.inr (.inl rfl))) hj
       |and=>exact absurd (.inr (.inr (.inr (.inl rfl)))) hj
       |lp=>exact absurd (.inr (.inl rfl)) hj
     rw[er] at q;exact cj (q H1 (eV.of s1))
  ·rintro σ H' Q' ⟨rfl,rfl,q'⟩;refine⟨_,rfl,p,_,0,_,rfl,rfl,cu.of hp,cJ (j:=0) rfl,rfl,_,rfl,?_⟩;rw[show decide (V.str (gj k)=V.str (JO ")"))=decide (cX k=7) from jR k (j:=7) (by decide)];by_cases h7:cX k=7
   ·rw[JS h7];refine cg ⟨_,rfl,.inl ⟨rfl,_,ck.of ai⟩,g,S.reverse.map dU,_,rfl,rfl,ck.of ai,_,_,rfl,rfl,_,rfl,?_⟩;rw[wB];have:decide (cX k=7/\0<cnt S)=decide ((0:Int)<((cnt S:Nat):Int)):=by simp[h7]
    rw[this] at q';exact q'
   ·rw[JQ h7];rw[JQ (λz=>h7 z.1)] at q';exact cj q'
end
open RA (Lf Tr Tk wr brk Sg Ls Sm putAll iK cnt eN fK dP)
noncomputable def ya(L:JP Nat)(b:Nat)(k:Tk)(r:JP Tk)(q:JW Tk)(b1 e1:Nat):Prop:=(r=[]/\q=none/\b1=L.length/\e1=L.length)\/∃ J U,r=J::U/\q=some J/\b1=b+(cL k J).length/\e1=b1+(txt J).length
noncomputable def u9:Sp:=λvs H Q _=>∃(L:JP Nat) (b:Nat) (k:Tk) (r:JP Tk) (q:JW Tk) (b1 J:Nat),vs=[.str (sT L),.int ((b:Nat):Int)]/\L.length<=20000/\b<=L.length/\L.drop b=tl k r/\(∀ q∈r,gK q)/\ya L b k r q b1 J/\∀ p H',bY H H'->kI H' p q b1 J->Q (.ref p) H'
theorem zh{vs:JP V}{H:Hp}{Q:VK}{E:XK}(h:u9 vs H Q E):sk vs H Q E:=by
 obtain⟨L,b,k,r,q,b1,e1,rfl,I,hb,hd,hg,hf,U⟩:=h;refine⟨L,b,k,r,rfl,I,hb,hd,hg,λe p H' s hp=>?_,λk' r' e p H' s hp=>?_⟩
 ·rcases hf with ⟨_,rfl,rfl,rfl⟩|⟨k',r',J,_⟩
  ·exact U p H' s hp
  ·rw[e] at J;cases J
 ·rcases hf with ⟨J,_⟩|⟨k2,r2,J,rfl,rfl,rfl⟩
  ·rw[e] at J;cases J
  ·rw[e] at J;injection J with h1 h2;subst h1 h2;exact U p H' s hp
structure LI (s : Ls) (n : Nat) (r : JP Tk) : Prop where
 ri : ∃ c, RA.RI s c
 lf : (s.st = .plain \/ ∃ m, s.st = .near m) -> ∃ a A, s.A = .leaf a :: A
 g : ∀ t ∈ s.A, fX t
 la : s.A.length+r.length<=n
 ls : s.S.length+2*r.length+(if s.st = .first then 0 else 1)<=2*n+1
theorem Fc{s:Ls}{c:Nat}(h:RA.RI s c)(hs:s.st≠ .first):(∃ q1,putAll 1 s.A s.S=some q1/\(0<cnt s.S->q1.2≠[])/\(cnt s.S=0->∃ t,q1=([t],[])))/\∃ q2,putAll 2 s.A s.S=some q2/\∃ c,RA.RI ⟨q2.1,.both::q2.2,.first⟩ c:=by
 obtain⟨q,F,e,ho,hq,hc⟩:∃ q F,s.A=RA.tr (q::F)/\RA.Op F s.S/\3<=RA.hZ q/\RA.cost (q::F)+cnt s.S<=c:=by
  unfold RA.RI at h;cases e:s.st with
  |first=>exact absurd e hs
  |plain=>rw[e] at h;exact h
  |more=>rw[e] at h;exact h
  |near m=>rw[e] at h;exact h
 refine⟨?_,?_⟩
 ·obtain⟨U,I,J,a1,a2,a3,a4,ac,a5⟩:=RA.jq (least:=1) (by decide) (by decide) s.S q F ho (Kj (RA.mP _) hq) (by omega);rw[<-e] at a1;refine⟨_,a1,λh z=>?_,λh0=>?_⟩
  ·have z':J=[]:=z;rw[z'] at ac;have:cnt ([]:JP Sg)=0:=rfl;omega
  ·cases J with
   |nil=>
    cases a2;exact⟨U.1,rfl⟩
   |cons g J=>
    have hg:g= .lp:=by cases g<;>first|rfl|exact absurd (LS a3) J3
    subst hg;rw[RA.oh] at ac;omega
 ·obtain⟨U,I,J,a1,a2,a3,a4,ac,a5⟩:=RA.jq (least:=2) (by decide) (by decide) s.S q F ho (Kj (RA.mP _) hq) (by omega);rw[<-e] at a1;exact⟨_,a1,RA.cost (U::I)+cnt (.both::J),U::I,rfl,.both a2 a4 (Nat.le_of_lt_succ a3),JY _⟩
noncomputable def jf(s:Ls)(r:JP Tk):JW Tr:=(eN s r).bind fK
noncomputable def CM(o:JW Tr)(v:V)(H:Hp):Prop:=(∃ q,o=some q/\fX q/\cD false H v (dT q))\/∃ i,v= .int i/\∀ q,o=some q->¬ (q.dep<=7/\d0 q<=40)
theorem bY.but2 {H H1 H2:Hp}{a g:JR}(s:bY H H1)(b:eV a g H1 H2)(ha:H a=none)(hg:H g=none):bY H H2:=λc u e=>b c u (dI e ha) (dI e hg) (s _ _ e)
theorem kq(m:Sm):decide (V.str (fP m)=V.str (JO ""))=false:=by cases m<;>first|exact dkq|exact(show decide (V.str (JO "near")=V.str (JO ""))=false from dkq)
noncomputable def jr:Sm->Nat
 |.first=>0|.plain=>1|.more=>2|.near _=>3
theorem si:∀ i<4,∀ j<4,decide (V.str ((["first","plain","more","near"]:JP Str).getD i "x")=V.str ((["first","plain","more","near"]:JP Str).getD j "x"))=decide (i=j):=dkq
theorem uo(m:Sm)(j:Nat)(hj:j<4):decide (V.str (fP m)=V.str ((["first","plain","more","near"]:JP Str).getD j "x"))=decide (jr m=j):=by
 cases m with
 |first=>exact si 0 (by decide) j hj
 |plain=>exact si 1 (by decide) j hj
 |more=>exact si 2 (by decide) j hj
 |near n=>exact si 3 (by decide) j hj
section
variable {P : Ka} {w : Ku} {K : J7} {mg : Str -> JW JT} {base : KP}
noncomputable def wM:Sp:=λvs H Q _=>∃ J:JP Tk,vs=[.str (sT (tl .lp J))]/\(tl .lp J).length<=2000/\(∀ k∈J,gK k)/\∀ v H',bY H H'->CM (jf ⟨[],[],.first⟩ J) v H'->Q v H'
noncomputable def so(H:Hp)(L:JP Nat)(ts:JP Tk)(a g:JR)(σ:L2.St)(H':Hp):Prop:=∃(s:Ls) (k:Tk) (r:JP Tk) (b:Nat) (vf:V) (J:JW V),σ=[some (.str (sT L)),some (.ref a),some (.ref g),some (.str (fP s.st)),some (.int ((b:Nat):Int)),some vf,J]/\bY H H'/\gM H' a s.A/\gz H' g s.S/\L.drop b=tl k r/\b<=L.length/\(∀ q∈r,gK q)/\jf s r=jf ⟨[],[],.first⟩ ts/\LI s ts.length r/\∀ m,s.st= .near m->vf= .int ((m:Nat):Int)
noncomputable def l8(L:JP Nat)(σ:L2.St):Nat:=match σ with|[_,_,_,some (.str z),some (.int b),_,_]=>2*(L.length-b.toNat)+(if z=JO "first" then 0 else 1)|_=>0
theorem E8(m:Sm):(fP m=JO "first")↔m= .first:=by
 cases m with
 |first=>exact⟨λ_=>rfl,λ_=>rfl⟩
 |plain=>exact⟨λz=>absurd z dkq,λz=>by cases z⟩
 |more=>exact⟨λz=>absurd z dkq,λz=>by cases z⟩
 |near n=>exact⟨λz=>absurd z (show ¬ (JO "near"=JO "first") from dkq),λz=>by cases z⟩
theorem BD(k:JW Tk):decide (V.str (gj k)=V.str (JO "none"))=false:=by
 have:∀ i<8,decide (V.str (lG i)=V.str (JO "none"))=false:=dkq;rw[(jv k).1];exact this _ (jv k).2
theorem FJ{A:JP Tr}{S:JP Sg}{k:Tk}{s':Ls}(hk:gK k)(h:∀ t∈A,fX t)(e:RA.lI A S k=some s'):(∀ t∈s'.A,fX t)/\((s'.st= .plain\/∃ m,s'.st= .near m)->∃ a B,s'.A= .leaf a::B)/\s'.A.length<=A.length+1/\s'.S.length+(if s'.st= .first then 0 else 1)<=S.length+1:=by
 cases k with
 |leaf l=>
  cases e;refine⟨λt ht=>?_,λ_=>⟨l,A,rfl⟩,JY _,JY _⟩;rcases List.mem_cons.mp ht with rfl|ht
  ·exact hk
  ·exact h t ht
 |lp=>
  have J:(if cnt S<12 then some (Ls.mk A (.lp::S) .first) else none)=some s':=e;split at J
  ·cases J;exact⟨h,(λz=>by rcases z with z|⟨m,z⟩<;>cases z),MU _,JY _⟩
  ·cases J
 |no=>
  cases e;exact⟨h,(λz=>by rcases z with z|⟨m,z⟩<;>cases z),MU _,JY _⟩
 |near _=>cases e
 |and=>cases e
 |or=>cases e
 |rp=>cases e
theorem IE:∀ n<8,e9 (.str (lG n)) [.str (JO "plain"),.str (JO "("),.str (JO "not")]=decide (n=1\/n=6\/n=3):=dkq
theorem Hz(z y:Str):decide (V.str z=V.str y)=decide (z=y):=by
 by_cases h:z=y
 ·subst h;simp
 ·rw[JQ h];exact JQ λe=>h (by injection e)
theorem m9{s:Ls}(h:s.st= .plain\/s.st= .more){k:Tk}(hk:∀ n,k≠ .near n):dP s k=RA.kP s.A s.S k:=RA.rV h hk
noncomputable abbrev BG:JP Str:=["_law_line","_law_asks","_law_signs","_law_state","_law_at","_law_far","_law_piece_here"]
theorem iH:da BG ["_law_line"] (cG pJ):=⟨rfl,rfl,rfl,dkq,rfl,dkq,dkq⟩
seal cH PS PE PT PA PG PI cT cP in
theorem F9{f fc ff fj fa ft:JR}{fd fdc fdf fdj fda fdt:J2}(D:Df K mg "_law_read" pJ f fd)(DC:Df K mg "_law_piece" md fc fdc)(GC0:bX P w K mg base b7 3 fc fdc ["_law_line","_law_at"] sk)(DF:Df K mg "_law_first" qH ff fdf)(DJ:Df K mg "_law_joined" pT fj fdj)(GJ:bX P w K mg base b7 3 fj fdj j9 yO)(DA:Df K mg "_law_put_all" mY fa fda)(GA0:bX P w K mg base b7 2 fa fda ["_law_asks","_law_signs","_law_least"] uY)(DT:Df K mg "_law_fits" nF ft fdt)(GT0:bX P w K mg base b7 2 ft fdt ["_law_told"] Bf)(T:Txt mg):bX P w K mg base b7 4 f fd ["_law_line"] wM:=by
 have GC:bX P w K mg base b7 3 fc fdc ["_law_line","_law_at"] u9:=bX.imp GC0 λ_ _ _ _=>zh
 have bC:=DC.F.binds (ps:=["_law_line","_law_at"]) λ_ _ _ _ _ _ us hl=>match us,hl with|[_,_],_=>rfl
 have GF:bX P w K mg base b7 3 ff fdf j9 Aj:=(Gy DF).mono (by decide)
 have bF:=DF.F.binds (ps:=j9) λ_ _ _ _ _ _ us hl=>match us,hl with|[_,_,_],_=>rfl
 have bJ:=DJ.F.binds (ps:=j9) λ_ _ _ _ _ _ us hl=>match us,hl with|[_,_,_],_=>rfl
 have GA:=GA0.mono (show 2<=3 by decide)
 have bA:=DA.F.binds (ps:=["_law_asks","_law_signs","_law_least"]) λ_ _ _ _ _ _ us hl=>match us,hl with|[_,_,_],_=>rfl
 have GT:=GT0.mono (show 2<=3 by decide)
 have bT:=dY (p:="_law_told") DT.F λ_ _ _ _ _ _ _=>rfl
 refine D.F.ok iH (λvs H Q E h=>?_) (λcdv A0 outer s H vs Q E hr h=>?_)
 ·obtain⟨ts,rfl,_⟩:=h;rfl
 ·obtain⟨ts,rfl,hl,hg,q⟩:=h;have sz:sizeLine=16777216:=Kv;generalize hL:tl .lp ts=L at hl q;have al:(sT L).length=L.length:=du L;refine⟨_,b9 (vq (dv (bU (eZ bV) (bU (eZ bV) (bU b8 (bU bZ bV))))) (qA (n:=4) rfl (iN (eX (i:=1) iH.nd rfl (Kh rfl)) (iN (eX (i:=2) iH.nd rfl (Kh rfl)) (iN (eX (i:=3) iH.nd rfl (Kh rfl)) (iN (eX (i:=4) iH.nd rfl (Kh rfl)) qm))))))
   (b9 (cZ (i:=5) iH.nd rfl (Kh rfl) bZ)
   (b5 (jZ KZ (fZ iq)
    (b9 (cZ (i:=6) iH.nd rfl (Kh rfl) (cQ GC hr rfl DC.m DC.F.kp bC .nil cz (bU (pv 0) (bU (pv 4) bV))))
    (b9 (cZ (i:=4) iH.nd rfl (Kh rfl) (cK dS (pv 6) bZ (λ_ _=>rfl)))
    (b9 (cM (cx cU (cK dS (pv 6) bZ (λ_ _=>rfl)) b8 (cC _)) pK cY)
    (b9 (cM (cx cU (pv 3) b8 (cC _)) (b5 (cZ (i:=3) iH.nd rfl (Kh rfl) (cQ GF hr rfl DF.m DF.F.kp bF .nil cz (bU (pv 1) (bU (pv 2) (bU (pv 6) bV))))))
     (b5 (cM (cx cU (pv 3) b8 (cC _))
      (b9 (cM (cx kN (cK dS (pv 6) bZ (λ_ _=>rfl)) b8 (cC _)) (b5 (cy (cK dS (pv 6) bZ (λ_ _=>rfl)))) cY)
      (b9 (e7 (fS Kp KO K6 iO (pv 1) (bU (dv (bU b8 (bU (iL Kp LP L4 jM (pv 1)) (bU (cK dS (pv 6) bZ (λ_ _=>rfl)) (bU (pv 5) bV))))) bV)))
      (b5 (cZ (i:=3) iH.nd rfl (Kh rfl) b8))))
     (b5 (cM (PT.imp (t':=λσ H' Q'=>∃(p:JR) (ko:JW Tk) (st:Sm) (b1 e1:Nat),σ[6]? =some (some (.ref p))/\σ[3]? =some (some (.str (fP st)))/\kI H' p ko b1 e1/\Q' (decide (cX ko=2/\jr st=1)) H') (PW.pt (g8 (cx cU (cK dS (pv 6) bZ (λ_ _=>rfl)) b8 (cC _)) (gZ (cx cU (pv 3) b8 (cC _))))) ?m3)
      (b5 (A3 (i:=5) (j:=3) rfl iH.nd rfl rfl (by decide) rfl rfl (bU (cK dS (pv 6) bZ (λ_ _=>rfl)) (bU b8 bV)) rfl))
     (b5 (cM (PT.imp (t':=λσ H' Q'=>∃(p g:JR) (ko:JW Tk) (S:JP Sg) (b1 e1:Nat),σ[6]? =some (some (.ref p))/\σ[2]? =some (some (.ref g))/\gz H' g S/\kI H' p ko b1 e1/\Q' (decide (cX ko=0/\cnt S=0)) H') (PW.pt (g8 (cx cU (cK dS (pv 6) bZ (λ_ _=>rfl)) b8 (cC _)) (gZ (cx cU (fS Kp Nq Nr rR (pv 2) (bU b8 bV)) bZ (cC _))))) ?m4)
      (b9 (e7 (cQ GA hr rfl DA.m DA.F.kp bA .nil cz (bU (pv 1) (bU (pv 2) (bU bZ bV)))))
      (b5 (cy (ji (fZ (cQ GT hr rfl DT.m DT.F.kp bT .nil cz (bU (cK fO (pv 1) bZ (λ_ _=>rfl)) bV))) (cK fO (pv 1) bZ (λ_ _=>rfl)) (dF ip rfl T.len e8 (bU (pv 0) bV))))))
      (b9 (cZ (i:=3) iH.nd rfl (Kh rfl) (cQ GJ hr rfl DJ.m DJ.F.kp bJ .nil cz (bU (pv 1) (bU (pv 2) (bU (pv 6) bV)))))
      (b5 (cM (PT.imp (t':=λσ H' Q'=>∃(p:JR) (ko:JW Tk) (z:Str) (b1 e1:Nat),σ[6]? =some (some (.ref p))/\σ[3]? =some (some (.str z))/\kI H' p ko b1 e1/\∀ aO,bY H' aO->Q' (decide (z=JO "first"/\(cX ko=1\/cX ko=6\/cX ko=3))) aO) (PW.pt (g8 (cx cU (pv 3) b8 (cC _)) (gZ (cx kC (cK dS (pv 6) bZ (λ_ _=>rfl)) (dv (bU b8 (bU b8 (bU b8 bV)))) (by with_unfolding_all rfl))))) ?m5) (b5 (cZ (i:=4) iH.nd rfl (Kh rfl) (cK dS (pv 6) bZ (λ_ _=>rfl)))) cY))))))))))
    (b5 (cM (cx cU (pv 3) b8 (cC _)) (b5 (cy (cK dS (pv 6) bZ (λ_ _=>rfl)))) cY))))))))),?_⟩
  rotate_left 3
  refine⟨Ks _,λa ha=>⟨Ks _,λg aw=>⟨ie,λp0 aG=>⟨p0,_,rfl,cu.of b6,rfl,_,_,rfl,_,_,rfl,_,_,rfl,_,_,rfl,rfl,?_⟩⟩⟩⟩;have ax:a≠g:=λz=>by rw[<-z,b6] at aw;cases aw
  have aH:H g=none:=by
   cases e:H g with
   |none=>rfl
   |some u=>rw[(cq ha) _ _ e] at aw;cases aw
  have s1:bY H (upd (upd (upd H a (.lst [])) g (.lst [])) p0 (.tup [.ref a,.ref g,.str (JO "first"),.int 0])):=((cq ha).trans (cq aw)).trans (cq aG)
  have ea:upd (upd (upd H a (.lst [])) g (.lst [])) p0 (.tup [.ref a,.ref g,.str (JO "first"),.int 0]) a=some (.lst []):=((cq aw).trans (cq aG)) _ _ b6
  have eg:upd (upd (upd H a (.lst [])) g (.lst [])) p0 (.tup [.ref a,.ref g,.str (JO "first"),.int 0]) g=some (.lst []):=(cq aG) _ _ b6
  show vZ _ _ _ [some (.str (sT L)),some (.ref a),some (.ref g),some (.str (JO "first")),some (.int 0),some (.int 0),none] (upd (upd (upd H a (.lst [])) g (.lst [])) p0 (.tup [.ref a,.ref g,.str (JO "first"),.int 0]));generalize upd (upd (upd H a (.lst [])) g (.lst [])) p0 (.tup [.ref a,.ref g,.str (JO "first"),.int 0])=H1 at s1 ea eg ⊢;have bE:ts.length<=2000:=by have:=oZ ts .lp hg;rw[hL] at this;omega
  refine jT (so H L ts a g) (λσ _=>l8 L σ) ⟨⟨[],[],.first⟩,.lp,ts,0,.int 0,none,rfl,s1,⟨[],ea,.nil⟩,eg,by rw[OW,hL],Ks _,hg,rfl,⟨⟨0,[],rfl,.nil,JY _⟩,(λz=>by rcases z with z|⟨m,z⟩<;>cases z),(λt ht=>nomatch ht),by show 0+_<=_;omega,by show 0+2*ts.length+0<=_;omega⟩,(λm z=>by cases z)⟩ ?_ ?_
  ·rintro σ H' ⟨s,k,r,b,vf,o6,rfl,sm,hA,hS,hd,hb,ak,ho,li,a7⟩;obtain⟨ko,b1,e1,af⟩:∃ ko b1 e1,ya L b k r ko b1 e1:=by
    cases r with
    |nil=>exact⟨none,_,_,.inl ⟨rfl,rfl,rfl,rfl⟩⟩
    |cons k' r'=>exact⟨some k',_,_,.inr ⟨k',r',rfl,rfl,rfl,rfl⟩⟩
   refine⟨_,rfl,cg ⟨_,rfl,_,rfl,L,b,k,r,ko,b1,e1,rfl,by omega,hb,hd,ak,af,λp H2 s2 hp=>?_⟩⟩;obtain⟨v,ab,hv⟩:=id hp;have ay:gM H2 a s.A:=hA.same s2;have ao:gz H2 g s.S:=s2 _ _ hS;have az:H2 g=_:=ao;have aI:=sm.trans s2;obtain⟨va,aq,aP⟩:=id ay;have aA:p≠a:=λz=>by rw[z,aq] at ab;cases ab
   have aB:p≠g:=λz=>by rw[z,az] at ab;cases ab
   have lia:=li.la
   have aj:=li.ls
   have lA:s.A.length<=9000:=by omega
   have lS:s.S.length<=9000:=by split at aj<;>omega
   refine⟨_,rfl,p,_,3,_,rfl,rfl,cu.of ab,cJ (j:=3) rfl,?_⟩;refine⟨_,rfl,p,_,0,_,rfl,rfl,cu.of ab,cJ (j:=0) rfl,rfl,_,rfl,eE (BD ko) ⟨_,rfl,rfl,_,rfl,?_⟩⟩;rw[show decide (V.str (fP s.st)=V.str (JO "first"))=decide (jr s.st=0) from uo s.st 0 (by decide)];have tok:∀ k' r',r=k'::r'->ko=some k'/\gK k'/\L.drop e1=tl k' r'/\e1<=L.length/\b+1<=e1/\L.drop b1=tl .lp (k'::r')/\b<=b1/\b1<=L.length:=λk' r' er=>by
    rcases af with ⟨e,_⟩|⟨k2,r2,e,hk,aQ,aR⟩
    ·rw[e] at er;cases er
    ·rw[e] at er;injection er with x1 x2;subst x1 x2;have gk:=ak k2 (by rw[e];simp);rw[e] at hd;have a8:L.drop b=cL k k2++(txt k2++tl k2 r2):=hd;have d1:L.drop b1=txt k2++tl k2 r2:=by rw[aQ];exact iA a8
     have d2:L.drop e1=tl k2 r2:=by rw[aR];exact iA d1
     have tp:=wZ gk;obtain⟨c,y,ec,_⟩:=qd gk;have l1:b1<L.length:=(gH (show L.drop b1=c::(y++tl k2 r2) by rw[d1,ec];rfl)).2;have ll:=K9 Mw d1;rw[KH,JU] at ll;exact⟨hk,gk,d2,by omega,by omega,by rw[d1];show _=cL .lp k2++(txt k2++tl k2 r2);rw[show cL .lp k2=[] from J1 (.inl rfl)];rfl,by omega,by omega⟩
   have bad:∀ H3,eV a g H2 H3->jf s r=none->Q (.int ((b1:Nat):Int)) H3:=λH3 b3 hn=>by
    refine q _ H3 (bY.but2 aI b3 ha aH) (.inr ⟨_,rfl,λq' aC=>?_⟩);rw[<-ho,hn] at aC;cases aC
   have fin:∀(s':Ls) (k':Tk) (r':JP Tk) (e':Nat) (vf':V) (H3:Hp),eV a g H2 H3->gM H3 a s'.A->gz H3 g s'.S->L.drop e'=tl k' r'->e'<=L.length->(∀ q∈r',gK q)->jf s' r'=jf s r->LI s' ts.length r'->(∀ m,s'.st= .near m->vf'= .int ((m:Nat):Int))->2*(L.length-e')+(if s'.st= .first then 0 else 1)<2*(L.length-b)+(if s.st= .first then 0 else 1)->
     so H L ts a g [some (.str (sT L)),some (.ref a),some (.ref g),some (.str (fP s'.st)),some (.int ((e':Nat):Int)),some vf',some (.ref p)] H3/\l8 L [some (.str (sT L)),some (.ref a),some (.ref g),some (.str (fP s'.st)),some (.int ((e':Nat):Int)),some vf',some (.ref p)]<l8 L [some (.str (sT L)),some (.ref a),some (.ref g),some (.str (fP s.st)),some (.int ((b:Nat):Int)),some vf,o6]:=λs' k' r' e' vf' H3 b3 ar ag aJ a9 ba bc bf bg mu=>by
    refine⟨⟨s',k',r',e',vf',_,rfl,bY.but2 aI b3 ha aH,ar,ag,aJ,a9,ba,bc.trans ho,bf,bg⟩,?_⟩;show 2*(L.length-((e':Nat):Int).toNat)+(if fP s'.st=JO "first" then 0 else 1)<2*(L.length-((b:Nat):Int).toNat)+(if fP s.st=JO "first" then 0 else 1);simp only[E8,Oe];exact mu
   obtain⟨c0,aD⟩:=li.ri;by_cases I:s.st= .first
   ·rw[JS (show jr s.st=0 by rw[I];rfl)];refine cg ⟨_,rfl,_,rfl,_,rfl,a,g,p,s.A,s.S,ko,b1,e1,rfl,ax,hp,ay,ao,by omega,by omega,?_⟩;cases hf:qt s.A s.S ko with
    |none=>
     intro H3 b3;refine⟨_,rfl,rfl,_,rfl,?_⟩;have on:jf s r=none:=by
      rcases af with ⟨e,hk,_⟩|⟨k2,r2,e,hk,_⟩
      ·rw[e];show fK s=none;unfold RA.fK;rw[if_neg (λz=>by rcases z.1 with z|z<;>(rw[I] at z;cases z))]
      ·rw[e];show((dP s k2).bind λs'=>eN s' r2).bind fK=none;have:dP s k2=none:=by
        unfold RA.dP;rw[I];rw[hk] at hf;exact hf
       rw[this];rfl
     exact cg ⟨_,rfl,p,_,2,_,rfl,rfl,cu.of (b3 _ _ aA aB ab),cJ (j:=2) rfl,bad H3 b3 on⟩
    |some s'=>
     intro H3 b3 ar ag;rcases af with ⟨e,hk,_⟩|⟨k2,r2,e,hk,aQ,aR⟩
     ·rw[hk] at hf;cases hf
     ·rw[hk] at hf;have ah:RA.lI s.A s.S k2=some s':=hf;obtain⟨t1,t2,t3,t4,t5,t6,t7,t8⟩:=tok k2 r2 e;obtain⟨g1,g2,g3,g4⟩:=FJ t2 li.g ah;have U:dP s k2=some s':=by unfold RA.dP;rw[I];exact ah
      refine⟨_,rfl,rfl,_,rfl,eE (kq s'.st) (fin s' k2 r2 e1 vf H3 b3 ar ag t3 t4 (λq hq=>ak q (by rw[e];exact J0 _ hq)) ?_ ⟨⟨_,RA.qi aD U⟩,g2,g1,?_,?_⟩ ?_ ?_)⟩
      ·rw[e];show _=((dP s k2).bind λs'=>eN s' r2).bind fK;rw[U];rfl
      ·rw[e,JV] at lia;omega
      ·rw[e,JV,J1 I] at aj;omega
      ·intro m z;exfalso;cases k2 with
       |leaf l=>cases ah;cases z
       |lp=>
        have h':(if cnt s.S<12 then some (Ls.mk s.A (.lp::s.S) .first) else none)=some s':=ah;split at h'
        ·cases h';cases z
        ·cases h'
       |no=>cases ah;cases z
       |near _=>cases ah
       |and=>cases ah
       |or=>cases ah
       |rp=>cases ah
      ·rw[J1 I];split<;>omega
   ·rw[JQ (λz=>I (by cases U:s.st<;>rw[U] at z<;>first|rfl|cases z))];refine cj ⟨_,rfl,rfl,_,rfl,?_⟩;rw[show decide (V.str (fP s.st)=V.str (JO "near"))=decide (jr s.st=3) from uo s.st 3 (by decide)];by_cases au:∃ m,s.st= .near m
    ·obtain⟨m,hm⟩:=au;rw[JS (show jr s.st=3 by rw[hm];rfl)];refine cg ⟨_,rfl,p,_,0,_,rfl,rfl,cu.of ab,cJ (j:=0) rfl,rfl,_,rfl,?_⟩;rw[show decide (V.str (gj ko)=V.str (JO "plain"))=decide (cX ko=1) from jR ko (j:=1) (by decide)];by_cases h1:cX ko=1
     ·rw[JS h1];obtain⟨l,rfl⟩:∃ l,ko=some (.leaf l):=by
       cases ko with
       |none=>cases h1
       |some k=>cases k<;>first|exact⟨_,rfl⟩|cases h1
      obtain⟨r2,er⟩:∃ r2,r= .leaf l::r2:=by
       rcases af with ⟨_,hk,_⟩|⟨k2,r2,e,hk,_⟩
       ·cases hk
       ·injection hk with hk;exact⟨r2,by rw[hk];exact e⟩
      obtain⟨t1,t2,t3,t4,t5,t6,t7,t8⟩:=tok _ r2 er;obtain⟨l0,A',eA⟩:=li.lf (.inr ⟨m,hm⟩);have aS:cV false H2 va ((A'.reverse.map dT)++[dT (.leaf l0)]):=by
       have:=aP;rw[eA,Ke,J5] at this;exact this
      obtain⟨ws,v0,rfl,aT,bh⟩:=aS.unsnoc;have bG:ws.length=A'.length:=by rw[aT.len,JX,K8]
      have bj:=a7 m hm;subst bj;rw[eA,JV] at lA lia;refine cj ⟨_,rfl,.inl ⟨rfl,_,ck.of aq⟩,_,rfl,.inl ⟨rfl,_,ck.of aq⟩,a,_,_,rfl,rfl,aq,jW,?_⟩;rw[Ln];have aE:TT H2 (upd H2 a (.lst ws)):=λc xs e=>by rw[cF (λz=>by rw[z,aq] at e;cases e)];exact e
      have b3:eV a g H2 (upd H2 a (.lst ws)):=λc u n1 n2 e=>by rw[cF n1];exact e
      have aK:upd H2 a (.lst ws) a=some (.lst ws):=b6
      have ag:gz (upd H2 a (.lst ws)) g s.S:=by show upd H2 a (.lst ws) g=_;rw[cF (K5 ax)];exact ao
      generalize upd H2 a (.lst ws)=H3 at aE b3 aK ag ⊢;refine⟨_,rfl,p,_,1,_,rfl,rfl,cu.of (aE _ _ ab),cJ (j:=1) rfl,_,rfl,ie,λu hu=>?_⟩;have s4:bY H3 (upd H3 u (.tup [.str (JO "near"),v0,v,.int ((m:Nat):Int)])):=cq hu;have eu:upd H3 u (.tup [.str (JO "near"),v0,v,.int ((m:Nat):Int)]) u=some (.tup [.str (JO "near"),v0,v,.int ((m:Nat):Int)]):=b6;generalize upd H3 u (.tup [.str (JO "near"),v0,v,.int ((m:Nat):Int)])=H4 at s4 eu ⊢;have pn:cD false H4 (.ref u) (dT (.near l0 l m)):= .tup eu (.cons (.str _) (.cons ((bh.tups aE).same s4) (.cons ((hv.tups aE).same s4) (.cons (.int _) .nil))));have aF:gM H4 a A':=⟨ws,s4 _ _ aK,(aT.tups aE).same s4⟩;obtain⟨bo,aL,bH,bp⟩:=zq (t:= .near l0 l m) aF pn;have bq:bo=ws:=by rw[s4 _ _ aK] at aL;injection aL with h;injection h with h;exact h.symm
      subst bq;refine⟨a,_,_,rfl,rfl,aL,by rw[sz];omega,⟨_,rfl,rfl,_,rfl,eE (kq .more) (fin ⟨.near l0 l m::A',s.S,.more⟩ (.leaf l) r2 e1 _ _ (b3.trans ((eV.of s4).trans λc u n1 n2 e=>by rw[cF n1];exact e)) bp (by show upd H4 a _ g=_;rw[cF (K5 ax)];exact s4 _ _ ag) t3 t4 (λq hq=>ak q (by rw[er];exact J0 _ hq)) ?_ ?_ ?_ ?_)⟩⟩
      ·rw[er];show _=((dP s (.leaf l)).bind λs'=>eN s' r2).bind fK;have:dP s (.leaf l)=some ⟨.near l0 l m::A',s.S,.more⟩:=by
        unfold RA.dP;rw[hm,eA];rfl
       rw[this];rfl
      ·have U:dP s (.leaf l)=some ⟨.near l0 l m::A',s.S,.more⟩:=by
        unfold RA.dP;rw[hm,eA];rfl
       refine⟨⟨_,RA.qi aD U⟩,(λz=>by rcases z with z|⟨m',z⟩<;>cases z),λt ht=>?_,?_,?_⟩
       ·rcases List.mem_cons.mp ht with rfl|ht
        ·exact⟨li.g (.leaf l0) (by rw[eA];simp),t2⟩
        ·exact li.g t (by rw[eA];exact J0 _ ht)
       ·rw[er,JV] at lia;show A'.length+1+r2.length<=_;omega
       ·rw[er,JV] at aj;show s.S.length+2*r2.length+1<=_;split at aj<;>omega
      ·intro m' z;cases z
      ·show 2*(L.length-e1)+1<_;split<;>omega
     ·rw[JQ h1];have on:jf s r=none:=by
       rcases af with ⟨e,hk,_⟩|⟨k2,r2,e,hk,_⟩
       ·rw[e];show fK s=none;unfold RA.fK;rw[if_neg (λz=>by rcases z.1 with z|z<;>(rw[hm] at z;cases z))]
       ·rw[e];show((dP s k2).bind λs'=>eN s' r2).bind fK=none;have:dP s k2=none:=by
         unfold RA.dP;rw[hm];rw[hk] at h1;cases k2<;>first|rfl|exact absurd rfl h1
        rw[this];rfl
      exact cg ⟨_,rfl,p,_,2,_,rfl,rfl,cu.of ab,cJ (j:=2) rfl,bad H2 (λc u _ _ e=>e) on⟩
    ·rw[JQ (λz=>by cases U:s.st<;>rw[U] at z<;>first|(exact au ⟨_,U⟩)|cases z)];have aa:s.st= .plain\/s.st= .more:=by
      cases U:s.st with
      |first=>exact absurd U I
      |plain=>exact .inl rfl
      |more=>exact .inr rfl
      |near m=>exact absurd ⟨m,U⟩ au
     obtain⟨⟨q1,ai,aU,aV⟩,q2,ae,aW⟩:=Fc aD I;refine cj ⟨p,ko,s.st,b1,e1,rfl,rfl,hp,?_⟩;by_cases h2:cX ko=2/\jr s.st=1
     ·rw[JS h2];obtain⟨m,rfl⟩:∃ m,ko=some (.near m):=by
       cases ko with
       |none=>cases h2.1
       |some k=>cases k<;>first|exact⟨_,rfl⟩|cases h2.1
      have aX:s.st= .plain:=by rcases aa with h|h<;>rw[h] at h2 ⊢;exact absurd h2.2 (by decide)
      obtain⟨r2,er⟩:∃ r2,r= .near m::r2:=by
       rcases af with ⟨_,hk,_⟩|⟨k2,r2,e,hk,_⟩
       ·cases hk
       ·injection hk with hk;exact⟨r2,by rw[hk];exact e⟩
      obtain⟨t1,t2,t3,t4,t5,t6,t7,t8⟩:=tok _ r2 er;have ev:v= .int ((m:Nat):Int):=by
       have br:cD false H2 v (.int ((m:Nat):Int)):=hv;cases br;rfl
      subst ev;have U:dP s (.near m)=some {s with st:= .near m}:=by unfold RA.dP;rw[aX]
      refine cg ⟨_,rfl,p,_,1,_,rfl,rfl,cu.of ab,cJ (j:=1) rfl,_,_,rfl,⟨_,rfl,rfl,_,rfl,eE (kq (.near m)) (fin {s with st:= .near m} (.near m) r2 e1 (.int ((m:Nat):Int)) H2 (λc u _ _ e=>e) ay ao t3 t4 (λq hq=>ak q (by rw[er];exact J0 _ hq)) ?_ ⟨⟨_,RA.qi aD U⟩,λ_=>li.lf (.inl aX),li.g,?_,?_⟩ ?_ ?_)⟩⟩
      ·rw[er];show _=((dP s (.near m)).bind λs'=>eN s' r2).bind fK;rw[U];rfl
      ·rw[er,JV] at lia;show s.A.length+_<=_;omega
      ·rw[er,JV] at aj;show s.S.length+2*r2.length+1<=_;split at aj<;>omega
      ·intro m' z;injection z with z;rw[z]
      ·show 2*(L.length-e1)+1<_;split<;>omega
     ·rw[JQ h2];refine cj ⟨p,g,ko,s.S,b1,e1,rfl,rfl,ao,hp,?_⟩;by_cases h0:cX ko=0/\cnt s.S=0
      ·rw[JS h0];have ek:ko=none:=by
        cases ko with
        |none=>rfl
        |some k=>cases k<;>cases h0.1
       have er:r=[]:=by
        rcases af with ⟨e,_⟩|⟨k2,r2,e,hk,_⟩
        ·exact e
        ·rw[ek] at hk;cases hk
       obtain⟨tt,rfl⟩:=aV h0.2;have oo:jf s r=some tt:=by
        rw[er];show fK s=some tt;unfold RA.fK;rw[J1 ⟨aa,h0.2⟩,ai];rfl
       have gt:fX tt:=o9 li.g ai tt (by simp);refine cg ⟨_,rfl,_,rfl,a,g,0,1,s.A,[tt],s.S,[],rfl,rfl,ax,ay,ao,by omega,by omega,ai,λH3 b3 ar ag=>?_⟩;obtain⟨bt,aY,aJ⟩:=ar;obtain⟨v3,rfl,aZ⟩:∃ v3,bt=[v3]/\cD false H3 v3 (dT tt):=by
        cases aJ with
        |cons h r=>cases r;exact⟨_,rfl,h⟩
       have a0:=bY.but2 aI b3 ha aH;refine⟨_,rfl,a,_,0,v3,rfl,rfl,ck.of aY,cJ (j:=0) rfl,v3,tt,rfl,aZ,gt,λbb H4 s4 bu=>⟨_,rfl,?_⟩⟩;cases bb with
       |true=>
        refine cg ⟨_,rfl,a,_,0,v3,rfl,rfl,ck.of (s4 _ _ aY),cJ (j:=0) rfl,q v3 H4 (a0.trans s4) (.inl ⟨tt,ho.symm.trans oo,gt,aZ.same s4⟩)⟩
       |false=>
        refine cj ⟨_,rfl,_,rfl,dC (by rw[al];omega),q _ H4 (a0.trans s4) (.inr ⟨_,rfl,λq' aC a3=>?_⟩)⟩;rw[<-ho,oo] at aC;have:tt=q':=Kg aC;subst this;exact absurd (bu a3.1 a3.2) (by decide)
      ·rw[JQ h0];refine cj ⟨_,rfl,_,rfl,_,rfl,a,g,p,s.A,s.S,ko,b1,e1,q1,q2,rfl,ax,hp,ay,ao,lA,lS,ai,ae,aU,?_⟩;cases hj:oW s.A s.S ko with
       |none=>
        intro H3 b3;have aM:kI H3 p ko b1 e1:=⟨v,b3 _ _ aA aB ab,hv.tups (b3.tup aq az)⟩;refine⟨p,ko,JO "",b1,e1,rfl,rfl,aM,λH4 s4=>?_⟩;rw[JQ (λz=>absurd z.1 dkq)];have on:jf s r=none:=by
         rcases af with ⟨e,hk,_⟩|⟨k2,r2,e,hk,_⟩
         ·rw[e];show fK s=none;unfold RA.fK;rw[if_neg (λz=>h0 ⟨by rw[hk];rfl,z.2⟩)]
         ·rw[e];show((dP s k2).bind λs'=>eN s' r2).bind fK=none;have:dP s k2=none:=by
           rw[hk] at hj h2;cases k2 with
           |near m=>
            unfold RA.dP;rcases aa with h|h
            ·exact absurd ⟨rfl,by rw[h];rfl⟩ h2
            ·rw[h];rfl
           |rp=>rw[m9 aa (λn z=>by cases z)];exact hj
           |or=>rw[m9 aa (λn z=>by cases z)];exact hj
           |and=>rw[m9 aa (λn z=>by cases z)];exact hj
           |leaf l=>have J:(putAll 2 s.A s.S).bind (λq=>some (Ls.mk q.1 (.both::q.2) .first))=none:=hj;rw[ae] at J;cases J
           |lp=>have J:(putAll 2 s.A s.S).bind (λq=>some (Ls.mk q.1 (.both::q.2) .first))=none:=hj;rw[ae] at J;cases J
           |no=>have J:(putAll 2 s.A s.S).bind (λq=>some (Ls.mk q.1 (.both::q.2) .first))=none:=hj;rw[ae] at J;cases J
          rw[this];rfl
        exact cj ⟨_,rfl,rfl,_,rfl,cg ⟨_,rfl,p,_,2,_,rfl,rfl,cu.of (s4 _ _ (b3 _ _ aA aB ab)),cJ (j:=2) rfl,bad H4 (b3.trans (eV.of s4)) on⟩⟩
       |some s'=>
        intro H3 b3 ar ag;have aM:kI H3 p ko b1 e1:=⟨v,b3 _ _ aA aB ab,hv.tups (b3.tup aq az)⟩;refine⟨p,ko,fP s'.st,b1,e1,rfl,rfl,aM,λH4 s4=>?_⟩;obtain⟨k2,r2,er,hk⟩:∃ k2 r2,r=k2::r2/\ko=some k2:=by
         rcases af with ⟨_,hk,_⟩|⟨k2,r2,e,hk,_⟩
         ·rw[hk] at hj;cases hj
         ·exact⟨k2,r2,e,hk⟩
        subst hk;obtain⟨t1,t2,t3,t4,t5,t6,t7,t8⟩:=tok _ r2 er;have b4:=b3.trans (eV.of s4);have aF:=ar.same s4;have a4:gz H4 g s'.S:=s4 _ _ ag;have aN:H4 p=_:=s4 _ _ (b3 _ _ aA aB ab);have bw:∀ q∈r2,gK q:=λq hq=>ak q (by rw[er];exact J0 _ hq)
        have l1:=pV ai
        have l2:=pV ae
        have bB:s.S.length+2*(r2.length+1)+1<=2*ts.length+1:=by rw[er,JV,if_neg I] at aj;exact aj
        have bD:s.A.length+(r2.length+1)<=ts.length:=by rw[er,JV] at lia;exact lia
        have step:∀(U:dP s k2=some s') (av:s'.st≠ .plain/\∀ m,s'.st≠ .near m) (a5:∀ t∈s'.A,fX t) (bx:s'.A.length<=s.A.length) (bz:s'.S.length<=s.S.length+1),so H L ts a g [some (.str (sT L)),some (.ref a),some (.ref g),some (.str (fP s'.st)),some (.int ((e1:Nat):Int)),some vf,some (.ref p)] H4/\l8 L [some (.str (sT L)),some (.ref a),some (.ref g),some (.str (fP s'.st)),some (.int ((e1:Nat):Int)),some vf,some (.ref p)]<l8 L [some (.str (sT L)),some (.ref a),some (.ref g),some (.str (fP s.st)),some (.int ((b:Nat):Int)),some vf,o6]:=λU av a5 bx bz=>by
         refine fin s' k2 r2 e1 vf H4 b4 aF a4 t3 t4 bw ?_ ⟨⟨_,RA.qi aD U⟩,(λz=>by rcases z with z|⟨m,z⟩;exact absurd z av.1;exact absurd z (av.2 m)),a5,by omega,by split<;>omega⟩ (λm z=>absurd z (av.2 m)) (by rw[if_neg I];split<;>omega);rw[er];show _=((dP s k2).bind λs'=>eN s' r2).bind fK;rw[U];rfl
        have again:(cX (some k2)=1\/cX (some k2)=6\/cX (some k2)=3)->s'=⟨q2.1,.both::q2.2,.first⟩->(∀ n,k2≠ .near n)->RA.kP s.A s.S k2=(putAll 2 s.A s.S).bind (λq=>RA.lI q.1 (.both::q.2) k2)->so H L ts a g [some (.str (sT L)),some (.ref a),some (.ref g),some (.str (fP s'.st)),some (.int ((b1:Nat):Int)),some vf,some (.ref p)] H4/\l8 L [some (.str (sT L)),some (.ref a),some (.ref g),some (.str (fP s'.st)),some (.int ((b1:Nat):Int)),some vf,some (.ref p)]<l8 L [some (.str (sT L)),some (.ref a),some (.ref g),some (.str (fP s.st)),some (.int ((b:Nat):Int)),some vf,o6]:=λ_ es hk hm=>by
         subst es;refine fin _ .lp (k2::r2) b1 vf H4 b4 aF a4 t6 t8 (λq hq=>ak q (by rw[er];exact hq)) ?_ ⟨aW,(λz=>by rcases z with z|⟨m,z⟩<;>cases z),o9 li.g ae,by show q2.1.length+(r2.length+1)<=_;omega,by show q2.2.length+1+2*(r2.length+1)+0<=_;omega⟩ (λm z=>by cases z) (by rw[if_neg I];show 2*(L.length-b1)+0<_;omega);rw[er];show((dP ⟨q2.1,.both::q2.2,.first⟩ k2).bind λs'=>eN s' r2).bind fK=((dP s k2).bind λs'=>eN s' r2).bind fK;rw[m9 aa hk,hm,ae];rfl
        have two:∀{qq:JP Tr×JP Sg} {st:Ls},(some qq:JW (JP Tr×JP Sg)).bind (λq=>some (Ls.mk q.1 (.both::q.2) .first))=some st->st=⟨qq.1,.both::qq.2,.first⟩:=λh=>by injection h with h;exact h.symm
        cases k2 with
        |near m=>cases hj
        |leaf l=>
         have J:(putAll 2 s.A s.S).bind (λq=>some (Ls.mk q.1 (.both::q.2) .first))=some s':=hj;rw[ae] at J;have es:=two J;rw[JS (show fP s'.st=JO "first"/\(cX (some (.leaf l))=1\/cX (some (.leaf l))=6\/cX (some (.leaf l))=3) from⟨by rw[es];rfl,.inl rfl⟩)];exact cg ⟨_,rfl,p,_,2,_,rfl,rfl,cu.of aN,cJ (j:=2) rfl,⟨_,rfl,rfl,_,rfl,eE (kq _) (again (.inl rfl) es (λn z=>by cases z) rfl)⟩⟩
        |lp=>
         have J:(putAll 2 s.A s.S).bind (λq=>some (Ls.mk q.1 (.both::q.2) .first))=some s':=hj;rw[ae] at J;have es:=two J;rw[JS (show fP s'.st=JO "first"/\(cX (some .lp)=1\/cX (some .lp)=6\/cX (some .lp)=3) from⟨by rw[es];rfl,.inr (.inl rfl)⟩)];exact cg ⟨_,rfl,p,_,2,_,rfl,rfl,cu.of aN,cJ (j:=2) rfl,⟨_,rfl,rfl,_,rfl,eE (kq _) (again (.inr (.inl rfl)) es (λn z=>by cases z) rfl)⟩⟩
        |no=>
         have J:(putAll 2 s.A s.S).bind (λq=>some (Ls.mk q.1 (.both::q.2) .first))=some s':=hj;rw[ae] at J;have es:=two J;rw[JS (show fP s'.st=JO "first"/\(cX (some .no)=1\/cX (some .no)=6\/cX (some .no)=3) from⟨by rw[es];rfl,.inr (.inr rfl)⟩)];exact cg ⟨_,rfl,p,_,2,_,rfl,rfl,cu.of aN,cJ (j:=2) rfl,⟨_,rfl,rfl,_,rfl,eE (kq _) (again (.inr (.inr rfl)) es (λn z=>by cases z) rfl)⟩⟩
        |and=>
         have U:dP s .and=some s':=by rw[m9 aa (λn z=>by cases z)];exact hj
         have J:(putAll 2 s.A s.S).bind (λq=>some (Ls.mk q.1 (.both::q.2) .first))=some s':=hj;rw[ae] at J;have es:=two J;rw[JQ (λz=>by rcases z.2 with z|z|z<;>cases z)];exact cj ⟨_,rfl,rfl,_,rfl,eE (kq _) (step U (by rw[es];exact⟨(λz=>by cases z),(λm z=>by cases z)⟩) (by rw[es];exact o9 li.g ae) (by rw[es];exact l2.1) (by rw[es];exact M6 l2.2))⟩
        |or=>
         have U:dP s .or=some s':=by rw[m9 aa (λn z=>by cases z)];exact hj
         have J:(putAll 1 s.A s.S).bind (λq=>some (Ls.mk q.1 (.either::q.2) .first))=some s':=hj;rw[ai] at J;have es:s'=⟨q1.1,.either::q1.2,.first⟩:=by injection J with h;exact h.symm
         rw[JQ (λz=>by rcases z.2 with z|z|z<;>cases z)];exact cj ⟨_,rfl,rfl,_,rfl,eE (kq _) (step U (by rw[es];exact⟨(λz=>by cases z),(λm z=>by cases z)⟩) (by rw[es];exact o9 li.g ai) (by rw[es];exact l1.1) (by rw[es];exact M6 l1.2))⟩
        |rp=>
         have U:dP s .rp=some s':=by rw[m9 aa (λn z=>by cases z)];exact hj
         have J:(if 0<cnt s.S then (putAll 1 s.A s.S).bind (λq=>match q.2 with|_::S'=>some (Ls.mk q.1 S' .more)|[]=>none) else none)=some s':=hj;rw[ai] at J;obtain⟨A1,S1⟩:=q1;obtain⟨x,S3,e3,es⟩:∃ x S3,S1=x::S3/\s'=⟨A1,S3,.more⟩:=by
          split at J
          ·cases S1 with
           |nil=>cases J
           |cons x S3=>exact⟨x,S3,rfl,by injection J with h;exact h.symm⟩
          ·cases J
         rw[JQ (λz=>by rcases z.2 with z|z|z<;>cases z)];exact cj ⟨_,rfl,rfl,_,rfl,eE (kq _) (step U (by rw[es];exact⟨(λz=>by cases z),(λm z=>by cases z)⟩) (by rw[es];exact o9 li.g ai) (by rw[es];exact l1.1) (by rw[es];have:=l1.2;rw[e3] at this;show S3.length<=_;have h':S3.length+1<=s.S.length:=this;omega))⟩
  ·rintro σ H' Q1 Q2 hq ⟨b,e,q⟩;exact⟨b,e,hq _ _ q⟩
  ·rintro σ H' Q' ⟨p,ko,st,b1,e1,h6,h3,⟨v,hp,hv⟩,q'⟩;refine⟨_,h6,p,_,0,_,rfl,rfl,cu.of hp,cJ (j:=0) rfl,rfl,_,rfl,?_⟩;rw[show decide (V.str (gj ko)=V.str (JO "near"))=decide (cX ko=2) from jR ko (j:=2) (by decide)];by_cases h:cX ko=2
   ·rw[JS h];refine cg ⟨_,h3,rfl,_,rfl,?_⟩;rw[show decide (V.str (fP st)=V.str (JO "plain"))=decide (jr st=1) from uo st 1 (by decide)];have:decide (cX ko=2/\jr st=1)=decide (jr st=1):=by simp[h]
    rw[this] at q';exact q'
   ·rw[JQ h];rw[JQ (λz=>h z.1)] at q';exact cj q'
  ·rintro σ H' Q' ⟨p,g,ko,S,b1,e1,h6,h2,hS,⟨v,hp,hv⟩,q'⟩;refine⟨_,h6,p,_,0,_,rfl,rfl,cu.of hp,cJ (j:=0) rfl,rfl,_,rfl,?_⟩;rw[show decide (V.str (gj ko)=V.str (JO "end"))=decide (cX ko=0) from jR ko (j:=0) (by decide)];by_cases h:cX ko=0
   ·rw[JS h];have a6:H' g=_:=hS;refine cg ⟨_,h2,.inl ⟨rfl,_,ck.of a6⟩,g,S.reverse.map dU,_,rfl,rfl,ck.of a6,rfl,_,rfl,?_⟩;rw[wB];have:decide (cX ko=0/\cnt S=0)=decide (V.int ((cnt S:Nat):Int)=V.int 0):=by
     by_cases hc:cnt S=0
     ·simp[h,hc]
     ·rw[JQ (λz=>hc z.2)];exact(JQ (λz=>hc (by injection z with z;omega))).symm
    rw[this] at q';exact q'
   ·rw[JQ h];rw[JQ (λz=>h z.1)] at q';exact cj q'
  ·rintro σ H' Q' ⟨p,ko,z,b1,e1,h6,h3,⟨v,hp,hv⟩,q'⟩;refine⟨_,h3,rfl,_,rfl,?_⟩;rw[Hz];by_cases h:z=JO "first"
   ·rw[JS h];refine cg ⟨_,h6,p,_,0,_,rfl,rfl,cu.of hp,cJ (j:=0) rfl,fG,λu hu=>⟨u,_,rfl,.inr (cu.of b6),rfl,rfl,_,rfl,?_⟩⟩;show Q' (e9 (.str (gj ko)) [.str (JO "plain"),.str (JO "("),.str (JO "not")]) _;rw[(jv ko).1,IE _ (jv ko).2];have q2:=q' _ (cq (o:= .tup [.str (JO "plain"),.str (JO "("),.str (JO "not")]) hu);have:decide (z=JO "first"/\(cX ko=1\/cX ko=6\/cX ko=3))=decide (cX ko=1\/cX ko=6\/cX ko=3):=by simp[h]
    rw[this] at q2;exact q2
   ·rw[JQ h];have q2:=q' H' (bY.refl _);rw[JQ (λy=>h y.1)] at q2;exact cj q2
end
open RA (Lf Tr Tk wr brk)
noncomputable def xx(H:Hp)(q:JR)(y:Nat×Nat):Prop:=H q=some (.tup [.int ((y.1:Nat):Int),.int ((y.2:Nat):Int)])
noncomputable def Fd(H:Hp)(l:JR)(ys:JP (Nat×Nat)):Prop:=∃ qs:JP JR,H l=some (.lst (qs.map V.ref))/\Lo (xx H) qs ys
noncomputable def iG(l:JP Nat):JP V:=l.map λn=>V.int ((n:Nat):Int)
section
variable {P : Ka} {w : Ku} {K : J7} {mg : Str -> JW JT} {base : KP}
noncomputable def yt:Sp:=λvs H Q _=>∃(L:JP Nat) (new:JP (Nat×Nat)) (st:kr),vs=[.str (sT L)]/\L.length<=20000/\e6 L 0 ([],[],false)=some st/\st.1=new/\∀ l H',bY H H'->Fd H' l new->Q (.ref l) H'
noncomputable abbrev D3:JP Str:=["_law_line","_law_found","_law_begun","_law_within","_law_at"]
theorem rJ:da D3 ["_law_line"] (cG qa):=⟨rfl,rfl,rfl,dkq,rfl,dkq,dkq⟩
seal cH PS PE PT PA PG PI cT cP in
theorem HG{f:JR}{fd:J2}(D:Df K mg "_law_brackets" qa f fd)(T:Txt mg):bX P w K mg base b7 1 f fd ["_law_line"] yt:=by
 refine D.F.ok rJ (λvs H Q E h=>?_) (λcdv A0 outer s H vs Q E hr h=>?_)
 ·obtain⟨L,new,st,rfl,_⟩:=h;rfl
 ·obtain⟨L,new,st,rfl,hl,hR,rfl,q⟩:=h;have sz:sizeLine=16777216:=Kv;have al:(sT L).length=L.length:=du L;refine⟨_,b9 (Fp (i:=1) (j:=2) (k:=3) rfl rJ.nd rfl rfl rfl (by decide) (by decide) (by decide) rfl rfl rfl (bU (eZ bV) (bU (eZ bV) (bU iq bV))) rfl)
   (b9 (lF KZ rfl (kZ rfl T.range (bU (dF ip rfl T.len e8 (bU (pv 0) bV)) bV)) (eX (i:=4) rJ.nd rfl (Kh rfl))
    (b5 (cM (cx cU (cK gE (pv 0) (pv 4) (λ_ _=>rfl)) b8 (cC _)) (b5 (cZ (i:=3) rJ.nd rfl (Kh rfl) (xJ (pv 3))))
    (b5 (cM (PW.pt (g8 (cx cU (cK gE (pv 0) (pv 4) (λ_ _=>rfl)) b8 (cC _)) (gZ (gF (fZ (pv 3)))))) (b5 (e7 (fS Kp KO K6 iO (pv 2) (bU (pv 4) bV))))
    (b5 (cM (PW.pt (g8 (cx cU (cK gE (pv 0) (pv 4) (λ_ _=>rfl)) b8 (cC _)) (gZ (gF (fZ (pv 3)))))) (b5 (e7 (fS Kp KO K6 iO (pv 1) (bU (dv (bU (iL Kp LP L4 jM (pv 2)) (bU (pv 4) bV))) bV)))) cY)))))))
   (b5 (cy (pv 1)))),?_⟩;refine⟨Ks _,λa ha=>⟨Ks _,λg aa=>⟨_,_,_,rfl,?_⟩⟩⟩;have ag:a≠g:=λz=>by rw[<-z,b6] at aa;cases aa
  have aj:H g=none:=by
   cases e:H g with
   |none=>rfl
   |some u=>rw[(cq ha) _ _ e] at aa;cases aa
  have s1:bY H (upd (upd H a (.lst [])) g (.lst [])):=(cq ha).trans (cq aa)
  have ea:upd (upd H a (.lst [])) g (.lst []) a=some (.lst []):=(cq aa) _ _ b6
  have eg:upd (upd H a (.lst [])) g (.lst []) g=some (.lst []):=b6
  show jV _ _ _ [some (.str (sT L)),some (.ref a),some (.ref g),some (.bl false),none] (upd (upd H a (.lst [])) g (.lst []));generalize upd (upd H a (.lst [])) g (.lst [])=H1 at s1 ea eg ⊢;refine⟨_,rfl,_,rfl,dC (by rw[al];omega),_,rfl,by rw[al];omega,by rw[al];omega,?_⟩;rw[al,Oe];refine rA (λi σ H'=>∃(c:kr) (o4:JW V) (qs:JP JR),σ=[some (.str (sT L)),some (.ref a),some (.ref g),some (.bl c.2.2),o4]/\bY H H'/\H' a=some (.lst (qs.map V.ref))/\Lo (xx H') qs c.1/\H' g=some (.lst (iG c.2.1.reverse))/\qs.length<=i/\c.2.1.length<=i/\e6 (L.drop i) i c=some st) ⟨([],[],false),none,[],rfl,s1,ea,.nil,eg,JY _,JY _,by rw[OW];exact hR⟩ ?_ ?_
  ·rintro i σ H' hi ⟨⟨f0,U,w0⟩,o4,qs,rfl,sm,hA,hP,hG,l1,l2,ae⟩;have hc:L[i]? =some L[i]:=List.getElem?_eq_getElem hi;generalize aq:L[i]=c at hc;have ix:iz (sT L).cps.toList ((0:Int)+(i:Nat))=some c:=by rw[OG];exact cJ (j:=i) (by simpa using hc)
   rw[Lb hi,aq] at ae;have J:(fY c i (f0,U,w0)).bind (e6 (L.drop (i+1)) (i+1))=some st:=ae;have l9:(sT L).length<=sizeLine:=dC (by rw[al];omega);have ql:=M8 hP;refine⟨_,rfl,_,rfl,_,_,c,rfl,rfl,l9,ix,rfl,_,rfl,?_⟩;rw[show decide (V.str ⟨#[c]⟩=V.str (JO "\""))=decide (c=34) from gQ c 34];by_cases I:c=34
   ·rw[JS I];have e:fY c i (f0,U,w0)=some (f0,U,!w0):=by unfold fY;rw[J1 I]
    rw[e] at J;exact cg ⟨_,rfl,_,rfl,⟨(f0,U,!w0),_,qs,rfl,sm,hA,hP,hG,by omega,Kz l2,J⟩⟩
   ·rw[JQ I];refine cj ⟨_,rfl,_,rfl,_,_,c,rfl,rfl,l9,ix,rfl,_,rfl,?_⟩;rw[show decide (V.str ⟨#[c]⟩=V.str (JO "("))=decide (c=40) from gQ c 40];by_cases ab:c=40
    ·rw[JS ab];refine cg ⟨_,rfl,_,rfl,?_⟩;cases w0 with
     |false=>
      have e:fY c i (f0,U,false)=some (f0,i::U,false):=by unfold fY;rw[if_neg I,J1 ⟨ab,rfl⟩]
      rw[e] at J;refine cg ⟨_,rfl,.inl ⟨rfl,_,ck.of hG⟩,_,rfl,g,_,_,rfl,rfl,hG,by unfold iG;rw[JX,K8,sz];have h':U.length<=i:=l2;omega,⟨(f0,i::U,false),_,qs,rfl,lD sm aj,by rw[cF ag];exact hA,k9 (λq y h=>?_) hP,?_,by omega,by show U.length+1<=i+1;have h':U.length<=i:=l2;omega,J⟩⟩
      ·show upd H' g _ q=_;rw[cF (λz=>by rw[z] at h;rw[show H' g=_ from h] at hG;cases hG)];exact h
      ·rw[b6];show some (HO.lst (iG U.reverse++[V.int ((0:Int)+(i:Nat))]))=some (.lst (iG (i::U).reverse));unfold iG;rw[Ke,J5,OG];rfl
     |true=>
      have e:fY c i (f0,U,true)=some (f0,U,true):=by unfold fY;rw[if_neg I,if_neg (λz=>by cases z.2),if_neg (λz=>by cases z.2)]
      rw[e] at J;refine cj ⟨_,rfl,_,rfl,_,_,c,rfl,rfl,l9,ix,rfl,_,rfl,?_⟩;rw[show decide (V.str ⟨#[c]⟩=V.str (JO ")"))=decide (c=41) from gQ c 41,JQ (by omega)];exact cj (cj ⟨(f0,U,true),_,qs,rfl,sm,hA,hP,hG,by omega,Kz l2,J⟩)
    ·rw[JQ ab];refine cj (cj ⟨_,rfl,_,rfl,_,_,c,rfl,rfl,l9,ix,rfl,_,rfl,?_⟩);rw[show decide (V.str ⟨#[c]⟩=V.str (JO ")"))=decide (c=41) from gQ c 41];by_cases af:c=41
     ·rw[JS af];refine cg ⟨_,rfl,_,rfl,?_⟩;cases w0 with
      |true=>
       have e:fY c i (f0,U,true)=some (f0,U,true):=by unfold fY;rw[if_neg I,if_neg (λz=>by cases z.2),if_neg (λz=>by cases z.2)]
       rw[e] at J;exact cj ⟨(f0,U,true),_,qs,rfl,sm,hA,hP,hG,by omega,Kz l2,J⟩
      |false=>
       cases U with
       |nil=>
        have e:fY c i (f0,[],false)=none:=by unfold fY;rw[if_neg I,if_neg (λz=>ab z.1),J1 ⟨af,rfl⟩]
        rw[e] at J;cases J
       |cons b g1=>
        have e:fY c i (f0,b::g1,false)=some (f0++[(b,i)],g1,false):=by unfold fY;rw[if_neg I,if_neg (λz=>ab z.1),J1 ⟨af,rfl⟩]
        rw[e] at J;have ah:H' g=some (.lst (iG g1.reverse++[.int ((b:Nat):Int)])):=by
         rw[show H' g=_ from hG];unfold iG;show some (HO.lst ((b::g1).reverse.map _))=_;rw[Ke,J5];rfl
        have au:g1.length+1<=i:=l2;refine cg ⟨_,rfl,.inl ⟨rfl,_,ck.of hA⟩,_,rfl,.inl ⟨rfl,_,ck.of ah⟩,g,_,_,rfl,rfl,ah,jW,?_⟩;rw[Ln];have tt:TT H' (upd H' g (.lst (iG g1.reverse))):=λc' xs e'=>by rw[cF (λz=>by rw[z,ah] at e';cases e')];exact e'
        have ak:bY H (upd H' g (.lst (iG g1.reverse))):=lD sm aj
        have ai:upd H' g (.lst (iG g1.reverse)) a=some (.lst (qs.map V.ref)):=by rw[cF ag];exact hA
        have ao:upd H' g (.lst (iG g1.reverse)) g=some (.lst (iG g1.reverse)):=b6;generalize upd H' g (.lst (iG g1.reverse))=H2 at tt ak ai ao ⊢;refine⟨_,rfl,eJ,λu hu=>⟨a,_,_,rfl,rfl,(cq hu) _ _ ai,by rw[JX,sz];omega,?_⟩⟩;have s3:bY H2 (upd H2 u (.tup [.int ((b:Nat):Int),.int ((0:Int)+(i:Nat))])):=cq hu;have eu:upd H2 u (.tup [.int ((b:Nat):Int),.int ((0:Int)+(i:Nat))]) u=some (.tup [.int ((b:Nat):Int),.int ((0:Int)+(i:Nat))]):=b6;generalize upd H2 u (.tup [.int ((b:Nat):Int),.int ((0:Int)+(i:Nat))])=H3 at s3 eu ⊢;have ar:=s3 _ _ ai;have t4:TT H3 (upd H3 a (.lst (qs.map V.ref++[.ref u]))):=λc' xs e'=>by rw[cF (λz=>by rw[z,ar] at e';cases e')];exact e'
        refine⟨(f0++[(b,i)],g1,false),_,qs++[u],rfl,lD (ak.trans s3) ha,by rw[b6,J5];rfl,qU (k9 (λq y h=>t4 _ _ (s3 _ _ (tt _ _ h))) hP) (.cons ?_ .nil),by rw[cF (K5 ag)];exact s3 _ _ ao,by rw[JU];show _+1<=_;omega,by show g1.length<=i+1;omega,J⟩;rw[OG] at eu;exact t4 _ _ eu
     ·rw[JQ af];have e:fY c i (f0,U,w0)=some (f0,U,w0):=by unfold fY;rw[if_neg I,if_neg (λz=>ab z.1),if_neg (λz=>af z.1)]
      rw[e] at J;exact cj (cj ⟨(f0,U,w0),_,qs,rfl,sm,hA,hP,hG,by omega,Kz l2,J⟩)
  ·rintro σ H' ⟨c,o4,qs,rfl,sm,hA,hP,hG,l1,l2,ae⟩;rw[Ms] at ae;have:c=st:=Kg ae;subst this;exact⟨_,rfl,q a H' sm ⟨qs,hA,hP⟩⟩
end
end K13
namespace L2
open PySem PySem.Spec PyProof.Rows
section
variable {X : Cx} {o : KI} {to : TE} {name : Str} {apos cpos p1 p2 : Pos} {T id : Mx} {r : V -> JP V -> Hp -> VK -> Prop} {i : Int} {j1 j2 : Nat} {y z : Str}
noncomputable def yu(X:Cx)(e:KI)(t:TE):Prop:=
 ∀(pins:JP (JR×Obj)) (s:JZ) (σ:St) (H:Hp) (Q:VK),Inv X pins σ H s->t σ H Q->Kq (Ko X.prog X.w) X.A (eval e X.env) (λv s'=>1<=s'.toks/\EP X pins σ Q v s') X.xe s
noncomputable def B4(to:TE)(y z:Str):TE:=λσ H Q=>to σ H λx H1=>∃ S,x= .str S/\(y==z)=false/\S.length+(S.length+1)*z.length<=16777216/\Q (.str (Txt.replace S y z)) H1
end
section
variable {X : Cx}
noncomputable def qT(X:Cx)(e:KI)(t:TE):Prop:=
 ∀(pins:JP (JR×Obj)) (s:JZ) (σ:St) (H:Hp) (Q:VK),Inv X pins σ H s->1<=s.toks->t σ H Q->Kq (Ko X.prog X.w) X.A (eval e X.env) (EP X pins σ Q) X.xe s
theorem JM{e:KI}{t:TE}(h:PE X e t):qT X e t:=λpins s σ H Q I _ q=>h pins s σ H Q I q
theorem AZ{o:KI}{to:TE}{apos cpos p1 p2:Pos}{j1 j2:Nat}{y z:Str}(ho:qT X o to)(hbase:MI o "replace" X.env (eval o X.env)=eval o X.env:=by rfl)(hline:(apos.endLine==cpos.line)=true:=by rfl):
  qT X (.Call (.Attribute o "replace" apos) [.Constant (.str y) j1 p1,.Constant (.str z) j2 p2] [] cpos) (B4 to y z):=by
 intro pins s σ H Q I h1 h;refine wpAny_Call_method_late hbase rfl hline rfl (KY (Oj h1 (ho pins s σ H _ I h1 h)) (λv s1 ⟨ht,x,H1,U,r1,S,e,J,hl,q1⟩=>?_) λ_ _ h=>h.2);subst e;obtain⟨t,rfl⟩:=r1;refine⟨"str","str.replace",LA,F.slot_str_replace,F.type_str_replace,Nf _ S t,(λ_ e=>nomatch e),?_⟩;refine MA rfl (MX ?_);refine L6 (NW (k:=j1) (pos:=p1) (L6 (NW (k:=j2) (pos:=p2) (Ni ?_))));refine SC.replace (u:=s1.toks) (v:=s1.toks+1) (OA ht) (Nat.succ_ne_zero _) (Kr (LJ _)) J hl λt' k=>?_
 exact⟨.str (Txt.replace S y z),H1,(U.tok _),⟨_,rfl⟩,q1⟩
noncomputable def AM(X:Cx)(st:K0)(t:TS):Prop:=
 ∀(pins:JP (JR×Obj)) (s:JZ) (σ:St) (H:Hp) (D:Ends),Inv X pins σ H s->1<=s.toks->t D σ H->Kq (Ko X.prog X.w) X.A (exec st X.env) (SP X pins D) X.xe s
noncomputable def tK(X:Cx)(st:K0)(t:TS):Prop:=
 ∀(pins:JP (JR×Obj)) (s:JZ) (σ:St) (H:Hp) (D:Ends),Inv X pins σ H s->t D σ H->Kq (Ko X.prog X.w) X.A (exec st X.env) (λf s'=>1<=s'.toks/\SP X pins D f s') X.xe s
theorem EE{i:Nat}{x:Str}{e:KI}{te:TE}{pos pos':Pos}(hN:X.N.Nodup)(hi:X.N[i]? =some x)(hx:Loc X.env.scope x)(he:qT X e te)(hs:Ol e (some (.Name x pos')) pos.line X.env=pure false:=by rfl)(hf:X.fn x=true\/X.env.scope.names.lookup x=some .local:=by first|exact .inl rfl|exact .inr rfl|assumption):
  AM X (.Assign [.Name x pos'] e pos) (qI te (hV i)):=by
 intro pins s σ H D I h1 h;refine N8 (cv (he pins s σ H _ I h1 h) λv s1 ⟨y,H1,J,r1,U⟩=>?_) hs;exact iR J hN hi hx r1 (λs2 I2=>⟨_,H1,I2,U⟩) hf
theorem CT{i:Nat}{x:Str}{e:KI}{te:TE}{pos pos':Pos}(hN:X.N.Nodup)(hi:X.N[i]? =some x)(hx:Loc X.env.scope x)(he:yu X e te)(hs:Ol e (some (.Name x pos')) pos.line X.env=pure false:=by rfl)(hf:X.fn x=true\/X.env.scope.names.lookup x=some .local:=by first|exact .inl rfl|exact .inr rfl|assumption):
  tK X (.Assign [.Name x pos'] e pos) (qI te (hV i)):=by
 intro pins s σ H D I h;refine N8 (cv (he pins s σ H _ I h) λv s1 ⟨ht,y,H1,J,r1,U⟩=>?_) hs;exact KY (Oj ht (iR (Q:=λ_ s'=>SP X pins D .next s') J hN hi hx r1 (λs2 I2=>⟨_,H1,I2,U⟩) hf)) (λ_ _ h=>h) λ_ _ h=>h.2
theorem Bw{st st2:K0}{rest:JP K0}{t u r:TS}(h1:tK X st t)(h2:AM X st2 u)(h3:cH X rest r):cH X (st::st2::rest) (jV t (jV u r)):=by
 intro pins s σ H D I h;refine M4 (cv (h1 pins s σ H {D with nx:=jV u r D} I h) λf s1 q=>?_);obtain⟨ht,q⟩:=q;cases f with
 |next=>
  obtain⟨J,H',U,q⟩:=q;refine M4 (cv (h2 pins s1 J H' {D with nx:=r D} U ht q) λf s2 q=>?_);cases f with
  |next=>
   obtain⟨J,H',U,q⟩:=q;exact h3 pins s2 J H' D U q
  |ret v=>exact q
  |brk=>exact q
  |cont=>exact q
 |ret v=>exact q
 |brk=>exact q
 |cont=>exact q
noncomputable def u7(X:Cx)(st:JP K0)(t:TS):Prop:=
 ∀(pins:JP (JR×Obj)) (s:JZ) (σ:St) (H:Hp) (D:Ends),Inv X pins σ H s->t D σ H->Kq (Ko X.prog X.w) X.A (execs st X.env) (λf s'=>1<=s'.toks/\SP X pins D f s') X.xe s
theorem IW{st:K0}{rest:JP K0}{t u:TS}(h1:tK X st t)(h2:cH X rest u):u7 X (st::rest) (jV t u):=by
 intro pins s σ H D I h;refine M4 (cv (h1 pins s σ H {D with nx:=u D} I h) λf s1 q=>?_);obtain⟨ht,q⟩:=q;cases f with
 |next=>
  obtain⟨J,H',U,q⟩:=q;exact KY (Oj ht (h2 pins s1 J H' D U q)) (λ_ _ h=>h) λ_ _ h=>h.2
 |ret v=>exact⟨ht,q⟩
 |brk=>exact⟨ht,q⟩
 |cont=>exact⟨ht,q⟩
noncomputable def sG(X:Cx)(es:JP KI)(t:TA):Prop:=
 ∀(pos:Pos) (pins:JP (JR×Obj)) (s:JZ) (σ:St) (H:Hp) (Q:JP V->Hp->Prop),Inv X pins σ H s->t σ H Q->Kq (Ko X.prog X.w) X.A (spliced (Mh pos (KA es X.env))) (λus s'=>1<=s'.toks/\AP X pins σ Q us s') X.xe s
theorem D7{i:Int}{j:Nat}{p:Pos}:sG X [.Constant (.int i) j p] (ub (tC (.int i)) qk):=by
 intro pos pins s σ H Q I h;exact L6 (wpAny_Constant_int (k:=j) (pos:=p) (Ni ⟨ON 1 _,[.int i],H,I.tok _,.cons ⟨_,rfl⟩ .nil,h⟩))
theorem D1{e:KI}{es:JP KI}{te:TE}{t:TA}(ha:PE X e te)(hr:sG X es t)(hs:KA (e::es) X.env=(false,eval e X.env)::KA es X.env:=by rfl):sG X (e::es) (ub te t):=by
 intro pos pins s σ H Q I h;rw[hs];show Kq _ _ (spliced ((false,eval e X.env)::Mh pos (KA es X.env))) _ _ s;refine L6 (cv (ha pins s σ H _ I h) λu s1 ⟨x,H1,J,r1,U⟩=>?_);exact cv (hr pos pins s1 σ H1 _ J U) λus s2 ⟨ht,xs,H2,I2,r2,q2⟩=>⟨ht,x::xs,H2,I2,.cons r1 r2,q2⟩
theorem Cq{i j:Nat}{x y:Str}{a b:KI}{ta:TA}{px py pt pos:Pos}{kt k2 pt2}(hc:X.calm=true)(hN:X.N.Nodup)(hi:X.N[i]? =some x)(hj:X.N[j]? =some y)(hij:i≠j)
  (hx:X.env.scope.names.lookup x=some .local)(hy:X.env.scope.names.lookup y=some .local)(ha:sG X [a,b] ta)
  (hw:Og [.Tuple [.Name x px,.Name y py] kt pt] (.Tuple [a,b] k2 pt2) X.env=pure (some [x,y]))
  (hs:Of [.Tuple [.Name x px,.Name y py] kt pt] (.Tuple [a,b] k2 pt2) pos.line X.env=pure false:=by rfl):
  tK X (.Assign [.Tuple [.Name x px,.Name y py] kt pt] (.Tuple [a,b] k2 pt2) pos) (zd i j ta):=by
 intro pins s σ H D I h;rw[OH];refine J8 (MH ?_);rw[hs];refine J8 (KN ?_);rw[if_neg (by decide)];refine J8 (Tuple_ (cv (ha _ pins s σ H _ I h) λus s1 ⟨ht,vs,H1,I1,r1,q1⟩=>?_));obtain⟨v,w,e1,q1⟩:=q1;subst e1;obtain⟨J,U,rfl,rv,aa⟩:∃ J U,us=[J,U]/\RelV v J/\RelV w U:=by
  cases r1 with
  |cons p q=>
   cases q with
   |cons p' q'=>
    cases q';exact⟨_,_,rfl,p,p'⟩
 refine MN ?_ (by show 2<=sizeLine;decide);have I2:Inv X pins σ H1 {s1 with heap:=s1.heap.push {cls:= .type "tuple",data:= .seq [J,U].toArray}}:=I1.kept (t':=s1.toks) λb o e=>Heap.get?_push_of_some _ e
 rw[hw];refine J8 (KN ?_);refine KY (Oj (Q:=SP X pins D) (E:=X.xe) (n:=1) (s:={s1 with heap:=s1.heap.push {cls:= .type "tuple",data:= .seq [J,U].toArray}}) ht ?_) (λ_ _ h=>h) λ_ _ h=>h.2
 show Kq (Ko X.prog X.w) X.A (do rule "assign.swapped-stores";let items<-unpackItems (.ref s1.heap.objs.size) 2 none;MG [λv=>Mm X.env y v,λv=>Mm X.env x v] items.reverse;pure Om) _ _ _;refine J8 (wpAny_rule (J8 (N9 (items:=#[J,U]) (I.ok.hd hc) (IsTup.new s1.heap _) λh' ab=>?_)));have I3:=I2.kept (h':=h') (t':=s1.toks) λb o e=>ab b o (Kr (Kb e)) e
 show Kq _ _ (MG [λv=>Mm X.env y v,λv=>Mm X.env x v] [U,J] >>= λ_=>pure Om) _ _ _;refine J8 (LH (Mn (iR I3 hN hj (.inl hy) aa (λs2 I4=>?_) (.inr hy))));refine LH (Mn (iR I4 hN hi (.inl hx) rv (λs3 I5=>Nh (KN ?_)) (.inr hx)));rw[Ny _ _ (K5 hij)] at I5;exact⟨_,H1,I5,q1⟩
end
structure kL (P : Ka) (w : Ku) (K : Kl) (mg : Str -> JW JT) (base : KP) (k : Nat) (f : JR) (fd : J2) (ps : JP Str) (sp : Sp) : Prop where
 len : ∀ vs H Q E, sp vs H Q E -> vs.length = ps.length
 run : ∀ (A : K4) (outer : JP Env) (s : JZ) (H : Hp) (args : Args) (us : JP JT) (vs : JP V) (Q : VK) (E : XK), eG k A -> kQ P w K mg base A outer s H -> O1 s fd args (ps.zip us) -> Vals vs us -> sp vs H Q E ->
  Nz (Ko P w) A (.call (.ref f) args) (λr s' => 1<=s'.toks /\ CR b7 outer P w H s Q E r s') s
theorem FW{P:Ka}{w:Ku}{K:Kl}{mg:Str->JW JT}{base:KP}{k:Nat}{f:JR}{name qual:Str}{params:Arguments}{body:JP K0}{scope:MS}{dV kV doc pm cdv ct oc:JT}{an od:JW JR}
  {osl:MM (JW JT)}{N ps:JP Str}{sp:Sp}(lk:K.lookup f=some ⟨oc,od,.func (Nk name qual params body scope dV kV doc pm an cdv ct),osl⟩)(hcd:N1 K cdv qual=true)(S:da N ps scope)
  (len:∀ vs H Q E,sp vs H Q E->vs.length=ps.length)
  (hbody:∀(A:K4) (outer:JP Env) (s:JZ) (H:Hp) (vs:JP V) (Q:VK) (E:XK),eG k (A.deeper (Mz qual scope s.heap.objs.size f cdv))->sp vs H Q E->
   ∃ t,u7 (eO b7 P w K mg base N qual scope f cdv A outer s H E).nox body t/\t {nx:=λ_ H'=>Q .non H',rt:=Q} (start N vs) H):
  kL P w K mg base (k+1) f (Nk name qual params body scope dV kV doc pm an cdv ct) ps sp:=by
 refine⟨len,λA outer s H args us vs Q E hr e0 hb r ab=>?_⟩;have hl:=len _ _ _ _ ab;have KX:K.In s.heap:=e0.mod.kin.keeps λb o e=>(e0.bs b o e).1
 have lim:s.heap.NoLimit:=e0.mod.nolimit.keeps λb o e=>(e0.bs b o e).1
 have aa:∀ y∈ps.zip us,scope.names.lookup y.1=some .local\/(scope.names.lookup y.1=some .cell/\((cellsFrom (s.heap.objs.size+1) scope.names []).lookup y.1).isSome=true):=λ⟨n,v⟩ hy=>by
  rcases S.par n (NI hy).1 with q|q
  ·exact .inl q
  ·exact .inr ⟨q,Oq _ _ _ (.inl q)⟩
 refine codeAny_call_function hr.depth (KX _ _ lk) rfl S.co S.gen rfl (W.codeRec_of KX hcd) (hb _ _ _ _ ?_);refine N2 S.kind aa λenv he s1 x=>?_
 subst he;refine⟨lim.keeps x.toInCall.keep,codeAny_func ?_⟩;obtain⟨t,ht,hq⟩:=hbody A outer s H vs Q E (hr.deeper _) ab;have I:Inv (eO b7 P w K mg base N qual scope f cdv A outer s H E) [] (start N vs) H s1:=yV S hr.hd e0 hl r x;refine KY (ht [] s1 (start N vs) H _ (I.wish _) hq) (λfl s' hs=>?_) λe s' hs=>La hs
 obtain⟨htk,ae⟩:=hs;have hs:=ae.unwish;have fin:∀{U:St} {H':Hp} {v:V} {u:JT},Inv (eO b7 P w K mg base N qual scope f cdv A outer s H E) [] U H' s'->RelV v u->Q v H'->CE outer P w H s Q u s':=
  λ{U H' v u} J rv q=>⟨v,H',J.os,J.bare,J.base,J.hok,rv,q⟩;cases fl with
 |ret u=>
  obtain⟨v,U,H',J,rv,q⟩:=hs;exact⟨htk,fin J rv q⟩
 |next=>
  obtain⟨U,H',J,q⟩:=hs;exact⟨htk,fin (v:=V.non) (u:=My) J rfl q⟩
 |brk=>
  obtain⟨_,_,_,q⟩:=hs;exact La q
 |cont=>
  obtain⟨_,_,_,q⟩:=hs;exact La q
theorem ej.okT {P:Ka}{w:Ku}{K:Kl}{mg:Str->JW JT}{base:KP}{x qual:Str}{st:K0}{f:JR}{fd:J2}{N ps:JP Str}{k:Nat}{sp:Sp}(F:ej K x qual st f fd)(S:da N ps (cG st))(len:∀ vs H Q E,sp vs H Q E->vs.length=ps.length)
  (hbody:∀(cdv:JT) (A:K4) (outer:JP Env) (s:JZ) (H:Hp) (vs:JP V) (Q:VK) (E:XK),eG k (A.deeper (Mz qual (cG st) s.heap.objs.size f cdv))->sp vs H Q E->
   ∃ t,u7 (eO b7 P w K mg base N qual (cG st) f cdv A outer s H E).nox (iB st) t/\t {nx:=λ_ H'=>Q .non H',rt:=Q} (start N vs) H):kL P w K mg base (k+1) f fd ps sp:=by
 obtain⟨oc,od,kV,doc,pm,an,cdv,ct,I,rfl,lk,J⟩:=F.ex;exact FW lk J S len λA outer s H vs Q E hr U=>hbody cdv A outer s H vs Q E hr U
section
variable {X : Cx} {k : Nat} {f : JR} {fd : J2} {ps : JP Str} {sp : Sp} {x : Str} {p pos : Pos} {e : KI} {es : JP KI} {t : TA} {ds : JP JT} {dvs : JP V}
theorem F4(F:kL X.prog X.w X.K X.mg X.base k f fd ps sp)(hr:eG k X.A)(hg:Gl X x)(hm:X.mg x=some (.ref f))(hk:ME X.K (.ref f)=true)(hb:Binds X.K fd ps ds)(hd:Vals dvs ds)
  (ha:PA X (e::es) t)(hdb:(x==("__debug__":Str))=false:=by decide)(he:KA (e::es) X.env=(false,eval e X.env)::KA es X.env:=by rfl)(hpl:(Mh pos (KA es X.env)).any (·.1)=false:=by rfl):
  yu X (.Call (.Name x p) (e::es) [] pos) (Ba sp dvs E0 t):=by
 intro pins s σ H Q I h;refine LU (jw I hg hm ?_ hdb);refine NR (h₀:=X.base) I.ok.mod.kin hk (cv (ha pos pins s σ H _ I h) λus s1 ⟨vs,H1,U,r,q⟩=>⟨U.kIn,?_⟩) he hpl;have r2:Vals (vs++dvs) (us++ds):=r.append hd;have hl:(us++ds).length=ps.length:=by rw[<-r2.length];exact F.len _ _ _ _ q
 refine O4 (Nj (F.run X.A X.stack s1 H1 ⟨us,[]⟩ (us++ds) (vs++dvs) Q E0 hr U.env0 (hb s1 us U.kIn hl) r2 q) λr s' J=>?_);obtain⟨ht,J⟩:=J;cases r with
 |error e=>exact(show LG from J).elim
 |ok fl=>
  cases fl with
  |ret u=>exact⟨ht,U.after J⟩
  |next=>exact La J
  |brk=>exact La J
  |cont=>exact La J
end
end L2
namespace K13
open PySem L2 PyProof.Rows PySem.Spec Gn K01
open RA (Lf Tr Tk wr brk)
noncomputable def dG:At->Nat
 |.both a b=>1+(dG a+dG b)|.either a b=>dG a+dG b|.near a b _=>dG a+dG b|.no a=>dG a|_=>0
noncomputable def vM:At->KS
 |.both _ _=>true|_=>false
theorem Dq(t:At):dG t=(if vM t then 1 else 0)+(t.kids.map dG).sum:=by
 cases t with
 |word z=>rfl
 |start z=>rfl
 |row z=>rfl
 |near a b n=>show _=0+(dG a+(dG b+0));show dG a+dG b=_;omega
 |both a b=>show 1+(dG a+dG b)=1+(dG a+(dG b+0));omega
 |either a b=>show dG a+dG b=0+(dG a+(dG b+0));omega
 |no a=>show dG a=0+(dG a+0);omega
theorem kK:∀ t:At,dG t<=t.many
 |.word _=>Ks _
 |.start _=>Ks _
 |.row _=>Ks _
 |.near a b n=>by have:=kK a;have:=kK b;show dG a+dG b<=1+(a.many+b.many);omega
 |.both a b=>by have:=kK a;have:=kK b;show 1+(dG a+dG b)<=1+(a.many+b.many);omega
 |.either a b=>by have:=kK a;have:=kK b;show dG a+dG b<=1+(a.many+b.many);omega
 |.no a=>by have:=kK a;show dG a<=1+a.many;omega
theorem oi:∀{t:At},Gd t->gT t.tr=dG t
 |.word _,_=>rfl
 |.start _,_=>rfl
 |.row _,_=>rfl
 |.near a b n,h=>by
  have z:∀{x:At},gp x.kn=true->dG x=0:=λ{x} J=>by cases x<;>first|rfl|cases J
  show 0=dG a+dG b;rw[z h.1.1,z h.1.2]
 |.both a b,h=>by show 1+(gT a.tr+gT b.tr)=1+(dG a+dG b);rw[oi h.1,oi h.2]
 |.either a b,h=>by show gT a.tr+gT b.tr=dG a+dG b;rw[oi h.1,oi h.2]
 |.no a,h=>by show gT a.tr=dG a;rw[oi (t:=a) h]
theorem Gm(t:At):decide (V.str t.nm=V.str (JO "both"))=vM t:=by
 cases t with
 |word z=>exact(show decide (V.str (JO "word")=V.str (JO "both"))=false from dkq)
 |start z=>exact(show decide (V.str (JO "start")=V.str (JO "both"))=false from dkq)
 |row z=>exact(show decide (V.str (JO "row")=V.str (JO "both"))=false from dkq)
 |near a b n=>exact(show decide (V.str (JO "near")=V.str (JO "both"))=false from dkq)
 |both a b=>exact(show decide (V.str (JO "both")=V.str (JO "both"))=true from dkq)
 |either a b=>exact(show decide (V.str (JO "either")=V.str (JO "both"))=false from dkq)
 |no a=>exact(show decide (V.str (JO "not")=V.str (JO "both"))=false from dkq)
section
variable {P : Ka} {w : Ku} {K : J7} {mg : Str -> JW JT} {base : KP}
noncomputable def sV(n:Nat):Sp:=λvs H Q _=>∃(x:V) (t:At),vs=[x]/\cD false H x t.told/\t.dep<=n/\t.many<=100000/\∀ H',bY H H'->Q (.int ((dG t:Nat):Int)) H'
noncomputable def E6:Nat->Sp
 |0=>λ_ _ _ _=>LG
 |n+1=>sV n
theorem Ds:da ["_law_told"] ["_law_told"] (cG ng):=⟨rfl,rfl,rfl,dkq,rfl,dkq,dkq⟩
theorem Fs:(["_law_kid"]:JP Str).Nodup:=dkq
seal cH PS PE PT PA PG PI cT cP in
theorem zb{f fk:JR}{fd fdk:J2}(D:Df K mg "_law_ands" ng f fd)(DK:Df K mg "_law_kids" kT fk fdk)(T:Txt mg)(n:Nat)(GM:bX P w K mg base b7 (n+1) f fd ["_law_told"] (E6 n)):bX P w K mg base b7 (n+2) f fd ["_law_told"] (sV n):=by
 have bM:=dY (p:="_law_told") D.F λ_ _ _ _ _ _ _=>rfl
 have GK:bX P w K mg base b7 (n+1) fk fdk ["_law_told"] rj:=(uu DK).mono (by omega)
 have bK:=dY (p:="_law_told") DK.F λ_ _ _ _ _ _ _=>rfl
 have hz:(sizeLine:Nat)=16777216:=Kv;refine D.F.ok Ds (λvs H Q E h=>?_) (λcdv A outer s H vs Q E hr h=>?_)
 ·obtain⟨x,t,rfl,_⟩:=h;rfl
 ·obtain⟨x,t,rfl,hx,hd,hm,k⟩:=h;refine⟨_,b5 (cy (cA eD (il mK rfl T.int jF (bU (ik cU (cK dS (pv 0) bZ (λ_ _=>rfl)) b8 rfl) bV)) (dF (xO rfl) rfl T.sum xR (bU (jA (own:=1) (caps:=[]) (N:=["_law_kid"]) (N0:=["_law_told"]) (sc0:=cG ng) rfl
    (oz (cQ GK hr rfl DK.m DK.F.kp bK .nil cz (bU (pv 0) bV))) (λ_ _ _=>eX (i:=0) Fs rfl (Kh rfl)) (λ_ _ _=>jj)
    (λ_ _ _=>cQ GM hr rfl D.m D.F.kp bM .nil cz (bU (pv 0) bV)) (iV (by decide)) rfl rfl
    dkq rfl dkq dkq rfl dkq) bV)))),?_⟩;obtain⟨p,ab,rfl,ha,hs⟩:=(t.told_eq ▸ hx).t0;refine⟨_,rfl,p,_,0,_,rfl,rfl,cu.of ha,cJ (j:=0) rfl,rfl,.inr ⟨_,rfl,?_⟩⟩;rw[Gm];refine⟨_,rfl,.ref p,t,rfl,hx,λl xs H1 s1 hl el J=>?_⟩;have kl:=t.kids_len;have xl:xs.length=t.kids.length:=by rw[J.len,JX]
  refine⟨l,rfl,⟨_,ck.of el⟩,tJ (xs:=xs) (λi ys H'=>bY H1 H'/\ys=(t.kids.take i).map λk=>V.int ((dG k:Nat):Int)) (by omega) (λi ys H' ⟨e,_⟩=>ck.of (e _ _ el)) ⟨bY.refl _,rfl⟩ ?_ ?_⟩
  ·rintro i y ys H' N hy ⟨sm,rfl⟩ hN;obtain⟨d,U,pd⟩:=vF J hy;rw[List.getElem?_map] at U;cases hkd:t.kids[i]? with
   |none=>rw[hkd] at U;cases U
   |some kd=>
    rw[hkd] at U;have aa:kd.told=d:=Kg U;have I:=List.mem_of_getElem? hkd;have d1:=At.kids_dep I;have m1:=At.kids_many I;refine g1 ?_
    match n,GM,hd with
    |0,_,hd=>omega
    |n+1,_,hd=>
     refine⟨_,rfl,y,kd,rfl,by rw[aa];exact pd.same sm,by omega,by omega,λH2 s2=>hN _ _ ⟨sm.trans s2,?_⟩⟩;rw[Lk,hkd,J5];rfl
  ·rintro ys H' ⟨sm,rfl⟩ _ u hu;have mk:=Dq t;have am:=kK t;have e1:(t.kids.take xs.length).map (λk=>V.int ((dG k:Nat):Int))=(t.kids.map dG).map λ(n:Nat)=>V.int (n:Int):=by
    rw[xl,Mq,LB];rfl
   refine⟨u,t.kids.map dG,rfl,ck.of (by rw[b6,e1]),by omega,_,_,rfl,rfl,?_⟩;have:=k _ ((s1.trans sm).trans (cq (o:= .lst ((t.kids.take xs.length).map λk=>V.int ((dG k:Nat):Int))) hu));rw[mk] at this;cases hb:vM t<;>(rw[hb] at this;exact this)
theorem yU{f fk:JR}{fd fdk:J2}(D:Df K mg "_law_ands" ng f fd)(DK:Df K mg "_law_kids" kT fk fdk)(T:Txt mg):∀ n:Nat,bX P w K mg base b7 (n+2) f fd ["_law_told"] (sV n)
 |0=>zb D DK T 0 rO
 |n+1=>zb D DK T (n+1) (yU D DK T n)
noncomputable def xy:Sp:=λvs H Q _=>∃ J:JP Tk,vs=[.str (sT (tl .lp J))]/\(tl .lp J).length<=2000/\(∀ k∈J,gK k)/\∀ l H',bY H H'->H' l=some (.lst ((dM J).map λw=>V.str (sT w)))->Q (.ref l) H'
noncomputable abbrev Di:JP Str:=["_law_line","_law_found","_law_at","_law_piece_here"]
theorem sS:da Di ["_law_line"] (cG qx):=⟨rfl,rfl,rfl,dkq,rfl,dkq,dkq⟩
theorem Gp:∀ n<8,e9 (.str (lG n)) [.str (JO "("),.str (JO ")"),.str (JO "end")]=decide (n=6\/n=7\/n=0):=dkq
theorem HR(k:Tk):kO k=decide (cX (some k)=6\/cX (some k)=7\/cX (some k)=0):=by cases k<;>rfl
seal cH PS PE PT PA PG PI cT cP in
theorem Cp{f fc:JR}{fd fdc:J2}(D:Df K mg "_law_words_of" qx f fd)(DC:Df K mg "_law_piece" md fc fdc)(GC0:bX P w K mg base b7 3 fc fdc ["_law_line","_law_at"] sk)(T:Txt mg):kL P w K mg base 4 f fd ["_law_line"] xy:=by
 have GC:bX P w K mg base b7 3 fc fdc ["_law_line","_law_at"] u9:=bX.imp GC0 λ_ _ _ _=>zh
 have bC:=DC.F.binds (ps:=["_law_line","_law_at"]) λ_ _ _ _ _ _ us hl=>match us,hl with|[_,_],_=>rfl
 refine D.F.okT sS (λvs H Q E h=>?_) (λcdv A0 outer s H vs Q E hr h=>?_)
 ·obtain⟨ts,rfl,_⟩:=h;rfl
 ·obtain⟨ts,rfl,hl,hg,q⟩:=h;have sz:sizeLine=16777216:=Kv;have ae:=oZ ts .lp hg;generalize hL:tl .lp ts=L at hl ae;have al:(sT L).length=L.length:=du L;refine⟨_,IW (Cq (i:=1) (j:=2) rfl sS.nd rfl rfl (by decide) rfl rfl (D1 (eZ bV) D7) rfl)
   (b9 (jZ KZ (cx iQ (pv 2) (dF ip rfl T.len e8 (bU (pv 0) bV)) (cC _))
    (b9 (cZ (i:=3) sS.nd rfl (Kh rfl) (cQ GC hr rfl DC.m DC.F.kp bC .nil cz (bU (pv 0) (bU (pv 2) bV))))
    (b9 (cM (cx HZ (cK dS (pv 3) bZ (λ_ _=>rfl)) (dv (bU b8 (bU b8 (bU b8 bV)))) (by with_unfolding_all rfl)) (b5 (e7 (fS Kp KO K6 iO (pv 1) (bU (gS gJ (pv 0) (fh (cK dS (pv 3) bZ (λ_ _=>rfl))) (fh (cK dS (pv 3) bZ (λ_ _=>rfl)))) bV)))) cY)
    (b5 (cZ (i:=2) sS.nd rfl (Kh rfl) (cK dS (pv 3) bZ (λ_ _=>rfl)))))))
   (b5 (cy (pv 1)))),?_⟩;refine⟨Ks _,λa ha=>⟨_,_,rfl,?_⟩⟩;have s1:bY H (upd H a (.lst [])):=cq ha;have ea:upd H a (.lst []) a=some (.lst []):=b6;show jV _ _ _ [some (.str (sT L)),some (.ref a),some (.int 0),none] (upd H a (.lst []));generalize upd H a (.lst [])=H1 at s1 ea ⊢;refine jT (λσ H'=>∃(k:Tk) (r:JP Tk) (b:Nat) (ws:JP (JP Nat)) (o3:JW V),σ=[some (.str (sT L)),some (.ref a),some (.int ((b:Nat):Int)),o3]/\bY H H'/\H' a=some (.lst (ws.map λw=>V.str (sT w)))/\ws++dM r=dM ts/\L.drop b=tl k r/\b<=L.length/\(∀ q∈r,gK q)/\ws.length+r.length<=ts.length) (λσ _=>match σ with|[_,_,some (.int r),_]=>L.length-r.toNat|_=>0) ⟨.lp,ts,0,[],none,rfl,s1,ea,rfl,by rw[OW,hL],Ks _,hg,by show 0+_<=_;omega⟩ ?_ ?_
  ·rintro σ H' ⟨k,r,b,ws,o3,rfl,sm,hA,hw,hd,hb,J,hlen⟩;refine⟨_,rfl,_,rfl,_,rfl,dC (by rw[al];omega),_,_,rfl,rfl,_,rfl,?_⟩;rw[al];by_cases ai:b<L.length
   ·rw[JS (show((b:Nat):Int)<(L.length:Int) by omega)];cases r with
    |nil=>
     have:L.length<=b:=List.drop_eq_nil_iff.mp hd;omega
    |cons k2 r2=>
     refine cg ⟨_,rfl,_,rfl,L,b,k,k2::r2,some k2,_,_,rfl,by omega,hb,hd,J,.inr ⟨k2,r2,rfl,rfl,rfl,rfl⟩,λp H2 s2 hp=>?_⟩;obtain⟨v,aa,hv⟩:=id hp;have gk:=J k2 (by simp);have af:L.drop b=cL k k2++(txt k2++tl k2 r2):=hd;have d1:L.drop (b+(cL k k2).length)=txt k2++tl k2 r2:=iA af;have d2:L.drop (b+(cL k k2).length+(txt k2).length)=tl k2 r2:=iA d1;have tp:=wZ gk;have ll:=K9 Mw d1;rw[KH,JU] at ll;generalize aj:b+(cL k k2).length=b1 at *;have ag:=s2 _ _ hA;refine⟨_,rfl,p,_,0,_,rfl,rfl,cu.of aa,cJ (j:=0) rfl,fG,λu hu=>?_⟩;have s3:bY H2 (upd H2 u (.tup [.str (JO "("),.str (JO ")"),.str (JO "end")])):=cq hu;have eu:upd H2 u (.tup [.str (JO "("),.str (JO ")"),.str (JO "end")]) u=some (.tup [.str (JO "("),.str (JO ")"),.str (JO "end")]):=b6;generalize upd H2 u (.tup [.str (JO "("),.str (JO ")"),.str (JO "end")])=H3 at s3 eu ⊢;refine⟨u,_,rfl,.inr (cu.of eu),rfl,rfl,_,rfl,?_⟩;show if (!e9 (.str (gj (some k2))) [.str (JO "("),.str (JO ")"),.str (JO "end")])=true then _ else _
     rw[(jv (some k2)).1,Gp _ (jv (some k2)).2,<-HR];have U:=s3 _ _ aa;have I:=s3 _ _ ag;have ab:=(sm.trans s2).trans s3;rw[JV] at hlen;cases hB:kO k2 with
     |true=>
      have ew:dM (k2::r2)=dM r2:=by unfold dM;rw[LX,hB];rfl
      refine cj ⟨_,rfl,p,_,3,_,rfl,rfl,cu.of U,cJ (j:=3) rfl,⟨k2,r2,_,ws,_,rfl,ab,I,by rw[<-ew];exact hw,d2,by omega,λq hq=>J q (J0 _ hq),by omega⟩,?_⟩;show L.length-((b1+(txt k2).length:Nat):Int).toNat<L.length-((b:Nat):Int).toNat;omega
     |false=>
      have ew:dM (k2::r2)=txt k2::dM r2:=jO hB r2
      have ah:RA.sl L b1 (b1+(txt k2).length)=txt k2:=by
       unfold RA.sl;rw[d1,Lj,L8]
      refine cg ⟨_,rfl,.inl ⟨rfl,_,ck.of I⟩,_,rfl,_,rfl,p,_,2,_,rfl,rfl,cu.of U,cJ (j:=2) rfl,_,rfl,_,rfl,p,_,3,_,rfl,rfl,cu.of U,cJ (j:=3) rfl,_,rfl,_,rfl,dC (by rw[al];omega),a,_,_,rfl,rfl,I,by rw[JX,sz];omega,?_⟩;rw[jh L (by omega) (by omega),ah];have t4:TT H3 (upd H3 a (.lst ((ws.map λw=>V.str (sT w))++[.str (sT (txt k2))]))):=λc xs e=>by rw[cF (λz=>by rw[z,I] at e;cases e)];exact e
      refine⟨_,rfl,p,_,3,_,rfl,rfl,cu.of (t4 _ _ U),cJ (j:=3) rfl,⟨k2,r2,_,ws++[txt k2],_,rfl,lD ab ha,by rw[b6,J5];rfl,by rw[ew] at hw;rw[Kt];exact hw,d2,by omega,λq hq=>J q (J0 _ hq),by rw[JU];show _+1+_<=_;omega⟩,?_⟩;show L.length-((b1+(txt k2).length:Nat):Int).toNat<L.length-((b:Nat):Int).toNat;omega
   ·rw[JQ (show ¬ ((b:Nat):Int)<(L.length:Int) by omega)];have er:r=[]:=by
     cases r with
     |nil=>rfl
     |cons k2 r2=>
      have:=K9 Mw hd;rw[KH] at this;have tp:=oZ (k2::r2) k J;rw[JV] at tp;omega
    subst er;have ew:ws=dM ts:=by rw[<-hw];show ws=ws++[];rw[KR]
    rw[ew] at hA;exact cj ⟨_,rfl,q a H' sm hA⟩
  ·intro σ H' Q1 Q2 hq h;obtain⟨x,h1,y,h2,z,h3,h4,i,j,e1,e2,b,e3,q⟩:=h;exact⟨x,h1,y,h2,z,h3,h4,i,j,e1,e2,b,e3,hq _ _ q⟩
end
theorem As:∀ zs:JP Str,OO (zs.map .str)=0
 |[]=>rfl
 |z::zs=>by show max 0 (OO (zs.map .str))=0;rw[As zs];rfl
theorem kj:∀ t:At,t.told.depth<=t.dep+2
 |.word z=>by show max 0 (max 0 0)+1<=0+2;decide
 |.start z=>by show max 0 (max 0 0)+1<=0+2;decide
 |.row zs=>by
  show max 0 (max (OO (zs.map .str)+1) 0)+1<=0+2;rw[As];decide
 |.near a b n=>by
  have h1:=kj a
  have h2:=kj b
  show max 0 (max a.told.depth (max b.told.depth (max 0 0)))+1<=max a.dep b.dep+1+2;omega
 |.both a b=>by
  have h1:=kj a
  have h2:=kj b
  show max 0 (max a.told.depth (max b.told.depth 0))+1<=max a.dep b.dep+1+2;omega
 |.either a b=>by
  have h1:=kj a
  have h2:=kj b
  show max 0 (max a.told.depth (max b.told.depth 0))+1<=max a.dep b.dep+1+2;omega
 |.no a=>by
  have h1:=kj a
  show max 0 (max a.told.depth 0)+1<=a.dep+1+2;omega
theorem nG:∀{t:At},Gd t->d0 t.tr=t.many
 |.word _,_=>rfl
 |.start _,_=>rfl
 |.row _,_=>rfl
 |.near a b n,h=>by show 3=1+(a.many+b.many);rw[At.lf_many h.1.1,At.lf_many h.1.2]
 |.both a b,h=>by show 1+(d0 a.tr+d0 b.tr)=1+(a.many+b.many);rw[nG h.1,nG h.2]
 |.either a b,h=>by show 1+(d0 a.tr+d0 b.tr)=1+(a.many+b.many);rw[nG h.1,nG h.2]
 |.no a,h=>by show 1+d0 a.tr=1+a.many;rw[nG (t:=a) h]
theorem EF(l:JP Nat):codes (sT l)=l:=by simp[codes]
theorem zF(c:Nat):∀ Ps:JP Str,(∀ p∈Ps,c∉p.cps.toList)->(codes (Pa ⟨#[c]⟩ Ps)).filter (λd=>decide (d≠c))=codes (Pa (JO "") Ps)
 |[],_=>rfl
 |[p],h=>by
  show(codes p).filter _=codes p;exact List.filter_eq_self.mpr λd hd=>JS λe=>h p (by simp) (by rw[<-e];exact hd)
 |p::q::r,h=>by
  have J:=zF c (q::r) λx U=>h x (J0 _ U)
  show(codes (p++⟨#[c]⟩++Pa ⟨#[c]⟩ (q::r))).filter _=codes (p++JO ""++Pa (JO "") (q::r))
  have ca:∀ a b:Str,codes (a++b)=codes a++codes b:=λa b=>by unfold codes;rw[PySem.Str.cps_append,Array.toList_append]
  rw[ca,ca,ca,ca,L9,L9,J];have I:(codes p).filter (λd=>decide (d≠c))=codes p:=List.filter_eq_self.mpr λd hd=>JS λe=>h p (by simp) (by rw[<-e];exact hd)
  have e2:(codes (⟨#[c]⟩:Str)).filter (λd=>decide (d≠c))=[]:=by show [c].filter _=[];simp
  rw[I,e2];rfl
theorem vO(l:JP Nat)(c:Nat):Txt.replace (sT l) ⟨#[c]⟩ (JO "")=sT (l.filter λd=>decide (d≠c)):=by
 rw[StrLaws.replace_one];have h:=zF c _ (StrLaws.split_free (sT l) c);rw[StrLaws.join_split,EF] at h;rw[h];exact(toStr _).symm
theorem Bh(l:JP Nat):Txt.replace (Txt.replace (sT l) (JO "(") (JO "")) (JO ")") (JO "")=sT (fu l):=by
 have J:Txt.replace (sT l) (JO "(") (JO "")=_:=vO l 40;rw[J];exact vO _ 41
theorem zL:∀(r:JP Tk) (k:Tk),(((dM r).map sT).map (·.length)).sum<=(tl k r).length
 |[],_=>JY _
 |q::r,k=>by
  have J:=zL r q
  show _<=(cL k q++(txt q++tl q r)).length;rw[JU,JU];cases hb:kO q with
  |true=>
   have e:dM (q::r)=dM r:=by unfold dM;rw[LX,hb];rfl
   rw[e];omega
  |false=>
   rw[jO hb,KU,KU,NC,du];omega
theorem Ji(l:JP Nat){a:Nat}(ha:a<=l.length):Txt.slice ⟨l.toArray⟩ none (some (a:Int))=sT (l.take a):=by
 have J:(sT l).cps.toList.length=l.length:=by simp
 have U:Txt.slice (sT l) none (some (a:Int))=_:=L7 ⟨by omega,by rw[J];omega⟩;refine U.trans ?_;simp[sT]
section
variable {P : Ka} {w : Ku} {K : J7} {mg : Str -> JW JT} {base : KP} {C fW fT : Kn -> JR} {dW dT' : Kn -> J2}
noncomputable def yq(C:Kn->JR):Sp:=λvs H Q _=>∃(a:JR) (x:V) (t:At),vs=[.ref a,x]/\dZ C H a t/\cD false H x t.told/\Gd t/\t.dep<=7/\t.many<=33/\∀ H',bY H H'->Q (.bl true) H'
noncomputable abbrev JL:JP Str:=["_law_ask","_law_told","_law_line","_law_pieces","_law_plain_here","_law_begin","_law_end","_law_fewer"]
theorem mZ:da JL ["_law_ask","_law_told"] (cG qN):=⟨rfl,rfl,rfl,dkq,rfl,dkq,dkq⟩
seal cH PS PE PT PA PG PI cT cP in
theorem EU{f fr fa fo fn fb:JR}{fd fdr fda fdo fdn fdb:J2}(D:Df K mg "_law_right" qN f fd)(T:Txt mg)(Cl:Cs K C)(MW:Mt K C "written" iw f9 fW dW)(GW0:∀ i,bX P w K mg base b7 16 (fW i) (dW i) ["self"] (gm C 7 i))(MT:Mt K C "told" oQ lQ fT dT')(DR:Df K mg "_law_read" pJ fr fdr)(GR:bX P w K mg base b7 16 fr fdr ["_law_line"] wM)(DA:Df K mg "read_ask" nV fa fda)(GA:bX P w K mg base b7 16 fa fda ["line"] (vk C))
  (DO:Df K mg "_law_words_of" qx fo fdo)(GO:kL P w K mg base 16 fo fdo ["_law_line"] xy)(DN:Df K mg "_law_ands" ng fn fdn)(GN:bX P w K mg base b7 16 fn fdn ["_law_told"] (sV 7))(DB:Df K mg "_law_brackets" qa fb fdb):bX P w K mg base b7 17 f fd ["_law_ask","_law_told"] (yq C):=by
 have GT:∀ i,bX P w K mg base b7 16 (fT i) (dT' i) ["self"] (pR C 7 i):=λi=>(wN Cl MT 7 i).mono (by decide)
 have GB:bX P w K mg base b7 16 fb fdb ["_law_line"] yt:=(HG DB T).mono (by decide)
 have bR:=dY (p:="_law_line") DR.F λ_ _ _ _ _ _ _=>rfl
 have bA:=dY (p:="line") DA.F λ_ _ _ _ _ _ _=>rfl
 have bO:=dY (p:="_law_line") DO.F λ_ _ _ _ _ _ _=>rfl
 have bN:=dY (p:="_law_told") DN.F λ_ _ _ _ _ _ _=>rfl
 have bB:=dY (p:="_law_line") DB.F λ_ _ _ _ _ _ _=>rfl
 refine D.F.ok mZ (λvs H Q E h=>?_) (λcdv A0 outer s H vs Q E hr h=>?_)
 ·obtain⟨a,x,t,rfl,_⟩:=h;rfl
 ·obtain⟨a,x,t,rfl,hA,hx,I,hd,hm,q⟩:=h;refine⟨_,b9 (cZ (i:=2) mZ.nd rfl (Kh rfl) (gc (pv 0) Cl.cl MW.M GW0 hr (je MW) cz))
   (b9 (cM (PW.pt (gn (gF (fZ (dF jE rfl T.isi iP (bU (pv 2) (bU (lx (v:= .ty "str") rfl T.str mm rfl) bV))))) (ia (cx (sJ hr.units100) (cQ GR hr rfl DR.m DR.F.kp bR .nil cz (bU (pv 2) bV)) (pv 1) (cC _))))) (b5 (cy iq)) cY)
   (b9 (cM (cx (sJ hr.units100) (gc (cQ GA hr rfl DA.m DA.F.kp bA .nil cz (bU (pv 2) bV)) Cl.cl MT.M GT hr (jU MT) cz) (pv 1) (cC _)) (b5 (cy iq)) cY)
   (Bw (CT (i:=3) mZ.nd rfl (Kh rfl) (F4 GO hr rfl DO.m DO.F.kp bO .nil (bU (pv 2) bV))) (EE (i:=4) mZ.nd rfl (Kh rfl) (AZ (AZ (JM (pv 2)))))
   (b9 (cM (PW.pt (gn (cx kN (fS Kp Nq Nr rR (pv 3) (bU b8 bV)) (cQ GN hr rfl DN.m DN.F.kp bN .nil cz (bU (pv 1) bV)) (cC _)) (ia (cx kN (fS LA OL OM AJ b8 (bU (pv 3) bV)) (pv 4) (cC _))))) (b5 (cy iq)) cY)
   (b9 (lF KZ rfl (oz (cQ GB hr rfl DB.m DB.F.kp bB .nil cz (bU (pv 2) bV))) (qA (n:=2) rfl (iN (eX (i:=5) mZ.nd rfl (Kh rfl)) (iN (eX (i:=6) mZ.nd rfl (Kh rfl)) qm)))
    (b9 (cZ (i:=7) mZ.nd rfl (Kh rfl) (cA gf (gS gJ (pv 2) lZ (fh (pv 5))) (gS gJ (pv 2) (fh (cA eD (pv 5) bZ)) (fh (pv 6)))))
    (b5 (cM (cx (wA hr.units100) (cQ GR hr rfl DR.m DR.F.kp bR .nil cz (bU (cA gf (pv 7) (gS gJ (pv 2) (fh (cA eD (pv 6) bZ)) lZ)) bV)) (pv 1) (cC _)) (b5 (cy iq)) cY))))
   (b5 (cy (ik cU (gc (pv 0) Cl.cl MW.M GW0 hr (je MW) cz) (pv 2) rfl)))))))),?_⟩;have sz:sizeLine=16777216:=Kv;have hL:=kg I;have hlen:t.lin.length<=2000:=by have:=lH I;omega
  have U:=jJ I
  have ae:=j8 I
  have ag:(tl .lp (wr t.tr)).length<=2000:=by rw[<-hL];exact hlen
  have lay:t.told.canLay0=true:=by rw[<-jd I];exact kc (lU I)
  have dep:t.told.depth<=100:=by have:=kj t;omega
  have out:jf ⟨[],[],.first⟩ (wr t.tr)=some t.tr:=by
   obtain⟨s',h1,h2⟩:=RA.EC (t:=t.tr) (by rw[lE I];omega);show(RA.eN _ _).bind _=_;rw[h1];exact h2
  obtain⟨dp,fp,ep,lp⟩:=hA.ob;refine⟨_,rfl,t.kn,a,dp,fp,rfl,ep,lp _ i6,a,t,rfl,hA,hd,rfl,ae,by omega,λH1 s1=>?_⟩;rw[hL];refine⟨_,rfl,.str (sT (tl .lp (wr t.tr))),.ty "str",_,_,rfl,.str _,.inl ⟨_,rfl,uq (n:="str") (H:=H1) (.str (sT (tl .lp (wr t.tr))))⟩,_,rfl,cj ?_⟩;refine⟨_,rfl,wr t.tr,rfl,ag,U,λv H2 s2 hv=>?_⟩;have pv:cD false H2 v t.told:=by
   rcases hv with ⟨q',e,_,p⟩|⟨i,e,n⟩
   ·rw[out] at e;have:t.tr=q':=Kg e;rw[<-this,jd I] at p;exact p
   ·exact absurd ⟨by rw[lE I];exact hd,by rw[nG I];omega⟩ (n _ out)
  have ah:=(hx.same s1).same s2;refine⟨_,rfl,t.told,t.told,pv.dt,ah.dt,lay,lay,Kj (LV _ _) dep,_,rfl,?_⟩;rw[vS lay];refine cj ?_;refine⟨_,rfl,t,by rw[hL];rfl,I,hd,hm,λa2 H3 s3 ai=>?_⟩;obtain⟨ay,az,aA,aB⟩:=ai.ob;refine⟨t.kn,a2,ay,az,rfl,aA,aB _ jH,a2,t,rfl,ai,hd,rfl,λx3 H4 s4 aC=>?_⟩;have aj:=(ah.same s3).same s4;refine⟨_,rfl,t.told,t.told,aC.dt,aj.dt,lay,lay,Kj (LV _ _) dep,_,rfl,?_⟩;rw[vS lay];refine cj ?_;refine⟨_,rfl,wr t.tr,rfl,ag,U,λl H5 s5 aD=>?_⟩;have aa:H5 l=some (.lst (((dM (wr t.tr)).map sT).map V.str)):=by rw[aD,LB];rfl
  have ak:=aj.same s5
  have wl:(dM (wr t.tr)).length<=2000:=by
   have h1:=oZ (wr t.tr) .lp U
   have h2:(dM (wr t.tr)).length<=(wr t.tr).length:=by unfold dM;rw[JX];exact ML _ _
   omega
  have fl:(fu (tl .lp (wr t.tr))).length<=2000:=Kj (Kj (ML _ _) (ML _ _)) ag;refine⟨_,rfl,_,rfl,dkq,by rw[du];show _+(_+1)*0<=_;omega,_,rfl,dkq,?_,?_⟩
  ·rw[show Txt.replace (sT (tl .lp (wr t.tr))) (JO "(") (JO "")=sT ((tl .lp (wr t.tr)).filter λd=>decide (d≠40)) from vO _ 40,du];have:((tl .lp (wr t.tr)).filter λd=>decide (d≠40)).length<=(tl .lp (wr t.tr)).length:=ML _ _;show _+(_+1)*0<=_;omega
  rw[Bh];refine⟨_,rfl,.inl ⟨rfl,_,ck.of aa⟩,l,(dM (wr t.tr)).map sT,_,rfl,rfl,ck.of aa,_,rfl,x,t,rfl,ak,hd,by omega,λH6 s6=>⟨rfl,_,rfl,?_⟩⟩;have cnt:((dM (wr t.tr)).map sT).count (JO "and")=dG t:=by
   rw[<-oi I,<-oK,<-AV U];have:∀ ws:JP (JP Nat),(ws.map sT).count (JO "and")=ws.count [97,110,100]:=λws=>by
    induction ws with
    |nil=>rfl
    |cons y ws ih=>
     rw[KU,Nd,Nd,ih];by_cases e:y=[97,110,100]
     ·subst e;rfl
     ·have e1:(sT y==JO "and")=false:=beq_eq_false_iff_ne.mpr λz=>e (ue (show sT y=sT [97,110,100] from z))
      have e2:(y == [97,110,100])=false:=beq_eq_false_iff_ne.mpr e;rw[e1,e2]
   exact this _
  rw[cnt];refine eE (by simp) ?_;have aE:=s6 _ _ aa;refine⟨rfl,_,rfl,_,l,(dM (wr t.tr)).map sT,rfl,rfl,ck.of aE,?_,?_⟩
  ·have:=zL (wr t.tr) .lp;rw[JX];show _+_*1<=_;omega
  rw[vw,<-om t.tr U];refine⟨_,rfl,rfl,_,rfl,eE (by simp) ?_⟩;obtain⟨new,aF,ao⟩:=IL U;refine⟨_,rfl,tl .lp (wr t.tr),new,_,rfl,by omega,aF,rfl,λlb H7 s7 aG=>?_⟩;obtain⟨qs,aq,aH⟩:=aG;have ar:=((((s2.trans s3).trans s4).trans s5).trans s6).trans s7;have aI:=((ak.same s6).same s7);refine⟨lb,rfl,⟨_,ck.of aq⟩,?_⟩;refine xY (xs:=qs.map V.ref) (λi σ H'=>∃(o5 o6 o7:JW V),σ=[some (.ref a),some x,some (.str (sT (tl .lp (wr t.tr)))),some (.ref l),some (.str (sT (fu (tl .lp (wr t.tr))))),o5,o6,o7]/\bY H7 H') ⟨none,none,none,rfl,bY.refl _⟩ ?_ ?_ ?_
  ·rintro i σ H' _ ⟨_,_,_,_,sm⟩;exact ck.of (sm _ _ aq)
  ·rintro i y σ H' hy ⟨o5,o6,o7,rfl,sm⟩;obtain⟨u,hu,rfl⟩:∃ u,qs[i]? =some u/\V.ref u=y:=by
    rw[List.getElem?_map] at hy;cases e:qs[i]? with
    |none=>rw[e] at hy;cases hy
    |some z=>rw[e] at hy;exact⟨z,rfl,Kg hy⟩
   obtain⟨⟨b,e⟩,aJ,aK⟩:=vH aH hu;obtain⟨c1,c2,ab,hc,aS,au⟩:=ao _ (List.mem_of_getElem? aJ);have aT:b<e:=c1;have aU:e<(tl .lp (wr t.tr)).length:=c2;generalize aV:tl .lp (wr t.tr)=J at *;have l9:(sT J).length<=sizeLine:=dC (by rw[du];omega);have af:∀ p q,(RA.sl J p q).length<=2000:=λp q=>by
    unfold RA.sl;rw[Lr,KH];omega
   refine⟨u,_,rfl,cu.of (sm _ _ aK),rfl,_,_,rfl,_,_,rfl,rfl,?_⟩;refine⟨_,rfl,_,rfl,_,rfl,_,rfl,l9,_,rfl,_,rfl,_,_,rfl,rfl,((b+1:Nat):Int),rfl,_,rfl,_,rfl,_,rfl,l9,?_⟩;rw[Ji J (by omega),jh J (by omega) (by omega)];have tk:(J.take b).length<=2000:=by rw[Lr];omega
   refine⟨_,_,rfl,rfl,dC (by show(sT (J.take b)).length+(sT (RA.sl J (b+1) e)).length<=30000;rw[du,du];have:=af (b+1) e;omega),?_⟩;show hV 7 (V.str (sT (J.take b)++sT (RA.sl J (b+1) e))) _ _ _;rw[fN];refine⟨_,rfl,_,rfl,_,rfl,_,_,rfl,rfl,((e+1:Nat):Int),rfl,_,rfl,l9,?_⟩;rw[Am J (by omega)];have dr:(J.drop (e+1)).length<=2000:=by rw[KH];omega
   refine⟨_,_,rfl,rfl,dC (by show(sT (J.take b++RA.sl J (b+1) e)).length+(sT (J.drop (e+1))).length<=30000;rw[du,du,JU];have:=af (b+1) e;omega),?_⟩;show wM ([V.str (sT (J.take b++RA.sl J (b+1) e)++sT (J.drop (e+1)))]++[]) _ _ E0;rw[fN];have av:J.take b++RA.sl J (b+1) e++J.drop (e+1)=tl .lp ab:=hc;rw[av];have aL:(tl .lp ab).length<=2000:=by
    rw[<-av,JU,JU,Lr,KH];have:(RA.sl J (b+1) e).length<=e-(b+1):=by unfold RA.sl;rw[Lr];omega
    omega
   refine⟨ab,rfl,aL,λk hk=>U k (au k hk),λv8 H8 s8 aM=>?_⟩;have aw:=(aI.same sm).same s8;have fin:(([some (.ref a),some x,some (.str (sT J)),some (.ref l),some (.str (sT (fu J))),some (.int ((b:Nat):Int)),some (.int ((e:Nat):Int)),some (.str (sT (J.take b++RA.sl J (b+1) e)))]:L2.St)=[some (.ref a),some x,some (.str (sT J)),some (.ref l),some (.str (sT (fu J))),some (.int ((b:Nat):Int)),some (.int ((e:Nat):Int)),some (.str (sT (J.take b++RA.sl J (b+1) e)))])/\bY H7 H8:=⟨rfl,sm.trans s8⟩;rcases aM with ⟨q',eo,gq,pq⟩|⟨i8,ei,_⟩
   ·have aN:q'≠t.tr:=λz=>by
     have e1:(RA.eN ⟨[],[],.first⟩ ab).bind RA.fK=some q':=eo;cases e2:RA.eN ⟨[],[],.first⟩ ab with
     |none=>rw[e2] at e1;cases e1
     |some s'=>
      rw[e2] at e1;have:=RA.few e2 e1;rw[z] at this;have e3:RA.need t.tr=RA.nb (wr t.tr):=rfl;omega
    refine⟨_,rfl,dT q',t.told,pq.dt,aw.dt,kc gq,lay,Kj (LV _ _) dep,_,rfl,?_⟩;rw[<-jd I,C2 aN];exact cj ⟨_,_,_,fin.1,fin.2⟩
   ·subst ei;refine⟨_,rfl,.int i8,t.told,.int _,aw.dt,rfl,lay,Kj (LV _ _) dep,_,rfl,?_⟩;rw[<-jd I,CU];exact cj ⟨_,_,_,fin.1,fin.2⟩
  ·rintro σ H' ⟨o5,o6,o7,rfl,sm⟩;have ax:dZ C H' a t:=(((hA.same s1).same ar).same sm);obtain⟨aO,aP,aQ,aR⟩:=ax.ob;refine⟨_,rfl,t.kn,a,aO,aP,rfl,aQ,aR _ i6,a,t,rfl,ax,hd,rfl,ae,by omega,λH9 s9=>⟨_,rfl,rfl,?_⟩⟩;rw[hL,JS rfl];exact q H9 (((s1.trans ar).trans sm).trans s9)
end
theorem bX.any {P:Ka}{w:Ku}{K:Kl}{mg:Str->JW JT}{base:KP}{CX:gv}{k N:Nat}{f:JR}{fd:J2}{ps:JP Str}{sp:Nat->Sp}(F:∀ n,n<=N->bX P w K mg base CX k f fd ps (sp n)):
  bX P w K mg base CX k f fd ps (λvs H Q E=>∃ n,n<=N/\sp n vs H Q E):=
 ⟨λvs H Q E ⟨n,hn,q⟩=>(F n hn).len vs H Q E q,λA outer s H args us vs Q E J he hb U ⟨n,hn,q⟩=>(F n hn).run A outer s H args us vs Q E J he hb U q⟩
theorem Gd.kids:∀{t:At},Gd t->∀ k∈t.kids,Gd k
 |.near a b n,g,k,h=>by
  have h':k=a\/k=b:=by simpa[At.kids] using h
  rcases h' with rfl|rfl
  ·exact g.2.2.1
  ·exact g.2.2.2
 |.both a b,g,k,h=>by
  have h':k=a\/k=b:=by simpa[At.kids] using h
  rcases h' with rfl|rfl
  ·exact g.1
  ·exact g.2
 |.either a b,g,k,h=>by
  have h':k=a\/k=b:=by simpa[At.kids] using h
  rcases h' with rfl|rfl
  ·exact g.1
  ·exact g.2
 |.no a,g,k,h=>by
  have h':k=a:=by simpa[At.kids] using h
  rw[h'];exact g
 |.word _,_,k,h=>by simp[At.kids] at h
 |.start _,_,k,h=>by simp[At.kids] at h
 |.row _,_,k,h=>by simp[At.kids] at h
noncomputable def nK(K:Kl):Sp:=λvs H Q _=>∃(a:JR) (ns:JP Int),vs=[.ref a]/\ck K H a (ns.map V.int)/\ns.length<=63/\∀ H',Q (.bl true) H'
noncomputable abbrev DH:JP Str:=["_law_script","_law_menu_here","_law_told","_law_ask","_law_kids_here","_law_kid","_law_due"]
theorem lN:da DH ["_law_script"] (cG js):=⟨rfl,rfl,rfl,dkq,rfl,dkq,dkq⟩
section
variable {P : Ka} {w : Ku} {K : J7} {mg : Str -> JW JT} {base : KP} {C fW fT fk : Kn -> JR} {dW dT' fdk : Kn -> J2} {CA : JR}
seal cH PS PE PT PA PG PI cT cP in
theorem Dk{fL fn fm fme ft fp fa fr fq gk:JR}{fdL fdn fdm fdme fdt fdp fda fdr fdq fgk:J2}(D:Df K mg "law" js fL fdL)(DN:Df K mg "_law_number" lX fn fdn)(DM:Df K mg "_law_mixed" ju fm fdm)(DMe:Df K mg "_law_menu" lT fme fdme)(DT:Df K mg "_law_tree" nL ft fdt)(DP:Df K mg "_law_plain" kX fp fdp)
  (DA:Df K mg "ask_of" nz fa fda)(DR:Df K mg "_law_right" qN fr fdr)(DQ:Df K mg "read_ask" nV fq fdq)(DK:Df K mg "_law_kids" kT gk fgk)(Cl:Cs K C)(MK:Mt K C "kids" oG mf fk fdk)(MW:Mt K C "written" iw f9 fW dW)(GW0:∀ i,bX P w K mg base b7 17 (fW i) (dW i) ["self"] (gm C 7 i))(MT:Mt K C "told" oQ lQ fT dT')(T:Txt mg)
  (GA0:bX P w K mg base (dD P w) 14 fa fda ["told"] (vB C CA))(GQ:bX P w K mg base b7 17 fq fdq ["line"] (vk C))(GR:bX P w K mg base b7 17 fr fdr ["_law_ask","_law_told"] (yq C)):
  bX P w K mg base b7 18 fL fdL ["_law_script"] (nK K):=by
 have GN:bX P w K mg base b7 17 fn fdn ["_law_script","_law_k"] (v5 K):=(Ak DN DM T).mono (by decide)
 have bN:=DN.F.binds (ps:=["_law_script","_law_k"]) λ_ _ _ _ _ _ us hl=>iX (λ_ _=>rfl) us hl
 have aD:bX P w K mg base b7 17 fme fdme ["_law_number_here"] yN:=(E7 DMe DM T).mono (by decide)
 have aE:=dY (p:="_law_number_here") DMe.F λ_ _ _ _ _ _ _=>rfl
 have GT:bX P w K mg base b7 17 ft fdt ["_law_script","_law_at","_law_deep","_law_menu_here"] (λvs H Q E=>∃ n,n<=8/\sv K n vs H Q E):=bX.any λn hn=>(yI DT DM DN DP T n).mono (by omega)
 have bT:=DT.F.binds (ps:=["_law_script","_law_at","_law_deep","_law_menu_here"]) λ_ _ _ _ _ _ us hl=>BC (λ_ _ _ _=>rfl) us hl
 have GA:=GA0.mono (show 14<=17 by decide)
 have bA:=dY (p:="told") DA.F λ_ _ _ _ _ _ _=>rfl
 have bQ:=dY (p:="line") DQ.F λ_ _ _ _ _ _ _=>rfl
 have bR:=DR.F.binds (ps:=["_law_ask","_law_told"]) λ_ _ _ _ _ _ us hl=>iX (λ_ _=>rfl) us hl
 have GK:bX P w K mg base b7 17 gk fgk ["_law_told"] rj:=(uu DK).mono (by decide)
 have bK:=dY (p:="_law_told") DK.F λ_ _ _ _ _ _ _=>rfl
 have aF:∀ i,bX P w K mg base b7 17 (fk i) (fdk i) ["self"] (xf C i):=λi=>(xq Cl MK i).mono (by decide)
 have aG:∀ i,bX P w K mg base b7 17 (fT i) (dT' i) ["self"] (pR C 7 i):=λi=>(wN Cl MT 7 i).mono (by decide)
 refine D.F.ok lN (λvs H Q E h=>?_) (λcdv A outer s H vs Q E U h=>?_)
 ·obtain⟨a,ns,rfl,_⟩:=h;rfl
 ·obtain⟨a,ns,rfl,hS,ak,kk⟩:=h;have hz:(sizeLine:Nat)=16777216:=Kv;refine⟨_,b9 (cZ (i:=1) lN.nd rfl (Kh rfl) (cQ aD U rfl DMe.m DMe.F.kp aE .nil cz (bU (cQ GN U rfl DN.m DN.F.kp bN .nil cz (bU (pv 0) (bU bZ bV))) bV)))
   (b9 (cZ (i:=2) lN.nd rfl (Kh rfl) (cQ GT U rfl DT.m DT.F.kp bT .nil cz (bU (pv 0) (bU (eZ (bU bZ bV)) (bU (cA eD bZ (cA fI (cQ GN U rfl DN.m DN.F.kp bN .nil cz (bU (pv 0) (bU bZ bV))) bZ)) (bU (pv 1) bV))))))
   (b9 (cZ (i:=3) lN.nd rfl (Kh rfl) (cQ GA U rfl DA.m DA.F.kp bA .nil EL (bU (pv 2) bV)))
   (b9 (cM (PW.pt (gn (gF (fZ (cQ GR U rfl DR.m DR.F.kp bR .nil cz (bU (pv 3) (bU (pv 2) bV))))) (ia (gF (fZ (cQ GR U rfl DR.m DR.F.kp bR .nil cz (bU (cQ GQ U rfl DQ.m DQ.F.kp bQ .nil cz (bU (gc (pv 3) Cl.cl MW.M GW0 U (je MW) cz) bV)) (bU (pv 2) bV)))))))) (b5 (cy iq)) cY)
   (b9 (cZ (i:=4) lN.nd rfl (Kh rfl) (gc (pv 3) Cl.cl MK.M aF U (y3 MK) cz))
   (b9 (lF KZ rfl (Cy rfl T.zip (bU (pv 4) (bU (cQ GK U rfl DK.m DK.F.kp bK .nil cz (bU (pv 2) bV)) bV))) (qA (n:=2) rfl (iN (eX (i:=5) lN.nd rfl (Kh rfl)) (iN (eX (i:=6) lN.nd rfl (Kh rfl)) qm)))
    (b5 (cM (gF (fZ (cQ GR U rfl DR.m DR.F.kp bR .nil cz (bU (pv 5) (bU (pv 6) bV))))) (b5 (cy iq)) cY)))
   (b5 (cy (ik (wA U.units100) (gc (pv 3) Cl.cl MT.M aG U (jU MT) cz) (pv 2) rfl)))))))),?_⟩;refine⟨_,rfl,a,ns,0,rfl,hS,ak,by decide,λr0 H1 _ _ s1=>⟨r0,rfl,λme H2 zs s2 e2 aH aI=>?_⟩⟩;have aJ:=s1.trans s2;have aK:lC H2 me zs:=⟨e2,aH,aI⟩;have aw:=aJ.seq hS;refine⟨_,rfl,eh,λc hc=>⟨_,rfl,a,ns,40,rfl,(cq hc).seq aw,ak,by decide,λr H3 _ _ s3=>⟨_,_,rfl,rfl,(by show(0:Int)<8;decide),_,_,rfl,rfl,_,rfl,?_⟩⟩⟩;have e0:=LR r (show(8:Int)≠0 by decide);have e1:=Ly r (show(0:Int)<8 by decide);obtain⟨n,hn⟩:=Int.eq_ofNat_of_zero_le (show 0<=1+r%8 by omega);have ax:n<=8:=by omega
  have p8:2 ^ n<=2 ^ 8:=LK (by decide) ax
  have p256:(2:Nat) ^ 8=256:=rfl;refine⟨n,ax,a,c,me,ns,zs,0,_,H2,rfl,hn,by omega,(cq hc).trans s3,hc,aw,ak,aK,s3 _ _ b6,by omega,λx t a' H4 x4 c4 hx gd hd ha hm=>?_⟩;have ab:t.many<=33:=by omega
  have I:t.dep<=7:=by omega
  have own:=wm gd;rw[J1 ⟨I,by omega⟩] at own;have ay:=j8 gd;have hlen:t.lin.length<=2000:=by have:=lH gd;omega
  refine⟨_,rfl,x,t.told,rfl,cD.any hx,jP gd,λu hu aa H6 s6 hA=>?_,λe=>by rw[own] at e;cases e⟩;have eu:t=u:=Kg (own.symm.trans hu);subst eu;have ao:=hx.same s6;refine⟨_,rfl,_,rfl,aa,x,t,rfl,hA,ao,gd,I,ab,λH7 s7=>⟨_,rfl,cj ?_⟩⟩;have az:=hA.same s7;obtain⟨dp,aL,ep,lp⟩:=az.ob;refine⟨_,rfl,t.kn,aa,dp,aL,rfl,ep,lp _ i6,aa,t,rfl,az,I,rfl,ay,by omega,λH8 s8=>⟨t,rfl,gd,I,ab,λa9 H9 s9 aM=>⟨_,rfl,a9,x,t,rfl,aM,((ao.same s7).same s8).same s9,gd,I,ab,λae aN=>⟨_,rfl,cj ?_⟩⟩⟩⟩;have ah:=((s7.trans s8).trans s9).trans aN;have af:=hA.same ah;obtain⟨aO,aP,aQ,aR⟩:=af.ob;refine⟨_,rfl,t.kn,aa,aO,aP,rfl,aQ,aR _ xi,aa,t,rfl,af,rfl,λl6 J aS aT=>?_⟩;have ag:bY ae (upd ae l6 (.lst J)):=cq aS;have aq:upd ae l6 (.lst J) l6=some (.lst J):=b6;show jV _ _ _ [some (.ref a),some (.ref me),some x,some (.ref aa),some (.ref l6),none,none] (upd ae l6 (.lst J));generalize upd ae l6 (.lst J)=a3 at ag aq ⊢;have ai:=(ao.same ah).same ag;refine⟨_,rfl,_,rfl,x,t,rfl,ai,λl7 ar HC sC fC eC qC=>?_⟩;have KC:=kG.same (ag.trans sC) aT;have a4:=Gn.Paired.len KC;have a5:ar.length=t.kids.length:=by have:=qC.len;rw[JX] at this;exact this
  refine⟨l6,l7,J,ar,rfl,sC _ _ aq,eC,?_⟩;refine HD (xs:=J) (ys:=ar) (λj σ H'=>∃(o5 o6:JW V),σ=[some (.ref a),some (.ref me),some x,some (.ref aa),some (.ref l6),o5,o6]/\bY HC H') (by omega) ?_ ?_ ?_ ?_
  ·exact⟨none,none,rfl,bY.refl _⟩
  ·rintro j σ H' _ ⟨o5,o6,rfl,sm⟩;exact⟨sm _ _ (sC _ _ aq),sm _ _ eC⟩
  ·rintro j y z σ H' tt hy aU ⟨o5,o6,rfl,sm⟩ aV;obtain⟨kd,aA,p,rfl,aW⟩:=vI KC hy;obtain⟨d,aB,hd2⟩:=qC.get aU;have ed:d=kd.told:=by
    rw[List.getElem?_map,aA] at aB;exact(Kg aB).symm
   subst ed;have au:=List.mem_of_getElem? aA;have d1:=At.kids_dep au;have m1:=At.kids_many au;have st:=sm.trans (cq (o:= .tup [.ref p,z]) aV);refine⟨tt,_,rfl,cu.of b6,rfl,_,_,rfl,_,_,rfl,rfl,?_⟩;exact⟨_,rfl,_,rfl,p,z,kd,rfl,aW.same st,hd2.same st,gd.kids kd au,by omega,by omega,λaC av=>⟨_,rfl,cj ⟨_,_,rfl,st.trans av⟩⟩⟩
  ·rintro σ H' ⟨o5,o6,rfl,sm⟩;have aj:=((af.same ag).same sC).same sm;obtain⟨aX,aY,aZ,a0⟩:=aj.ob;have lay:t.told.canLay0=true:=by rw[<-jd gd];exact kc (lU gd)
   have dep:t.told.depth<=100:=by have:=kj t;omega
   refine⟨_,rfl,t.kn,aa,aX,aY,rfl,aZ,a0 _ jH,aa,t,rfl,aj,I,rfl,λa6 aC av px=>?_⟩;refine⟨_,rfl,t.told,t.told,px.dt,(((ai.same sC).same sm).same av).dt,lay,lay,Kj (LV _ _) dep,?_⟩;rw[vS lay];exact kk aC
end
theorem _root_.L2.kL.mono {P:Ka}{w:Ku}{K:Kl}{mg:Str->JW JT}{base:KP}{j k:Nat}{f:JR}{fd:J2}{ps:JP Str}{sp:Sp}(F:kL P w K mg base j f fd ps sp)(h:j<=k):
  kL P w K mg base k f fd ps sp:=⟨F.len,λA outer s H args us vs Q E J=>F.run A outer s H args us vs Q E (J.mono h)⟩
noncomputable def sel{α:Type}(a0 a1 a2 a3 a4 a5 a6:α):Kn->α
 |.w=>a0|.s=>a1|.r=>a2|.n=>a3|.b=>a4|.e=>a5|.o=>a6
noncomputable def G9{α:Type}(a0 a1 a2 a3 a4 a5 a6 a7:α):RA.Kd->α
 |.lp=>a0|.no=>a1|.and=>a2|.or=>a3|.tilde=>a4|.leaf=>a5|.near=>a6|.rp=>a7|.stop=>a4
section
variable {P : Ka} {w : Ku} {K : J7} {mg : Str -> JW JT} {base h : KP}
theorem EX(X:K.In h)(G:h.Ns Kc mg){t0 t1 t2 t3 t4 t5 t6 t7 t8 t9:Tok}
  (n0:Lx K Kc "isinstance"=some none)
  (n1:Lx K Kc "int"=some none)
  (n2:Lx K Kc "bool"=some none)
  (n3:Lx K Kc "str"=some none)
  (n4:Lx K Kc "list"=some none)
  (n5:Lx K Kc "tuple"=some none)
  (n6:Lx K Kc "len"=some none)
  (n7:Lx K Kc "all"=some none)
  (n8:Lx K Kc "range"=some none)
  (n9:Lx K Kc "zip"=some none)
  (n10:Lx K Kc "sum"=some none)
  (n11:Lx K Kc "ord"=some none)
  (c0:Lx K Kc "MOST_TEXT_SIGNS"=some (some (.int 2000 t0)))
  (c1:Lx K Kc "PERCENT_NUMBER"=some (some (.int 37 t1)))
  (c2:Lx K Kc "MOST_BRACKETS"=some (some (.int 12 t2)))
  (c3:Lx K Kc "SMALL_SIGNS"=some (some (.str "abcdefghijklmnopqrstuvwxyz0123456789" t3)))
  (c4:Lx K Kc "MOST_WORD_SIGNS"=some (some (.int 2000 t4)))
  (c5:Lx K Kc "LEAST_IN_ROW"=some (some (.int 2 t5)))
  (c6:Lx K Kc "MOST_IN_ROW"=some (some (.int 8 t6)))
  (c7:Lx K Kc "MOST_FAR"=some (some (.int 20 t7)))
  (c8:Lx K Kc "MOST_DEEP"=some (some (.int 8 t8)))
  (c9:Lx K Kc "MOST_IN_ALL"=some (some (.int 40 t9)))
  :Txt mg where
 isi:=LN X G n0
 int:=LN X G n1
 bool:=LN X G n2
 str:=LN X G n3
 list:=LN X G n4
 tuple:=LN X G n5
 len:=LN X G n6
 all:=LN X G n7
 range:=LN X G n8
 zip:=LN X G n9
 sum:=LN X G n10
 ord:=LN X G n11
 cText:=⟨t0,LF X G c0⟩
 cPer:=⟨t1,LF X G c1⟩
 cBrk:=⟨t2,LF X G c2⟩
 cSmall:=⟨t3,LF X G c3⟩
 cWord:=⟨t4,LF X G c4⟩
 cLR:=⟨t5,LF X G c5⟩
 cMR:=⟨t6,LF X G c6⟩
 cFar:=⟨t7,LF X G c7⟩
 cDeep:=⟨t8,LF X G c8⟩
 cAll:=⟨t9,LF X G c9⟩
theorem HJ(P:Ka){d:JR}{ep:Nat}{t0 t1 t2 t3 t4 t5 t6:Tok}{u0 u1 u2 u3 u4 u5 u6:Tok}(X:K.In h)(G:h.Ns Kc mg)(a:Lx K Kc "TOLD_LENGTHS"=some (some (.ref d)))(ns:(d==Mg)=false)
  (l:K.lookup d=some ⟨.type "dict",none,.dict #[⟨Le w.params "word",.str "word" t0,.int 2 u0⟩,⟨Le w.params "start",.str "start" t1,.int 2 u1⟩,⟨Le w.params "row",.str "row" t2,.int 2 u2⟩,⟨Le w.params "near",.str "near" t3,.int 4 u3⟩,⟨Le w.params "both",.str "both" t4,.int 3 u4⟩,⟨Le w.params "either",.str "either" t5,.int 3 u5⟩,⟨Le w.params "not",.str "not" t6,.int 2 u6⟩] ep,#[]⟩):∃ d,mg "TOLD_LENGTHS"=some (.ref d)/\KD P w K d gb:=by
 refine⟨d,LF X G a,ns,λh' J=>⟨[((.inr "word":Key),.int 2 u0),((.inr "start":Key),.int 2 u1),((.inr "row":Key),.int 2 u2),((.inr "near":Key),.int 4 u3),((.inr "both":Key),.int 3 u4),((.inr "either":Key),.int 3 u5),((.inr "not":Key),.int 2 u6)],?_,_,_,_,J _ _ l,?_,rfl,?_,?_,?_⟩⟩
 ·exact .cons ⟨rfl,_,rfl⟩ (.cons ⟨rfl,_,rfl⟩ (.cons ⟨rfl,_,rfl⟩ (.cons ⟨rfl,_,rfl⟩ (.cons ⟨rfl,_,rfl⟩ (.cons ⟨rfl,_,rfl⟩ (.cons ⟨rfl,_,rfl⟩ (.nil)))))))
 ·exact⟨rfl,rfl,rfl⟩
 ·intro e he;simp at he;rcases he with rfl|rfl|rfl|rfl|rfl|rfl|rfl
  ·exact⟨.inr "word",eT "word" t0,rfl⟩
  ·exact⟨.inr "start",eT "start" t1,rfl⟩
  ·exact⟨.inr "row",eT "row" t2,rfl⟩
  ·exact⟨.inr "near",eT "near" t3,rfl⟩
  ·exact⟨.inr "both",eT "both" t4,rfl⟩
  ·exact⟨.inr "either",eT "either" t5,rfl⟩
  ·exact⟨.inr "not",eT "not" t6,rfl⟩
 ·exact .cons (eT "word" t0) rfl (.cons (eT "start" t1) rfl (.cons (eT "row" t2) rfl (.cons (eT "near" t3) rfl (.cons (eT "both" t4) rfl (.cons (eT "either" t5) rfl (.cons (eT "not" t6) rfl (.nil)))))))
 ·show([.inr "word",.inr "start",.inr "row",.inr "near",.inr "both",.inr "either",.inr "not"]:JP Key).Nodup;decide +kernel
theorem C0(P:Ka){d:JR}{ep:Nat}{t0 t1 t2 t3 t4 t5 t6 t7:Tok}{j0 j1 j2 j3 j4 j5 j6 j7:JR}{od0 od1 od2 od3 od4 od5 od6 od7:JW JR}{m0 m1 m2 m3 m4 m5 m6 m7:Nat}{sl0 sl1 sl2 sl3 sl4 sl5 sl6 sl7:MM (JW JT)}{v0_0 v0_1 v0_2 v1_0 v1_1 v1_2 v2_0 v2_1 v2_2 v3_0 v3_1 v3_2 v4_0 v5_0 v5_1 v5_2 v5_3 v5_4 v5_5 v5_6 v5_7 v6_0 v6_1 v6_2 v6_3 v6_4 v6_5 v6_6 v7_0 v7_1 v7_2 v7_3 v7_4 v7_5 v7_6:Tok}(X:K.In h)(G:h.Ns Kc mg)(a:Lx K Kc "BEHIND"=some (some (.ref d)))(ns:(d==Mg)=false)
  (l:K.lookup d=some ⟨.type "dict",none,.dict #[⟨Le w.params "(",.str "(" t0,.ref j0⟩,⟨Le w.params "not",.str "not" t1,.ref j1⟩,⟨Le w.params "and",.str "and" t2,.ref j2⟩,⟨Le w.params "or",.str "or" t3,.ref j3⟩,⟨Le w.params "~",.str "~" t4,.ref j4⟩,⟨Le w.params "leaf",.str "leaf" t5,.ref j5⟩,⟨Le w.params "near",.str "near" t6,.ref j6⟩,⟨Le w.params ")",.str ")" t7,.ref j7⟩] ep,#[]⟩)(l0:K.lookup j0=some ⟨.type "tuple",od0,.seq #[.str "leaf" v0_0,.str "not" v0_1,.str "(" v0_2] m0,sl0⟩)(l1:K.lookup j1=some ⟨.type "tuple",od1,.seq #[.str "leaf" v1_0,.str "not" v1_1,.str "(" v1_2] m1,sl1⟩)(l2:K.lookup j2=some ⟨.type "tuple",od2,.seq #[.str "leaf" v2_0,.str "not" v2_1,.str "(" v2_2] m2,sl2⟩)(l3:K.lookup j3=some ⟨.type "tuple",od3,.seq #[.str "leaf" v3_0,.str "not" v3_1,.str "(" v3_2] m3,sl3⟩)(l4:K.lookup j4=some ⟨.type "tuple",od4,.seq #[.str "leaf" v4_0] m4,sl4⟩)(l5:K.lookup j5=some ⟨.type "tuple",od5,.seq #[.str "leaf" v5_0,.str "not" v5_1,.str "(" v5_2,.str "and" v5_3,.str "or" v5_4,.str ")" v5_5,.str "end" v5_6,.str "~" v5_7] m5,sl5⟩)(l6:K.lookup j6=some ⟨.type "tuple",od6,.seq #[.str "leaf" v6_0,.str "not" v6_1,.str "(" v6_2,.str "and" v6_3,.str "or" v6_4,.str ")" v6_5,.str "end" v6_6] m6,sl6⟩)(l7:K.lookup j7=some ⟨.type "tuple",od7,.seq #[.str "leaf" v7_0,.str "not" v7_1,.str "(" v7_2,.str "and" v7_3,.str "or" v7_4,.str ")" v7_5,.str "end" v7_6] m7,sl7⟩):∃ d j,mg "BEHIND"=some (.ref d)/\KD P w K d (nJ j)/\∀ k,k≠ .stop->∀ H,cu K H (j k) (jN k):=by
 refine⟨d,G9 j0 j1 j2 j3 j4 j5 j6 j7,LF X G a,⟨ns,λh' J=>⟨[((.inr "(":Key),.ref j0),((.inr "not":Key),.ref j1),((.inr "and":Key),.ref j2),((.inr "or":Key),.ref j3),((.inr "~":Key),.ref j4),((.inr "leaf":Key),.ref j5),((.inr "near":Key),.ref j6),((.inr ")":Key),.ref j7)],?_,_,_,_,J _ _ l,?_,rfl,?_,?_,?_⟩⟩,λk hk H=>match k,hk with|.lp,_=> .inr ⟨_,_,_,l0,rfl,rfl,by show 3<=sizeLine;decide,.cons ⟨_,rfl⟩ (.cons ⟨_,rfl⟩ (.cons ⟨_,rfl⟩ (.nil)))⟩|.no,_=> .inr ⟨_,_,_,l1,rfl,rfl,by show 3<=sizeLine;decide,.cons ⟨_,rfl⟩ (.cons ⟨_,rfl⟩ (.cons ⟨_,rfl⟩ (.nil)))⟩|.and,_=> .inr ⟨_,_,_,l2,rfl,rfl,by show 3<=sizeLine;decide,.cons ⟨_,rfl⟩ (.cons ⟨_,rfl⟩ (.cons ⟨_,rfl⟩ (.nil)))⟩|.or,_=> .inr ⟨_,_,_,l3,rfl,rfl,by show 3<=sizeLine;decide,.cons ⟨_,rfl⟩ (.cons ⟨_,rfl⟩ (.cons ⟨_,rfl⟩ (.nil)))⟩|.tilde,_=> .inr ⟨_,_,_,l4,rfl,rfl,by show 1<=sizeLine;decide,.cons ⟨_,rfl⟩ (.nil)⟩|.leaf,_=> .inr ⟨_,_,_,l5,rfl,rfl,by show 8<=sizeLine;decide,.cons ⟨_,rfl⟩ (.cons ⟨_,rfl⟩ (.cons ⟨_,rfl⟩ (.cons ⟨_,rfl⟩ (.cons ⟨_,rfl⟩ (.cons ⟨_,rfl⟩ (.cons ⟨_,rfl⟩ (.cons ⟨_,rfl⟩ (.nil))))))))⟩|.near,_=> .inr ⟨_,_,_,l6,rfl,rfl,by show 7<=sizeLine;decide,.cons ⟨_,rfl⟩ (.cons ⟨_,rfl⟩ (.cons ⟨_,rfl⟩ (.cons ⟨_,rfl⟩ (.cons ⟨_,rfl⟩ (.cons ⟨_,rfl⟩ (.cons ⟨_,rfl⟩ (.nil)))))))⟩|.rp,_=> .inr ⟨_,_,_,l7,rfl,rfl,by show 7<=sizeLine;decide,.cons ⟨_,rfl⟩ (.cons ⟨_,rfl⟩ (.cons ⟨_,rfl⟩ (.cons ⟨_,rfl⟩ (.cons ⟨_,rfl⟩ (.cons ⟨_,rfl⟩ (.cons ⟨_,rfl⟩ (.nil)))))))⟩|.stop,hk=>absurd rfl hk⟩
 ·exact .cons ⟨rfl,rfl⟩ (.cons ⟨rfl,rfl⟩ (.cons ⟨rfl,rfl⟩ (.cons ⟨rfl,rfl⟩ (.cons ⟨rfl,rfl⟩ (.cons ⟨rfl,rfl⟩ (.cons ⟨rfl,rfl⟩ (.cons ⟨rfl,rfl⟩ (.nil))))))))
 ·exact⟨rfl,rfl,rfl⟩
 ·intro e he;simp at he;rcases he with rfl|rfl|rfl|rfl|rfl|rfl|rfl|rfl
  ·exact⟨.inr "(",eT "(" t0,rfl⟩
  ·exact⟨.inr "not",eT "not" t1,rfl⟩
  ·exact⟨.inr "and",eT "and" t2,rfl⟩
  ·exact⟨.inr "or",eT "or" t3,rfl⟩
  ·exact⟨.inr "~",eT "~" t4,rfl⟩
  ·exact⟨.inr "leaf",eT "leaf" t5,rfl⟩
  ·exact⟨.inr "near",eT "near" t6,rfl⟩
  ·exact⟨.inr ")",eT ")" t7,rfl⟩
 ·exact .cons (eT "(" t0) rfl (.cons (eT "not" t1) rfl (.cons (eT "and" t2) rfl (.cons (eT "or" t3) rfl (.cons (eT "~" t4) rfl (.cons (eT "leaf" t5) rfl (.cons (eT "near" t6) rfl (.cons (eT ")" t7) rfl (.nil))))))))
 ·show([.inr "(",.inr "not",.inr "and",.inr "or",.inr "~",.inr "leaf",.inr "near",.inr ")"]:JP Key).Nodup;decide +kernel
theorem Ei{j:JR}{od:JW JR}{m:Nat}{sl:MM (JW JT)}{v0 v1 v2:Tok}(X:K.In h)(G:h.Ns Kc mg)(a:Lx K Kc "JOINING"=some (some (.ref j)))(l:K.lookup j=some ⟨.type "tuple",od,.seq #[.str "and" v0,.str "or" v1,.str "not" v2] m,sl⟩):∃ j,mg "JOINING"=some (.ref j)/\∀ H,cu K H j gR:=
 ⟨j,LF X G a,λH=> .inr ⟨_,_,_,l,rfl,rfl,by show 3<=sizeLine;decide,.cons ⟨_,rfl⟩ (.cons ⟨_,rfl⟩ (.cons ⟨_,rfl⟩ .nil))⟩⟩
noncomputable def MF(K:Kl)(C f:JR)(m q:Str)(st:K0)(fd:J2):Prop:=ej K m q st f fd/\Meth K C m f
theorem dX{C f:JR}{m q:Str}{st:K0}{od an:JW JR}{sl:MM (JW JT)}{oc kV dc pm cd ct:JT}(a:Li K (.ref C) m=some (some (.ref f)))(i:W.isFn K (.ref f)=true)
  (l:K.lookup f=some ⟨oc,od,.func (Nk m q (i3 st) (iB st) (cG st) .none kV dc pm an cd ct),sl⟩)(c:N1 K cd q=true)(k:ME K (.ref f)=true):MF K C f m q st (Nk m q (i3 st) (iB st) (cG st) .none kV dc pm an cd ct):=
 ⟨uQ l c k,a,i,k⟩
noncomputable def CL(K:Kl)(C:JR):Prop:=gB K C/\W.makesIn K C=true/\ME K (.ref C)=true
theorem jI{C:JR}(a:OB K C Str.empty=true)(b:OQ K C=true)(c:W.plainOver K C=true)(d:Li K (.ref C) "__setattr__"=some (some (.builtin "object.__setattr__")))(e:W.makesIn K C=true)(f:ME K (.ref C)=true):CL K C:=⟨⟨a,b,c,d⟩,e,f⟩
noncomputable def NA(K:Kl)(C:JR)(x:Str):Prop:=Li K (.ref C) x=some none
noncomputable def kM(K:Kl)(C:JR):Prop:=NA K C "word"/\NA K C "side_by_side"/\NA K C "one"/\NA K C "other"/\NA K C "far"
theorem mQ{C:JR}(a:Li K (.ref C) "word"=some none)(b:Li K (.ref C) "side_by_side"=some none)(c:Li K (.ref C) "one"=some none)(d:Li K (.ref C) "other"=some none)(e:Li K (.ref C) "far"=some none):kM K C:=⟨a,b,c,d,e⟩
noncomputable def HA(K:Kl)(C:JR):Prop:=Li K (.ref C) "__class__"=some (some (.builtin "object.__class__"))/\W.mroIn K C (.type "object")=some true
theorem mn{C:JR}(a:Li K (.ref C) "__class__"=some (some (.builtin "object.__class__")))(b:W.mroIn K C (.type "object")=some true):HA K C:=⟨a,b⟩
structure All (K : Kl) (mg : Str -> JW JT) (C fi ft fw fk : Kn -> JR) (di dt dw dk : Kn -> J2) (CB cBk cRdr : JR) (b0 b1 b2 b3 b4 : JR) (e0 e1 e2 e3 e4 : J2) (r0 r1 r2 r3 r4 r5 : JR) (g0 g1 g2 g3 g4 g5 : J2) : Prop where
 cs : Cs K C
 nm : Nm mg C
 I : In K C fi di
 MT : Mt K C "told" oQ lQ ft dt
 MW : Mt K C "written" iw f9 fw dw
 MK : Mt K C "kids" oG mf fk dk
 hK : ∀ i, Lm K (.ref (C i)) ([C .w, C .s, C .r].map Ky) = some (gp i)
 hE : ∀ i, Lw K (.ref (C i)) (.ref (C .e)) = some (eI i)
 hBE : ∀ i, Lm K (.ref (C i)) ([C .b, C .e].map Ky) = some (eF i)
 ex : Ex K mg "BadAsk" CB
 bm : lr K cBk b0 b1 b2 b3 b4 e0 e1 e2 e3 e4
 mB : mg "Bracket" = some (.ref cBk)
 rm : xS K cRdr r0 r1 r2 r3 r4 r5 g0 g1 g2 g3 g4 g5
 mR : mg "Reader" = some (.ref cRdr)
noncomputable def uf(K:Kl)(mg:Str->JW JT):Prop:=∃ C fi ft fw fk di dt dw I CB U J b0 b1 b2 b3 b4 e0 e1 e2 e3 e4 r0 r1 r2 r3 r4 r5 g0 g1 g2 g3 g4 g5,All K mg C fi ft fw fk di dt dw I CB U J b0 b1 b2 b3 b4 e0 e1 e2 e3 e4 r0 r1 r2 r3 r4 r5 g0 g1 g2 g3 g4 g5
theorem F7{cw cs cr cn cb ce co CB cBk cRdr:JR}{fIw fTw fWw fKw fIs fTs fWs fKs fIr fTr fWr fKr fIn fTn fWn fKn fIb fTb fWb fKb fIe fTe fWe fKe fIo fTo fWo fKo fBk0 fBk1 fBk2 fBk3 fBk4 fRd0 fRd1 fRd2 fRd3 fRd4 fRd5:JR}{dIw dTw dWw dKw dIs dTs dWs dKs dIr dTr dWr dKr dIn dTn dWn dKn dIb dTb dWb dKb dIe dTe dWe dKe dIo dTo dWo dKo dBk0 dBk1 dBk2 dBk3 dBk4 dRd0 dRd1 dRd2 dRd3 dRd4 dRd5:J2}
  (X:K.In h)(G:h.Ns Kc mg)
  (hGet:W.specialIn K (.builtin "object.__class__") "__get__"=some (some (.builtin "getset_descriptor.__get__")))
  (hTak:W.takesIn K (.builtin "object.__class__")=some true)
  (aw:Lx K Kc "Word"=some (some (.ref cw)))
  (Cw:CL K cw)
  (hw:HA K cw)
  (nw:kM K cw)
  (mIw:MF K cw fIw "__init__" "Word.__init__" (inClass cW 0) dIw)
  (mTw:MF K cw fTw "told" "Word.told" (inClass cW 1) dTw)
  (mWw:MF K cw fWw "written" "Word.written" (inClass cW 2) dWw)
  (mKw:MF K cw fKw "kids" "Ask.kids" (inClass tM 0) dKw)
  (as:Lx K Kc "Start"=some (some (.ref cs)))
  (Cs:CL K cs)
  (hs:HA K cs)
  (ns:kM K cs)
  (mIs:MF K cs fIs "__init__" "Start.__init__" (inClass cS 0) dIs)
  (mTs:MF K cs fTs "told" "Start.told" (inClass cS 1) dTs)
  (mWs:MF K cs fWs "written" "Start.written" (inClass cS 2) dWs)
  (mKs:MF K cs fKs "kids" "Ask.kids" (inClass tM 0) dKs)
  (ar:Lx K Kc "Row"=some (some (.ref cr)))
  (Cr:CL K cr)
  (hr:HA K cr)
  (nr:kM K cr)
  (mIr:MF K cr fIr "__init__" "Row.__init__" (inClass cR 0) dIr)
  (mTr:MF K cr fTr "told" "Row.told" (inClass cR 1) dTr)
  (f9:MF K cr fWr "written" "Row.written" (inClass cR 2) dWr)
  (mKr:MF K cr fKr "kids" "Ask.kids" (inClass tM 0) dKr)
  (an:Lx K Kc "Near"=some (some (.ref cn)))
  (Cn:CL K cn)
  (hn:HA K cn)
  (nn:kM K cn)
  (mIn:MF K cn fIn "__init__" "Near.__init__" (inClass cN 0) dIn)
  (mTn:MF K cn fTn "told" "Near.told" (inClass cN 1) dTn)
  (mWn:MF K cn fWn "written" "Near.written" (inClass cN 2) dWn)
  (mKn:MF K cn fKn "kids" "Near.kids" (inClass cN 3) dKn)
  (ab:Lx K Kc "Both"=some (some (.ref cb)))
  (Cb:CL K cb)
  (hb:HA K cb)
  (nb:kM K cb)
  (mIb:MF K cb fIb "__init__" "Both.__init__" (inClass cB 0) dIb)
  (mTb:MF K cb fTb "told" "Both.told" (inClass cB 1) dTb)
  (mWb:MF K cb fWb "written" "Both.written" (inClass cB 2) dWb)
  (mKb:MF K cb fKb "kids" "Both.kids" (inClass cB 3) dKb)
  (ae:Lx K Kc "Either"=some (some (.ref ce)))
  (Ce:CL K ce)
  (he:HA K ce)
  (ne:kM K ce)
  (mIe:MF K ce fIe "__init__" "Either.__init__" (inClass cE 0) dIe)
  (mTe:MF K ce fTe "told" "Either.told" (inClass cE 1) dTe)
  (mWe:MF K ce fWe "written" "Either.written" (inClass cE 2) dWe)
  (mKe:MF K ce fKe "kids" "Either.kids" (inClass cE 3) dKe)
  (ao:Lx K Kc "Not"=some (some (.ref co)))
  (Co:CL K co)
  (ho:HA K co)
  (no:kM K co)
  (mIo:MF K co fIo "__init__" "Not.__init__" (inClass cO 0) dIo)
  (mTo:MF K co fTo "told" "Not.told" (inClass cO 1) dTo)
  (mWo:MF K co fWo "written" "Not.written" (inClass cO 2) dWo)
  (mKo:MF K co fKo "kids" "Not.kids" (inClass cO 3) dKo)
  (qLw:Lm K (.ref cw) [.ref cw,.ref cs,.ref cr]=some true)
  (qEw:Lw K (.ref cw) (.ref ce)=some false)
  (qBw:Lm K (.ref cw) [.ref cb,.ref ce]=some false)
  (qLs:Lm K (.ref cs) [.ref cw,.ref cs,.ref cr]=some true)
  (qEs:Lw K (.ref cs) (.ref ce)=some false)
  (qBs:Lm K (.ref cs) [.ref cb,.ref ce]=some false)
  (qLr:Lm K (.ref cr) [.ref cw,.ref cs,.ref cr]=some true)
  (qEr:Lw K (.ref cr) (.ref ce)=some false)
  (qBr:Lm K (.ref cr) [.ref cb,.ref ce]=some false)
  (qLn:Lm K (.ref cn) [.ref cw,.ref cs,.ref cr]=some false)
  (qEn:Lw K (.ref cn) (.ref ce)=some false)
  (qBn:Lm K (.ref cn) [.ref cb,.ref ce]=some false)
  (qLb:Lm K (.ref cb) [.ref cw,.ref cs,.ref cr]=some false)
  (qEb:Lw K (.ref cb) (.ref ce)=some false)
  (qBb:Lm K (.ref cb) [.ref cb,.ref ce]=some true)
  (qLe:Lm K (.ref ce) [.ref cw,.ref cs,.ref cr]=some false)
  (qEe:Lw K (.ref ce) (.ref ce)=some true)
  (qBe:Lm K (.ref ce) [.ref cb,.ref ce]=some true)
  (qLo:Lm K (.ref co) [.ref cw,.ref cs,.ref cr]=some false)
  (qEo:Lw K (.ref co) (.ref ce)=some false)
  (qBo:Lm K (.ref co) [.ref cb,.ref ce]=some false)
  (aB:Lx K Kc "BadAsk"=some (some (.ref CB)))
  (xB:W.excIn K CB [.type "ValueError",.type "Exception",.type "BaseException",.type "object"] "ValueError.__new__"=true)
  (aBk:Lx K Kc "Bracket"=some (some (.ref cBk)))
  (CBk:CL K cBk)
  (nBnots:Li K (.ref cBk) "nots"=some none)
  (nBbyand:Li K (.ref cBk) "by_and"=some none)
  (nBbyor:Li K (.ref cBk) "by_or"=some none)
  (mBk0:MF K cBk fBk0 "__init__" "Bracket.__init__" (inClass gu 0) dBk0)
  (mBk1:MF K cBk fBk1 "deny" "Bracket.deny" (inClass gu 1) dBk1)
  (mBk2:MF K cBk fBk2 "take_in" "Bracket.take_in" (inClass gu 2) dBk2)
  (mBk3:MF K cBk fBk3 "choose" "Bracket.choose" (inClass gu 3) dBk3)
  (mBk4:MF K cBk fBk4 "whole" "Bracket.whole" (inClass gu 4) dBk4)
  (aRd:Lx K Kc "Reader"=some (some (.ref cRdr)))
  (CRd:CL K cRdr)
  (nDbrackets:Li K (.ref cRdr) "brackets"=some none)
  (nDlast:Li K (.ref cRdr) "last"=some none)
  (nDleaf:Li K (.ref cRdr) "leaf"=some none)
  (nDfar:Li K (.ref cRdr) "far"=some none)
  (mRd0:MF K cRdr fRd0 "__init__" "Reader.__init__" (inClass fJ 0) dRd0)
  (mRd1:MF K cRdr fRd1 "lets" "Reader.lets" (inClass fJ 1) dRd1)
  (mRd2:MF K cRdr fRd2 "read_leaf" "Reader.read_leaf" (inClass fJ 2) dRd2)
  (mRd3:MF K cRdr fRd3 "read_other" "Reader.read_other" (inClass fJ 3) dRd3)
  (mRd4:MF K cRdr fRd4 "read" "Reader.read" (inClass fJ 4) dRd4)
  (mRd5:MF K cRdr fRd5 "whole" "Reader.whole" (inClass fJ 5) dRd5)
  :uf K mg:=by
 refine⟨(sel cw cs cr cn cb ce co),(sel fIw fIs fIr fIn fIb fIe fIo),(sel fTw fTs fTr fTn fTb fTe fTo),(sel fWw fWs fWr fWn fWb fWe fWo),(sel fKw fKs fKr fKn fKb fKe fKo),(sel dIw dIs dIr dIn dIb dIe dIo),(sel dTw dTs dTr dTn dTb dTe dTo),(sel dWw dWs dWr dWn dWb dWe dWo),(sel dKw dKs dKr dKn dKb dKe dKo),CB,cBk,cRdr,fBk0,fBk1,fBk2,fBk3,fBk4,dBk0,dBk1,dBk2,dBk3,dBk4,fRd0,fRd1,fRd2,fRd3,fRd4,fRd5,dRd0,dRd1,dRd2,dRd3,dRd4,dRd5,?_⟩
 refine⟨⟨λi=>match i with|.w=>⟨Cw.1,hw.1,hGet,hTak,hw.2⟩|.s=>⟨Cs.1,hs.1,hGet,hTak,hs.2⟩|.r=>⟨Cr.1,hr.1,hGet,hTak,hr.2⟩|.n=>⟨Cn.1,hn.1,hGet,hTak,hn.2⟩|.b=>⟨Cb.1,hb.1,hGet,hTak,hb.2⟩|.e=>⟨Ce.1,he.1,hGet,hTak,he.2⟩|.o=>⟨Co.1,ho.1,hGet,hTak,ho.2⟩,λi=>match i with|.w=>nw.1|.s=>ns.1|.r=>nr.1|.n=>nn.1|.b=>nb.1|.e=>ne.1|.o=>no.1,λi=>match i with|.w=>nw.2.1|.s=>ns.2.1|.r=>nr.2.1|.n=>nn.2.1|.b=>nb.2.1|.e=>ne.2.1|.o=>no.2.1,λi=>match i with|.w=>nw.2.2.1|.s=>ns.2.2.1|.r=>nr.2.2.1|.n=>nn.2.2.1|.b=>nb.2.2.1|.e=>ne.2.2.1|.o=>no.2.2.1,λi=>match i with|.w=>nw.2.2.2.1|.s=>ns.2.2.2.1|.r=>nr.2.2.2.1|.n=>nn.2.2.2.1|.b=>nb.2.2.2.1|.e=>ne.2.2.2.1|.o=>no.2.2.2.1,λi=>match i with|.w=>nw.2.2.2.2|.s=>ns.2.2.2.2|.r=>nr.2.2.2.2|.n=>nn.2.2.2.2|.b=>nb.2.2.2.2|.e=>ne.2.2.2.2|.o=>no.2.2.2.2⟩,⟨LF X G aw,LF X G as,LF X G ar,LF X G an,LF X G ab,LF X G ae,LF X G ao⟩,⟨λi=>match i with|.w=>mIw.1|.s=>mIs.1|.r=>mIr.1|.n=>mIn.1|.b=>mIb.1|.e=>mIe.1|.o=>mIo.1,λi=>match i with|.w=>⟨Cw.2.1,mIw.2.1,mIw.2.2,Cw.2.2⟩|.s=>⟨Cs.2.1,mIs.2.1,mIs.2.2,Cs.2.2⟩|.r=>⟨Cr.2.1,mIr.2.1,mIr.2.2,Cr.2.2⟩|.n=>⟨Cn.2.1,mIn.2.1,mIn.2.2,Cn.2.2⟩|.b=>⟨Cb.2.1,mIb.2.1,mIb.2.2,Cb.2.2⟩|.e=>⟨Ce.2.1,mIe.2.1,mIe.2.2,Ce.2.2⟩|.o=>⟨Co.2.1,mIo.2.1,mIo.2.2,Co.2.2⟩⟩,⟨λi=>match i with|.w=>mTw.1|.s=>mTs.1|.r=>mTr.1|.n=>mTn.1|.b=>mTb.1|.e=>mTe.1|.o=>mTo.1,λi=>match i with|.w=>mTw.2|.s=>mTs.2|.r=>mTr.2|.n=>mTn.2|.b=>mTb.2|.e=>mTe.2|.o=>mTo.2⟩,⟨λi=>match i with|.w=>mWw.1|.s=>mWs.1|.r=>f9.1|.n=>mWn.1|.b=>mWb.1|.e=>mWe.1|.o=>mWo.1,λi=>match i with|.w=>mWw.2|.s=>mWs.2|.r=>f9.2|.n=>mWn.2|.b=>mWb.2|.e=>mWe.2|.o=>mWo.2⟩,⟨λi=>match i with|.w=>mKw.1|.s=>mKs.1|.r=>mKr.1|.n=>mKn.1|.b=>mKb.1|.e=>mKe.1|.o=>mKo.1,λi=>match i with|.w=>mKw.2|.s=>mKs.2|.r=>mKr.2|.n=>mKn.2|.b=>mKb.2|.e=>mKe.2|.o=>mKo.2⟩,λi=>match i with|.w=>qLw|.s=>qLs|.r=>qLr|.n=>qLn|.b=>qLb|.e=>qLe|.o=>qLo,λi=>match i with|.w=>qEw|.s=>qEs|.r=>qEr|.n=>qEn|.b=>qEb|.e=>qEe|.o=>qEo,λi=>match i with|.w=>qBw|.s=>qBs|.r=>qBr|.n=>qBn|.b=>qBb|.e=>qBe|.o=>qBo,⟨LF X G aB,xB⟩,⟨⟨CBk.1,nBnots,nBbyand,nBbyor⟩,mBk0.1,⟨CBk.2.1,mBk0.2.1,mBk0.2.2,CBk.2.2⟩,mBk1.1,mBk1.2,mBk2.1,mBk2.2,mBk3.1,mBk3.2,mBk4.1,mBk4.2⟩,LF X G aBk,⟨⟨CRd.1,nDbrackets,nDlast,nDleaf,nDfar⟩,mRd0.1,⟨CRd.2.1,mRd0.2.1,mRd0.2.2,CRd.2.2⟩,mRd1.1,mRd1.2,mRd2.1,mRd2.2,mRd3.1,mRd3.2,mRd4.1,mRd4.2,mRd5.1,mRd5.2⟩,LF X G aRd⟩
theorem CY(T:Txt mg)(X:uf K mg)(KL:∃ d,mg "TOLD_LENGTHS"=some (.ref d)/\KD P w K d gb)(KB:∃ d j,mg "BEHIND"=some (.ref d)/\KD P w K d (nJ j)/\∀ k,k≠ .stop->∀ H,cu K H (j k) (jN k))(KJ:∃ j,mg "JOINING"=some (.ref j)/\∀ H,cu K H j gR)
  (d_sWhole:∃ f fd,Df K mg "is_whole" pE f fd)
  (d_sSign:∃ f fd,Df K mg "is_text_sign" qf f fd)
  (d_sText:∃ f fd,Df K mg "is_text" nU f fd)
  (d_sRow:∃ f fd,Df K mg "is_small_row" nS f fd)
  (d_sNText:∃ f fd,Df K mg "need_text" qO f fd)
  (d_sWord:∃ f fd,Df K mg "is_word" pL f fd)
  (d_sInB:∃ f fd,Df K mg "in_brackets" iD f fd)
  (d_sName:∃ f fd,Df K mg "need_name" qu f fd)
  (d_sAWord:∃ f fd,Df K mg "asked_word" nP f fd)
  (d_sARow:∃ f fd,Df K mg "asked_row" oY f fd)
  (d_sANear:∃ f fd,Df K mg "asked_near" qg f fd)
  (d_sWithin:∃ f fd,Df K mg "ask_within" pS f fd)
  (d_sMany:∃ f fd,Df K mg "many_in" lO f fd)
  (d_sAskOf:∃ f fd,Df K mg "ask_of" nz f fd)
  (d_sNoP:∃ f fd,Df K mg "no_piece" lL f fd)
  (d_sEnd:∃ f fd,Df K mg "end_of_row" mz f fd)
  (d_sWP:∃ f fd,Df K mg "word_piece" pN f fd)
  (d_sFP:∃ f fd,Df K mg "far_piece" p5 f fd)
  (d_sMP:∃ f fd,Df K mg "marked_piece" nC f fd)
  (d_sPAt:∃ f fd,Df K mg "piece_at" qE f fd)
  (d_sParted:∃ f fd,Df K mg "parted" qP f fd)
  (d_sRead:∃ f fd,Df K mg "read_ask" nV f fd)
  (d_lMixed:∃ f fd,Df K mg "_law_mixed" ju f fd)
  (d_lNumber:∃ f fd,Df K mg "_law_number" lX f fd)
  (d_lMenu:∃ f fd,Df K mg "_law_menu" lT f fd)
  (d_lPlain:∃ f fd,Df K mg "_law_plain" kX f fd)
  (d_lTree:∃ f fd,Df K mg "_law_tree" nL f fd)
  (d_lKids:∃ f fd,Df K mg "_law_kids" kT f fd)
  (d_lSK:∃ f fd,Df K mg "_law_sign_kind" oE f fd)
  (d_lRP:∃ f fd,Df K mg "_law_row_piece" nN f fd)
  (d_lPiece:∃ f fd,Df K mg "_law_piece" md f fd)
  (d_lPut:∃ f fd,Df K mg "_law_put" ph f fd)
  (d_lPutA:∃ f fd,Df K mg "_law_put_all" mY f fd)
  (d_lFits:∃ f fd,Df K mg "_law_fits" nF f fd)
  (d_lFirst:∃ f fd,Df K mg "_law_first" qH f fd)
  (d_lJoin:∃ f fd,Df K mg "_law_joined" pT f fd)
  (d_lRead:∃ f fd,Df K mg "_law_read" pJ f fd)
  (d_lBrk:∃ f fd,Df K mg "_law_brackets" qa f fd)
  (d_lAnds:∃ f fd,Df K mg "_law_ands" ng f fd)
  (d_lWof:∃ f fd,Df K mg "_law_words_of" qx f fd)
  (d_lRight:∃ f fd,Df K mg "_law_right" qN f fd)
  {f:JR}{fd:J2}(D:Df K mg "law" js f fd):bX P w K mg base b7 18 f fd ["_law_script"] (nK K):=by
 obtain⟨C,fi,ft,fw,fk,di,dt,dw,dk,CB,bg,bf,b0,b1,b2,b3,b4,e0,e1,e2,e3,e4,r0,r1,r2,r3,r4,r5,g0,g1,g2,g3,g4,g5,Z⟩:=X;obtain⟨d,hd,a5⟩:=KL;obtain⟨dB,jB,hB,a6,kB⟩:=KB;obtain⟨j,hJ,kJ⟩:=KJ;obtain⟨_,_,aE⟩:=d_sWhole;obtain⟨_,_,aI⟩:=d_sSign;obtain⟨_,_,ar⟩:=d_sText;obtain⟨_,_,aL⟩:=d_sRow;obtain⟨_,_,ao⟩:=d_sNText;obtain⟨_,_,au⟩:=d_sWord;obtain⟨_,_,aM⟩:=d_sInB;obtain⟨_,_,af⟩:=d_sName;obtain⟨_,_,J⟩:=d_sAWord;obtain⟨_,_,ag⟩:=d_sARow;obtain⟨_,_,aa⟩:=d_sANear;obtain⟨_,_,U⟩:=d_sWithin;obtain⟨_,_,av⟩:=d_sMany;obtain⟨_,_,ab⟩:=d_sAskOf;obtain⟨_,_,aN⟩:=d_sNoP;obtain⟨_,_,aO⟩:=d_sEnd;obtain⟨_,_,aQ⟩:=d_sWP;obtain⟨_,_,aR⟩:=d_sFP;obtain⟨_,_,aS⟩:=d_sMP;obtain⟨_,_,aB⟩:=d_sPAt;obtain⟨_,_,ah⟩:=d_sParted;obtain⟨_,_,ai⟩:=d_sRead;obtain⟨_,_,aF⟩:=d_lMixed;obtain⟨_,_,aA⟩:=d_lNumber;obtain⟨_,_,aJ⟩:=d_lMenu;obtain⟨_,_,aG⟩:=d_lPlain;obtain⟨_,_,aK⟩:=d_lTree;obtain⟨_,_,aj⟩:=d_lKids;obtain⟨_,_,aT⟩:=d_lSK;obtain⟨_,_,aU⟩:=d_lRP;obtain⟨_,_,ae⟩:=d_lPiece;obtain⟨_,_,aC⟩:=d_lPut;obtain⟨_,_,ak⟩:=d_lPutA;obtain⟨_,_,aw⟩:=d_lFits;obtain⟨_,_,aH⟩:=d_lFirst;obtain⟨_,_,ax⟩:=d_lJoin;obtain⟨_,_,ay⟩:=d_lRead;obtain⟨_,_,aP⟩:=d_lBrk;obtain⟨_,_,az⟩:=d_lAnds;obtain⟨_,_,aD⟩:=d_lWof;obtain⟨_,_,aq⟩:=d_lRight;have aV:=FX (P:=P) (w:=w) (base:=base) au aL T;have aW:=IJ J au Z.ex aV;have hV:=E3 (P:=P) (w:=w) (base:=base) af T Z.ex hd a5;have aX:=Hj ag J T Z.cs Z.I Z.nm.r Z.ex aW;have aY:=CV (P:=P) (w:=w) (base:=base) aa aE T Z.cs Z.I Z.nm.w Z.nm.s Z.nm.r Z.nm.n Z.ex Z.hK;have gW:∀ n:Nat,bX P w K mg base (dD P w) (n+5) _ _ ["told","deep"] (tE C CB n):=λn=>by
  induction n with
  |zero=>exact xT U af J ag aa Z.cs Z.I Z.nm Z.ex hV aW aX aY 0 rO
  |succ n ih=>exact xT U af J ag aa Z.cs Z.I Z.nm Z.ex hV aW aX aY (n+1) ih
 have gO:=By ab U av T Z.ex (gW 8) (yS av T Z.cs Z.MK 7)
 have aZ:=ud (P:=P) (w:=w) (base:=base) Z.cs Z.MW aM Z.nm hJ kJ Z.hE Z.hBE T 7
 have a7:=Jn (P:=P) (w:=w) (base:=base) aB aQ aO aR aS aN hJ kJ T
 have a0:=Eo (P:=P) (w:=w) (base:=base) ah aB a7 T
 have a8:=Dt (P:=P) (w:=w) (base:=base) ao ar (BX ar aI T)
 have a3:=FU ai ah (a0.mono (by decide)) ao (a8.mono (by decide)) ab gO Z.ex Z.bm Z.mB Z.rm Z.mR T hB a6 kB
 have a4:=Iv (P:=P) (w:=w) (base:=base) ae aU aT T
 have a9:=F9 ay ae a4 aH ax (Dx ax ak aC T) ak (yD ak aC) aw (HH aw aj) T
 have ba:=Cp aD ae a4 T
 have bb:=yU (P:=P) (w:=w) (base:=base) az aj T 7
 have bc:=EU aq T Z.cs Z.MW (λi=>(aZ i).mono (by decide)) Z.MT ay (a9.mono (by decide)) ai (a3.mono (by decide)) aD (ba.mono (by decide)) az (bb.mono (by decide)) aP;exact Dk D aA aF aJ aK aG ab aq ai aj Z.cs Z.MK Z.MW (λi=>(aZ i).mono (by decide)) Z.MT T gO (a3.mono (by decide)) bc
theorem Fy{f fa:JR}{oc kV doc pm cd ct:JT}{od an:JW JR}{sl:MM (JW JT)}(X:K.In h)(G:h.Ns Kc mg)(hfa:mg "law"=some (.ref fa))(a:Lx K Kc "law"=some (some (.ref f)))
  (l:K.lookup f=some ⟨oc,od,.func (Nk "law" "law" (i3 js) (iB js) (cG js) .none kV doc pm an cd ct),sl⟩)(c:N1 K cd "law"=true)(k:ME K (.ref f)=true)
  (ok:∀(fd:J2) (base:KP),Df K mg "law" js f fd->bX P w K mg base b7 18 f fd ["_law_script"] (nK K)):
  ∃ fd:J2,(∀(s:JZ) (v:JT),O1 s fd ⟨[v],[]⟩ [("_law_script",v)])/\∀ base:KP,K.In base->base.Ns Kc mg->bX P w K mg base b7 18 fa fd ["_law_script"] (nK K):=by
 have e:=hfa.symm.trans (LF X G a);cases e;exact⟨Nk "law" "law" (i3 js) (iB js) (cG js) .none kV doc pm an cd ct,λs v=> .of_eq rfl,λbase _ _=>ok _ base ⟨uQ l c k,LF X G a⟩⟩
end
theorem walk{l:W.OpenLaw}{q:Ka}{loose:JP Str}{XP:(Str->JW JT)->KP->Prop}{YP:Ku->KP->Prop}{d:DefRec}{K:Params->Kl}(hn:l.most=some 63)(hdf:d.params.defaults=[])
  (hY:∀(w:Ku) (h:KP),YP w h->(K w.params).In h)
  (F:∀(w:Ku) (mg:Str->JW JT) (fa:JR) (h:KP),(K w.params).In h->h.Ns Kc mg->mg d.name=some (.ref fa)->
   ∃ fd:J2,(∀(s:JZ) (u:JT),O1 s fd ⟨[u],[]⟩ [("_law_script",u)])/\∀ base:KP,(K w.params).In base->base.Ns Kc mg->bX l.prog w (K w.params) mg base b7 18 fa fd ["_law_script"] (nK (K w.params))):
  W.WalkO q loose XP YP l.row.toRowW d [] (λf vs=>PySem.call f vs):=
 D0 (n:=63) (k:=18) (x:="_law_script") (sp:=nK) hn (by decide) hdf ⟨rfl,by decide,by decide⟩ hY F λK H a ns J hb U=>⟨a,ns,rfl,U,J,λ_=>rfl⟩
end K13
open PySem PySem.W PyProof.Rows
set_option maxRecDepth 100000 in
set_option maxHeartbeats 0 in
theorem PySem.Challenge.cw_findhall_k13_asks_written_holds : PySem.Challenge.rw_findhall_k13_asks_written.Holds := by
 refine H13.head ?_
 k_fill
 refine K13.walk (l := PySem.Challenge.rw_findhall_k13_asks_written) rfl rfl (fun w h Y => PySem.W.kIn_of Y) ?F
 case F =>
  intro w mg fa h J G a3
  have hC : K13.uf (L2.cI J) mg := by
   dsimp only [L2.cI]
   refine' K13.F7 J G ?hGet ?hTak ?aw ?Cw ?hw ?nw ?mIw ?mTw ?mWw ?mKw ?as ?Cs ?hs ?ns ?mIs ?mTs ?mWs ?mKs ?ar ?Cr ?hr ?nr ?mIr ?mTr ?f9 ?mKr ?an ?Cn ?hn ?nn ?mIn ?mTn ?mWn ?mKn ?ab ?Cb ?hb ?nb ?mIb ?mTb ?mWb ?mKb ?ae ?Ce ?he ?ne ?mIe ?mTe ?mWe ?mKe ?ao ?Co ?ho ?no ?mIo ?mTo ?mWo ?mKo ?qLw ?qEw ?qBw ?qLs ?qEs ?qBs ?qLr ?qEr ?qBr ?qLn ?qEn ?qBn ?qLb ?qEb ?qBb ?qLe ?qEe ?qBe ?qLo ?qEo ?qBo ?aB ?xB ?aBk ?CBk ?nBnots ?nBbyand ?nBbyor ?mBk0 ?mBk1 ?mBk2 ?mBk3 ?mBk4 ?aRd ?CRd ?nDbrackets ?nDlast ?nDleaf ?nDfar ?mRd0 ?mRd1 ?mRd2 ?mRd3 ?mRd4 ?mRd5
   (case hGet => k_is)
   (case hTak => k_is)
   (case aw => k_is)
   (case Cw => refine' K13.jI ?ua1 ?ub1 ?uc1 ?ud1 ?ue1 ?uf1 <;> k_is)
   (case hw => refine' K13.mn ?ua2 ?ub2 <;> k_is)
   (case nw => refine' K13.mQ ?ua3 ?ub3 ?uc3 ?ud3 ?ue3 <;> k_is)
   (case mIw => refine' K13.dX ?ua4 ?ui4 ?ul4 ?uc4 ?uk4; (case ua4 => k_is); (case ui4 => k_is); (case ul4 => k_is); (case uc4 => k_is); (case uk4 => k_is))
   (case mTw => refine' K13.dX ?ua5 ?ui5 ?ul5 ?uc5 ?uk5; (case ua5 => k_is); (case ui5 => k_is); (case ul5 => k_is); (case uc5 => k_is); (case uk5 => k_is))
   (case mWw => refine' K13.dX ?ua6 ?ui6 ?ul6 ?uc6 ?uk6; (case ua6 => k_is); (case ui6 => k_is); (case ul6 => k_is); (case uc6 => k_is); (case uk6 => k_is))
   (case mKw => refine' K13.dX ?ua7 ?ui7 ?ul7 ?uc7 ?uk7; (case ua7 => k_is); (case ui7 => k_is); (case ul7 => k_is); (case uc7 => k_is); (case uk7 => k_is))
   (case as => k_is)
   (case Cs => refine' K13.jI ?ua8 ?ub8 ?uc8 ?ud8 ?ue8 ?uf8 <;> k_is)
   (case hs => refine' K13.mn ?ua9 ?ub9 <;> k_is)
   (case ns => refine' K13.mQ ?ua10 ?ub10 ?uc10 ?ud10 ?ue10 <;> k_is)
   (case mIs => refine' K13.dX ?ua11 ?ui11 ?ul11 ?uc11 ?uk11; (case ua11 => k_is); (case ui11 => k_is); (case ul11 => k_is); (case uc11 => k_is); (case uk11 => k_is))
   (case mTs => refine' K13.dX ?ua12 ?ui12 ?ul12 ?uc12 ?uk12; (case ua12 => k_is); (case ui12 => k_is); (case ul12 => k_is); (case uc12 => k_is); (case uk12 => k_is))
   (case mWs => refine' K13.dX ?ua13 ?ui13 ?ul13 ?uc13 ?uk13; (case ua13 => k_is); (case ui13 => k_is); (case ul13 => k_is); (case uc13 => k_is); (case uk13 => k_is))
   (case mKs => refine' K13.dX ?ua14 ?ui14 ?ul14 ?uc14 ?uk14; (case ua14 => k_is); (case ui14 => k_is); (case ul14 => k_is); (case uc14 => k_is); (case uk14 => k_is))
   (case ar => k_is)
   (case Cr => refine' K13.jI ?ua15 ?ub15 ?uc15 ?ud15 ?ue15 ?uf15 <;> k_is)
   (case hr => refine' K13.mn ?ua16 ?ub16 <;> k_is)
   (case nr => refine' K13.mQ ?ua17 ?ub17 ?uc17 ?ud17 ?ue17 <;> k_is)
   (case mIr => refine' K13.dX ?ua18 ?ui18 ?ul18 ?uc18 ?uk18; (case ua18 => k_is); (case ui18 => k_is); (case ul18 => k_is); (case uc18 => k_is); (case uk18 => k_is))
   (case mTr => refine' K13.dX ?ua19 ?ui19 ?ul19 ?uc19 ?uk19; (case ua19 => k_is); (case ui19 => k_is); (case ul19 => k_is); (case uc19 => k_is); (case uk19 => k_is))
   (case f9 => refine' K13.dX ?ua20 ?ui20 ?ul20 ?uc20 ?uk20; (case ua20 => k_is); (case ui20 => k_is); (case ul20 => k_is); (case uc20 => k_is); (case uk20 => k_is))
   (case mKr => refine' K13.dX ?ua21 ?ui21 ?ul21 ?uc21 ?uk21; (case ua21 => k_is); (case ui21 => k_is); (case ul21 => k_is); (case uc21 => k_is); (case uk21 => k_is))
   (case an => k_is)
   (case Cn => refine' K13.jI ?ua22 ?ub22 ?uc22 ?ud22 ?ue22 ?uf22 <;> k_is)
   (case hn => refine' K13.mn ?ua23 ?ub23 <;> k_is)
   (case nn => refine' K13.mQ ?ua24 ?ub24 ?uc24 ?ud24 ?ue24 <;> k_is)
   (case mIn => refine' K13.dX ?ua25 ?ui25 ?ul25 ?uc25 ?uk25; (case ua25 => k_is); (case ui25 => k_is); (case ul25 => k_is); (case uc25 => k_is); (case uk25 => k_is))
   (case mTn => refine' K13.dX ?ua26 ?ui26 ?ul26 ?uc26 ?uk26; (case ua26 => k_is); (case ui26 => k_is); (case ul26 => k_is); (case uc26 => k_is); (case uk26 => k_is))
   (case mWn => refine' K13.dX ?ua27 ?ui27 ?ul27 ?uc27 ?uk27; (case ua27 => k_is); (case ui27 => k_is); (case ul27 => k_is); (case uc27 => k_is); (case uk27 => k_is))
   (case mKn => refine' K13.dX ?ua28 ?ui28 ?ul28 ?uc28 ?uk28; (case ua28 => k_is); (case ui28 => k_is); (case ul28 => k_is); (case uc28 => k_is); (case uk28 => k_is))
   (case ab => k_is)
   (case Cb => refine' K13.jI ?ua29 ?ub29 ?uc29 ?ud29 ?ue29 ?uf29 <;> k_is)
   (case hb => refine' K13.mn ?ua30 ?ub30 <;> k_is)
   (case nb => refine' K13.mQ ?ua31 ?ub31 ?uc31 ?ud31 ?ue31 <;> k_is)
   (case mIb => refine' K13.dX ?ua32 ?ui32 ?ul32 ?uc32 ?uk32; (case ua32 => k_is); (case ui32 => k_is); (case ul32 => k_is); (case uc32 => k_is); (case uk32 => k_is))
   (case mTb => refine' K13.dX ?ua33 ?ui33 ?ul33 ?uc33 ?uk33; (case ua33 => k_is); (case ui33 => k_is); (case ul33 => k_is); (case uc33 => k_is); (case uk33 => k_is))
   (case mWb => refine' K13.dX ?ua34 ?ui34 ?ul34 ?uc34 ?uk34; (case ua34 => k_is); (case ui34 => k_is); (case ul34 => k_is); (case uc34 => k_is); (case uk34 => k_is))
   (case mKb => refine' K13.dX ?ua35 ?ui35 ?ul35 ?uc35 ?uk35; (case ua35 => k_is); (case ui35 => k_is); (case ul35 => k_is); (case uc35 => k_is); (case uk35 => k_is))
   (case ae => k_is)
   (case Ce => refine' K13.jI ?ua36 ?ub36 ?uc36 ?ud36 ?ue36 ?uf36 <;> k_is)
   (case he => refine' K13.mn ?ua37 ?ub37 <;> k_is)
   (case ne => refine' K13.mQ ?ua38 ?ub38 ?uc38 ?ud38 ?ue38 <;> k_is)
   (case mIe => refine' K13.dX ?ua39 ?ui39 ?ul39 ?uc39 ?uk39; (case ua39 => k_is); (case ui39 => k_is); (case ul39 => k_is); (case uc39 => k_is); (case uk39 => k_is))
   (case mTe => refine' K13.dX ?ua40 ?ui40 ?ul40 ?uc40 ?uk40; (case ua40 => k_is); (case ui40 => k_is); (case ul40 => k_is); (case uc40 => k_is); (case uk40 => k_is))
   (case mWe => refine' K13.dX ?ua41 ?ui41 ?ul41 ?uc41 ?uk41; (case ua41 => k_is); (case ui41 => k_is); (case ul41 => k_is); (case uc41 => k_is); (case uk41 => k_is))
   (case mKe => refine' K13.dX ?ua42 ?ui42 ?ul42 ?uc42 ?uk42; (case ua42 => k_is); (case ui42 => k_is); (case ul42 => k_is); (case uc42 => k_is); (case uk42 => k_is))
   (case ao => k_is)
   (case Co => refine' K13.jI ?ua43 ?ub43 ?uc43 ?ud43 ?ue43 ?uf43 <;> k_is)
   (case ho => refine' K13.mn ?ua44 ?ub44 <;> k_is)
   (case no => refine' K13.mQ ?ua45 ?ub45 ?uc45 ?ud45 ?ue45 <;> k_is)
   (case mIo => refine' K13.dX ?ua46 ?ui46 ?ul46 ?uc46 ?uk46; (case ua46 => k_is); (case ui46 => k_is); (case ul46 => k_is); (case uc46 => k_is); (case uk46 => k_is))
   (case mTo => refine' K13.dX ?ua47 ?ui47 ?ul47 ?uc47 ?uk47; (case ua47 => k_is); (case ui47 => k_is); (case ul47 => k_is); (case uc47 => k_is); (case uk47 => k_is))
   (case mWo => refine' K13.dX ?ua48 ?ui48 ?ul48 ?uc48 ?uk48; (case ua48 => k_is); (case ui48 => k_is); (case ul48 => k_is); (case uc48 => k_is); (case uk48 => k_is))
   (case mKo => refine' K13.dX ?ua49 ?ui49 ?ul49 ?uc49 ?uk49; (case ua49 => k_is); (case ui49 => k_is); (case ul49 => k_is); (case uc49 => k_is); (case uk49 => k_is))
   (case qLw => kit_is)
   (case qEw => kit_is)
   (case qBw => kit_is)
   (case qLs => kit_is)
   (case qEs => kit_is)
   (case qBs => kit_is)
   (case qLr => kit_is)
   (case qEr => kit_is)
   (case qBr => kit_is)
   (case qLn => kit_is)
   (case qEn => kit_is)
   (case qBn => kit_is)
   (case qLb => kit_is)
   (case qEb => kit_is)
   (case qBb => kit_is)
   (case qLe => kit_is)
   (case qEe => kit_is)
   (case qBe => kit_is)
   (case qLo => kit_is)
   (case qEo => kit_is)
   (case qBo => kit_is)
   (case aB => k_is)
   (case xB => k_exc)
   (case aBk => k_is)
   (case CBk => refine' K13.jI ?ua50 ?ub50 ?uc50 ?ud50 ?ue50 ?uf50 <;> k_is)
   (case nBnots => k_is)
   (case nBbyand => k_is)
   (case nBbyor => k_is)
   (case mBk0 => refine' K13.dX ?ua51 ?ui51 ?ul51 ?uc51 ?uk51; (case ua51 => k_is); (case ui51 => k_is); (case ul51 => k_is); (case uc51 => k_is); (case uk51 => k_is))
   (case mBk1 => refine' K13.dX ?ua52 ?ui52 ?ul52 ?uc52 ?uk52; (case ua52 => k_is); (case ui52 => k_is); (case ul52 => k_is); (case uc52 => k_is); (case uk52 => k_is))
   (case mBk2 => refine' K13.dX ?ua53 ?ui53 ?ul53 ?uc53 ?uk53; (case ua53 => k_is); (case ui53 => k_is); (case ul53 => k_is); (case uc53 => k_is); (case uk53 => k_is))
   (case mBk3 => refine' K13.dX ?ua54 ?ui54 ?ul54 ?uc54 ?uk54; (case ua54 => k_is); (case ui54 => k_is); (case ul54 => k_is); (case uc54 => k_is); (case uk54 => k_is))
   (case mBk4 => refine' K13.dX ?ua55 ?ui55 ?ul55 ?uc55 ?uk55; (case ua55 => k_is); (case ui55 => k_is); (case ul55 => k_is); (case uc55 => k_is); (case uk55 => k_is))
   (case aRd => k_is)
   (case CRd => refine' K13.jI ?ua56 ?ub56 ?uc56 ?ud56 ?ue56 ?uf56 <;> k_is)
   (case nDbrackets => k_is)
   (case nDlast => k_is)
   (case nDleaf => k_is)
   (case nDfar => k_is)
   (case mRd0 => refine' K13.dX ?ua57 ?ui57 ?ul57 ?uc57 ?uk57; (case ua57 => k_is); (case ui57 => k_is); (case ul57 => k_is); (case uc57 => k_is); (case uk57 => k_is))
   (case mRd1 => refine' K13.dX ?ua58 ?ui58 ?ul58 ?uc58 ?uk58; (case ua58 => k_is); (case ui58 => k_is); (case ul58 => k_is); (case uc58 => k_is); (case uk58 => k_is))
   (case mRd2 => refine' K13.dX ?ua59 ?ui59 ?ul59 ?uc59 ?uk59; (case ua59 => k_is); (case ui59 => k_is); (case ul59 => k_is); (case uc59 => k_is); (case uk59 => k_is))
   (case mRd3 => refine' K13.dX ?ua60 ?ui60 ?ul60 ?uc60 ?uk60; (case ua60 => k_is); (case ui60 => k_is); (case ul60 => k_is); (case uc60 => k_is); (case uk60 => k_is))
   (case mRd4 => refine' K13.dX ?ua61 ?ui61 ?ul61 ?uc61 ?uk61; (case ua61 => k_is); (case ui61 => k_is); (case ul61 => k_is); (case uc61 => k_is); (case uk61 => k_is))
   (case mRd5 => refine' K13.dX ?ua62 ?ui62 ?ul62 ?uc62 ?uk62; (case ua62 => k_is); (case ui62 => k_is); (case ul62 => k_is); (case uc62 => k_is); (case uk62 => k_is))
  have T : K13.Txt mg := by
   refine' K13.EX J G ?n0 ?n1 ?n2 ?n3 ?n4 ?n5 ?n6 ?n7 ?n8 ?n9 ?n10 ?n11 ?c0 ?c1 ?c2 ?c3 ?c4 ?c5 ?c6 ?c7 ?c8 ?c9
   (case n0 => k_is)
   (case n1 => k_is)
   (case n2 => k_is)
   (case n3 => k_is)
   (case n4 => k_is)
   (case n5 => k_is)
   (case n6 => k_is)
   (case n7 => k_is)
   (case n8 => k_is)
   (case n9 => k_is)
   (case n10 => k_is)
   (case n11 => k_is)
   (case c0 => k_is)
   (case c1 => k_is)
   (case c2 => k_is)
   (case c3 => k_is)
   (case c4 => k_is)
   (case c5 => k_is)
   (case c6 => k_is)
   (case c7 => k_is)
   (case c8 => k_is)
   (case c9 => k_is)
  have KL : ∃ d, mg "TOLD_LENGTHS" = some (.ref d) /\ L2.KD PySem.Challenge.rw_findhall_k13_asks_written.prog w (L2.cI J) d K13.gb := by
   dsimp only [L2.cI]
   refine' K13.HJ _ J G ?a ?ns ?l
   (case a => k_is)
   (case ns => decide)
   (case l => k_is)
  have KB : ∃ d j, mg "BEHIND" = some (.ref d) /\ L2.KD PySem.Challenge.rw_findhall_k13_asks_written.prog w (L2.cI J) d (K13.nJ j) /\ ∀ k, k ≠ .stop -> ∀ H, L2.cu (L2.cI J) H (j k) (K13.jN k) := by
   dsimp only [L2.cI]
   refine' K13.C0 _ J G ?a ?ns ?l ?l0 ?l1 ?l2 ?l3 ?l4 ?l5 ?l6 ?l7
   (case a => k_is)
   (case ns => decide)
   (case l => k_is)
   (case l0 => k_is); (case l1 => k_is); (case l2 => k_is); (case l3 => k_is); (case l4 => k_is); (case l5 => k_is); (case l6 => k_is); (case l7 => k_is)
  have KJ : ∃ j, mg "JOINING" = some (.ref j) /\ ∀ H, L2.cu (L2.cI J) H j K13.gR := by
   dsimp only [L2.cI]
   refine' K13.Ei J G ?a ?l
   (case a => k_is)
   (case l => k_is)
  have af : ∃ f fd, Gn.Df (L2.cI J) mg "is_whole" K13.pE f fd := by
   dsimp only [L2.cI]
   refine' Gn.dR J G ?a ?l ?c ?k
   (case a => k_is); (case l => k_is); (case c => k_is); (case k => k_is)
  have ay : ∃ f fd, Gn.Df (L2.cI J) mg "is_text_sign" K13.qf f fd := by
   dsimp only [L2.cI]
   refine' Gn.dR J G ?a ?l ?c ?k
   (case a => k_is); (case l => k_is); (case c => k_is); (case k => k_is)
  have az : ∃ f fd, Gn.Df (L2.cI J) mg "is_text" K13.nU f fd := by
   dsimp only [L2.cI]
   refine' Gn.dR J G ?a ?l ?c ?k
   (case a => k_is); (case l => k_is); (case c => k_is); (case k => k_is)
  have aO : ∃ f fd, Gn.Df (L2.cI J) mg "is_small_row" K13.nS f fd := by
   dsimp only [L2.cI]
   refine' Gn.dR J G ?a ?l ?c ?k
   (case a => k_is); (case l => k_is); (case c => k_is); (case k => k_is)
  have ag : ∃ f fd, Gn.Df (L2.cI J) mg "need_text" K13.qO f fd := by
   dsimp only [L2.cI]
   refine' Gn.dR J G ?a ?l ?c ?k
   (case a => k_is); (case l => k_is); (case c => k_is); (case k => k_is)
  have aA : ∃ f fd, Gn.Df (L2.cI J) mg "is_word" K13.pL f fd := by
   dsimp only [L2.cI]
   refine' Gn.dR J G ?a ?l ?c ?k
   (case a => k_is); (case l => k_is); (case c => k_is); (case k => k_is)
  have aP : ∃ f fd, Gn.Df (L2.cI J) mg "in_brackets" K13.iD f fd := by
   dsimp only [L2.cI]
   refine' Gn.dR J G ?a ?l ?c ?k
   (case a => k_is); (case l => k_is); (case c => k_is); (case k => k_is)
  have aC : ∃ f fd, Gn.Df (L2.cI J) mg "need_name" K13.qu f fd := by
   dsimp only [L2.cI]
   refine' Gn.dR J G ?a ?l ?c ?k
   (case a => k_is); (case l => k_is); (case c => k_is); (case k => k_is)
  have ah : ∃ f fd, Gn.Df (L2.cI J) mg "asked_word" K13.nP f fd := by
   dsimp only [L2.cI]
   refine' Gn.dR J G ?a ?l ?c ?k
   (case a => k_is); (case l => k_is); (case c => k_is); (case k => k_is)
  have aD : ∃ f fd, Gn.Df (L2.cI J) mg "asked_row" K13.oY f fd := by
   dsimp only [L2.cI]
   refine' Gn.dR J G ?a ?l ?c ?k
   (case a => k_is); (case l => k_is); (case c => k_is); (case k => k_is)
  have ai : ∃ f fd, Gn.Df (L2.cI J) mg "asked_near" K13.qg f fd := by
   dsimp only [L2.cI]
   refine' Gn.dR J G ?a ?l ?c ?k
   (case a => k_is); (case l => k_is); (case c => k_is); (case k => k_is)
  have U : ∃ f fd, Gn.Df (L2.cI J) mg "ask_within" K13.pS f fd := by
   dsimp only [L2.cI]
   refine' Gn.dR J G ?a ?l ?c ?k
   (case a => k_is); (case l => k_is); (case c => k_is); (case k => k_is)
  have aE : ∃ f fd, Gn.Df (L2.cI J) mg "many_in" K13.lO f fd := by
   dsimp only [L2.cI]
   refine' Gn.dR J G ?a ?l ?c ?k
   (case a => k_is); (case l => k_is); (case c => k_is); (case k => k_is)
  have aj : ∃ f fd, Gn.Df (L2.cI J) mg "ask_of" K13.nz f fd := by
   dsimp only [L2.cI]
   refine' Gn.dR J G ?a ?l ?c ?k
   (case a => k_is); (case l => k_is); (case c => k_is); (case k => k_is)
  have aQ : ∃ f fd, Gn.Df (L2.cI J) mg "no_piece" K13.lL f fd := by
   dsimp only [L2.cI]
   refine' Gn.dR J G ?a ?l ?c ?k
   (case a => k_is); (case l => k_is); (case c => k_is); (case k => k_is)
  have aR : ∃ f fd, Gn.Df (L2.cI J) mg "end_of_row" K13.mz f fd := by
   dsimp only [L2.cI]
   refine' Gn.dR J G ?a ?l ?c ?k
   (case a => k_is); (case l => k_is); (case c => k_is); (case k => k_is)
  have aW : ∃ f fd, Gn.Df (L2.cI J) mg "word_piece" K13.pN f fd := by
   dsimp only [L2.cI]
   refine' Gn.dR J G ?a ?l ?c ?k
   (case a => k_is); (case l => k_is); (case c => k_is); (case k => k_is)
  have aX : ∃ f fd, Gn.Df (L2.cI J) mg "far_piece" K13.p5 f fd := by
   dsimp only [L2.cI]
   refine' Gn.dR J G ?a ?l ?c ?k
   (case a => k_is); (case l => k_is); (case c => k_is); (case k => k_is)
  have aY : ∃ f fd, Gn.Df (L2.cI J) mg "marked_piece" K13.nC f fd := by
   dsimp only [L2.cI]
   refine' Gn.dR J G ?a ?l ?c ?k
   (case a => k_is); (case l => k_is); (case c => k_is); (case k => k_is)
  have aS : ∃ f fd, Gn.Df (L2.cI J) mg "piece_at" K13.qE f fd := by
   dsimp only [L2.cI]
   refine' Gn.dR J G ?a ?l ?c ?k
   (case a => k_is); (case l => k_is); (case c => k_is); (case k => k_is)
  have I : ∃ f fd, Gn.Df (L2.cI J) mg "parted" K13.qP f fd := by
   dsimp only [L2.cI]
   refine' Gn.dR J G ?a ?l ?c ?k
   (case a => k_is); (case l => k_is); (case c => k_is); (case k => k_is)
  have aF : ∃ f fd, Gn.Df (L2.cI J) mg "read_ask" K13.nV f fd := by
   dsimp only [L2.cI]
   refine' Gn.dR J G ?a ?l ?c ?k
   (case a => k_is); (case l => k_is); (case c => k_is); (case k => k_is)
  have ak : ∃ f fd, Gn.Df (L2.cI J) mg "_law_mixed" K13.ju f fd := by
   dsimp only [L2.cI]
   refine' Gn.dR J G ?a ?l ?c ?k
   (case a => k_is); (case l => k_is); (case c => k_is); (case k => k_is)
  have aa : ∃ f fd, Gn.Df (L2.cI J) mg "_law_number" K13.lX f fd := by
   dsimp only [L2.cI]
   refine' Gn.dR J G ?a ?l ?c ?k
   (case a => k_is); (case l => k_is); (case c => k_is); (case k => k_is)
  have aG : ∃ f fd, Gn.Df (L2.cI J) mg "_law_menu" K13.lT f fd := by
   dsimp only [L2.cI]
   refine' Gn.dR J G ?a ?l ?c ?k
   (case a => k_is); (case l => k_is); (case c => k_is); (case k => k_is)
  have aq : ∃ f fd, Gn.Df (L2.cI J) mg "_law_plain" K13.kX f fd := by
   dsimp only [L2.cI]
   refine' Gn.dR J G ?a ?l ?c ?k
   (case a => k_is); (case l => k_is); (case c => k_is); (case k => k_is)
  have aH : ∃ f fd, Gn.Df (L2.cI J) mg "_law_tree" K13.nL f fd := by
   dsimp only [L2.cI]
   refine' Gn.dR J G ?a ?l ?c ?k
   (case a => k_is); (case l => k_is); (case c => k_is); (case k => k_is)
  have aI : ∃ f fd, Gn.Df (L2.cI J) mg "_law_kids" K13.kT f fd := by
   dsimp only [L2.cI]
   refine' Gn.dR J G ?a ?l ?c ?k
   (case a => k_is); (case l => k_is); (case c => k_is); (case k => k_is)
  have aZ : ∃ f fd, Gn.Df (L2.cI J) mg "_law_sign_kind" K13.oE f fd := by
   dsimp only [L2.cI]
   refine' Gn.dR J G ?a ?l ?c ?k
   (case a => k_is); (case l => k_is); (case c => k_is); (case k => k_is)
  have a0 : ∃ f fd, Gn.Df (L2.cI J) mg "_law_row_piece" K13.nN f fd := by
   dsimp only [L2.cI]
   refine' Gn.dR J G ?a ?l ?c ?k
   (case a => k_is); (case l => k_is); (case c => k_is); (case k => k_is)
  have au : ∃ f fd, Gn.Df (L2.cI J) mg "_law_piece" K13.md f fd := by
   dsimp only [L2.cI]
   refine' Gn.dR J G ?a ?l ?c ?k
   (case a => k_is); (case l => k_is); (case c => k_is); (case k => k_is)
  have aT : ∃ f fd, Gn.Df (L2.cI J) mg "_law_put" K13.ph f fd := by
   dsimp only [L2.cI]
   refine' Gn.dR J G ?a ?l ?c ?k
   (case a => k_is); (case l => k_is); (case c => k_is); (case k => k_is)
  have aJ : ∃ f fd, Gn.Df (L2.cI J) mg "_law_put_all" K13.mY f fd := by
   dsimp only [L2.cI]
   refine' Gn.dR J G ?a ?l ?c ?k
   (case a => k_is); (case l => k_is); (case c => k_is); (case k => k_is)
  have aK : ∃ f fd, Gn.Df (L2.cI J) mg "_law_fits" K13.nF f fd := by
   dsimp only [L2.cI]
   refine' Gn.dR J G ?a ?l ?c ?k
   (case a => k_is); (case l => k_is); (case c => k_is); (case k => k_is)
  have av : ∃ f fd, Gn.Df (L2.cI J) mg "_law_first" K13.qH f fd := by
   dsimp only [L2.cI]
   refine' Gn.dR J G ?a ?l ?c ?k
   (case a => k_is); (case l => k_is); (case c => k_is); (case k => k_is)
  have aL : ∃ f fd, Gn.Df (L2.cI J) mg "_law_joined" K13.pT f fd := by
   dsimp only [L2.cI]
   refine' Gn.dR J G ?a ?l ?c ?k
   (case a => k_is); (case l => k_is); (case c => k_is); (case k => k_is)
  have aM : ∃ f fd, Gn.Df (L2.cI J) mg "_law_read" K13.pJ f fd := by
   dsimp only [L2.cI]
   refine' Gn.dR J G ?a ?l ?c ?k
   (case a => k_is); (case l => k_is); (case c => k_is); (case k => k_is)
  have aU : ∃ f fd, Gn.Df (L2.cI J) mg "_law_brackets" K13.qa f fd := by
   dsimp only [L2.cI]
   refine' Gn.dR J G ?a ?l ?c ?k
   (case a => k_is); (case l => k_is); (case c => k_is); (case k => k_is)
  have aN : ∃ f fd, Gn.Df (L2.cI J) mg "_law_ands" K13.ng f fd := by
   dsimp only [L2.cI]
   refine' Gn.dR J G ?a ?l ?c ?k
   (case a => k_is); (case l => k_is); (case c => k_is); (case k => k_is)
  have aV : ∃ f fd, Gn.Df (L2.cI J) mg "_law_words_of" K13.qx f fd := by
   dsimp only [L2.cI]
   refine' Gn.dR J G ?a ?l ?c ?k
   (case a => k_is); (case l => k_is); (case c => k_is); (case k => k_is)
  have ax : ∃ f fd, Gn.Df (L2.cI J) mg "_law_right" K13.qN f fd := by
   dsimp only [L2.cI]
   refine' Gn.dR J G ?a ?l ?c ?k
   (case a => k_is); (case l => k_is); (case c => k_is); (case k => k_is)
  refine' K13.Fy J G a3 ?a ?l ?c ?k fun fd base D => K13.CY T hC KL KB KJ af ay az aO ag aA aP aC ah aD ai U aE aj aQ aR aW aX aY aS I aF ak aa aG aq aH aI aZ a0 au aT aJ aK av aL aM aU aN aV ax D
  (case a => k_is); (case l => k_is); (case c => k_is); (case k => k_is)
